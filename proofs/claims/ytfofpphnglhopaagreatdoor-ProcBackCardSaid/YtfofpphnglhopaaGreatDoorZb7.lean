/-
  A part. Conditions: each theorem's own.
-/
import Derived.OwnWalk
import Derived.WalkSpells
import Derived.Lib.SliceRun
import Derived.Defers
import Derived.Recover
import Derived.Laws.EntriesVeiled
import Derived.BigFrame
import Derived.Deep.Cut
import Derived.Deep.DeepCutAuto
import Derived.Shelf.Abstract
import Derived.Test.YtfofpphnglhopaaGreatDoorZb1
import Derived.Test.YtfofpphnglhopaaGreatDoorZb6
set_option maxHeartbeats 8000000
set_option maxRecDepth 100000
namespace Go.Proofs.YtfofpphnglhopaaGreatDoor
open Go Go.RowKit Go.ChangeMaps
def LogB (w : World) (g : Nat) : Prop := ∃ cur t f, w.heap[g]? = some (.cells cur t f) ∧ LogT t
open Classical in
noncomputable def cutL {L : Type} (w : World) (free : L) (lab : Nat → L) (g : Nat) : L := if LogB w g then free else lab g
section
variable {w : World}
theorem cutL_not {L : Type} {free : L} {lab : Nat → L} {g : Nat} (h : ¬ LogB w g) : cutL w free lab g = lab g := if_neg h
theorem cutL_yes {L : Type} {free : L} {lab : Nat → L} {g : Nat} (h : LogB w g) : cutL w free lab g = free := if_pos h
theorem cutL_free {L : Type} {free : L} {lab : Nat → L} {g : Nat} : cutL w free lab g ≠ free ↔ lab g ≠ free ∧ ¬ LogB w g := by
  by_cases h : LogB w g
  · rw [cutL_yes h]; exact ⟨fun k => absurd rfl k, fun k => absurd h k.2⟩
  · rw [cutL_not h]; exact ⟨fun k => ⟨k, h⟩, fun k => k.1⟩
theorem Blk.noLog {b : Nat} {cur : List Value} {t : TypeId} (h : Blk w b cur t) (ht : ¬ LogT t) : ¬ LogB w b := fun ⟨_, _, _, h1, h2⟩ => by
  have := h.symm.trans h1
  simp only [Option.some.injEq, Obj.cells.injEq] at this
  rw [← this.2.1] at h2
  exact ht h2
theorem Row.noLog {B : Nat} {e : TypeId} {v : Value} {n : Nat} {xs : List Value} (h : Row w B e v n xs) (ht : ¬ LogT e) {g : Nat} (hg : v.ownBlock = some g) : ¬ LogB w g := by
  obtain ⟨_, _, cur, hb⟩ := h.lt hg
  exact hb.noLog ht
theorem RowM.noLog {e : TypeId} {v : Value} {n : Nat} {xs : List Value} (h : RowM w e v n xs) (ht : ¬ LogT e) {g : Nat} (hg : v.ownBlock = some g) : ¬ LogB w g := by
  rcases h with ⟨rfl, _⟩ | ⟨g', off, cap, cur, rfl, hb, _⟩
  · cases hg
  · cases hg
    obtain ⟨f, _, hb⟩ := hb
    rintro ⟨_, _, _, h1, h2⟩
    have := hb.symm.trans h1
    simp only [Option.some.injEq, Obj.cells.injEq] at this
    rw [← this.2.1] at h2
    exact ht h2
theorem KMap.noLog {κ : Type} {b : Nat} {d : TypeDesc} {enc : κ → Value} {l : List (κ × Value)} (h : KMap w b d enc l) : ¬ LogB w b := fun ⟨_, _, _, h1, _⟩ => h.no_cells h1
theorem nl_u8 : ¬ LogT 5 := by unfold LogT; decide
theorem nl_rows : ¬ LogT 153 := by unfold LogT; decide
theorem nl_int : ¬ LogT 3 := by unfold LogT; decide
theorem nl_fs : ¬ LogT 176 := by unfold LogT; decide
theorem nl_body : ¬ LogT 156 := by unfold LogT; decide
theorem nl_pool : ¬ LogT 173 := by unfold LogT; decide
theorem nl_buf : ¬ LogT 232 := by unfold LogT; decide
theorem nl_tab : ¬ LogT 142 := by unfold LogT; decide
theorem nl_hnd : ¬ LogT 148 := by unfold LogT; decide
theorem nl_file : ¬ LogT 162 := by unfold LogT; decide
theorem nl_text : ¬ LogT 197 := by unfold LogT; decide
theorem nl_sink : ¬ LogT 200 := by unfold LogT; decide
theorem nl_pipe : ¬ LogT 167 := by unfold LogT; decide
theorem TreeF.shrink {F : Nat → Prop} {fb most room : Nat} {nds : Nds} (h : TreeF w F fb most room nds) : TreeF w (fun g => F g ∧ ¬ LogB w g) fb most room nds := by
  obtain ⟨lab, mb, mem, h, hF⟩ := h
  refine ⟨cutL w .free lab, mb, mem, ⟨h.fs, (cutL_not (h.fs.noLog nl_fs)).trans h.lfs, h.map, (cutL_not h.map.noLog).trans h.lmap, fun k x hx => ?_, fun g hg => ?_, h.lim⟩, fun g => by show F g ∧ ¬ LogB w g ↔ _; rw [hF]; exact cutL_free.symm⟩
  · have hN := h.nd k x hx
    exact ⟨hN.blk, (cutL_not (hN.blk.noLog nl_body)).trans hN.lb, hN.data, fun g hg => (cutL_not (hN.data.noLog nl_u8 hg)).trans (hN.dl g hg), hN.few, hN.nil, fun l hl => by
      obtain ⟨nb, h1, h2, h3⟩ := hN.nms l hl
      exact ⟨nb, h1, (cutL_not h3.noLog).trans h2, h3⟩⟩
  · by_cases hb : LogB w g
    · exact cutL_yes hb
    · exact (cutL_not hb).trans (h.new g hg)
theorem AllF.shrink {F : Nat → Prop} {pb q M C tot : Nat} {es : List Ent} (h : AllF w F pb q M C es tot) : AllF w (fun g => F g ∧ ¬ LogB w g) pb q M C es tot := by
  obtain ⟨B, lab, S, sp, h, hF⟩ := h
  refine ⟨B, cutL w .free lab, S, sp, ⟨?_, fun g hg => ?_, fun k e he => ?_, h.few, h.long, h.par, h.hq, h.base⟩, fun g => by show F g ∧ ¬ LogB w g ↔ _; rw [hF]; exact cutL_free.symm⟩
  · have hP := h.pool
    exact ⟨hP.blk, hP.low, (cutL_not (hP.blk.noLog nl_pool)).trans hP.lb, hP.arr, fun g hg => (cutL_not (hP.arr.noLog nl_rows hg)).trans (hP.arl g hg), hP.str, fun v hv g hg => by
      obtain ⟨bs, hr⟩ := hP.str v hv
      exact (cutL_not (hr.noLog nl_u8 hg)).trans (hP.stl v hv g hg), hP.nd⟩
  · by_cases hb : LogB w g
    · exact cutL_yes hb
    · exact (cutL_not hb).trans (h.new g hg)
  · have hE := h.ent k e he
    obtain ⟨bb, o⟩ := e
    cases o with
    | none => exact ⟨hE.1, (cutL_not (Blk.noLog hE.1 nl_buf)).trans hE.2.1, hE.2.2⟩
    | some b =>
      obtain ⟨hblk, hR⟩ := hE
      refine ⟨hblk, { hR with lb := (cutL_not (hblk.noLog nl_buf)).trans hR.lb, ml := fun hg g hgg => (cutL_not ((hR.mm hg).noLog nl_u8 hgg)).trans (hR.ml hg g hgg), arl := fun g hg => (cutL_not (hR.arr.noLog nl_rows hg)).trans (hR.arl g hg), stl := fun v hv g hg => ?_ }⟩
      obtain ⟨i, hi, rfl⟩ := List.getElem_of_mem hv
      exact (cutL_not ((hR.str i _ (List.getElem?_eq_getElem hi)).noLog nl_u8 hg)).trans (hR.stl _ hv g hg)
theorem ObjAt.shrink {lab : Nat → HL} {fb np : Nat} {k : Int} {M : HM} {kd : Kd} (h : ObjAt w lab fb np k M kd) : ObjAt w (cutL w .free lab) fb np k M kd := by
  cases kd with
  | file n a r wr m => exact ⟨h.1, (cutL_not (Blk.noLog h.1 nl_file)).trans h.2⟩
  | text T a => exact ⟨h.1, (cutL_not (Blk.noLog h.1 nl_text)).trans h.2.1, h.2.2⟩
  | sink l m => exact ⟨h.1, (cutL_not (Blk.noLog h.1 nl_sink)).trans h.2.1, h.2.2.1, fun g hg => (cutL_not (RowM.noLog h.2.2.1 nl_u8 hg)).trans (h.2.2.2.1 g hg), h.2.2.2.2⟩
  | rd p => exact h
  | wr p => exact h
theorem TabF.shrink {F : Nat → Prop} {fb plb tb top : Nat} {hs : Hs} {pp : Pps} {xs : List Int} (h : TabF w F fb plb tb hs pp top xs) : TabF w (fun g => F g ∧ ¬ LogB w g) fb plb tb hs pp top xs := by
  obtain ⟨lab, mb, mem, v, h, hF⟩ := h
  refine ⟨cutL w .free lab, mb, mem, v, ⟨h.num, (cutL_not (h.num.at_.blk.noLog nl_tab)).trans h.ltb, fun g hg => (cutL_not (h.num.at_.row.noLog nl_int hg)).trans (h.lbk g hg), h.map, (cutL_not h.map.noLog).trans h.lmap, fun k x hx => ?_, fun p pb bb ends hp => ?_, fun g hg => ?_⟩, fun g => by show F g ∧ ¬ LogB w g ↔ _; rw [hF]; exact cutL_free.symm⟩
  · have hH := h.hd k x hx
    exact ⟨hH.blk, (cutL_not (hH.blk.noLog nl_hnd)).trans hH.lb, hH.ob.shrink⟩
  · obtain ⟨h1, h2⟩ := h.pi p pb bb ends hp
    exact ⟨h1, (cutL_not (h1.noLog nl_pipe)).trans h2⟩
  · by_cases hb : LogB w g
    · exact cutL_yes hb
    · exact (cutL_not hb).trans (h.new g hg)
theorem Sys.shrink {F : Nat → Prop} {c : Sy} {s : St} (h : Sys w F c s) : Sys w (fun g => F g ∧ ¬ LogB w g) c s := by
  obtain ⟨Ft, Fp, Fh, h, hF⟩ := h
  refine ⟨_, _, _, ⟨h.tree.shrink, h.pool.shrink, h.tab.shrink, fun g h1 h2 => h.tp g h1.1 h2.1, fun g h1 h2 => h.th g h1.1 h2.1, fun g h1 h2 => h.ph g h1.1 h2.1⟩, fun g => ?_⟩
  show F g ∧ ¬ LogB w g ↔ _
  rw [hF]
  constructor
  · rintro ⟨h1 | h1 | h1, h2⟩
    · exact .inl ⟨h1, h2⟩
    · exact .inr (.inl ⟨h1, h2⟩)
    · exact .inr (.inr ⟨h1, h2⟩)
  · rintro (h1 | h1 | h1)
    · exact ⟨.inl h1.1, h1.2⟩
    · exact ⟨.inr (.inl h1.1), h1.2⟩
    · exact ⟨.inr (.inr h1.1), h1.2⟩
end
theorem infoFn : (Tryz.prog.info? 1).map (fun i => (i.zero, i.size, i.bytes)) = some (some .nilFunc, 1, 8) := by kernel_rfl
theorem infoMk : (Tryz.prog.info? 220).map (fun i => (i.zero, i.size, i.bytes)) = some (some (.pointer none), 1, 8) := by kernel_rfl
theorem fn_eql_nil (k : Nat) (cap : Array Value) (w : World) : (binOp BinOp.eql 1 (.func (.func k) #[] cap) .nilFunc).run Tryz.prog w = .ok (.bool false) w := by kernel_rfl
theorem set3L (most nest : Nat) (mv nv nv' : Value) (c : Nat) : (logC most nest mv nv c).set 3 nv' = logC most nest mv nv' c := rfl
theorem set4L (most nest : Nat) (mv nv : Value) (c c' : Nat) : (logC most nest mv nv c).set 4 (.int .i64 (c' : Int)) = logC most nest mv nv c' := rfl
theorem set2L (most nest : Nat) (mv mv' nv : Value) (c : Nat) : (logC most nest mv nv c).set 2 mv' = logC most nest mv' nv c := rfl
section
variable {w w' : World} {B lb most nest c : Nat} {mv nv : Value} {ms : List Mk} {fs : List Value}
theorem LogNote_full (back : Value) (h : LogAt w B lb most nest ms fs c) (hE : refE most ms c = 43) :
    Calls Tryz.prog 129 #[ptrV lb, back] w fun e w' => e = .returned (.int .i64 43) ∧ ∃ n, w' = w.drewN n := by
  have hr := refusal_any h
  rw [hE] at hr
  unfold ptrV at hr ⊢
  clear h hE
  go_enter Tryz.func129, Tryz.ntmps129
  go_wp2_with fail
  refine hr.mono ?_
  rintro e w' ⟨rfl, n, rfl⟩
  go_wp2
  go_ret
  exact ⟨rfl, _, rfl⟩
theorem LogNote_add (k : Nat) (cap : Array Value) (h : LogAt w B lb most nest ms fs c) (hms : ms ≠ []) (hcm : c < most) (hBw : B ≤ w.heap.size) :
    Calls Tryz.prog 129 #[ptrV lb, .func (.func k) #[] cap] w fun e w' => e = .returned (.int .i64 0) ∧ LogAt w' B lb most nest ms (fs ++ [.func (.func k) #[] cap]) (c + 1) ∧ Fr B LogT (fun _ => False) w w' := by
  have hr := refusal_any h
  rw [show refE most ms c = 0 from if_neg (by omega)] at hr
  have hK0 : 0 < ms.length := by cases ms with | nil => exact absurd rfl hms | cons => simp
  replace h : ∀ n, LogAt (w.drewN n) B lb most nest ms fs c := fun n => h.keep (KeepL.drewN w n)
  have hnn := fn_eql_nil k cap
  obtain ⟨i0, hi, hz0, hz1, hz2⟩ := info_parts infoFn
  unfold ptrV at hr ⊢
  replace h := Lib.hid h
  clear hms
  go_enter Tryz.func129, Tryz.ntmps129
  go_wp2_with fail
  refine hr.mono ?_
  rintro e w1 ⟨rfl, n, hw1⟩
  obtain ⟨mv, nv, h1⟩ := h.out n
  have hf1 : Fr B LogT (fun _ => False) w (w.drewN n) := Fr.drewN _ _ _ _ _
  have hBw1 : B ≤ (w.drewN n).heap.size := hBw
  rw [← hw1] at h1 hf1 hBw1
  clear hw1 hr h hBw
  obtain ⟨A, cc, rfl, hc, hcm1⟩ := h1.mrow.form
  obtain ⟨A2, cc2, rfl, hc2, hcm2⟩ := h1.nrow.form
  have c2 := h1.blk.cell (i := 2) rfl
  have c3 := h1.blk.cell (i := 3) rfl
  have c4 := h1.blk.cell (i := 4) rfl
  have f3 := h1.blk.frozen 3
  have hlt := h1.blk.lt
  have hml := h1.most2
  have hcp := h1.cp
  have hfc := h1.fc
  have hL1 := h1
  obtain ⟨KM, hKM⟩ : ∃ K, ms.length = K := ⟨_, rfl⟩
  obtain ⟨KF, hKF⟩ : ∃ K, fs.length = K := ⟨_, rfl⟩
  rw [hKM] at c2 hc hK0
  rw [hKF] at c3 hc2 hfc
  have hd : decide (0 < KM) = true := by simpa using hK0
  replace hKM := Lib.hid hKM
  -- the row of notes
  have hb2 : Blk (w1.alloc (.cells #[.func (.func k) #[] cap] 1)) w1.heap.size [.func (.func k) #[] cap] 1 := Blk.new w1 _ _
  have hL2 := hL1.keep (KeepL.alloc w1 (.cells #[.func (.func k) #[] cap] 1))
  obtain ⟨nv', w3, hrun, hrow, hst, how⟩ := run_append_rowS (P := Tryz.prog) (w1.alloc (.cells #[.func (.func k) #[] cap] 1)) B 119 119 119 1 i0 _ Tryz.underlying119 hi hz0 hz1 rfl (.slice A2 fs.length cc2) fs.length fs hL2.nrow (.slice (some ⟨w1.heap.size, 0, none⟩) 1 1) 1 [.func (.func k) #[] cap]
    (Src.ofSlice _ Tryz.underlying119 _ 1 1 _ rfl (fun j u hu => by rw [add_plain0, Nat.zero_add]; exact hb2.cell hu) (by simp [Value.oneCell'])) (by rw [hz2, hKF]; omega) (by rw [hKF]; omega) (by simp; omega)
  rw [hKF] at hrun hrow hst how
  obtain ⟨A3, cc3, rfl, hc3, hcm3⟩ := hrow.form
  have hne : ∀ g, (Value.slice A2 KF cc2).ownBlock = some g → g ≠ lb := fun g hg => Row.ne hL2.nrow hL2.blk (by decide) (by rw [hKF]; exact hg)
  have hb3 : Blk w3 lb _ _ := hL2.blk.stp hst fun e => hne lb e rfl
  have hst3 := (Stp.alloc (fun b => (Value.slice A2 KF cc2).ownBlock = some b) w1 (.cells #[.func (.func k) #[] cap] 1)).trans hst (fun _ _ h => h)
  have hne3 : ∀ g, (Value.slice A3 (KF + 1) cc3).ownBlock = some g → g ≠ lb := fun g hg => Row.ne hrow hb3 (by decide) hg
  have hb4 := hb3.set 3 (.slice A3 (KF + 1) cc3)
  rw [set3L] at hb4
  have hb5 := hb4.set 4 (.int .i64 ((c + 1 : Nat) : Int))
  rw [set4L] at hb5
  have hS : Stp (fun b => b = lb ∨ (Value.slice A2 KF cc2).ownBlock = some b) w1 ((w3.setCell ⟨lb, 3, none⟩ (.slice A3 (KF + 1) cc3)).setCell ⟨lb, 4, none⟩ (.int .i64 ((c + 1 : Nat) : Int))) :=
    ((hst3.mono (S' := fun b => b = lb ∨ (Value.slice A2 KF cc2).ownBlock = some b) (fun _ _ h => .inr h)).trans (Stp.set (S := fun b => b = lb) rfl 3 _) (fun _ _ h => .inl h)).trans (Stp.set (S := fun b => b = lb) rfl 4 _) (fun _ _ h => .inl h)
  have hfr := hf1.trans (Fr.of_stp (B := B) (T := LogT) (M := fun _ => False) hS (by
    intro b _ hb
    rcases hb with rfl | hb
    · exact ⟨hL1.hB, .inr ⟨_, _, _, hL1.blk, .inl rfl⟩⟩
    · obtain ⟨h1, _, cur, h2⟩ := hL1.nrow.lt (by rw [hKF]; exact hb)
      exact ⟨h1, .inr ⟨_, _, _, h2, .inr (.inr (.inl rfl))⟩⟩))
  have hrow5 := ((hrow.keep (w' := (w3.setCell ⟨lb, 3, none⟩ (.slice A3 (KF + 1) cc3)).setCell ⟨lb, 4, none⟩ (.int .i64 ((c + 1 : Nat) : Int))) fun g hg => (heap_setCell_other _ _ g _ (hne3 g hg)).trans (heap_setCell_other w3 _ g _ (hne3 g hg))))
  have hmr5 : Row _ B 220 _ _ _ := hL1.mrow.stp hS (fun g hg hb => by
    rcases hb with hb | hb
    · exact Row.ne hL1.mrow hL1.blk (by decide) hg hb
    · exact Row.ne2 hL1.mrow hL1.nrow (by decide) hg (by rw [hKF]; exact hb) rfl)
  have hmk5 : ∀ m ∈ ms, B ≤ m.blk ∧ Blk _ m.blk (mkC m false) 222 := fun m hm => ⟨(hL1.mks m hm).1, (hL1.mks m hm).2.stp hS (fun hb => by
    rcases hb with hb | hb
    · exact (hL1.mks m hm).2.ne hL1.blk (by decide) hb
    · exact Row.ne hL1.nrow (hL1.mks m hm).2 (by decide) (by rw [hKF]; exact hb) rfl)⟩
  have hlog : LogAt ((w3.setCell ⟨lb, 3, none⟩ (.slice A3 (KF + 1) cc3)).setCell ⟨lb, 4, none⟩ (.int .i64 ((c + 1 : Nat) : Int))) B lb most nest ms (fs ++ [.func (.func k) #[] cap]) (c + 1) :=
    ⟨_, _, hL1.hB, hb5, hmr5, (by rw [List.length_append, hKF]; exact hrow5), hmk5, hL1.ap, hL1.nest1, hL1.nest2, hL1.most2, (by omega), hL1.mp, (by rw [List.length_append, hKF]; simp; omega), (fun v hv => by
      rcases List.mem_append.1 hv with hv | hv
      · exact hL1.fn v hv
      · rw [List.mem_singleton.1 hv]; exact ⟨k, cap, rfl⟩), hL1.mc⟩
  have d3 := hb3.cell (i := 3) rfl
  have g3 := hb3.frozen 3
  have d4 := hb4.cell (i := 4) rfl
  have g4 := hb4.frozen 4
  have hl3 := hb3.lt
  have hl4 := hb4.lt
  replace hlog := Lib.hid hlog
  replace hfr := Lib.hid hfr
  replace hrun := Lib.hid hrun
  clear hmk5 hmr5 hrow5 hS hb5 hb4 hne3 hst3 hb3 hne how hst hrow hL2 hb2 hL1 h1 hf1 hi hz0 hz1 hz2 hKF
  go_wp2_with (at_builtin; refine wpList_append_of rfl _ _ 119 119 rfl _ _ _ w3 rfl rfl hrun.out ?_)
  go_ret
  exact ⟨rfl, hlog.out, hfr.out⟩
end
section
variable {w w' : World} {B lb most nest c : Nat} {mv nv : Value} {ms : List Mk} {fs : List Value}
theorem LogMark_full (h : LogAt w B lb most nest ms fs c) (hn : ms.length = nest) :
    Calls Tryz.prog 80 #[ptrV lb] w fun e w' => e = .returned (.tuple #[.int .i64 0, .int .i64 42]) ∧ ∃ n, w' = w.drewN n := by
  obtain ⟨mv, nv, h⟩ := h
  have hi := lisNil_no h
  obtain ⟨A, cc, rfl, hc, hcm⟩ := h.mrow.form
  have c2 := h.blk.cell (i := 2) rfl
  have c1 := h.blk.cell (i := 1) rfl
  have hlt := h.blk.lt
  rw [hn] at c2
  unfold ptrV at hi ⊢
  clear h hn hc
  go_enter Tryz.func80, Tryz.ntmps80
  go_wp2_with fail
  refine hi.mono ?_
  rintro e w' ⟨rfl, hw⟩
  obtain rfl := hw.symm
  go_wp2_with fail
  go_quiet (fail)
  go_wp2
  go_ret2
  exact ⟨rfl, _, rfl⟩
theorem LogMark_add (h : LogAt w B lb most nest ms fs c) (hn : ms.length < nest) (hBw : B ≤ w.heap.size) :
    Calls Tryz.prog 80 #[ptrV lb] w fun e w' => e = .returned (.tuple #[.int .i64 ((ms.length + 1 : Nat) : Int), .int .i64 0]) ∧
      (∃ b, LogAt w' B lb most nest (ms ++ [⟨b, fs.length, c⟩]) fs c) ∧ Fr B LogT (fun _ => False) w w' := by
  replace h : ∀ n, LogAt (w.drewN n) B lb most nest ms fs c := fun n => h.keep (KeepL.drewN w n)
  obtain ⟨i0, hi0, hz0, hz1, hz2⟩ := info_parts infoMk
  obtain ⟨mv0, nv0, h0⟩ := h 0
  have hi : Calls Tryz.prog 78 #[ptrV lb] w fun e w' => e = .returned (.bool false) ∧ w' = w := lisNil_no h0
  obtain ⟨A0, cc0, rfl, hc0, _⟩ := h0.mrow.form
  have c2 : w.cell? ⟨lb, 2, none⟩ = some _ := h0.blk.cell (i := 2) rfl
  have c1 : w.cell? ⟨lb, 1, none⟩ = some _ := h0.blk.cell (i := 1) rfl
  have hlt : lb < w.heap.size := h0.blk.lt
  unfold ptrV at hi ⊢
  obtain ⟨KM, hKM⟩ : ∃ K, ms.length = K := ⟨_, rfl⟩
  obtain ⟨KF, hKF⟩ : ∃ K, fs.length = K := ⟨_, rfl⟩
  rw [hKM] at c2 hn ⊢
  rw [hKF]
  have hne : ((KM : Int) == (nest : Int)) = false := by rw [beq_eq_false_iff_ne]; omega
  have hne2 : (KM == nest) = false := by rw [beq_eq_false_iff_ne]; omega
  replace h := Lib.hid h
  replace hKM := Lib.hid hKM
  replace hKF := Lib.hid hKF
  clear h0 hc0
  go_enter Tryz.func80, Tryz.ntmps80
  go_wp2_with fail
  refine hi.mono ?_
  rintro e w' ⟨rfl, hw⟩
  obtain rfl := hw.symm
  go_wp2_with fail
  go_quiet (fail)
  go_wp2_with fail
  replace hKM := hKM.out
  replace hKF := hKF.out
  obtain ⟨w0, hw0⟩ : ∃ w1, w.drewN nq = w1 := ⟨_, rfl⟩
  obtain ⟨mv, nv, h1⟩ := h.out (nq + 1)
  have hf1 : Fr B LogT (fun _ => False) w (w.drewN (nq + 1)) := Fr.drewN _ _ _ _ _
  have hBw1 : B ≤ (w.drewN (nq + 1)).heap.size := hBw
  obtain ⟨w1, hw1⟩ : ∃ w1, w0.drew = w1 := ⟨_, rfl⟩
  have hw2 : w.drewN (nq + 1) = w1 := by rw [← hw1, ← hw0]; rfl
  rw [hw0]
  rw [hw2] at h1 hf1 hBw1
  replace hw1 := Lib.hid hw1
  clear hw0 hw2
  clear hi h hBw c1 c2 hlt hne hne2
  obtain ⟨A, cc, rfl, hc, hcm1⟩ := h1.mrow.form
  obtain ⟨A2, cc2, rfl, hc2, hcm2⟩ := h1.nrow.form
  have c2 := h1.blk.cell (i := 2) rfl
  have c3 := h1.blk.cell (i := 3) rfl
  have c4 := h1.blk.cell (i := 4) rfl
  have hlt := h1.blk.lt
  have hL1 := h1
  have hn2 := h1.nest2
  rw [hKM] at c2 hc
  rw [hKF] at c3 hc2
  obtain ⟨z, hz⟩ : ∃ z, w1.heap.size = z := ⟨_, rfl⟩
  -- the mark's block
  have hb2 : Blk (w1.alloc (.cells #[.int .i64 (KF : Int), .int .i64 (c : Int), .bool false] 222)) z (mkC ⟨z, KF, c⟩ false) 222 := by rw [← hz]; exact Blk.new w1 _ _
  have hL2 := hL1.keep (KeepL.alloc w1 (.cells #[.int .i64 (KF : Int), .int .i64 (c : Int), .bool false] 222))
  have hs2 : (w1.alloc (.cells #[.int .i64 (KF : Int), .int .i64 (c : Int), .bool false] 222)).heap.size = z + 1 := by simp [hz]
  have hst2 := Stp.alloc (fun _ => False) w1 (.cells #[.int .i64 (KF : Int), .int .i64 (c : Int), .bool false] 222)
  obtain ⟨w2, hw2⟩ : ∃ w2, w1.alloc (.cells #[.int .i64 (KF : Int), .int .i64 (c : Int), .bool false] 222) = w2 := ⟨_, rfl⟩
  rw [hw2] at hb2 hL2 hs2 hst2
  have hb3 : Blk (w2.alloc (.cells #[.pointer (some ⟨z, 0, none⟩)] 220)) (z + 1) [ptrV z] 220 := by rw [← hs2]; exact Blk.new w2 _ _
  have hL3 := hL2.keep (KeepL.alloc w2 (.cells #[.pointer (some ⟨z, 0, none⟩)] 220))
  have hb23 := hb2.alloc (.cells #[.pointer (some ⟨z, 0, none⟩)] 220)
  have hst3 := hst2.trans (Stp.alloc (fun _ => False) w2 (.cells #[.pointer (some ⟨z, 0, none⟩)] 220)) (fun _ _ h => h)
  have hs3 : (w2.alloc (.cells #[.pointer (some ⟨z, 0, none⟩)] 220)).heap.size = z + 2 := by simp [hs2]
  obtain ⟨w3, hw3⟩ : ∃ w3, w2.alloc (.cells #[.pointer (some ⟨z, 0, none⟩)] 220) = w3 := ⟨_, rfl⟩
  rw [hw3] at hb3 hL3 hb23 hst3 hs3
  obtain ⟨mv', w4, hrun, hrow, hst, how⟩ := run_append_rowS (P := Tryz.prog) w3 B 118 118 118 220 i0 _ Tryz.underlying118 hi0 hz0 hz1 rfl (.slice A ms.length cc) ms.length (ms.map fun m => ptrV m.blk) hL3.mrow (.slice (some ⟨z + 1, 0, none⟩) 1 1) 1 [ptrV z]
    (Src.ofSlice _ Tryz.underlying118 _ 1 1 _ rfl (fun j u hu => by rw [add_plain0, Nat.zero_add]; exact hb3.cell hu) (by simp [Value.oneCell', ptrV])) (by rw [hz2, hKM]; omega) (by rw [hKM]; omega) (by omega)
  rw [hKM] at hrun hrow hst how
  obtain ⟨A3, cc3, rfl, hc3, hcm3⟩ := hrow.form
  have hne : ∀ g, (Value.slice A KM cc).ownBlock = some g → g ≠ lb := fun g hg => Row.ne hL3.mrow hL3.blk (by decide) (by rw [hKM]; exact hg)
  have hb4 : Blk w4 lb _ _ := hL3.blk.stp hst fun e => hne lb e rfl
  have hne3 : ∀ g, (Value.slice A3 (KM + 1) cc3).ownBlock = some g → g ≠ lb := fun g hg => Row.ne hrow hb4 (by decide) hg
  have hb5 := hb4.set 2 (.slice A3 (KM + 1) cc3)
  rw [set2L] at hb5
  have hS : Stp (fun b => b = lb ∨ (Value.slice A KM cc).ownBlock = some b) w1 (w4.setCell ⟨lb, 2, none⟩ (.slice A3 (KM + 1) cc3)) :=
    (((hst3.mono (S' := fun b => b = lb ∨ (Value.slice A KM cc).ownBlock = some b) (fun _ _ h => h.elim)).trans hst (fun _ _ h => .inr h))).trans (Stp.set (S := fun b => b = lb) rfl 2 _) (fun _ _ h => .inl h)
  have hfr := hf1.trans (Fr.of_stp (B := B) (T := LogT) (M := fun _ => False) hS (by
    intro b _ hb
    rcases hb with rfl | hb
    · exact ⟨hL1.hB, .inr ⟨_, _, _, hL1.blk, .inl rfl⟩⟩
    · obtain ⟨h1, _, cur, h2⟩ := hL1.mrow.lt (by rw [hKM]; exact hb)
      exact ⟨h1, .inr ⟨_, _, _, h2, .inr (.inl rfl)⟩⟩))
  have hrow5 := hrow.keep (w' := w4.setCell ⟨lb, 2, none⟩ (.slice A3 (KM + 1) cc3)) fun g hg => heap_setCell_other w4 _ g _ (hne3 g hg)
  have hnr5 : Row _ B 1 _ _ _ := hL1.nrow.stp hS (fun g hg hb => by
    rcases hb with hb | hb
    · exact Row.ne hL1.nrow hL1.blk (by decide) hg hb
    · exact Row.ne2 hL1.nrow hL1.mrow (by decide) hg (by rw [hKM]; exact hb) rfl)
  have hmk5 : ∀ m ∈ ms, B ≤ m.blk ∧ Blk (w4.setCell ⟨lb, 2, none⟩ (.slice A3 (KM + 1) cc3)) m.blk (mkC m false) 222 := fun m hm => ⟨(hL1.mks m hm).1, (hL1.mks m hm).2.stp hS (fun hb => by
    rcases hb with hb | hb
    · exact (hL1.mks m hm).2.ne hL1.blk (by decide) hb
    · exact Row.ne hL1.mrow (hL1.mks m hm).2 (by decide) (by rw [hKM]; exact hb) rfl)⟩
  have hzm : Blk (w4.setCell ⟨lb, 2, none⟩ (.slice A3 (KM + 1) cc3)) z (mkC ⟨z, KF, c⟩ false) 222 := by
    have h1 : Blk w4 z _ _ := hb23.stp hst (fun hb => Row.ne hL3.mrow hb23 (by decide) (by rw [hKM]; exact hb) rfl)
    exact h1.other (a := ⟨lb, 2, none⟩) (fun e => by simp at e; omega) _
  have hlog : ∃ b, LogAt (w4.setCell ⟨lb, 2, none⟩ (.slice A3 (KM + 1) cc3)) B lb most nest (ms ++ [⟨b, KF, c⟩]) fs c :=
    ⟨z, _, _, hL1.hB, hb5, (by rw [List.length_append, hKM, List.map_append]; exact hrow5), hnr5, fun m hm => by
      rcases List.mem_append.1 hm with hm | hm
      · exact hmk5 m hm
      · rw [List.mem_singleton.1 hm]; exact ⟨by show B ≤ z; omega, hzm⟩, by
      rw [List.map_append]
      refine List.nodup_append.2 ⟨hL1.ap, by simp, fun a ha b hb => ?_⟩
      obtain ⟨m, hm, rfl⟩ := List.mem_map.1 ha
      have := (hL1.mks m hm).2.lt
      rw [List.map_singleton, List.mem_singleton] at hb
      rw [hb]
      show m.blk ≠ z
      omega, hL1.nest1, hL1.nest2, hL1.most2, hL1.cp, (by rw [List.length_append, hKM]; simp; omega), hL1.fc, hL1.fn, fun m hm => by
      rcases List.mem_append.1 hm with hm | hm
      · exact hL1.mc m hm
      · rw [List.mem_singleton.1 hm]; exact ⟨by show KF ≤ c; have := hL1.fc; omega, hL1.cp⟩⟩
  have d2 : w4.cell? ⟨lb, 2, none⟩ = some _ := hb4.cell (i := 2) rfl
  have g2 := hb4.frozen 2
  have e2 : w2.cell? ⟨lb, 2, none⟩ = some (.slice A KM cc) := by rw [← hKM]; exact hL2.blk.cell (i := 2) rfl
  have e3 : w2.cell? ⟨lb, 3, none⟩ = some (.slice A2 KF cc2) := by rw [← hKF]; exact hL2.blk.cell (i := 3) rfl
  have e4 : w2.cell? ⟨lb, 4, none⟩ = some (.int .i64 (c : Int)) := hL2.blk.cell (i := 4) rfl
  have u2 : w3.cell? ⟨lb, 2, none⟩ = some (.slice A KM cc) := by rw [← hKM]; exact hL3.blk.cell (i := 2) rfl
  have u3 : w3.cell? ⟨lb, 3, none⟩ = some (.slice A2 KF cc2) := by rw [← hKF]; exact hL3.blk.cell (i := 3) rfl
  have u4 : w3.cell? ⟨lb, 4, none⟩ = some (.int .i64 (c : Int)) := hL3.blk.cell (i := 4) rfl
  have v3 : w4.cell? ⟨lb, 3, none⟩ = some (.slice A2 KF cc2) := by rw [← hKF]; exact hb4.cell (i := 3) rfl
  have v4 : w4.cell? ⟨lb, 4, none⟩ = some (.int .i64 (c : Int)) := hb4.cell (i := 4) rfl
  have hl4 := hb4.lt
  rw [hKM] at d2
  obtain ⟨W5, hW5⟩ : ∃ W5, w4.setCell ⟨lb, 2, none⟩ (.slice A3 (KM + 1) cc3) = W5 := ⟨_, rfl⟩
  rw [hW5] at hlog hfr hb5
  have x2 := hb5.cell (i := 2) rfl
  have hl5 := hb5.lt
  replace hlog := Lib.hid hlog
  replace hfr := Lib.hid hfr
  replace hrun := Lib.hid hrun
  replace hW5 := Lib.hid hW5
  replace hw2 := Lib.hid hw2
  replace hw3 := Lib.hid hw3
  replace hs2 := Lib.hid hs2
  replace hz := Lib.hid hz
  clear hzm hmk5 hnr5 hrow5 hS hb5 hne3 hb4 hne hst hrow hst3 hb23 hL3 hb3 hst2 hL2 hb2 hL1 h1 hf1 hi0 hz0 hz1 hz2 hKF how hs3 hKM
  refine wp_region_last (L := 20) (S := (fun w' : World => w'.cell? ⟨lb, 2, none⟩ = some (.slice A KM cc) ∧ w'.cell? ⟨lb, 3, none⟩ = some (.slice A2 KF cc2) ∧ w'.cell? ⟨lb, 4, none⟩ = some (.int .i64 (c : Int)))) (by kernel_rfl) ?_
  rw [hw1.out]
  have hS0 : (fun w' : World => w'.cell? ⟨lb, 2, none⟩ = some (.slice A KM cc) ∧ w'.cell? ⟨lb, 3, none⟩ = some (.slice A2 KF cc2) ∧ w'.cell? ⟨lb, 4, none⟩ = some (.int .i64 (c : Int))) w1 := ⟨c2, c3, c4⟩
  refine wpAnyT_takeT (n := 40) (i := 0) (v := .pointer (some ⟨lb, 0, none⟩)) rfl (by kernel_rfl) (by kernel_rfl) (by kernel_rfl) (by kernel_rfl) (by kernel_rfl) (fun _ _ _ h => h) (Or.inl ⟨by rfl, ?_⟩) hS0 ?_
  · intro W hW
    obtain ⟨k0, k1, k2⟩ := hW
    clear hS0 c2 c3 c4 d2 g2 e2 e3 e4 u2 u3 u4 v3 v4 x2
    go_simp
    try (intro hx; exfalso; omega)
  try simp only [Act.put, List.setIfInBounds_toArray]
  refine wpAnyT_takeT (n := 40) (i := 1) (v := .pointer (some ⟨lb, 0, none⟩)) rfl (by kernel_rfl) (by kernel_rfl) (by kernel_rfl) (by kernel_rfl) (by kernel_rfl) (fun _ _ _ h => h) (Or.inl ⟨by rfl, ?_⟩) hS0 ?_
  · intro W hW
    obtain ⟨k0, k1, k2⟩ := hW
    clear hS0 c2 c3 c4 d2 g2 e2 e3 e4 u2 u3 u4 v3 v4 x2
    go_simp
    try (intro hx; exfalso; omega)
  try simp only [Act.put]
  refine wpAnyT_takeT (n := 40) (i := 2) (v := .pointer (some ⟨lb, 0, none⟩)) rfl (by kernel_rfl) (by kernel_rfl) (by kernel_rfl) (by kernel_rfl) (by kernel_rfl) (fun _ _ _ h => h) (Or.inl ⟨by rfl, ?_⟩) hS0 ?_
  · intro W hW
    obtain ⟨k0, k1, k2⟩ := hW
    clear hS0 c2 c3 c4 d2 g2 e2 e3 e4 u2 u3 u4 v3 v4 x2
    go_simp
    try (intro hx; exfalso; omega)
  try simp only [Act.put]
  refine wpAnyT_takeT (n := 40) (i := 3) (v := .pointer (some ⟨lb, 2, none⟩)) rfl (by kernel_rfl) (by kernel_rfl) (by kernel_rfl) (by kernel_rfl) (by kernel_rfl) (fun _ _ _ h => h) (Or.inl ⟨by rfl, ?_⟩) hS0 ?_
  · intro W hW
    obtain ⟨k0, k1, k2⟩ := hW
    clear hS0 c2 c3 c4 d2 g2 e2 e3 e4 u2 u3 u4 v3 v4 x2
    go_simp
    try (intro hx; exfalso; omega)
  try simp only [Act.put]
  refine wpAnyT_takeT (n := 40) (i := 4) (v := .slice A KM cc) rfl (by kernel_rfl) (by kernel_rfl) (by kernel_rfl) (by kernel_rfl) (by kernel_rfl) (fun _ _ _ h => h) (Or.inl ⟨by rfl, ?_⟩) hS0 ?_
  · intro W hW
    obtain ⟨k0, k1, k2⟩ := hW
    clear hS0 c2 c3 c4 d2 g2 e2 e3 e4 u2 u3 u4 v3 v4 x2
    go_simp
    try (intro hx; exfalso; omega)
  try simp only [Act.put]
  refine wpAnyT_takeT (n := 40) (i := 5) (v := .pointer (some ⟨lb, 0, none⟩)) rfl (by kernel_rfl) (by kernel_rfl) (by kernel_rfl) (by kernel_rfl) (by kernel_rfl) (fun _ _ _ h => h) (Or.inl ⟨by rfl, ?_⟩) hS0 ?_
  · intro W hW
    obtain ⟨k0, k1, k2⟩ := hW
    clear hS0 c2 c3 c4 d2 g2 e2 e3 e4 u2 u3 u4 v3 v4 x2
    go_simp
    try (intro hx; exfalso; omega)
  try simp only [Act.put]
  refine wpAnyT_takeT (n := 40) (i := 6) (v := .pointer (some ⟨lb, 0, none⟩)) rfl (by kernel_rfl) (by kernel_rfl) (by kernel_rfl) (by kernel_rfl) (by kernel_rfl) (fun _ _ _ h => h) (Or.inl ⟨by rfl, ?_⟩) hS0 ?_
  · intro W hW
    obtain ⟨k0, k1, k2⟩ := hW
    clear hS0 c2 c3 c4 d2 g2 e2 e3 e4 u2 u3 u4 v3 v4 x2
    go_simp
    try (intro hx; exfalso; omega)
  try simp only [Act.put]
  refine wpAnyT_takeT (n := 40) (i := 7) (v := .pointer (some ⟨lb, 3, none⟩)) rfl (by kernel_rfl) (by kernel_rfl) (by kernel_rfl) (by kernel_rfl) (by kernel_rfl) (fun _ _ _ h => h) (Or.inl ⟨by rfl, ?_⟩) hS0 ?_
  · intro W hW
    obtain ⟨k0, k1, k2⟩ := hW
    clear hS0 c2 c3 c4 d2 g2 e2 e3 e4 u2 u3 u4 v3 v4 x2
    go_simp
    try (intro hx; exfalso; omega)
  try simp only [Act.put]
  refine wpAnyT_takeT (n := 40) (i := 8) (v := .slice A2 KF cc2) rfl (by kernel_rfl) (by kernel_rfl) (by kernel_rfl) (by kernel_rfl) (by kernel_rfl) (fun _ _ _ h => h) (Or.inl ⟨by rfl, ?_⟩) hS0 ?_
  · intro W hW
    obtain ⟨k0, k1, k2⟩ := hW
    clear hS0 c2 c3 c4 d2 g2 e2 e3 e4 u2 u3 u4 v3 v4 x2
    go_simp
    try (intro hx; exfalso; omega)
  try simp only [Act.put]
  refine wpAnyT_takeT (n := 40) (i := 9) (v := .int .i64 (KF : Int)) rfl (by kernel_rfl) (by kernel_rfl) (by kernel_rfl) (by kernel_rfl) (by kernel_rfl) (fun _ _ _ h => h) (Or.inl ⟨by rfl, ?_⟩) hS0 ?_
  · intro W hW
    obtain ⟨k0, k1, k2⟩ := hW
    clear hS0 c2 c3 c4 d2 g2 e2 e3 e4 u2 u3 u4 v3 v4 x2
    go_simp
    try (intro hx; exfalso; omega)
  try simp only [Act.put]
  refine wpAnyT_takeT (n := 40) (i := 10) (v := .pointer (some ⟨lb, 0, none⟩)) rfl (by kernel_rfl) (by kernel_rfl) (by kernel_rfl) (by kernel_rfl) (by kernel_rfl) (fun _ _ _ h => h) (Or.inl ⟨by rfl, ?_⟩) hS0 ?_
  · intro W hW
    obtain ⟨k0, k1, k2⟩ := hW
    clear hS0 c2 c3 c4 d2 g2 e2 e3 e4 u2 u3 u4 v3 v4 x2
    go_simp
    try (intro hx; exfalso; omega)
  try simp only [Act.put]
  refine wpAnyT_takeT (n := 40) (i := 11) (v := .pointer (some ⟨lb, 0, none⟩)) rfl (by kernel_rfl) (by kernel_rfl) (by kernel_rfl) (by kernel_rfl) (by kernel_rfl) (fun _ _ _ h => h) (Or.inl ⟨by rfl, ?_⟩) hS0 ?_
  · intro W hW
    obtain ⟨k0, k1, k2⟩ := hW
    clear hS0 c2 c3 c4 d2 g2 e2 e3 e4 u2 u3 u4 v3 v4 x2
    go_simp
    try (intro hx; exfalso; omega)
  try simp only [Act.put]
  refine wpAnyT_takeT (n := 40) (i := 12) (v := .pointer (some ⟨lb, 4, none⟩)) rfl (by kernel_rfl) (by kernel_rfl) (by kernel_rfl) (by kernel_rfl) (by kernel_rfl) (fun _ _ _ h => h) (Or.inl ⟨by rfl, ?_⟩) hS0 ?_
  · intro W hW
    obtain ⟨k0, k1, k2⟩ := hW
    clear hS0 c2 c3 c4 d2 g2 e2 e3 e4 u2 u3 u4 v3 v4 x2
    go_simp
    try (intro hx; exfalso; omega)
  try simp only [Act.put]
  refine wpAnyT_takeT (n := 40) (i := 13) (v := .int .i64 (c : Int)) rfl (by kernel_rfl) (by kernel_rfl) (by kernel_rfl) (by kernel_rfl) (by kernel_rfl) (fun _ _ _ h => h) (Or.inl ⟨by rfl, ?_⟩) hS0 ?_
  · intro W hW
    obtain ⟨k0, k1, k2⟩ := hW
    clear hS0 c2 c3 c4 d2 g2 e2 e3 e4 u2 u3 u4 v3 v4 x2
    go_simp
    try (intro hx; exfalso; omega)
  try simp only [Act.put]
  refine wpAnyT_takeT (n := 40) (i := 14) (v := .agg #[.int .i64 (KF : Int), .int .i64 (c : Int), .bool false]) rfl (by kernel_rfl) (by kernel_rfl) (by kernel_rfl) (by kernel_rfl) (by kernel_rfl) (fun _ _ _ h => h) (Or.inl ⟨by rfl, ?_⟩) hS0 ?_
  · intro W hW
    obtain ⟨k0, k1, k2⟩ := hW
    clear hS0 c2 c3 c4 d2 g2 e2 e3 e4 u2 u3 u4 v3 v4 x2
    go_simp
    try (intro hx; exfalso; omega)
  try simp only [Act.put]
  clear hS0
  refine wpAnyT_one (i := 15) rfl (by kernel_rfl) rfl ?_
  go_simp
  rw [hz.out, hw2.out]
  refine wpAnyT_one (i := 16) rfl (by kernel_rfl) rfl ?_
  go_simp
  rw [hs2.out, hw3.out]
  refine ⟨⟨u2, u3, u4⟩, ?_⟩
  refine wpAnyT_one (i := 17) rfl (by kernel_rfl) rfl ?_
  refine wp_append_of (.tmp 22) (.tmp 34) 118 118 rfl _ _ _ w4 rfl rfl hrun.out ?_
  refine ⟨fun _ => ⟨d2, v3, v4⟩, ?_⟩
  clear c2 c3 c4 e2 e3 e4 u2 u3 u4
  try simp only [Act.put, List.setIfInBounds_toArray]
  refine wpAnyT_one (i := 18) rfl (by kernel_rfl) rfl ?_
  go_simp
  refine wpAnyT_one (i := 19) rfl (by kernel_rfl) rfl ?_
  go_simp
  refine wpAnyT_one (i := 20) rfl (by kernel_rfl) rfl ?_
  go_simp
  rw [hW5.out]
  refine wpAnyT_done (by kernel_rfl) ?_ _
  clear d2 g2 v3 v4
  go_wp2
  go_ret2
  exact ⟨rfl, hlog.out, hfr.out⟩
end
section
variable {w w' : World} {B lb most nest c : Nat} {mv nv : Value} {ms : List Mk} {fs : List Value}
theorem takeLast_any {v : Value} (h : LogAt w B lb most nest ms (fs ++ [v]) c) :
    Calls Tryz.prog 127 #[ptrV lb] w fun e w' => e = .returned v ∧ LogAt w' B lb most nest ms fs c ∧ Fr B LogT (fun _ => False) w w' := by
  obtain ⟨mv, nv, h⟩ := h
  have hL1 := h
  have hlen : (fs ++ [v]).length = fs.length + 1 := by simp
  have hrow := h.nrow
  rw [hlen] at hrow
  obtain ⟨KF, hKF⟩ : ∃ K, fs.length = K := ⟨_, rfl⟩
  rw [hKF] at hrow hlen
  obtain ⟨g, off, cc, rfl, hcc, hcm, hBg⟩ := hrow.form1 (Nat.succ_pos _)
  have c3 : w.cell? ⟨lb, 3, none⟩ = some (.slice (some ⟨g, off, none⟩) (KF + 1) cc) := h.blk.cell (i := 3) rfl
  have f3 := h.blk.frozen 3
  have hlt := h.blk.lt
  have k1 : w.cell? ⟨g, off + KF, none⟩ = some v := hrow.cell (j := KF) (by rw [← hKF]; simp)
  have fg := hrow.frozen (off + KF)
  have hlg := (hrow.lt (g := g) rfl).2.1
  have hgl : g ≠ lb := Row.ne hrow h.blk (by decide) rfl
  have hfl : KF ≤ 1048576 := by have := h.fc; have := h.cp; have := h.most2; omega
  obtain ⟨k, cap, rfl⟩ := h.fn v (by simp)
  have hr2 := (hrow.set KF .nilFunc).head KF (Nat.le_succ _)
  have e2 : ((fs ++ [Value.func (.func k) #[] cap]).set KF .nilFunc).take KF = fs := by
    rw [← hKF, List.set_append_right _ _ (Nat.le_refl _)]
    exact List.take_left' rfl
  rw [e2] at hr2
  have hb2 : Blk (w.setCell ⟨g, off + KF, none⟩ .nilFunc) lb _ _ := h.blk.other (a := ⟨g, off + KF, none⟩) (Ne.symm hgl) .nilFunc
  have hb3 := hb2.set 3 (.slice (some ⟨g, off, none⟩) KF cc)
  rw [set3L] at hb3
  have hS : Stp (fun b => b = lb ∨ b = g) w ((w.setCell ⟨g, off + KF, none⟩ .nilFunc).setCell ⟨lb, 3, none⟩ (.slice (some ⟨g, off, none⟩) KF cc)) :=
    ((Stp.set (S := fun b => b = lb ∨ b = g) (.inr rfl) _ _).trans (Stp.set (S := fun b => b = lb) rfl 3 _) (fun _ _ h => .inl h))
  have hr3 : Row ((w.setCell ⟨g, off + KF, none⟩ .nilFunc).setCell ⟨lb, 3, none⟩ (.slice (some ⟨g, off, none⟩) KF cc)) B 1 (.slice (some ⟨g, off, none⟩) KF cc) KF fs := hr2.keep fun g' hg => by cases hg; exact heap_setCell_other _ _ g _ hgl
  have hfr : Fr B LogT (fun _ => False) w _ := Fr.of_stp (B := B) (T := LogT) (M := fun _ => False) hS (by
    intro b _ hb
    rcases hb with rfl | rfl
    · exact ⟨hL1.hB, .inr ⟨_, _, _, hL1.blk, .inl rfl⟩⟩
    · obtain ⟨h1, _, cur, h2⟩ := hrow.lt (g := b) rfl
      exact ⟨h1, .inr ⟨_, _, _, h2, .inr (.inr (.inl rfl))⟩⟩)
  have hmr : Row _ B 220 _ _ _ := hL1.mrow.stp hS (fun g' hg hb => by
    rcases hb with hb | hb
    · exact Row.ne hL1.mrow hL1.blk (by decide) hg hb
    · exact Row.ne2 hL1.mrow hrow (by decide) hg rfl hb)
  have hmk : ∀ m ∈ ms, B ≤ m.blk ∧ Blk _ m.blk (mkC m false) 222 := fun m hm => ⟨(hL1.mks m hm).1, (hL1.mks m hm).2.stp hS (fun hb => by
    rcases hb with hb | hb
    · exact (hL1.mks m hm).2.ne hL1.blk (by decide) hb
    · exact Row.ne hrow (hL1.mks m hm).2 (by decide) rfl hb.symm)⟩
  have hfc := hL1.fc
  have hlog : LogAt ((w.setCell ⟨g, off + KF, none⟩ .nilFunc).setCell ⟨lb, 3, none⟩ (.slice (some ⟨g, off, none⟩) KF cc)) B lb most nest ms fs c :=
    ⟨_, _, hL1.hB, hb3, hmr, (by rw [hKF]; exact hr3), hmk, hL1.ap, hL1.nest1, hL1.nest2, hL1.most2, hL1.cp, hL1.mp, (by omega), (fun v hv => hL1.fn v (List.mem_append_left _ hv)), hL1.mc⟩
  have l2 := hb2.lt
  have d3 : (w.setCell ⟨g, off + KF, none⟩ .nilFunc).cell? ⟨lb, 3, none⟩ = some (.slice (some ⟨g, off, none⟩) (KF + 1) cc) := hb2.cell (i := 3) rfl
  have g3 := hb2.frozen 3
  unfold maxLen at hcm
  replace hlog := Lib.hid hlog
  replace hfr := Lib.hid hfr
  unfold ptrV
  clear hmk hmr hr3 hS hb3 hb2 hr2 e2 hL1 h hrow hlen hKF hfc
  go_enter Tryz.func127, Tryz.ntmps127
  go_wp2
  go_ret
  exact ⟨rfl, hlog.out, hfr.out⟩
theorem zeroMk (w : World) : (zeroValue 220).run Tryz.prog w = .ok (.pointer none) w := by kernel_rfl
theorem close_any {m : Mk} (h : LogAt w B lb most nest (ms ++ [m]) fs c) (hfm : fs.length ≤ m.count) :
    Calls Tryz.prog 128 #[ptrV lb, .int .i64 (ms.length : Int)] w fun e w' => e = .returned (.tuple #[]) ∧ LogAt w' B lb most nest ms fs m.count ∧ Fr B LogT (fun _ => False) w w' := by
  obtain ⟨mv, nv, h⟩ := h
  have hL1 := h
  have hlen : (ms ++ [m]).length = ms.length + 1 := by simp
  have hrow := h.mrow
  rw [hlen] at hrow
  obtain ⟨K, hK⟩ : ∃ K, ms.length = K := ⟨_, rfl⟩
  rw [hK] at hrow hlen ⊢
  obtain ⟨g, off, cc, rfl, hcc, hcm, hBg⟩ := hrow.form1 (Nat.succ_pos _)
  have hmm := h.mks m (by simp)
  obtain ⟨hBm, hmb⟩ := hmm
  obtain ⟨mb, mn, mc⟩ := m
  simp only at hmb hBm hfm ⊢
  have c2 : w.cell? ⟨lb, 2, none⟩ = some (.slice (some ⟨g, off, none⟩) (K + 1) cc) := h.blk.cell (i := 2) rfl
  have hlt := h.blk.lt
  have hlm := hmb.lt
  have k1 : w.cell? ⟨g, off + K, none⟩ = some (.pointer (some ⟨mb, 0, none⟩)) := hrow.cell (j := K) (by rw [← hK]; simp [ptrV])
  have hlg := (hrow.lt (g := g) rfl).2.1
  have hgl : g ≠ lb := Row.ne hrow h.blk (by decide) rfl
  have hgm : g ≠ mb := Row.ne hrow hmb (by decide) rfl
  have hml : mb ≠ lb := hmb.ne h.blk (by decide)
  have hkl : K ≤ 1024 := by have := h.mp; have := h.nest2; omega
  have m2 : w.frozen? ⟨mb, 2, none⟩ = false := hmb.frozen 2
  have x2 : w.cell? ⟨mb, 2, none⟩ = some (.bool false) := hmb.cell (i := 2) rfl
  have x1 : w.cell? ⟨mb, 1, none⟩ = some (.int .i64 (mc : Int)) := hmb.cell (i := 1) rfl
  -- the mark is gone
  have hb1 : Blk (w.setCell ⟨mb, 2, none⟩ (.bool true)) lb _ _ := h.blk.other (a := ⟨mb, 2, none⟩) (Ne.symm hml) _
  have hr1 : Row (w.setCell ⟨mb, 2, none⟩ (.bool true)) B 220 (.slice (some ⟨g, off, none⟩) (K + 1) cc) (K + 1) ((ms ++ [(⟨mb, mn, mc⟩ : Mk)]).map fun m => ptrV m.blk) := hrow.keep fun g' hg => by cases hg; exact heap_setCell_other w ⟨mb, 2, none⟩ g (.bool true) hgm
  have y1 : (w.setCell ⟨mb, 2, none⟩ (.bool true)).cell? ⟨mb, 1, none⟩ = some (.int .i64 (mc : Int)) := (hmb.set 2 (.bool true)).cell (i := 1) rfl
  obtain ⟨w1, hw1⟩ : ∃ w1, w.setCell ⟨mb, 2, none⟩ (.bool true) = w1 := ⟨_, rfl⟩
  have hS1 : Stp (fun b => b = lb ∨ b = g ∨ b = mb) w w1 := by rw [← hw1]; exact Stp.set (S := fun b => b = lb ∨ b = g ∨ b = mb) (.inr (.inr rfl)) _ _
  rw [hw1] at hb1 hr1 y1
  have d4 : w1.cell? ⟨lb, 4, none⟩ = some _ := hb1.cell (i := 4) rfl
  have g4 := hb1.frozen 4
  have l1 := hb1.lt
  have hb2 := hb1.set 4 (.int .i64 (mc : Int))
  rw [set4L] at hb2
  have hr2 : Row (w1.setCell ⟨lb, 4, none⟩ (.int .i64 (mc : Int))) B 220 (.slice (some ⟨g, off, none⟩) (K + 1) cc) (K + 1) ((ms ++ [(⟨mb, mn, mc⟩ : Mk)]).map fun m => ptrV m.blk) := hr1.keep fun g' hg => by cases hg; exact heap_setCell_other w1 _ g _ hgl
  obtain ⟨w2, hw2⟩ : ∃ w2, w1.setCell ⟨lb, 4, none⟩ (.int .i64 (mc : Int)) = w2 := ⟨_, rfl⟩
  have hS2 : Stp (fun b => b = lb ∨ b = g ∨ b = mb) w w2 := hS1.trans (by rw [← hw2]; exact Stp.set (S := fun b => b = lb) rfl _ _) (fun _ _ h => .inl h)
  rw [hw2] at hb2 hr2
  have d2 : w2.cell? ⟨lb, 2, none⟩ = some (.slice (some ⟨g, off, none⟩) (K + 1) cc) := hb2.cell (i := 2) rfl
  have l2 := hb2.lt
  have hcl : ∀ ty, (Builtin.clear_ #[118] ty #[.slice (some ⟨g, off + K, none⟩) 1 (cc - K)]).run Tryz.prog w2 = .ok (.tuple #[]) (w2.setCell ⟨g, off + K, none⟩ (.pointer none)) := fun ty =>
    Lib.run_clear_slice w2 118 220 ty (.pointer none) Tryz.underlying118 zeroMk rfl rfl g (off + K) 1 (cc - K) (by decide)
      (fun j hj => by obtain rfl : j = 0 := by omega
                      rw [Nat.add_zero, hr2.cell (j := K) (u := ptrV mb) (by rw [← hK]; simp)]; rfl) (fun j _ => hr2.frozen _)
  have hr3 := (hr2.set K (.pointer none)).head K (Nat.le_succ _)
  have hb3 : Blk (w2.setCell ⟨g, off + K, none⟩ (.pointer none)) lb _ _ := hb2.other (a := ⟨g, off + K, none⟩) (Ne.symm hgl) (.pointer none)
  have e3 : (((ms ++ [(⟨mb, mn, mc⟩ : Mk)]).map fun m => ptrV m.blk).set K (.pointer none)).take K = ms.map fun m => ptrV m.blk := by
    rw [List.map_append, List.set_append_right _ _ (by simp [hK])]
    exact List.take_left' (by simp [hK])
  rw [e3] at hr3
  obtain ⟨w3, hw3⟩ : ∃ w3, w2.setCell ⟨g, off + K, none⟩ (.pointer none) = w3 := ⟨_, rfl⟩
  have hS3 : Stp (fun b => b = lb ∨ b = g ∨ b = mb) w w3 := hS2.trans (by rw [← hw3]; exact Stp.set (S := fun b => b = g) rfl _ _) (fun _ _ h => .inr (.inl h))
  rw [hw3] at hcl hr3 hb3
  have z2 : w3.cell? ⟨lb, 2, none⟩ = some (.slice (some ⟨g, off, none⟩) (K + 1) cc) := hb3.cell (i := 2) rfl
  have zf := hb3.frozen 2
  have l3 := hb3.lt
  have hb4 := hb3.set 2 (.slice (some ⟨g, off, none⟩) K cc)
  rw [set2L] at hb4
  have hS4 : Stp (fun b => b = lb ∨ b = g ∨ b = mb) w (w3.setCell ⟨lb, 2, none⟩ (.slice (some ⟨g, off, none⟩) K cc)) := hS3.trans (Stp.set (S := fun b => b = lb) rfl _ _) (fun _ _ h => .inl h)
  have hr4 : Row (w3.setCell ⟨lb, 2, none⟩ (.slice (some ⟨g, off, none⟩) K cc)) B 220 (.slice (some ⟨g, off, none⟩) K cc) K (ms.map fun m => ptrV m.blk) := hr3.keep fun g' hg => by cases hg; exact heap_setCell_other w3 _ g _ hgl
  have hfr : Fr B LogT (fun _ => False) w _ := Fr.of_stp (B := B) (T := LogT) (M := fun _ => False) hS4 (by
    intro b _ hb
    rcases hb with rfl | rfl | rfl
    · exact ⟨hL1.hB, .inr ⟨_, _, _, hL1.blk, .inl rfl⟩⟩
    · obtain ⟨h1, _, cur, h2⟩ := hrow.lt (g := b) rfl
      exact ⟨h1, .inr ⟨_, _, _, h2, .inr (.inl rfl)⟩⟩
    · exact ⟨hBm, .inr ⟨_, _, _, hmb, .inr (.inr (.inr rfl))⟩⟩)
  have hnr : Row _ B 1 _ _ _ := hL1.nrow.stp hS4 (fun g' hg hb => by
    rcases hb with hb | hb | hb
    · exact Row.ne hL1.nrow hL1.blk (by decide) hg hb
    · exact Row.ne2 hL1.nrow hrow (by decide) hg rfl hb
    · exact Row.ne hL1.nrow hmb (by decide) hg hb)
  have hap := hL1.ap
  rw [List.map_append, List.nodup_append] at hap
  have hmk : ∀ m ∈ ms, B ≤ m.blk ∧ Blk _ m.blk (mkC m false) 222 := fun m hm => ⟨(hL1.mks m (List.mem_append_left _ hm)).1, (hL1.mks m (List.mem_append_left _ hm)).2.stp hS4 (fun hb => by
    rcases hb with hb | hb | hb
    · exact (hL1.mks m (List.mem_append_left _ hm)).2.ne hL1.blk (by decide) hb
    · exact Row.ne hrow (hL1.mks m (List.mem_append_left _ hm)).2 (by decide) rfl hb.symm
    · exact hap.2.2 m.blk (List.mem_map.2 ⟨m, hm, rfl⟩) mb (by simp) hb)⟩
  have hmp := hL1.mp
  have hmc := hL1.mc ⟨mb, mn, mc⟩ (by simp)
  have hlog : LogAt (w3.setCell ⟨lb, 2, none⟩ (.slice (some ⟨g, off, none⟩) K cc)) B lb most nest ms fs mc :=
    ⟨_, _, hL1.hB, hb4, (by rw [hK]; exact hr4), hnr, hmk, hap.1, hL1.nest1, hL1.nest2, hL1.most2, hmc.2, (by rw [hlen] at hmp; omega), hfm, hL1.fn, (fun m hm => hL1.mc m (List.mem_append_left _ hm))⟩
  unfold maxLen at hcm
  have hck : ¬ cc = K := by omega
  replace hlog := Lib.hid hlog
  replace hfr := Lib.hid hfr
  unfold ptrV
  replace hw1 := Lib.hid hw1
  replace hw2 := Lib.hid hw2
  replace hw3 := Lib.hid hw3
  replace hcl := Lib.hid hcl
  clear hmc hmp hmk hap hnr hr4 hS4 hb4 hS3 hr3 hb3 e3 hS2 hb2 hr2 hS1 hb1 hr1 hL1 h hrow hlen hK hmb hBm hfm
  go_enter Tryz.func128, Tryz.ntmps128
  go_upto_region 2 with fail
  rw [hw1.out]
  clear c2 k1 m2 x2 x1
  go_upto_region 3 with fail
  rw [hw2.out]
  clear d4 g4 y1
  go_upto_region 4 with (simp only [hcl.out])
  go_wp2
  go_end0
  exact ⟨rfl, hlog.out, hfr.out⟩
end
theorem do1_idle (w : World) :
    CallsD Tryz.prog 153 #[] .returning w fun e u' w' => e = .returned (.tuple #[]) ∧ u' = .returning ∧ w' = w := by
  refine callsD_of_wpS Tryz.func153 rfl fun c₀ cs hu => ?_
  apply wpS_region
  simp [wpOpsS, go_sem, recoverD, hu, Tryz.ntmps153]
  cases c₀
  simp_all [bodyPostS, results, Tryz.results153]
theorem do_any (k : Nat) (cap : Array Value) (R : World → Prop) (w : World) (hen : Enters Tryz.prog k) (hc : Calls Tryz.prog k cap w fun e w' => e = .returned (.tuple #[]) ∧ R w') :
    Calls Tryz.prog 126 #[.func (.func k) #[] cap] w fun e w' => e = .returned (.tuple #[]) ∧ R w' := by
  have hen2 := hen cap w
  replace hc := Lib.hid hc
  clear hen
  go_enter_defers Tryz.func126, Tryz.ntmps126
  go_wp2_with fail
  refine hc.out.mono ?_
  rintro e w' ⟨rfl, hR⟩
  clear hen2
  go_wp2
  refine leaves_cons (f := 153) (args := #[]) (by simp) (by simp [go_sem]) ?_
  refine (do1_idle w').mono ?_
  rintro e u' w2 ⟨rfl, rfl, rfl⟩
  simp [Leaves, settle, results, Tryz.results126, go_sem]
  exact hR
section
variable {w w' : World} {B lb most nest c : Nat} {mv nv : Value} {ms : List Mk} {fs : List Value}
theorem LogUndo_none (h : LogAt w B lb most nest [] fs c) :
    Calls Tryz.prog 81 #[ptrV lb] w fun e w' => e = .returned (.int .i64 1) ∧ w' = w := by
  obtain ⟨mv, nv, h⟩ := h
  have hi := lisNil_no h
  obtain ⟨A, cc, rfl, hc, hcm⟩ := h.mrow.form
  have c2 : w.cell? ⟨lb, 2, none⟩ = some (.slice A 0 cc) := h.blk.cell (i := 2) rfl
  have hlt := h.blk.lt
  unfold ptrV at hi ⊢
  clear h hc
  go_enter Tryz.func81, Tryz.ntmps81
  go_wp2_with fail
  refine hi.mono ?_
  rintro e w' ⟨rfl, hw⟩
  obtain rfl := hw.symm
  go_wp2
  go_ret
  exact ⟨rfl, rfl⟩
def lenN (lb : Nat) (w : World) : Nat := match w.cell? ⟨lb, 3, none⟩ with | some (.slice _ n _) => n | _ => 0
theorem LogR.lenN (h : LogR w B lb most nest mv ms nv fs c) : lenN lb w = fs.length := by
  obtain ⟨A, cc, rfl, hc, hcm⟩ := h.nrow.form
  have c3 : w.cell? ⟨lb, 3, none⟩ = some (.slice A fs.length cc) := h.blk.cell (i := 3) rfl
  unfold Proofs.YtfofpphnglhopaaGreatDoor.lenN
  rw [c3]
theorem LogAt.lenN (h : LogAt w B lb most nest ms fs c) : Proofs.YtfofpphnglhopaaGreatDoor.lenN lb w = fs.length := by obtain ⟨mv, nv, h⟩ := h; exact h.lenN
theorem take_snocV (fs : List Value) (i : Nat) (h : i < fs.length) : fs.take (i + 1) = fs.take i ++ [fs[i]] := List.take_succ_eq_append_getElem h
theorem LogUndo_any {m : Mk} (h : LogAt w B lb most nest (ms ++ [m]) fs c) (hmn : m.notes ≤ fs.length) (I : Nat → World → Prop) (h0 : I fs.length w)
    (keep : ∀ j W W', I j W → Fr B LogT (fun _ => False) W W' → I j W')
    (call : ∀ j W (hj : j < fs.length), m.notes ≤ j → I (j + 1) W → ∃ k cap, fs[j] = .func (.func k) #[] cap ∧ Enters Tryz.prog k ∧ Calls Tryz.prog k cap W fun e W' => e = .returned (.tuple #[]) ∧ I j W' ∧ KeepL W W') :
    Calls Tryz.prog 81 #[ptrV lb] w fun e w' => e = .returned (.int .i64 0) ∧ LogAt w' B lb most nest ms (fs.take m.notes) m.count ∧ I m.notes w' := by
  obtain ⟨mv, nv, h1⟩ := h
  have hi := lisNil_no h1
  have hlen : (ms ++ [m]).length = ms.length + 1 := by simp
  have hrow := h1.mrow
  rw [hlen] at hrow
  obtain ⟨K, hK⟩ : ∃ K, ms.length = K := ⟨_, rfl⟩
  rw [hK] at hrow hlen
  obtain ⟨g, off, cc, rfl, hcc, hcm, hBg⟩ := hrow.form1 (Nat.succ_pos _)
  obtain ⟨mb, mn, mc⟩ := m
  simp only at hmn call ⊢
  have c2 : w.cell? ⟨lb, 2, none⟩ = some (.slice (some ⟨g, off, none⟩) (K + 1) cc) := h1.blk.cell (i := 2) (by rw [← hlen]; rfl)
  have hlt := h1.blk.lt
  have k1 : w.cell? ⟨g, off + K, none⟩ = some (.pointer (some ⟨mb, 0, none⟩)) := hrow.cell (j := K) (by rw [← hK]; simp [ptrV])
  have hkl : K ≤ 1024 := by have := h1.mp; have := h1.nest2; omega
  have hmc : mn ≤ mc := (h1.mc ⟨mb, mn, mc⟩ (by simp)).1
  have hne0 : ((K : Int) + 1 == 0) = false := by rw [beq_eq_false_iff_ne]; omega
  have hL0 : LogAt w B lb most nest (ms ++ [⟨mb, mn, mc⟩]) (fs.take fs.length) c := by rw [List.take_length]; exact ⟨_, _, h1⟩
  have hfl : fs.length ≤ 1048576 := by have := h1.fc; have := h1.cp; have := h1.most2; omega
  replace hL0 := Lib.hid hL0
  replace h0 := Lib.hid h0
  replace keep := Lib.hid keep
  replace call := Lib.hid call
  replace hK := Lib.hid hK
  unfold maxLen at hcm
  unfold ptrV at hi ⊢
  obtain ⟨FT, hFT⟩ : ∃ F, fs.take mn = F := ⟨_, rfl⟩
  rw [hFT]
  replace hFT := Lib.hid hFT
  clear h1 hlen hrow
  go_enter Tryz.func81, Tryz.ntmps81
  go_wp2_with fail
  refine hi.mono ?_
  rintro e w' ⟨rfl, hw⟩
  obtain rfl := hw.symm
  clear hi
  go_wp2_with fail
  clear c2 k1
  go_loopw [28] (fun _ wr => ∃ j, mn ≤ j ∧ j ≤ fs.length ∧ LogAt wr B lb most nest (ms ++ [⟨mb, mn, mc⟩]) (fs.take j) c ∧ I j wr) (fun _ wr => lenN lb wr)
  case atStart => exact ⟨fs.length, hmn, Nat.le_refl _, hL0.out, h0.out⟩
  case round =>
    obtain ⟨j, hj1, hj2, hL, hI⟩ := hrel
    have hLn := hL.lenN
    have hLd : ∀ n, LogAt (wr.drewN n) B lb most nest (ms ++ [⟨mb, mn, mc⟩]) (fs.take j) c := fun n => hL.keep (KeepL.drewN wr n)
    obtain ⟨mv', nv', hR⟩ := hL
    have hjl : (fs.take j).length = j := by rw [List.length_take]; omega
    have hnr := hR.nrow
    rw [hjl] at hLn
    rw [hjl] at hnr
    obtain ⟨A2, cc2, rfl, hc2, hcm2⟩ := hnr.form
    have c3 : wr.cell? ⟨lb, 3, none⟩ = some (.slice A2 j cc2) := hR.blk.cell (i := 3) rfl
    have hmb := (hR.mks ⟨mb, mn, mc⟩ (by simp)).2
    have x0 : wr.cell? ⟨mb, 0, none⟩ = some (.int .i64 (mn : Int)) := hmb.cell (i := 0) rfl
    have x2 : wr.cell? ⟨mb, 2, none⟩ = some (.bool false) := hmb.cell (i := 2) rfl
    have hlm := hmb.lt
    have hll := hR.blk.lt
    have hfn := hR.fn
    have hBw : B ≤ wr.heap.size := by have := hR.hB; omega
    unfold maxLen at hcm2
    replace hLd := Lib.hid hLd
    replace hI := Lib.hid hI
    replace hLn := Lib.hid hLn
    replace hjl := Lib.hid hjl
    replace hfn := Lib.hid hfn
    clear hR hnr hmb
    by_cases hlt2 : mn < j
    · obtain ⟨i, rfl⟩ : ∃ i, j = i + 1 := ⟨j - 1, by omega⟩
      have hif : i < fs.length := by omega
      have hd : decide (mn < i + 1) = true := by simpa using hlt2
      obtain ⟨k, cap, hfi⟩ := hfn.out fs[i] (by rw [take_snocV fs i hif]; exact List.mem_append_right _ (List.mem_singleton.2 rfl))
      have hts := take_snocV fs i hif
      rw [hfi] at hts
      have htk : ∀ n, LogAt (wr.drewN n) B lb most nest (ms ++ [⟨mb, mn, mc⟩]) (fs.take i ++ [.func (.func k) #[] cap]) c := fun n => by rw [← hts]; exact hLd.out n
      have hcl : ∀ W, I (i + 1) W → Enters Tryz.prog k ∧ Calls Tryz.prog k cap W fun e W' => e = .returned (.tuple #[]) ∧ I i W' ∧ KeepL W W' := fun W hW => by
        obtain ⟨k', cap', h1, h2, h3⟩ := call.out i W hif (by omega) hW
        rw [hfi] at h1
        obtain ⟨e1, _, e2⟩ := Value.func.inj h1
        obtain rfl := Fn.func.inj e1
        subst e2
        exact ⟨h2, h3⟩
      replace hfi := Lib.hid hfi
      replace hts := Lib.hid hts
      replace htk := Lib.hid htk
      replace hcl := Lib.hid hcl
      go_wp2_with fail
      go_quiet (fail)
      go_wp2_with fail
      refine (takeLast_any (htk.out nq)).mono ?_
      rintro e w1 ⟨rfl, hL1, hF1⟩
      have hI1 := keep.out (i + 1) wr w1 hI.out ((Fr.drewN _ _ _ _ _).trans hF1)
      obtain ⟨hen, hcall⟩ := hcl.out w1 hI1
      have hdo := do_any k cap (fun W' => I i W' ∧ KeepL w1 W') w1 hen hcall
      replace hL1 := Lib.hid hL1
      replace hdo := Lib.hid hdo
      clear hen hcall hI1 hF1 x0 x2 c3
      go_wp2_with fail
      refine hdo.out.mono ?_
      rintro e w2 ⟨rfl, hI2, hK2⟩
      have hL2 := hL1.out.keep hK2
      have hm : lenN lb w2 < lenN lb wr := by
        rw [hL2.lenN, hLn.out, List.length_take]
        omega
      replace hL2 := Lib.hid hL2
      replace hI2 := Lib.hid hI2
      clear hdo hK2
      go_wp2
      go_roundw
      case rel => exact ⟨i, by omega, by omega, hL2.out, hI2.out⟩
      case measure => exact hm
    · obtain rfl : mn = j := by omega
      have hd : decide (mn < mn) = false := by simp
      have hcl : ∀ n, LogAt (wr.drewN n) B lb most nest (ms ++ [⟨mb, mn, mc⟩]) FT c := fun n => by rw [← hFT.out]; exact hLd.out n
      have hcc2 := fun n => close_any (hcl n) (by rw [← hFT.out, hjl.out]; exact hmc)
      rw [hK.out] at hcc2
      have hI2 : ∀ n, I mn (wr.drewN n) := fun n => keep.out mn wr _ hI.out (Fr.drewN _ _ _ _ _)
      unfold ptrV at hcc2
      replace hcc2 := Lib.hid hcc2
      replace hI2 := Lib.hid hI2
      clear hcl
      go_wp2_with fail
      go_quiet (fail)
      go_wp2_with fail
      refine (hcc2.out nq).mono ?_
      rintro e w1 ⟨rfl, hL1, hF1⟩
      have hI1 := keep.out mn _ w1 (hI2.out nq) hF1
      replace hL1 := Lib.hid hL1
      replace hI1 := Lib.hid hI1
      clear hF1 x0 x2 c3
      go_wp2
      go_ret
      exact ⟨rfl, hL1.out, hI1.out⟩
end
structure Pt where
  v : Int
  n : Nat
def partC (p : Pt) : List Value := [.int .i64 p.v, .int .i64 (p.n : Int)]
def partsC (ps : List Pt) : List Value := ps.flatMap partC
def procC (fb tb lb : Nat) (ps : List Pt) : List Value := ptrV fb :: ptrV tb :: ptrV lb :: partsC ps
theorem partsC_cons (p : Pt) (ps : List Pt) : partsC (p :: ps) = .int .i64 p.v :: .int .i64 (p.n : Int) :: partsC ps := rfl
theorem partsC_at {ps : List Pt} {i : Nat} {p : Pt} (h : ps[i]? = some p) : (partsC ps)[2 * i]? = some (.int .i64 p.v) ∧ (partsC ps)[2 * i + 1]? = some (.int .i64 (p.n : Int)) := by
  induction ps generalizing i with
  | nil => simp at h
  | cons q ps ih =>
    rw [partsC_cons]
    cases i with
    | zero => simp at h; subst h; exact ⟨rfl, rfl⟩
    | succ i =>
      have := ih (i := i) (by simpa using h)
      rw [show 2 * (i + 1) = 2 * i + 1 + 1 by omega, show 2 * i + 1 + 1 + 1 = (2 * i + 1) + 1 + 1 by omega]
      simpa using this
theorem partsC_set {ps : List Pt} {i : Nat} {p : Pt} (h : ps[i]? = some p) (v : Int) (n : Nat) : ((partsC ps).set (2 * i) (.int .i64 v)).set (2 * i + 1) (.int .i64 (n : Int)) = partsC (ps.set i ⟨v, n⟩) := by
  induction ps generalizing i with
  | nil => simp at h
  | cons q ps ih =>
    cases i with
    | zero => rfl
    | succ i =>
      have := ih (i := i) (by simpa using h)
      rw [partsC_cons, List.set_cons_succ, partsC_cons, show 2 * (i + 1) = 2 * i + 1 + 1 by omega, show 2 * i + 1 + 1 + 1 = (2 * i + 1) + 1 + 1 by omega]
      simp only [List.set_cons_succ]
      rw [this]
theorem partsC_setv {ps : List Pt} {i : Nat} {p : Pt} (h : ps[i]? = some p) (v : Int) : (partsC ps).set (2 * i) (.int .i64 v) = partsC (ps.set i ⟨v, p.n⟩) := by
  rw [← partsC_set h v p.n]
  refine (List.ext_getElem? fun j => ?_)
  rw [List.getElem?_set, List.getElem?_set, List.getElem?_set]
  by_cases hj : 2 * i + 1 = j
  · subst hj
    rw [if_neg (by omega), if_pos rfl, List.length_set]
    have := (partsC_at h).2
    rw [this, if_pos (List.getElem?_eq_some_iff.1 this).1]
  · rw [if_neg hj]
theorem procC_v {fb tb lb : Nat} {ps : List Pt} {i : Nat} {p : Pt} (h : ps[i]? = some p) : (procC fb tb lb ps)[3 + i * 2]? = some (.int .i64 p.v) := by
  rw [show 3 + i * 2 = 2 * i + 1 + 1 + 1 by omega]; simpa [procC] using (partsC_at h).1
theorem procC_n {fb tb lb : Nat} {ps : List Pt} {i : Nat} {p : Pt} (h : ps[i]? = some p) : (procC fb tb lb ps)[3 + i * 2 + 1]? = some (.int .i64 (p.n : Int)) := by
  rw [show 3 + i * 2 + 1 = (2 * i + 1) + 1 + 1 + 1 by omega]; simpa [procC] using (partsC_at h).2
theorem procC_setv {fb tb lb : Nat} {ps : List Pt} {i : Nat} {p : Pt} (h : ps[i]? = some p) (v : Int) : (procC fb tb lb ps).set (3 + i * 2) (.int .i64 v) = procC fb tb lb (ps.set i ⟨v, p.n⟩) := by
  rw [show 3 + i * 2 = 2 * i + 1 + 1 + 1 by omega]
  unfold procC
  rw [← partsC_setv h v]
  rfl
theorem procC_set {fb tb lb : Nat} {ps : List Pt} {i : Nat} {p : Pt} (h : ps[i]? = some p) (v : Int) (n : Nat) : ((procC fb tb lb ps).set (3 + i * 2) (.int .i64 v)).set (3 + i * 2 + 1) (.int .i64 (n : Int)) = procC fb tb lb (ps.set i ⟨v, n⟩) := by
  rw [show 3 + i * 2 + 1 = (2 * i + 1) + 1 + 1 + 1 by omega, show 3 + i * 2 = 2 * i + 1 + 1 + 1 by omega]
  unfold procC
  rw [← partsC_set h v n]
  rfl
structure PCh (B : Nat) (F F' : Nat → Prop) (pb : Nat) (w w' : World) : Prop where
  os : w'.os = w.os
  tape : w'.tape = w.tape
  output : w'.output = w.output
  size : w.heap.size ≤ w'.heap.size
  low : ∀ b, b < B → w'.heap[b]? = w.heap[b]?
  block : ∀ b, b < w.heap.size → ¬ F b → b ≠ pb → ¬ LogB w b → w'.heap[b]? = w.heap[b]?
  foot : ∀ b, b < w.heap.size → ¬ F b → ¬ F' b
section
variable {B pb : Nat} {F F' F'' : Nat → Prop} {w w' w'' : World}
theorem logB_congr {b : Nat} (h : w'.heap[b]? = w.heap[b]?) : LogB w' b ↔ LogB w b := by unfold LogB; rw [h]
theorem PCh.refl (B : Nat) (F : Nat → Prop) (pb : Nat) (w : World) : PCh B F F pb w w := ⟨rfl, rfl, rfl, Nat.le_refl _, fun _ _ => rfl, fun _ _ _ _ _ => rfl, fun _ _ h => h⟩
theorem PCh.trans (h : PCh B F F' pb w w') (k : PCh B F' F'' pb w' w'') : PCh B F F'' pb w w'' :=
  ⟨k.os.trans h.os, k.tape.trans h.tape, k.output.trans h.output, Nat.le_trans h.size k.size, fun b hb => (k.low b hb).trans (h.low b hb), fun b hb hf hp hl => by
    have e := h.block b hb hf hp hl
    exact (k.block b (Nat.lt_of_lt_of_le hb h.size) (h.foot b hb hf) hp (fun q => hl ((logB_congr e).1 q))).trans e,
   fun b hb hf => k.foot b (Nat.lt_of_lt_of_le hb h.size) (h.foot b hb hf)⟩
theorem PCh.of_chg (h : Chg F F' w w') (hF : ∀ g, F g → B ≤ g) (hB : B ≤ w.heap.size) (pb : Nat) : PCh B F F' pb w w' :=
  ⟨h.os, h.tape, h.output, h.size, fun b hb => h.block b (by omega) fun q => by have := hF b q; omega, fun b hb hf _ _ => h.block b hb hf, h.foot⟩
theorem PCh.of_fr (h : Fr B LogT (fun _ => False) w w') (F : Nat → Prop) (hB : B ≤ w.heap.size) (pb : Nat) : PCh B F F pb w w' :=
  ⟨h.os, h.tape, h.output, h.size, fun b hb => h.keep b (by omega) (.inl hb), fun b hb _ _ hl => h.keep b hb (.inr ⟨id, fun cur t f hc ht => hl ⟨cur, t, f, hc, ht⟩⟩), fun _ _ h => h⟩
theorem PCh.of_grown (h : w.grownBy w' none) (F : Nat → Prop) (hB : B ≤ w.heap.size) (pb : Nat) : PCh B F F pb w w' :=
  ⟨h.os, h.tape, h.output, h.size, fun b hb => h.block b (by omega) (by simp), fun b hb _ _ _ => h.block b hb (by simp), fun _ _ h => h⟩
theorem PCh.set (B : Nat) (F : Nat → Prop) (w : World) (hpb : B ≤ pb) (i : Nat) (u : Value) : PCh B F F pb w (w.setCell ⟨pb, i, none⟩ u) :=
  ⟨rfl, rfl, rfl, by simp [World.setCell], fun b hb => heap_setCell_other w _ b u (by show b ≠ pb; omega), fun b _ _ hp _ => heap_setCell_other w _ b u hp, fun _ _ h => h⟩
theorem PCh.below (h : PCh B F F' pb w w') : Below B w w' := ⟨h.os, h.tape, h.output, h.size, h.low⟩
def Kq (w : World) (F : Nat → Prop) (pb z : Nat) (C : List Value) (t : TypeId) : Prop := Blk w z C t ∧ ¬ F z ∧ z ≠ pb ∧ ¬ LogT t
theorem Kq.blk {z : Nat} {C : List Value} {t : TypeId} (h : Kq w F pb z C t) : Blk w z C t := h.1
theorem Kq.ch {z : Nat} {C : List Value} {t : TypeId} (h : Kq w F pb z C t) (c : PCh B F F' pb w w') : Kq w' F' pb z C t :=
  ⟨(c.block z h.1.lt h.2.1 h.2.2.1 (h.1.noLog h.2.2.2)).trans h.1, c.foot z h.1.lt h.2.1, h.2.2⟩
end
def freeV (pb i : Nat) : Value :=
  if i < 16 then .func (.func 84) #[ptrV pb] #[]
  else if i = 16 then .func (.func 121) #[ptrV pb] #[]
  else .func (.func 122) #[] #[]
def partP (pb i : Nat) : Value := .pointer (some ⟨pb, 3 + i * 2, none⟩)
def NoteAt (w : World) (F : Nat → Prop) (pb : Nat) (fv : Value) (n : Nat × Pt) : Prop :=
  n.1 < 18 ∧ ∃ bx bw bf, fv = .func (.func 130) #[] #[ptrV bx, ptrV bw, ptrV bf] ∧ Kq w F pb bx [partP pb n.1] 128 ∧ Kq w F pb bw (partC n.2) 123 ∧ Kq w F pb bf [freeV pb n.1] 129
theorem NoteAt.ch {B pb : Nat} {F F' : Nat → Prop} {w w' : World} {fv : Value} {n : Nat × Pt} (h : NoteAt w F pb fv n) (c : PCh B F F' pb w w') : NoteAt w' F' pb fv n := by
  obtain ⟨h0, bx, bw, bf, e, h1, h2, h3⟩ := h
  exact ⟨h0, bx, bw, bf, e, h1.ch c, h2.ch c, h3.ch c⟩
def LogP (w : World) (B : Nat) (F : Nat → Prop) (pb lb most nest : Nat) (ns : List (Nat × Pt)) (mk : List Nat) : Prop :=
  ∃ ms fs, LogAt w B lb most nest ms fs ns.length ∧ fs.length = ns.length ∧ ms.map Mk.notes = mk ∧ (∀ m ∈ ms, m.count = m.notes) ∧ ∀ (j : Nat) n, ns[j]? = some n → ∃ fv, fs[j]? = some fv ∧ NoteAt w F pb fv n
structure PrR (w : World) (B : Nat) (F : Nat → Prop) (c : Sy) (pb lb most nest : Nat) (s : St) (ps : List Pt) (ns : List (Nat × Pt)) (mk : List Nat) : Prop where
  sys : Sys w F c s
  log : LogP w B F pb lb most nest ns mk
  prc : Blk w pb (procC c.fb c.tb lb ps) 126
  npb : ¬ F pb
  len : ps.length = 18
  nl : ∀ g, F g → ¬ LogB w g
  hF : ∀ g, F g → B ≤ g
  hpb : B ≤ pb
theorem nl_proc : ¬ LogT 126 := by unfold LogT; decide
theorem nl_pp : ¬ LogT 128 := by unfold LogT; decide
theorem nl_part : ¬ LogT 123 := by unfold LogT; decide
theorem nl_fn : ¬ LogT 129 := by unfold LogT; decide
section
variable {B pb lb most nest : Nat} {F F' : Nat → Prop} {w w' : World} {c : Sy} {s s' : St} {ps : List Pt} {ns : List (Nat × Pt)} {mk : List Nat}
theorem LogP.lt (h : LogP w B F pb lb most nest ns mk) : B ≤ lb ∧ lb < w.heap.size := by
  obtain ⟨ms, fs, ⟨mv, nv, h⟩, _⟩ := h
  exact ⟨h.hB, h.blk.lt⟩
theorem LogP.keep (h : LogP w B F pb lb most nest ns mk) (k : KeepL w w') (c : PCh B F F' pb w w') : LogP w' B F' pb lb most nest ns mk := by
  obtain ⟨ms, fs, h1, h2, h3, h4, h5⟩ := h
  exact ⟨ms, fs, h1.keep k, h2, h3, h4, fun j n hn => by obtain ⟨fv, q1, q2⟩ := h5 j n hn; exact ⟨fv, q1, q2.ch c⟩⟩
theorem PrR.hB (h : PrR w B F c pb lb most nest s ps ns mk) : B ≤ w.heap.size := by have := h.log.lt; omega
theorem PrR.sysStep (h : PrR w B F c pb lb most nest s ps ns mk) (hs : Sys w' F' c s') (k : Chg F F' w w') : ∃ F'', PrR w' B F'' c pb lb most nest s' ps ns mk ∧ PCh B F F'' pb w w' := by
  have k2 : Chg F (fun g => F' g ∧ ¬ LogB w' g) w w' := k.mono (fun _ h => h) fun b _ hb => .inl hb.1
  have hp := PCh.of_chg k2 h.hF h.hB pb
  have hk : KeepL w w' := ⟨k.size, fun b cur t f hb ht => k.block b (Array.getElem?_eq_some_iff.1 hb).1 fun hf => h.nl b hf ⟨cur, t, f, hb, ht⟩⟩
  refine ⟨_, ⟨hs.shrink, h.log.keep hk hp, (k.block pb h.prc.lt h.npb).trans h.prc, hp.foot pb h.prc.lt h.npb, h.len, fun g hg => hg.2, fun g hg => ?_, h.hpb⟩, hp⟩
  by_cases hlt : g < w.heap.size
  · exact h.hF g (Classical.byContradiction fun hf => k.foot g hlt hf hg.1)
  · have := h.hB; omega
theorem PrR.logStep {ns' : List (Nat × Pt)} {mk' : List Nat} (h : PrR w B F c pb lb most nest s ps ns mk) (k : Fr B LogT (fun _ => False) w w') (hl : LogP w' B F pb lb most nest ns' mk') : PrR w' B F c pb lb most nest s ps ns' mk' ∧ PCh B F F pb w w' := by
  have hp := PCh.of_fr k F h.hB pb
  have hkeep : ∀ g, F g → w'.heap[g]? = w.heap[g]? := fun g hg => k.keep g (h.sys.lt hg) (.inr ⟨id, fun cur t f hc ht => h.nl g hg ⟨cur, t, f, hc, ht⟩⟩)
  exact ⟨⟨h.sys.keep k.size hkeep, hl, h.prc.fr k nl_proc id, h.npb, h.len, fun g hg => by rw [logB_congr (hkeep g hg)]; exact h.nl g hg, h.hF, h.hpb⟩, hp⟩
theorem PrR.grown (h : PrR w B F c pb lb most nest s ps ns mk) (g : w.grownBy w' none) : PrR w' B F c pb lb most nest s ps ns mk ∧ PCh B F F pb w w' := by
  have hp := PCh.of_grown g F h.hB pb
  have hkeep : ∀ b, b < w.heap.size → w'.heap[b]? = w.heap[b]? := fun b hb => g.block b hb (by simp)
  exact ⟨⟨h.sys.grown g, h.log.keep ⟨g.size, fun b cur t f hb _ => hkeep b (Array.getElem?_eq_some_iff.1 hb).1⟩ hp, (hkeep pb h.prc.lt).trans h.prc, h.npb, h.len, fun b hb => by rw [logB_congr (hkeep b (h.sys.lt hb))]; exact h.nl b hb, h.hF, h.hpb⟩, hp⟩
theorem PrR.set1 {i : Nat} {u : Value} {ps' : List Pt} (h : PrR w B F c pb lb most nest s ps ns mk) (hC : (procC c.fb c.tb lb ps).set i u = procC c.fb c.tb lb ps') (hlen : ps'.length = 18) : PrR (w.setCell ⟨pb, i, none⟩ u) B F c pb lb most nest s ps' ns mk := by
  have hp : PCh B F F pb w (w.setCell ⟨pb, i, none⟩ u) := PCh.set B F w h.hpb i u
  have hkeep : ∀ b, b ≠ pb → (w.setCell ⟨pb, i, none⟩ u).heap[b]? = w.heap[b]? := fun b hb => heap_setCell_other w _ b u hb
  have hne : ∀ g, F g → g ≠ pb := fun g hg e => h.npb (e ▸ hg)
  refine ⟨h.sys.keep hp.size fun g hg => hkeep g (hne g hg), h.log.keep ⟨hp.size, fun b cur t f hb ht => hkeep b fun e => ?_⟩ hp, by rw [← hC]; exact h.prc.set i u, h.npb, hlen, fun g hg => by rw [logB_congr (hkeep g (hne g hg))]; exact h.nl g hg, h.hF, h.hpb⟩
  subst e
  exact h.prc.noLog nl_proc ⟨cur, t, f, hb, ht⟩
theorem PrR.part (h : PrR w B F c pb lb most nest s ps ns mk) {i : Nat} (hi : i < 18) : ∃ p, ps[i]? = some p := ⟨_, List.getElem?_eq_getElem (by have := h.len; omega)⟩
end
end Go.Proofs.YtfofpphnglhopaaGreatDoor
namespace Go.Proofs.YtfofpphnglhopaaGreatDoor
open Go Go.RowKit
abbrev Nts := List (Nat × Pt)
def b1 (p : Prop) [Decidable p] : Nat := if p then 1 else 0
def useP (k : Int) (ps : List Pt) : Nat := ((ps.take 16).filter fun p => decide (p.v = k)).length
def useN (k : Int) (ns : Nts) : Nat := (ns.filter fun n => decide (n.1 < 16 ∧ n.2.v = k)).length
def uses (k : Int) (ps : List Pt) (ns : Nts) : Nat := useP k ps + useN k ns
def dirQ (k : Int) (ps : List Pt) : Nat := match ps[16]? with | some p => b1 (p.v = k) | none => 0
def dirN (k : Int) (ns : Nts) : Nat := (ns.filter fun n => decide (n.1 = 16 ∧ n.2.v = k)).length
def dirs (k : Int) (ps : List Pt) (ns : Nts) : Nat := dirQ k ps + dirN k ns
def base (k : Int) : Nat := b1 (1 ≤ k ∧ k ≤ 4)
def back : Nts → List Pt → List Pt
  | [], ps => ps
  | (i, q) :: l, ps => (back l ps).set i q
theorem filter_set {α : Type} {f : α → Bool} {l : List α} {i : Nat} {p : α} (h : l[i]? = some p) (q : α) : ((l.set i q).filter f).length + (if f p then 1 else 0) = (l.filter f).length + (if f q then 1 else 0) := by
  induction l generalizing i with
  | nil => cases h
  | cons a l ih =>
    cases i with
    | zero =>
      obtain rfl : a = p := by simpa using h
      rw [List.set_cons_zero, List.filter_cons, List.filter_cons]
      split <;> split <;> simp
    | succ i =>
      have := ih (i := i) (by simpa using h)
      rw [List.set_cons_succ, List.filter_cons, List.filter_cons]
      by_cases ha : f a = true
      · rw [if_pos ha, if_pos ha, List.length_cons, List.length_cons]
        omega
      · rw [if_neg ha, if_neg ha]
        exact this
theorem useP_set {ps : List Pt} {i : Nat} {p : Pt} (h : ps[i]? = some p) (hi : i < 16) (q : Pt) (k : Int) : useP k (ps.set i q) + b1 (p.v = k) = useP k ps + b1 (q.v = k) := by
  unfold useP b1
  rw [List.take_set]
  have := filter_set (f := fun p : Pt => decide (p.v = k)) (l := ps.take 16) (i := i) (p := p) (by rw [List.getElem?_take, if_pos hi]; exact h) q
  simpa using this
theorem useP_far {ps : List Pt} {i : Nat} (hi : 16 ≤ i) (q : Pt) (k : Int) : useP k (ps.set i q) = useP k ps := by
  unfold useP
  rw [List.take_set, List.set_eq_of_length_le (by rw [List.length_take]; omega)]
theorem useN_snoc (k : Int) (ns : Nts) (n : Nat × Pt) : useN k (ns ++ [n]) = useN k ns + b1 (n.1 < 16 ∧ n.2.v = k) := by
  unfold useN b1
  rw [List.filter_append, List.length_append]
  congr 1
  rw [List.filter_cons]
  by_cases h : n.1 < 16 ∧ n.2.v = k
  · rw [if_pos (by simpa using h), if_pos h]; rfl
  · rw [if_neg (by simpa using h), if_neg h]; rfl
theorem dirN_snoc (k : Int) (ns : Nts) (n : Nat × Pt) : dirN k (ns ++ [n]) = dirN k ns + b1 (n.1 = 16 ∧ n.2.v = k) := by
  unfold dirN b1
  rw [List.filter_append, List.length_append]
  congr 1
  rw [List.filter_cons]
  by_cases h : n.1 = 16 ∧ n.2.v = k
  · rw [if_pos (by simpa using h), if_pos h]; rfl
  · rw [if_neg (by simpa using h), if_neg h]; rfl
theorem dirQ_set {ps : List Pt} {p : Pt} (h : ps[16]? = some p) (q : Pt) (k : Int) : dirQ k (ps.set 16 q) + b1 (p.v = k) = dirQ k ps + b1 (q.v = k) := by
  have hl := (List.getElem?_eq_some_iff.1 h).1
  unfold dirQ
  rw [List.getElem?_set_self hl, h]
  exact Nat.add_comm _ _
theorem dirQ_far {ps : List Pt} {i : Nat} (hi : i ≠ 16) (q : Pt) (k : Int) : dirQ k (ps.set i q) = dirQ k ps := by
  unfold dirQ
  rw [List.getElem?_set_ne hi]
theorem take_snoc {α : Type} {l : List α} {j : Nat} {x : α} (h : l[j]? = some x) : l.take (j + 1) = l.take j ++ [x] := by
  rw [List.take_add_one, h]
  rfl
theorem back_app (a b : Nts) (ps : List Pt) : back (a ++ b) ps = back a (back b ps) := by
  induction a with
  | nil => rfl
  | cons n l ih => rw [List.cons_append, back, ih, back]
theorem back_far {ns : Nts} {i : Nat} (h : ∀ n ∈ ns, n.1 ≠ i) (ps : List Pt) : (back ns ps)[i]? = ps[i]? := by
  induction ns with
  | nil => rfl
  | cons n l ih =>
    rw [back, List.getElem?_set_ne (h n (.head _))]
    exact ih fun m hm => h m (.tail _ hm)
theorem back_set {ns : Nts} {i : Nat} (ps : List Pt) (x : Pt) : back ns (ps.set i x) = back ns ps ∨ ((∀ n ∈ ns, n.1 ≠ i) ∧ back ns (ps.set i x) = (back ns ps).set i x) := by
  induction ns with
  | nil => exact .inr ⟨nofun, rfl⟩
  | cons n l ih =>
    obtain ⟨j, q⟩ := n
    simp only [back]
    rcases ih with e | ⟨h, e⟩
    · exact .inl (by rw [e])
    · by_cases hj : j = i
      · subst hj
        exact .inl (by rw [e, List.set_set])
      · refine .inr ⟨fun m hm => ?_, by rw [e, List.set_comm _ _ (Ne.symm hj)]⟩
        cases hm with
        | head => exact hj
        | tail _ hm => exact h m hm
theorem back_note {ns : Nts} {ps : List Pt} {i : Nat} {p : Pt} (h : ps[i]? = some p) (x : Pt) : back (ns ++ [(i, p)]) (ps.set i x) = back ns ps := by
  rw [back_app]
  show back ns (((ps.set i x)).set i p) = _
  obtain ⟨h1, h2⟩ := List.getElem?_eq_some_iff.1 h
  rw [List.set_set, ← h2, List.set_getElem_self]
def LV : List Nat → Nts → List Pt → Prop
  | [], ns, ps => ns = [] ∧ ∀ p ∈ ps, p.n = 0
  | m :: r, ns, ps => m ≤ ns.length ∧ (∀ p ∈ ps, p.n ≤ r.length + 1) ∧ LV r (ns.take m) (back (ns.drop m) ps)
theorem LV.le {mk : List Nat} {ns : Nts} {ps : List Pt} (h : LV mk ns ps) : ∀ p ∈ ps, p.n ≤ mk.length := by
  cases mk with
  | nil => intro p hp; rw [h.2 p hp]; exact Nat.zero_le _
  | cons m r => exact h.2.1
theorem LV.mark {mk : List Nat} {ns : Nts} {ps : List Pt} (h : LV mk ns ps) : LV (ns.length :: mk) ns ps := by
  refine ⟨Nat.le_refl _, fun p hp => Nat.le_succ_of_le (h.le p hp), ?_⟩
  rw [List.take_length, List.drop_length]
  exact h
theorem mem_set_or {α : Type} {l : List α} {i : Nat} {x y : α} (h : y ∈ l.set i x) : y = x ∨ y ∈ l := (List.mem_or_eq_of_mem_set h).symm
theorem back_now {ns : Nts} {ps ps0 : List Pt} {i : Nat} {p : Pt} {j : Nat} (h : ps[i]? = some p) (hb : back ns ps = ps0) (h0 : ∀ p ∈ ps0, p.n ≤ j) (hn : j < p.n) (x : Pt) : back ns (ps.set i x) = ps0 := by
  rcases back_set (ns := ns) (i := i) ps x with e | ⟨e, _⟩
  · rw [e]; exact hb
  · have h1 := back_far e ps
    rw [hb, h] at h1
    have := h0 p (List.mem_of_getElem? h1)
    omega
theorem LV.now {mk : List Nat} {ns : Nts} {ps : List Pt} (h : LV mk ns ps) {i : Nat} {p : Pt} (hp : ps[i]? = some p) (hn : p.n = mk.length) (v : Int) : LV mk ns (ps.set i ⟨v, p.n⟩) := by
  cases mk with
  | nil =>
    refine ⟨h.1, fun q hq => ?_⟩
    rcases mem_set_or hq with rfl | hq
    · exact hn
    · exact h.2 q hq
  | cons m r =>
    obtain ⟨h1, h2, h3⟩ := h
    refine ⟨h1, fun q hq => ?_, ?_⟩
    · rcases mem_set_or hq with rfl | hq
      · exact h2 p (List.mem_of_getElem? hp)
      · exact h2 q hq
    · rw [back_now hp rfl h3.le (by rw [hn, List.length_cons]; omega)]
      exact h3
theorem LV.note {m : Nat} {r : List Nat} {ns : Nts} {ps : List Pt} (h : LV (m :: r) ns ps) {i : Nat} {p : Pt} (hp : ps[i]? = some p) (v : Int) : LV (m :: r) (ns ++ [(i, p)]) (ps.set i ⟨v, r.length + 1⟩) := by
  obtain ⟨h1, h2, h3⟩ := h
  refine ⟨by rw [List.length_append]; omega, fun q hq => ?_, ?_⟩
  · rcases mem_set_or hq with rfl | hq
    · exact Nat.le_refl _
    · exact h2 q hq
  · rw [List.take_append_of_le_length h1, List.drop_append_of_le_length h1, back_note hp]
    exact h3
inductive PSt (most : Nat) : List Pt → Nts → List Nat → List Pt → Nts → List Nat → Prop
  | same (ps ns mk) : PSt most ps ns mk ps ns mk
  | now {ps ns mk i p} (v : Int) : ps[i]? = some p → p.n = mk.length → PSt most ps ns mk (ps.set i ⟨v, p.n⟩) ns mk
  | note {ps ns mk i p} (v : Int) : ps[i]? = some p → p.n ≠ mk.length → mk ≠ [] → PSt most ps ns mk (ps.set i ⟨v, mk.length⟩) (ns ++ [(i, p)]) mk
  | mark (ps ns mk) : PSt most ps ns mk ps ns (mk ++ [ns.length])
  | undo {ps ns mk m} : m ≤ ns.length → PSt most ps ns (mk ++ [m]) (back (ns.drop m) ps) (ns.take m) mk
theorem PSt.lv {most : Nat} {ps ps' : List Pt} {ns ns' : Nts} {mk mk' : List Nat} (t : PSt most ps ns mk ps' ns' mk') (h : LV mk.reverse ns ps) : LV mk'.reverse ns' ps' := by
  cases t with
  | same => exact h
  | now v h1 h2 => exact h.now h1 (by rw [List.length_reverse]; exact h2) v
  | note v h1 h2 h3 =>
    obtain ⟨m, r, e⟩ : ∃ m r, mk.reverse = m :: r := by
      cases hr : mk.reverse with
      | nil => exact absurd (by simpa using hr) h3
      | cons m r => exact ⟨m, r, rfl⟩
    have hl : mk.length = r.length + 1 := by rw [← List.length_reverse, e, List.length_cons]
    rw [e] at h ⊢
    rw [hl]
    exact h.note h1 v
  | mark => rw [List.reverse_append]; exact h.mark
  | undo h1 =>
    rw [List.reverse_append] at h
    exact h.2.2
def Since (ps0 : List Pt) (ns0 : Nts) (mk0 : List Nat) (ps : List Pt) (ns : Nts) (mk : List Nat) : Prop :=
  ∃ ns1 mk1, ns = ns0 ++ ns1 ∧ mk = mk0 ++ ns0.length :: mk1 ∧ back ns1 ps = ps0 ∧ ∀ m ∈ mk1, ns0.length ≤ m
theorem PSt.since {most : Nat} {ps0 ps ps' : List Pt} {ns0 ns ns' : Nts} {mk0 mk mk' : List Nat} (t : PSt most ps ns mk ps' ns' mk') (h0 : ∀ p ∈ ps0, p.n ≤ mk0.length) (h : Since ps0 ns0 mk0 ps ns mk) (hm : mk0.length < mk'.length) : Since ps0 ns0 mk0 ps' ns' mk' := by
  obtain ⟨ns1, mk1, e1, e2, e3, e4⟩ := h
  cases t with
  | same => exact ⟨ns1, mk1, e1, e2, e3, e4⟩
  | now v h1 h2 => exact ⟨ns1, mk1, e1, e2, back_now h1 e3 h0 (by rw [h2]; exact hm) _, e4⟩
  | note v h1 h2 h3 => exact ⟨ns1 ++ [_], mk1, by rw [e1, List.append_assoc], e2, by rw [back_note h1]; exact e3, e4⟩
  | mark => exact ⟨ns1, mk1 ++ [ns.length], e1, by rw [e2, List.append_assoc]; rfl, e3, fun m hm => by
      rcases List.mem_append.1 hm with hm | hm
      · exact e4 m hm
      · obtain rfl : m = ns.length := by simpa using hm
        rw [e1, List.length_append]; omega⟩
  | undo h1 =>
    rename_i m
    rcases List.eq_nil_or_concat mk1 with rfl | ⟨r, x, e5⟩
    · have := congrArg List.length e2
      simp only [List.length_append, List.length_cons, List.length_nil] at this
      omega
    · obtain rfl : mk1 = r ++ [x] := by rw [e5]; simp
      rw [← List.cons_append, ← List.append_assoc] at e2
      obtain ⟨e6, e7⟩ := List.append_inj' e2 rfl
      obtain rfl : m = x := by simpa using e7
      have h2 := e4 m (by simp)
      refine ⟨ns1.take (m - ns0.length), r, ?_, e6, ?_, fun y hy => e4 y (by simp [hy])⟩
      · rw [e1, List.take_append, List.take_of_length_le h2]
      · rw [e1, List.drop_append, List.drop_of_length_le h2, List.nil_append, ← back_app, List.take_append_drop]
        exact e3
theorem since_mark {ps : List Pt} {ns : Nts} {mk : List Nat} : Since ps ns mk ps ns (mk ++ [ns.length]) := ⟨[], [], by simp, rfl, rfl, nofun⟩
theorem Since.done {ps0 ps : List Pt} {ns0 ns : Nts} {mk0 mk : List Nat} {m : Nat} (h : Since ps0 ns0 mk0 ps ns (mk ++ [m])) (hl : mk.length = mk0.length) : back (ns.drop m) ps = ps0 ∧ ns.take m = ns0 ∧ mk = mk0 := by
  obtain ⟨ns1, mk1, e1, e2, e3, e4⟩ := h
  obtain rfl : mk1 = [] := by
    have := congrArg List.length e2
    simp only [List.length_append, List.length_cons, List.length_nil] at this
    exact List.eq_nil_of_length_eq_zero (by omega)
  obtain ⟨e6, e7⟩ := List.append_inj' e2 rfl
  obtain rfl : m = ns0.length := by simpa using e7
  rw [e1, List.drop_left, List.take_left]
  exact ⟨e3, rfl, e6⟩
end Go.Proofs.YtfofpphnglhopaaGreatDoor
