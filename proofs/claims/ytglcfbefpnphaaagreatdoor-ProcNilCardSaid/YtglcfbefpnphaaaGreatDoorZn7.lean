/-
  A log in memory; isNil, refusal, Marks, Len of it, and of no log; New. Conditions: none.
-/
import Derived.Test.YtglcfbefpnphaaaGreatDoorProg
import Derived.Deep.RegionHeld3
import Derived.Deep.QuietTactic
import Derived.BigQuiet
import Derived.OwnWalk
import Derived.WalkSpells
import Derived.Test.YtglcfbefpnphaaaGreatDoorZn1
import Derived.Test.YtglcfbefpnphaaaGreatDoorZn4
import Derived.Test.YtglcfbefpnphaaaGreatDoorZn6
namespace Go.Proofs.YtglcfbefpnphaaaGreatDoor
open Go Go.RowKit Go.ChangeMaps

/-- A function value as notes are. -/
def IsFn (v : Value) : Prop := ∃ (k : Nat) (cap : Array Value), v = .func (.func k) #[] cap
theorem Blk.ne {w : World} {a b : Nat} {cur cur' : List Value} {t t' : TypeId} (h : Blk w a cur t) (k : Blk w b cur' t') (ht : t ≠ t') : a ≠ b := fun e => by
  subst e
  have := h.symm.trans k
  simp only [Option.some.injEq, Obj.cells.injEq] at this
  exact ht this.2.1
theorem Row.ne {w : World} {B a : Nat} {e t : TypeId} {v : Value} {n : Nat} {xs cur : List Value} (h : Row w B e v n xs) (k : Blk w a cur t) (ht : e ≠ t) {g : Nat} (hg : v.ownBlock = some g) : g ≠ a := by
  obtain ⟨_, _, cur', hb⟩ := h.lt hg
  exact hb.ne k ht
theorem Row.ne2 {w : World} {B B' : Nat} {e t : TypeId} {v v' : Value} {n n' : Nat} {xs xs' : List Value} (h : Row w B e v n xs) (k : Row w B' t v' n' xs') (ht : e ≠ t) {g g' : Nat} (hg : v.ownBlock = some g) (hg' : v'.ownBlock = some g') : g ≠ g' := by
  obtain ⟨_, _, cur', hb⟩ := h.lt hg
  obtain ⟨_, _, cur2, hb2⟩ := k.lt hg'
  exact hb.ne hb2 ht

/-- A mark: its block, and how many notes there were, and how many counted. -/
structure Mk where
  blk : Nat
  notes : Nat
  count : Nat
def logC (most nest : Nat) (mv nv : Value) (c : Nat) : List Value := [.int .i64 (most : Int), .int .i64 (nest : Int), mv, nv, .int .i64 (c : Int)]
def mkC (m : Mk) (gone : Bool) : List Value := [.int .i64 (m.notes : Int), .int .i64 (m.count : Int), .bool gone]
structure LogR (w : World) (B lb most nest : Nat) (mv : Value) (ms : List Mk) (nv : Value) (fs : List Value) (c : Nat) : Prop where
  hB : B ≤ lb
  blk : Blk w lb (logC most nest mv nv c) 121
  mrow : Row w B 220 mv ms.length (ms.map fun m => ptrV m.blk)
  nrow : Row w B 1 nv fs.length fs
  mks : ∀ m ∈ ms, B ≤ m.blk ∧ Blk w m.blk (mkC m false) 222
  ap : (ms.map Mk.blk).Nodup
  nest1 : 1 ≤ nest
  nest2 : nest ≤ 1024
  most2 : most ≤ 1048576
  cp : c ≤ most
  mp : ms.length ≤ nest
  fc : fs.length ≤ c
  fn : ∀ v ∈ fs, IsFn v
  mc : ∀ m ∈ ms, m.notes ≤ m.count ∧ m.count ≤ most
/-- The types of the blocks that a log has. -/
def LogT (t : TypeId) : Prop := t = 121 ∨ t = 220 ∨ t = 1 ∨ t = 222
def LogAt (w : World) (B lb most nest : Nat) (ms : List Mk) (fs : List Value) (c : Nat) : Prop := ∃ mv nv, LogR w B lb most nest mv ms nv fs c

section
variable {w w' : World} {B lb most nest c : Nat} {mv nv : Value} {ms : List Mk} {fs : List Value}
/-- What keeps the blocks of a log's types keeps the log. -/
structure KeepL (w w' : World) : Prop where
  size : w.heap.size ≤ w'.heap.size
  keep : ∀ (b : Nat) (cur : Array Value) (t : TypeId) (f : Nat × Nat), w.heap[b]? = some (.cells cur t f) → LogT t → w'.heap[b]? = w.heap[b]?
theorem KeepL.blk (h : KeepL w w') {b : Nat} {cur : List Value} {t : TypeId} (k : Blk w b cur t) (ht : LogT t) : Blk w' b cur t := (h.keep b _ _ _ k ht).trans k
theorem KeepL.row (h : KeepL w w') {e : TypeId} {v : Value} {n : Nat} {xs : List Value} (k : Row w B e v n xs) (ht : LogT e) : Row w' B e v n xs := k.keep fun g hg => by
  obtain ⟨_, _, cur, hb⟩ := k.lt hg
  exact h.keep g _ _ _ hb ht
theorem LogR.keep (h : LogR w B lb most nest mv ms nv fs c) (k : KeepL w w') : LogR w' B lb most nest mv ms nv fs c :=
  { h with
    blk := k.blk h.blk (.inl rfl)
    mrow := k.row h.mrow (.inr (.inl rfl))
    nrow := k.row h.nrow (.inr (.inr (.inl rfl)))
    mks := fun m hm => ⟨(h.mks m hm).1, k.blk (h.mks m hm).2 (.inr (.inr (.inr rfl)))⟩ }
theorem LogAt.keep (h : LogAt w B lb most nest ms fs c) (k : KeepL w w') : LogAt w' B lb most nest ms fs c := by
  obtain ⟨mv, nv, h⟩ := h
  exact ⟨mv, nv, h.keep k⟩
theorem KeepL.drewN (w : World) (n : Nat) : KeepL w (w.drewN n) := ⟨Nat.le_refl _, fun _ _ _ _ _ _ => rfl⟩
theorem KeepL.alloc (w : World) (o : Obj) : KeepL w (w.alloc o) := ⟨by simp, fun b _ _ _ hb _ => Below.heap_alloc w o b (Array.getElem?_eq_some_iff.1 hb).1⟩
set_option maxRecDepth 100000 in
theorem lisNil_no (h : LogR w B lb most nest mv ms nv fs c) :
    Calls Tryz.prog 78 #[ptrV lb] w fun e w' => e = .returned (.bool false) ∧ w' = w := by
  have c1 := h.blk.cell (i := 1) rfl
  have hlt := h.blk.lt
  have hn : ((nest : Int) == 0) = false := by have := h.nest1; rw [beq_eq_false_iff_ne]; omega
  unfold ptrV
  clear h
  go_enter Tryz.func78, Tryz.ntmps78
  go_wp2
  go_ret
  exact ⟨rfl, rfl⟩
set_option maxRecDepth 100000 in
theorem LogMarks_any (h : LogAt w B lb most nest ms fs c) :
    Calls Tryz.prog 20 #[ptrV lb] w fun e w' => e = .returned (.int .i64 (ms.length : Int)) ∧ w' = w := by
  obtain ⟨mv, nv, h⟩ := h
  have hi := lisNil_no h
  obtain ⟨A, cc, rfl, hc, hcm⟩ := h.mrow.form
  have c2 := h.blk.cell (i := 2) rfl
  have hlt := h.blk.lt
  unfold ptrV at hi ⊢
  generalize ms.length = K at c2 hc
  clear h
  go_enter Tryz.func20, Tryz.ntmps20
  go_wp2_with fail
  refine hi.mono ?_
  rintro e w' ⟨rfl, hw⟩
  obtain rfl := hw.symm
  go_wp2
  go_ret
  exact ⟨rfl, rfl⟩
/-- What a note is refused with. -/
def refE (most : Nat) (ms : List Mk) (c : Nat) : Int := if ms ≠ [] ∧ c = most then 43 else 0
set_option maxRecDepth 100000 in
theorem refusal_any (h : LogAt w B lb most nest ms fs c) :
    Calls Tryz.prog 154 #[ptrV lb] w fun e w' => e = .returned (.int .i64 (refE most ms c)) ∧ ∃ n, w' = w.drewN n := by
  obtain ⟨mv, nv, h⟩ := h
  have hi := lisNil_no h
  obtain ⟨A, cc, rfl, hc, hcm⟩ := h.mrow.form
  have c2 := h.blk.cell (i := 2) rfl
  have c4 := h.blk.cell (i := 4) rfl
  have c0 := h.blk.cell (i := 0) rfl
  have hlt := h.blk.lt
  unfold ptrV at hi ⊢
  clear h
  obtain ⟨E, hE⟩ : ∃ E, refE most ms c = E := ⟨_, rfl⟩
  rw [hE]
  unfold refE at hE
  cases ms with
  | nil =>
    simp only [ne_eq, not_true_eq_false, false_and, if_false] at hE
    subst hE
    simp only [List.length_nil] at c2 hc
    go_enter Tryz.func154, Tryz.ntmps154
    go_wp2_with fail
    refine hi.mono ?_
    rintro e w' ⟨rfl, hw⟩
    obtain rfl := hw.symm
    have hd : decide ((0 : Int) < ((0 : Nat) : Int)) = false := rfl
    go_wp2_with fail
    go_quiet (fail)
    go_wp2
    go_ret
    exact ⟨rfl, _, rfl⟩
  | cons m ms =>
    obtain ⟨K, hK⟩ : ∃ K, (m :: ms).length = K := ⟨_, rfl⟩
    have hK0 : 0 < K := by rw [← hK]; simp
    rw [hK] at c2 hc
    clear hK
    simp only [ne_eq, reduceCtorEq, not_false_eq_true, true_and] at hE
    have hd : decide (0 < K) = true := by simpa using hK0
    by_cases hcm' : c = most
    · rw [if_pos hcm'] at hE
      subst hE hcm'
      go_enter Tryz.func154, Tryz.ntmps154
      go_wp2_with fail
      refine hi.mono ?_
      rintro e w' ⟨rfl, hw⟩
      obtain rfl := hw.symm
      go_wp2_with fail
      go_quiet (fail)
      go_wp2
      go_ret
      exact ⟨rfl, _, rfl⟩
    · rw [if_neg hcm'] at hE
      subst hE
      have hne : ((c : Int) == (most : Int)) = false := by rw [beq_eq_false_iff_ne]; omega
      have hne2 : (c == most) = false := by rw [beq_eq_false_iff_ne]; omega
      go_enter Tryz.func154, Tryz.ntmps154
      go_wp2_with fail
      refine hi.mono ?_
      rintro e w' ⟨rfl, hw⟩
      obtain rfl := hw.symm
      go_wp2_with fail
      go_quiet (fail)
      go_wp2
      go_ret
      exact ⟨rfl, _, rfl⟩
end

set_option maxRecDepth 100000 in
theorem LogNew_yes (most nest : Nat) (B : Nat) (w : World) (h1 : most ≤ 1048576) (h2 : 1 ≤ nest) (h3 : nest ≤ 1024) (hB : B ≤ w.heap.size) :
    Calls Tryz.prog 71 #[.int .i64 (most : Int), .int .i64 (nest : Int)] w fun e w' => e = .returned (.tuple #[ptrV w.heap.size, .int .i64 0]) ∧ LogAt w' B w.heap.size most nest [] [] 0 ∧ Below w.heap.size w w' ∧ w'.heap.size = w.heap.size + 1 := by
  have i1 : ¬ (most : Int) < 0 := by omega
  have i2 : ¬ 1048576 < (most : Int) := by omega
  have i3 : ¬ (nest : Int) < 1 := by omega
  have i4 : ¬ 1024 < (nest : Int) := by omega
  have hb : Blk (w.alloc (.cells #[.int .i64 (most : Int), .int .i64 (nest : Int), .slice none 0 0, .slice none 0 0, .int .i64 0] 121)) w.heap.size (logC most nest (.slice none 0 0) (.slice none 0 0) 0) 121 := Blk.new w _ _
  have hl : LogAt (w.alloc (.cells #[.int .i64 (most : Int), .int .i64 (nest : Int), .slice none 0 0, .slice none 0 0, .int .i64 0] 121)) B w.heap.size most nest [] [] 0 :=
    ⟨_, _, hB, hb, Row.nil_ _ _ _, Row.nil_ _ _ _, (fun _ h => by cases h), List.nodup_nil, h2, h3, h1, Nat.zero_le _, Nat.zero_le _, Nat.le_refl _, (fun _ h => by cases h), (fun _ h => by cases h)⟩
  replace hl := Lib.hid hl
  clear hb h1 h2 h3
  unfold ptrV
  go_enter Tryz.func71, Tryz.ntmps71
  go_wp2
  go_ret2
  exact ⟨rfl, hl.out, (Below.refl _ w).alloc (Nat.le_refl _) _, by simp⟩
end Go.Proofs.YtglcfbefpnphaaaGreatDoor
/-
  What tree, pool and table hold may be told without blocks of other types: so a log's blocks are none of theirs. Conditions: none.
-/
namespace Go.Proofs.YtglcfbefpnphaaaGreatDoor
open Go Go.RowKit Go.ChangeMaps

/-- Blocks that have a log's types. -/
def LogB (w : World) (g : Nat) : Prop := ∃ cur t f, w.heap[g]? = some (.cells cur t f) ∧ LogT t
open Classical in
noncomputable def cutL {L : Type} (w : World) (free : L) (lab : Nat → L) (g : Nat) : L := if LogB w g then free else lab g
section
variable {w : World}
theorem cutL_not {L : Type} {free : L} {lab : Nat → L} {g : Nat} (h : ¬ LogB w g) : cutL w free lab g = lab g := if_neg h
theorem cutL_yes {L : Type} {free : L} {lab : Nat → L} {g : Nat} (h : LogB w g) : cutL w free lab g = free := if_pos h
theorem cutL_free {L : Type} {free : L} {lab : Nat → L} {g : Nat} : cutL w free lab g ≠ free ↔ lab g ≠ free ∧ ¬ LogB w g := by
  by_cases h : LogB w g
  · rw [cutL_yes h]; exact ⟨fun k => absurd rfl k, fun k => absurd h k.2⟩
  · rw [cutL_not h]; exact ⟨fun k => ⟨k, h⟩, fun k => k.1⟩
theorem Blk.noLog {b : Nat} {cur : List Value} {t : TypeId} (h : Blk w b cur t) (ht : ¬ LogT t) : ¬ LogB w b := fun ⟨_, _, _, h1, h2⟩ => by
  have := h.symm.trans h1
  simp only [Option.some.injEq, Obj.cells.injEq] at this
  rw [← this.2.1] at h2
  exact ht h2
theorem Row.noLog {B : Nat} {e : TypeId} {v : Value} {n : Nat} {xs : List Value} (h : Row w B e v n xs) (ht : ¬ LogT e) {g : Nat} (hg : v.ownBlock = some g) : ¬ LogB w g := by
  obtain ⟨_, _, cur, hb⟩ := h.lt hg
  exact hb.noLog ht
theorem RowM.noLog {e : TypeId} {v : Value} {n : Nat} {xs : List Value} (h : RowM w e v n xs) (ht : ¬ LogT e) {g : Nat} (hg : v.ownBlock = some g) : ¬ LogB w g := by
  rcases h with ⟨rfl, _⟩ | ⟨g', off, cap, cur, rfl, hb, _⟩
  · cases hg
  · cases hg
    obtain ⟨f, _, hb⟩ := hb
    rintro ⟨_, _, _, h1, h2⟩
    have := hb.symm.trans h1
    simp only [Option.some.injEq, Obj.cells.injEq] at this
    rw [← this.2.1] at h2
    exact ht h2
theorem KMap.noLog {κ : Type} {b : Nat} {d : TypeDesc} {enc : κ → Value} {l : List (κ × Value)} (h : KMap w b d enc l) : ¬ LogB w b := fun ⟨_, _, _, h1, _⟩ => h.no_cells h1
theorem nl_u8 : ¬ LogT 5 := by unfold LogT; decide
theorem nl_rows : ¬ LogT 153 := by unfold LogT; decide
theorem nl_int : ¬ LogT 3 := by unfold LogT; decide
theorem nl_fs : ¬ LogT 176 := by unfold LogT; decide
theorem nl_body : ¬ LogT 156 := by unfold LogT; decide
theorem nl_pool : ¬ LogT 173 := by unfold LogT; decide
theorem nl_buf : ¬ LogT 232 := by unfold LogT; decide
theorem nl_tab : ¬ LogT 142 := by unfold LogT; decide
theorem nl_hnd : ¬ LogT 148 := by unfold LogT; decide
theorem nl_file : ¬ LogT 162 := by unfold LogT; decide
theorem nl_text : ¬ LogT 197 := by unfold LogT; decide
theorem nl_sink : ¬ LogT 200 := by unfold LogT; decide
theorem nl_pipe : ¬ LogT 167 := by unfold LogT; decide

theorem TreeF.shrink {F : Nat → Prop} {fb most room : Nat} {nds : Nds} (h : TreeF w F fb most room nds) : TreeF w (fun g => F g ∧ ¬ LogB w g) fb most room nds := by
  obtain ⟨lab, mb, mem, h, hF⟩ := h
  refine ⟨cutL w .free lab, mb, mem, ⟨h.fs, (cutL_not (h.fs.noLog nl_fs)).trans h.lfs, h.map, (cutL_not h.map.noLog).trans h.lmap, fun k x hx => ?_, fun g hg => ?_, h.lim⟩, fun g => by show F g ∧ ¬ LogB w g ↔ _; rw [hF]; exact cutL_free.symm⟩
  · have hN := h.nd k x hx
    exact ⟨hN.blk, (cutL_not (hN.blk.noLog nl_body)).trans hN.lb, hN.data, fun g hg => (cutL_not (hN.data.noLog nl_u8 hg)).trans (hN.dl g hg), hN.few, hN.nil, fun l hl => by
      obtain ⟨nb, h1, h2, h3⟩ := hN.nms l hl
      exact ⟨nb, h1, (cutL_not h3.noLog).trans h2, h3⟩⟩
  · by_cases hb : LogB w g
    · exact cutL_yes hb
    · exact (cutL_not hb).trans (h.new g hg)
theorem AllF.shrink {F : Nat → Prop} {pb q M C tot : Nat} {es : List Ent} (h : AllF w F pb q M C es tot) : AllF w (fun g => F g ∧ ¬ LogB w g) pb q M C es tot := by
  obtain ⟨B, lab, S, sp, h, hF⟩ := h
  refine ⟨B, cutL w .free lab, S, sp, ⟨?_, fun g hg => ?_, fun k e he => ?_, h.few, h.long, h.par, h.hq, h.base⟩, fun g => by show F g ∧ ¬ LogB w g ↔ _; rw [hF]; exact cutL_free.symm⟩
  · have hP := h.pool
    exact ⟨hP.blk, hP.low, (cutL_not (hP.blk.noLog nl_pool)).trans hP.lb, hP.arr, fun g hg => (cutL_not (hP.arr.noLog nl_rows hg)).trans (hP.arl g hg), hP.str, fun v hv g hg => by
      obtain ⟨bs, hr⟩ := hP.str v hv
      exact (cutL_not (hr.noLog nl_u8 hg)).trans (hP.stl v hv g hg), hP.nd⟩
  · by_cases hb : LogB w g
    · exact cutL_yes hb
    · exact (cutL_not hb).trans (h.new g hg)
  · have hE := h.ent k e he
    obtain ⟨bb, o⟩ := e
    cases o with
    | none => exact ⟨hE.1, (cutL_not (Blk.noLog hE.1 nl_buf)).trans hE.2.1, hE.2.2⟩
    | some b =>
      obtain ⟨hblk, hR⟩ := hE
      refine ⟨hblk, { hR with lb := (cutL_not (hblk.noLog nl_buf)).trans hR.lb, ml := fun hg g hgg => (cutL_not ((hR.mm hg).noLog nl_u8 hgg)).trans (hR.ml hg g hgg), arl := fun g hg => (cutL_not (hR.arr.noLog nl_rows hg)).trans (hR.arl g hg), stl := fun v hv g hg => ?_ }⟩
      obtain ⟨i, hi, rfl⟩ := List.getElem_of_mem hv
      exact (cutL_not ((hR.str i _ (List.getElem?_eq_getElem hi)).noLog nl_u8 hg)).trans (hR.stl _ hv g hg)
theorem ObjAt.shrink {lab : Nat → HL} {fb np : Nat} {k : Int} {M : HM} {kd : Kd} (h : ObjAt w lab fb np k M kd) : ObjAt w (cutL w .free lab) fb np k M kd := by
  cases kd with
  | file n a r wr m => exact ⟨h.1, (cutL_not (Blk.noLog h.1 nl_file)).trans h.2⟩
  | text T a => exact ⟨h.1, (cutL_not (Blk.noLog h.1 nl_text)).trans h.2.1, h.2.2⟩
  | sink l m => exact ⟨h.1, (cutL_not (Blk.noLog h.1 nl_sink)).trans h.2.1, h.2.2.1, fun g hg => (cutL_not (RowM.noLog h.2.2.1 nl_u8 hg)).trans (h.2.2.2.1 g hg), h.2.2.2.2⟩
  | rd p => exact h
  | wr p => exact h
theorem TabF.shrink {F : Nat → Prop} {fb plb tb top : Nat} {hs : Hs} {pp : Pps} {xs : List Int} (h : TabF w F fb plb tb hs pp top xs) : TabF w (fun g => F g ∧ ¬ LogB w g) fb plb tb hs pp top xs := by
  obtain ⟨lab, mb, mem, v, h, hF⟩ := h
  refine ⟨cutL w .free lab, mb, mem, v, ⟨h.num, (cutL_not (h.num.at_.blk.noLog nl_tab)).trans h.ltb, fun g hg => (cutL_not (h.num.at_.row.noLog nl_int hg)).trans (h.lbk g hg), h.map, (cutL_not h.map.noLog).trans h.lmap, fun k x hx => ?_, fun p pb bb ends hp => ?_, fun g hg => ?_⟩, fun g => by show F g ∧ ¬ LogB w g ↔ _; rw [hF]; exact cutL_free.symm⟩
  · have hH := h.hd k x hx
    exact ⟨hH.blk, (cutL_not (hH.blk.noLog nl_hnd)).trans hH.lb, hH.ob.shrink⟩
  · obtain ⟨h1, h2⟩ := h.pi p pb bb ends hp
    exact ⟨h1, (cutL_not (h1.noLog nl_pipe)).trans h2⟩
  · by_cases hb : LogB w g
    · exact cutL_yes hb
    · exact (cutL_not hb).trans (h.new g hg)
theorem Sys.shrink {F : Nat → Prop} {c : Sy} {s : St} (h : Sys w F c s) : Sys w (fun g => F g ∧ ¬ LogB w g) c s := by
  obtain ⟨Ft, Fp, Fh, h, hF⟩ := h
  refine ⟨_, _, _, ⟨h.tree.shrink, h.pool.shrink, h.tab.shrink, fun g h1 h2 => h.tp g h1.1 h2.1, fun g h1 h2 => h.th g h1.1 h2.1, fun g h1 h2 => h.ph g h1.1 h2.1⟩, fun g => ?_⟩
  show F g ∧ ¬ LogB w g ↔ _
  rw [hF]
  constructor
  · rintro ⟨h1 | h1 | h1, h2⟩
    · exact .inl ⟨h1, h2⟩
    · exact .inr (.inl ⟨h1, h2⟩)
    · exact .inr (.inr ⟨h1, h2⟩)
  · rintro (h1 | h1 | h1)
    · exact ⟨.inl h1.1, h1.2⟩
    · exact ⟨.inr (.inl h1.1), h1.2⟩
    · exact ⟨.inr (.inr h1.1), h1.2⟩
end
end Go.Proofs.YtglcfbefpnphaaaGreatDoor
/-
  Note: where there is no log, where there is no room, of nothing, without a mark, and else. Conditions: none.
-/
namespace Go.Proofs.YtglcfbefpnphaaaGreatDoor
open Go Go.RowKit Go.ChangeMaps

theorem infoFn : (Tryz.prog.info? 1).map (fun i => (i.zero, i.size, i.bytes)) = some (some .nilFunc, 1, 8) := by kernel_rfl
theorem infoMk : (Tryz.prog.info? 220).map (fun i => (i.zero, i.size, i.bytes)) = some (some (.pointer none), 1, 8) := by kernel_rfl
theorem fn_eql_nil (k : Nat) (cap : Array Value) (w : World) : (binOp BinOp.eql 1 (.func (.func k) #[] cap) .nilFunc).run Tryz.prog w = .ok (.bool false) w := by kernel_rfl
theorem set3L (most nest : Nat) (mv nv nv' : Value) (c : Nat) : (logC most nest mv nv c).set 3 nv' = logC most nest mv nv' c := rfl
theorem set4L (most nest : Nat) (mv nv : Value) (c c' : Nat) : (logC most nest mv nv c).set 4 (.int .i64 (c' : Int)) = logC most nest mv nv c' := rfl
theorem set2L (most nest : Nat) (mv mv' nv : Value) (c : Nat) : (logC most nest mv nv c).set 2 mv' = logC most nest mv' nv c := rfl

section
variable {w w' : World} {B lb most nest c : Nat} {mv nv : Value} {ms : List Mk} {fs : List Value}
set_option maxRecDepth 100000 in
set_option maxHeartbeats 1000000 in
theorem LogNote_add (k : Nat) (cap : Array Value) (h : LogAt w B lb most nest ms fs c) (hms : ms ≠ []) (hcm : c < most) (hBw : B ≤ w.heap.size) :
    Calls Tryz.prog 129 #[ptrV lb, .func (.func k) #[] cap] w fun e w' => e = .returned (.int .i64 0) ∧ LogAt w' B lb most nest ms (fs ++ [.func (.func k) #[] cap]) (c + 1) ∧ Fr B LogT (fun _ => False) w w' := by
  have hr := refusal_any h
  rw [show refE most ms c = 0 from if_neg (by omega)] at hr
  have hK0 : 0 < ms.length := by cases ms with | nil => exact absurd rfl hms | cons => simp
  replace h : ∀ n, LogAt (w.drewN n) B lb most nest ms fs c := fun n => h.keep (KeepL.drewN w n)
  have hnn := fn_eql_nil k cap
  obtain ⟨i0, hi, hz0, hz1, hz2⟩ := info_parts infoFn
  unfold ptrV at hr ⊢
  replace h := Lib.hid h
  clear hms
  go_enter Tryz.func129, Tryz.ntmps129
  go_wp2_with fail
  refine hr.mono ?_
  rintro e w1 ⟨rfl, n, hw1⟩
  obtain ⟨mv, nv, h1⟩ := h.out n
  have hf1 : Fr B LogT (fun _ => False) w (w.drewN n) := Fr.drewN _ _ _ _ _
  have hBw1 : B ≤ (w.drewN n).heap.size := hBw
  rw [← hw1] at h1 hf1 hBw1
  clear hw1 hr h hBw
  obtain ⟨A, cc, rfl, hc, hcm1⟩ := h1.mrow.form
  obtain ⟨A2, cc2, rfl, hc2, hcm2⟩ := h1.nrow.form
  have c2 := h1.blk.cell (i := 2) rfl
  have c3 := h1.blk.cell (i := 3) rfl
  have c4 := h1.blk.cell (i := 4) rfl
  have f3 := h1.blk.frozen 3
  have hlt := h1.blk.lt
  have hml := h1.most2
  have hcp := h1.cp
  have hfc := h1.fc
  have hL1 := h1
  obtain ⟨KM, hKM⟩ : ∃ K, ms.length = K := ⟨_, rfl⟩
  obtain ⟨KF, hKF⟩ : ∃ K, fs.length = K := ⟨_, rfl⟩
  rw [hKM] at c2 hc hK0
  rw [hKF] at c3 hc2 hfc
  have hd : decide (0 < KM) = true := by simpa using hK0
  replace hKM := Lib.hid hKM
  -- the row of notes
  have hb2 : Blk (w1.alloc (.cells #[.func (.func k) #[] cap] 1)) w1.heap.size [.func (.func k) #[] cap] 1 := Blk.new w1 _ _
  have hL2 := hL1.keep (KeepL.alloc w1 (.cells #[.func (.func k) #[] cap] 1))
  obtain ⟨nv', w3, hrun, hrow, hst, how⟩ := run_append_rowS (P := Tryz.prog) (w1.alloc (.cells #[.func (.func k) #[] cap] 1)) B 119 119 119 1 i0 _ Tryz.underlying119 hi hz0 hz1 rfl (.slice A2 fs.length cc2) fs.length fs hL2.nrow (.slice (some ⟨w1.heap.size, 0, none⟩) 1 1) 1 [.func (.func k) #[] cap]
    (Src.ofSlice _ Tryz.underlying119 _ 1 1 _ rfl (fun j u hu => by rw [add_plain0, Nat.zero_add]; exact hb2.cell hu) (by simp [Value.oneCell'])) (by rw [hz2, hKF]; omega) (by rw [hKF]; omega) (by simp; omega)
  rw [hKF] at hrun hrow hst how
  obtain ⟨A3, cc3, rfl, hc3, hcm3⟩ := hrow.form
  have hne : ∀ g, (Value.slice A2 KF cc2).ownBlock = some g → g ≠ lb := fun g hg => Row.ne hL2.nrow hL2.blk (by decide) (by rw [hKF]; exact hg)
  have hb3 : Blk w3 lb _ _ := hL2.blk.stp hst fun e => hne lb e rfl
  have hst3 := (Stp.alloc (fun b => (Value.slice A2 KF cc2).ownBlock = some b) w1 (.cells #[.func (.func k) #[] cap] 1)).trans hst (fun _ _ h => h)
  have hne3 : ∀ g, (Value.slice A3 (KF + 1) cc3).ownBlock = some g → g ≠ lb := fun g hg => Row.ne hrow hb3 (by decide) hg
  have hb4 := hb3.set 3 (.slice A3 (KF + 1) cc3)
  rw [set3L] at hb4
  have hb5 := hb4.set 4 (.int .i64 ((c + 1 : Nat) : Int))
  rw [set4L] at hb5
  have hS : Stp (fun b => b = lb ∨ (Value.slice A2 KF cc2).ownBlock = some b) w1 ((w3.setCell ⟨lb, 3, none⟩ (.slice A3 (KF + 1) cc3)).setCell ⟨lb, 4, none⟩ (.int .i64 ((c + 1 : Nat) : Int))) :=
    ((hst3.mono (S' := fun b => b = lb ∨ (Value.slice A2 KF cc2).ownBlock = some b) (fun _ _ h => .inr h)).trans (Stp.set (S := fun b => b = lb) rfl 3 _) (fun _ _ h => .inl h)).trans (Stp.set (S := fun b => b = lb) rfl 4 _) (fun _ _ h => .inl h)
  have hfr := hf1.trans (Fr.of_stp (B := B) (T := LogT) (M := fun _ => False) hS (by
    intro b _ hb
    rcases hb with rfl | hb
    · exact ⟨hL1.hB, .inr ⟨_, _, _, hL1.blk, .inl rfl⟩⟩
    · obtain ⟨h1, _, cur, h2⟩ := hL1.nrow.lt (by rw [hKF]; exact hb)
      exact ⟨h1, .inr ⟨_, _, _, h2, .inr (.inr (.inl rfl))⟩⟩))
  have hrow5 := ((hrow.keep (w' := (w3.setCell ⟨lb, 3, none⟩ (.slice A3 (KF + 1) cc3)).setCell ⟨lb, 4, none⟩ (.int .i64 ((c + 1 : Nat) : Int))) fun g hg => (heap_setCell_other _ _ g _ (hne3 g hg)).trans (heap_setCell_other w3 _ g _ (hne3 g hg))))
  have hmr5 : Row _ B 220 _ _ _ := hL1.mrow.stp hS (fun g hg hb => by
    rcases hb with hb | hb
    · exact Row.ne hL1.mrow hL1.blk (by decide) hg hb
    · exact Row.ne2 hL1.mrow hL1.nrow (by decide) hg (by rw [hKF]; exact hb) rfl)
  have hmk5 : ∀ m ∈ ms, B ≤ m.blk ∧ Blk _ m.blk (mkC m false) 222 := fun m hm => ⟨(hL1.mks m hm).1, (hL1.mks m hm).2.stp hS (fun hb => by
    rcases hb with hb | hb
    · exact (hL1.mks m hm).2.ne hL1.blk (by decide) hb
    · exact Row.ne hL1.nrow (hL1.mks m hm).2 (by decide) (by rw [hKF]; exact hb) rfl)⟩
  have hlog : LogAt ((w3.setCell ⟨lb, 3, none⟩ (.slice A3 (KF + 1) cc3)).setCell ⟨lb, 4, none⟩ (.int .i64 ((c + 1 : Nat) : Int))) B lb most nest ms (fs ++ [.func (.func k) #[] cap]) (c + 1) :=
    ⟨_, _, hL1.hB, hb5, hmr5, (by rw [List.length_append, hKF]; exact hrow5), hmk5, hL1.ap, hL1.nest1, hL1.nest2, hL1.most2, (by omega), hL1.mp, (by rw [List.length_append, hKF]; simp; omega), (fun v hv => by
      rcases List.mem_append.1 hv with hv | hv
      · exact hL1.fn v hv
      · rw [List.mem_singleton.1 hv]; exact ⟨k, cap, rfl⟩), hL1.mc⟩
  have d3 := hb3.cell (i := 3) rfl
  have g3 := hb3.frozen 3
  have d4 := hb4.cell (i := 4) rfl
  have g4 := hb4.frozen 4
  have hl3 := hb3.lt
  have hl4 := hb4.lt
  replace hlog := Lib.hid hlog
  replace hfr := Lib.hid hfr
  replace hrun := Lib.hid hrun
  clear hmk5 hmr5 hrow5 hS hb5 hb4 hne3 hst3 hb3 hne how hst hrow hL2 hb2 hL1 h1 hf1 hi hz0 hz1 hz2 hKF
  go_wp2_with (at_builtin; refine wpList_append_of rfl _ _ 119 119 rfl _ _ _ w3 rfl rfl hrun.out ?_)
  go_ret
  exact ⟨rfl, hlog.out, hfr.out⟩
end
end Go.Proofs.YtglcfbefpnphaaaGreatDoor
