/-
  A table's Read of a text, Write and Seen of a sink. Conditions: at most a million bytes.
-/
import Derived.Test.YtffipbmonfodbaaGreatDoorHnText2
namespace Go.Proofs.YtffipbmonfodbaaGreatDoor
open Go Go.RowKit Go.ChangeMaps

section
variable {w : World} {F : Nat → Prop} {c : Sy} {s : St} {k : Int} {x : Hd}
set_option maxRecDepth 100000 in
theorem sys_read_text (h : Sys w F c s) (hx : look s.hs k = some x) {S : ByteArray} {a : Nat} (hk : x.kd = .text (tl S) a) (j : Nat) :
    Calls Tryz.prog 14 #[ptrV c.tb, .int .i64 k, .int .i64 (j : Int)] w fun e w' => e = .returned (.tuple #[.string (readT S a j), .int .i64 0]) ∧
      ∃ F', Sys w' F' c { s with hs := upd s.hs k { x with kd := .text (tl S) (a + (readT S a j).size) } } ∧ Chg F F' w w' := by
  obtain ⟨Ft, Fp, Fh, h, hF⟩ := h
  obtain ⟨lab, mb, mem, v, ht, hFh⟩ := h.tab
  have hf := tfind_some ht hx
  have hd := ht.hd k x hx
  have c0 := hd.blk.cell (i := 0) rfl
  rw [show doesV s.pp x.kd (mem k).ob = .iface 90 (ptrV (mem k).ob) by rw [hk]; rfl] at c0
  have hlt := hd.blk.lt
  have ho := hd.ob
  rw [hk] at ho
  obtain ⟨ho1, ho2, ho3, ho4⟩ := ho
  rw [tl_len] at ho3 ho4
  have hr := text_read (S := S) ho1 ho3 ho4 j
  have hrs := readT_size S a j
  have hres : ∀ w', Chg (fun g => g = (mem k).ob) (fun g => g = (mem k).ob) w w' → Blk w' (mem k).ob [.string S, .int .i64 ((a + (readT S a j).size : Nat) : Int)] 92 → ∃ F', Sys w' F' c { s with hs := upd s.hs k { x with kd := .text (tl S) (a + (readT S a j).size) } } ∧ Chg F F' w w' := fun w' hcc hb2 => by
    obtain ⟨Fh', h1, h2⟩ := ht.does hFh hx (.text (tl S) (a + (readT S a j).size)) (by rw [hk]; rfl) ho2 hcc ⟨hb2, ho2, by rw [tl_len]; omega, by rw [tl_len]; exact ho4⟩
    obtain ⟨h3, h4⟩ := h.tabStep0 h1 h2
    exact Sys.of hF h3 h4
  generalize readT S a j = R at hr hres ⊢
  generalize { x with kd := Kd.text (tl S) (a + R.size) } = x' at hres ⊢
  generalize (mem k).blk = kb at hf c0 hlt
  unfold ptrV at hf c0 hr ⊢
  replace hres := Lib.hid hres
  replace hr := Lib.hid hr
  clear h hd ht hF hFh hx ho1 ho2 ho3 ho4 hk hrs
  go_enter Tryz.func14, Tryz.ntmps14
  go_wp2_with fail
  refine hf.mono ?_
  rintro e w' ⟨rfl, hw⟩
  obtain rfl := hw.symm
  clear hf hw
  go_wp2_with fail
  refine hr.out.mono ?_
  rintro e w2 ⟨rfl, hc2, hb2⟩
  have hres' := hres.out w2 hc2 hb2
  replace hres' := Lib.hid hres'
  clear hres hr hc2 hb2
  go_wp2
  go_ret2
  exact ⟨rfl, hres'.out⟩
set_option maxRecDepth 100000 in
theorem sys_seen_sink (h : Sys w F c s) (hx : look s.hs k = some x) {l : List UInt8} {m : Nat} (hk : x.kd = .sink l m) :
    Calls Tryz.prog 15 #[ptrV c.tb, .int .i64 k] w fun e w' => e = .returned (.tuple #[.string ⟨l.toArray⟩, .int .i64 0]) ∧ w' = w := by
  obtain ⟨Ft, Fp, Fh, h, hF⟩ := h
  obtain ⟨lab, mb, mem, v, ht, hFh⟩ := h.tab
  have hf := tfind_some ht hx
  have hd := ht.hd k x hx
  have c0 := hd.blk.cell (i := 0) rfl
  rw [show doesV s.pp x.kd (mem k).ob = .iface 101 (ptrV (mem k).ob) by rw [hk]; rfl] at c0
  have hlt := hd.blk.lt
  have ho := hd.ob
  rw [hk] at ho
  have hr := sink_seen ho.1 ho.2.2.1
  generalize (⟨l.toArray⟩ : ByteArray) = R at hr ⊢
  generalize (mem k).blk = kb at hf c0 hlt
  unfold ptrV at hf c0 hr ⊢
  replace hr := Lib.hid hr
  clear h hd ht hF hFh hx ho hk
  go_enter Tryz.func15, Tryz.ntmps15
  go_wp2_with fail
  refine hf.mono ?_
  rintro e w' ⟨rfl, hw⟩
  obtain rfl := hw.symm
  clear hf hw
  go_wp2_with fail
  refine hr.out.mono ?_
  rintro e w' ⟨rfl, hw⟩
  obtain rfl := hw.symm
  clear hr hw
  go_wp2
  go_ret2
  exact ⟨rfl, rfl⟩
set_option maxRecDepth 100000 in
theorem sys_write_sink (h : Sys w F c s) (hx : look s.hs k = some x) {l : List UInt8} {m : Nat} (hk : x.kd = .sink l m) (S : ByteArray) (hS : S.size ≤ 1000000) :
    Calls Tryz.prog 12 #[ptrV c.tb, .int .i64 k, .string S] w fun e w' =>
      (l.length + S.size ≤ m ∧ e = .returned (.int .i64 0) ∧ ∃ F', Sys w' F' c { s with hs := upd s.hs k { x with kd := .sink (l ++ tl S) m } } ∧ Chg F F' w w') ∨
       m < l.length + S.size ∧ e = .returned (.int .i64 15) ∧ Sys w' F c s ∧ Chg F F w w' := by
  have hsys := h
  obtain ⟨Ft, Fp, Fh, h, hF⟩ := h
  obtain ⟨lab, mb, mem, v, ht, hFh⟩ := h.tab
  have hf := tfind_some ht hx
  have hd := ht.hd k x hx
  have c0 := hd.blk.cell (i := 0) rfl
  rw [show doesV s.pp x.kd (mem k).ob = .iface 101 (ptrV (mem k).ob) by rw [hk]; rfl] at c0
  have hlt := hd.blk.lt
  have ho := hd.ob
  rw [hk] at ho
  obtain ⟨ho1, ho2, ho3, ho4, ho5, ho6⟩ := ho
  have hne : ∀ g, (mem k).cv.ownBlock = some g → g ≠ (mem k).ob := fun g hg e => by have := ho4 g hg; rw [e, ho2] at this; cases this
  by_cases hfit : l.length + S.size ≤ m
  · have hr := sink_write ho1 ho3 ho5 ho6 hne S hfit
    have hres : ∀ w' cv', Blk w' (mem k).ob [cv', .int .i64 (m : Int)] 103 → RowM w' 5 cv' (l ++ tl S).length (bc (l ++ tl S)) → (cv'.ownBlock = (mem k).cv.ownBlock ∨ ∀ g, cv'.ownBlock = some g → w.heap.size ≤ g) →
        Chg (fun g => (mem k).cv.ownBlock = some g ∨ g = (mem k).ob) (fun g => cv'.ownBlock = some g ∨ (mem k).cv.ownBlock = some g ∨ g = (mem k).ob) w w' → ∃ F', Sys w' F' c { s with hs := upd s.hs k { x with kd := .sink (l ++ tl S) m } } ∧ Chg F F' w w' := fun w' cv' hb2 hr2 how hcc => by
      have hnl : ∀ g, g < w.heap.size → (if w.heap.size ≤ g ∧ cv'.ownBlock = some g then HL.came k else lab g) = lab g := fun g hg => if_neg (fun h => by omega)
      have hkb : ¬ ((mem k).cv.ownBlock = some (mem k).blk ∨ (mem k).blk = (mem k).ob) := fun h => by
        have hl := hd.lb
        rcases h with h | h
        · rw [ho4 _ h] at hl; cases hl
        · rw [h, ho2] at hl; cases hl
      obtain ⟨Fh', h1, h2⟩ := ht.step (y := { x with kd := .sink (l ++ tl S) m }) (lab' := fun g => if w.heap.size ≤ g ∧ cv'.ownBlock = some g then HL.came k else lab g) (M' := { mem k with cv := cv' }) hFh hx hcc
        (fun g _ hg => hg.elim (fun h => by rw [ho4 g h]; exact rfl) (fun h => by rw [h, ho2]; exact rfl)) hnl
        (fun g hg => by
          rw [if_neg (fun h => by have := hr2.lt h.2; omega)]
          exact ht.new g (Nat.le_trans hcc.size hg))
        ⟨by
          have hdv : doesV s.pp (Kd.sink (l ++ tl S) m) (mem k).ob = doesV s.pp x.kd (mem k).ob := by rw [hk]; rfl
          show Blk w' (mem k).blk [doesV s.pp (Kd.sink (l ++ tl S) m) (mem k).ob, .int .i64 (x.refs : Int)] _
          rw [hdv]
          exact (hcc.block _ hlt hkb).trans hd.blk, (hnl _ hlt).trans hd.lb, hb2, (hnl _ ho1.lt).trans ho2, hr2, fun g hg => by
            by_cases hgw : w.heap.size ≤ g
            · exact if_pos ⟨hgw, hg⟩
            · rcases how with how | how
              · exact (hnl g (by omega)).trans (ho4 g (how ▸ hg))
              · exact absurd (how g hg) hgw, by rw [List.length_append, tl_len]; exact hfit, ho6⟩ rfl
      obtain ⟨h3, h4⟩ := h.tabStep0 h1 h2
      exact Sys.of hF h3 h4
    generalize { x with kd := Kd.sink (l ++ tl S) m } = x' at hres ⊢
    generalize (mem k).blk = kb at hf c0 hlt
    unfold ptrV at hf c0 hr ⊢
    replace hres := Lib.hid hres
    replace hr := Lib.hid hr
    replace hfit := Lib.hid hfit
    clear h hd ht hF hFh hx ho1 ho2 ho3 ho4 ho5 ho6 hne hk hsys
    go_enter Tryz.func12, Tryz.ntmps12
    go_wp2_with fail
    refine hf.mono ?_
    rintro e w' ⟨rfl, hw⟩
    obtain rfl := hw.symm
    clear hf hw
    go_wp2_with fail
    refine hr.out.mono ?_
    rintro e w2 ⟨rfl, cv', h1, h2, h3, h4⟩
    have hres' := hres.out w2 cv' h1 h2 h3 h4
    replace hres' := Lib.hid hres'
    clear hres hr h1 h2 h3 h4
    go_wp2
    go_ret
    exact .inl ⟨hfit.out, rfl, hres'.out⟩
  · have hr := sink_full ho1 ho3 ho5 ho6 S (by omega) hS
    have hfit2 : m < l.length + S.size := by omega
    have hres : ∀ d, Sys (w.drewN d) F c s ∧ Chg F F w (w.drewN d) := fun d => ⟨hsys.keep (Nat.le_refl _) fun _ _ => rfl, Chg.drewN F w d⟩
    generalize (mem k).blk = kb at hf c0 hlt
    unfold ptrV at hf c0 hr ⊢
    replace hres := Lib.hid hres
    replace hr := Lib.hid hr
    replace hfit2 := Lib.hid hfit2
    clear h hd ht hF hFh hx ho1 ho2 ho3 ho4 ho5 ho6 hne hk hsys hfit
    go_enter Tryz.func12, Tryz.ntmps12
    go_wp2_with fail
    refine hf.mono ?_
    rintro e w' ⟨rfl, hw⟩
    obtain rfl := hw.symm
    clear hf hw
    go_wp2_with fail
    refine hr.out.mono ?_
    rintro e w2 ⟨rfl, d, hw⟩
    have hres' := hres.out d
    rw [← hw] at hres'
    replace hres' := Lib.hid hres'
    clear hres hr hw
    go_wp2
    go_ret
    exact .inr ⟨hfit2.out, rfl, hres'.out⟩
end
end Go.Proofs.YtffipbmonfodbaaGreatDoor
