/-
  SetFunc of a state. Conditions: names of at most 200 bytes.
-/
import Derived.Test.YtigmdfdcflkggaaGreatStStatus
namespace Go.Proofs.YtigmdfdcflkggaaGreat
open Go Go.RowKit Go.ChangeMaps

section
variable {w w' : World} {B sb : Nat} {a : Ad} {pot : Nat} {t : Tg} {n : Int}
set_option maxRecDepth 100000 in
set_option maxHeartbeats 4000000 in
theorem SetFunc_ok (h : StAt w B sb a pot t n) (k : ByteArray) (hk : k.size ≤ 200) (hnm : nameB k = true) (x0 : Int) (x1 : ByteArray) :
    Calls Tryz.prog 41 #[ptrV sb, .string k, .agg #[.int .i64 x0, .bool false, .string x1, .bool false, .slice none 0 0, .slice none 0 0, .slice none 0 0, .slice none 0 0, .slice none 0 0]] w fun e w' => e = .returned (.int .i64 (t.putf k ⟨x0, x1⟩).1) ∧ StAt w' B sb a (pot + 2) (t.putf k ⟨x0, x1⟩).2 n ∧ FrT B a w w' := by
  obtain ⟨z, hz⟩ : ∃ z, w.heap.size = z := ⟨_, rfl⟩
  have hb0 : Below z w (w.alloc (.cells #[.int .i64 x0, .bool false, .string x1, .bool false, .slice none 0 0, .slice none 0 0, .slice none 0 0, .slice none 0 0, .slice none 0 0] 88)) := by rw [← hz]; exact Below.of_alloc w _
  have b0 : Blk (w.alloc (.cells #[.int .i64 x0, .bool false, .string x1, .bool false, .slice none 0 0, .slice none 0 0, .slice none 0 0, .slice none 0 0, .slice none 0 0] 88)) z [.int .i64 x0, .bool false, .string x1, .bool false, .slice none 0 0, .slice none 0 0, .slice none 0 0, .slice none 0 0, .slice none 0 0] 88 := by rw [← hz]; exact Blk.new w _ _
  have hW := h.below (by rw [hz]; exact hb0)
  have hi := checkName_any hW.blk k (by omega)
  unfold checkE at hi
  rw [if_pos hnm] at hi
  unfold ptrV at hi ⊢
  clear h hnm
  replace hb0 := Lib.hid hb0
  replace b0 := Lib.hid b0
  replace hW := Lib.hid hW
  go_enter Tryz.func41, Tryz.ntmps41
  go_upto_region 1 with fail
  try rw [hz]
  generalize (w.alloc (.cells #[.int .i64 x0, .bool false, .string x1, .bool false, .slice none 0 0, .slice none 0 0, .slice none 0 0, .slice none 0 0, .slice none 0 0] 88)) = wW at hb0 b0 hi hW ⊢
  replace hz := Lib.hid hz
  go_wp2_with fail
  refine hi.mono ?_
  rintro e w' ⟨rfl, hw⟩
  obtain rfl := hw.symm
  clear hi hw
  have e0 := b0.out.cell (i := 0) rfl
  have e1 := b0.out.cell (i := 1) rfl
  have e2 := b0.out.cell (i := 2) rfl
  have e3 := b0.out.cell (i := 3) rfl
  have e4 := b0.out.cell (i := 4) rfl
  have e5 := b0.out.cell (i := 5) rfl
  have e6 := b0.out.cell (i := 6) rfl
  have e7 := b0.out.cell (i := 7) rfl
  have e8 := b0.out.cell (i := 8) rfl
  have lz := b0.out.lt
  have hd := th_putf (hW.out.below (drewN_below wW 1)).th k ⟨x0, x1⟩ hk
  unfold ptrV encN at hd
  dsimp only at hd
  have c0 : wW.cell? ⟨sb, 1, none⟩ = some (.pointer (some ⟨a.f, 0, none⟩)) := hW.out.blk.cell (i := 1) rfl
  have hlt := hW.out.blk.lt
  have hk0 : wW.drew.cell? ⟨sb, 1, none⟩ = some (.pointer (some ⟨a.f, 0, none⟩)) ∧ wW.drew.cell? ⟨z, 0, none⟩ = some (.int .i64 x0) ∧ wW.drew.cell? ⟨z, 1, none⟩ = some (.bool false) ∧ wW.drew.cell? ⟨z, 2, none⟩ = some (.string x1) ∧ wW.drew.cell? ⟨z, 3, none⟩ = some (.bool false) ∧ wW.drew.cell? ⟨z, 4, none⟩ = some (.slice none 0 0) ∧ wW.drew.cell? ⟨z, 5, none⟩ = some (.slice none 0 0) ∧ wW.drew.cell? ⟨z, 6, none⟩ = some (.slice none 0 0) ∧ wW.drew.cell? ⟨z, 7, none⟩ = some (.slice none 0 0) ∧ wW.drew.cell? ⟨z, 8, none⟩ = some (.slice none 0 0) := ⟨c0, e0, e1, e2, e3, e4, e5, e6, e7, e8⟩
  replace hd := Lib.hid hd
  go_upto_region 4 with fail
  go_region_held3 (fun w' => w'.cell? ⟨sb, 1, none⟩ = some (.pointer (some ⟨a.f, 0, none⟩)) ∧ w'.cell? ⟨z, 0, none⟩ = some (.int .i64 x0) ∧ w'.cell? ⟨z, 1, none⟩ = some (.bool false) ∧ w'.cell? ⟨z, 2, none⟩ = some (.string x1) ∧ w'.cell? ⟨z, 3, none⟩ = some (.bool false) ∧ w'.cell? ⟨z, 4, none⟩ = some (.slice none 0 0) ∧ w'.cell? ⟨z, 5, none⟩ = some (.slice none 0 0) ∧ w'.cell? ⟨z, 6, none⟩ = some (.slice none 0 0) ∧ w'.cell? ⟨z, 7, none⟩ = some (.slice none 0 0) ∧ w'.cell? ⟨z, 8, none⟩ = some (.slice none 0 0))
    (first | go_keep | exact hk0 | exact hk1)
    ((go_at_call 105; refine hd.out.mono ?_; rintro e w5 ⟨rfl, q1, q2⟩; have hS5 := (hW.out.below (drewN_below wW 1)).next q1 q2; have k5 : Blk w5 z _ _ := (hW.out.below (drewN_below wW 1)).th.keepB q2 _ _ _ (show Blk wW.drew z _ _ from b0.out) (nPk (by decide)); have hk1 : w5.cell? ⟨sb, 1, none⟩ = some (.pointer (some ⟨a.f, 0, none⟩)) ∧ w5.cell? ⟨z, 0, none⟩ = some (.int .i64 x0) ∧ w5.cell? ⟨z, 1, none⟩ = some (.bool false) ∧ w5.cell? ⟨z, 2, none⟩ = some (.string x1) ∧ w5.cell? ⟨z, 3, none⟩ = some (.bool false) ∧ w5.cell? ⟨z, 4, none⟩ = some (.slice none 0 0) ∧ w5.cell? ⟨z, 5, none⟩ = some (.slice none 0 0) ∧ w5.cell? ⟨z, 6, none⟩ = some (.slice none 0 0) ∧ w5.cell? ⟨z, 7, none⟩ = some (.slice none 0 0) ∧ w5.cell? ⟨z, 8, none⟩ = some (.slice none 0 0) := ⟨hS5.blk.cell (i := 1) rfl, k5.cell (i := 0) rfl, k5.cell (i := 1) rfl, k5.cell (i := 2) rfl, k5.cell (i := 3) rfl, k5.cell (i := 4) rfl, k5.cell (i := 5) rfl, k5.cell (i := 6) rfl, k5.cell (i := 7) rfl, k5.cell (i := 8) rfl⟩; clear k5; replace hS5 := Lib.hid hS5; replace q2 := Lib.hid q2; clear q1))
  have hfin : Hid (StAt w5 B sb a (pot + 2) (t.putf k ⟨x0, x1⟩).2 n ∧ FrT B a w w5) := Lib.hid ⟨hS5.out, (FrT.of_below (by rw [hz.out]; exact drewB hb0.out 1)).trans q2.out⟩
  clear hd q2 c0 hk0 hk1 hlt e0 e1 e2 e3 e4 e5 e6 e7 e8 lz hS5
  go_wp2
  go_ret
  exact ⟨rfl, hfin.out⟩
set_option maxRecDepth 100000 in
theorem SetFunc_any (h : StAt w B sb a pot t n) (k : ByteArray) (hk : k.size ≤ 200) (x : Nd) :
    Calls Tryz.prog 41 #[ptrV sb, .string k, encN x] w fun e w' => e = .returned (.int .i64 (t.setF k x).1) ∧ StAt w' B sb a (pot + 2) (t.setF k x).2 n ∧ FrT B a w w' := by
  obtain ⟨x0, x1⟩ := x
  by_cases hnm : nameB k = true
  · rw [show t.setF k ⟨x0, x1⟩ = t.putf k ⟨x0, x1⟩ from if_pos hnm]
    exact SetFunc_ok h k hk hnm x0 x1
  · rw [show t.setF k ⟨x0, x1⟩ = (16, t) from if_neg hnm]
    have hb0 : Below w.heap.size w (w.alloc (.cells #[.int .i64 x0, .bool false, .string x1, .bool false, .slice none 0 0, .slice none 0 0, .slice none 0 0, .slice none 0 0, .slice none 0 0] 88)) := Below.of_alloc w _
    have hW := h.below hb0
    have hi := checkName_any hW.blk k (by omega)
    unfold checkE at hi
    rw [if_neg hnm] at hi
    unfold encN
    unfold ptrV at hi ⊢
    clear h hnm
    have hfin := Lib.hid (And.intro (hW.mono (Nat.le_add_right pot 2)) (FrT.of_below (B := B) (a := a) hb0))
    clear hW hb0
    go_enter Tryz.func41, Tryz.ntmps41
    go_upto_region 1 with fail
    generalize (w.alloc (.cells #[.int .i64 x0, .bool false, .string x1, .bool false, .slice none 0 0, .slice none 0 0, .slice none 0 0, .slice none 0 0, .slice none 0 0] 88)) = w1 at hfin hi ⊢
    go_wp2_with fail
    refine hi.mono ?_
    rintro e w' ⟨rfl, hw⟩
    obtain rfl := hw.symm
    go_wp2
    go_ret
    exact ⟨rfl, hfin.out⟩
end
end Go.Proofs.YtigmdfdcflkggaaGreat
