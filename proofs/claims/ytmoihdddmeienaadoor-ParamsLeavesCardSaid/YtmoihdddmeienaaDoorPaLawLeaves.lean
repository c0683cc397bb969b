/-
  The walk of ParamsLeaves: it answers true and leaves what was there. Conditions: the marked bytes lie in memory that was there.
-/
import Derived.Test.YtmoihdddmeienaaDoorPaAwake
import Derived.Test.YtmoihdddmeienaaDoorPaLeft
import Derived.Deep.QuietTactic
import Derived.BigQuiet
import Derived.Laws.Concat
namespace Go.Proofs.YtmoihdddmeienaaDoor
open Go Go.RowKit

/-- An array of four strings in a block of its own. -/
def Arr (w : World) (b : Nat) (x : Nat → ByteArray) : Prop := ∃ t, w.heap[b]? = some (.cells #[.string (x 0), .string (x 1), .string (x 2), .string (x 3)] t (0, 0))
theorem Arr.lt {w : World} {b : Nat} {x : Nat → ByteArray} (h : Arr w b x) : b < w.heap.size := by
  obtain ⟨t, h⟩ := h
  exact (Array.getElem?_eq_some_iff.1 h).1
theorem Arr.cell {w : World} {b : Nat} {x : Nat → ByteArray} (h : Arr w b x) (j : Nat) (hj : j < 4) : w.cell? ⟨b, j, none⟩ = some (.string (x j)) := by
  obtain ⟨t, h⟩ := h
  unfold World.cell?
  simp only [h]
  rcases (by omega : j = 0 ∨ j = 1 ∨ j = 2 ∨ j = 3) with rfl | rfl | rfl | rfl <;> rfl
theorem Arr.frozen {w : World} {b : Nat} {x : Nat → ByteArray} (h : Arr w b x) (j : Nat) : w.frozen? ⟨b, j, none⟩ = false := by
  obtain ⟨t, h⟩ := h
  unfold World.frozen?
  simp only [h]
  simp
theorem Arr.below {w w' : World} {b : Nat} {x : Nat → ByteArray} (h : Arr w b x) (hb : Below w.heap.size w w') : Arr w' b x := by
  obtain ⟨t, ht⟩ := h
  exact ⟨t, (hb.block b (Array.getElem?_eq_some_iff.1 ht).1).trans ht⟩
theorem Arr.set {w : World} {b : Nat} {x : Nat → ByteArray} (h : Arr w b x) (j : Nat) (hj : j < 4) (y : ByteArray) : Arr (w.setCell ⟨b, j, none⟩ (.string y)) b (fun i => if i = j then y else x i) := by
  obtain ⟨t, h⟩ := h
  refine ⟨t, ?_⟩
  show (w.heap.modify b _)[b]? = _
  rw [Array.getElem?_modify, if_pos rfl, h]
  rcases (by omega : j = 0 ∨ j = 1 ∨ j = 2 ∨ j = 3) with rfl | rfl | rfl | rfl <;> rfl

set_option maxHeartbeats 4000000 in
set_option maxRecDepth 100000 in
theorem lawLeaves_any (s : ByteArray) (t : List Ch) (q : ByteArray) (v : Value) (w : World) (ht : Tx w w.heap.size v t) :
    Calls Tryd.prog 4 #[.string s, v, .string q] w fun e w' => e = .returned (.bool true) ∧ Below w.heap.size w w' := by
  by_cases hgo : s.size ≤ 100 ∧ t.length ≤ 60 ∧ q.size ≤ 100
  · obtain ⟨hs, hl, hq⟩ := hgo
    have hTr := fun V k hk W (hT : Tx W W.heap.size V t) => trim_any t V s W k hk hT (by omega) (by omega)
    obtain ⟨p, hp⟩ : ∃ p, compileP false t = p := ⟨_, rfl⟩
    simp only [hp] at hTr
    clear hp
    have hall := left_all p s
    have ho1 := of_any q true
    have hA1 := fun V W (hT : Tx W W.heap.size V (ofL q true)) => trim_any (ofL q true) V (q ++ s) W 0 (by omega) hT (by rw [ofL_length]; omega) (by rw [size_add]; omega)
    have hA2 := fun V W (hT : Tx W W.heap.size V (ofL q true)) => trim_any (ofL q true) V (s ++ q) W 3 (by omega) hT (by rw [ofL_length]; omega) (by rw [size_add]; omega)
    simp only [left_own_head, left_own_tail] at hA1 hA2
    have hadd1 : ∀ W : World, (Op.stringOp .add q s).run Tryd.prog W = .ok (.string (q ++ s)) W := fun W => run_string_add_sum W q s (by omega)
    have hadd2 : ∀ W : World, (Op.stringOp .add s q).run Tryd.prog W = .ok (.string (s ++ q)) W := fun W => run_string_add_sum W s q (by omega)
    generalize q ++ s = qs at hA1 hadd1
    generalize s ++ q = sq at hA2 hadd2
    obtain ⟨A, c, rfl, hc, hcm⟩ := ht.form
    unfold maxLen at hcm
    replace hall := Lib.hid hall
    replace hTr := Lib.hid hTr
    go_enter Tryd.func4, Tryd.ntmps4
    go_wp2_with fail
    go_loopw [8] (fun i wr => ∃ (k : Nat) (x : Nat → ByteArray), k ≤ 4 ∧ i = .int .i64 k ∧ Arr wr w.heap.size x ∧ Below w.heap.size w wr ∧ Hid (∀ j, j < k → x j = leftP j p s)) (fun i _ => 4 - (intOf i).toNat)
    case atStart => exact ⟨0, fun _ => ⟨#[]⟩, by omega, rfl, ⟨_, (Array.getElem?_push_size : (w.heap.push _)[w.heap.size]? = _)⟩, (Below.refl _ _).alloc (Nat.le_refl _) _, Lib.hid (fun j hj => absurd hj (Nat.not_lt_zero _))⟩
    case round =>
      obtain ⟨k, x, hk, rfl, hX, hb, hx⟩ := hrel
      by_cases hlt : k < 4
      · have hT := hTr.out _ k (by omega) wr ((ht.below hb).more hb.size)
        have hsz : (leftP k p s).size ≤ s.size := by
          have h := hall.out
          rcases (by omega : k = 0 ∨ k = 1 ∨ k = 2 ∨ k = 3) with rfl | rfl | rfl | rfl
          · exact h.1.1
          · exact h.2.1.1
          · exact h.2.2.1.1
          · exact h.2.2.2.1.1
        obtain ⟨y, hy⟩ : ∃ y, leftP k p s = y := ⟨_, rfl⟩
        rw [hy] at hT hsz
        have hx2 : Hid (∀ j, j < k + 1 → (if j = k then y else x j) = leftP j p s) := Lib.hid (fun j hj => by
          by_cases h : j = k
          · rw [if_pos h, h, hy]
          · rw [if_neg h]; exact hx.out j (by omega))
        clear hy hx
        have hlt2 : (k : Int) < 4 := by omega
        have hsum : IntKind.i64.wrap (6 + (k : Int)) = 6 + (k : Int) := by rw [IntKind.wrap_i64]; omega
        go_wp2_with fail
        refine hT.mono ?_
        rintro e w2 ⟨rfl, hb2⟩
        clear hT
        have hX2 := hX.below hb2
        have hbA := hb.trans (hb2.mono hb.size)
        have hc2 := hX2.cell k hlt
        have hf2 := hX2.frozen k
        have hl2 := hX2.lt
        have hX3 := hX2.set k hlt y
        have hbB := hbA.setCell (p := ⟨w.heap.size, k, none⟩) (Nat.le_refl _) (.string y)
        clear hb2 hb
        go_wp2
        go_roundw
        case rel => exact ⟨k + 1, _, by omega, by go_num, hX3, hbB, hx2⟩
        case measure => simp [intOf]; omega
      · obtain rfl : k = 4 := by omega
        have c0 := hX.cell 0 (by omega)
        have c1 := hX.cell 1 (by omega)
        have c2 := hX.cell 2 (by omega)
        have c3 := hX.cell 3 (by omega)
        rw [hx.out 0 (by omega)] at c0
        rw [hx.out 1 (by omega)] at c1
        rw [hx.out 2 (by omega)] at c2
        rw [hx.out 3 (by omega)] at c3
        obtain ⟨⟨a0, b0⟩, ⟨a1, b1⟩, ⟨a2, b2⟩, ⟨a3, b3⟩, o1, o2⟩ := hall.out
        clear hx hX hall hTr hk hlt
        generalize leftP 0 p s = x0 at *
        generalize leftP 1 p s = x1 at *
        generalize leftP 2 p s = x2 at *
        generalize leftP 3 p s = x3 at *
        obtain ⟨k0, hk0⟩ : ∃ k0 : Nat, s.size - x0.size = k0 := ⟨_, rfl⟩
        obtain ⟨k1, hk1⟩ : ∃ k1 : Nat, s.size - x1.size = k1 := ⟨_, rfl⟩
        rw [hk0] at b0
        rw [hk1] at b1
        have i0 : (s.size : Int) - x0.size = k0 := by omega
        have i1 : (s.size : Int) - x1.size = k1 := by omega
        have j0 : k0 ≤ s.size := by omega
        have j1 : k1 ≤ s.size := by omega
        have d1 : ¬ x0.size < x1.size := by omega
        have d2 : ¬ x2.size < x3.size := by omega
        clear hk0 hk1 o1 o2
        have hbz := hb.size
        go_wp2_with fail
        go_quiet (fail)
        have hbq := below_drewN hb nq
        clear c0 c1 c2 c3 b0 b1 b2 b3 i0 i1 a0 a1 a2 a3 j0 j1 d1 d2
        generalize wr.drewN nq = wr at hbq ⊢
        clear hb
        go_wp2_with fail
        refine (ho1 _ (by omega)).mono ?_
        rintro e w3 ⟨v3, rfl, hT3, hb3⟩
        have hbA := hbq.trans (hb3.mono hbq.size)
        clear hb3 hbq
        go_wp2_with fail
        refine (hA1 _ _ hT3).mono ?_
        rintro e w4 ⟨rfl, hb4⟩
        have hbA := hbA.trans (hb4.mono hbA.size)
        clear hb4 hT3 hA1
        go_wp2_with fail
        refine (ho1 _ (by omega)).mono ?_
        rintro e w5 ⟨v5, rfl, hT5, hb5⟩
        have hbA := hbA.trans (hb5.mono hbA.size)
        clear hb5
        go_wp2_with fail
        refine (hA2 _ _ hT5).mono ?_
        rintro e w6 ⟨rfl, hb6⟩
        have hbA := hbA.trans (hb6.mono hbA.size)
        clear hb6 hT5 hA2
        go_wp2_with fail
        refine (awake_any _).mono ?_
        rintro e w7 ⟨rfl, hb7⟩
        go_wp2
        go_ret
        exact ⟨rfl, hbA.trans (hb7.mono hbA.size)⟩
  · obtain ⟨A, c, rfl, hc, hcm⟩ := ht.form
    unfold maxLen at hcm
    have h3 : 100 < s.size ∨ (s.size ≤ 100 ∧ 60 < t.length) ∨ (s.size ≤ 100 ∧ t.length ≤ 60 ∧ 100 < q.size) := by omega
    clear hgo ht
    rcases h3 with h1 | ⟨h1, h2⟩ | ⟨h1, h2, h3⟩
    all_goals
      go_enter Tryd.func4, Tryd.ntmps4
      go_wp2_with fail
      refine (awake_any _).mono ?_
      rintro e w6 ⟨rfl, hb6⟩
      go_wp2
      go_ret
      exact ⟨rfl, hb6⟩
end Go.Proofs.YtmoihdddmeienaaDoor
