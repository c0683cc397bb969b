/-
  item reads the item at a place. Conditions: at most a million bytes.
-/
import Derived.Test.YtmoihdddmeienaaDoorGbGroup
namespace Go.Proofs.YtmoihdddmeienaaDoor
open Go Go.RowKit

/-- What item answers. -/
def ItemPost (w : World) (rb pb B : Nat) (A : Option Addr) (c : Nat) (l : List Ch) (path : Bool) (k : Nat) (e : Ending) (w' : World) : Prop :=
  ∃ ps', Rd w' rb pb B A c l path ps' ∧ w.grownBy w' (some pb) ∧ ∃ v,
    e = .returned (.tuple #[.agg #[.int .i64 (itemP path l k).1.1, .int .u8 ((itemP path l k).1.2.1.toNat : Int), .bool (itemP path l k).1.2.2.1, v], .int .i64 ((itemP path l k).2 : Int)]) ∧
    w'.ownsRow w.heap.size 137 2 v (itemP path l k).1.2.2.2.length (cellsRg (itemP path l k).1.2.2.2) ∧ Pin path l ps' (k + (itemP path l k).2)

set_option maxHeartbeats 4000000 in
set_option maxRecDepth 100000 in
theorem item_any {w : World} {rb pb B : Nat} {A : Option Addr} {c : Nat} {l : List Ch} {path : Bool} {ps : List Bool} (h : Rd w rb pb B A c l path ps) (k : Nat) (hpin : Pin path l ps k) (hl : l.length ≤ 1000000) (hk : k < l.length) :
    Calls Tryd.prog 39 #[.pointer (some ⟨rb, 0, none⟩), .int .i64 (k : Int)] w (ItemPost w rb pb B A c l path k) := by
  have hrlt := h.rlt
  have hplt := h.plt
  have h1 : Rd (w.alloc (.cells zit 72)) rb pb B A c l path ps := h.below ((Below.refl _ _).alloc (Nat.le_refl _) _)
  have hR1 := heap_alloc_new w (.cells zit 72)
  have hG1 : w.grownBy (w.alloc (.cells zit 72)) (some pb) := grown_alloc (World.grownBy.refl w _) _
  have hsz1 : (w.alloc (.cells zit 72)).heap.size = w.heap.size + 1 := by simp
  have b1 := bare_any h1 k 63 hl (by omega)
  have b2 := bare_any h1 k 42 hl (by omega)
  have b3 := bare_any h1 k 92 hl (by omega)
  have b4 := bare_any h1 k 91 hl (by omega)
  have hI0 : itemP path l k = if bareAt l k 63 then ((2, 0, false, []), 1) else if bareAt l k 42 then ((3, 0, false, []), 1) else if bareAt l k 92 && decide (k + 1 < l.length) then ((1, byteAt l (k + 1), false, []), 2) else if bareAt l k 91 then (match groupP path l (k + 1) with | some r => (r.1, r.2 + 1) | none => ((1, byteAt l k, false, []), 1)) else ((1, byteAt l k, false, []), 1) := rfl
  go_enter Tryd.func39, Tryd.ntmps39
  cases e1 : bareAt l k 63 with
  | true =>
    rw [e1] at b1
    have hI : Hid (itemP path l k = ((2, 0, false, []), 1)) := by rw [Hid, hI0, if_pos e1]
    clear hI0 e1 b2 b3 b4
    go_wp2_with fail
    refine b1.mono ?_
    rintro e w1 ⟨rfl, rfl⟩
    clear b1
    have hRd9 : Rd (w.alloc (.cells #[.int .i64 2, .int .u8 0, .bool false, .slice none 0 0] 72)) rb pb B _ c l path ps := h.below ((Below.refl _ _).alloc (Nat.le_refl _) _)
    have hG9 : w.grownBy (w.alloc (.cells #[.int .i64 2, .int .u8 0, .bool false, .slice none 0 0] 72)) (some pb) := grown_alloc (World.grownBy.refl w _) _
    have hO9 := World.ownsRow_nil (w.alloc (.cells #[.int .i64 2, .int .u8 0, .bool false, .slice none 0 0] 72)) w.heap.size 137 2
    go_wp2
    exact bodyPost_ret (v := .tuple #[.agg #[.int .i64 2, .int .u8 0, .bool false, .slice none 0 0], .int .i64 1]) (by simp [results, Tryd.results39, go_sem]) rfl ⟨ps, hRd9, hG9, _, by rw [hI.out]; rfl, by rw [hI.out]; exact hO9, by rw [hI.out]; exact hpin.mono (by omega)⟩
  | false =>
    rw [e1] at b1
    rw [e1, if_neg (by simp)] at hI0
    cases e2 : bareAt l k 42 with
    | true =>
      rw [e2] at b2
      have hI : Hid (itemP path l k = ((3, 0, false, []), 1)) := by rw [Hid, hI0, if_pos e2]
      clear hI0 e1 e2 b3 b4
      go_wp2_with fail
      refine b1.mono ?_
      rintro e w1 ⟨rfl, rfl⟩
      clear b1
      go_wp2_with fail
      refine b2.mono ?_
      rintro e w2 ⟨rfl, rfl⟩
      clear b2
      have hRd9 : Rd (w.alloc (.cells #[.int .i64 3, .int .u8 0, .bool false, .slice none 0 0] 72)) rb pb B _ c l path ps := h.below ((Below.refl _ _).alloc (Nat.le_refl _) _)
      have hG9 : w.grownBy (w.alloc (.cells #[.int .i64 3, .int .u8 0, .bool false, .slice none 0 0] 72)) (some pb) := grown_alloc (World.grownBy.refl w _) _
      have hO9 := World.ownsRow_nil (w.alloc (.cells #[.int .i64 3, .int .u8 0, .bool false, .slice none 0 0] 72)) w.heap.size 137 2
      go_wp2
      exact bodyPost_ret (v := .tuple #[.agg #[.int .i64 3, .int .u8 0, .bool false, .slice none 0 0], .int .i64 1]) (by simp [results, Tryd.results39, go_sem]) rfl ⟨ps, hRd9, hG9, _, by rw [hI.out]; rfl, by rw [hI.out]; exact hO9, by rw [hI.out]; exact hpin.mono (by omega)⟩
    | false =>
      rw [e2] at b2
      rw [e2, if_neg (by simp)] at hI0
      by_cases hesc : bareAt l k 92 = true ∧ k + 1 < l.length
      · obtain ⟨e3, hk1⟩ := hesc
        rw [e3] at b3
        have hI : Hid (itemP path l k = ((1, byteAt l (k + 1), false, []), 2)) := by rw [Hid, hI0, if_pos (by simp [e3, hk1])]
        have rc0 := h1.c0
        obtain ⟨blk, off, rfl, hblk, g0, g1⟩ := h1.tx.at_ hk1
        rw [byteAt_get hk1] at hI
        generalize l[k + 1].1 = x at g0 hI
        have hkI : (k : Int) + 1 < (l.length : Int) := by omega
        clear hI0 e1 e2 e3 b4
        go_wp2_with fail
        refine b1.mono ?_
        rintro e w1 ⟨rfl, rfl⟩
        clear b1
        go_wp2_with fail
        refine b2.mono ?_
        rintro e w2 ⟨rfl, rfl⟩
        clear b2
        go_wp2_with fail
        refine b3.mono ?_
        rintro e w3 ⟨rfl, rfl⟩
        clear b3
        have hRd9 : Rd (w.alloc (.cells #[.int .i64 1, .int .u8 (x.toNat : Int), .bool false, .slice none 0 0] 72)) rb pb B _ c l path ps := h.below ((Below.refl _ _).alloc (Nat.le_refl _) _)
        have hG9 : w.grownBy (w.alloc (.cells #[.int .i64 1, .int .u8 (x.toNat : Int), .bool false, .slice none 0 0] 72)) (some pb) := grown_alloc (World.grownBy.refl w _) _
        have hO9 := World.ownsRow_nil (w.alloc (.cells #[.int .i64 1, .int .u8 (x.toNat : Int), .bool false, .slice none 0 0] 72)) w.heap.size 137 2
        go_wp2
        exact bodyPost_ret (v := .tuple #[.agg #[.int .i64 1, .int .u8 (x.toNat : Int), .bool false, .slice none 0 0], .int .i64 2]) (by simp [results, Tryd.results39, go_sem]) rfl ⟨ps, hRd9, hG9, _, by rw [hI.out]; rfl, by rw [hI.out]; exact hO9, by rw [hI.out]; exact hpin.mono (by omega)⟩
      · rw [if_neg (by simpa using hesc)] at hI0
        have hB3 : (bareAt l k 92 = false) ∨ (bareAt l k 92 = true ∧ ¬ k + 1 < l.length) := by
          cases e3 : bareAt l k 92
          · exact .inl rfl
          · exact .inr ⟨rfl, fun hh => hesc ⟨e3, hh⟩⟩
        have rc0 := h1.c0
        cases e4 : bareAt l k 91 with
        | false =>
          rw [e4] at b4
          have hI : Hid (itemP path l k = ((1, byteAt l k, false, []), 1)) := by rw [Hid, hI0, e4]; rfl
          clear hI0 e1 e2 e4 hesc
          rcases hB3 with e3 | ⟨e3, hk1⟩
          all_goals
            rw [e3] at b3
            clear e3
            go_wp2_with fail
            refine b1.mono ?_
            rintro e w1 ⟨rfl, rfl⟩
            clear b1
            go_wp2_with fail
            refine b2.mono ?_
            rintro e w2 ⟨rfl, rfl⟩
            clear b2
            go_wp2_with fail
            refine b3.mono ?_
            rintro e w3 ⟨rfl, rfl⟩
            clear b3
            go_wp2_with fail
            refine b4.mono ?_
            rintro e w4 ⟨rfl, rfl⟩
            clear b4
            have rc0 := h1.c0
            obtain ⟨blk, off, rfl, hblk, g0, g1⟩ := h1.tx.at_ hk
            rw [byteAt_get hk] at hI
            generalize l[k].1 = x at g0 hI
            have hRd9 : Rd (w.alloc (.cells #[.int .i64 1, .int .u8 (x.toNat : Int), .bool false, .slice none 0 0] 72)) rb pb B _ c l path ps := h.below ((Below.refl _ _).alloc (Nat.le_refl _) _)
            have hG9 : w.grownBy (w.alloc (.cells #[.int .i64 1, .int .u8 (x.toNat : Int), .bool false, .slice none 0 0] 72)) (some pb) := grown_alloc (World.grownBy.refl w _) _
            have hO9 := World.ownsRow_nil (w.alloc (.cells #[.int .i64 1, .int .u8 (x.toNat : Int), .bool false, .slice none 0 0] 72)) w.heap.size 137 2
            go_wp2
            exact bodyPost_ret (v := .tuple #[.agg #[.int .i64 1, .int .u8 (x.toNat : Int), .bool false, .slice none 0 0], .int .i64 1]) (by simp [results, Tryd.results39, go_sem]) rfl ⟨ps, hRd9, hG9, _, by rw [hI.out]; rfl, by rw [hI.out]; exact hO9, by rw [hI.out]; exact hpin.mono (by omega)⟩
        | true =>
          have e3 : bareAt l k 92 = false := by
            rw [bareAt_some hk] at e4 ⊢
            simp only [Bool.and_eq_true, beq_iff_eq] at e4
            rw [e4.1]
            rfl
          rw [e4] at b4
          rw [e4, if_pos rfl] at hI0
          have hg := group_any h1 (k + 1) (hpin.mono (by omega)) hl (by omega)
          clear e1 e2 e4 hesc hB3
          skip
          · rw [e3] at b3
            clear e3
            go_wp2_with fail
            refine b1.mono ?_
            rintro e w1 ⟨rfl, rfl⟩
            clear b1
            go_wp2_with fail
            refine b2.mono ?_
            rintro e w2 ⟨rfl, rfl⟩
            clear b2
            go_wp2_with fail
            refine b3.mono ?_
            rintro e w3 ⟨rfl, rfl⟩
            clear b3
            go_wp2_with fail
            refine b4.mono ?_
            rintro e w4 ⟨rfl, rfl⟩
            clear b4
            go_wp2_with fail
            refine hg.mono ?_
            rintro e w5 ⟨ps5, hRd5, hGr5, ⟨hnone, rfl, hpin5⟩ | ⟨rs, n, v, hsome, rfl, hown5, hpin5⟩⟩
            · have hI : Hid (itemP path l k = ((1, byteAt l k, false, []), 1)) := by rw [Hid, hI0, hnone]
              have hR5 := (hGr5.block w.heap.size (by omega) (by intro e; injection e with e; omega)).trans hR1
              have hGr6 := hG1.trans hGr5
              have hR6 := (Below.heap_alloc w5 (.cells #[.int .i64 0, .int .u8 0, .bool false, .slice none 0 0] 72) w.heap.size (Array.getElem?_eq_some_iff.1 hR5).1).trans hR5
              have hRd6 := hRd5.below ((Below.refl _ w5).alloc (Nat.le_refl _) (.cells #[.int .i64 0, .int .u8 0, .bool false, .slice none 0 0] 72))
              have hGr7 := grown_alloc hGr6 (.cells #[.int .i64 0, .int .u8 0, .bool false, .slice none 0 0] 72)
              clear hI0 hg hnone hGr5 hGr6 hRd5 hR5 rc0
              have rc0 := hRd6.c0
              obtain ⟨blk, off, rfl, hblk, g0, g1⟩ := hRd6.tx.at_ hk
              rw [byteAt_get hk] at hI
              generalize l[k].1 = x at g0 hI
              have q0 : (w5.alloc (.cells #[.int .i64 0, .int .u8 0, .bool false, .slice none 0 0] 72)).cell? ⟨w.heap.size, 0, none⟩ = some (.int .i64 0) := by rw [cell_of_row (w5.alloc (.cells #[.int .i64 0, .int .u8 0, .bool false, .slice none 0 0] 72)) _ _ _ _ _ hR6]; rfl
              have q1 : (w5.alloc (.cells #[.int .i64 0, .int .u8 0, .bool false, .slice none 0 0] 72)).cell? ⟨w.heap.size, 1, none⟩ = some (.int .u8 0) := by rw [cell_of_row (w5.alloc (.cells #[.int .i64 0, .int .u8 0, .bool false, .slice none 0 0] 72)) _ _ _ _ _ hR6]; rfl
              have q2 : (w5.alloc (.cells #[.int .i64 0, .int .u8 0, .bool false, .slice none 0 0] 72)).cell? ⟨w.heap.size, 2, none⟩ = some (.bool false) := by rw [cell_of_row (w5.alloc (.cells #[.int .i64 0, .int .u8 0, .bool false, .slice none 0 0] 72)) _ _ _ _ _ hR6]; rfl
              have q3 : (w5.alloc (.cells #[.int .i64 0, .int .u8 0, .bool false, .slice none 0 0] 72)).cell? ⟨w.heap.size, 3, none⟩ = some (.slice none 0 0) := by rw [cell_of_row (w5.alloc (.cells #[.int .i64 0, .int .u8 0, .bool false, .slice none 0 0] 72)) _ _ _ _ _ hR6]; rfl
              have qf : ∀ k, (w5.alloc (.cells #[.int .i64 0, .int .u8 0, .bool false, .slice none 0 0] 72)).frozen? ⟨w.heap.size, k, none⟩ = false := fun k => frozen_of_row (w5.alloc (.cells #[.int .i64 0, .int .u8 0, .bool false, .slice none 0 0] 72)) _ _ _ _ hR6
              have hcell := set4_cells (set4_heap (a := .int .i64 1) (b := .int .u8 (x.toNat : Int)) (c := .bool false) (d := .slice none 0 0) hR6)
              have hRd9 := rd_grow2 hRd6 (set4_grown (w5.alloc (.cells #[.int .i64 0, .int .u8 0, .bool false, .slice none 0 0] 72)) w.heap.size (.int .i64 1) (.int .u8 (x.toNat : Int)) (.bool false) (.slice none 0 0)) (by omega) (by omega) (by have := h.low; omega)
              have hG9 := grown_set4 hGr7 (Nat.le_refl w.heap.size) (.int .i64 1) (.int .u8 (x.toNat : Int)) (.bool false) (.slice none 0 0)
              have hO9 := World.ownsRow_nil (set4 (w5.alloc (.cells #[.int .i64 0, .int .u8 0, .bool false, .slice none 0 0] 72)) w.heap.size (.int .i64 1) (.int .u8 (x.toNat : Int)) (.bool false) (.slice none 0 0)) w.heap.size 137 2
              go_wp2
              clear q0 q1 q2 q3 qf
              change bodyPost _ _ _ _ _ (set4 (w5.alloc (.cells #[.int .i64 0, .int .u8 0, .bool false, .slice none 0 0] 72)) w.heap.size (.int .i64 1) (.int .u8 (x.toNat : Int)) (.bool false) (.slice none 0 0))
              generalize set4 (w5.alloc (.cells #[.int .i64 0, .int .u8 0, .bool false, .slice none 0 0] 72)) w.heap.size (.int .i64 1) (.int .u8 (x.toNat : Int)) (.bool false) (.slice none 0 0) = w9 at hRd9 hG9 hcell hO9 ⊢
              obtain ⟨e0, e1, e2, e3⟩ := hcell
              exact bodyPost_ret (v := .tuple #[.agg #[.int .i64 1, .int .u8 (x.toNat : Int), .bool false, .slice none 0 0], .int .i64 1]) (by simp [results, Tryd.results39, go_sem, e0, e1, e2, e3]) rfl ⟨ps5, hRd9, hG9, _, by rw [hI.out]; rfl, by rw [hI.out]; exact hO9, by rw [hI.out]; exact hpin5.mono (by omega)⟩
            · have hI : Hid (itemP path l k = ((4, 0, bareAt l (k + 1) 33, rs), n + 1)) := by rw [Hid, hI0, hsome]
              have hn1 := (groupP_pos hsome).1
              have hn2 := (groupP_pos hsome).2
              simp only at hn1 hn2
              generalize bareAt l (k + 1) 33 = nb at hI
              obtain ⟨Av, nv, cv, rfl⟩ := own_form hown5
              have hR5 := (hGr5.block w.heap.size (by omega) (by intro e; injection e with e; omega)).trans hR1
              have hGr6 := hG1.trans hGr5
              have hown6 := own_base hown5 (show w.heap.size ≤ _ by omega)
              have hsz5 := hGr5.size
              have hlt5 : w.heap.size < w5.heap.size := by omega
              clear hI0 hg hsome rc0
              have q0 : w5.cell? ⟨w.heap.size, 0, none⟩ = some (.int .i64 0) := by rw [cell_of_row w5 _ _ _ _ _ hR5]; rfl
              have q1 : w5.cell? ⟨w.heap.size, 1, none⟩ = some (.int .u8 0) := by rw [cell_of_row w5 _ _ _ _ _ hR5]; rfl
              have q2 : w5.cell? ⟨w.heap.size, 2, none⟩ = some (.bool false) := by rw [cell_of_row w5 _ _ _ _ _ hR5]; rfl
              have q3 : w5.cell? ⟨w.heap.size, 3, none⟩ = some (.slice none 0 0) := by rw [cell_of_row w5 _ _ _ _ _ hR5]; rfl
              have qf : ∀ k, w5.frozen? ⟨w.heap.size, k, none⟩ = false := fun k => frozen_of_row w5 _ _ _ _ hR5
              have hS := set4_grown w5 w.heap.size (.int .i64 4) (.int .u8 0) (.bool nb) (.slice Av nv cv)
              have hR7 := (Below.heap_alloc (set4 w5 w.heap.size (.int .i64 4) (.int .u8 0) (.bool nb) (.slice Av nv cv)) (.cells #[.int .i64 4, .int .u8 0, .bool nb, .slice Av nv cv] 72) w.heap.size (Nat.lt_of_lt_of_le hlt5 hS.size)).trans (set4_heap (a := .int .i64 4) (b := .int .u8 0) (c := .bool nb) (d := .slice Av nv cv) hR5)
              have hRd9 := (rd_grow2 hRd5 hS (by omega) (by omega) (by have := h.low; omega)).below ((Below.refl _ _).alloc (Nat.le_refl _) (.cells #[.int .i64 4, .int .u8 0, .bool nb, .slice Av nv cv] 72))
              have hG9 := grown_alloc (grown_set4 hGr6 (Nat.le_refl w.heap.size) (.int .i64 4) (.int .u8 0) (.bool nb) (.slice Av nv cv)) (.cells #[.int .i64 4, .int .u8 0, .bool nb, .slice Av nv cv] 72)
              have hO9 := own_below (hown6.kept hS (.inr (own_ne_block3 hown6 hR5 (by decide)))) ((Below.refl _ _).alloc (Nat.le_refl _) (.cells #[.int .i64 4, .int .u8 0, .bool nb, .slice Av nv cv] 72))
              clear hRd5 hGr6 hown6 hown5 hS hGr5
              go_wp2
              clear q0 q1 q2 q3 qf
              change bodyPost _ _ _ _ _ (((set4 w5 w.heap.size (.int .i64 4) (.int .u8 0) (.bool nb) (.slice Av nv cv))).alloc (.cells #[.int .i64 4, .int .u8 0, .bool nb, .slice Av nv cv] 72))
              generalize ((set4 w5 w.heap.size (.int .i64 4) (.int .u8 0) (.bool nb) (.slice Av nv cv))).alloc (.cells #[.int .i64 4, .int .u8 0, .bool nb, .slice Av nv cv] 72) = w9 at hRd9 hG9 hR7 hO9 ⊢
              have e0 : w9.cell? ⟨w.heap.size, 0, none⟩ = some (.int .i64 4) := by rw [cell_of_row w9 _ _ _ _ _ hR7]; rfl
              have e1 : w9.cell? ⟨w.heap.size, 1, none⟩ = some (.int .u8 0) := by rw [cell_of_row w9 _ _ _ _ _ hR7]; rfl
              have e2 : w9.cell? ⟨w.heap.size, 2, none⟩ = some (.bool nb) := by rw [cell_of_row w9 _ _ _ _ _ hR7]; rfl
              have e3 : w9.cell? ⟨w.heap.size, 3, none⟩ = some (.slice Av nv cv) := by rw [cell_of_row w9 _ _ _ _ _ hR7]; rfl
              exact bodyPost_ret (v := .tuple #[.agg #[.int .i64 4, .int .u8 0, .bool nb, .slice Av nv cv], .int .i64 ((n : Int) + 1)]) (by simp [results, Tryd.results39, go_sem, e0, e1, e2, e3]) rfl ⟨ps5, hRd9, hG9, _, by rw [hI.out]; rfl, by rw [hI.out]; exact hO9, by rw [hI.out]; exact hpin5.mono (by simp only; omega)⟩
end Go.Proofs.YtmoihdddmeienaaDoor
