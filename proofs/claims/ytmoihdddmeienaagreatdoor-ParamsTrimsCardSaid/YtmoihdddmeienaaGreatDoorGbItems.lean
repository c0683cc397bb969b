/-
  Items makes the reference's pattern out of the package's. Conditions: the pattern lies in memory; at most a million items, and ranges of each.
-/
import Derived.Test.YtmoihdddmeienaaGreatDoorGbEndsPure
namespace Go.Proofs.YtmoihdddmeienaaGreatDoor
open Go Go.RowKit

theorem infoRItem : (Tryz.prog.info? 64).map (fun i => (i.zero, i.size, i.bytes)) = some (some (.agg zit), 4, 40) := by kernel_rfl
theorem infoRRange : (Tryz.prog.info? 88).map (fun i => (i.zero, i.size, i.bytes)) = some (some (.agg #[.int .u8 0, .int .u8 0]), 2, 2) := by kernel_rfl

/-- A pattern of the reference's that the call has made. -/
def OwnRI (w : World) (base : Nat) (v : Value) (p : List It) (us : List Value) : Prop :=
  us.length = p.length ∧ w.ownsRow base 64 4 v p.length (cellsIt p us) ∧ ∀ (i : Nat) (x : It), p[i]? = some x → ∃ u, us[i]? = some u ∧ w.ownsRow base 88 2 u x.2.2.2.length (cellsRg x.2.2.2)
theorem OwnRI.read {w : World} {base : Nat} {v : Value} {p : List It} {us : List Value} (h : OwnRI w base v p us) : Its w w.heap.size v p := by
  obtain ⟨h1, h2, h3⟩ := h
  refine ⟨us, Sl.of_own h2, h1, fun k x hx => ?_⟩
  obtain ⟨u, hu, hr⟩ := h3 k x hx
  exact ⟨u, hu, Sl.of_own hr⟩
theorem OwnRI.below {w w' : World} {base : Nat} {v : Value} {p : List It} {us : List Value} (h : OwnRI w base v p us) (hb : Below w.heap.size w w') : OwnRI w' base v p us := by
  obtain ⟨h1, h2, h3⟩ := h
  refine ⟨h1, own_below h2 hb, fun i x hx => ?_⟩
  obtain ⟨u, hu, hr⟩ := h3 i x hx
  exact ⟨u, hu, own_below hr hb⟩
theorem ownRI_snoc {w w' : World} {base : Nat} {v v' u : Value} {p : List It} {us : List Value} {x : It} (h : OwnRI w base v p us) (hu : w.ownsRow base 88 2 u x.2.2.2.length (cellsRg x.2.2.2))
    (hown : w'.ownsRow base 64 4 v' (p.length + 1) (cellsIt p us ++ ci x u)) (hg : w.grownBy w' v.ownBlock) : OwnRI w' base v' (p ++ [x]) (us ++ [u]) := by
  obtain ⟨h1, h2, h3⟩ := h
  refine ⟨by simp [h1], ?_, fun i y hy => ?_⟩
  · rw [List.length_append, cellsIt_append _ _ _ _ h1]
    have e : cellsIt [x] [u] = ci x u := by simp [cellsIt]
    rw [e]
    exact hown
  · rcases Nat.lt_or_ge i p.length with hi | hi
    · rw [List.getElem?_append_left hi] at hy
      obtain ⟨u', hu', hr⟩ := h3 i y hy
      exact ⟨u', by rw [List.getElem?_append_left (by omega)]; exact hu', hr.kept hg (own_own_ne hr h2 (by decide))⟩
    · rw [List.getElem?_append_right hi] at hy
      rcases Nat.eq_zero_or_pos (i - p.length) with h0 | h0
      · rw [h0] at hy
        injection hy with hy
        subst hy
        exact ⟨u, by rw [List.getElem?_append_right (by omega), show i - us.length = 0 by omega]; rfl, hu.kept hg (own_own_ne hu h2 (by decide))⟩
      · rw [List.getElem?_eq_none (by simp; omega)] at hy; cases hy

/-- The copy that is being made: its block, and its ranges so far, above it. -/
structure XW (W : World) (gx : Nat) (kind : Int) (b : UInt8) (no : Bool) (rv : Value) (l : List Rg) : Prop where
  item : W.heap[gx]? = some (.cells #[.int .i64 kind, .int .u8 (b.toNat : Int), .bool no, rv] 64 (0, 0))
  rgs : W.ownsRow (gx + 1) 88 2 rv l.length (cellsRg l)
theorem XW.below {W W' : World} {gx : Nat} {kind : Int} {b : UInt8} {no : Bool} {rv : Value} {l : List Rg} (h : XW W gx kind b no rv l) (hb : Below W.heap.size W W') : XW W' gx kind b no rv l :=
  ⟨(hb.block gx (Array.getElem?_eq_some_iff.1 h.item).1).trans h.item, own_below h.rgs hb⟩
theorem xw_next {W w3 : World} {gx : Nat} {kind : Int} {b : UInt8} {no : Bool} {rv v3 : Value} {l : List Rg} {r : Rg} (h : XW W gx kind b no rv l) (hs : gx < W.heap.size)
    (hown : w3.ownsRow (gx + 1) 88 2 v3 (l.length + 1) (cellsRg l ++ cr r)) (hg : W.grownBy w3 rv.ownBlock) : XW (w3.setCell ⟨gx, 3, none⟩ v3) gx kind b no v3 (l ++ [r]) := by
  have hgx : rv.ownBlock ≠ some gx := fun e => by have := (h.rgs.lt gx e).1; omega
  have hi : w3.heap[gx]? = some (.cells #[.int .i64 kind, .int .u8 (b.toNat : Int), .bool no, rv] 64 (0, 0)) := (hg.block gx hs hgx.symm).trans h.item
  have hset := heap_setCell_same w3 gx 3 _ _ v3 hi
  refine ⟨hset, ?_⟩
  have e : cellsRg (l ++ [r]) = cellsRg l ++ cr r := by rw [cellsRg_append]; simp [cellsRg]
  rw [List.length_append, e]
  refine hown.kept (row := some gx) ⟨rfl, rfl, rfl, by simp [World.setCell], fun j _ hj => heap_setCell_other w3 ⟨gx, 3, none⟩ j _ (fun e => hj (by rw [e]))⟩ (.inr ?_)
  intro e
  have := (hown.lt gx e).1
  omega
theorem rg_snoc (l : List Rg) (k : Nat) (h : k < l.length) : l.take (k + 1) = l.take k ++ [l[k]] := List.take_succ_eq_append_getElem h

end Go.Proofs.YtmoihdddmeienaaGreatDoor
