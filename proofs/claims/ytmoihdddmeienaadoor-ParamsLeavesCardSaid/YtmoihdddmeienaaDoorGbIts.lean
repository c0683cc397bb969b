/-
  Patterns in memory: a slice of items, each with a slice of ranges; what is read of it.
-/
import Derived.Test.YtmoihdddmeienaaDoorGbSet
import Derived.Test.YtmoihdddmeienaaDoorMkAppend
namespace Go.Proofs.YtmoihdddmeienaaDoor
open Go Go.RowKit

abbrev Rg := UInt8 × UInt8
def cr (r : Rg) : List Value := [.int .u8 (r.1.toNat : Int), .int .u8 (r.2.toNat : Int)]
def cellsRg (l : List Rg) : List Value := l.flatMap cr
theorem cellsRg_length (l : List Rg) : (cellsRg l).length = l.length * 2 := by
  induction l with
  | nil => rfl
  | cons a l ih => simp only [cellsRg, List.flatMap_cons, List.length_append, cr, List.length_cons, List.length_nil] at ih ⊢; omega
theorem cellsRg_append (l m : List Rg) : cellsRg (l ++ m) = cellsRg l ++ cellsRg m := by simp [cellsRg]
theorem cellsRg_0 (l : List Rg) (k : Nat) (h : k < l.length) : (cellsRg l)[k * 2]? = some (.int .u8 (l[k].1.toNat : Int)) ∧ (cellsRg l)[k * 2 + 1]? = some (.int .u8 (l[k].2.toNat : Int)) := by
  induction l generalizing k with
  | nil => simp at h
  | cons a l ih =>
    cases k with
    | zero => exact ⟨rfl, rfl⟩
    | succ k =>
      have e : (k + 1) * 2 = k * 2 + 1 + 1 := by omega
      have := ih k (by simpa using h)
      simp only [cellsRg, List.flatMap_cons, cr, e, List.cons_append, List.nil_append, List.getElem?_cons_succ, List.getElem_cons_succ] at this ⊢
      exact this
theorem cellsRg_one (l : List Rg) : ∀ u ∈ cellsRg l, u.oneCell' = true := by
  intro u hu
  simp only [cellsRg, List.mem_flatMap, cr, List.mem_cons, List.mem_nil_iff, or_false] at hu
  obtain ⟨a, _, rfl | rfl⟩ := hu <;> rfl

/-- A slice of ranges reads as the list l, below block B. -/
def Rgs (w : World) (B : Nat) (v : Value) (l : List Rg) : Prop := Sl w B 2 v l.length (cellsRg l)
section
variable {w w' : World} {B B' : Nat} {v : Value} {l : List Rg}
theorem Rgs.below (h : Rgs w B v l) (hb : Below B w w') : Rgs w' B v l := Sl.below h hb
theorem Rgs.more (h : Rgs w B v l) (hB : B ≤ B') : Rgs w B' v l := Sl.more h hB
theorem Rgs.form (h : Rgs w B v l) : ∃ (A : Option Addr) (c : Nat), v = .slice A l.length c ∧ l.length ≤ c ∧ c ≤ maxLen := by
  obtain ⟨A, c, hv, h1, h2, _⟩ := h
  exact ⟨A, c, hv, h1, h2⟩
theorem Rgs.at_ {A : Option Addr} {n c k : Nat} (h : Rgs w B (.slice A n c) l) (hk : k < l.length) : ∃ b off : Nat, A = some ⟨b, off, none⟩ ∧ b < B ∧
    w.cell? ⟨b, off + k * 2, none⟩ = some (.int .u8 (l[k].1.toNat : Int)) ∧ w.cell? ⟨b, off + k * 2 + 1, none⟩ = some (.int .u8 (l[k].2.toNat : Int)) := by
  obtain ⟨A', c', hv, h1, h2, h3, h4⟩ := h
  injection hv with e1 e2 e3
  subst e1
  obtain ⟨b, off, hA, hb, hc⟩ := h4 (by omega)
  exact ⟨b, off, hA, hb, hc _ _ (cellsRg_0 l k hk).1, by rw [Nat.add_assoc]; exact hc _ _ (cellsRg_0 l k hk).2⟩
end

/-- An item's four cells: its kind, its byte, Not, and the value of its ranges. -/
def ci (x : It) (u : Value) : List Value := [.int .i64 x.1, .int .u8 (x.2.1.toNat : Int), .bool x.2.2.1, u]
def cellsIt (p : List It) (us : List Value) : List Value := (List.zipWith ci p us).flatten
theorem cellsIt_length (p : List It) (us : List Value) (h : us.length = p.length) : (cellsIt p us).length = p.length * 4 := by
  induction p generalizing us with
  | nil => rfl
  | cons x p ih =>
    cases us with
    | nil => simp at h
    | cons u us =>
      have := ih us (by simpa using h)
      simp only [cellsIt, List.zipWith_cons_cons, List.flatten_cons, List.length_append, ci, List.length_cons, List.length_nil] at this ⊢
      omega
theorem cellsIt_append (p q : List It) (us vs : List Value) (h : us.length = p.length) : cellsIt (p ++ q) (us ++ vs) = cellsIt p us ++ cellsIt q vs := by
  unfold cellsIt
  rw [List.zipWith_append h.symm, List.flatten_append]
theorem cellsIt_at (p : List It) (us : List Value) (h : us.length = p.length) (k : Nat) (hk : k < p.length) :
    (cellsIt p us)[k * 4]? = some (.int .i64 p[k].1) ∧ (cellsIt p us)[k * 4 + 1]? = some (.int .u8 (p[k].2.1.toNat : Int)) ∧ (cellsIt p us)[k * 4 + 2]? = some (.bool p[k].2.2.1) ∧ (cellsIt p us)[k * 4 + 3]? = us[k]? := by
  induction p generalizing us k with
  | nil => simp at hk
  | cons x p ih =>
    cases us with
    | nil => simp at h
    | cons u us =>
      cases k with
      | zero => exact ⟨rfl, rfl, rfl, rfl⟩
      | succ k =>
        have e : (k + 1) * 4 = k * 4 + 1 + 1 + 1 + 1 := by omega
        have := ih us (by simpa using h) k (by simpa using hk)
        simp only [cellsIt, List.zipWith_cons_cons, List.flatten_cons, ci, e, List.cons_append, List.nil_append, List.getElem?_cons_succ, List.getElem_cons_succ] at this ⊢
        exact this
theorem cellsIt_drop (p : List It) (us : List Value) (h : us.length = p.length) (k : Nat) : (cellsIt p us).drop (k * 4) = cellsIt (p.drop k) (us.drop k) := by
  induction p generalizing us k with
  | nil => simp [cellsIt]
  | cons x p ih =>
    cases us with
    | nil => simp at h
    | cons u us =>
      cases k with
      | zero => simp
      | succ k =>
        have e : (k + 1) * 4 = k * 4 + 1 + 1 + 1 + 1 := by omega
        simp only [cellsIt, List.zipWith_cons_cons, List.flatten_cons, ci, e, List.cons_append, List.nil_append, List.drop_succ_cons] at ih ⊢
        exact ih us (by simpa using h) k
theorem cellsIt_take (p : List It) (us : List Value) (h : us.length = p.length) (k : Nat) : (cellsIt p us).take (k * 4) = cellsIt (p.take k) (us.take k) := by
  induction p generalizing us k with
  | nil => simp [cellsIt]
  | cons x p ih =>
    cases us with
    | nil => simp at h
    | cons u us =>
      cases k with
      | zero => simp [cellsIt]
      | succ k =>
        have e : (k + 1) * 4 = k * 4 + 1 + 1 + 1 + 1 := by omega
        simp only [cellsIt, List.zipWith_cons_cons, List.flatten_cons, ci, e, List.cons_append, List.nil_append, List.take_succ_cons] at ih ⊢
        rw [ih us (by simpa using h) k]

/-- Every item's ranges read as they should. -/
def RgsOf (w : World) (B : Nat) (p : List It) (us : List Value) : Prop := us.length = p.length ∧ ∀ (k : Nat) (x : It), p[k]? = some x → ∃ u, us[k]? = some u ∧ Rgs w B u x.2.2.2
/-- A slice of items reads as the pattern p, below block B. -/
def Its (w : World) (B : Nat) (v : Value) (p : List It) : Prop := ∃ us : List Value, Sl w B 4 v p.length (cellsIt p us) ∧ RgsOf w B p us
section
variable {w w' : World} {B B' : Nat} {v : Value} {p : List It} {us : List Value}
theorem RgsOf.below (h : RgsOf w B p us) (hb : Below B w w') : RgsOf w' B p us := ⟨h.1, fun k x hx => by obtain ⟨u, hu, hr⟩ := h.2 k x hx; exact ⟨u, hu, hr.below hb⟩⟩
theorem RgsOf.more (h : RgsOf w B p us) (hB : B ≤ B') : RgsOf w B' p us := ⟨h.1, fun k x hx => by obtain ⟨u, hu, hr⟩ := h.2 k x hx; exact ⟨u, hu, hr.more hB⟩⟩
theorem Its.below (h : Its w B v p) (hb : Below B w w') : Its w' B v p := by
  obtain ⟨us, h1, h2⟩ := h
  exact ⟨us, h1.below hb, h2.below hb⟩
theorem Its.more (h : Its w B v p) (hB : B ≤ B') : Its w B' v p := by
  obtain ⟨us, h1, h2⟩ := h
  exact ⟨us, h1.more hB, h2.more hB⟩
theorem Its.form (h : Its w B v p) : ∃ (A : Option Addr) (c : Nat), v = .slice A p.length c ∧ p.length ≤ c ∧ c ≤ maxLen := by
  obtain ⟨us, ⟨A, c, hv, h1, h2, _⟩, _⟩ := h
  exact ⟨A, c, hv, h1, h2⟩
theorem Its.nil_ (w : World) (B : Nat) : Its w B (.slice none 0 0) [] := ⟨[], Sl.nil_ w B 4, rfl, by simp⟩
theorem Its.at_ {A : Option Addr} {n c k : Nat} (h : Its w B (.slice A n c) p) (hk : k < p.length) : ∃ (b off : Nat) (u : Value), A = some ⟨b, off, none⟩ ∧ b < B ∧
    w.cell? ⟨b, off + k * 4, none⟩ = some (.int .i64 p[k].1) ∧ w.cell? ⟨b, off + k * 4 + 1, none⟩ = some (.int .u8 (p[k].2.1.toNat : Int)) ∧ w.cell? ⟨b, off + k * 4 + 2, none⟩ = some (.bool p[k].2.2.1) ∧
    w.cell? ⟨b, off + k * 4 + 3, none⟩ = some u ∧ Rgs w B u p[k].2.2.2 := by
  obtain ⟨us, ⟨A', c', hv, h1, h2, h3, h4⟩, h5, h6⟩ := h
  injection hv with e1 e2 e3
  subst e1
  obtain ⟨b, off, hA, hb, hc⟩ := h4 (by omega)
  obtain ⟨u, hu, hr⟩ := h6 k _ (List.getElem?_eq_getElem hk)
  obtain ⟨c0, c1, c2, c3⟩ := cellsIt_at p us h5 k hk
  refine ⟨b, off, u, hA, hb, hc _ _ c0, ?_, ?_, ?_, hr⟩
  · rw [Nat.add_assoc]; exact hc _ _ c1
  · rw [Nat.add_assoc]; exact hc _ _ c2
  · rw [Nat.add_assoc]; exact hc _ _ (c3.trans hu)
theorem RgsOf.drop (h : RgsOf w B p us) (k : Nat) : RgsOf w B (p.drop k) (us.drop k) :=
  ⟨by rw [List.length_drop, List.length_drop, h.1], fun j x hx => by rw [List.getElem?_drop] at hx ⊢; exact h.2 _ x hx⟩
theorem RgsOf.take (h : RgsOf w B p us) (k : Nat) : RgsOf w B (p.take k) (us.take k) :=
  ⟨by rw [List.length_take, List.length_take, h.1], fun j x hx => by
    rw [List.getElem?_take] at hx ⊢
    split at hx
    · rename_i hj; rw [if_pos hj]; exact h.2 _ x hx
    · cases hx⟩
theorem RgsOf.snoc (h : RgsOf w B p us) {x : It} {u : Value} (hu : Rgs w B u x.2.2.2) : RgsOf w B (p ++ [x]) (us ++ [u]) := by
  refine ⟨by simp [h.1], fun k y hy => ?_⟩
  rcases Nat.lt_or_ge k p.length with hk | hk
  · rw [List.getElem?_append_left hk] at hy
    rw [List.getElem?_append_left (by rw [h.1]; exact hk)]
    exact h.2 k y hy
  · rw [List.getElem?_append_right hk] at hy
    rw [List.getElem?_append_right (by rw [h.1]; exact hk), h.1]
    rcases Nat.eq_zero_or_pos (k - p.length) with h0 | h0
    · rw [h0] at hy ⊢
      injection hy with hy
      subst hy
      exact ⟨u, rfl, hu⟩
    · rw [List.getElem?_eq_none (by simp; omega)] at hy; cases hy
end
theorem cut_it_l {P : Program} {t : TypeId} (ht : P.underlying t = some (.slice (P.elem t))) (hs : ∀ W, (sizeOf (P.elem t)).run P W = .ok 4 W) {w : World} {B : Nat} {A : Option Addr} {c lo : Nat} {l : List It} (h : Its w B (.slice A l.length c) l) (hl : lo ≤ l.length) :
    ∃ v', (∀ (W : World) (kl : IntKind), (Instr.slice t (.slice A l.length c) (some (.int kl (lo : Int))) none none).run P W = .ok v' W) ∧ Its w B v' (l.drop lo) := by
  obtain ⟨us, hsl, hr⟩ := h
  have hc : l.length ≤ c := by obtain ⟨A', c', hv, hc, _⟩ := hsl; injection hv with e1 e2 e3; subst e3; exact hc
  refine ⟨sliced A lo l.length c 4, fun W kl => ?_, us.drop lo, ?_, hr.drop lo⟩
  · rw [run_slice_l W t A l.length c ht kl lo (by omega) (by omega), hs W]
    simp only [Result.andThen, Int.toNat_natCast]
  · have hcut := Sl.cut (lo := lo) (hi := l.length) hsl hl (Nat.le_refl _)
    rw [cellsIt_drop l us hr.1, List.take_of_length_le (by rw [cellsIt_length _ _ (by rw [List.length_drop, List.length_drop, hr.1]), List.length_drop]; omega)] at hcut
    rw [List.length_drop]
    exact hcut
theorem cut_it_h {P : Program} {t : TypeId} (ht : P.underlying t = some (.slice (P.elem t))) (hs : ∀ W, (sizeOf (P.elem t)).run P W = .ok 4 W) {w : World} {B : Nat} {A : Option Addr} {c hi : Nat} {l : List It} (h : Its w B (.slice A l.length c) l) (hh : hi ≤ l.length) :
    ∃ v', (∀ (W : World) (kh : IntKind), (Instr.slice t (.slice A l.length c) none (some (.int kh (hi : Int))) none).run P W = .ok v' W) ∧ Its w B v' (l.take hi) := by
  obtain ⟨us, hsl, hr⟩ := h
  have hc : l.length ≤ c := by obtain ⟨A', c', hv, hc, _⟩ := hsl; injection hv with e1 e2 e3; subst e3; exact hc
  refine ⟨sliced A 0 hi c 4, fun W kh => ?_, us.take hi, ?_, hr.take hi⟩
  · rw [run_slice_h W t A l.length c ht kh hi (by omega) (by omega), hs W]
    simp only [Result.andThen, Int.toNat_natCast]
  · have hcut := Sl.cut (lo := 0) (hi := hi) hsl (Nat.zero_le _) hh
    rw [cellsIt_drop l us hr.1, List.drop_zero, List.drop_zero, Nat.sub_zero, cellsIt_take l us hr.1] at hcut
    rw [List.length_take, Nat.min_eq_left hh]
    exact hcut
end Go.Proofs.YtmoihdddmeienaaDoor
