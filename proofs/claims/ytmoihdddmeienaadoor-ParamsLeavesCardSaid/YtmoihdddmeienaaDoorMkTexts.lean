/-
  Slices of texts: a row of slice values of the call's own, each a row of marked bytes of the call's own.
-/
import Derived.Test.YtmoihdddmeienaaDoorMkText
import Derived.Test.YtmoihdddmeienaaDoorMkAppend
namespace Go.Proofs.YtmoihdddmeienaaDoor
open Go Go.RowKit

theorem own_base {w : World} {base base' : Nat} {e : TypeId} {size n : Nat} {v : Value} {xs : List Value} (h : w.ownsRow base e size v n xs) (hb : base' ≤ base) : w.ownsRow base' e size v n xs := by
  refine ⟨h.1, ?_⟩
  rcases h.2 with h0 | ⟨g, cap, cur, hv, hg, r⟩
  · exact .inl h0
  · exact .inr ⟨g, cap, cur, hv, by omega, r⟩
/-- Two rows of different element types share no block. -/
theorem own_own_ne {w : World} {base base' : Nat} {e e' : TypeId} {size size' n n' : Nat} {v v' : Value} {xs xs' : List Value} (h : w.ownsRow base e size v n xs) (h' : w.ownsRow base' e' size' v' n' xs') (hne : e ≠ e') :
    v.ownBlock = none ∨ v.ownBlock ≠ v'.ownBlock := by
  rcases h.2 with ⟨rfl, _⟩ | ⟨g, cap, cur, rfl, _, hg, _⟩
  · exact .inl rfl
  · right
    rcases h'.2 with ⟨rfl, _⟩ | ⟨g', cap', cur', rfl, _, hg', _⟩
    · simp [Value.ownBlock]
    · intro he
      have : g = g' := by simpa [Value.ownBlock] using he
      subst this
      rw [hg] at hg'
      injection hg' with hg'
      injection hg' with _ ht
      exact hne ht

/-- A slice of texts, to be read. -/
def Txs (w : World) (B : Nat) (v : Value) (ls : List (List Ch)) : Prop :=
  ∃ vs : List Value, Sl w B 1 v ls.length vs ∧ ∀ (i : Nat) (l : List Ch), ls[i]? = some l → ∃ u, vs[i]? = some u ∧ Tx w B u l
/-- A slice of texts that the call has made: rows e of slices, rows e2 of marked bytes. -/
def OwnTxs (w : World) (base : Nat) (e e2 : TypeId) (v : Value) (ls : List (List Ch)) : Prop :=
  ∃ vs : List Value, w.ownsRow base e 1 v ls.length vs ∧ (∀ u ∈ vs, u.oneCell' = true) ∧ ∀ (i : Nat) (l : List Ch), ls[i]? = some l → ∃ u, vs[i]? = some u ∧ w.ownsRow base e2 2 u l.length (cellsCh l)

section
variable {w w' : World} {B B' base : Nat} {e e2 : TypeId} {v : Value} {ls : List (List Ch)}
theorem Txs.below (h : Txs w B v ls) (hb : Below B w w') : Txs w' B v ls := by
  obtain ⟨vs, h1, h2⟩ := h
  refine ⟨vs, h1.below hb, fun i l hl => ?_⟩
  obtain ⟨u, hu, ht⟩ := h2 i l hl
  exact ⟨u, hu, ht.below hb⟩
theorem Txs.more (h : Txs w B v ls) (hB : B ≤ B') : Txs w B' v ls := by
  obtain ⟨vs, h1, h2⟩ := h
  refine ⟨vs, h1.more hB, fun i l hl => ?_⟩
  obtain ⟨u, hu, ht⟩ := h2 i l hl
  exact ⟨u, hu, ht.more hB⟩
theorem Txs.form (h : Txs w B v ls) : ∃ (A : Option Addr) (c : Nat), v = .slice A ls.length c ∧ ls.length ≤ c ∧ c ≤ maxLen := by
  obtain ⟨vs, ⟨A, c, hv, h1, h2, _⟩, _⟩ := h
  exact ⟨A, c, hv, h1, h2⟩
theorem Txs.at_ {A : Option Addr} {n c k : Nat} (h : Txs w B (.slice A n c) ls) (hk : k < ls.length) :
    ∃ (b off : Nat) (u : Value), A = some ⟨b, off, none⟩ ∧ b < B ∧ w.cell? ⟨b, off + k, none⟩ = some u ∧ Tx w B u ls[k] := by
  obtain ⟨vs, ⟨A', c', hv, h1, h2, h3, h4⟩, h5⟩ := h
  injection hv with e1 e2 e3
  subst e1
  obtain ⟨b, off, hA, hb, hc⟩ := h4 (by omega)
  obtain ⟨u, hu, ht⟩ := h5 k _ (List.getElem?_eq_getElem hk)
  exact ⟨b, off, u, hA, hb, hc _ _ hu, ht⟩
theorem OwnTxs.nil_ (w : World) (base : Nat) (e e2 : TypeId) : OwnTxs w base e e2 (.slice none 0 0) [] :=
  ⟨[], World.ownsRow_nil _ _ _ _, by simp, by simp⟩
theorem OwnTxs.below (h : OwnTxs w base e e2 v ls) (hb : Below w.heap.size w w') : OwnTxs w' base e e2 v ls := by
  obtain ⟨vs, h1, h2, h3⟩ := h
  refine ⟨vs, own_below h1 hb, h2, fun i l hl => ?_⟩
  obtain ⟨u, hu, ht⟩ := h3 i l hl
  exact ⟨u, hu, own_below ht hb⟩
theorem OwnTxs.alloc (h : OwnTxs w base e e2 v ls) (o : Obj) : OwnTxs (w.alloc o) base e e2 v ls := h.below ((Below.refl _ _).alloc (Nat.le_refl _) o)
theorem OwnTxs.read (h : OwnTxs w base e e2 v ls) : Txs w w.heap.size v ls := by
  obtain ⟨vs, h1, h2, h3⟩ := h
  refine ⟨vs, Sl.of_own h1, fun i l hl => ?_⟩
  obtain ⟨u, hu, ht⟩ := h3 i l hl
  exact ⟨u, hu, Sl.of_own ht⟩
/-- One text more, behind append: W is the world at the append. -/
theorem own_texts_snoc {W w1 : World} {vs : List Value} {u v' : Value} {l : List Ch} (hne : e2 ≠ e) (h1 : W.ownsRow base e 1 v ls.length vs) (h2 : ∀ u ∈ vs, u.oneCell' = true)
    (h3 : ∀ (i : Nat) (l : List Ch), ls[i]? = some l → ∃ u, vs[i]? = some u ∧ W.ownsRow base e2 2 u l.length (cellsCh l))
    (hu : W.ownsRow base e2 2 u l.length (cellsCh l)) (hown : w1.ownsRow base e 1 v' (ls.length + 1) (vs ++ [u])) (hg : W.grownBy w1 v.ownBlock) : OwnTxs w1 base e e2 v' (ls ++ [l]) := by
  have hl : vs.length = ls.length := by have := h1.1; omega
  have ho : u.oneCell' = true := by
    rcases hu.2 with ⟨rfl, _⟩ | ⟨g, cap, cur, rfl, _⟩ <;> rfl
  refine ⟨vs ++ [u], by rw [List.length_append]; exact hown, fun x hx => ?_, fun i m hm => ?_⟩
  · rcases List.mem_append.1 hx with hx | hx
    · exact h2 x hx
    · rw [List.mem_singleton.1 hx]; exact ho
  · rcases Nat.lt_or_ge i ls.length with hi | hi
    · rw [List.getElem?_append_left hi] at hm
      obtain ⟨x, hx, ht⟩ := h3 i m hm
      refine ⟨x, by rw [List.getElem?_append_left (by omega)]; exact hx, ht.kept hg (own_own_ne ht h1 hne)⟩
    · rw [List.getElem?_append_right hi] at hm
      have h0 : i - ls.length = 0 := by
        rcases Nat.eq_zero_or_pos (i - ls.length) with h0 | h0
        · exact h0
        · rw [List.getElem?_eq_none (by simp; omega)] at hm; cases hm
      rw [h0] at hm
      injection hm with hm
      have hm : l = m := by simpa using hm
      subst hm
      refine ⟨u, by rw [List.getElem?_append_right (by omega), show i - vs.length = 0 by omega]; rfl, hu.kept hg (own_own_ne hu h1 hne)⟩
end

/-- A cut of a text, as one equation for every world and one value. -/
theorem cut_lh {P : Program} {t : TypeId} (ht : P.underlying t = some (.slice (P.elem t))) (hs : ∀ W, (sizeOf (P.elem t)).run P W = .ok 2 W) {w : World} {B : Nat} {A : Option Addr} {c lo hi : Nat} {l : List Ch} (h : Tx w B (.slice A l.length c) l) (hl : lo ≤ hi) (hh : hi ≤ l.length) :
    ∃ v', (∀ (W : World) (kl kh : IntKind), (Instr.slice t (.slice A l.length c) (some (.int kl (lo : Int))) (some (.int kh (hi : Int))) none).run P W = .ok v' W) ∧ Tx w B v' ((l.drop lo).take (hi - lo)) := by
  have hc := h.form
  obtain ⟨A', c', hv, hc, _⟩ := hc
  injection hv with e1 e2 e3
  subst e3
  refine ⟨sliced A lo hi c 2, fun W kl kh => ?_, ?_⟩
  · rw [run_slice_lh W t A l.length c ht kl kh lo hi (by omega) (by omega) (by omega), hs W]
    simp only [Result.andThen, Int.toNat_natCast]
  · have hcut := Sl.cut (lo := lo) (hi := hi) h hl hh
    rw [cellsCh_drop, cellsCh_take] at hcut
    unfold Tx
    rw [List.length_take, List.length_drop, Nat.min_eq_left (by omega)]
    exact hcut
theorem cut_h {P : Program} {t : TypeId} (ht : P.underlying t = some (.slice (P.elem t))) (hs : ∀ W, (sizeOf (P.elem t)).run P W = .ok 2 W) {w : World} {B : Nat} {A : Option Addr} {c hi : Nat} {l : List Ch} (h : Tx w B (.slice A l.length c) l) (hh : hi ≤ l.length) :
    ∃ v', (∀ (W : World) (kh : IntKind), (Instr.slice t (.slice A l.length c) none (some (.int kh (hi : Int))) none).run P W = .ok v' W) ∧ Tx w B v' (l.take hi) := by
  have hc := h.form
  obtain ⟨A', c', hv, hc, _⟩ := hc
  injection hv with e1 e2 e3
  subst e3
  refine ⟨sliced A 0 hi c 2, fun W kh => ?_, ?_⟩
  · rw [run_slice_h W t A l.length c ht kh hi (by omega) (by omega), hs W]
    simp only [Result.andThen, Int.toNat_natCast]
  · have hcut := Sl.cut (lo := 0) (hi := hi) h (Nat.zero_le _) hh
    rw [cellsCh_drop, cellsCh_take, Nat.sub_zero] at hcut
    unfold Tx
    rw [List.length_take, Nat.min_eq_left (by omega)]
    exact hcut
theorem cut_l {P : Program} {t : TypeId} (ht : P.underlying t = some (.slice (P.elem t))) (hs : ∀ W, (sizeOf (P.elem t)).run P W = .ok 2 W) {w : World} {B : Nat} {A : Option Addr} {c lo : Nat} {l : List Ch} (h : Tx w B (.slice A l.length c) l) (hl : lo ≤ l.length) :
    ∃ v', (∀ (W : World) (kl : IntKind), (Instr.slice t (.slice A l.length c) (some (.int kl (lo : Int))) none none).run P W = .ok v' W) ∧ Tx w B v' (l.drop lo) := by
  have hc := h.form
  obtain ⟨A', c', hv, hc, _⟩ := hc
  injection hv with e1 e2 e3
  subst e3
  refine ⟨sliced A lo l.length c 2, fun W kl => ?_, ?_⟩
  · rw [run_slice_l W t A l.length c ht kl lo (by omega) (by omega), hs W]
    simp only [Result.andThen, Int.toNat_natCast]
  · have hcut := Sl.cut (lo := lo) (hi := l.length) h hl (Nat.le_refl _)
    rw [cellsCh_drop, cellsCh_take, List.take_of_length_le (by rw [List.length_drop]; omega)] at hcut
    unfold Tx
    rw [List.length_drop]
    exact hcut
end Go.Proofs.YtmoihdddmeienaaDoor
