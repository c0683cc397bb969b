/-
  Words for memory: a slice that reads as a list of cells, marked texts as lists of (byte, quoted), and how they are kept.
-/
import Derived.WalkKit
import Derived.WalkSpells
import Derived.WalkLawsBesides
import Derived.Below
import Derived.Lib.Hide
import Derived.Laws.OwnMore
import Derived.Deep.Draws
import Derived.Outline
namespace Go.Proofs.YtmoihdddmeienaaDoor
open Go Go.RowKit

/-- A slice value that reads as n elements of size cells each, all below block B; nil, empty and cut slices too. -/
def Sl (w : World) (B size : Nat) (v : Value) (n : Nat) (xs : List Value) : Prop :=
  ∃ (A : Option Addr) (c : Nat), v = .slice A n c ∧ n ≤ c ∧ c ≤ maxLen ∧ xs.length = n * size ∧
    (0 < n → ∃ b off : Nat, A = some ⟨b, off, none⟩ ∧ b < B ∧ ∀ (j : Nat) (u : Value), xs[j]? = some u → w.cell? ⟨b, off + j, none⟩ = some u)

theorem add_plain0 (b off k : Nat) : (⟨b, off, none⟩ : Addr).add k = ⟨b, off + k, none⟩ := by
  unfold Addr.add; split <;> simp_all

theorem ret_int {k : IntKind} {a b : Int} (h : a = b) : Ending.returned (.int k a) = .returned (.int k b) := by rw [h]
theorem ret_bool {a b : Bool} (h : a = b) : Ending.returned (.bool a) = .returned (.bool b) := by rw [h]
theorem ret_str {a b : ByteArray} (h : a = b) : Ending.returned (.string a) = .returned (.string b) := by rw [h]

theorem below_drewN {B : Nat} {a w : World} (h : Below B a w) (n : Nat) : Below B a (w.drewN n) := ⟨h.os, h.tape, h.output, h.size, h.block⟩

section
variable {w w' : World} {B B' size n : Nat} {v : Value} {xs : List Value}
theorem Sl.len (h : Sl w B size v n xs) : xs.length = n * size := by obtain ⟨_, _, _, _, _, hl, _⟩ := h; exact hl
theorem Sl.keep (h : Sl w B size v n xs) (hk : ∀ p : Addr, p.block < B → w'.cell? p = w.cell? p) : Sl w' B size v n xs := by
  obtain ⟨A, c, hv, h1, h2, h3, h4⟩ := h
  refine ⟨A, c, hv, h1, h2, h3, fun hn => ?_⟩
  obtain ⟨b, off, hA, hb, hc⟩ := h4 hn
  exact ⟨b, off, hA, hb, fun j u hu => (hk ⟨b, off + j, none⟩ hb).trans (hc j u hu)⟩
theorem Sl.more (h : Sl w B size v n xs) (hB : B ≤ B') : Sl w B' size v n xs := by
  obtain ⟨A, c, hv, h1, h2, h3, h4⟩ := h
  refine ⟨A, c, hv, h1, h2, h3, fun hn => ?_⟩
  obtain ⟨b, off, hA, hb, hc⟩ := h4 hn
  exact ⟨b, off, hA, by omega, hc⟩
theorem Sl.below (h : Sl w B size v n xs) (hb : Below B w w') : Sl w' B size v n xs := h.keep fun _ hp => hb.cell hp
theorem Sl.drewN (h : Sl w B size v n xs) (k : Nat) : Sl (w.drewN k) B size v n xs := h
theorem Sl.nil_ (w : World) (B size : Nat) : Sl w B size (.slice none 0 0) 0 [] := ⟨none, 0, rfl, Nat.le_refl _, Nat.zero_le _, by simp, fun h => absurd h (by omega)⟩
theorem Sl.of_own {base : Nat} {e : TypeId} (h : w.ownsRow base e size v n xs) : Sl w w.heap.size size v n xs := by
  rcases h.2 with ⟨rfl, rfl⟩ | ⟨g, cap, cur, rfl, _, hg, hn, hc, _, _⟩
  · exact ⟨none, 0, rfl, Nat.le_refl _, Nat.zero_le _, h.1, fun h => absurd h (by omega)⟩
  · refine ⟨_, cap, rfl, hn, hc, h.1, fun _ => ⟨g, 0, rfl, (Array.getElem?_eq_some_iff.1 hg).1, fun j u hu => ?_⟩⟩
    have := h.cells (g := g) rfl j u hu
    rwa [add_plain0] at this
/-- The cut s[lo:hi] (both within the length), its cells; the capacity left is c - lo. -/
theorem Sl.cut {A : Option Addr} {c lo hi : Nat} (h : Sl w B size (.slice A n c) n xs) (hl : lo ≤ hi) (hh : hi ≤ n) :
    Sl w B size (.slice (if c = lo then A else A.map (·.add (lo * size))) (hi - lo) (c - lo)) (hi - lo) ((xs.drop (lo * size)).take ((hi - lo) * size)) := by
  obtain ⟨A', c', hv, h1, h2, h3, h4⟩ := h
  injection hv with e1 e2 e3
  subst e1
  subst e3
  have e : (hi - lo) * size = hi * size - lo * size := Nat.sub_mul _ _ _
  have hm : hi * size ≤ n * size := Nat.mul_le_mul_right _ hh
  refine ⟨_, _, rfl, by omega, by omega, ?_, fun hn => ?_⟩
  · rw [List.length_take, List.length_drop, h3]; omega
  · obtain ⟨b, off, rfl, hb, hc⟩ := h4 (by omega)
    rw [if_neg (by omega)]
    refine ⟨b, off + lo * size, by simp [add_plain0], hb, fun j u hu => ?_⟩
    rw [List.getElem?_take] at hu
    split at hu
    · rw [List.getElem?_drop] at hu
      rw [Nat.add_assoc]
      exact hc _ u hu
    · cases hu
end

theorem own_below {w w' : World} {base : Nat} {e : TypeId} {size n : Nat} {v : Value} {xs : List Value} (h : w.ownsRow base e size v n xs) (hb : Below w.heap.size w w') : w'.ownsRow base e size v n xs :=
  h.kept (row := none) ⟨hb.os, hb.tape, hb.output, hb.size, fun i hi _ => hb.block i hi⟩ (by cases hv : v.ownBlock <;> simp)
theorem new_cells (w : World) (cs : Array Value) (t : TypeId) : ∀ (j : Nat) (u : Value), cs.toList[j]? = some u → (w.alloc (.cells cs t)).cell? ((⟨w.heap.size, 0, none⟩ : Addr).add j) = some u := by
  intro j u hu
  rw [add_plain0, Nat.zero_add, World.cell?_alloc_at _ _ _ _ rfl]
  simpa using hu

/-- A marked text: bytes, each with its mark. -/
abbrev Ch := UInt8 × Bool
def cc (c : Ch) : List Value := [.int .u8 (c.1.toNat : Int), .bool c.2]
def cellsCh (l : List Ch) : List Value := l.flatMap cc
theorem cellsCh_length (l : List Ch) : (cellsCh l).length = l.length * 2 := by
  induction l with
  | nil => rfl
  | cons a l ih => simp only [cellsCh, List.flatMap_cons, List.length_append, cc, List.length_cons, List.length_nil] at ih ⊢; omega
theorem cellsCh_append (l m : List Ch) : cellsCh (l ++ m) = cellsCh l ++ cellsCh m := by simp [cellsCh]
theorem cellsCh_drop (l : List Ch) (k : Nat) : (cellsCh l).drop (k * 2) = cellsCh (l.drop k) := by
  induction l generalizing k with
  | nil => simp [cellsCh]
  | cons a l ih =>
    cases k with
    | zero => simp
    | succ k =>
      have e : (k + 1) * 2 = k * 2 + 1 + 1 := by omega
      simp only [cellsCh, List.flatMap_cons, cc, e, List.cons_append, List.nil_append, List.drop_succ_cons] at ih ⊢
      exact ih k
theorem cellsCh_take (l : List Ch) (k : Nat) : (cellsCh l).take (k * 2) = cellsCh (l.take k) := by
  induction l generalizing k with
  | nil => simp [cellsCh]
  | cons a l ih =>
    cases k with
    | zero => simp [cellsCh]
    | succ k =>
      have e : (k + 1) * 2 = k * 2 + 1 + 1 := by omega
      simp only [cellsCh, List.flatMap_cons, cc, e, List.cons_append, List.nil_append, List.take_succ_cons] at ih ⊢
      rw [ih k]
theorem cellsCh_0 (l : List Ch) (k : Nat) (h : k < l.length) : (cellsCh l)[k * 2]? = some (.int .u8 (l[k].1.toNat : Int)) := by
  have h1 := cellsCh_drop l k
  have h2 : (cellsCh l)[k * 2]? = ((cellsCh l).drop (k * 2))[0]? := by rw [List.getElem?_drop, Nat.add_zero]
  rw [h2, h1, List.drop_eq_getElem_cons h]; rfl
theorem cellsCh_1 (l : List Ch) (k : Nat) (h : k < l.length) : (cellsCh l)[k * 2 + 1]? = some (.bool l[k].2) := by
  have h1 := cellsCh_drop l k
  have h2 : (cellsCh l)[k * 2 + 1]? = ((cellsCh l).drop (k * 2))[1]? := by rw [List.getElem?_drop]
  rw [h2, h1, List.drop_eq_getElem_cons h]; rfl
theorem cellsCh_one (l : List Ch) : ∀ u ∈ cellsCh l, u.oneCell' = true := by
  intro u hu
  simp only [cellsCh, List.mem_flatMap, cc, List.mem_cons, List.mem_nil_iff, or_false] at hu
  obtain ⟨a, _, rfl | rfl⟩ := hu <;> rfl

/-- A slice of marked bytes reads as the marked text l, below block B. -/
def Tx (w : World) (B : Nat) (v : Value) (l : List Ch) : Prop := Sl w B 2 v l.length (cellsCh l)

section
variable {w w' : World} {B B' : Nat} {v : Value} {l : List Ch}
theorem Tx.below (h : Tx w B v l) (hb : Below B w w') : Tx w' B v l := Sl.below h hb
theorem Tx.more (h : Tx w B v l) (hB : B ≤ B') : Tx w B' v l := Sl.more h hB
theorem Tx.drewN (h : Tx w B v l) (k : Nat) : Tx (w.drewN k) B v l := h
theorem Tx.form (h : Tx w B v l) : ∃ (A : Option Addr) (c : Nat), v = .slice A l.length c ∧ l.length ≤ c ∧ c ≤ maxLen := by
  obtain ⟨A, c, hv, h1, h2, _⟩ := h
  exact ⟨A, c, hv, h1, h2⟩
theorem Tx.at_ {A : Option Addr} {n c k : Nat} (h : Tx w B (.slice A n c) l) (hk : k < l.length) : ∃ b off : Nat, A = some ⟨b, off, none⟩ ∧ b < B ∧
    w.cell? ⟨b, off + k * 2, none⟩ = some (.int .u8 (l[k].1.toNat : Int)) ∧ w.cell? ⟨b, off + k * 2 + 1, none⟩ = some (.bool l[k].2) := by
  obtain ⟨A', c', hv, h1, h2, h3, h4⟩ := h
  injection hv with e1 e2 e3
  subst e1
  obtain ⟨b, off, hA, hb, hc⟩ := h4 (by omega)
  exact ⟨b, off, hA, hb, hc _ _ (cellsCh_0 l k hk), by rw [Nat.add_assoc]; exact hc _ _ (cellsCh_1 l k hk)⟩
/-- The parts: the address and capacity, and under 'k < length' the two cells of element k. -/
theorem Tx.parts (h : Tx w B v l) : ∃ (A : Option Addr) (c : Nat), v = .slice A l.length c ∧ l.length ≤ c ∧ c ≤ maxLen ∧
    (∀ k, k < l.length → ∃ b off : Nat, A = some ⟨b, off, none⟩ ∧ b < B ∧ ∀ k (hk : k < l.length), w.cell? ⟨b, off + k * 2, none⟩ = some (.int .u8 (l[k].1.toNat : Int)) ∧ w.cell? ⟨b, off + k * 2 + 1, none⟩ = some (.bool l[k].2)) := by
  obtain ⟨A, c, hv, h1, h2, h3, h4⟩ := h
  refine ⟨A, c, hv, h1, h2, fun k hk => ?_⟩
  obtain ⟨b, off, hA, hb, hc⟩ := h4 (by omega)
  exact ⟨b, off, hA, hb, fun k hk => ⟨hc _ _ (cellsCh_0 l k hk), by rw [Nat.add_assoc]; exact hc _ _ (cellsCh_1 l k hk)⟩⟩
end
end Go.Proofs.YtmoihdddmeienaaDoor
