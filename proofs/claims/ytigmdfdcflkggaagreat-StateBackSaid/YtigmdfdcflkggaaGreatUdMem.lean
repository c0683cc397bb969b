/-
  Words for memory in which much is written: blocks that may be written, rows of such blocks, what a step may change; append as a run equation. Conditions: none.
-/
import Derived.Test.YtigmdfdcflkggaaGreatMkWords
import Derived.Test.YtigmdfdcflkggaaGreatHnMap
import Derived.Deep.AppendSrc
import Derived.Laws.CopyRow
namespace Go.Proofs.YtigmdfdcflkggaaGreat
open Go Go.RowKit Go.ChangeMaps

/-- A block of cells that may be written. -/
def Blk (w : World) (b : Nat) (cur : List Value) (t : TypeId) : Prop := w.heap[b]? = some (.cells cur.toArray t (0, 0))

section
variable {w w' : World} {b : Nat} {cur : List Value} {t : TypeId}
theorem Blk.lt (h : Blk w b cur t) : b < w.heap.size := (Array.getElem?_eq_some_iff.1 h).1
theorem Blk.cell (h : Blk w b cur t) {i : Nat} {v : Value} (hi : cur[i]? = some v) : w.cell? ⟨b, i, none⟩ = some v := by
  rw [cell_of_row w b i _ t _ h]; simpa using hi
theorem Blk.frozen (h : Blk w b cur t) (i : Nat) : w.frozen? ⟨b, i, none⟩ = false := frozen_of_row w b i _ t h
theorem Blk.set (h : Blk w b cur t) (i : Nat) (u : Value) : Blk (w.setCell ⟨b, i, none⟩ u) b (cur.set i u) t := by
  have := heap_setCell_same w b i _ t u h
  simpa [Blk] using this
theorem Blk.other (h : Blk w b cur t) {a : Addr} (hb : b ≠ a.block) (u : Value) : Blk (w.setCell a u) b cur t := (heap_setCell_other w a b u hb).trans h
theorem Blk.alloc (h : Blk w b cur t) (o : Obj) : Blk (w.alloc o) b cur t := (Below.heap_alloc w o b h.lt).trans h
theorem Blk.row (h : Blk w b cur t) (c : List Value) : Blk (w.setRow b c.toArray) b c t := setRow_heap w b _ _ t _ h
theorem Blk.inj {cur' : List Value} {t' : TypeId} (h : Blk w b cur t) (k : Blk w b cur' t') : cur = cur' := by
  have := h.symm.trans k
  simp at this
  exact this.1
end
theorem Blk.new (w : World) (cs : List Value) (t : TypeId) : Blk (w.alloc (.cells cs.toArray t)) w.heap.size cs t := heap_alloc_new w _


/-- What a step may change: of what was there, only blocks in S. -/
structure Stp (S : Nat → Prop) (w w' : World) : Prop where
  os : w'.os = w.os
  tape : w'.tape = w.tape
  output : w'.output = w.output
  size : w.heap.size ≤ w'.heap.size
  block : ∀ b, b < w.heap.size → ¬ S b → w'.heap[b]? = w.heap[b]?
theorem setB_other {w : World} {b g : Nat} (h : g ≠ b) (o : Obj) : (setBlock w b o).heap[g]? = w.heap[g]? := by simp [setBlock, Ne.symm h]
section
variable {S S' : Nat → Prop} {w w' w'' : World}
theorem Stp.refl (S : Nat → Prop) (w : World) : Stp S w w := ⟨rfl, rfl, rfl, Nat.le_refl _, fun _ _ _ => rfl⟩
theorem Stp.trans (h : Stp S w w') (k : Stp S' w' w'') (hs : ∀ b, b < w.heap.size → S' b → S b) : Stp S w w'' :=
  ⟨k.os.trans h.os, k.tape.trans h.tape, k.output.trans h.output, Nat.le_trans h.size k.size, fun b hb hn => (k.block b (Nat.lt_of_lt_of_le hb h.size) (fun e => hn (hs b hb e))).trans (h.block b hb hn)⟩
theorem Stp.mono (h : Stp S w w') (hs : ∀ b, b < w.heap.size → S b → S' b) : Stp S' w w' := ⟨h.os, h.tape, h.output, h.size, fun b hb hn => h.block b hb fun k => hn (hs b hb k)⟩
theorem Stp.set {b : Nat} (hS : S b) (i : Nat) (u : Value) : Stp S w (w.setCell ⟨b, i, none⟩ u) :=
  ⟨rfl, rfl, rfl, by simp [World.setCell], fun k _ hk => heap_setCell_other w _ k u (fun e => hk (by rw [e]; exact hS))⟩
theorem Stp.row {b : Nat} (hS : S b) (cs : Array Value) : Stp S w (w.setRow b cs) :=
  ⟨rfl, rfl, rfl, by simp, fun k _ hk => setRow_other w b k cs (fun e => hk (by rw [e]; exact hS))⟩
theorem Stp.setB {b : Nat} (hS : S b) (o : Obj) : Stp S w (setBlock w b o) :=
  ⟨rfl, rfl, rfl, by simp [setBlock], fun k _ hk => setB_other (fun e => hk (by rw [e]; exact hS)) o⟩
theorem Stp.alloc (S : Nat → Prop) (w : World) (o : Obj) : Stp S w (w.alloc o) := ⟨rfl, rfl, rfl, by simp, fun k hk _ => Below.heap_alloc w o k hk⟩
theorem Stp.drew (S : Nat → Prop) (w : World) : Stp S w w.drew := ⟨rfl, rfl, rfl, Nat.le_refl _, fun _ _ _ => rfl⟩
theorem Stp.drewN (S : Nat → Prop) (w : World) (n : Nat) : Stp S w (w.drewN n) := ⟨rfl, rfl, rfl, Nat.le_refl _, fun _ _ _ => rfl⟩
theorem Blk.stp {b : Nat} {cur : List Value} {t : TypeId} (h : Blk w b cur t) (m : Stp S w w') (hb : ¬ S b) : Blk w' b cur t := (m.block b h.lt hb).trans h
end

/-- What a call may change: only blocks from B on, of types in T, or in M. -/
structure Fr (B : Nat) (T : TypeId → Prop) (M : Nat → Prop) (w w' : World) : Prop where
  os : w'.os = w.os
  tape : w'.tape = w.tape
  output : w'.output = w.output
  size : w.heap.size ≤ w'.heap.size
  keep : ∀ b, b < w.heap.size → (b < B ∨ ¬ M b ∧ ∀ cur t f, w.heap[b]? = some (.cells cur t f) → ¬ T t) → w'.heap[b]? = w.heap[b]?
section
variable {B B' : Nat} {T T' : TypeId → Prop} {M M' S : Nat → Prop} {w w' w'' : World}
theorem Fr.refl (B : Nat) (T : TypeId → Prop) (M : Nat → Prop) (w : World) : Fr B T M w w := ⟨rfl, rfl, rfl, Nat.le_refl _, fun _ _ _ => rfl⟩
theorem Fr.trans (h : Fr B T M w w') (k : Fr B T M w' w'') : Fr B T M w w'' :=
  ⟨k.os.trans h.os, k.tape.trans h.tape, k.output.trans h.output, Nat.le_trans h.size k.size, fun b hb hf => by
    have e := h.keep b hb hf
    exact (k.keep b (Nat.lt_of_lt_of_le hb h.size) (hf.imp id fun hf => ⟨hf.1, fun cur t f hc => hf.2 cur t f (e ▸ hc)⟩)).trans e⟩
theorem Fr.mono (h : Fr B T M w w') (hB : B' ≤ B) (hT : ∀ t, T t → T' t) (hM : ∀ b, b < w.heap.size → M b → M' b) : Fr B' T' M' w w' :=
  ⟨h.os, h.tape, h.output, h.size, fun b hb hf => h.keep b hb (hf.imp (fun h => Nat.lt_of_lt_of_le h hB) fun hf => ⟨fun k => hf.1 (hM b hb k), fun cur t f hc k => hf.2 cur t f hc (hT t k)⟩)⟩
theorem Fr.below (h : Fr B T M w w') (hB : B ≤ w.heap.size) : Below B w w' := ⟨h.os, h.tape, h.output, h.size, fun b hb => h.keep b (Nat.lt_of_lt_of_le hb hB) (.inl hb)⟩
theorem Fr.of_stp (h : Stp S w w') (hs : ∀ b, b < w.heap.size → S b → B ≤ b ∧ (M b ∨ ∃ cur t f, w.heap[b]? = some (.cells cur t f) ∧ T t)) : Fr B T M w w' :=
  ⟨h.os, h.tape, h.output, h.size, fun b hb hf => h.block b hb fun k => by
    obtain ⟨h1, h2⟩ := hs b hb k
    rcases hf with hf | ⟨hf, hg⟩
    · omega
    · rcases h2 with h2 | ⟨cur, t, f, h3, h4⟩
      · exact hf h2
      · exact hg cur t f h3 h4⟩
theorem Fr.stp (h : Fr B T M w w') : Stp (fun b => B ≤ b ∧ (M b ∨ ∃ cur t f, w.heap[b]? = some (.cells cur t f) ∧ T t)) w w' :=
  ⟨h.os, h.tape, h.output, h.size, fun b hb hn => h.keep b hb (by
    by_cases hB : b < B
    · exact .inl hB
    · exact .inr ⟨fun k => hn ⟨by omega, .inl k⟩, fun cur t f hc k => hn ⟨by omega, .inr ⟨cur, t, f, hc, k⟩⟩⟩)⟩
theorem Fr.alloc (B : Nat) (T : TypeId → Prop) (M : Nat → Prop) (w : World) (o : Obj) : Fr B T M w (w.alloc o) := Fr.of_stp (Stp.alloc (fun _ => False) w o) fun _ _ h => h.elim
theorem Fr.drew (B : Nat) (T : TypeId → Prop) (M : Nat → Prop) (w : World) : Fr B T M w w.drew := ⟨rfl, rfl, rfl, Nat.le_refl _, fun _ _ _ => rfl⟩
theorem Fr.drewN (B : Nat) (T : TypeId → Prop) (M : Nat → Prop) (w : World) (n : Nat) : Fr B T M w (w.drewN n) := ⟨rfl, rfl, rfl, Nat.le_refl _, fun _ _ _ => rfl⟩
theorem Fr.of_below (h : Below w.heap.size w w') : Fr B T M w w' := ⟨h.os, h.tape, h.output, h.size, fun b hb _ => h.block b hb⟩
/-- A change of a block that was not there. -/
theorem Fr.set_new (h : Fr B T M w w') {g : Nat} (hg : w.heap.size ≤ g) (i : Nat) (u : Value) : Fr B T M w (w'.setCell ⟨g, i, none⟩ u) :=
  ⟨h.os, h.tape, h.output, by simpa [World.setCell] using h.size, fun b hb hs => (heap_setCell_other w' _ b u (by show b ≠ g; omega)).trans (h.keep b hb hs)⟩
theorem Blk.fr {b : Nat} {cur : List Value} {t : TypeId} (h : Blk w b cur t) (m : Fr B T M w w') (ht : ¬ T t) (hM : ¬ M b) : Blk w' b cur t :=
  (m.keep b h.lt (.inr ⟨hM, fun _ _ _ hc => by
    have := h.symm.trans hc
    simp only [Option.some.injEq, Obj.cells.injEq] at this
    rw [← this.2.1]; exact ht⟩)).trans h
theorem KMap.fr {κ : Type} {b : Nat} {d : TypeDesc} {enc : κ → Value} {l : List (κ × Value)} (h : KMap w b d enc l) (m : Fr B T M w w') (hM : ¬ M b) : KMap w' b d enc l :=
  h.keep (m.keep b h.lt (.inr ⟨hM, fun _ _ _ hc => absurd hc h.no_cells⟩))
end

/-- A slice of n elements of one cell each, in a block of its own from B on. -/
def Row (w : World) (B : Nat) (e : TypeId) (v : Value) (n : Nat) (xs : List Value) : Prop :=
  (v = .slice none 0 0 ∧ n = 0 ∧ xs = []) ∨
  ∃ g off cap cur, v = .slice (some ⟨g, off, none⟩) n cap ∧ B ≤ g ∧ Blk w g cur e ∧ n ≤ cap ∧ cap ≤ maxLen ∧ off + cap ≤ cur.length ∧ (cur.drop off).take n = xs

section
variable {w w' : World} {B : Nat} {e : TypeId} {v : Value} {n : Nat} {xs : List Value}
theorem Row.len (h : Row w B e v n xs) : xs.length = n := by
  rcases h with ⟨_, rfl, rfl⟩ | ⟨g, off, cap, cur, _, _, _, h1, _, h2, rfl⟩
  · rfl
  · rw [List.length_take, List.length_drop]; omega
theorem Row.nil_ (w : World) (B : Nat) (e : TypeId) : Row w B e (.slice none 0 0) 0 [] := .inl ⟨rfl, rfl, rfl⟩
theorem Row.keep (h : Row w B e v n xs) (hk : ∀ g, v.ownBlock = some g → w'.heap[g]? = w.heap[g]?) : Row w' B e v n xs := by
  rcases h with h | ⟨g, off, cap, cur, rfl, h0, h1, h2⟩
  · exact .inl h
  · exact .inr ⟨g, off, cap, cur, rfl, h0, (hk g rfl).trans h1, h2⟩
theorem Row.lt (h : Row w B e v n xs) {g : Nat} (hg : v.ownBlock = some g) : B ≤ g ∧ g < w.heap.size ∧ ∃ cur, Blk w g cur e := by
  rcases h with ⟨rfl, _⟩ | ⟨g', off, cap, cur, rfl, h0, h1, _⟩
  · cases hg
  · cases hg
    exact ⟨h0, h1.lt, cur, h1⟩
theorem Row.stp {S : Nat → Prop} (h : Row w B e v n xs) (m : Stp S w w') (hb : ∀ g, v.ownBlock = some g → ¬ S g) : Row w' B e v n xs :=
  h.keep fun g hg => m.block g (h.lt hg).2.1 (hb g hg)
theorem Row.fr {B' : Nat} {T : TypeId → Prop} {M : Nat → Prop} (h : Row w B e v n xs) (m : Fr B' T M w w') (ht : ¬ T e) (hM : ∀ g, v.ownBlock = some g → ¬ M g) : Row w' B e v n xs :=
  h.keep fun g hg => by
    obtain ⟨_, hl, cur, hb⟩ := h.lt hg
    exact (hb.fr m ht (hM g hg)).trans hb.symm
theorem Row.form (h : Row w B e v n xs) : ∃ A c, v = .slice A n c ∧ n ≤ c ∧ c ≤ maxLen := by
  rcases h with ⟨rfl, rfl, _⟩ | ⟨g, off, cap, cur, rfl, _, _, h1, h2, _⟩
  · exact ⟨none, 0, rfl, Nat.le_refl _, Nat.zero_le _⟩
  · exact ⟨_, cap, rfl, h1, h2⟩
theorem Row.form1 (h : Row w B e v n xs) (hn : 0 < n) : ∃ g off cap, v = .slice (some ⟨g, off, none⟩) n cap ∧ n ≤ cap ∧ cap ≤ maxLen ∧ B ≤ g := by
  rcases h with ⟨rfl, rfl, _⟩ | ⟨g, off, cap, cur, rfl, h0, _, h1, h2, _⟩
  · omega
  · exact ⟨g, off, cap, rfl, h1, h2, h0⟩
theorem Row.cell {g off c : Nat} (h : Row w B e (.slice (some ⟨g, off, none⟩) n c) n xs) {j : Nat} {u : Value} (hu : xs[j]? = some u) : w.cell? ⟨g, off + j, none⟩ = some u := by
  rcases h with ⟨h, _⟩ | ⟨g', off', cap, cur, hv, _, h1, h2, _, h3, rfl⟩
  · cases h
  · cases hv
    rw [List.getElem?_take] at hu
    split at hu
    · rw [List.getElem?_drop] at hu
      exact h1.cell hu
    · cases hu
theorem Row.frozen {g off c : Nat} (h : Row w B e (.slice (some ⟨g, off, none⟩) n c) n xs) (j : Nat) : w.frozen? ⟨g, j, none⟩ = false := by
  obtain ⟨_, _, cur, hb⟩ := h.lt (g := g) rfl
  exact hb.frozen j
/-- One element is written. -/
theorem Row.set {g off c : Nat} (h : Row w B e (.slice (some ⟨g, off, none⟩) n c) n xs) (j : Nat) (u : Value) : Row (w.setCell ⟨g, off + j, none⟩ u) B e (.slice (some ⟨g, off, none⟩) n c) n (xs.set j u) := by
  rcases h with ⟨h, _⟩ | ⟨g', off', cap, cur, hv, h0, h1, h2, h4, h3, rfl⟩
  · cases h
  · cases hv
    refine .inr ⟨g, off, c, _, rfl, h0, h1.set _ _, h2, h4, by rw [List.length_set]; exact h3, ?_⟩
    rw [List.drop_set, if_neg (by omega), Nat.add_sub_cancel_left, List.take_set]
/-- Fewer elements. -/
theorem Row.head {A : Option Addr} {c : Nat} (h : Row w B e (.slice A n c) n xs) (k : Nat) (hk : k ≤ n) : Row w B e (.slice A k c) k (xs.take k) := by
  rcases h with ⟨h, rfl, rfl⟩ | ⟨g', off', cap, cur, hv, h0, h1, h2, h4, h3, rfl⟩
  · cases h
    obtain rfl : k = 0 := by omega
    exact .inl ⟨rfl, rfl, rfl⟩
  · cases hv
    exact .inr ⟨g', off', c, cur, rfl, h0, h1, by omega, h4, h3, by rw [List.take_take, Nat.min_eq_left hk]⟩
/-- More elements, as far as there is room: whatever stands there. -/
theorem Row.room {A : Option Addr} {c : Nat} (h : Row w B e (.slice A n c) n xs) (k : Nat) (hk : n ≤ k) (hc : k ≤ c) : ∃ ys, Row w B e (.slice A k c) k (xs ++ ys) := by
  rcases h with ⟨h, rfl, rfl⟩ | ⟨g', off', cap, cur, hv, h0, h1, h2, h4, h3, rfl⟩
  · cases h
    obtain rfl : k = 0 := by omega
    exact ⟨[], .inl ⟨rfl, rfl, rfl⟩⟩
  · cases hv
    refine ⟨((cur.drop off').drop n).take (k - n), .inr ⟨g', off', c, cur, rfl, h0, h1, hc, h4, h3, ?_⟩⟩
    have := List.take_add (l := cur.drop off') (i := n) (j := k - n)
    rw [show n + (k - n) = k by omega] at this
    exact this
/-- What stands behind the first. -/
theorem Row.tail {A : Option Addr} {c : Nat} (h : Row w B e (.slice A n c) n xs) (k : Nat) (hk : k ≤ n) : Row w B e (.slice (if c = k then A else A.map (·.add k)) (n - k) (c - k)) (n - k) (xs.drop k) := by
  rcases h with ⟨h, rfl, rfl⟩ | ⟨g', off', cap, cur, hv, h0, h1, h2, h4, h3, rfl⟩
  · cases h
    obtain rfl : k = 0 := by omega
    exact .inl ⟨rfl, rfl, rfl⟩
  · cases hv
    by_cases hck : c = k
    · rw [if_pos hck]
      exact .inr ⟨g', off', c - k, cur, rfl, h0, h1, by omega, by omega, by omega, by rw [show n - k = 0 by omega, List.take_zero, List.drop_eq_nil_of_le (by rw [List.length_take]; omega)]⟩
    · rw [if_neg hck]
      refine .inr ⟨g', off' + k, c - k, cur, by simp [add_plain0], h0, h1, by omega, by omega, by omega, ?_⟩
      rw [List.drop_take, List.drop_drop]
theorem Row.src {P : Program} {tx e' : TypeId} (hk : P.underlying tx = some (.slice e')) (h : Row w B e v n xs) (h1 : ∀ u ∈ xs, u.oneCell' = true) : Src P 1 tx v n xs w := by
  have hl := h.len
  rcases h with ⟨rfl, rfl, rfl⟩ | ⟨g, off, cap, cur, rfl, h0, hb, h2⟩
  · exact Src.ofNil w hk 0
  · exact Src.ofSlice w hk _ n cap xs (by omega) (fun j u hu => by
      rw [add_plain0]
      exact Row.cell (.inr ⟨g, off, cap, cur, rfl, h0, hb, h2⟩) hu) h1
end

section
variable {P : Program} (w : World)
theorem run_append_row (B : Nat) (t tx ty e : TypeId) (i : TypeInfo) (z : Value) (ht : P.underlying t = some (.slice e)) (hi : P.info? e = some i) (hz : i.zero = some z) (hs1 : i.size = 1) (hzs : z.cells.size = 1)
    (v : Value) (n : Nat) (xs : List Value) (hr : Row w B e v n xs) (x : Value) (m : Nat) (news : List Value) (hs : Src P 1 tx x m news w) (hb : (n + m) * i.bytes ≤ 140737488355328) (hm : n + m ≤ 100000000) (hB : B ≤ w.heap.size) :
    ∃ v' w', (Builtin.append_ #[t, tx] ty #[v, x]).run P w = .ok v' w' ∧ Row w' B e v' (n + m) (xs ++ news) ∧ Stp (fun b => v.ownBlock = some b) w w' ∧ (v'.ownBlock = v.ownBlock ∨ v'.ownBlock = some w.heap.size) := by
  have hs0 := hs
  rw [← hs1] at hs0
  have hnl : news.length = m := by simpa using hs.newsLen
  have hxl := hr.len
  have h63 : n + m ≤ maxLen := by simp only [maxLen]; omega
  have grown : ∀ (base : Option Addr) (cap : Nat) (hv : v = .slice base n cap) (hlt : cap < n + m) (hold : (Builtin.firstCells i.size n (.slice base n cap)).run P w.drew = .ok xs.toArray w.drew),
      ∃ v' w', (Builtin.append_ #[t, tx] ty #[v, x]).run P w = .ok v' w' ∧ Row w' B e v' (n + m) (xs ++ news) ∧ Stp (fun b => v.ownBlock = some b) w w' ∧ (v'.ownBlock = v.ownBlock ∨ v'.ownBlock = some w.heap.size) := by
    intro base cap hv hlt hold
    subst hv
    have hge := grownCap_ge w (n + m) cap e
    have hcm := grownCap_le_maxLen w (n + m) cap e h63
    refine ⟨_, _, run_append_grow_src w t tx ty e i z ht hi hz base n cap xs hold x m news hs0 hlt (by omega) (growslice_fits hlt hb), .inr ⟨w.heap.size, 0, _, (xs ++ news) ++ (Builtin.zeroCells z.cells (grownCap w (n + m) cap e - (n + m))).toList, rfl, hB, ?_, hge, hcm, ?_, ?_⟩, (Stp.drew _ w).trans (Stp.alloc _ w.drew _) (fun _ _ h => h), .inr rfl⟩
    · have e1 : ((xs ++ news).toArray ++ Builtin.zeroCells z.cells (grownCap w (n + m) cap e - (n + m))) = ((xs ++ news) ++ (Builtin.zeroCells z.cells (grownCap w (n + m) cap e - (n + m))).toList).toArray := by apply Array.ext'; simp
      rw [e1]
      exact Blk.new w.drew _ e
    · simp only [List.length_append, Array.length_toList, size_zeroCells, hzs]
      omega
    · rw [List.drop_zero]
      exact List.take_left' (by rw [List.length_append]; omega)
  rcases hr with ⟨rfl, rfl, rfl⟩ | ⟨g, off, cap, cur, rfl, h0, h1, h2, h3, h4, rfl⟩
  · by_cases hm0 : m = 0
    · subst hm0
      obtain rfl : news = [] := List.eq_nil_of_length_eq_zero hnl
      refine ⟨.slice none 0 0, w, ?_, .inl ⟨rfl, rfl, rfl⟩, Stp.refl _ _, .inl rfl⟩
      rcases hs.kind with ⟨e', hk⟩ | hk <;> simp [Builtin.append_, run_underlying ht, run_underlying hk, sizeOf, typeInfo, hi, hs0.len, hs0.cells]
    · exact grown none 0 rfl (by omega) (run_firstCells_none w.drew i.size 0 0 0)
  · by_cases hroom : n + m ≤ cap
    · have hst := run_storeCells_at P g (off + n) e news 0 cur.toArray w h1 (by simp; omega) hs.one
      simp only [Nat.add_zero] at hst
      refine ⟨.slice (some ⟨g, off, none⟩) (n + m) cap, w.setRow g (cur.take (off + n) ++ news ++ cur.drop (off + n + news.length)).toArray, ?_, .inr ⟨g, off, cap, _, rfl, h0, h1.row _, hroom, h3, ?_, ?_⟩, Stp.row (S := fun b => (Value.slice (some ⟨g, off, none⟩) n cap).ownBlock = some b) rfl _, .inl rfl⟩
      · rcases hs.kind with ⟨e', hk⟩ | hk <;> simp [Builtin.append_, run_underlying ht, run_underlying hk, sizeOf, typeInfo, hi, hs1, hs.len, hroom, hs.cells, Addr.add_lit, hst]
      · simp only [List.length_append, List.length_take, List.length_drop]; omega
      · have e1 : (cur.take (off + n) ++ news ++ cur.drop (off + n + news.length)).drop off = (cur.drop off).take n ++ news ++ cur.drop (off + n + news.length) := by
          rw [List.append_assoc, List.drop_append_of_le_length (by rw [List.length_take]; omega), List.drop_take, Nat.add_sub_cancel_left, List.append_assoc]
        rw [e1]
        exact List.take_left' (by simp only [List.length_append, List.length_take, List.length_drop]; omega)
    · refine grown (some ⟨g, off, none⟩) cap rfl (by omega) ?_
      refine run_firstCells_some w.drew i.size n ⟨g, off, none⟩ n cap _ (by rw [hs1, hxl, Nat.mul_one]) fun j u hu => ?_
      rw [add_plain0]
      exact Row.cell (w := w) (.inr ⟨g, off, cap, cur, rfl, h0, h1, h2, h3, h4, rfl⟩) hu
end
end Go.Proofs.YtigmdfdcflkggaaGreat
