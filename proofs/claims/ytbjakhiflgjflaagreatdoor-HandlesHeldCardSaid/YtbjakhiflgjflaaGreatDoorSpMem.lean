/-
  Words for memory in which much is written: blocks that may be written, rows at any place of a block, what a call may change; append, make room and copy over them. Conditions: none.
-/
import Derived.Test.YtbjakhiflgjflaaGreatDoorMkWords
import Derived.Deep.AppendSrc
import Derived.Lib.AppendZerosOnto
import Derived.Laws.CopyRow
namespace Go.Proofs.YtbjakhiflgjflaaGreatDoor
open Go Go.RowKit

/-- A block of cells that may be written. -/
def Blk (w : World) (b : Nat) (cur : List Value) (t : TypeId) : Prop := w.heap[b]? = some (.cells cur.toArray t (0, 0))

section
variable {w w' : World} {b : Nat} {cur : List Value} {t : TypeId}
theorem Blk.lt (h : Blk w b cur t) : b < w.heap.size := (Array.getElem?_eq_some_iff.1 h).1
theorem Blk.cell (h : Blk w b cur t) {i : Nat} {v : Value} (hi : cur[i]? = some v) : w.cell? ⟨b, i, none⟩ = some v := by
  rw [cell_of_row w b i _ t _ h]; simpa using hi
theorem Blk.frozen (h : Blk w b cur t) (i : Nat) : w.frozen? ⟨b, i, none⟩ = false := frozen_of_row w b i _ t h
theorem Blk.set (h : Blk w b cur t) (i : Nat) (u : Value) : Blk (w.setCell ⟨b, i, none⟩ u) b (cur.set i u) t := by
  have := heap_setCell_same w b i _ t u h
  simpa [Blk] using this
theorem Blk.other (h : Blk w b cur t) {a : Addr} (hb : b ≠ a.block) (u : Value) : Blk (w.setCell a u) b cur t := (heap_setCell_other w a b u hb).trans h
theorem Blk.alloc (h : Blk w b cur t) (o : Obj) : Blk (w.alloc o) b cur t := (Below.heap_alloc w o b h.lt).trans h
theorem Blk.row (h : Blk w b cur t) (c : List Value) : Blk (w.setRow b c.toArray) b c t := setRow_heap w b _ _ t _ h
theorem Blk.inj {cur' : List Value} {t' : TypeId} (h : Blk w b cur t) (k : Blk w b cur' t') : cur = cur' := by
  have := h.symm.trans k
  simp at this
  exact this.1
end
theorem Blk.new (w : World) (cs : List Value) (t : TypeId) : Blk (w.alloc (.cells cs.toArray t)) w.heap.size cs t := heap_alloc_new w _

/-- The types of the blocks that the package's calls write. -/
def Four (t : TypeId) : Prop := t = 5 ∨ t = 140 ∨ t = 134 ∨ t = 232
theorem four_byte : Four 5 := .inl rfl
theorem four_pool : Four 140 := .inr (.inl rfl)
theorem four_rows : Four 134 := .inr (.inr (.inl rfl))
theorem four_buf : Four 232 := .inr (.inr (.inr rfl))

/-- What a call may change: of what was there, only blocks in S; none below B, and none of another type than the package's. -/
structure Mv (B : Nat) (S : Nat → Prop) (w w' : World) : Prop where
  os : w'.os = w.os
  tape : w'.tape = w.tape
  output : w'.output = w.output
  size : w.heap.size ≤ w'.heap.size
  block : ∀ b, b < w.heap.size → ¬ S b → w'.heap[b]? = w.heap[b]?
  keep : ∀ b, b < w.heap.size → (b < B ∨ ∀ cur t f, w.heap[b]? = some (.cells cur t f) → ¬ Four t) → w'.heap[b]? = w.heap[b]?

section
variable {B : Nat} {S S' : Nat → Prop} {w w' w'' : World}
theorem Mv.refl (B : Nat) (S : Nat → Prop) (w : World) : Mv B S w w := ⟨rfl, rfl, rfl, Nat.le_refl _, fun _ _ _ => rfl, fun _ _ _ => rfl⟩
theorem Mv.trans (h : Mv B S w w') (k : Mv B S w' w'') : Mv B S w w'' :=
  ⟨k.os.trans h.os, k.tape.trans h.tape, k.output.trans h.output, Nat.le_trans h.size k.size, fun b hb hs => (k.block b (Nat.lt_of_lt_of_le hb h.size) hs).trans (h.block b hb hs), fun b hb hf => by
    have e := h.keep b hb hf
    exact (k.keep b (Nat.lt_of_lt_of_le hb h.size) (hf.imp id fun hf cur t f hc => hf cur t f (e ▸ hc))).trans e⟩
theorem Mv.mono (h : Mv B S w w') (hs : ∀ b, b < w.heap.size → S b → S' b) : Mv B S' w w' := ⟨h.os, h.tape, h.output, h.size, fun b hb hn => h.block b hb fun k => hn (hs b hb k), h.keep⟩
theorem Mv.below (h : Mv B S w w') (hB : B ≤ w.heap.size) : Below B w w' := ⟨h.os, h.tape, h.output, h.size, fun b hb => h.keep b (Nat.lt_of_lt_of_le hb hB) (.inl hb)⟩
theorem Mv.set {b : Nat} {cur : List Value} {t : TypeId} (h : Blk w b cur t) (hS : S b) (hf : Four t) (hB : B ≤ b) (i : Nat) (u : Value) : Mv B S w (w.setCell ⟨b, i, none⟩ u) :=
  ⟨rfl, rfl, rfl, by simp [World.setCell], fun k _ hk => heap_setCell_other w _ k u (fun e => hk (by rw [e]; exact hS)), fun k _ hk => heap_setCell_other w _ k u fun e => by
    obtain rfl : k = b := e
    rcases hk with hk | hk
    · omega
    · exact hk _ _ _ h hf⟩
theorem Mv.row {b : Nat} {cur : List Value} {t : TypeId} (h : Blk w b cur t) (hS : S b) (hf : Four t) (hB : B ≤ b) (cs : Array Value) : Mv B S w (w.setRow b cs) :=
  ⟨rfl, rfl, rfl, by simp, fun k _ hk => setRow_other w b k cs (fun e => hk (by rw [e]; exact hS)), fun k _ hk => setRow_other w b k cs fun e => by
    subst e
    rcases hk with hk | hk
    · omega
    · exact hk _ _ _ h hf⟩
theorem Mv.alloc (B : Nat) (S : Nat → Prop) (w : World) (o : Obj) : Mv B S w (w.alloc o) :=
  ⟨rfl, rfl, rfl, by simp, fun k hk _ => Below.heap_alloc w o k hk, fun k hk _ => Below.heap_alloc w o k hk⟩
theorem Mv.drew (B : Nat) (S : Nat → Prop) (w : World) : Mv B S w w.drew := ⟨rfl, rfl, rfl, Nat.le_refl _, fun _ _ _ => rfl, fun _ _ _ => rfl⟩
/-- A change of a block that was not there. -/
theorem Mv.row_new (h : Mv B S w w') {g : Nat} (hg : w.heap.size ≤ g) (cs : Array Value) : Mv B S w (w'.setRow g cs) :=
  ⟨h.os, h.tape, h.output, by simpa using h.size, fun b hb hs => (setRow_other w' g b cs (by omega)).trans (h.block b hb hs), fun b hb hs => (setRow_other w' g b cs (by omega)).trans (h.keep b hb hs)⟩
theorem Mv.set_new (h : Mv B S w w') {g : Nat} (hg : w.heap.size ≤ g) (i : Nat) (u : Value) : Mv B S w (w'.setCell ⟨g, i, none⟩ u) :=
  ⟨h.os, h.tape, h.output, by simpa [World.setCell] using h.size, fun b hb hs => (heap_setCell_other w' _ b u (by show b ≠ g; omega)).trans (h.block b hb hs), fun b hb hs => (heap_setCell_other w' _ b u (by show b ≠ g; omega)).trans (h.keep b hb hs)⟩
theorem Mv.of_none (h : w.grownBy w' none) : Mv B S w w' := ⟨h.os, h.tape, h.output, h.size, fun b hb _ => h.block b hb (by simp), fun b hb _ => h.block b hb (by simp)⟩
theorem Blk.mv {b : Nat} {cur : List Value} {t : TypeId} (h : Blk w b cur t) (m : Mv B S w w') (hb : ¬ S b) : Blk w' b cur t := (m.block b h.lt hb).trans h
/-- A block of another type stays. -/
theorem Mv.far (m : Mv B S w w') {b : Nat} {cur : Array Value} {t : TypeId} {f : Nat × Nat} (h : w.heap[b]? = some (.cells cur t f)) (ht : ¬ Four t) : w'.heap[b]? = some (.cells cur t f) :=
  (m.keep b (Array.getElem?_eq_some_iff.1 h).1 (.inr fun _ _ _ hc => by rw [h] at hc; cases hc; exact ht)).trans h
end

/-- A slice of n elements of one cell each, in a block of its own from B on. -/
def Row (w : World) (B : Nat) (e : TypeId) (v : Value) (n : Nat) (xs : List Value) : Prop :=
  (v = .slice none 0 0 ∧ n = 0 ∧ xs = []) ∨
  ∃ g off cap cur, v = .slice (some ⟨g, off, none⟩) n cap ∧ B ≤ g ∧ Blk w g cur e ∧ n ≤ cap ∧ cap ≤ maxLen ∧ off + cap ≤ cur.length ∧ (cur.drop off).take n = xs

section
variable {w w' : World} {B : Nat} {e : TypeId} {v : Value} {n : Nat} {xs : List Value} {S : Nat → Prop}
theorem Row.len (h : Row w B e v n xs) : xs.length = n := by
  rcases h with ⟨_, rfl, rfl⟩ | ⟨g, off, cap, cur, _, _, _, h1, _, h2, rfl⟩
  · rfl
  · rw [List.length_take, List.length_drop]; omega
theorem Row.nil_ (w : World) (B : Nat) (e : TypeId) : Row w B e (.slice none 0 0) 0 [] := .inl ⟨rfl, rfl, rfl⟩
theorem Row.keep (h : Row w B e v n xs) (hk : ∀ g, v.ownBlock = some g → w'.heap[g]? = w.heap[g]?) : Row w' B e v n xs := by
  rcases h with h | ⟨g, off, cap, cur, rfl, h0, h1, h2⟩
  · exact .inl h
  · exact .inr ⟨g, off, cap, cur, rfl, h0, (hk g rfl).trans h1, h2⟩
theorem Row.lt (h : Row w B e v n xs) {g : Nat} (hg : v.ownBlock = some g) : B ≤ g ∧ g < w.heap.size ∧ ∃ cur, Blk w g cur e := by
  rcases h with ⟨rfl, _⟩ | ⟨g', off, cap, cur, rfl, h0, h1, _⟩
  · cases hg
  · cases hg
    exact ⟨h0, h1.lt, cur, h1⟩
theorem Row.mv (h : Row w B e v n xs) (m : Mv B S w w') (hb : ∀ g, v.ownBlock = some g → ¬ S g) : Row w' B e v n xs :=
  h.keep fun g hg => m.block g (h.lt hg).2.1 (hb g hg)
theorem Row.form (h : Row w B e v n xs) : ∃ A c, v = .slice A n c ∧ n ≤ c ∧ c ≤ maxLen := by
  rcases h with ⟨rfl, rfl, _⟩ | ⟨g, off, cap, cur, rfl, _, _, h1, h2, _⟩
  · exact ⟨none, 0, rfl, Nat.le_refl _, Nat.zero_le _⟩
  · exact ⟨_, cap, rfl, h1, h2⟩
theorem Row.form1 (h : Row w B e v n xs) (hn : 0 < n) : ∃ g off cap, v = .slice (some ⟨g, off, none⟩) n cap ∧ n ≤ cap ∧ cap ≤ maxLen ∧ B ≤ g := by
  rcases h with ⟨rfl, rfl, _⟩ | ⟨g, off, cap, cur, rfl, h0, _, h1, h2, _⟩
  · omega
  · exact ⟨g, off, cap, rfl, h1, h2, h0⟩
theorem Row.cell {g off c : Nat} (h : Row w B e (.slice (some ⟨g, off, none⟩) n c) n xs) {j : Nat} {u : Value} (hu : xs[j]? = some u) : w.cell? ⟨g, off + j, none⟩ = some u := by
  rcases h with ⟨h, _⟩ | ⟨g', off', cap, cur, hv, _, h1, h2, _, h3, rfl⟩
  · cases h
  · cases hv
    rw [List.getElem?_take] at hu
    split at hu
    · rw [List.getElem?_drop] at hu
      exact h1.cell hu
    · cases hu
theorem Row.frozen {g off c : Nat} (h : Row w B e (.slice (some ⟨g, off, none⟩) n c) n xs) (j : Nat) : w.frozen? ⟨g, j, none⟩ = false := by
  obtain ⟨_, _, cur, hb⟩ := h.lt (g := g) rfl
  exact hb.frozen j
/-- One element is written. -/
theorem Row.set {g off c : Nat} (h : Row w B e (.slice (some ⟨g, off, none⟩) n c) n xs) (j : Nat) (u : Value) : Row (w.setCell ⟨g, off + j, none⟩ u) B e (.slice (some ⟨g, off, none⟩) n c) n (xs.set j u) := by
  rcases h with ⟨h, _⟩ | ⟨g', off', cap, cur, hv, h0, h1, h2, h4, h3, rfl⟩
  · cases h
  · cases hv
    refine .inr ⟨g, off, c, _, rfl, h0, h1.set _ _, h2, h4, by rw [List.length_set]; exact h3, ?_⟩
    rw [List.drop_set, if_neg (by omega), Nat.add_sub_cancel_left, List.take_set]
/-- Fewer elements. -/
theorem Row.head {A : Option Addr} {c : Nat} (h : Row w B e (.slice A n c) n xs) (k : Nat) (hk : k ≤ n) : Row w B e (.slice A k c) k (xs.take k) := by
  rcases h with ⟨h, rfl, rfl⟩ | ⟨g', off', cap, cur, hv, h0, h1, h2, h4, h3, rfl⟩
  · cases h
    obtain rfl : k = 0 := by omega
    exact .inl ⟨rfl, rfl, rfl⟩
  · cases hv
    exact .inr ⟨g', off', c, cur, rfl, h0, h1, by omega, h4, h3, by rw [List.take_take, Nat.min_eq_left hk]⟩
/-- More elements, as far as there is room: whatever stands there. -/
theorem Row.room {A : Option Addr} {c : Nat} (h : Row w B e (.slice A n c) n xs) (k : Nat) (hk : n ≤ k) (hc : k ≤ c) : ∃ ys, Row w B e (.slice A k c) k (xs ++ ys) := by
  rcases h with ⟨h, rfl, rfl⟩ | ⟨g', off', cap, cur, hv, h0, h1, h2, h4, h3, rfl⟩
  · cases h
    obtain rfl : k = 0 := by omega
    exact ⟨[], .inl ⟨rfl, rfl, rfl⟩⟩
  · cases hv
    refine ⟨((cur.drop off').drop n).take (k - n), .inr ⟨g', off', c, cur, rfl, h0, h1, hc, h4, h3, ?_⟩⟩
    have := List.take_add (l := cur.drop off') (i := n) (j := k - n)
    rw [show n + (k - n) = k by omega] at this
    exact this
/-- What stands behind the first. -/
theorem Row.tail {A : Option Addr} {c : Nat} (h : Row w B e (.slice A n c) n xs) (k : Nat) (hk : k ≤ n) : Row w B e (.slice (if c = k then A else A.map (·.add k)) (n - k) (c - k)) (n - k) (xs.drop k) := by
  rcases h with ⟨h, rfl, rfl⟩ | ⟨g', off', cap, cur, hv, h0, h1, h2, h4, h3, rfl⟩
  · cases h
    obtain rfl : k = 0 := by omega
    exact .inl ⟨rfl, rfl, rfl⟩
  · cases hv
    by_cases hck : c = k
    · rw [if_pos hck]
      exact .inr ⟨g', off', c - k, cur, rfl, h0, h1, by omega, by omega, by omega, by rw [show n - k = 0 by omega, List.take_zero, List.drop_eq_nil_of_le (by rw [List.length_take]; omega)]⟩
    · rw [if_neg hck]
      refine .inr ⟨g', off' + k, c - k, cur, by simp [add_plain0], h0, h1, by omega, by omega, by omega, ?_⟩
      rw [List.drop_take, List.drop_drop]
theorem Row.src {P : Program} {tx e' : TypeId} (hk : P.underlying tx = some (.slice e')) (h : Row w B e v n xs) (h1 : ∀ u ∈ xs, u.oneCell' = true) : Src P 1 tx v n xs w := by
  have hl := h.len
  rcases h with ⟨rfl, rfl, rfl⟩ | ⟨g, off, cap, cur, rfl, h0, hb, h2⟩
  · exact Src.ofNil w hk 0
  · exact Src.ofSlice w hk _ n cap xs (by omega) (fun j u hu => by
      rw [add_plain0]
      exact Row.cell (.inr ⟨g, off, cap, cur, rfl, h0, hb, h2⟩) hu) h1
end

section
variable {P : Program} (w : World)
theorem run_append_row (B : Nat) (t tx ty e : TypeId) (i : TypeInfo) (z : Value) (ht : P.underlying t = some (.slice e)) (hi : P.info? e = some i) (hz : i.zero = some z) (hs1 : i.size = 1) (hzs : z.cells.size = 1) (hf : Four e)
    (v : Value) (n : Nat) (xs : List Value) (hr : Row w B e v n xs) (x : Value) (m : Nat) (news : List Value) (hs : Src P 1 tx x m news w) (hb : (n + m) * i.bytes ≤ 140737488355328) (hm : n + m ≤ 100000000) (hB : B ≤ w.heap.size) :
    ∃ v' w', (Builtin.append_ #[t, tx] ty #[v, x]).run P w = .ok v' w' ∧ Row w' B e v' (n + m) (xs ++ news) ∧ Mv B (fun b => v.ownBlock = some b) w w' ∧ (v'.ownBlock = v.ownBlock ∨ v'.ownBlock = some w.heap.size) := by
  have hs0 := hs
  rw [← hs1] at hs0
  have hnl : news.length = m := by simpa using hs.newsLen
  have hxl := hr.len
  have h63 : n + m ≤ maxLen := by simp only [maxLen]; omega
  have grown : ∀ (base : Option Addr) (cap : Nat) (hv : v = .slice base n cap) (hlt : cap < n + m) (hold : (Builtin.firstCells i.size n (.slice base n cap)).run P w.drew = .ok xs.toArray w.drew),
      ∃ v' w', (Builtin.append_ #[t, tx] ty #[v, x]).run P w = .ok v' w' ∧ Row w' B e v' (n + m) (xs ++ news) ∧ Mv B (fun b => v.ownBlock = some b) w w' ∧ (v'.ownBlock = v.ownBlock ∨ v'.ownBlock = some w.heap.size) := by
    intro base cap hv hlt hold
    subst hv
    have hge := grownCap_ge w (n + m) cap e
    have hcm := grownCap_le_maxLen w (n + m) cap e h63
    refine ⟨_, _, run_append_grow_src w t tx ty e i z ht hi hz base n cap xs hold x m news hs0 hlt (by omega) (growslice_fits hlt hb), .inr ⟨w.heap.size, 0, _, (xs ++ news) ++ (Builtin.zeroCells z.cells (grownCap w (n + m) cap e - (n + m))).toList, rfl, hB, ?_, hge, hcm, ?_, ?_⟩, (Mv.drew B _ w).trans (Mv.alloc B _ w.drew _), .inr rfl⟩
    · have e1 : ((xs ++ news).toArray ++ Builtin.zeroCells z.cells (grownCap w (n + m) cap e - (n + m))) = ((xs ++ news) ++ (Builtin.zeroCells z.cells (grownCap w (n + m) cap e - (n + m))).toList).toArray := by apply Array.ext'; simp
      rw [e1]
      exact Blk.new w.drew _ e
    · simp only [List.length_append, Array.length_toList, size_zeroCells, hzs]
      omega
    · rw [List.drop_zero]
      exact List.take_left' (by rw [List.length_append]; omega)
  rcases hr with ⟨rfl, rfl, rfl⟩ | ⟨g, off, cap, cur, rfl, h0, h1, h2, h3, h4, rfl⟩
  · by_cases hm0 : m = 0
    · subst hm0
      obtain rfl : news = [] := List.eq_nil_of_length_eq_zero hnl
      refine ⟨.slice none 0 0, w, ?_, .inl ⟨rfl, rfl, rfl⟩, Mv.refl _ _ _, .inl rfl⟩
      rcases hs.kind with ⟨e', hk⟩ | hk <;> simp [Builtin.append_, run_underlying ht, run_underlying hk, sizeOf, typeInfo, hi, hs0.len, hs0.cells]
    · exact grown none 0 rfl (by omega) (run_firstCells_none w.drew i.size 0 0 0)
  · by_cases hroom : n + m ≤ cap
    · have hst := run_storeCells_at P g (off + n) e news 0 cur.toArray w h1 (by simp; omega) hs.one
      simp only [Nat.add_zero] at hst
      refine ⟨.slice (some ⟨g, off, none⟩) (n + m) cap, w.setRow g (cur.take (off + n) ++ news ++ cur.drop (off + n + news.length)).toArray, ?_, .inr ⟨g, off, cap, _, rfl, h0, h1.row _, hroom, h3, ?_, ?_⟩, Mv.row (S := fun b => (Value.slice (some ⟨g, off, none⟩) n cap).ownBlock = some b) h1 rfl hf h0 _, .inl rfl⟩
      · rcases hs.kind with ⟨e', hk⟩ | hk <;> simp [Builtin.append_, run_underlying ht, run_underlying hk, sizeOf, typeInfo, hi, hs1, hs.len, hroom, hs.cells, Addr.add_lit, hst]
      · simp only [List.length_append, List.length_take, List.length_drop]; omega
      · have e1 : (cur.take (off + n) ++ news ++ cur.drop (off + n + news.length)).drop off = (cur.drop off).take n ++ news ++ cur.drop (off + n + news.length) := by
          rw [List.append_assoc, List.drop_append_of_le_length (by rw [List.length_take]; omega), List.drop_take, Nat.add_sub_cancel_left, List.append_assoc]
        rw [e1]
        exact List.take_left' (by simp only [List.length_append, List.length_take, List.length_drop]; omega)
    · refine grown (some ⟨g, off, none⟩) cap rfl (by omega) ?_
      refine run_firstCells_some w.drew i.size n ⟨g, off, none⟩ n cap _ (by rw [hs1, hxl, Nat.mul_one]) fun j u hu => ?_
      rw [add_plain0]
      exact Row.cell (w := w) (.inr ⟨g, off, cap, cur, rfl, h0, h1, h2, h3, h4, rfl⟩) hu

/-- Room is made for k more: a new row, whose cells behind the old ones are whatever. -/
theorem run_append_zeros (B : Nat) (t tn ty e : TypeId) (i : TypeInfo) (z : Value) (kn : IntKind) (ht : P.underlying t = some (.slice e)) (htn : P.underlying tn = some (.int kn)) (hi : P.info? e = some i) (hz : i.zero = some z) (hs1 : i.size = 1) (hby : i.bytes = 1) (hzs : z.cells.size = 1)
    (A : Option Addr) (c n : Nat) (xs : List Value) (hr : Row w B e (.slice A n c) n xs) (kq : IntKind) (k : Nat) (hk : 0 < k) (hm : c + k ≤ 100000000) (hB : B ≤ w.heap.size) :
    ∃ cap w', (Builtin.append_ #[t, tn] ty #[.slice A c c, .int kq k]).run P w = .ok (.slice (some ⟨w.heap.size, 0, none⟩) (c + k) cap) w' ∧ c + k ≤ cap ∧ cap ≤ maxLen ∧ Row w' B e (.slice (some ⟨w.heap.size, 0, none⟩) n cap) n xs ∧ w.grownBy w' none := by
  have hnc : n ≤ c ∧ c ≤ maxLen := by
    obtain ⟨A', c', hv, h1, h2⟩ := hr.form
    cases hv
    exact ⟨h1, h2⟩
  have h63 : c + k ≤ maxLen := by simp only [maxLen]; omega
  have hge := grownCap_ge w (c + k) c e
  have hcm := grownCap_le_maxLen w (c + k) c e h63
  obtain ⟨ys, hys⟩ := hr.room c hnc.1 (Nat.le_refl _)
  have hyl := hys.len
  have hxl := hr.len
  have hold : (Builtin.firstCells i.size c (.slice A c c)).run P w.drew = .ok (xs ++ ys).toArray w.drew := by
    rcases hys with ⟨hv, h1, h2⟩ | ⟨g, off, cap, cur, hv, h0, h1, h2, h3, h4, h5⟩
    · cases hv
      rw [h2]
      exact run_firstCells_none w.drew i.size 0 0 0
    · cases hv
      refine run_firstCells_some w.drew i.size c ⟨g, off, none⟩ c c _ (by rw [hs1, hyl, Nat.mul_one]) fun j u hu => ?_
      rw [add_plain0]
      exact Row.cell (w := w) (n := c) (.inr ⟨g, off, c, cur, rfl, h0, h1, h2, h3, h4, h5⟩) hu
  have hfit := growslice_fits (need := c + k) (old := c) (bytes := i.bytes) (by omega) (by rw [hby]; omega)
  refine ⟨_, _, Lib.run_append_grow_zeros w t tn ty e i z kq kn ht htn hi hz A c c (xs ++ ys) hold k hk (by omega) (by omega) (by omega) (by rw [hby]; omega) hfit, hge, hcm, .inr ⟨w.heap.size, 0, _, (xs ++ ys) ++ (Builtin.zeroCells z.cells k).toList ++ (Builtin.zeroCells z.cells (grownCap w (c + k) c e - (c + k))).toList, rfl, hB, ?_, by omega, hcm, ?_, ?_⟩, ⟨rfl, rfl, rfl, by simp, fun b hb _ => Below.heap_alloc w.drew _ b hb⟩⟩
  · have e1 : ((xs ++ ys).toArray ++ Builtin.zeroCells z.cells k ++ Builtin.zeroCells z.cells (grownCap w (c + k) c e - (c + k))) = ((xs ++ ys) ++ (Builtin.zeroCells z.cells k).toList ++ (Builtin.zeroCells z.cells (grownCap w (c + k) c e - (c + k))).toList).toArray := by apply Array.ext'; simp
    rw [e1]
    exact Blk.new w.drew _ e
  · simp only [List.length_append, Array.length_toList, size_zeroCells, hzs] at hyl ⊢
    omega
  · rw [List.drop_zero, List.append_assoc, List.append_assoc]
    exact List.take_left' hxl

/-- A string's bytes are copied over a row's end. -/
theorem run_copy_str (dT sT ty elem : TypeId) (hu : P.underlying dT = some (.slice elem)) (hs : (P.info? elem).map (·.size) = some 1) (g o dLen dCap : Nat) (cur : List Value) (t : TypeId) (hg : Blk w g cur t) (s : ByteArray) (hd : dLen ≤ s.size) (hfit : o + dLen ≤ cur.length) :
    (Builtin.copy_ #[dT, sT] ty #[.slice (some ⟨g, o, none⟩) dLen dCap, .string s]).run P w =
      .ok (goInt dLen) (w.setRow g (cur.take o ++ (byteCells s).take dLen ++ cur.drop (o + dLen)).toArray) := by
  have hl : ((byteCells s).take dLen).length = dLen := by rw [List.length_take, byteCells_length]; omega
  have hst := run_storeCells_at P g o t ((byteCells s).take dLen) 0 cur.toArray w hg (by simp only [Nat.add_zero, hl]; simpa using hfit) (fun u hu => by
    obtain ⟨_, _, rfl⟩ := List.mem_map.1 (List.mem_of_mem_take hu)
    rfl)
  rw [hl] at hst
  simp only [Nat.add_zero] at hst
  have hfc : (Builtin.firstCells 1 dLen (.string s)).run P w = .ok ((byteCells s).take dLen).toArray w := by
    simp [Builtin.firstCells, byteCells]
    apply Array.ext'
    simp
  cases hq : P.info? elem with
  | none => simp [hq] at hs
  | some i =>
    have hi : i.size = 1 := by simpa [hq] using hs
    have hmin : Nat.min s.size dLen = dLen := by show min _ _ = _; omega
    simp [Builtin.copy_, run_underlying hu, Builtin.lenOf, sizeOf, typeInfo, hq, hi, hmin, hfc, hst]
end
end Go.Proofs.YtbjakhiflgjflaaGreatDoor
