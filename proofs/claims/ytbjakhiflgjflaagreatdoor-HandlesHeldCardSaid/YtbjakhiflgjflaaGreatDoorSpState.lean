/-
  A pool and its buffers in memory: which block is whose; what a step of one buffer leaves as it was. Conditions: none.
-/
import Derived.Test.YtbjakhiflgjflaaGreatDoorSpTake
namespace Go.Proofs.YtbjakhiflgjflaaGreatDoor
open Go Go.RowKit

/-- Whose a block is: t of a buffer: 0 its struct, 1 its memory, 2 its row of chunks, 3 a chunk. -/
inductive Lab where
  | free | pool | sparr | spare
  | own (k t : Nat)
/-- The pool's, or buffer k's. -/
def Mine (k : Nat) : Lab → Prop
  | .free => False
  | .own k' _ => k' = k
  | _ => True
def relab (lab : Nat → Lab) (v : Value) (l : Lab) : Nat → Lab := fun g => if v.ownBlock = some g then l else lab g
theorem relab_of {lab : Nat → Lab} {v : Value} {l : Lab} {g : Nat} (h : v.ownBlock = some g) : relab lab v l g = l := if_pos h
theorem relab_ne {lab : Nat → Lab} {v : Value} {l : Lab} {g : Nat} (h : v.ownBlock ≠ some g) : relab lab v l g = lab g := if_neg h

structure PoolAt (w : World) (B : Nat) (lab : Nat → Lab) (pb : Nat) (p : Ps) (S : Value) (sp : List Value) : Prop where
  blk : Blk w pb (p.cells S) 140
  low : B ≤ pb
  lb : lab pb = .pool
  arr : Row w B 134 S sp.length sp
  arl : ∀ g, S.ownBlock = some g → lab g = .sparr
  str : ∀ v ∈ sp, ∃ bs : List UInt8, Row w B 5 v bs.length (bc bs)
  stl : ∀ v ∈ sp, ∀ g, v.ownBlock = some g → lab g = .spare
  nd : (sp.filterMap Value.ownBlock).Nodup

/-- A buffer: all its bytes, how many are gone, the place of its first chunk, its memory, its row of chunks, the chunks. -/
structure Bs where
  all : List UInt8
  gone : Nat
  Q : Nat
  m : Value
  c : Value
  cs : List Value
def chunkB (all : List UInt8) (Q C i : Nat) : List UInt8 := (all.drop (Q + i * C)).take C

structure BufR (w : World) (B : Nat) (lab : Nat → Lab) (bb k M C : Nat) (b : Bs) : Prop where
  low : B ≤ bb
  lb : lab bb = .own k 0
  gl : b.gone ≤ b.all.length
  mm : b.gone < M → Row w B 5 b.m (b.all.take M).length (bc (b.all.take M))
  ml : b.gone < M → ∀ g, b.m.ownBlock = some g → lab g = .own k 1
  arr : Row w B 134 b.c b.cs.length b.cs
  arl : ∀ g, b.c.ownBlock = some g → lab g = .own k 2
  qq : ∃ q, b.Q = M + q * C
  qg : b.gone < M ∧ b.Q = M ∨ b.Q ≤ b.gone ∧ b.gone < b.Q + C
  hi : b.all.length - b.Q ≤ b.cs.length * C
  lo : ∀ i, i < b.cs.length → b.Q + i * C < b.all.length
  str : ∀ i v, b.cs[i]? = some v → Row w B 5 v (chunkB b.all b.Q C i).length (bc (chunkB b.all b.Q C i))
  stl : ∀ v ∈ b.cs, ∀ g, v.ownBlock = some g → lab g = .own k 3
  nd : (b.cs.filterMap Value.ownBlock).Nodup

/-- What a step of buffer k leaves: blocks that are neither the pool's nor its own, nor new since n0, are as they were, and whose they were. -/
structure Step (B k n0 : Nat) (w : World) (lab : Nat → Lab) (w' : World) (lab' : Nat → Lab) : Prop where
  mv : Mv B (fun g => Mine k (lab g) ∨ n0 ≤ g) w w'
  lb : ∀ g, g < w.heap.size → ¬ Mine k (lab g) → lab' g = lab g
  new : ∀ g, w'.heap.size ≤ g → lab' g = .free
theorem Step.trans {B k n0 : Nat} {w w' w'' : World} {lab lab' lab'' : Nat → Lab} (h : Step B k n0 w lab w' lab') (h' : Step B k n0 w' lab' w'' lab'') (hn : n0 ≤ w.heap.size) : Step B k n0 w lab w'' lab'' := by
  refine ⟨h.mv.trans (h'.mv.mono fun g _ hg => ?_), fun g hg hm => ?_, h'.new⟩
  · rcases Nat.lt_or_ge g n0 with h1 | h1
    · refine .inl (Classical.byContradiction fun h2 => ?_)
      rcases hg with h3 | h3
      · rw [h.lb g (by omega) h2] at h3
        exact h2 h3
      · omega
    · exact .inr h1
  · have e := h.lb g hg hm
    rw [← e]
    exact h'.lb g (Nat.lt_of_lt_of_le hg h.mv.size) (by rw [e]; exact hm)
theorem Step.refl {B k n0 : Nat} {w : World} {lab : Nat → Lab} (hn : ∀ g, w.heap.size ≤ g → lab g = .free) : Step B k n0 w lab w lab := ⟨Mv.refl _ _ _, fun _ _ _ => rfl, hn⟩

theorem PoolAt.keep {w w' : World} {B pb : Nat} {lab lab' : Nat → Lab} {p : Ps} {S : Value} {sp : List Value} (h : PoolAt w B lab pb p S sp)
    (hk : ∀ g, g < w.heap.size → (lab g = .pool ∨ lab g = .sparr ∨ lab g = .spare) → w'.heap[g]? = w.heap[g]? ∧ lab' g = lab g) : PoolAt w' B lab' pb p S sp where
  blk := (hk pb h.blk.lt (.inl h.lb)).1.trans h.blk
  low := h.low
  lb := (hk pb h.blk.lt (.inl h.lb)).2.trans h.lb
  arr := h.arr.keep fun g hg => (hk g (h.arr.lt hg).2.1 (.inr (.inl (h.arl g hg)))).1
  arl := fun g hg => (hk g (h.arr.lt hg).2.1 (.inr (.inl (h.arl g hg)))).2.trans (h.arl g hg)
  str := fun v hv => by
    obtain ⟨bs, hb⟩ := h.str v hv
    exact ⟨bs, hb.keep fun g hg => (hk g (hb.lt hg).2.1 (.inr (.inr (h.stl v hv g hg)))).1⟩
  stl := fun v hv g hg => by
    obtain ⟨bs, hb⟩ := h.str v hv
    exact (hk g (hb.lt hg).2.1 (.inr (.inr (h.stl v hv g hg)))).2.trans (h.stl v hv g hg)
  nd := h.nd

theorem BufR.keep {w w' : World} {B bb k M C : Nat} {lab lab' : Nat → Lab} {b : Bs} (h : BufR w B lab bb k M C b) (hbb : bb < w.heap.size)
    (hk : ∀ g, g < w.heap.size → (∃ t, lab g = .own k t) → w'.heap[g]? = w.heap[g]? ∧ lab' g = lab g) : BufR w' B lab' bb k M C b where
  low := h.low
  lb := (hk bb hbb ⟨_, h.lb⟩).2.trans h.lb
  gl := h.gl
  mm := fun hm => (h.mm hm).keep fun g hg => (hk g ((h.mm hm).lt hg).2.1 ⟨_, h.ml hm g hg⟩).1
  ml := fun hm g hg => (hk g ((h.mm hm).lt hg).2.1 ⟨_, h.ml hm g hg⟩).2.trans (h.ml hm g hg)
  arr := h.arr.keep fun g hg => (hk g (h.arr.lt hg).2.1 ⟨_, h.arl g hg⟩).1
  arl := fun g hg => (hk g (h.arr.lt hg).2.1 ⟨_, h.arl g hg⟩).2.trans (h.arl g hg)
  qq := h.qq
  qg := h.qg
  hi := h.hi
  lo := h.lo
  str := fun i v hv => (h.str i v hv).keep fun g hg => (hk g ((h.str i v hv).lt hg).2.1 ⟨_, h.stl v (List.mem_of_getElem? hv) g hg⟩).1
  stl := fun v hv g hg => by
    obtain ⟨i, hi⟩ := List.getElem?_of_mem hv
    exact (hk g ((h.str i v hi).lt hg).2.1 ⟨_, h.stl v hv g hg⟩).2.trans (h.stl v hv g hg)
  nd := h.nd

/-! ### Chunks as bytes -/
theorem mul_step {i L : Nat} (C : Nat) (h : i < L) : i * C + C ≤ L * C := by
  have := Nat.mul_le_mul_right C (show i + 1 ≤ L from h)
  rwa [Nat.add_mul, Nat.one_mul] at this
theorem chunkB_left {all x : List UInt8} {Q C i : Nat} (h : Q + i * C + C ≤ all.length) : chunkB (all ++ x) Q C i = chunkB all Q C i := by
  unfold chunkB
  rw [List.drop_append_of_le_length (by omega), List.take_append_of_le_length (by rw [List.length_drop]; omega)]
theorem chunkB_right {all x : List UInt8} {Q C i : Nat} (h : Q + i * C ≤ all.length) (h2 : all.length + x.length ≤ Q + i * C + C) : chunkB (all ++ x) Q C i = chunkB all Q C i ++ x := by
  unfold chunkB
  rw [List.drop_append_of_le_length h, List.take_of_length_le (by rw [List.length_append, List.length_drop]; omega), List.take_of_length_le (by rw [List.length_drop]; omega)]
theorem chunkB_len {all : List UInt8} {Q C i : Nat} : (chunkB all Q C i).length = min C (all.length - (Q + i * C)) := by
  unfold chunkB
  rw [List.length_take, List.length_drop]
/-- How many bytes are behind the memory, in chunks: what is over. -/
theorem over_of {D M Q q C len : Nat} (hQ : Q = M + q * C) (hl : Q ≤ len) (hD : D = len - M) : D % C = (len - Q) % C := by
  have e : D = len - Q + q * C := by omega
  rw [e, Nat.add_mul_mod_self_right]
theorem tmod_nat (a b : Nat) : (a : Int).tmod (b : Int) = ((a % b : Nat) : Int) := by
  rw [Int.tmod_eq_emod_of_nonneg (Int.natCast_nonneg a)]
  rfl
end Go.Proofs.YtbjakhiflgjflaaGreatDoor
