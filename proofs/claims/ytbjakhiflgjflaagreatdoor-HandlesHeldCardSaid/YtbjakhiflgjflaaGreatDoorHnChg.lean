/-
  Which blocks are whose: a footprint, and what a step leaves of all that is not in it. Conditions: none.
-/
import Derived.Test.YtbjakhiflgjflaaGreatDoorHnMap
import Derived.Test.YtbjakhiflgjflaaGreatDoorSpMem
namespace Go.Proofs.YtbjakhiflgjflaaGreatDoor
open Go Go.RowKit Go.ChangeMaps

/-- A step of what has the blocks F, and F' behind it: no other block that was there changes, or is taken. -/
structure Chg (F F' : Nat → Prop) (w w' : World) : Prop where
  os : w'.os = w.os
  tape : w'.tape = w.tape
  output : w'.output = w.output
  size : w.heap.size ≤ w'.heap.size
  block : ∀ b, b < w.heap.size → ¬ F b → w'.heap[b]? = w.heap[b]?
  foot : ∀ b, b < w.heap.size → ¬ F b → ¬ F' b

section
variable {F F' F'' : Nat → Prop} {w w' w'' : World}
theorem Chg.refl (F : Nat → Prop) (w : World) : Chg F F w w := ⟨rfl, rfl, rfl, Nat.le_refl _, fun _ _ _ => rfl, fun _ _ h => h⟩
theorem Chg.trans (h : Chg F F' w w') (k : Chg F' F'' w' w'') : Chg F F'' w w'' :=
  ⟨k.os.trans h.os, k.tape.trans h.tape, k.output.trans h.output, Nat.le_trans h.size k.size,
   fun b hb hf => (k.block b (Nat.lt_of_lt_of_le hb h.size) (h.foot b hb hf)).trans (h.block b hb hf),
   fun b hb hf => k.foot b (Nat.lt_of_lt_of_le hb h.size) (h.foot b hb hf)⟩
theorem Chg.drewN (F : Nat → Prop) (w : World) (n : Nat) : Chg F F w (w.drewN n) := ⟨rfl, rfl, rfl, Nat.le_refl _, fun _ _ _ => rfl, fun _ _ h => h⟩
/-- More blocks may be its own. -/
theorem Chg.wide (h : Chg F F' w w') (G : Nat → Prop) : Chg (fun g => F g ∨ G g) (fun g => F' g ∨ G g) w w' :=
  ⟨h.os, h.tape, h.output, h.size, fun b hb hf => h.block b hb (fun h => hf (.inl h)), fun b hb hf => fun k => k.elim (h.foot b hb (fun h => hf (.inl h))) (fun h => hf (.inr h))⟩
theorem Chg.mono {G G' : Nat → Prop} (h : Chg F F' w w') (h1 : ∀ b, F b → G b) (h2 : ∀ b, b < w.heap.size → G' b → F' b ∨ G b) : Chg G G' w w' :=
  ⟨h.os, h.tape, h.output, h.size, fun b hb hf => h.block b hb (fun h => hf (h1 b h)), fun b hb hf k => (h2 b hb k).elim (h.foot b hb (fun h => hf (h1 b h))) hf⟩
theorem Chg.none (h : Chg F F' w w') (hf : ∀ b, b < w.heap.size → ¬ F b) : w.grownBy w' .none := ⟨h.os, h.tape, h.output, h.size, fun b hb _ => h.block b hb (hf b hb)⟩
theorem Chg.of_grown (h : w.grownBy w' .none) (F : Nat → Prop) : Chg F F w w' := ⟨h.os, h.tape, h.output, h.size, fun b hb _ => h.block b hb (by simp), fun _ _ h => h⟩
theorem Chg.alloc (F : Nat → Prop) (w : World) (o : Obj) : Chg F (fun g => F g ∨ g = w.heap.size) w (w.alloc o) :=
  ⟨rfl, rfl, rfl, by simp, fun k hk _ => Below.heap_alloc w o k hk, fun b hb hf h => h.elim hf (fun h => by omega)⟩
theorem Chg.alloc_other (F : Nat → Prop) (w : World) (o : Obj) : Chg F F w (w.alloc o) :=
  ⟨rfl, rfl, rfl, by simp, fun k hk _ => Below.heap_alloc w o k hk, fun _ _ h => h⟩
theorem Chg.set {b : Nat} (h : F b) (i : Nat) (u : Value) : Chg F F w (w.setCell ⟨b, i, .none⟩ u) :=
  ⟨rfl, rfl, rfl, by simp [World.setCell], fun k _ hk => heap_setCell_other w _ k u (fun e => hk (by rw [e]; exact h)), fun _ _ h => h⟩
theorem Chg.row {b : Nat} (h : F b) (cs : Array Value) : Chg F F w (w.setRow b cs) :=
  ⟨rfl, rfl, rfl, by simp, fun k _ hk => setRow_other w b k cs (fun e => hk (by rw [e]; exact h)), fun _ _ h => h⟩
theorem setB_other {b g : Nat} (h : g ≠ b) (o : Obj) : (setBlock w b o).heap[g]? = w.heap[g]? := by simp [setBlock, Ne.symm h]
theorem Chg.setB {b : Nat} (h : F b) (o : Obj) : Chg F F w (setBlock w b o) :=
  ⟨rfl, rfl, rfl, by simp [setBlock], fun k _ hk => setB_other (fun e => hk (by rw [e]; exact h)) o, fun _ _ h => h⟩
theorem Chg.off (h : Chg F F' w w') {G : Nat → Prop} (hG : ∀ g, G g → g < w.heap.size ∧ ¬ F g) : ∀ g, G g → ¬ F' g := fun g hg => h.foot g (hG g hg).1 (hG g hg).2
theorem Blk.chg {b : Nat} {cur : List Value} {t : TypeId} (h : Blk w b cur t) (c : Chg F F' w w') (hb : ¬ F b) : Blk w' b cur t := (c.block b h.lt hb).trans h
theorem Blk.setB {b g : Nat} {cur : List Value} {t : TypeId} (h : Blk w b cur t) (hb : b ≠ g) (o : Obj) : Blk (setBlock w g o) b cur t := (setB_other hb o).trans h
end
end Go.Proofs.YtbjakhiflgjflaaGreatDoor
