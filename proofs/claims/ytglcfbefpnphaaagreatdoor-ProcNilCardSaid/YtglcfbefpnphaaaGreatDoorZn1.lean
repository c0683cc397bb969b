/-
  Which blocks are whose: a footprint, and what a step leaves of all that is not in it. Conditions: none.
-/
import Derived.Deep.Cut
import Derived.Deep.DeepCutAuto
import Derived.Deep.RegionHeld3
import Derived.BigQuiet
import Derived.OrdersHeld
import Derived.RegionTactic
import Derived.Test.YtglcfbefpnphaaaGreatDoorZn0
namespace Go.Proofs.YtglcfbefpnphaaaGreatDoor
open Go Go.RowKit Go.ChangeMaps

/-- A step of what has the blocks F, and F' behind it: no other block that was there changes, or is taken. -/
structure Chg (F F' : Nat → Prop) (w w' : World) : Prop where
  os : w'.os = w.os
  tape : w'.tape = w.tape
  output : w'.output = w.output
  size : w.heap.size ≤ w'.heap.size
  block : ∀ b, b < w.heap.size → ¬ F b → w'.heap[b]? = w.heap[b]?
  foot : ∀ b, b < w.heap.size → ¬ F b → ¬ F' b

section
variable {F F' F'' : Nat → Prop} {w w' w'' : World}
theorem Chg.refl (F : Nat → Prop) (w : World) : Chg F F w w := ⟨rfl, rfl, rfl, Nat.le_refl _, fun _ _ _ => rfl, fun _ _ h => h⟩
theorem Chg.trans (h : Chg F F' w w') (k : Chg F' F'' w' w'') : Chg F F'' w w'' :=
  ⟨k.os.trans h.os, k.tape.trans h.tape, k.output.trans h.output, Nat.le_trans h.size k.size,
   fun b hb hf => (k.block b (Nat.lt_of_lt_of_le hb h.size) (h.foot b hb hf)).trans (h.block b hb hf),
   fun b hb hf => k.foot b (Nat.lt_of_lt_of_le hb h.size) (h.foot b hb hf)⟩
theorem Chg.drewN (F : Nat → Prop) (w : World) (n : Nat) : Chg F F w (w.drewN n) := ⟨rfl, rfl, rfl, Nat.le_refl _, fun _ _ _ => rfl, fun _ _ h => h⟩
/-- More blocks may be its own. -/
theorem Chg.wide (h : Chg F F' w w') (G : Nat → Prop) : Chg (fun g => F g ∨ G g) (fun g => F' g ∨ G g) w w' :=
  ⟨h.os, h.tape, h.output, h.size, fun b hb hf => h.block b hb (fun h => hf (.inl h)), fun b hb hf => fun k => k.elim (h.foot b hb (fun h => hf (.inl h))) (fun h => hf (.inr h))⟩
theorem Chg.mono {G G' : Nat → Prop} (h : Chg F F' w w') (h1 : ∀ b, F b → G b) (h2 : ∀ b, b < w.heap.size → G' b → F' b ∨ G b) : Chg G G' w w' :=
  ⟨h.os, h.tape, h.output, h.size, fun b hb hf => h.block b hb (fun h => hf (h1 b h)), fun b hb hf k => (h2 b hb k).elim (h.foot b hb (fun h => hf (h1 b h))) hf⟩
theorem Chg.none (h : Chg F F' w w') (hf : ∀ b, b < w.heap.size → ¬ F b) : w.grownBy w' .none := ⟨h.os, h.tape, h.output, h.size, fun b hb _ => h.block b hb (hf b hb)⟩
theorem Chg.of_grown (h : w.grownBy w' .none) (F : Nat → Prop) : Chg F F w w' := ⟨h.os, h.tape, h.output, h.size, fun b hb _ => h.block b hb (by simp), fun _ _ h => h⟩
theorem Chg.alloc (F : Nat → Prop) (w : World) (o : Obj) : Chg F (fun g => F g ∨ g = w.heap.size) w (w.alloc o) :=
  ⟨rfl, rfl, rfl, by simp, fun k hk _ => Below.heap_alloc w o k hk, fun b hb hf h => h.elim hf (fun h => by omega)⟩
theorem Chg.alloc_other (F : Nat → Prop) (w : World) (o : Obj) : Chg F F w (w.alloc o) :=
  ⟨rfl, rfl, rfl, by simp, fun k hk _ => Below.heap_alloc w o k hk, fun _ _ h => h⟩
theorem Chg.set {b : Nat} (h : F b) (i : Nat) (u : Value) : Chg F F w (w.setCell ⟨b, i, .none⟩ u) :=
  ⟨rfl, rfl, rfl, by simp [World.setCell], fun k _ hk => heap_setCell_other w _ k u (fun e => hk (by rw [e]; exact h)), fun _ _ h => h⟩
theorem Chg.row {b : Nat} (h : F b) (cs : Array Value) : Chg F F w (w.setRow b cs) :=
  ⟨rfl, rfl, rfl, by simp, fun k _ hk => setRow_other w b k cs (fun e => hk (by rw [e]; exact h)), fun _ _ h => h⟩
theorem setB_other {b g : Nat} (h : g ≠ b) (o : Obj) : (setBlock w b o).heap[g]? = w.heap[g]? := by simp [setBlock, Ne.symm h]
theorem Chg.setB {b : Nat} (h : F b) (o : Obj) : Chg F F w (setBlock w b o) :=
  ⟨rfl, rfl, rfl, by simp [setBlock], fun k _ hk => setB_other (fun e => hk (by rw [e]; exact h)) o, fun _ _ h => h⟩
theorem Chg.off (h : Chg F F' w w') {G : Nat → Prop} (hG : ∀ g, G g → g < w.heap.size ∧ ¬ F g) : ∀ g, G g → ¬ F' g := fun g hg => h.foot g (hG g hg).1 (hG g hg).2
theorem Blk.chg {b : Nat} {cur : List Value} {t : TypeId} (h : Blk w b cur t) (c : Chg F F' w w') (hb : ¬ F b) : Blk w' b cur t := (c.block b h.lt hb).trans h
theorem Blk.setB {b g : Nat} {cur : List Value} {t : TypeId} (h : Blk w b cur t) (hb : b ≠ g) (o : Obj) : Blk (setBlock w g o) b cur t := (setB_other hb o).trans h
end
end Go.Proofs.YtglcfbefpnphaaaGreatDoor
/-
  A row of bytes is made longer by bytes 0, and a string is copied over a part of it. Conditions: fewer than a hundred million bytes.
-/
namespace Go.Proofs.YtglcfbefpnphaaaGreatDoor
open Go Go.RowKit

theorem zeroCells_u8 (k : Nat) : Builtin.zeroCells #[Value.int .u8 0] k = (List.replicate k (Value.int .u8 0)).toArray := by
  apply Array.ext
  · simp [Builtin.zeroCells]
  · intro i h1 h2
    simp [Builtin.zeroCells, Nat.mod_one]

/-- A block of cells that may be written, but for what is marked behind its end. -/
def BlkM (w : World) (b : Nat) (cur : List Value) (t : TypeId) : Prop := ∃ f : Nat × Nat, (f.2 = 0 ∨ cur.length ≤ f.1) ∧ w.heap[b]? = some (.cells cur.toArray t f)
section
variable {w w' : World} {b : Nat} {cur : List Value} {t : TypeId}
theorem Blk.m (h : Blk w b cur t) : BlkM w b cur t := ⟨(0, 0), .inl rfl, h⟩
theorem BlkM.lt (h : BlkM w b cur t) : b < w.heap.size := by
  obtain ⟨f, _, h⟩ := h
  exact (Array.getElem?_eq_some_iff.1 h).1
theorem BlkM.keep (h : BlkM w b cur t) (hk : w'.heap[b]? = w.heap[b]?) : BlkM w' b cur t := by
  obtain ⟨f, hf, h⟩ := h
  exact ⟨f, hf, hk.trans h⟩
theorem BlkM.cell (h : BlkM w b cur t) {i : Nat} {v : Value} (hi : cur[i]? = some v) : w.cell? ⟨b, i, none⟩ = some v := by
  obtain ⟨f, _, h⟩ := h
  rw [cell_of_row w b i _ t _ h]; simpa using hi
theorem BlkM.row (h : BlkM w b cur t) (c : List Value) (hc : c.length = cur.length) : BlkM (w.setRow b c.toArray) b c t := by
  obtain ⟨f, hf, h⟩ := h
  exact ⟨f, by rw [hc]; exact hf, setRow_heap w b _ _ t _ h⟩
end
theorem run_storeCells_m {P : Program} (g o : Nat) (t : TypeId) (f : Nat × Nat) : ∀ (vs : List Value) (i : Nat) (cur : Array Value) (w : World), (f.2 = 0 ∨ cur.size ≤ f.1) → w.heap[g]? = some (.cells cur t f) → o + i + vs.length ≤ cur.size → (∀ v ∈ vs, v.oneCell' = true) →
    (storeCells ⟨g, o, none⟩ vs i).run P w = .ok () (w.setRow g (cur.toList.take (o + i) ++ vs ++ cur.toList.drop (o + i + vs.length)).toArray)
  | [], i, cur, w, _, hg, _, _ => by
    simp only [storeCells, List.append_nil, List.length_nil, Nat.add_zero, List.take_append_drop, Array.toArray_toList]
    rw [setRow_self w g cur t f hg]
    rfl
  | v :: rest, i, cur, w, hf, hg, hl, h1 => by
    have hi : o + i < cur.size := by simp at hl; omega
    have hadd : (⟨g, o, none⟩ : Addr).add i = ⟨g, o + i, none⟩ := by unfold Addr.add; split <;> simp_all
    have hcell : w.cell? ⟨g, o + i, none⟩ = some cur[o + i] := by simp [World.cell?, hg, hi]
    have hfro : w.frozen? ⟨g, o + i, none⟩ = false := by
      obtain ⟨f1, f2⟩ := f
      simp only [World.frozen?, hg, Bool.and_eq_false_iff, decide_eq_false_iff_not]
      simp only at hf
      omega
    have hst : (store ((⟨g, o, none⟩ : Addr).add i) v).run P w = .ok () (w.setRow g (cur.setIfInBounds (o + i) v)) := by
      rw [hadd, run_store P w _ v _ (h1 v (by simp)), hcell]
      simp [hfro, setCell_eq_setRow w g (o + i) cur t f v hg]
    have ih := run_storeCells_m (P := P) g o t f rest (i + 1) (cur.setIfInBounds (o + i) v) (w.setRow g (cur.setIfInBounds (o + i) v)) (by simpa using hf) (setRow_heap w g cur _ t _ hg) (by simp at hl ⊢; omega) (fun x hx => h1 x (by simp [hx]))
    simp only [storeCells, Sem.run_bind, hst, Result.andThen_ok, ih, setRow_setRow]
    congr 3
    have e := list_seg_step cur.toList (o + i) v rest (by simp at hl ⊢; omega)
    simpa [Array.toList_setIfInBounds, Nat.add_assoc] using e

/-- A slice of n elements of one cell each, in such a block. -/
def RowM (w : World) (e : TypeId) (v : Value) (n : Nat) (xs : List Value) : Prop :=
  (v = .slice none 0 0 ∧ n = 0 ∧ xs = []) ∨
  ∃ g off cap cur, v = .slice (some ⟨g, off, none⟩) n cap ∧ BlkM w g cur e ∧ n ≤ cap ∧ cap ≤ maxLen ∧ off + cap ≤ cur.length ∧ (cur.drop off).take n = xs
section
variable {w w' : World} {e : TypeId} {v : Value} {n : Nat} {xs : List Value}
theorem RowM.len (h : RowM w e v n xs) : xs.length = n := by
  rcases h with ⟨_, rfl, rfl⟩ | ⟨g, off, cap, cur, _, _, h1, _, h2, rfl⟩
  · rfl
  · rw [List.length_take, List.length_drop]; omega
theorem RowM.keep (h : RowM w e v n xs) (hk : ∀ g, v.ownBlock = some g → w'.heap[g]? = w.heap[g]?) : RowM w' e v n xs := by
  rcases h with h | ⟨g, off, cap, cur, rfl, h1, h2⟩
  · exact .inl h
  · exact .inr ⟨g, off, cap, cur, rfl, h1.keep (hk g rfl), h2⟩
theorem RowM.lt (h : RowM w e v n xs) {g : Nat} (hg : v.ownBlock = some g) : g < w.heap.size := by
  rcases h with ⟨rfl, _⟩ | ⟨g', off, cap, cur, rfl, h1, _⟩
  · cases hg
  · cases hg
    exact h1.lt
theorem RowM.form (h : RowM w e v n xs) : ∃ A c, v = .slice A n c ∧ n ≤ c ∧ c ≤ maxLen := by
  rcases h with ⟨rfl, rfl, _⟩ | ⟨g, off, cap, cur, rfl, _, h1, h2, _⟩
  · exact ⟨none, 0, rfl, Nat.le_refl _, Nat.zero_le _⟩
  · exact ⟨_, cap, rfl, h1, h2⟩
theorem RowM.form1 (h : RowM w e v n xs) (hn : 0 < n) : ∃ g off cap, v = .slice (some ⟨g, off, none⟩) n cap ∧ n ≤ cap ∧ cap ≤ maxLen := by
  rcases h with ⟨rfl, rfl, _⟩ | ⟨g, off, cap, cur, rfl, _, h1, h2, _⟩
  · omega
  · exact ⟨g, off, cap, rfl, h1, h2⟩
theorem RowM.formA {A : Option Addr} {c : Nat} (h : RowM w e (.slice A n c) n xs) (hc : 0 < c) : ∃ g off, A = some ⟨g, off, none⟩ := by
  rcases h with ⟨h, _⟩ | ⟨g, off, cap, cur, hv, _⟩
  · cases h; omega
  · cases hv; exact ⟨g, off, rfl⟩
theorem RowM.cell {g off c : Nat} (h : RowM w e (.slice (some ⟨g, off, none⟩) n c) n xs) {j : Nat} {u : Value} (hu : xs[j]? = some u) : w.cell? ⟨g, off + j, none⟩ = some u := by
  rcases h with ⟨h, _⟩ | ⟨g', off', cap, cur, hv, h1, h2, _, h3, rfl⟩
  · cases h
  · cases hv
    rw [List.getElem?_take] at hu
    split at hu
    · rw [List.getElem?_drop] at hu
      exact h1.cell hu
    · cases hu
theorem RowM.head {A : Option Addr} {c : Nat} (h : RowM w e (.slice A n c) n xs) (k : Nat) (hk : k ≤ n) : RowM w e (.slice A k c) k (xs.take k) := by
  rcases h with ⟨h, rfl, rfl⟩ | ⟨g', off', cap, cur, hv, h1, h2, h4, h3, rfl⟩
  · cases h
    obtain rfl : k = 0 := by omega
    exact .inl ⟨rfl, rfl, rfl⟩
  · cases hv
    exact .inr ⟨g', off', c, cur, rfl, h1, by omega, h4, h3, by rw [List.take_take, Nat.min_eq_left hk]⟩
theorem RowM.tail {A : Option Addr} {c : Nat} (h : RowM w e (.slice A n c) n xs) (k : Nat) (hk : k ≤ n) : RowM w e (.slice (if c = k then A else A.map (·.add k)) (n - k) (c - k)) (n - k) (xs.drop k) := by
  rcases h with ⟨h, rfl, rfl⟩ | ⟨g', off', cap, cur, hv, h1, h2, h4, h3, rfl⟩
  · cases h
    obtain rfl : k = 0 := by omega
    exact .inl ⟨rfl, rfl, rfl⟩
  · cases hv
    by_cases hck : c = k
    · rw [if_pos hck]
      exact .inr ⟨g', off', c - k, cur, rfl, h1, by omega, by omega, by omega, by rw [show n - k = 0 by omega, List.take_zero, List.drop_eq_nil_of_le (by rw [List.length_take]; omega)]⟩
    · rw [if_neg hck]
      refine .inr ⟨g', off' + k, c - k, cur, by simp [add_plain0], h1, by omega, by omega, by omega, ?_⟩
      rw [List.drop_take, List.drop_drop]
end
section
variable {P : Program} (w : World)
theorem run_append_more (t tn ty e : TypeId) (i : TypeInfo) (kn : IntKind) (ht : P.underlying t = some (.slice e)) (htn : P.underlying tn = some (.int kn)) (hi : P.info? e = some i) (hz : i.zero = some (.int .u8 0)) (hs1 : i.size = 1) (hby : i.bytes = 1) 
    (v : Value) (n : Nat) (xs : List Value) (hr : RowM w e v n xs) (kq : IntKind) (k : Nat) (hk : 0 < k) (hm : n + k ≤ 100000000) :
    ∃ v' w', (Builtin.append_ #[t, tn] ty #[v, .int kq k]).run P w = .ok v' w' ∧ RowM w' e v' (n + k) (xs ++ List.replicate k (Value.int .u8 0)) ∧ Chg (fun b => v.ownBlock = some b) (fun b => v'.ownBlock = some b ∨ v.ownBlock = some b) w w' ∧ (v'.ownBlock = v.ownBlock ∨ v'.ownBlock = some w.heap.size) := by
  have hxl := hr.len
  have hw : IntKind.i64.wrap (k : Int) = k := by rw [IntKind.wrap_i64]; omega
  have hzv : (zeroValue e).run P w = .ok (.int .u8 0) w := by simp [zeroValue, typeInfo, hi, hz]
  have h48i : ¬ (281474976710656 < (k : Int) * (i.bytes : Int)) := by rw [hby]; omega
  have hneg : ¬ ((k : Int) < 0) := by omega
  have hk0 : k ≠ 0 := by omega
  have grown : ∀ (base : Option Addr) (cap : Nat), v = .slice base n cap → cap < n + k → (Builtin.firstCells i.size n (.slice base n cap)).run P w.drew = .ok xs.toArray w.drew →
      ∃ v' w', (Builtin.append_ #[t, tn] ty #[v, .int kq k]).run P w = .ok v' w' ∧ RowM w' e v' (n + k) (xs ++ List.replicate k (Value.int .u8 0)) ∧ Chg (fun b => v.ownBlock = some b) (fun b => v'.ownBlock = some b ∨ v.ownBlock = some b) w w' ∧ (v'.ownBlock = v.ownBlock ∨ v'.ownBlock = some w.heap.size) := by
    intro base cap hv hlt hold
    subst hv
    have h63 : n + k ≤ maxLen := by simp only [maxLen]; omega
    have hge := grownCap_ge w (n + k) cap e
    have hcm := grownCap_le_maxLen w (n + k) cap e h63
    refine ⟨_, _, Lib.run_append_grow_zeros w t tn ty e i (.int .u8 0) kq kn ht htn hi hz base n cap xs hold k hk (by omega) hlt (by omega) (by rw [hby]; omega) (growslice_fits hlt (by rw [hby]; omega)),
      .inr ⟨w.heap.size, 0, _, (xs ++ List.replicate k (Value.int .u8 0)) ++ List.replicate (grownCap w (n + k) cap e - (n + k)) (Value.int .u8 0), rfl, ?_, hge, hcm, ?_, ?_⟩, ((Chg.drewN (fun b => (Value.slice base n cap).ownBlock = some b) w 1).trans (Chg.alloc_other (fun b => (Value.slice base n cap).ownBlock = some b) (w.drewN 1) _)).mono (fun _ h => h) (fun b hb h => h.elim (fun h => absurd hb (by cases h; exact Nat.lt_irrefl _)) .inr), .inr rfl⟩
    · have e1 : (xs.toArray ++ Builtin.zeroCells (Value.int .u8 0).cells k ++ Builtin.zeroCells (Value.int .u8 0).cells (grownCap w (n + k) cap e - (n + k))) = ((xs ++ List.replicate k (Value.int .u8 0)) ++ List.replicate (grownCap w (n + k) cap e - (n + k)) (Value.int .u8 0)).toArray := by
        show (xs.toArray ++ Builtin.zeroCells #[Value.int .u8 0] k ++ Builtin.zeroCells #[Value.int .u8 0] (grownCap w (n + k) cap e - (n + k))) = _
        rw [zeroCells_u8, zeroCells_u8]; simp
      rw [e1]
      exact (Blk.new w.drew _ e).m
    · simp only [List.length_append, List.length_replicate]
      omega
    · rw [List.drop_zero]
      exact List.take_left' (by simp only [List.length_append, List.length_replicate]; omega)
  rcases hr with ⟨rfl, rfl, rfl⟩ | ⟨g, off, cap, cur, rfl, ⟨f, hf, h1⟩, h2, h3, h4, rfl⟩
  · exact grown none 0 rfl (by omega) (run_firstCells_none w.drew i.size 0 0 0)
  · by_cases hroom : n + k ≤ cap
    · have hrep : (List.replicate k (Value.int .u8 0)).length = k := List.length_replicate
      have hst := run_storeCells_m (P := P) g (off + n) e f (List.replicate k (Value.int .u8 0)) 0 cur.toArray w (by simpa using hf) h1 (by simp; omega) (fun u hu => by rw [List.eq_of_mem_replicate hu]; rfl)
      simp only [Nat.add_zero] at hst
      have hzc : Builtin.zeroCells (Value.int .u8 0).cells k = (List.replicate k (Value.int .u8 0)).toArray := zeroCells_u8 k
      refine ⟨.slice (some ⟨g, off, none⟩) (n + k) cap, w.setRow g (cur.take (off + n) ++ List.replicate k (Value.int .u8 0) ++ cur.drop (off + n + (List.replicate k (Value.int .u8 0)).length)).toArray, ?_, .inr ⟨g, off, cap, _, rfl, BlkM.row ⟨f, hf, h1⟩ _ (by simp only [List.length_append, List.length_take, List.length_drop, hrep]; omega), hroom, h3, ?_, ?_⟩, (Chg.row (F := fun b => (Value.slice (some ⟨g, off, none⟩) n cap).ownBlock = some b) rfl _).mono (fun _ h => h) (fun b _ h => h.elim .inr .inl), .inl rfl⟩
      · simp [Builtin.append_, run_underlying ht, run_underlying htn, sizeOf, typeInfo, hi, hs1, asInt, asIntOf, hw, hneg, h48i, hk0, hroom, hzv, hzc, Addr.add_lit, hst]
      · simp only [List.length_append, List.length_take, List.length_drop, hrep]; omega
      · have e1 : (cur.take (off + n) ++ List.replicate k (Value.int .u8 0) ++ cur.drop (off + n + (List.replicate k (Value.int .u8 0)).length)).drop off = (cur.drop off).take n ++ List.replicate k (Value.int .u8 0) ++ cur.drop (off + n + (List.replicate k (Value.int .u8 0)).length) := by
          rw [List.append_assoc, List.drop_append_of_le_length (by rw [List.length_take]; omega), List.drop_take, Nat.add_sub_cancel_left, List.append_assoc]
        rw [e1]
        exact List.take_left' (by simp only [List.length_append, List.length_take, List.length_drop, hrep]; omega)
    · refine grown (some ⟨g, off, none⟩) cap rfl (by omega) ?_
      refine run_firstCells_some w.drew i.size n ⟨g, off, none⟩ n cap _ (by rw [hs1, hxl, Nat.mul_one]) fun j u hu => ?_
      rw [add_plain0]
      exact RowM.cell (w := w) (.inr ⟨g, off, cap, cur, rfl, ⟨f, hf, h1⟩, h2, h3, h4, rfl⟩) hu

/-- A string's bytes are copied over a part of a row, from place 'at' on. -/
theorem run_copy_part (dT sT ty elem : TypeId) (hu : P.underlying dT = some (.slice elem)) (hs : (P.info? elem).map (·.size) = some 1) (g off n c k : Nat) (xs : List Value) (hr : RowM w elem (.slice (some ⟨g, off, none⟩) n c) n xs) (s : ByteArray) (hd : k + s.size ≤ n) (dCap : Nat) :
    ∃ w', (Builtin.copy_ #[dT, sT] ty #[.slice (some ⟨g, off + k, none⟩) (n - k) dCap, .string s]).run P w = .ok (.int .i64 (s.size : Int)) w' ∧ RowM w' elem (.slice (some ⟨g, off, none⟩) n c) n (xs.take k ++ byteCells s ++ xs.drop (k + s.size)) ∧ Chg (fun b => b = g) (fun b => b = g) w w' := by
  rcases hr with ⟨h, _⟩ | ⟨g', off', cap, cur, hv, ⟨f, hf, h1⟩, h2, h3, h4, rfl⟩
  · cases h
  cases hv
  have hl : (byteCells s).length = s.size := byteCells_length s
  have hst := run_storeCells_m (P := P) g (off + k) elem f (byteCells s) 0 cur.toArray w (by simpa using hf) h1 (by simp only [Nat.add_zero, hl]; simp; omega) (fun u hu => by
    obtain ⟨_, _, rfl⟩ := List.mem_map.1 hu
    rfl)
  rw [hl] at hst
  simp only [Nat.add_zero] at hst
  have hfc : (Builtin.firstCells 1 s.size (.string s)).run P w = .ok (byteCells s).toArray w := by
    have : s.extract 0 s.size = s := by simp
    simp [Builtin.firstCells, byteCells, this]
    apply Array.ext'
    simp
  refine ⟨w.setRow g (cur.take (off + k) ++ byteCells s ++ cur.drop (off + k + s.size)).toArray, ?_, .inr ⟨g, off, c, _, rfl, BlkM.row ⟨f, hf, h1⟩ _ (by simp only [List.length_append, List.length_take, List.length_drop, hl]; omega), h2, h3, ?_, ?_⟩, Chg.row (F := fun b => b = g) rfl _⟩
  · cases hq : P.info? elem with
    | none => simp [hq] at hs
    | some i =>
      have hi : i.size = 1 := by simpa [hq] using hs
      have hmin : Nat.min s.size (n - k) = s.size := by show min _ _ = _; omega
      have hmin2 : Nat.min (n - k) s.size = s.size := by show min _ _ = _; omega
      simp [Builtin.copy_, run_underlying hu, Builtin.lenOf, sizeOf, typeInfo, hq, hi, hmin, hmin2, hfc, hst, goInt]
  · simp only [List.length_append, List.length_take, List.length_drop, hl]; omega
  · have e1 : (cur.take (off + k) ++ byteCells s ++ cur.drop (off + k + s.size)).drop off = (cur.drop off).take k ++ byteCells s ++ cur.drop (off + k + s.size) := by
      rw [List.append_assoc, List.drop_append_of_le_length (by rw [List.length_take]; omega), List.drop_take, Nat.add_sub_cancel_left, List.append_assoc]
    rw [e1]
    have e2 : ((cur.drop off).take n).take k = (cur.drop off).take k := by rw [List.take_take, Nat.min_eq_left (by omega)]
    have e3 : ((cur.drop off).take n).drop (k + s.size) = (cur.drop (off + k + s.size)).take (n - (k + s.size)) := by
      rw [List.drop_take, List.drop_drop, Nat.add_assoc]
    rw [e2, e3, List.take_append, List.take_append]
    have l1 : ((cur.drop off).take k).length = k := by rw [List.length_take, List.length_drop]; omega
    rw [List.length_append, l1, hl]
    congr 1
    · congr 1
      · exact List.take_of_length_le (by omega)
      · exact List.take_of_length_le (by rw [hl]; omega)
end
section
variable {P : Program}
theorem run_append_m (w : World) (t tx ty e : TypeId) (i : TypeInfo) (z : Value) (ht : P.underlying t = some (.slice e)) (hi : P.info? e = some i) (hz : i.zero = some z) (hs1 : i.size = 1) (hzs : z.cells.size = 1)
    (v : Value) (n : Nat) (xs : List Value) (hr : RowM w e v n xs) (x : Value) (m : Nat) (news : List Value) (hs : Src P 1 tx x m news w) (hb : (n + m) * i.bytes ≤ 140737488355328) (hm : n + m ≤ 100000000) :
    ∃ v' w', (Builtin.append_ #[t, tx] ty #[v, x]).run P w = .ok v' w' ∧ RowM w' e v' (n + m) (xs ++ news) ∧ Chg (fun b => v.ownBlock = some b) (fun b => v'.ownBlock = some b ∨ v.ownBlock = some b) w w' ∧ (v'.ownBlock = v.ownBlock ∨ v'.ownBlock = some w.heap.size) := by
  have hs0 := hs
  rw [← hs1] at hs0
  have hnl : news.length = m := by simpa using hs.newsLen
  have hxl := hr.len
  have h63 : n + m ≤ maxLen := by simp only [maxLen]; omega
  have grown : ∀ (base : Option Addr) (cap : Nat) (hv : v = .slice base n cap) (hlt : cap < n + m) (hold : (Builtin.firstCells i.size n (.slice base n cap)).run P w.drew = .ok xs.toArray w.drew),
      ∃ v' w', (Builtin.append_ #[t, tx] ty #[v, x]).run P w = .ok v' w' ∧ RowM w' e v' (n + m) (xs ++ news) ∧ Chg (fun b => v.ownBlock = some b) (fun b => v'.ownBlock = some b ∨ v.ownBlock = some b) w w' ∧ (v'.ownBlock = v.ownBlock ∨ v'.ownBlock = some w.heap.size) := by
    intro base cap hv hlt hold
    subst hv
    have hge := grownCap_ge w (n + m) cap e
    have hcm := grownCap_le_maxLen w (n + m) cap e h63
    refine ⟨_, _, run_append_grow_src w t tx ty e i z ht hi hz base n cap xs hold x m news hs0 hlt (by omega) (growslice_fits hlt hb), .inr ⟨w.heap.size, 0, _, (xs ++ news) ++ (Builtin.zeroCells z.cells (grownCap w (n + m) cap e - (n + m))).toList, rfl, ?_, hge, hcm, ?_, ?_⟩, ((Chg.drewN (fun b => (Value.slice base n cap).ownBlock = some b) w 1).trans (Chg.alloc_other (fun b => (Value.slice base n cap).ownBlock = some b) (w.drewN 1) _)).mono (fun _ h => h) (fun b hb h => h.elim (fun h => absurd hb (by cases h; exact Nat.lt_irrefl _)) .inr), .inr rfl⟩
    · have e1 : ((xs ++ news).toArray ++ Builtin.zeroCells z.cells (grownCap w (n + m) cap e - (n + m))) = ((xs ++ news) ++ (Builtin.zeroCells z.cells (grownCap w (n + m) cap e - (n + m))).toList).toArray := by apply Array.ext'; simp
      rw [e1]
      exact (Blk.new w.drew _ e).m
    · simp only [List.length_append, Array.length_toList, size_zeroCells, hzs]
      omega
    · rw [List.drop_zero]
      exact List.take_left' (by rw [List.length_append]; omega)
  rcases hr with ⟨rfl, rfl, rfl⟩ | ⟨g, off, cap, cur, rfl, ⟨f, hf, h1⟩, h2, h3, h4, rfl⟩
  · by_cases hm0 : m = 0
    · subst hm0
      obtain rfl : news = [] := List.eq_nil_of_length_eq_zero hnl
      refine ⟨.slice none 0 0, w, ?_, .inl ⟨rfl, rfl, rfl⟩, (Chg.refl (fun b => (Value.slice none 0 0).ownBlock = some b) w).mono (fun _ h => h) (fun _ _ h => h.elim .inl .inl), .inl rfl⟩
      rcases hs.kind with ⟨e', hk⟩ | hk <;> simp [Builtin.append_, run_underlying ht, run_underlying hk, sizeOf, typeInfo, hi, hs0.len, hs0.cells]
    · exact grown none 0 rfl (by omega) (run_firstCells_none w.drew i.size 0 0 0)
  · by_cases hroom : n + m ≤ cap
    · have hst := run_storeCells_m (P := P) g (off + n) e f news 0 cur.toArray w (by simpa using hf) h1 (by simp; omega) hs.one
      simp only [Nat.add_zero] at hst
      refine ⟨.slice (some ⟨g, off, none⟩) (n + m) cap, w.setRow g (cur.take (off + n) ++ news ++ cur.drop (off + n + news.length)).toArray, ?_, .inr ⟨g, off, cap, _, rfl, BlkM.row ⟨f, hf, h1⟩ _ (by simp only [List.length_append, List.length_take, List.length_drop]; omega), hroom, h3, ?_, ?_⟩, (Chg.row (F := fun b => (Value.slice (some ⟨g, off, none⟩) n cap).ownBlock = some b) rfl _).mono (fun _ h => h) (fun b _ h => h.elim .inr .inl), .inl rfl⟩
      · rcases hs.kind with ⟨e', hk⟩ | hk <;> simp [Builtin.append_, run_underlying ht, run_underlying hk, sizeOf, typeInfo, hi, hs1, hs.len, hroom, hs.cells, Addr.add_lit, hst]
      · simp only [List.length_append, List.length_take, List.length_drop]; omega
      · have e1 : (cur.take (off + n) ++ news ++ cur.drop (off + n + news.length)).drop off = (cur.drop off).take n ++ news ++ cur.drop (off + n + news.length) := by
          rw [List.append_assoc, List.drop_append_of_le_length (by rw [List.length_take]; omega), List.drop_take, Nat.add_sub_cancel_left, List.append_assoc]
        rw [e1]
        exact List.take_left' (by simp only [List.length_append, List.length_take, List.length_drop]; omega)
    · refine grown (some ⟨g, off, none⟩) cap rfl (by omega) ?_
      refine run_firstCells_some w.drew i.size n ⟨g, off, none⟩ n cap _ (by rw [hs1, hxl, Nat.mul_one]) fun j u hu => ?_
      rw [add_plain0]
      exact RowM.cell (w := w) (.inr ⟨g, off, cap, cur, rfl, ⟨f, hf, h1⟩, h2, h3, h4, rfl⟩) hu
end
end Go.Proofs.YtglcfbefpnphaaaGreatDoor
/-
  extend: a beginning of the data is moved behind what a stretch has, till it is full. Conditions: something is to be moved, and there is room; at most 65536 bytes.
-/
namespace Go.Proofs.YtglcfbefpnphaaaGreatDoor
open Go Go.RowKit

/-- Bytes as cells. -/
def bc (l : List UInt8) : List Value := l.map fun b => .int .u8 b.toNat
def tl (s : ByteArray) : List UInt8 := s.data.toList
theorem bc_str (s : ByteArray) : byteCells s = bc (tl s) := rfl
theorem bc_len (l : List UInt8) : (bc l).length = l.length := List.length_map _
theorem bc_app (a b : List UInt8) : bc (a ++ b) = bc a ++ bc b := List.map_append
theorem tl_len (s : ByteArray) : (tl s).length = s.size := Array.length_toList

end Go.Proofs.YtglcfbefpnphaaaGreatDoor
/-
  take and leave: chunks go out of the row that keeps those that are used no more, and into it. Conditions: at most a million chunks.
-/
namespace Go.Proofs.YtglcfbefpnphaaaGreatDoor
open Go Go.RowKit

/-- A pool's numbers. -/
structure Ps where
  quota : Nat
  mem : Nat
  ch : Nat
  held : Nat
  used : Nat
  nb : Nat
def Ps.cells (p : Ps) (S : Value) : List Value := [.int .i64 (p.quota : Int), .int .i64 (p.mem : Int), .int .i64 (p.ch : Int), .int .i64 (p.held : Int), .int .i64 (p.used : Int), .int .i64 (p.nb : Int), S]

theorem own_len (A : Option Addr) (n m c c' : Nat) : (Value.slice A n c).ownBlock = (Value.slice A m c').ownBlock := by cases A <;> rfl
end Go.Proofs.YtglcfbefpnphaaaGreatDoor
/-
  put where there is room in memory: a beginning of the data goes there. Conditions: something is to be moved; numbers of the size of a pool's.
-/
namespace Go.Proofs.YtglcfbefpnphaaaGreatDoor
open Go Go.RowKit

/-- A buffer's cells. -/
def bufC (pb gone len : Nat) (m c : Value) : List Value := [.pointer (some ⟨pb, 0, none⟩), .int .i64 (gone : Int), .int .i64 (len : Int), m, c]

end Go.Proofs.YtglcfbefpnphaaaGreatDoor
/-
  put behind the memory where the last chunk is not full: a beginning of the data goes there. Conditions: something is to be moved; numbers of the size of a pool's.
-/
namespace Go.Proofs.YtglcfbefpnphaaaGreatDoor
open Go Go.RowKit

end Go.Proofs.YtglcfbefpnphaaaGreatDoor
/-
  A region that draws its order, whose last operation comes behind all others and writes a cell that the region loads: a condition on the world is held behind every operation but that one.
-/
namespace Go.Proofs.YtglcfbefpnphaaaGreatDoor
open Go

section
variable {P : Program} {ops : Array Oper} {Q : Exit → Act → World → Prop} {md : Region.Mode} {S : World → Prop} {L : Nat}

/-- Whatever order is picked, and S holds behind every operation but number L. -/
def wpAnyT (P : Program) (md : Region.Mode) (ops : Array Oper) (Q : Exit → Act → World → Prop) (S : World → Prop) (L : Nat) : Nat → Array Bool → Act → World → Prop
  | 0, listed, a, w => Region.ready md ops listed = [] ∧ Q .normal a w
  | fuel + 1, listed, a, w =>
    (Region.ready md ops listed = [] → Q .normal a w) ∧
    ∀ i ∈ Region.ready md ops listed, wpOp P ops Q i (fun a' w' => (i ≠ L → S w') ∧ wpAnyT P md ops Q S L fuel (listed.setIfInBounds i true) a' w') a w

theorem wpAny_of_T : ∀ (fuel : Nat) (listed : Array Bool) (a : Act) (w : World), wpAnyT P md ops Q S L fuel listed a w → wpAny P md ops Q fuel listed a w
  | 0, _, _, _, h => h
  | fuel + 1, _, _, _, h => ⟨h.1, fun i hi => wpOp_mono (fun a' w' h' => wpAny_of_T fuel _ a' w' h'.2) (h.2 i hi)⟩

/-- Operation L waits for operation i. -/
def waitsFor (md : Region.Mode) (ops : Array Oper) (L i : Nat) : Bool := ((ops[L]?).map fun o => o.after.any fun e => Region.binds md e && e.on == i).getD false

theorem unlisted_false {listed : Array Bool} {i : Nat} (h : listed.getD i true = false) : listed.getD i false = false := by
  rcases Nat.lt_or_ge i listed.size with h' | h'
  · simpa [h'] using h
  · simp [Array.getElem?_eq_none h'] at h

/-- The one operation that may come up; behind it S anew, unless it is the last. -/
theorem wpAnyT_one {i : Nat} {o : Oper} {fuel : Nat} {listed : Array Bool} {a : Act} {w : World} (ho : ops[i]? = some o) (hr : Region.ready md ops listed = [i]) (hg : o.guard = none)
    (h : o.wp P a w (fun a' w' => (i ≠ L → S w') ∧ wpAnyT P md ops Q S L fuel (listed.setIfInBounds i true) a' w') Q) : wpAnyT P md ops Q S L (fuel + 1) listed a w := by
  refine ⟨fun h0 => (by rw [hr] at h0; cases h0), fun j hj => ?_⟩
  rw [hr, List.mem_singleton] at hj
  subst hj
  unfold wpOp
  simp only [ho, Region.wanted, hg, if_true]
  exact .inl h

theorem wpAnyT_done {listed : Array Bool} {a : Act} {w : World} (hr : Region.ready md ops listed = []) (h : Q .normal a w) : ∀ fuel, wpAnyT P md ops Q S L fuel listed a w
  | 0 => ⟨hr, h⟩
  | _ + 1 => ⟨fun _ => h, by rw [hr]; simp⟩

theorem wp_region_last {id : Nat} {a : Act} {w : World} (hm : P.follows .mixedOrders = true)
    (h : wpAnyT P .any ops Q S L ops.size (Array.replicate ops.size false) a w.drew) : (Code.region id ops true).wp P Q a w :=
  wp_region_any hm (wpAny_of_T _ _ _ _ h)
end
end Go.Proofs.YtglcfbefpnphaaaGreatDoor
/-
  A region whose last operation waits for each other one, be it by way of others.
-/
namespace Go.Proofs.YtglcfbefpnphaaaGreatDoor
open Go

section
variable {P : Program} {ops : Array Oper} {Q : Exit → Act → World → Prop} {md : Region.Mode} {S : World → Prop} {L : Nat}

/-- Operation L waits for operation i, be it by way of others. -/
def waitsT (md : Region.Mode) (ops : Array Oper) : Nat → Nat → Nat → Bool
  | 0, _, _ => false
  | n + 1, L, i => waitsFor md ops L i || ((ops[L]?).map fun o => o.after.any fun e => Region.binds md e && waitsT md ops n e.on i).getD false
/-- What is listed has all listed that it waits for. -/
def Closed (md : Region.Mode) (ops : Array Oper) (listed : Array Bool) : Prop :=
  ∀ j o, ops[j]? = some o → listed.getD j false = true → ∀ e ∈ o.after, Region.binds md e = true → listed.getD e.on false = true
def closedB (md : Region.Mode) (ops : Array Oper) (listed : Array Bool) : Bool :=
  (List.range ops.size).all fun j => ((ops[j]?).map fun o => !(listed.getD j false) || o.after.all fun e => !(Region.binds md e) || listed.getD e.on false).getD true

theorem closed_of {listed : Array Bool} (h : closedB md ops listed = true) : Closed md ops listed := by
  intro j o ho hl e he hb
  have hj : j < ops.size := (Array.getElem?_eq_some_iff.1 ho).1
  have h1 := List.all_eq_true.1 h j (List.mem_range.2 hj)
  simp only [ho, Option.map_some, Option.getD_some, hl, Bool.not_true, Bool.false_or, Array.all_eq_true] at h1
  obtain ⟨k, hk, rfl⟩ := Array.mem_iff_getElem.1 he
  have := h1 k hk
  rw [hb] at this
  simpa using this
theorem getD_set_self {listed : Array Bool} {j : Nat} (h : j < listed.size) (d : Bool) : (listed.setIfInBounds j true).getD j d = true := by simp [h]
theorem closed_set {listed : Array Bool} {j : Nat} (hc : Closed md ops listed) (hj : j ∈ Region.ready md ops listed) : Closed md ops (listed.setIfInBounds j true) := by
  intro k o ho hl e he hb
  have hup : ∀ m, listed.getD m false = true → (listed.setIfInBounds j true).getD m false = true := fun m hm => by
    by_cases hjm : j = m
    · subst hjm
      have hlt : j < listed.size := by
        rcases Nat.lt_or_ge j listed.size with h' | h'
        · exact h'
        · simp [Array.getElem?_eq_none h'] at hm
      exact getD_set_self hlt false
    · rw [getD_set_ne false hjm]; exact hm
  by_cases hjk : j = k
  · subst hjk
    obtain ⟨_, o', ho', hall⟩ := mem_ready.1 hj
    rw [ho] at ho'
    cases ho'
    exact hup _ (hall e he hb)
  · rw [getD_set_ne false hjk] at hl
    exact hup _ (hc k o ho hl e he hb)
theorem waitsFor_mem {L i : Nat} {o : Oper} (ho : ops[L]? = some o) (hw : waitsFor md ops L i = true) : ∃ e ∈ o.after, Region.binds md e = true ∧ e.on = i := by
  simp only [waitsFor, ho, Option.map_some, Option.getD_some, Array.any_eq_true] at hw
  obtain ⟨k, hk, he⟩ := hw
  simp only [Bool.and_eq_true, beq_iff_eq] at he
  exact ⟨_, Array.getElem_mem hk, he.1, he.2⟩
theorem listed_of_waits {listed : Array Bool} (hc : Closed md ops listed) {i : Nat} : ∀ (n j : Nat), waitsT md ops n j i = true → (∀ o, ops[j]? = some o → ∀ e ∈ o.after, Region.binds md e = true → listed.getD e.on false = true) → listed.getD i false = true
  | 0, _, h, _ => by simp [waitsT] at h
  | n + 1, j, h, hall => by
    cases ho : ops[j]? with
    | none => simp [waitsT, waitsFor, ho] at h
    | some o =>
      rw [waitsT, Bool.or_eq_true] at h
      rcases h with h | h
      · obtain ⟨e, he, hb, rfl⟩ := waitsFor_mem ho h
        exact hall o ho e he hb
      · simp only [ho, Option.map_some, Option.getD_some, Array.any_eq_true] at h
        obtain ⟨k, hk, he⟩ := h
        simp only [Bool.and_eq_true] at he
        have hl := hall o ho _ (Array.getElem_mem hk) he.1
        exact listed_of_waits hc n _ he.2 (fun o' ho' e' he' hb' => hc _ o' ho' hl e' he' hb')
theorem not_ready_lastT {listed : Array Bool} {i n : Nat} (hc : Closed md ops listed) (hw : waitsT md ops n L i = true) (hi : listed.getD i false = false) : L ∉ Region.ready md ops listed := by
  intro h
  obtain ⟨_, o, ho, hall⟩ := mem_ready.1 h
  have := listed_of_waits hc n L hw (fun o' ho' e he hb => by rw [ho] at ho'; cases ho'; exact hall e he hb)
  rw [hi] at this
  cases this

theorem wpAnyT_firstT {i n : Nat} {oi : Oper} {v : Value} (hi : ops[i]? = some oi) (hsel : ∀ (j : Nat) (o : Oper) cs b, ops[j]? = some o → o.op ≠ .select cs b)
    (hQ : ∀ c a w, Q (.panic c) (a.put oi.dst v) w → Q (.panic c) a w) (hL : waitsT md ops n L i = true) :
    ∀ (fuel : Nat) (listed : Array Bool) (a : Act) (w : World), Closed md ops listed →
      (∀ j oj, ops[j]? = some oj → j ≠ i → listed.getD j true = false → (∀ e ∈ oj.after, Region.binds md e = true → e.on ≠ i) → oi.apart ops oj = true) →
      i ∈ Region.ready md ops listed → YieldsIf P ops S oi v a → S w →
      wpAnyT P md ops Q S L fuel (listed.setIfInBounds i true) (a.put oi.dst v) w → wpAnyT P md ops Q S L (fuel + 1) listed a w := by
  intro fuel
  induction fuel with
  | zero =>
    intro listed a w _ _ hr hy hS H
    refine ⟨fun h => (by rw [h] at hr; cases hr), fun j hj => ?_⟩
    by_cases hji : j = i
    · subst hji; exact hy.wpOp hi hS ⟨fun _ => hS, H⟩
    · have := ready_mono hj hji
      rw [H.1] at this
      cases this
  | succ fuel ih =>
    intro listed a w hc hfree hr hy hS H
    refine ⟨fun h => (by rw [h] at hr; cases hr), fun j hj => ?_⟩
    by_cases hji : j = i
    · subst hji; exact hy.wpOp hi hS ⟨fun _ => hS, H⟩
    · have hjL : j ≠ L := by
        rintro rfl
        exact not_ready_lastT hc hL (unlisted_false (mem_ready.1 hr).1) hj
      have h1 := H.2 j (ready_mono hj hji)
      obtain ⟨hjun, oj, hoj, hall⟩ := mem_ready.1 hj
      have hnot : ∀ e ∈ oj.after, Region.binds md e = true → e.on ≠ i := fun e he hb heq => by
        have h2 := hall e he hb
        rw [heq, unlisted_false (mem_ready.1 hr).1] at h2
        cases h2
      have h2 := wpOp_putIf hoj (hfree j oj hoj hji hjun hnot) (fun cs b => hsel i oi cs b hi) (fun cs b => hsel j oj cs b hoj) hQ hy h1
      have hfree' : ∀ k ok, ops[k]? = some ok → k ≠ i → (listed.setIfInBounds j true).getD k true = false →
          (∀ e ∈ ok.after, Region.binds md e = true → e.on ≠ i) → oi.apart ops ok = true := fun k ok hk hki hun hno => by
        refine hfree k ok hk hki ?_ hno
        by_cases hjk : j = k
        · subst hjk; exact hjun
        · rw [getD_set_ne true hjk] at hun; exact hun
      refine wpOp_mono (fun a' w' h3 => ⟨h3.2.1, ih (listed.setIfInBounds j true) a' w' (closed_set hc hj) hfree' (ready_mono hr (Ne.symm hji)) h3.1 (h3.2.1 hjL) ?_⟩) h2
      rw [Array.setIfInBounds_comm _ _ hji]
      exact h3.2.2

theorem wpAnyT_takeT {i n : Nat} {oi : Oper} {v : Value} {fuel : Nat} {listed : Array Bool} {a : Act} {w : World} (hi : ops[i]? = some oi)
    (hs : Region.noSelect ops = true) (hf : Region.free md ops listed i = true) (hr : (Region.ready md ops listed).contains i = true) (hL : waitsT md ops n L i = true) (hc : closedB md ops listed = true)
    (hQ : ∀ c a w, Q (.panic c) (a.put oi.dst v) w → Q (.panic c) a w) (hy : YieldsIf P ops S oi v a) (hS : S w)
    (h : wpAnyT P md ops Q S L fuel (listed.setIfInBounds i true) (a.put oi.dst v) w) : wpAnyT P md ops Q S L (fuel + 1) listed a w :=
  wpAnyT_firstT hi (Region.noSelect_spec hs) hQ hL fuel listed a w (closed_of hc) (Region.free_spec hi hf) (by simpa using hr) hy hS h
end
end Go.Proofs.YtglcfbefpnphaaaGreatDoor
/-
  put behind the memory where a new chunk is begun: it is taken, and a beginning of the data goes there. Conditions: something is to be moved; numbers of the size of a pool's.
-/
namespace Go.Proofs.YtglcfbefpnphaaaGreatDoor
open Go Go.RowKit

section
variable {P : Program} {w : World}
theorem wp_append_of {o : Oper} {a : Act} {K : Act → World → Prop} {Q : Exit → Act → World → Prop} (s x : Operand) (t tx : TypeId)
    (ho : o.op = .call { callee := .builtin .append, args := #[s, x], argTypes := #[t, tx] }) (v y r : Value) (w1 : World) (hs : a.eval s = v) (hx : a.eval x = y)
    (hrun : (Builtin.append_ #[t, tx] o.type #[v, y]).run P w = .ok r w1) (h : K (a.put o.dst r) w1) : o.wp P a w K Q := by
  unfold Oper.wp execOp
  simp only [ho, resolve, invoke, builtin, Sem.run_bind, Sem.run_pure, Result.andThen_ok, List.map_toArray, List.map_cons, List.map_nil, hs, hx, hrun]
  exact h
end

end Go.Proofs.YtglcfbefpnphaaaGreatDoor
