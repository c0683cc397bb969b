/-
  Words for memory: a slice that reads as a list of cells, marked texts as lists of (byte, quoted), and how they are kept.
-/
import Derived.WalkKit
import Derived.WalkSpells
import Derived.WalkLawsBesides
import Derived.Below
import Derived.Lib.Hide
import Derived.Laws.OwnMore
import Derived.Deep.Draws
import Derived.Outline
import Derived.Maps.OwnSet
import Derived.Maps.OwnOps
import Derived.Deep.AppendSrc
import Derived.Laws.CopyRow
import Derived.Test.YtigmdfdcflkggaaGreatProg
import Derived.Deep.RegionHeld3
import Derived.Deep.QuietTactic
import Derived.BigQuiet
import Derived.OwnWalk
import Derived.OrdersHeld
import Derived.RegionTactic
namespace Go.Proofs.YtigmdfdcflkggaaGreat
open Go Go.RowKit

/-- A slice value that reads as n elements of size cells each, all below block B; nil, empty and cut slices too. -/
def Sl (w : World) (B size : Nat) (v : Value) (n : Nat) (xs : List Value) : Prop :=
  ∃ (A : Option Addr) (c : Nat), v = .slice A n c ∧ n ≤ c ∧ c ≤ maxLen ∧ xs.length = n * size ∧
    (0 < n → ∃ b off : Nat, A = some ⟨b, off, none⟩ ∧ b < B ∧ ∀ (j : Nat) (u : Value), xs[j]? = some u → w.cell? ⟨b, off + j, none⟩ = some u)

theorem add_plain0 (b off k : Nat) : (⟨b, off, none⟩ : Addr).add k = ⟨b, off + k, none⟩ := by
  unfold Addr.add; split <;> simp_all

theorem below_drewN {B : Nat} {a w : World} (h : Below B a w) (n : Nat) : Below B a (w.drewN n) := ⟨h.os, h.tape, h.output, h.size, h.block⟩

section
variable {w w' : World} {B B' size n : Nat} {v : Value} {xs : List Value}
end

/-- A marked text: bytes, each with its mark. -/
abbrev Ch := UInt8 × Bool
def cc (c : Ch) : List Value := [.int .u8 (c.1.toNat : Int), .bool c.2]
def cellsCh (l : List Ch) : List Value := l.flatMap cc
/-- A slice of marked bytes reads as the marked text l, below block B. -/
def Tx (w : World) (B : Nat) (v : Value) (l : List Ch) : Prop := Sl w B 2 v l.length (cellsCh l)

section
variable {w w' : World} {B B' : Nat} {v : Value} {l : List Ch}
end
end Go.Proofs.YtigmdfdcflkggaaGreat
/-
  A map in memory, as the list of its entries in the order in which they came: look-up, length, a new entry, a delete, as run equations and as laws at the operation. Conditions: fewer entries than a length may count.
-/
namespace Go.Proofs.YtigmdfdcflkggaaGreat
open Go Go.RowKit Go.ChangeMaps Go.MapKept

/-- How keys of one kind lie in memory. -/
structure KeyEnc {κ : Type} (d : TypeDesc) (enc : κ → Value) : Prop where
  is : ∀ k, IsKey d (enc k)
  inj : ∀ a b, enc a = enc b → a = b
def encI (i : Int) : Value := .int .i64 i
def encS (s : ByteArray) : Value := .string s
theorem keyS : KeyEnc .string encS := ⟨fun _ => trivial, fun a b h => by simpa [encS] using h⟩

section
variable {κ : Type}
section
variable [DecidableEq κ]
/-- What a key has. -/
def look {α : Type} : List (κ × α) → κ → Option α
  | [], _ => none
  | p :: l, k => if p.1 = k then some p.2 else look l k
theorem look_none {α : Type} {l : List (κ × α)} {k : κ} : look l k = none ↔ ∀ p ∈ l, p.1 ≠ k := by
  induction l with
  | nil => simp [look]
  | cons a l ih =>
    unfold look
    split
    · rename_i h; simp [h]
    · rename_i h; simp [ih, h]
theorem look_mem {α : Type} {l : List (κ × α)} {k : κ} {v : α} (h : look l k = some v) : (k, v) ∈ l := by
  induction l with
  | nil => simp [look] at h
  | cons a l ih =>
    unfold look at h
    split at h
    · rename_i he; cases h; subst he; exact .head _
    · exact .tail _ (ih h)
theorem look_of_mem {α : Type} {l : List (κ × α)} {k : κ} {v : α} (hd : l.Pairwise (fun p q => p.1 ≠ q.1)) (h : (k, v) ∈ l) : look l k = some v := by
  induction l with
  | nil => cases h
  | cons a l ih =>
    unfold look
    rw [List.pairwise_cons] at hd
    cases h with
    | head => simp
    | tail _ h => rw [if_neg (fun e => hd.1 _ h e)]; exact ih hd.2 h
theorem look_map {α β : Type} (f : α → β) (l : List (κ × α)) (k : κ) : look (l.map fun p => (p.1, f p.2)) k = (look l k).map f := by
  induction l with
  | nil => rfl
  | cons a l ih =>
    simp only [List.map_cons, look]
    split
    · rfl
    · exact ih
theorem look_app {α : Type} {l m : List (κ × α)} {k : κ} : look (l ++ m) k = (look l k).or (look m k) := by
  induction l with
  | nil => rfl
  | cons a l ih =>
    simp only [List.cons_append, look]
    split
    · rfl
    · exact ih

end
/-- Block b of w is a map that has the entries l. -/
def KMap (w : World) (b : Nat) (_d : TypeDesc) (enc : κ → Value) (l : List (κ × Value)) : Prop :=
  ∃ es clock, w.heap[b]? = some (.map es clock) ∧ Stamped es clock ∧ es.toList.map (fun x => (x.key, x.val)) = l.map (fun p => (enc p.1, p.2))

variable {w : World} {b : Nat} {d : TypeDesc} {enc : κ → Value} {l : List (κ × Value)}
theorem KMap.lt (h : KMap w b d enc l) : b < w.heap.size := by
  obtain ⟨es, clock, hb, _⟩ := h
  exact (Array.getElem?_eq_some_iff.1 hb).1
theorem KMap.keep {w' : World} (h : KMap w b d enc l) (hk : w'.heap[b]? = w.heap[b]?) : KMap w' b d enc l := by
  obtain ⟨es, clock, hb, h⟩ := h
  exact ⟨es, clock, hk.trans hb, h⟩
theorem KMap.new (w : World) (d : TypeDesc) (enc : κ → Value) : KMap (w.alloc (.map #[] 0)) w.heap.size d enc [] := ⟨#[], 0, (MapKept.heap_alloc w _).1, stamped_empty 0, rfl⟩
theorem KMap.no_cells (h : KMap w b d enc l) {cs : Array Value} {t : TypeId} {f : Nat × Nat} : w.heap[b]? ≠ some (.cells cs t f) := by
  obtain ⟨es, clock, hb, _⟩ := h
  rw [hb]; simp

theorem kmap_keys {es : Array MapEntry} (K : KeyEnc d enc) (he : es.toList.map (fun x => (x.key, x.val)) = l.map (fun p => (enc p.1, p.2))) : ∀ x ∈ es.toList, IsKey d x.key := by
  intro x hx
  have : (x.key, x.val) ∈ l.map (fun p => (enc p.1, p.2)) := by rw [← he]; exact List.mem_map_of_mem hx
  obtain ⟨p, _, e⟩ := List.mem_map.1 this
  have e1 : x.key = enc p.1 := (congrArg Prod.fst e).symm
  rw [e1]
  exact K.is _
theorem KMap.apart (h : KMap w b d enc l) : l.Pairwise (fun p q => p.1 ≠ q.1) := by
  obtain ⟨es, clock, hb, hs, he⟩ := h
  have h3 := ((stamped_iff es clock).1 hs).2.2
  have h4 : (es.toList.map (fun x => (x.key, x.val))).Pairwise (fun p q => p.1 ≠ q.1) := by rw [List.pairwise_map]; exact h3
  rw [he, List.pairwise_map] at h4
  exact h4.imp fun h e => h (by rw [e])
variable [DecidableEq κ]
/-- Where a key is found. -/
theorem kmap_find {es : Array MapEntry} {clock : Nat} (K : KeyEnc d enc) (hs : Stamped es clock) (he : es.toList.map (fun x => (x.key, x.val)) = l.map (fun p => (enc p.1, p.2))) (k : κ) :
    (look l k = none ∧ Instr.findNow d (enc k) es.toList 0 = some none ∧ ∀ x ∈ es.toList, x.key ≠ enc k) ∨
      ∃ j e, look l k = some e.val ∧ Instr.findNow d (enc k) es.toList 0 = some (some (j, e.val)) ∧ es.toList[j]? = some e ∧ e.key = enc k := by
  have hap : l.Pairwise (fun p q => p.1 ≠ q.1) := by
    have h3 := ((stamped_iff es clock).1 hs).2.2
    have h4 : (es.toList.map (fun x => (x.key, x.val))).Pairwise (fun p q => p.1 ≠ q.1) := by rw [List.pairwise_map]; exact h3
    rw [he, List.pairwise_map] at h4
    exact h4.imp fun h e => h (by rw [e])
  rcases findNow_spec (K.is k) es.toList 0 (kmap_keys K he) with ⟨h1, h2⟩ | ⟨j, e, h1, h2, h3⟩
  · refine .inl ⟨look_none.2 fun p hp e => ?_, h1, h2⟩
    have : (enc p.1, p.2) ∈ es.toList.map (fun x => (x.key, x.val)) := by rw [he]; exact List.mem_map_of_mem (f := fun p : κ × Value => (enc p.1, p.2)) hp
    obtain ⟨x, hx, ex⟩ := List.mem_map.1 this
    exact h2 x hx ((congrArg Prod.fst ex).trans (by rw [e]))
  · refine .inr ⟨j, e, look_of_mem hap ?_, by simpa using h1, h2, h3⟩
    have : (e.key, e.val) ∈ l.map (fun p => (enc p.1, p.2)) := by
      rw [← he]
      exact List.mem_map_of_mem (f := fun x : MapEntry => (x.key, x.val)) (List.mem_of_getElem? h2)
    obtain ⟨p, hp, ep⟩ := List.mem_map.1 this
    cases p with
    | mk p1 p2 =>
      simp only [Prod.mk.injEq] at ep
      obtain ⟨e1, e2⟩ := ep
      rw [h3] at e1
      rw [← K.inj _ _ e1, ← e2]
      exact hp

variable {P : Program} {t kt e : TypeId}
theorem KMap.find (h : KMap w b d enc l) (K : KeyEnc d enc) (ht : P.underlying t = some (.map kt e)) (hd : P.underlying kt = some d) {z : Value} (hz : (zeroValue e).run P w = .ok z w) (c : Bool) (k : κ) :
    (Instr.lookup t (.map (some b)) (enc k) c).run P w = .ok (if c then .tuple #[(look l k).getD z, .bool (look l k).isSome] else (look l k).getD z) w := by
  obtain ⟨es, clock, hb, hs, he⟩ := h
  rcases kmap_find K hs he k with ⟨h0, h1, h2⟩ | ⟨j, x, h0, h1, h2, h3⟩
  · rw [h0]
    simp [Instr.lookup, run_underlying ht, MapKept.run_getObj_map hb, MapKept.run_checkKey hd (K.is k), MapKept.run_findKey hd h1, hz, Result.andThen]
  · rw [h0]
    simp [Instr.lookup, run_underlying ht, MapKept.run_getObj_map hb, MapKept.run_checkKey hd (K.is k), MapKept.run_findKey hd h1, Result.andThen]
theorem KMap.push (h : KMap w b d enc l) (K : KeyEnc d enc) (ht : P.underlying t = some (.map kt e)) (hd : P.underlying kt = some d) {k : κ} (hk : look l k = none) (v : Value) :
    ∃ o, (Instr.mapUpdate t (.map (some b)) (enc k) v).run P w = .ok () (setBlock w b o) ∧ KMap (setBlock w b o) b d enc (l ++ [(k, v)]) := by
  obtain ⟨es, clock, hb, hs, he⟩ := h
  rcases kmap_find K hs he k with ⟨h0, h1, h2⟩ | ⟨j, x, h0, h1, h2, h3⟩
  · refine ⟨.map (es.push ⟨enc k, v, clock⟩) (clock + 1), ?_, es.push ⟨enc k, v, clock⟩, clock + 1, heap_setBlock_same hb _, stamped_push hs h2, by simp [he]⟩
    simp [Instr.mapUpdate, run_underlying ht, MapKept.run_getObj_map hb, MapKept.run_checkKey hd (K.is k), MapKept.run_findKey hd h1, MapKept.run_setObj_map _ hb, Result.andThen, setBlock]
  · rw [hk] at h0; cases h0
omit [DecidableEq κ] in
theorem erase_map {α β : Type} (g : α → β) (m : List α) (j : Nat) : (m.eraseIdx j).map g = (m.map g).eraseIdx j := by
  induction m generalizing j with
  | nil => rfl
  | cons a m ih =>
    cases j with
    | zero => rfl
    | succ j => simp [ih]
theorem erase_look {α : Type} {l : List (κ × α)} {k : κ} {v : α} (hd : l.Pairwise (fun p q => p.1 ≠ q.1)) {j : Nat} (h : l[j]? = some (k, v)) : l.eraseIdx j = l.filter (fun p => p.1 ≠ k) := by
  induction l generalizing j with
  | nil => simp at h
  | cons a l ih =>
    rw [List.pairwise_cons] at hd
    cases j with
    | zero =>
      simp only [List.getElem?_cons_zero, Option.some.injEq] at h
      subst h
      rw [List.filter_cons_of_neg (by simp), List.eraseIdx_cons_zero]
      exact (List.filter_eq_self.2 fun p hp => by simpa using fun e => hd.1 p hp e.symm).symm
    | succ j =>
      simp only [List.getElem?_cons_succ] at h
      rw [List.filter_cons_of_pos (by simpa using fun e => hd.1 _ (List.mem_of_getElem? h) e), List.eraseIdx_cons_succ, ih hd.2 h]
theorem KMap.drop (h : KMap w b d enc l) (K : KeyEnc d enc) (ht : P.underlying t = some (.map kt e)) (hd : P.underlying kt = some d) (k : κ) (ty : TypeId) :
    ∃ o, (Builtin.delete_ #[t, kt] ty #[.map (some b), enc k]).run P w = .ok (.tuple #[]) (setBlock w b o) ∧ KMap (setBlock w b o) b d enc (l.filter fun p => p.1 ≠ k) := by
  have hap := h.apart
  obtain ⟨es, clock, hb, hs, he⟩ := h
  rcases kmap_find K hs he k with ⟨h0, h1, h2⟩ | ⟨j, x, h0, h1, h2, h3⟩
  · refine ⟨.map es clock, ?_, es, clock, heap_setBlock_same hb _, hs, ?_⟩
    · simp [Builtin.delete_, run_underlying ht, MapKept.run_getObj_map hb, MapKept.run_checkKey hd (K.is k), MapKept.run_findKey hd h1, MapKept.run_setObj_map _ hb, Result.andThen, setBlock]
    · rw [List.filter_eq_self.2 fun p hp => by simpa using look_none.1 h0 p hp]
      exact he
  · have hjs : j < es.size := by simpa using (List.getElem?_eq_some_iff.1 h2).1
    have hsub : (es.eraseIdxIfInBounds j).toList = es.toList.eraseIdx j := by
      unfold Array.eraseIdxIfInBounds
      rw [dif_pos hjs]
      simp
    refine ⟨.map (es.eraseIdxIfInBounds j) clock, ?_, es.eraseIdxIfInBounds j, clock, heap_setBlock_same hb _, stamped_erase hs j, ?_⟩
    · simp [Builtin.delete_, run_underlying ht, MapKept.run_getObj_map hb, MapKept.run_checkKey hd (K.is k), MapKept.run_findKey hd h1, MapKept.run_setObj_map _ hb, Result.andThen, setBlock]
    · have hj : (l.map (fun p => (enc p.1, p.2)))[j]? = some (x.key, x.val) := by rw [← he]; simp [h2]
      simp only [List.getElem?_map, Option.map_eq_some_iff, Prod.mk.injEq] at hj
      obtain ⟨p, hp, e1, e2⟩ := hj
      rw [h3] at e1
      obtain ⟨p1, p2⟩ := p
      have e3 := K.inj _ _ e1
      simp only at e3
      subst e3
      rw [hsub, ← erase_look hap hp]
      rw [erase_map, he, erase_map]

/-! At the operation. -/
variable {ops : Array Oper} {rest : List Oper} {o : Oper} {a : Act} {Q : Exit → Act → World → Prop}
theorem wpList_del_k (hg : o.guard = none) (m x : Operand) (t kt : TypeId) (hop : o.op = Op.call { callee := Callee.builtin Builtin.delete, args := #[m, x], argTypes := #[t, kt] })
    (e : TypeId) (K : KeyEnc d enc) (ht : P.underlying t = some (.map kt e)) (hd : P.underlying kt = some d)
    (hm : a.eval m = .map (some b)) (h : KMap w b d enc l) (k : κ) (hx : a.eval x = enc k)
    (hK : ∀ ob, KMap (setBlock w b ob) b d enc (l.filter fun p => p.1 ≠ k) → wpList P ops Q rest (a.put o.dst (.tuple #[])) (setBlock w b ob)) :
    wpList P ops Q (o :: rest) a w := by
  refine wpList_plain hg fun K' hK' => ?_
  obtain ⟨ob, hrun, h1⟩ := h.drop K ht hd k o.type
  unfold Oper.wp
  simp [execOp, hop, resolve, invoke, builtin, hm, hx, hrun, Result.andThen]
  exact hK' _ _ (hK ob h1)
end
end Go.Proofs.YtigmdfdcflkggaaGreat
/-
  Words for memory in which much is written: blocks that may be written, rows of such blocks, what a step may change; append as a run equation. Conditions: none.
-/
namespace Go.Proofs.YtigmdfdcflkggaaGreat
open Go Go.RowKit Go.ChangeMaps

/-- A block of cells that may be written. -/
def Blk (w : World) (b : Nat) (cur : List Value) (t : TypeId) : Prop := w.heap[b]? = some (.cells cur.toArray t (0, 0))

section
variable {w w' : World} {b : Nat} {cur : List Value} {t : TypeId}
theorem Blk.lt (h : Blk w b cur t) : b < w.heap.size := (Array.getElem?_eq_some_iff.1 h).1
theorem Blk.cell (h : Blk w b cur t) {i : Nat} {v : Value} (hi : cur[i]? = some v) : w.cell? ⟨b, i, none⟩ = some v := by
  rw [cell_of_row w b i _ t _ h]; simpa using hi
theorem Blk.frozen (h : Blk w b cur t) (i : Nat) : w.frozen? ⟨b, i, none⟩ = false := frozen_of_row w b i _ t h
theorem Blk.set (h : Blk w b cur t) (i : Nat) (u : Value) : Blk (w.setCell ⟨b, i, none⟩ u) b (cur.set i u) t := by
  have := heap_setCell_same w b i _ t u h
  simpa [Blk] using this
theorem Blk.other (h : Blk w b cur t) {a : Addr} (hb : b ≠ a.block) (u : Value) : Blk (w.setCell a u) b cur t := (heap_setCell_other w a b u hb).trans h
theorem Blk.alloc (h : Blk w b cur t) (o : Obj) : Blk (w.alloc o) b cur t := (Below.heap_alloc w o b h.lt).trans h
theorem Blk.row (h : Blk w b cur t) (c : List Value) : Blk (w.setRow b c.toArray) b c t := setRow_heap w b _ _ t _ h
end
theorem Blk.new (w : World) (cs : List Value) (t : TypeId) : Blk (w.alloc (.cells cs.toArray t)) w.heap.size cs t := heap_alloc_new w _


/-- What a step may change: of what was there, only blocks in S. -/
structure Stp (S : Nat → Prop) (w w' : World) : Prop where
  os : w'.os = w.os
  tape : w'.tape = w.tape
  output : w'.output = w.output
  size : w.heap.size ≤ w'.heap.size
  block : ∀ b, b < w.heap.size → ¬ S b → w'.heap[b]? = w.heap[b]?
theorem setB_other {w : World} {b g : Nat} (h : g ≠ b) (o : Obj) : (setBlock w b o).heap[g]? = w.heap[g]? := by simp [setBlock, Ne.symm h]
section
variable {S S' : Nat → Prop} {w w' w'' : World}
theorem Stp.refl (S : Nat → Prop) (w : World) : Stp S w w := ⟨rfl, rfl, rfl, Nat.le_refl _, fun _ _ _ => rfl⟩
theorem Stp.trans (h : Stp S w w') (k : Stp S' w' w'') (hs : ∀ b, b < w.heap.size → S' b → S b) : Stp S w w'' :=
  ⟨k.os.trans h.os, k.tape.trans h.tape, k.output.trans h.output, Nat.le_trans h.size k.size, fun b hb hn => (k.block b (Nat.lt_of_lt_of_le hb h.size) (fun e => hn (hs b hb e))).trans (h.block b hb hn)⟩
theorem Stp.mono (h : Stp S w w') (hs : ∀ b, b < w.heap.size → S b → S' b) : Stp S' w w' := ⟨h.os, h.tape, h.output, h.size, fun b hb hn => h.block b hb fun k => hn (hs b hb k)⟩
theorem Stp.set {b : Nat} (hS : S b) (i : Nat) (u : Value) : Stp S w (w.setCell ⟨b, i, none⟩ u) :=
  ⟨rfl, rfl, rfl, by simp [World.setCell], fun k _ hk => heap_setCell_other w _ k u (fun e => hk (by rw [e]; exact hS))⟩
theorem Stp.row {b : Nat} (hS : S b) (cs : Array Value) : Stp S w (w.setRow b cs) :=
  ⟨rfl, rfl, rfl, by simp, fun k _ hk => setRow_other w b k cs (fun e => hk (by rw [e]; exact hS))⟩
theorem Stp.setB {b : Nat} (hS : S b) (o : Obj) : Stp S w (setBlock w b o) :=
  ⟨rfl, rfl, rfl, by simp [setBlock], fun k _ hk => setB_other (fun e => hk (by rw [e]; exact hS)) o⟩
theorem Stp.alloc (S : Nat → Prop) (w : World) (o : Obj) : Stp S w (w.alloc o) := ⟨rfl, rfl, rfl, by simp, fun k hk _ => Below.heap_alloc w o k hk⟩
theorem Stp.drew (S : Nat → Prop) (w : World) : Stp S w w.drew := ⟨rfl, rfl, rfl, Nat.le_refl _, fun _ _ _ => rfl⟩
theorem Stp.drewN (S : Nat → Prop) (w : World) (n : Nat) : Stp S w (w.drewN n) := ⟨rfl, rfl, rfl, Nat.le_refl _, fun _ _ _ => rfl⟩
theorem Blk.stp {b : Nat} {cur : List Value} {t : TypeId} (h : Blk w b cur t) (m : Stp S w w') (hb : ¬ S b) : Blk w' b cur t := (m.block b h.lt hb).trans h
end

/-- What a call may change: only blocks from B on, of types in T, or in M. -/
structure Fr (B : Nat) (T : TypeId → Prop) (M : Nat → Prop) (w w' : World) : Prop where
  os : w'.os = w.os
  tape : w'.tape = w.tape
  output : w'.output = w.output
  size : w.heap.size ≤ w'.heap.size
  keep : ∀ b, b < w.heap.size → (b < B ∨ ¬ M b ∧ ∀ cur t f, w.heap[b]? = some (.cells cur t f) → ¬ T t) → w'.heap[b]? = w.heap[b]?
section
variable {B B' : Nat} {T T' : TypeId → Prop} {M M' S : Nat → Prop} {w w' w'' : World}
theorem Fr.refl (B : Nat) (T : TypeId → Prop) (M : Nat → Prop) (w : World) : Fr B T M w w := ⟨rfl, rfl, rfl, Nat.le_refl _, fun _ _ _ => rfl⟩
theorem Fr.trans (h : Fr B T M w w') (k : Fr B T M w' w'') : Fr B T M w w'' :=
  ⟨k.os.trans h.os, k.tape.trans h.tape, k.output.trans h.output, Nat.le_trans h.size k.size, fun b hb hf => by
    have e := h.keep b hb hf
    exact (k.keep b (Nat.lt_of_lt_of_le hb h.size) (hf.imp id fun hf => ⟨hf.1, fun cur t f hc => hf.2 cur t f (e ▸ hc)⟩)).trans e⟩
theorem Fr.mono (h : Fr B T M w w') (hB : B' ≤ B) (hT : ∀ t, T t → T' t) (hM : ∀ b, b < w.heap.size → M b → M' b) : Fr B' T' M' w w' :=
  ⟨h.os, h.tape, h.output, h.size, fun b hb hf => h.keep b hb (hf.imp (fun h => Nat.lt_of_lt_of_le h hB) fun hf => ⟨fun k => hf.1 (hM b hb k), fun cur t f hc k => hf.2 cur t f hc (hT t k)⟩)⟩
theorem Fr.below (h : Fr B T M w w') (hB : B ≤ w.heap.size) : Below B w w' := ⟨h.os, h.tape, h.output, h.size, fun b hb => h.keep b (Nat.lt_of_lt_of_le hb hB) (.inl hb)⟩
theorem Fr.of_stp (h : Stp S w w') (hs : ∀ b, b < w.heap.size → S b → B ≤ b ∧ (M b ∨ ∃ cur t f, w.heap[b]? = some (.cells cur t f) ∧ T t)) : Fr B T M w w' :=
  ⟨h.os, h.tape, h.output, h.size, fun b hb hf => h.block b hb fun k => by
    obtain ⟨h1, h2⟩ := hs b hb k
    rcases hf with hf | ⟨hf, hg⟩
    · omega
    · rcases h2 with h2 | ⟨cur, t, f, h3, h4⟩
      · exact hf h2
      · exact hg cur t f h3 h4⟩
theorem Fr.drewN (B : Nat) (T : TypeId → Prop) (M : Nat → Prop) (w : World) (n : Nat) : Fr B T M w (w.drewN n) := ⟨rfl, rfl, rfl, Nat.le_refl _, fun _ _ _ => rfl⟩
theorem Fr.of_below (h : Below w.heap.size w w') : Fr B T M w w' := ⟨h.os, h.tape, h.output, h.size, fun b hb _ => h.block b hb⟩
theorem Blk.fr {b : Nat} {cur : List Value} {t : TypeId} (h : Blk w b cur t) (m : Fr B T M w w') (ht : ¬ T t) (hM : ¬ M b) : Blk w' b cur t :=
  (m.keep b h.lt (.inr ⟨hM, fun _ _ _ hc => by
    have := h.symm.trans hc
    simp only [Option.some.injEq, Obj.cells.injEq] at this
    rw [← this.2.1]; exact ht⟩)).trans h
theorem KMap.fr {κ : Type} {b : Nat} {d : TypeDesc} {enc : κ → Value} {l : List (κ × Value)} (h : KMap w b d enc l) (m : Fr B T M w w') (hM : ¬ M b) : KMap w' b d enc l :=
  h.keep (m.keep b h.lt (.inr ⟨hM, fun _ _ _ hc => absurd hc h.no_cells⟩))
end

/-- A slice of n elements of one cell each, in a block of its own from B on. -/
def Row (w : World) (B : Nat) (e : TypeId) (v : Value) (n : Nat) (xs : List Value) : Prop :=
  (v = .slice none 0 0 ∧ n = 0 ∧ xs = []) ∨
  ∃ g off cap cur, v = .slice (some ⟨g, off, none⟩) n cap ∧ B ≤ g ∧ Blk w g cur e ∧ n ≤ cap ∧ cap ≤ maxLen ∧ off + cap ≤ cur.length ∧ (cur.drop off).take n = xs

section
variable {w w' : World} {B : Nat} {e : TypeId} {v : Value} {n : Nat} {xs : List Value}
theorem Row.len (h : Row w B e v n xs) : xs.length = n := by
  rcases h with ⟨_, rfl, rfl⟩ | ⟨g, off, cap, cur, _, _, _, h1, _, h2, rfl⟩
  · rfl
  · rw [List.length_take, List.length_drop]; omega
theorem Row.nil_ (w : World) (B : Nat) (e : TypeId) : Row w B e (.slice none 0 0) 0 [] := .inl ⟨rfl, rfl, rfl⟩
theorem Row.keep (h : Row w B e v n xs) (hk : ∀ g, v.ownBlock = some g → w'.heap[g]? = w.heap[g]?) : Row w' B e v n xs := by
  rcases h with h | ⟨g, off, cap, cur, rfl, h0, h1, h2⟩
  · exact .inl h
  · exact .inr ⟨g, off, cap, cur, rfl, h0, (hk g rfl).trans h1, h2⟩
theorem Row.lt (h : Row w B e v n xs) {g : Nat} (hg : v.ownBlock = some g) : B ≤ g ∧ g < w.heap.size ∧ ∃ cur, Blk w g cur e := by
  rcases h with ⟨rfl, _⟩ | ⟨g', off, cap, cur, rfl, h0, h1, _⟩
  · cases hg
  · cases hg
    exact ⟨h0, h1.lt, cur, h1⟩
theorem Row.stp {S : Nat → Prop} (h : Row w B e v n xs) (m : Stp S w w') (hb : ∀ g, v.ownBlock = some g → ¬ S g) : Row w' B e v n xs :=
  h.keep fun g hg => m.block g (h.lt hg).2.1 (hb g hg)
theorem Row.form (h : Row w B e v n xs) : ∃ A c, v = .slice A n c ∧ n ≤ c ∧ c ≤ maxLen := by
  rcases h with ⟨rfl, rfl, _⟩ | ⟨g, off, cap, cur, rfl, _, _, h1, h2, _⟩
  · exact ⟨none, 0, rfl, Nat.le_refl _, Nat.zero_le _⟩
  · exact ⟨_, cap, rfl, h1, h2⟩
theorem Row.form1 (h : Row w B e v n xs) (hn : 0 < n) : ∃ g off cap, v = .slice (some ⟨g, off, none⟩) n cap ∧ n ≤ cap ∧ cap ≤ maxLen ∧ B ≤ g := by
  rcases h with ⟨rfl, rfl, _⟩ | ⟨g, off, cap, cur, rfl, h0, _, h1, h2, _⟩
  · omega
  · exact ⟨g, off, cap, rfl, h1, h2, h0⟩
theorem Row.cell {g off c : Nat} (h : Row w B e (.slice (some ⟨g, off, none⟩) n c) n xs) {j : Nat} {u : Value} (hu : xs[j]? = some u) : w.cell? ⟨g, off + j, none⟩ = some u := by
  rcases h with ⟨h, _⟩ | ⟨g', off', cap, cur, hv, _, h1, h2, _, h3, rfl⟩
  · cases h
  · cases hv
    rw [List.getElem?_take] at hu
    split at hu
    · rw [List.getElem?_drop] at hu
      exact h1.cell hu
    · cases hu
theorem Row.frozen {g off c : Nat} (h : Row w B e (.slice (some ⟨g, off, none⟩) n c) n xs) (j : Nat) : w.frozen? ⟨g, j, none⟩ = false := by
  obtain ⟨_, _, cur, hb⟩ := h.lt (g := g) rfl
  exact hb.frozen j
/-- One element is written. -/
theorem Row.set {g off c : Nat} (h : Row w B e (.slice (some ⟨g, off, none⟩) n c) n xs) (j : Nat) (u : Value) : Row (w.setCell ⟨g, off + j, none⟩ u) B e (.slice (some ⟨g, off, none⟩) n c) n (xs.set j u) := by
  rcases h with ⟨h, _⟩ | ⟨g', off', cap, cur, hv, h0, h1, h2, h4, h3, rfl⟩
  · cases h
  · cases hv
    refine .inr ⟨g, off, c, _, rfl, h0, h1.set _ _, h2, h4, by rw [List.length_set]; exact h3, ?_⟩
    rw [List.drop_set, if_neg (by omega), Nat.add_sub_cancel_left, List.take_set]
/-- Fewer elements. -/
theorem Row.head {A : Option Addr} {c : Nat} (h : Row w B e (.slice A n c) n xs) (k : Nat) (hk : k ≤ n) : Row w B e (.slice A k c) k (xs.take k) := by
  rcases h with ⟨h, rfl, rfl⟩ | ⟨g', off', cap, cur, hv, h0, h1, h2, h4, h3, rfl⟩
  · cases h
    obtain rfl : k = 0 := by omega
    exact .inl ⟨rfl, rfl, rfl⟩
  · cases hv
    exact .inr ⟨g', off', c, cur, rfl, h0, h1, by omega, h4, h3, by rw [List.take_take, Nat.min_eq_left hk]⟩
end

section
variable {P : Program} (w : World)
theorem run_append_row (B : Nat) (t tx ty e : TypeId) (i : TypeInfo) (z : Value) (ht : P.underlying t = some (.slice e)) (hi : P.info? e = some i) (hz : i.zero = some z) (hs1 : i.size = 1) (hzs : z.cells.size = 1)
    (v : Value) (n : Nat) (xs : List Value) (hr : Row w B e v n xs) (x : Value) (m : Nat) (news : List Value) (hs : Src P 1 tx x m news w) (hb : (n + m) * i.bytes ≤ 140737488355328) (hm : n + m ≤ 100000000) (hB : B ≤ w.heap.size) :
    ∃ v' w', (Builtin.append_ #[t, tx] ty #[v, x]).run P w = .ok v' w' ∧ Row w' B e v' (n + m) (xs ++ news) ∧ Stp (fun b => v.ownBlock = some b) w w' ∧ (v'.ownBlock = v.ownBlock ∨ v'.ownBlock = some w.heap.size) := by
  have hs0 := hs
  rw [← hs1] at hs0
  have hnl : news.length = m := by simpa using hs.newsLen
  have hxl := hr.len
  have h63 : n + m ≤ maxLen := by simp only [maxLen]; omega
  have grown : ∀ (base : Option Addr) (cap : Nat) (hv : v = .slice base n cap) (hlt : cap < n + m) (hold : (Builtin.firstCells i.size n (.slice base n cap)).run P w.drew = .ok xs.toArray w.drew),
      ∃ v' w', (Builtin.append_ #[t, tx] ty #[v, x]).run P w = .ok v' w' ∧ Row w' B e v' (n + m) (xs ++ news) ∧ Stp (fun b => v.ownBlock = some b) w w' ∧ (v'.ownBlock = v.ownBlock ∨ v'.ownBlock = some w.heap.size) := by
    intro base cap hv hlt hold
    subst hv
    have hge := grownCap_ge w (n + m) cap e
    have hcm := grownCap_le_maxLen w (n + m) cap e h63
    refine ⟨_, _, run_append_grow_src w t tx ty e i z ht hi hz base n cap xs hold x m news hs0 hlt (by omega) (growslice_fits hlt hb), .inr ⟨w.heap.size, 0, _, (xs ++ news) ++ (Builtin.zeroCells z.cells (grownCap w (n + m) cap e - (n + m))).toList, rfl, hB, ?_, hge, hcm, ?_, ?_⟩, (Stp.drew _ w).trans (Stp.alloc _ w.drew _) (fun _ _ h => h), .inr rfl⟩
    · have e1 : ((xs ++ news).toArray ++ Builtin.zeroCells z.cells (grownCap w (n + m) cap e - (n + m))) = ((xs ++ news) ++ (Builtin.zeroCells z.cells (grownCap w (n + m) cap e - (n + m))).toList).toArray := by apply Array.ext'; simp
      rw [e1]
      exact Blk.new w.drew _ e
    · simp only [List.length_append, Array.length_toList, size_zeroCells, hzs]
      omega
    · rw [List.drop_zero]
      exact List.take_left' (by rw [List.length_append]; omega)
  rcases hr with ⟨rfl, rfl, rfl⟩ | ⟨g, off, cap, cur, rfl, h0, h1, h2, h3, h4, rfl⟩
  · by_cases hm0 : m = 0
    · subst hm0
      obtain rfl : news = [] := List.eq_nil_of_length_eq_zero hnl
      refine ⟨.slice none 0 0, w, ?_, .inl ⟨rfl, rfl, rfl⟩, Stp.refl _ _, .inl rfl⟩
      rcases hs.kind with ⟨e', hk⟩ | hk <;> simp [Builtin.append_, run_underlying ht, run_underlying hk, sizeOf, typeInfo, hi, hs0.len, hs0.cells]
    · exact grown none 0 rfl (by omega) (run_firstCells_none w.drew i.size 0 0 0)
  · by_cases hroom : n + m ≤ cap
    · have hst := run_storeCells_at P g (off + n) e news 0 cur.toArray w h1 (by simp; omega) hs.one
      simp only [Nat.add_zero] at hst
      refine ⟨.slice (some ⟨g, off, none⟩) (n + m) cap, w.setRow g (cur.take (off + n) ++ news ++ cur.drop (off + n + news.length)).toArray, ?_, .inr ⟨g, off, cap, _, rfl, h0, h1.row _, hroom, h3, ?_, ?_⟩, Stp.row (S := fun b => (Value.slice (some ⟨g, off, none⟩) n cap).ownBlock = some b) rfl _, .inl rfl⟩
      · rcases hs.kind with ⟨e', hk⟩ | hk <;> simp [Builtin.append_, run_underlying ht, run_underlying hk, sizeOf, typeInfo, hi, hs1, hs.len, hroom, hs.cells, Addr.add_lit, hst]
      · simp only [List.length_append, List.length_take, List.length_drop]; omega
      · have e1 : (cur.take (off + n) ++ news ++ cur.drop (off + n + news.length)).drop off = (cur.drop off).take n ++ news ++ cur.drop (off + n + news.length) := by
          rw [List.append_assoc, List.drop_append_of_le_length (by rw [List.length_take]; omega), List.drop_take, Nat.add_sub_cancel_left, List.append_assoc]
        rw [e1]
        exact List.take_left' (by simp only [List.length_append, List.length_take, List.length_drop]; omega)
    · refine grown (some ⟨g, off, none⟩) cap rfl (by omega) ?_
      refine run_firstCells_some w.drew i.size n ⟨g, off, none⟩ n cap _ (by rw [hs1, hxl, Nat.mul_one]) fun j u hu => ?_
      rw [add_plain0]
      exact Row.cell (w := w) (.inr ⟨g, off, cap, cur, rfl, h0, h1, h2, h3, h4, rfl⟩) hu
end
end Go.Proofs.YtigmdfdcflkggaaGreat
/-
  A log in memory; isNil, refusal, Marks, Len of it, and of no log; New. Conditions: none.
-/
namespace Go.Proofs.YtigmdfdcflkggaaGreat
open Go Go.RowKit Go.ChangeMaps

def ptrV (b : Nat) : Value := .pointer (some ⟨b, 0, none⟩)
/-- A function value as notes are. -/
def IsFn (v : Value) : Prop := ∃ (k : Nat) (cap : Array Value), v = .func (.func k) #[] cap
theorem Blk.ne {w : World} {a b : Nat} {cur cur' : List Value} {t t' : TypeId} (h : Blk w a cur t) (k : Blk w b cur' t') (ht : t ≠ t') : a ≠ b := fun e => by
  subst e
  have := h.symm.trans k
  simp only [Option.some.injEq, Obj.cells.injEq] at this
  exact ht this.2.1
theorem Row.ne {w : World} {B a : Nat} {e t : TypeId} {v : Value} {n : Nat} {xs cur : List Value} (h : Row w B e v n xs) (k : Blk w a cur t) (ht : e ≠ t) {g : Nat} (hg : v.ownBlock = some g) : g ≠ a := by
  obtain ⟨_, _, cur', hb⟩ := h.lt hg
  exact hb.ne k ht
theorem Row.ne2 {w : World} {B B' : Nat} {e t : TypeId} {v v' : Value} {n n' : Nat} {xs xs' : List Value} (h : Row w B e v n xs) (k : Row w B' t v' n' xs') (ht : e ≠ t) {g g' : Nat} (hg : v.ownBlock = some g) (hg' : v'.ownBlock = some g') : g ≠ g' := by
  obtain ⟨_, _, cur', hb⟩ := h.lt hg
  obtain ⟨_, _, cur2, hb2⟩ := k.lt hg'
  exact hb.ne hb2 ht

/-- A mark: its block, and how many notes there were, and how many counted. -/
structure Mk where
  blk : Nat
  notes : Nat
  count : Nat
def logC (most nest : Nat) (mv nv : Value) (c : Nat) : List Value := [.int .i64 (most : Int), .int .i64 (nest : Int), mv, nv, .int .i64 (c : Int)]
def mkC (m : Mk) (gone : Bool) : List Value := [.int .i64 (m.notes : Int), .int .i64 (m.count : Int), .bool gone]
structure LogR (w : World) (B lb most nest : Nat) (mv : Value) (ms : List Mk) (nv : Value) (fs : List Value) (c : Nat) : Prop where
  hB : B ≤ lb
  blk : Blk w lb (logC most nest mv nv c) 101
  mrow : Row w B 112 mv ms.length (ms.map fun m => ptrV m.blk)
  nrow : Row w B 1 nv fs.length fs
  mks : ∀ m ∈ ms, B ≤ m.blk ∧ Blk w m.blk (mkC m false) 114
  ap : (ms.map Mk.blk).Nodup
  nest1 : 1 ≤ nest
  nest2 : nest ≤ 1024
  most2 : most ≤ 1048576
  cp : c ≤ most
  mp : ms.length ≤ nest
  fc : fs.length ≤ c
  fn : ∀ v ∈ fs, IsFn v
  mc : ∀ m ∈ ms, m.notes ≤ m.count ∧ m.count ≤ most
/-- The types of the blocks that a log has. -/
def LogT (t : TypeId) : Prop := t = 101 ∨ t = 112 ∨ t = 1 ∨ t = 114
def LogAt (w : World) (B lb most nest : Nat) (ms : List Mk) (fs : List Value) (c : Nat) : Prop := ∃ mv nv, LogR w B lb most nest mv ms nv fs c

section
variable {w w' : World} {B lb most nest c : Nat} {mv nv : Value} {ms : List Mk} {fs : List Value}
/-- What keeps the blocks of a log's types keeps the log. -/
structure KeepL (w w' : World) : Prop where
  size : w.heap.size ≤ w'.heap.size
  keep : ∀ (b : Nat) (cur : Array Value) (t : TypeId) (f : Nat × Nat), w.heap[b]? = some (.cells cur t f) → LogT t → w'.heap[b]? = w.heap[b]?
theorem KeepL.blk (h : KeepL w w') {b : Nat} {cur : List Value} {t : TypeId} (k : Blk w b cur t) (ht : LogT t) : Blk w' b cur t := (h.keep b _ _ _ k ht).trans k
theorem KeepL.row (h : KeepL w w') {e : TypeId} {v : Value} {n : Nat} {xs : List Value} (k : Row w B e v n xs) (ht : LogT e) : Row w' B e v n xs := k.keep fun g hg => by
  obtain ⟨_, _, cur, hb⟩ := k.lt hg
  exact h.keep g _ _ _ hb ht
theorem LogR.keep (h : LogR w B lb most nest mv ms nv fs c) (k : KeepL w w') : LogR w' B lb most nest mv ms nv fs c :=
  { h with
    blk := k.blk h.blk (.inl rfl)
    mrow := k.row h.mrow (.inr (.inl rfl))
    nrow := k.row h.nrow (.inr (.inr (.inl rfl)))
    mks := fun m hm => ⟨(h.mks m hm).1, k.blk (h.mks m hm).2 (.inr (.inr (.inr rfl)))⟩ }
theorem LogAt.keep (h : LogAt w B lb most nest ms fs c) (k : KeepL w w') : LogAt w' B lb most nest ms fs c := by
  obtain ⟨mv, nv, h⟩ := h
  exact ⟨mv, nv, h.keep k⟩
theorem KeepL.drewN (w : World) (n : Nat) : KeepL w (w.drewN n) := ⟨Nat.le_refl _, fun _ _ _ _ _ _ => rfl⟩
theorem KeepL.alloc (w : World) (o : Obj) : KeepL w (w.alloc o) := ⟨by simp, fun b _ _ _ hb _ => Below.heap_alloc w o b (Array.getElem?_eq_some_iff.1 hb).1⟩
theorem KeepL.of_below (h : Below w.heap.size w w') : KeepL w w' := ⟨h.size, fun b _ _ _ hb _ => h.block b (Array.getElem?_eq_some_iff.1 hb).1⟩
theorem LogAt.lt (h : LogAt w B lb most nest ms fs c) : lb < w.heap.size := by obtain ⟨mv, nv, h⟩ := h; exact h.blk.lt

set_option maxRecDepth 100000 in
theorem isNil_no (h : LogR w B lb most nest mv ms nv fs c) :
    Calls Tryz.prog 77 #[ptrV lb] w fun e w' => e = .returned (.bool false) ∧ w' = w := by
  have c1 := h.blk.cell (i := 1) rfl
  have hlt := h.blk.lt
  have hn : ((nest : Int) == 0) = false := by have := h.nest1; rw [beq_eq_false_iff_ne]; omega
  unfold ptrV
  clear h
  go_enter Tryz.func77, Tryz.ntmps77
  go_wp2
  go_ret
  exact ⟨rfl, rfl⟩
set_option maxRecDepth 100000 in
theorem Marks_any (h : LogAt w B lb most nest ms fs c) :
    Calls Tryz.prog 16 #[ptrV lb] w fun e w' => e = .returned (.int .i64 (ms.length : Int)) ∧ w' = w := by
  obtain ⟨mv, nv, h⟩ := h
  have hi := isNil_no h
  obtain ⟨A, cc, rfl, hc, hcm⟩ := h.mrow.form
  have c2 := h.blk.cell (i := 2) rfl
  have hlt := h.blk.lt
  unfold ptrV at hi ⊢
  generalize ms.length = K at c2 hc
  clear h
  go_enter Tryz.func16, Tryz.ntmps16
  go_wp2_with fail
  refine hi.mono ?_
  rintro e w' ⟨rfl, hw⟩
  obtain rfl := hw.symm
  go_wp2
  go_ret
  exact ⟨rfl, rfl⟩
/-- What a note is refused with. -/
def refE (most : Nat) (ms : List Mk) (c : Nat) : Int := if ms ≠ [] ∧ c = most then 43 else 0
set_option maxRecDepth 100000 in
theorem refusal_any (h : LogAt w B lb most nest ms fs c) :
    Calls Tryz.prog 130 #[ptrV lb] w fun e w' => e = .returned (.int .i64 (refE most ms c)) ∧ ∃ n, w' = w.drewN n := by
  obtain ⟨mv, nv, h⟩ := h
  have hi := isNil_no h
  obtain ⟨A, cc, rfl, hc, hcm⟩ := h.mrow.form
  have c2 := h.blk.cell (i := 2) rfl
  have c4 := h.blk.cell (i := 4) rfl
  have c0 := h.blk.cell (i := 0) rfl
  have hlt := h.blk.lt
  unfold ptrV at hi ⊢
  clear h
  obtain ⟨E, hE⟩ : ∃ E, refE most ms c = E := ⟨_, rfl⟩
  rw [hE]
  unfold refE at hE
  cases ms with
  | nil =>
    simp only [ne_eq, not_true_eq_false, false_and, if_false] at hE
    subst hE
    simp only [List.length_nil] at c2 hc
    go_enter Tryz.func130, Tryz.ntmps130
    go_wp2_with fail
    refine hi.mono ?_
    rintro e w' ⟨rfl, hw⟩
    obtain rfl := hw.symm
    have hd : decide ((0 : Int) < ((0 : Nat) : Int)) = false := rfl
    go_wp2_with fail
    go_quiet (fail)
    go_wp2
    go_ret
    exact ⟨rfl, _, rfl⟩
  | cons m ms =>
    obtain ⟨K, hK⟩ : ∃ K, (m :: ms).length = K := ⟨_, rfl⟩
    have hK0 : 0 < K := by rw [← hK]; simp
    rw [hK] at c2 hc
    clear hK
    simp only [ne_eq, reduceCtorEq, not_false_eq_true, true_and] at hE
    have hd : decide (0 < K) = true := by simpa using hK0
    by_cases hcm' : c = most
    · rw [if_pos hcm'] at hE
      subst hE hcm'
      go_enter Tryz.func130, Tryz.ntmps130
      go_wp2_with fail
      refine hi.mono ?_
      rintro e w' ⟨rfl, hw⟩
      obtain rfl := hw.symm
      go_wp2_with fail
      go_quiet (fail)
      go_wp2
      go_ret
      exact ⟨rfl, _, rfl⟩
    · rw [if_neg hcm'] at hE
      subst hE
      have hne : ((c : Int) == (most : Int)) = false := by rw [beq_eq_false_iff_ne]; omega
      have hne2 : (c == most) = false := by rw [beq_eq_false_iff_ne]; omega
      go_enter Tryz.func130, Tryz.ntmps130
      go_wp2_with fail
      refine hi.mono ?_
      rintro e w' ⟨rfl, hw⟩
      obtain rfl := hw.symm
      go_wp2_with fail
      go_quiet (fail)
      go_wp2
      go_ret
      exact ⟨rfl, _, rfl⟩
end

set_option maxRecDepth 100000 in
theorem New_yes (most nest : Nat) (B : Nat) (w : World) (h1 : most ≤ 1048576) (h2 : 1 ≤ nest) (h3 : nest ≤ 1024) (hB : B ≤ w.heap.size) :
    Calls Tryz.prog 38 #[.int .i64 (most : Int), .int .i64 (nest : Int)] w fun e w' => e = .returned (.tuple #[ptrV w.heap.size, .int .i64 0]) ∧ LogAt w' B w.heap.size most nest [] [] 0 ∧ Below w.heap.size w w' ∧ w'.heap.size = w.heap.size + 1 := by
  have i1 : ¬ (most : Int) < 0 := by omega
  have i2 : ¬ 1048576 < (most : Int) := by omega
  have i3 : ¬ (nest : Int) < 1 := by omega
  have i4 : ¬ 1024 < (nest : Int) := by omega
  have hb : Blk (w.alloc (.cells #[.int .i64 (most : Int), .int .i64 (nest : Int), .slice none 0 0, .slice none 0 0, .int .i64 0] 101)) w.heap.size (logC most nest (.slice none 0 0) (.slice none 0 0) 0) 101 := Blk.new w _ _
  have hl : LogAt (w.alloc (.cells #[.int .i64 (most : Int), .int .i64 (nest : Int), .slice none 0 0, .slice none 0 0, .int .i64 0] 101)) B w.heap.size most nest [] [] 0 :=
    ⟨_, _, hB, hb, Row.nil_ _ _ _, Row.nil_ _ _ _, (fun _ h => by cases h), List.nodup_nil, h2, h3, h1, Nat.zero_le _, Nat.zero_le _, Nat.le_refl _, (fun _ h => by cases h), (fun _ h => by cases h)⟩
  replace hl := Lib.hid hl
  clear hb h1 h2 h3
  unfold ptrV
  go_enter Tryz.func38, Tryz.ntmps38
  go_wp2
  go_ret2
  exact ⟨rfl, hl.out, (Below.refl _ w).alloc (Nat.le_refl _) _, by simp⟩
end Go.Proofs.YtigmdfdcflkggaaGreat
/-
  Note: where there is no log, where there is no room, of nothing, without a mark, and else. Conditions: none.
-/
namespace Go.Proofs.YtigmdfdcflkggaaGreat
open Go Go.RowKit Go.ChangeMaps

section
variable {P : Program} {w : World}
theorem wpList_append_of {ops : Array Oper} {rest : List Oper} {o : Oper} {a : Act} {Q : Exit → Act → World → Prop} (hgd : o.guard = none) (s x : Operand) (t tx : TypeId)
    (ho : o.op = .call { callee := .builtin .append, args := #[s, x], argTypes := #[t, tx] }) (v y r : Value) (w1 : World) (hs : a.eval s = v) (hx : a.eval x = y)
    (hrun : (Builtin.append_ #[t, tx] o.type #[v, y]).run P w = .ok r w1) (h : wpList P ops Q rest (a.put o.dst r) w1) : wpList P ops Q (o :: rest) a w :=
  wpList_plain hgd fun _ hK => by
    unfold Oper.wp execOp
    simp only [ho, resolve, invoke, builtin, Sem.run_bind, Sem.run_pure, Result.andThen_ok, List.map_toArray, List.map_cons, List.map_nil, hs, hx, hrun]
    exact hK _ _ h
theorem wp_append_of {o : Oper} {a : Act} {K : Act → World → Prop} {Q : Exit → Act → World → Prop} (s x : Operand) (t tx : TypeId)
    (ho : o.op = .call { callee := .builtin .append, args := #[s, x], argTypes := #[t, tx] }) (v y r : Value) (w1 : World) (hs : a.eval s = v) (hx : a.eval x = y)
    (hrun : (Builtin.append_ #[t, tx] o.type #[v, y]).run P w = .ok r w1) (h : K (a.put o.dst r) w1) : o.wp P a w K Q := by
  unfold Oper.wp execOp
  simp only [ho, resolve, invoke, builtin, Sem.run_bind, Sem.run_pure, Result.andThen_ok, List.map_toArray, List.map_cons, List.map_nil, hs, hx, hrun]
  exact h
end
theorem info_parts {P : Program} {t : TypeId} {z : Value} {s b : Nat} (h : (P.info? t).map (fun i => (i.zero, i.size, i.bytes)) = some (some z, s, b)) : ∃ i, P.info? t = some i ∧ i.zero = some z ∧ i.size = s ∧ i.bytes = b := by
  cases hi : P.info? t with
  | none => rw [hi] at h; cases h
  | some i =>
    rw [hi] at h
    simp only [Option.map_some, Option.some.injEq, Prod.mk.injEq] at h
    exact ⟨i, rfl, h.1, h.2.1, h.2.2⟩
theorem infoFn : (Tryz.prog.info? 1).map (fun i => (i.zero, i.size, i.bytes)) = some (some .nilFunc, 1, 8) := by kernel_rfl
theorem infoMk : (Tryz.prog.info? 112).map (fun i => (i.zero, i.size, i.bytes)) = some (some (.pointer none), 1, 8) := by kernel_rfl
theorem fn_eql_nil (k : Nat) (cap : Array Value) (w : World) : (binOp BinOp.eql 1 (.func (.func k) #[] cap) .nilFunc).run Tryz.prog w = .ok (.bool false) w := by kernel_rfl
theorem set3L (most nest : Nat) (mv nv nv' : Value) (c : Nat) : (logC most nest mv nv c).set 3 nv' = logC most nest mv nv' c := rfl
theorem set4L (most nest : Nat) (mv nv : Value) (c c' : Nat) : (logC most nest mv nv c).set 4 (.int .i64 (c' : Int)) = logC most nest mv nv c' := rfl
theorem set2L (most nest : Nat) (mv mv' nv : Value) (c : Nat) : (logC most nest mv nv c).set 2 mv' = logC most nest mv' nv c := rfl

section
variable {w w' : World} {B lb most nest c : Nat} {mv nv : Value} {ms : List Mk} {fs : List Value}
set_option maxRecDepth 100000 in
theorem Note_full (back : Value) (h : LogAt w B lb most nest ms fs c) (hE : refE most ms c = 43) :
    Calls Tryz.prog 126 #[ptrV lb, back] w fun e w' => e = .returned (.int .i64 43) ∧ ∃ n, w' = w.drewN n := by
  have hr := refusal_any h
  rw [hE] at hr
  unfold ptrV at hr ⊢
  clear h hE
  go_enter Tryz.func126, Tryz.ntmps126
  go_wp2_with fail
  refine hr.mono ?_
  rintro e w' ⟨rfl, n, rfl⟩
  go_wp2
  go_ret
  exact ⟨rfl, _, rfl⟩
set_option maxRecDepth 100000 in
theorem Note_none (k : Nat) (cap : Array Value) (h : LogAt w B lb most nest [] fs c) :
    Calls Tryz.prog 126 #[ptrV lb, .func (.func k) #[] cap] w fun e w' => e = .returned (.int .i64 0) ∧ ∃ n, w' = w.drewN n := by
  have hr := refusal_any h
  rw [show refE most [] c = 0 from if_neg (by simp)] at hr
  obtain ⟨mv, nv, h⟩ := h
  obtain ⟨A, cc, rfl, hc, hcm⟩ := h.mrow.form
  simp only [List.length_nil] at hc
  have c2 := h.blk.cell (i := 2) rfl
  simp only [List.length_nil] at c2
  have hlt := h.blk.lt
  unfold ptrV at hr ⊢
  have hnn := fn_eql_nil k cap
  clear h
  go_enter Tryz.func126, Tryz.ntmps126
  go_wp2_with fail
  refine hr.mono ?_
  rintro e w' ⟨rfl, n, rfl⟩
  go_wp2
  go_ret
  exact ⟨rfl, _, rfl⟩
set_option maxRecDepth 100000 in
set_option maxHeartbeats 1000000 in
theorem Note_add (k : Nat) (cap : Array Value) (h : LogAt w B lb most nest ms fs c) (hms : ms ≠ []) (hcm : c < most) (hBw : B ≤ w.heap.size) :
    Calls Tryz.prog 126 #[ptrV lb, .func (.func k) #[] cap] w fun e w' => e = .returned (.int .i64 0) ∧ LogAt w' B lb most nest ms (fs ++ [.func (.func k) #[] cap]) (c + 1) ∧ Fr B LogT (fun _ => False) w w' := by
  have hr := refusal_any h
  rw [show refE most ms c = 0 from if_neg (by omega)] at hr
  have hK0 : 0 < ms.length := by cases ms with | nil => exact absurd rfl hms | cons => simp
  replace h : ∀ n, LogAt (w.drewN n) B lb most nest ms fs c := fun n => h.keep (KeepL.drewN w n)
  have hnn := fn_eql_nil k cap
  obtain ⟨i0, hi, hz0, hz1, hz2⟩ := info_parts infoFn
  unfold ptrV at hr ⊢
  replace h := Lib.hid h
  clear hms
  go_enter Tryz.func126, Tryz.ntmps126
  go_wp2_with fail
  refine hr.mono ?_
  rintro e w1 ⟨rfl, n, hw1⟩
  obtain ⟨mv, nv, h1⟩ := h.out n
  have hf1 : Fr B LogT (fun _ => False) w (w.drewN n) := Fr.drewN _ _ _ _ _
  have hBw1 : B ≤ (w.drewN n).heap.size := hBw
  rw [← hw1] at h1 hf1 hBw1
  clear hw1 hr h hBw
  obtain ⟨A, cc, rfl, hc, hcm1⟩ := h1.mrow.form
  obtain ⟨A2, cc2, rfl, hc2, hcm2⟩ := h1.nrow.form
  have c2 := h1.blk.cell (i := 2) rfl
  have c3 := h1.blk.cell (i := 3) rfl
  have c4 := h1.blk.cell (i := 4) rfl
  have f3 := h1.blk.frozen 3
  have hlt := h1.blk.lt
  have hml := h1.most2
  have hcp := h1.cp
  have hfc := h1.fc
  have hL1 := h1
  obtain ⟨KM, hKM⟩ : ∃ K, ms.length = K := ⟨_, rfl⟩
  obtain ⟨KF, hKF⟩ : ∃ K, fs.length = K := ⟨_, rfl⟩
  rw [hKM] at c2 hc hK0
  rw [hKF] at c3 hc2 hfc
  have hd : decide (0 < KM) = true := by simpa using hK0
  replace hKM := Lib.hid hKM
  -- the row of notes
  have hb2 : Blk (w1.alloc (.cells #[.func (.func k) #[] cap] 1)) w1.heap.size [.func (.func k) #[] cap] 1 := Blk.new w1 _ _
  have hL2 := hL1.keep (KeepL.alloc w1 (.cells #[.func (.func k) #[] cap] 1))
  obtain ⟨nv', w3, hrun, hrow, hst, how⟩ := run_append_row (P := Tryz.prog) (w1.alloc (.cells #[.func (.func k) #[] cap] 1)) B 99 99 99 1 i0 _ Tryz.underlying99 hi hz0 hz1 rfl (.slice A2 fs.length cc2) fs.length fs hL2.nrow (.slice (some ⟨w1.heap.size, 0, none⟩) 1 1) 1 [.func (.func k) #[] cap]
    (Src.ofSlice _ Tryz.underlying99 _ 1 1 _ rfl (fun j u hu => by rw [add_plain0, Nat.zero_add]; exact hb2.cell hu) (by simp [Value.oneCell'])) (by rw [hz2, hKF]; omega) (by rw [hKF]; omega) (by simp; omega)
  rw [hKF] at hrun hrow hst how
  obtain ⟨A3, cc3, rfl, hc3, hcm3⟩ := hrow.form
  have hne : ∀ g, (Value.slice A2 KF cc2).ownBlock = some g → g ≠ lb := fun g hg => Row.ne hL2.nrow hL2.blk (by decide) (by rw [hKF]; exact hg)
  have hb3 : Blk w3 lb _ _ := hL2.blk.stp hst fun e => hne lb e rfl
  have hst3 := (Stp.alloc (fun b => (Value.slice A2 KF cc2).ownBlock = some b) w1 (.cells #[.func (.func k) #[] cap] 1)).trans hst (fun _ _ h => h)
  have hne3 : ∀ g, (Value.slice A3 (KF + 1) cc3).ownBlock = some g → g ≠ lb := fun g hg => Row.ne hrow hb3 (by decide) hg
  have hb4 := hb3.set 3 (.slice A3 (KF + 1) cc3)
  rw [set3L] at hb4
  have hb5 := hb4.set 4 (.int .i64 ((c + 1 : Nat) : Int))
  rw [set4L] at hb5
  have hS : Stp (fun b => b = lb ∨ (Value.slice A2 KF cc2).ownBlock = some b) w1 ((w3.setCell ⟨lb, 3, none⟩ (.slice A3 (KF + 1) cc3)).setCell ⟨lb, 4, none⟩ (.int .i64 ((c + 1 : Nat) : Int))) :=
    ((hst3.mono (S' := fun b => b = lb ∨ (Value.slice A2 KF cc2).ownBlock = some b) (fun _ _ h => .inr h)).trans (Stp.set (S := fun b => b = lb) rfl 3 _) (fun _ _ h => .inl h)).trans (Stp.set (S := fun b => b = lb) rfl 4 _) (fun _ _ h => .inl h)
  have hfr := hf1.trans (Fr.of_stp (B := B) (T := LogT) (M := fun _ => False) hS (by
    intro b _ hb
    rcases hb with rfl | hb
    · exact ⟨hL1.hB, .inr ⟨_, _, _, hL1.blk, .inl rfl⟩⟩
    · obtain ⟨h1, _, cur, h2⟩ := hL1.nrow.lt (by rw [hKF]; exact hb)
      exact ⟨h1, .inr ⟨_, _, _, h2, .inr (.inr (.inl rfl))⟩⟩))
  have hrow5 := ((hrow.keep (w' := (w3.setCell ⟨lb, 3, none⟩ (.slice A3 (KF + 1) cc3)).setCell ⟨lb, 4, none⟩ (.int .i64 ((c + 1 : Nat) : Int))) fun g hg => (heap_setCell_other _ _ g _ (hne3 g hg)).trans (heap_setCell_other w3 _ g _ (hne3 g hg))))
  have hmr5 : Row _ B 112 _ _ _ := hL1.mrow.stp hS (fun g hg hb => by
    rcases hb with hb | hb
    · exact Row.ne hL1.mrow hL1.blk (by decide) hg hb
    · exact Row.ne2 hL1.mrow hL1.nrow (by decide) hg (by rw [hKF]; exact hb) rfl)
  have hmk5 : ∀ m ∈ ms, B ≤ m.blk ∧ Blk _ m.blk (mkC m false) 114 := fun m hm => ⟨(hL1.mks m hm).1, (hL1.mks m hm).2.stp hS (fun hb => by
    rcases hb with hb | hb
    · exact (hL1.mks m hm).2.ne hL1.blk (by decide) hb
    · exact Row.ne hL1.nrow (hL1.mks m hm).2 (by decide) (by rw [hKF]; exact hb) rfl)⟩
  have hlog : LogAt ((w3.setCell ⟨lb, 3, none⟩ (.slice A3 (KF + 1) cc3)).setCell ⟨lb, 4, none⟩ (.int .i64 ((c + 1 : Nat) : Int))) B lb most nest ms (fs ++ [.func (.func k) #[] cap]) (c + 1) :=
    ⟨_, _, hL1.hB, hb5, hmr5, (by rw [List.length_append, hKF]; exact hrow5), hmk5, hL1.ap, hL1.nest1, hL1.nest2, hL1.most2, (by omega), hL1.mp, (by rw [List.length_append, hKF]; simp; omega), (fun v hv => by
      rcases List.mem_append.1 hv with hv | hv
      · exact hL1.fn v hv
      · rw [List.mem_singleton.1 hv]; exact ⟨k, cap, rfl⟩), hL1.mc⟩
  have d3 := hb3.cell (i := 3) rfl
  have g3 := hb3.frozen 3
  have d4 := hb4.cell (i := 4) rfl
  have g4 := hb4.frozen 4
  have hl3 := hb3.lt
  have hl4 := hb4.lt
  replace hlog := Lib.hid hlog
  replace hfr := Lib.hid hfr
  replace hrun := Lib.hid hrun
  clear hmk5 hmr5 hrow5 hS hb5 hb4 hne3 hst3 hb3 hne how hst hrow hL2 hb2 hL1 h1 hf1 hi hz0 hz1 hz2 hKF
  go_wp2_with (at_builtin; refine wpList_append_of rfl _ _ 99 99 rfl _ _ _ w3 rfl rfl hrun.out ?_)
  go_ret
  exact ⟨rfl, hlog.out, hfr.out⟩
end
end Go.Proofs.YtigmdfdcflkggaaGreat
/-
  A region that draws its order, whose last operation comes behind all others and writes a cell that the region loads: a condition on the world is held behind every operation but that one.
-/
namespace Go.Proofs.YtigmdfdcflkggaaGreat
open Go

section
variable {P : Program} {ops : Array Oper} {Q : Exit → Act → World → Prop} {md : Region.Mode} {S : World → Prop} {L : Nat}

/-- Whatever order is picked, and S holds behind every operation but number L. -/
def wpAnyT (P : Program) (md : Region.Mode) (ops : Array Oper) (Q : Exit → Act → World → Prop) (S : World → Prop) (L : Nat) : Nat → Array Bool → Act → World → Prop
  | 0, listed, a, w => Region.ready md ops listed = [] ∧ Q .normal a w
  | fuel + 1, listed, a, w =>
    (Region.ready md ops listed = [] → Q .normal a w) ∧
    ∀ i ∈ Region.ready md ops listed, wpOp P ops Q i (fun a' w' => (i ≠ L → S w') ∧ wpAnyT P md ops Q S L fuel (listed.setIfInBounds i true) a' w') a w

theorem wpAny_of_T : ∀ (fuel : Nat) (listed : Array Bool) (a : Act) (w : World), wpAnyT P md ops Q S L fuel listed a w → wpAny P md ops Q fuel listed a w
  | 0, _, _, _, h => h
  | fuel + 1, _, _, _, h => ⟨h.1, fun i hi => wpOp_mono (fun a' w' h' => wpAny_of_T fuel _ a' w' h'.2) (h.2 i hi)⟩

/-- Operation L waits for operation i. -/
def waitsFor (md : Region.Mode) (ops : Array Oper) (L i : Nat) : Bool := ((ops[L]?).map fun o => o.after.any fun e => Region.binds md e && e.on == i).getD false

theorem unlisted_false {listed : Array Bool} {i : Nat} (h : listed.getD i true = false) : listed.getD i false = false := by
  rcases Nat.lt_or_ge i listed.size with h' | h'
  · simpa [h'] using h
  · simp [Array.getElem?_eq_none h'] at h

/-- The one operation that may come up; behind it S anew, unless it is the last. -/
theorem wpAnyT_one {i : Nat} {o : Oper} {fuel : Nat} {listed : Array Bool} {a : Act} {w : World} (ho : ops[i]? = some o) (hr : Region.ready md ops listed = [i]) (hg : o.guard = none)
    (h : o.wp P a w (fun a' w' => (i ≠ L → S w') ∧ wpAnyT P md ops Q S L fuel (listed.setIfInBounds i true) a' w') Q) : wpAnyT P md ops Q S L (fuel + 1) listed a w := by
  refine ⟨fun h0 => (by rw [hr] at h0; cases h0), fun j hj => ?_⟩
  rw [hr, List.mem_singleton] at hj
  subst hj
  unfold wpOp
  simp only [ho, Region.wanted, hg, if_true]
  exact .inl h

theorem wpAnyT_done {listed : Array Bool} {a : Act} {w : World} (hr : Region.ready md ops listed = []) (h : Q .normal a w) : ∀ fuel, wpAnyT P md ops Q S L fuel listed a w
  | 0 => ⟨hr, h⟩
  | _ + 1 => ⟨fun _ => h, by rw [hr]; simp⟩

theorem wp_region_last {id : Nat} {a : Act} {w : World} (hm : P.follows .mixedOrders = true)
    (h : wpAnyT P .any ops Q S L ops.size (Array.replicate ops.size false) a w.drew) : (Code.region id ops true).wp P Q a w :=
  wp_region_any hm (wpAny_of_T _ _ _ _ h)
end
end Go.Proofs.YtigmdfdcflkggaaGreat
/-
  A region whose last operation waits for each other one, be it by way of others.
-/
namespace Go.Proofs.YtigmdfdcflkggaaGreat
open Go

section
variable {P : Program} {ops : Array Oper} {Q : Exit → Act → World → Prop} {md : Region.Mode} {S : World → Prop} {L : Nat}

/-- Operation L waits for operation i, be it by way of others. -/
def waitsT (md : Region.Mode) (ops : Array Oper) : Nat → Nat → Nat → Bool
  | 0, _, _ => false
  | n + 1, L, i => waitsFor md ops L i || ((ops[L]?).map fun o => o.after.any fun e => Region.binds md e && waitsT md ops n e.on i).getD false
/-- What is listed has all listed that it waits for. -/
def Closed (md : Region.Mode) (ops : Array Oper) (listed : Array Bool) : Prop :=
  ∀ j o, ops[j]? = some o → listed.getD j false = true → ∀ e ∈ o.after, Region.binds md e = true → listed.getD e.on false = true
def closedB (md : Region.Mode) (ops : Array Oper) (listed : Array Bool) : Bool :=
  (List.range ops.size).all fun j => ((ops[j]?).map fun o => !(listed.getD j false) || o.after.all fun e => !(Region.binds md e) || listed.getD e.on false).getD true

theorem closed_of {listed : Array Bool} (h : closedB md ops listed = true) : Closed md ops listed := by
  intro j o ho hl e he hb
  have hj : j < ops.size := (Array.getElem?_eq_some_iff.1 ho).1
  have h1 := List.all_eq_true.1 h j (List.mem_range.2 hj)
  simp only [ho, Option.map_some, Option.getD_some, hl, Bool.not_true, Bool.false_or, Array.all_eq_true] at h1
  obtain ⟨k, hk, rfl⟩ := Array.mem_iff_getElem.1 he
  have := h1 k hk
  rw [hb] at this
  simpa using this
theorem getD_set_self {listed : Array Bool} {j : Nat} (h : j < listed.size) (d : Bool) : (listed.setIfInBounds j true).getD j d = true := by simp [h]
theorem closed_set {listed : Array Bool} {j : Nat} (hc : Closed md ops listed) (hj : j ∈ Region.ready md ops listed) : Closed md ops (listed.setIfInBounds j true) := by
  intro k o ho hl e he hb
  have hup : ∀ m, listed.getD m false = true → (listed.setIfInBounds j true).getD m false = true := fun m hm => by
    by_cases hjm : j = m
    · subst hjm
      have hlt : j < listed.size := by
        rcases Nat.lt_or_ge j listed.size with h' | h'
        · exact h'
        · simp [Array.getElem?_eq_none h'] at hm
      exact getD_set_self hlt false
    · rw [getD_set_ne false hjm]; exact hm
  by_cases hjk : j = k
  · subst hjk
    obtain ⟨_, o', ho', hall⟩ := mem_ready.1 hj
    rw [ho] at ho'
    cases ho'
    exact hup _ (hall e he hb)
  · rw [getD_set_ne false hjk] at hl
    exact hup _ (hc k o ho hl e he hb)
theorem waitsFor_mem {L i : Nat} {o : Oper} (ho : ops[L]? = some o) (hw : waitsFor md ops L i = true) : ∃ e ∈ o.after, Region.binds md e = true ∧ e.on = i := by
  simp only [waitsFor, ho, Option.map_some, Option.getD_some, Array.any_eq_true] at hw
  obtain ⟨k, hk, he⟩ := hw
  simp only [Bool.and_eq_true, beq_iff_eq] at he
  exact ⟨_, Array.getElem_mem hk, he.1, he.2⟩
theorem listed_of_waits {listed : Array Bool} (hc : Closed md ops listed) {i : Nat} : ∀ (n j : Nat), waitsT md ops n j i = true → (∀ o, ops[j]? = some o → ∀ e ∈ o.after, Region.binds md e = true → listed.getD e.on false = true) → listed.getD i false = true
  | 0, _, h, _ => by simp [waitsT] at h
  | n + 1, j, h, hall => by
    cases ho : ops[j]? with
    | none => simp [waitsT, waitsFor, ho] at h
    | some o =>
      rw [waitsT, Bool.or_eq_true] at h
      rcases h with h | h
      · obtain ⟨e, he, hb, rfl⟩ := waitsFor_mem ho h
        exact hall o ho e he hb
      · simp only [ho, Option.map_some, Option.getD_some, Array.any_eq_true] at h
        obtain ⟨k, hk, he⟩ := h
        simp only [Bool.and_eq_true] at he
        have hl := hall o ho _ (Array.getElem_mem hk) he.1
        exact listed_of_waits hc n _ he.2 (fun o' ho' e' he' hb' => hc _ o' ho' hl e' he' hb')
theorem not_ready_lastT {listed : Array Bool} {i n : Nat} (hc : Closed md ops listed) (hw : waitsT md ops n L i = true) (hi : listed.getD i false = false) : L ∉ Region.ready md ops listed := by
  intro h
  obtain ⟨_, o, ho, hall⟩ := mem_ready.1 h
  have := listed_of_waits hc n L hw (fun o' ho' e he hb => by rw [ho] at ho'; cases ho'; exact hall e he hb)
  rw [hi] at this
  cases this

theorem wpAnyT_firstT {i n : Nat} {oi : Oper} {v : Value} (hi : ops[i]? = some oi) (hsel : ∀ (j : Nat) (o : Oper) cs b, ops[j]? = some o → o.op ≠ .select cs b)
    (hQ : ∀ c a w, Q (.panic c) (a.put oi.dst v) w → Q (.panic c) a w) (hL : waitsT md ops n L i = true) :
    ∀ (fuel : Nat) (listed : Array Bool) (a : Act) (w : World), Closed md ops listed →
      (∀ j oj, ops[j]? = some oj → j ≠ i → listed.getD j true = false → (∀ e ∈ oj.after, Region.binds md e = true → e.on ≠ i) → oi.apart ops oj = true) →
      i ∈ Region.ready md ops listed → YieldsIf P ops S oi v a → S w →
      wpAnyT P md ops Q S L fuel (listed.setIfInBounds i true) (a.put oi.dst v) w → wpAnyT P md ops Q S L (fuel + 1) listed a w := by
  intro fuel
  induction fuel with
  | zero =>
    intro listed a w _ _ hr hy hS H
    refine ⟨fun h => (by rw [h] at hr; cases hr), fun j hj => ?_⟩
    by_cases hji : j = i
    · subst hji; exact hy.wpOp hi hS ⟨fun _ => hS, H⟩
    · have := ready_mono hj hji
      rw [H.1] at this
      cases this
  | succ fuel ih =>
    intro listed a w hc hfree hr hy hS H
    refine ⟨fun h => (by rw [h] at hr; cases hr), fun j hj => ?_⟩
    by_cases hji : j = i
    · subst hji; exact hy.wpOp hi hS ⟨fun _ => hS, H⟩
    · have hjL : j ≠ L := by
        rintro rfl
        exact not_ready_lastT hc hL (unlisted_false (mem_ready.1 hr).1) hj
      have h1 := H.2 j (ready_mono hj hji)
      obtain ⟨hjun, oj, hoj, hall⟩ := mem_ready.1 hj
      have hnot : ∀ e ∈ oj.after, Region.binds md e = true → e.on ≠ i := fun e he hb heq => by
        have h2 := hall e he hb
        rw [heq, unlisted_false (mem_ready.1 hr).1] at h2
        cases h2
      have h2 := wpOp_putIf hoj (hfree j oj hoj hji hjun hnot) (fun cs b => hsel i oi cs b hi) (fun cs b => hsel j oj cs b hoj) hQ hy h1
      have hfree' : ∀ k ok, ops[k]? = some ok → k ≠ i → (listed.setIfInBounds j true).getD k true = false →
          (∀ e ∈ ok.after, Region.binds md e = true → e.on ≠ i) → oi.apart ops ok = true := fun k ok hk hki hun hno => by
        refine hfree k ok hk hki ?_ hno
        by_cases hjk : j = k
        · subst hjk; exact hjun
        · rw [getD_set_ne true hjk] at hun; exact hun
      refine wpOp_mono (fun a' w' h3 => ⟨h3.2.1, ih (listed.setIfInBounds j true) a' w' (closed_set hc hj) hfree' (ready_mono hr (Ne.symm hji)) h3.1 (h3.2.1 hjL) ?_⟩) h2
      rw [Array.setIfInBounds_comm _ _ hji]
      exact h3.2.2

theorem wpAnyT_takeT {i n : Nat} {oi : Oper} {v : Value} {fuel : Nat} {listed : Array Bool} {a : Act} {w : World} (hi : ops[i]? = some oi)
    (hs : Region.noSelect ops = true) (hf : Region.free md ops listed i = true) (hr : (Region.ready md ops listed).contains i = true) (hL : waitsT md ops n L i = true) (hc : closedB md ops listed = true)
    (hQ : ∀ c a w, Q (.panic c) (a.put oi.dst v) w → Q (.panic c) a w) (hy : YieldsIf P ops S oi v a) (hS : S w)
    (h : wpAnyT P md ops Q S L fuel (listed.setIfInBounds i true) (a.put oi.dst v) w) : wpAnyT P md ops Q S L (fuel + 1) listed a w :=
  wpAnyT_firstT hi (Region.noSelect_spec hs) hQ hL fuel listed a w (closed_of hc) (Region.free_spec hi hf) (by simpa using hr) hy hS h
end
end Go.Proofs.YtigmdfdcflkggaaGreat
/-
  Mark: where there is no log, where no mark more may be, and else. Conditions: none.
-/
namespace Go.Proofs.YtigmdfdcflkggaaGreat
open Go Go.RowKit Go.ChangeMaps

section
variable {w w' : World} {B lb most nest c : Nat} {mv nv : Value} {ms : List Mk} {fs : List Value}
set_option maxRecDepth 100000 in
theorem Mark_full (h : LogAt w B lb most nest ms fs c) (hn : ms.length = nest) :
    Calls Tryz.prog 19 #[ptrV lb] w fun e w' => e = .returned (.tuple #[.int .i64 0, .int .i64 42]) ∧ ∃ n, w' = w.drewN n := by
  obtain ⟨mv, nv, h⟩ := h
  have hi := isNil_no h
  obtain ⟨A, cc, rfl, hc, hcm⟩ := h.mrow.form
  have c2 := h.blk.cell (i := 2) rfl
  have c1 := h.blk.cell (i := 1) rfl
  have hlt := h.blk.lt
  rw [hn] at c2
  unfold ptrV at hi ⊢
  clear h hn hc
  go_enter Tryz.func19, Tryz.ntmps19
  go_wp2_with fail
  refine hi.mono ?_
  rintro e w' ⟨rfl, hw⟩
  obtain rfl := hw.symm
  go_wp2_with fail
  go_quiet (fail)
  go_wp2
  go_ret2
  exact ⟨rfl, _, rfl⟩
set_option maxRecDepth 100000 in
set_option maxHeartbeats 2000000 in
theorem Mark_add (h : LogAt w B lb most nest ms fs c) (hn : ms.length < nest) (hBw : B ≤ w.heap.size) :
    Calls Tryz.prog 19 #[ptrV lb] w fun e w' => e = .returned (.tuple #[.int .i64 ((ms.length + 1 : Nat) : Int), .int .i64 0]) ∧
      (∃ b, LogAt w' B lb most nest (ms ++ [⟨b, fs.length, c⟩]) fs c) ∧ Fr B LogT (fun _ => False) w w' := by
  replace h : ∀ n, LogAt (w.drewN n) B lb most nest ms fs c := fun n => h.keep (KeepL.drewN w n)
  obtain ⟨i0, hi0, hz0, hz1, hz2⟩ := info_parts infoMk
  obtain ⟨mv0, nv0, h0⟩ := h 0
  have hi : Calls Tryz.prog 77 #[ptrV lb] w fun e w' => e = .returned (.bool false) ∧ w' = w := isNil_no h0
  obtain ⟨A0, cc0, rfl, hc0, _⟩ := h0.mrow.form
  have c2 : w.cell? ⟨lb, 2, none⟩ = some _ := h0.blk.cell (i := 2) rfl
  have c1 : w.cell? ⟨lb, 1, none⟩ = some _ := h0.blk.cell (i := 1) rfl
  have hlt : lb < w.heap.size := h0.blk.lt
  unfold ptrV at hi ⊢
  obtain ⟨KM, hKM⟩ : ∃ K, ms.length = K := ⟨_, rfl⟩
  obtain ⟨KF, hKF⟩ : ∃ K, fs.length = K := ⟨_, rfl⟩
  rw [hKM] at c2 hn ⊢
  rw [hKF]
  have hne : ((KM : Int) == (nest : Int)) = false := by rw [beq_eq_false_iff_ne]; omega
  have hne2 : (KM == nest) = false := by rw [beq_eq_false_iff_ne]; omega
  replace h := Lib.hid h
  replace hKM := Lib.hid hKM
  replace hKF := Lib.hid hKF
  clear h0 hc0
  go_enter Tryz.func19, Tryz.ntmps19
  go_wp2_with fail
  refine hi.mono ?_
  rintro e w' ⟨rfl, hw⟩
  obtain rfl := hw.symm
  go_wp2_with fail
  go_quiet (fail)
  go_wp2_with fail
  replace hKM := hKM.out
  replace hKF := hKF.out
  obtain ⟨w0, hw0⟩ : ∃ w1, w.drewN nq = w1 := ⟨_, rfl⟩
  obtain ⟨mv, nv, h1⟩ := h.out (nq + 1)
  have hf1 : Fr B LogT (fun _ => False) w (w.drewN (nq + 1)) := Fr.drewN _ _ _ _ _
  have hBw1 : B ≤ (w.drewN (nq + 1)).heap.size := hBw
  obtain ⟨w1, hw1⟩ : ∃ w1, w0.drew = w1 := ⟨_, rfl⟩
  have hw2 : w.drewN (nq + 1) = w1 := by rw [← hw1, ← hw0]; rfl
  rw [hw0]
  rw [hw2] at h1 hf1 hBw1
  replace hw1 := Lib.hid hw1
  clear hw0 hw2
  clear hi h hBw c1 c2 hlt hne hne2
  obtain ⟨A, cc, rfl, hc, hcm1⟩ := h1.mrow.form
  obtain ⟨A2, cc2, rfl, hc2, hcm2⟩ := h1.nrow.form
  have c2 := h1.blk.cell (i := 2) rfl
  have c3 := h1.blk.cell (i := 3) rfl
  have c4 := h1.blk.cell (i := 4) rfl
  have hlt := h1.blk.lt
  have hL1 := h1
  have hn2 := h1.nest2
  rw [hKM] at c2 hc
  rw [hKF] at c3 hc2
  obtain ⟨z, hz⟩ : ∃ z, w1.heap.size = z := ⟨_, rfl⟩
  -- the mark's block
  have hb2 : Blk (w1.alloc (.cells #[.int .i64 (KF : Int), .int .i64 (c : Int), .bool false] 114)) z (mkC ⟨z, KF, c⟩ false) 114 := by rw [← hz]; exact Blk.new w1 _ _
  have hL2 := hL1.keep (KeepL.alloc w1 (.cells #[.int .i64 (KF : Int), .int .i64 (c : Int), .bool false] 114))
  have hs2 : (w1.alloc (.cells #[.int .i64 (KF : Int), .int .i64 (c : Int), .bool false] 114)).heap.size = z + 1 := by simp [hz]
  have hst2 := Stp.alloc (fun _ => False) w1 (.cells #[.int .i64 (KF : Int), .int .i64 (c : Int), .bool false] 114)
  obtain ⟨w2, hw2⟩ : ∃ w2, w1.alloc (.cells #[.int .i64 (KF : Int), .int .i64 (c : Int), .bool false] 114) = w2 := ⟨_, rfl⟩
  rw [hw2] at hb2 hL2 hs2 hst2
  have hb3 : Blk (w2.alloc (.cells #[.pointer (some ⟨z, 0, none⟩)] 112)) (z + 1) [ptrV z] 112 := by rw [← hs2]; exact Blk.new w2 _ _
  have hL3 := hL2.keep (KeepL.alloc w2 (.cells #[.pointer (some ⟨z, 0, none⟩)] 112))
  have hb23 := hb2.alloc (.cells #[.pointer (some ⟨z, 0, none⟩)] 112)
  have hst3 := hst2.trans (Stp.alloc (fun _ => False) w2 (.cells #[.pointer (some ⟨z, 0, none⟩)] 112)) (fun _ _ h => h)
  have hs3 : (w2.alloc (.cells #[.pointer (some ⟨z, 0, none⟩)] 112)).heap.size = z + 2 := by simp [hs2]
  obtain ⟨w3, hw3⟩ : ∃ w3, w2.alloc (.cells #[.pointer (some ⟨z, 0, none⟩)] 112) = w3 := ⟨_, rfl⟩
  rw [hw3] at hb3 hL3 hb23 hst3 hs3
  obtain ⟨mv', w4, hrun, hrow, hst, how⟩ := run_append_row (P := Tryz.prog) w3 B 98 98 98 112 i0 _ Tryz.underlying98 hi0 hz0 hz1 rfl (.slice A ms.length cc) ms.length (ms.map fun m => ptrV m.blk) hL3.mrow (.slice (some ⟨z + 1, 0, none⟩) 1 1) 1 [ptrV z]
    (Src.ofSlice _ Tryz.underlying98 _ 1 1 _ rfl (fun j u hu => by rw [add_plain0, Nat.zero_add]; exact hb3.cell hu) (by simp [Value.oneCell', ptrV])) (by rw [hz2, hKM]; omega) (by rw [hKM]; omega) (by omega)
  rw [hKM] at hrun hrow hst how
  obtain ⟨A3, cc3, rfl, hc3, hcm3⟩ := hrow.form
  have hne : ∀ g, (Value.slice A KM cc).ownBlock = some g → g ≠ lb := fun g hg => Row.ne hL3.mrow hL3.blk (by decide) (by rw [hKM]; exact hg)
  have hb4 : Blk w4 lb _ _ := hL3.blk.stp hst fun e => hne lb e rfl
  have hne3 : ∀ g, (Value.slice A3 (KM + 1) cc3).ownBlock = some g → g ≠ lb := fun g hg => Row.ne hrow hb4 (by decide) hg
  have hb5 := hb4.set 2 (.slice A3 (KM + 1) cc3)
  rw [set2L] at hb5
  have hS : Stp (fun b => b = lb ∨ (Value.slice A KM cc).ownBlock = some b) w1 (w4.setCell ⟨lb, 2, none⟩ (.slice A3 (KM + 1) cc3)) :=
    (((hst3.mono (S' := fun b => b = lb ∨ (Value.slice A KM cc).ownBlock = some b) (fun _ _ h => h.elim)).trans hst (fun _ _ h => .inr h))).trans (Stp.set (S := fun b => b = lb) rfl 2 _) (fun _ _ h => .inl h)
  have hfr := hf1.trans (Fr.of_stp (B := B) (T := LogT) (M := fun _ => False) hS (by
    intro b _ hb
    rcases hb with rfl | hb
    · exact ⟨hL1.hB, .inr ⟨_, _, _, hL1.blk, .inl rfl⟩⟩
    · obtain ⟨h1, _, cur, h2⟩ := hL1.mrow.lt (by rw [hKM]; exact hb)
      exact ⟨h1, .inr ⟨_, _, _, h2, .inr (.inl rfl)⟩⟩))
  have hrow5 := hrow.keep (w' := w4.setCell ⟨lb, 2, none⟩ (.slice A3 (KM + 1) cc3)) fun g hg => heap_setCell_other w4 _ g _ (hne3 g hg)
  have hnr5 : Row _ B 1 _ _ _ := hL1.nrow.stp hS (fun g hg hb => by
    rcases hb with hb | hb
    · exact Row.ne hL1.nrow hL1.blk (by decide) hg hb
    · exact Row.ne2 hL1.nrow hL1.mrow (by decide) hg (by rw [hKM]; exact hb) rfl)
  have hmk5 : ∀ m ∈ ms, B ≤ m.blk ∧ Blk (w4.setCell ⟨lb, 2, none⟩ (.slice A3 (KM + 1) cc3)) m.blk (mkC m false) 114 := fun m hm => ⟨(hL1.mks m hm).1, (hL1.mks m hm).2.stp hS (fun hb => by
    rcases hb with hb | hb
    · exact (hL1.mks m hm).2.ne hL1.blk (by decide) hb
    · exact Row.ne hL1.mrow (hL1.mks m hm).2 (by decide) (by rw [hKM]; exact hb) rfl)⟩
  have hzm : Blk (w4.setCell ⟨lb, 2, none⟩ (.slice A3 (KM + 1) cc3)) z (mkC ⟨z, KF, c⟩ false) 114 := by
    have h1 : Blk w4 z _ _ := hb23.stp hst (fun hb => Row.ne hL3.mrow hb23 (by decide) (by rw [hKM]; exact hb) rfl)
    exact h1.other (a := ⟨lb, 2, none⟩) (fun e => by simp at e; omega) _
  have hlog : ∃ b, LogAt (w4.setCell ⟨lb, 2, none⟩ (.slice A3 (KM + 1) cc3)) B lb most nest (ms ++ [⟨b, KF, c⟩]) fs c :=
    ⟨z, _, _, hL1.hB, hb5, (by rw [List.length_append, hKM, List.map_append]; exact hrow5), hnr5, fun m hm => by
      rcases List.mem_append.1 hm with hm | hm
      · exact hmk5 m hm
      · rw [List.mem_singleton.1 hm]; exact ⟨by show B ≤ z; omega, hzm⟩, by
      rw [List.map_append]
      refine List.nodup_append.2 ⟨hL1.ap, by simp, fun a ha b hb => ?_⟩
      obtain ⟨m, hm, rfl⟩ := List.mem_map.1 ha
      have := (hL1.mks m hm).2.lt
      rw [List.map_singleton, List.mem_singleton] at hb
      rw [hb]
      show m.blk ≠ z
      omega, hL1.nest1, hL1.nest2, hL1.most2, hL1.cp, (by rw [List.length_append, hKM]; simp; omega), hL1.fc, hL1.fn, fun m hm => by
      rcases List.mem_append.1 hm with hm | hm
      · exact hL1.mc m hm
      · rw [List.mem_singleton.1 hm]; exact ⟨by show KF ≤ c; have := hL1.fc; omega, hL1.cp⟩⟩
  have d2 : w4.cell? ⟨lb, 2, none⟩ = some _ := hb4.cell (i := 2) rfl
  have g2 := hb4.frozen 2
  have e2 : w2.cell? ⟨lb, 2, none⟩ = some (.slice A KM cc) := by rw [← hKM]; exact hL2.blk.cell (i := 2) rfl
  have e3 : w2.cell? ⟨lb, 3, none⟩ = some (.slice A2 KF cc2) := by rw [← hKF]; exact hL2.blk.cell (i := 3) rfl
  have e4 : w2.cell? ⟨lb, 4, none⟩ = some (.int .i64 (c : Int)) := hL2.blk.cell (i := 4) rfl
  have u2 : w3.cell? ⟨lb, 2, none⟩ = some (.slice A KM cc) := by rw [← hKM]; exact hL3.blk.cell (i := 2) rfl
  have u3 : w3.cell? ⟨lb, 3, none⟩ = some (.slice A2 KF cc2) := by rw [← hKF]; exact hL3.blk.cell (i := 3) rfl
  have u4 : w3.cell? ⟨lb, 4, none⟩ = some (.int .i64 (c : Int)) := hL3.blk.cell (i := 4) rfl
  have v3 : w4.cell? ⟨lb, 3, none⟩ = some (.slice A2 KF cc2) := by rw [← hKF]; exact hb4.cell (i := 3) rfl
  have v4 : w4.cell? ⟨lb, 4, none⟩ = some (.int .i64 (c : Int)) := hb4.cell (i := 4) rfl
  have hl4 := hb4.lt
  rw [hKM] at d2
  obtain ⟨W5, hW5⟩ : ∃ W5, w4.setCell ⟨lb, 2, none⟩ (.slice A3 (KM + 1) cc3) = W5 := ⟨_, rfl⟩
  rw [hW5] at hlog hfr hb5
  have x2 := hb5.cell (i := 2) rfl
  have hl5 := hb5.lt
  replace hlog := Lib.hid hlog
  replace hfr := Lib.hid hfr
  replace hrun := Lib.hid hrun
  replace hW5 := Lib.hid hW5
  replace hw2 := Lib.hid hw2
  replace hw3 := Lib.hid hw3
  replace hs2 := Lib.hid hs2
  replace hz := Lib.hid hz
  clear hzm hmk5 hnr5 hrow5 hS hb5 hne3 hb4 hne hst hrow hst3 hb23 hL3 hb3 hst2 hL2 hb2 hL1 h1 hf1 hi0 hz0 hz1 hz2 hKF how hs3 hKM
  refine wp_region_last (L := 20) (S := (fun w' : World => w'.cell? ⟨lb, 2, none⟩ = some (.slice A KM cc) ∧ w'.cell? ⟨lb, 3, none⟩ = some (.slice A2 KF cc2) ∧ w'.cell? ⟨lb, 4, none⟩ = some (.int .i64 (c : Int)))) (by kernel_rfl) ?_
  rw [hw1.out]
  have hS0 : (fun w' : World => w'.cell? ⟨lb, 2, none⟩ = some (.slice A KM cc) ∧ w'.cell? ⟨lb, 3, none⟩ = some (.slice A2 KF cc2) ∧ w'.cell? ⟨lb, 4, none⟩ = some (.int .i64 (c : Int))) w1 := ⟨c2, c3, c4⟩
  refine wpAnyT_takeT (n := 40) (i := 0) (v := .pointer (some ⟨lb, 0, none⟩)) rfl (by kernel_rfl) (by kernel_rfl) (by kernel_rfl) (by kernel_rfl) (by kernel_rfl) (fun _ _ _ h => h) (Or.inl ⟨by rfl, ?_⟩) hS0 ?_
  · intro W hW
    obtain ⟨k0, k1, k2⟩ := hW
    clear hS0 c2 c3 c4 d2 g2 e2 e3 e4 u2 u3 u4 v3 v4 x2
    go_simp
    try (intro hx; exfalso; omega)
  try simp only [Act.put, List.setIfInBounds_toArray]
  refine wpAnyT_takeT (n := 40) (i := 1) (v := .pointer (some ⟨lb, 0, none⟩)) rfl (by kernel_rfl) (by kernel_rfl) (by kernel_rfl) (by kernel_rfl) (by kernel_rfl) (fun _ _ _ h => h) (Or.inl ⟨by rfl, ?_⟩) hS0 ?_
  · intro W hW
    obtain ⟨k0, k1, k2⟩ := hW
    clear hS0 c2 c3 c4 d2 g2 e2 e3 e4 u2 u3 u4 v3 v4 x2
    go_simp
    try (intro hx; exfalso; omega)
  try simp only [Act.put]
  refine wpAnyT_takeT (n := 40) (i := 2) (v := .pointer (some ⟨lb, 0, none⟩)) rfl (by kernel_rfl) (by kernel_rfl) (by kernel_rfl) (by kernel_rfl) (by kernel_rfl) (fun _ _ _ h => h) (Or.inl ⟨by rfl, ?_⟩) hS0 ?_
  · intro W hW
    obtain ⟨k0, k1, k2⟩ := hW
    clear hS0 c2 c3 c4 d2 g2 e2 e3 e4 u2 u3 u4 v3 v4 x2
    go_simp
    try (intro hx; exfalso; omega)
  try simp only [Act.put]
  refine wpAnyT_takeT (n := 40) (i := 3) (v := .pointer (some ⟨lb, 2, none⟩)) rfl (by kernel_rfl) (by kernel_rfl) (by kernel_rfl) (by kernel_rfl) (by kernel_rfl) (fun _ _ _ h => h) (Or.inl ⟨by rfl, ?_⟩) hS0 ?_
  · intro W hW
    obtain ⟨k0, k1, k2⟩ := hW
    clear hS0 c2 c3 c4 d2 g2 e2 e3 e4 u2 u3 u4 v3 v4 x2
    go_simp
    try (intro hx; exfalso; omega)
  try simp only [Act.put]
  refine wpAnyT_takeT (n := 40) (i := 4) (v := .slice A KM cc) rfl (by kernel_rfl) (by kernel_rfl) (by kernel_rfl) (by kernel_rfl) (by kernel_rfl) (fun _ _ _ h => h) (Or.inl ⟨by rfl, ?_⟩) hS0 ?_
  · intro W hW
    obtain ⟨k0, k1, k2⟩ := hW
    clear hS0 c2 c3 c4 d2 g2 e2 e3 e4 u2 u3 u4 v3 v4 x2
    go_simp
    try (intro hx; exfalso; omega)
  try simp only [Act.put]
  refine wpAnyT_takeT (n := 40) (i := 5) (v := .pointer (some ⟨lb, 0, none⟩)) rfl (by kernel_rfl) (by kernel_rfl) (by kernel_rfl) (by kernel_rfl) (by kernel_rfl) (fun _ _ _ h => h) (Or.inl ⟨by rfl, ?_⟩) hS0 ?_
  · intro W hW
    obtain ⟨k0, k1, k2⟩ := hW
    clear hS0 c2 c3 c4 d2 g2 e2 e3 e4 u2 u3 u4 v3 v4 x2
    go_simp
    try (intro hx; exfalso; omega)
  try simp only [Act.put]
  refine wpAnyT_takeT (n := 40) (i := 6) (v := .pointer (some ⟨lb, 0, none⟩)) rfl (by kernel_rfl) (by kernel_rfl) (by kernel_rfl) (by kernel_rfl) (by kernel_rfl) (fun _ _ _ h => h) (Or.inl ⟨by rfl, ?_⟩) hS0 ?_
  · intro W hW
    obtain ⟨k0, k1, k2⟩ := hW
    clear hS0 c2 c3 c4 d2 g2 e2 e3 e4 u2 u3 u4 v3 v4 x2
    go_simp
    try (intro hx; exfalso; omega)
  try simp only [Act.put]
  refine wpAnyT_takeT (n := 40) (i := 7) (v := .pointer (some ⟨lb, 3, none⟩)) rfl (by kernel_rfl) (by kernel_rfl) (by kernel_rfl) (by kernel_rfl) (by kernel_rfl) (fun _ _ _ h => h) (Or.inl ⟨by rfl, ?_⟩) hS0 ?_
  · intro W hW
    obtain ⟨k0, k1, k2⟩ := hW
    clear hS0 c2 c3 c4 d2 g2 e2 e3 e4 u2 u3 u4 v3 v4 x2
    go_simp
    try (intro hx; exfalso; omega)
  try simp only [Act.put]
  refine wpAnyT_takeT (n := 40) (i := 8) (v := .slice A2 KF cc2) rfl (by kernel_rfl) (by kernel_rfl) (by kernel_rfl) (by kernel_rfl) (by kernel_rfl) (fun _ _ _ h => h) (Or.inl ⟨by rfl, ?_⟩) hS0 ?_
  · intro W hW
    obtain ⟨k0, k1, k2⟩ := hW
    clear hS0 c2 c3 c4 d2 g2 e2 e3 e4 u2 u3 u4 v3 v4 x2
    go_simp
    try (intro hx; exfalso; omega)
  try simp only [Act.put]
  refine wpAnyT_takeT (n := 40) (i := 9) (v := .int .i64 (KF : Int)) rfl (by kernel_rfl) (by kernel_rfl) (by kernel_rfl) (by kernel_rfl) (by kernel_rfl) (fun _ _ _ h => h) (Or.inl ⟨by rfl, ?_⟩) hS0 ?_
  · intro W hW
    obtain ⟨k0, k1, k2⟩ := hW
    clear hS0 c2 c3 c4 d2 g2 e2 e3 e4 u2 u3 u4 v3 v4 x2
    go_simp
    try (intro hx; exfalso; omega)
  try simp only [Act.put]
  refine wpAnyT_takeT (n := 40) (i := 10) (v := .pointer (some ⟨lb, 0, none⟩)) rfl (by kernel_rfl) (by kernel_rfl) (by kernel_rfl) (by kernel_rfl) (by kernel_rfl) (fun _ _ _ h => h) (Or.inl ⟨by rfl, ?_⟩) hS0 ?_
  · intro W hW
    obtain ⟨k0, k1, k2⟩ := hW
    clear hS0 c2 c3 c4 d2 g2 e2 e3 e4 u2 u3 u4 v3 v4 x2
    go_simp
    try (intro hx; exfalso; omega)
  try simp only [Act.put]
  refine wpAnyT_takeT (n := 40) (i := 11) (v := .pointer (some ⟨lb, 0, none⟩)) rfl (by kernel_rfl) (by kernel_rfl) (by kernel_rfl) (by kernel_rfl) (by kernel_rfl) (fun _ _ _ h => h) (Or.inl ⟨by rfl, ?_⟩) hS0 ?_
  · intro W hW
    obtain ⟨k0, k1, k2⟩ := hW
    clear hS0 c2 c3 c4 d2 g2 e2 e3 e4 u2 u3 u4 v3 v4 x2
    go_simp
    try (intro hx; exfalso; omega)
  try simp only [Act.put]
  refine wpAnyT_takeT (n := 40) (i := 12) (v := .pointer (some ⟨lb, 4, none⟩)) rfl (by kernel_rfl) (by kernel_rfl) (by kernel_rfl) (by kernel_rfl) (by kernel_rfl) (fun _ _ _ h => h) (Or.inl ⟨by rfl, ?_⟩) hS0 ?_
  · intro W hW
    obtain ⟨k0, k1, k2⟩ := hW
    clear hS0 c2 c3 c4 d2 g2 e2 e3 e4 u2 u3 u4 v3 v4 x2
    go_simp
    try (intro hx; exfalso; omega)
  try simp only [Act.put]
  refine wpAnyT_takeT (n := 40) (i := 13) (v := .int .i64 (c : Int)) rfl (by kernel_rfl) (by kernel_rfl) (by kernel_rfl) (by kernel_rfl) (by kernel_rfl) (fun _ _ _ h => h) (Or.inl ⟨by rfl, ?_⟩) hS0 ?_
  · intro W hW
    obtain ⟨k0, k1, k2⟩ := hW
    clear hS0 c2 c3 c4 d2 g2 e2 e3 e4 u2 u3 u4 v3 v4 x2
    go_simp
    try (intro hx; exfalso; omega)
  try simp only [Act.put]
  refine wpAnyT_takeT (n := 40) (i := 14) (v := .agg #[.int .i64 (KF : Int), .int .i64 (c : Int), .bool false]) rfl (by kernel_rfl) (by kernel_rfl) (by kernel_rfl) (by kernel_rfl) (by kernel_rfl) (fun _ _ _ h => h) (Or.inl ⟨by rfl, ?_⟩) hS0 ?_
  · intro W hW
    obtain ⟨k0, k1, k2⟩ := hW
    clear hS0 c2 c3 c4 d2 g2 e2 e3 e4 u2 u3 u4 v3 v4 x2
    go_simp
    try (intro hx; exfalso; omega)
  try simp only [Act.put]
  clear hS0
  refine wpAnyT_one (i := 15) rfl (by kernel_rfl) rfl ?_
  go_simp
  rw [hz.out, hw2.out]
  refine wpAnyT_one (i := 16) rfl (by kernel_rfl) rfl ?_
  go_simp
  rw [hs2.out, hw3.out]
  refine ⟨⟨u2, u3, u4⟩, ?_⟩
  refine wpAnyT_one (i := 17) rfl (by kernel_rfl) rfl ?_
  refine wp_append_of (.tmp 22) (.tmp 34) 98 98 rfl _ _ _ w4 rfl rfl hrun.out ?_
  refine ⟨fun _ => ⟨d2, v3, v4⟩, ?_⟩
  clear c2 c3 c4 e2 e3 e4 u2 u3 u4
  try simp only [Act.put, List.setIfInBounds_toArray]
  refine wpAnyT_one (i := 18) rfl (by kernel_rfl) rfl ?_
  go_simp
  refine wpAnyT_one (i := 19) rfl (by kernel_rfl) rfl ?_
  go_simp
  refine wpAnyT_one (i := 20) rfl (by kernel_rfl) rfl ?_
  go_simp
  rw [hW5.out]
  refine wpAnyT_done (by kernel_rfl) ?_ _
  clear d2 g2 v3 v4
  go_wp2
  go_ret2
  exact ⟨rfl, hlog.out, hfr.out⟩
end
end Go.Proofs.YtigmdfdcflkggaaGreat
