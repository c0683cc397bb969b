/-
  Words for memory: a slice that reads as a list of cells, marked texts as lists of (byte, quoted), and how they are kept.
-/
import Derived.WalkKit
import Derived.WalkSpells
import Derived.WalkLawsBesides
import Derived.Below
import Derived.Lib.Hide
import Derived.Laws.OwnMore
import Derived.Deep.Draws
import Derived.Outline
import Derived.Maps.OwnSet
import Derived.Maps.OwnOps
import Derived.Deep.AppendSrc
import Derived.Laws.CopyRow
import Derived.Test.YtmchfoedjajbdaaGreatRows
import Derived.ProofKit
import Derived.Lib.Strings
import Derived.OpenShut
import Derived.Deep.SlicePairs
import Derived.Deep.DeepHandedRow
namespace Go.Proofs.YtmchfoedjajbdaaGreat
open Go Go.RowKit

/-- A slice value that reads as n elements of size cells each, all below block B; nil, empty and cut slices too. -/
def Sl (w : World) (B size : Nat) (v : Value) (n : Nat) (xs : List Value) : Prop :=
  ∃ (A : Option Addr) (c : Nat), v = .slice A n c ∧ n ≤ c ∧ c ≤ maxLen ∧ xs.length = n * size ∧
    (0 < n → ∃ b off : Nat, A = some ⟨b, off, none⟩ ∧ b < B ∧ ∀ (j : Nat) (u : Value), xs[j]? = some u → w.cell? ⟨b, off + j, none⟩ = some u)

theorem add_plain0 (b off k : Nat) : (⟨b, off, none⟩ : Addr).add k = ⟨b, off + k, none⟩ := by
  unfold Addr.add; split <;> simp_all

section
variable {w w' : World} {B B' size n : Nat} {v : Value} {xs : List Value}
end

/-- A marked text: bytes, each with its mark. -/
abbrev Ch := UInt8 × Bool
def cc (c : Ch) : List Value := [.int .u8 (c.1.toNat : Int), .bool c.2]
def cellsCh (l : List Ch) : List Value := l.flatMap cc
/-- A slice of marked bytes reads as the marked text l, below block B. -/
def Tx (w : World) (B : Nat) (v : Value) (l : List Ch) : Prop := Sl w B 2 v l.length (cellsCh l)

section
variable {w w' : World} {B B' : Nat} {v : Value} {l : List Ch}
end
end Go.Proofs.YtmchfoedjajbdaaGreat
/-
  A map in memory, as the list of its entries in the order in which they came: look-up, length, a new entry, a delete, as run equations and as laws at the operation. Conditions: fewer entries than a length may count.
-/
namespace Go.Proofs.YtmchfoedjajbdaaGreat
open Go Go.RowKit Go.ChangeMaps Go.MapKept

/-- How keys of one kind lie in memory. -/
structure KeyEnc {κ : Type} (d : TypeDesc) (enc : κ → Value) : Prop where
  is : ∀ k, IsKey d (enc k)
  inj : ∀ a b, enc a = enc b → a = b
def encI (i : Int) : Value := .int .i64 i
def encS (s : ByteArray) : Value := .string s
theorem keyI : KeyEnc (.int .i64) encI := ⟨fun _ => rfl, fun a b h => by simpa [encI] using h⟩
section
variable {κ : Type}
section
variable [DecidableEq κ]
/-- What a key has. -/
def look {α : Type} : List (κ × α) → κ → Option α
  | [], _ => none
  | p :: l, k => if p.1 = k then some p.2 else look l k
theorem look_none {α : Type} {l : List (κ × α)} {k : κ} : look l k = none ↔ ∀ p ∈ l, p.1 ≠ k := by
  induction l with
  | nil => simp [look]
  | cons a l ih =>
    unfold look
    split
    · rename_i h; simp [h]
    · rename_i h; simp [ih, h]
theorem look_of_mem {α : Type} {l : List (κ × α)} {k : κ} {v : α} (hd : l.Pairwise (fun p q => p.1 ≠ q.1)) (h : (k, v) ∈ l) : look l k = some v := by
  induction l with
  | nil => cases h
  | cons a l ih =>
    unfold look
    rw [List.pairwise_cons] at hd
    cases h with
    | head => simp
    | tail _ h => rw [if_neg (fun e => hd.1 _ h e)]; exact ih hd.2 h
end
/-- Block b of w is a map that has the entries l. -/
def KMap (w : World) (b : Nat) (_d : TypeDesc) (enc : κ → Value) (l : List (κ × Value)) : Prop :=
  ∃ es clock, w.heap[b]? = some (.map es clock) ∧ Stamped es clock ∧ es.toList.map (fun x => (x.key, x.val)) = l.map (fun p => (enc p.1, p.2))

variable {w : World} {b : Nat} {d : TypeDesc} {enc : κ → Value} {l : List (κ × Value)}
theorem KMap.lt (h : KMap w b d enc l) : b < w.heap.size := by
  obtain ⟨es, clock, hb, _⟩ := h
  exact (Array.getElem?_eq_some_iff.1 hb).1
theorem KMap.keep {w' : World} (h : KMap w b d enc l) (hk : w'.heap[b]? = w.heap[b]?) : KMap w' b d enc l := by
  obtain ⟨es, clock, hb, h⟩ := h
  exact ⟨es, clock, hk.trans hb, h⟩
theorem KMap.new (w : World) (d : TypeDesc) (enc : κ → Value) : KMap (w.alloc (.map #[] 0)) w.heap.size d enc [] := ⟨#[], 0, (MapKept.heap_alloc w _).1, stamped_empty 0, rfl⟩
theorem KMap.no_cells (h : KMap w b d enc l) {cs : Array Value} {t : TypeId} {f : Nat × Nat} : w.heap[b]? ≠ some (.cells cs t f) := by
  obtain ⟨es, clock, hb, _⟩ := h
  rw [hb]; simp

theorem kmap_keys {es : Array MapEntry} (K : KeyEnc d enc) (he : es.toList.map (fun x => (x.key, x.val)) = l.map (fun p => (enc p.1, p.2))) : ∀ x ∈ es.toList, IsKey d x.key := by
  intro x hx
  have : (x.key, x.val) ∈ l.map (fun p => (enc p.1, p.2)) := by rw [← he]; exact List.mem_map_of_mem hx
  obtain ⟨p, _, e⟩ := List.mem_map.1 this
  have e1 : x.key = enc p.1 := (congrArg Prod.fst e).symm
  rw [e1]
  exact K.is _
variable [DecidableEq κ]
/-- Where a key is found. -/
theorem kmap_find {es : Array MapEntry} {clock : Nat} (K : KeyEnc d enc) (hs : Stamped es clock) (he : es.toList.map (fun x => (x.key, x.val)) = l.map (fun p => (enc p.1, p.2))) (k : κ) :
    (look l k = none ∧ Instr.findNow d (enc k) es.toList 0 = some none ∧ ∀ x ∈ es.toList, x.key ≠ enc k) ∨
      ∃ j e, look l k = some e.val ∧ Instr.findNow d (enc k) es.toList 0 = some (some (j, e.val)) ∧ es.toList[j]? = some e ∧ e.key = enc k := by
  have hap : l.Pairwise (fun p q => p.1 ≠ q.1) := by
    have h3 := ((stamped_iff es clock).1 hs).2.2
    have h4 : (es.toList.map (fun x => (x.key, x.val))).Pairwise (fun p q => p.1 ≠ q.1) := by rw [List.pairwise_map]; exact h3
    rw [he, List.pairwise_map] at h4
    exact h4.imp fun h e => h (by rw [e])
  rcases findNow_spec (K.is k) es.toList 0 (kmap_keys K he) with ⟨h1, h2⟩ | ⟨j, e, h1, h2, h3⟩
  · refine .inl ⟨look_none.2 fun p hp e => ?_, h1, h2⟩
    have : (enc p.1, p.2) ∈ es.toList.map (fun x => (x.key, x.val)) := by rw [he]; exact List.mem_map_of_mem (f := fun p : κ × Value => (enc p.1, p.2)) hp
    obtain ⟨x, hx, ex⟩ := List.mem_map.1 this
    exact h2 x hx ((congrArg Prod.fst ex).trans (by rw [e]))
  · refine .inr ⟨j, e, look_of_mem hap ?_, by simpa using h1, h2, h3⟩
    have : (e.key, e.val) ∈ l.map (fun p => (enc p.1, p.2)) := by
      rw [← he]
      exact List.mem_map_of_mem (f := fun x : MapEntry => (x.key, x.val)) (List.mem_of_getElem? h2)
    obtain ⟨p, hp, ep⟩ := List.mem_map.1 this
    cases p with
    | mk p1 p2 =>
      simp only [Prod.mk.injEq] at ep
      obtain ⟨e1, e2⟩ := ep
      rw [h3] at e1
      rw [← K.inj _ _ e1, ← e2]
      exact hp

variable {P : Program} {t kt e : TypeId}
theorem KMap.find (h : KMap w b d enc l) (K : KeyEnc d enc) (ht : P.underlying t = some (.map kt e)) (hd : P.underlying kt = some d) {z : Value} (hz : (zeroValue e).run P w = .ok z w) (c : Bool) (k : κ) :
    (Instr.lookup t (.map (some b)) (enc k) c).run P w = .ok (if c then .tuple #[(look l k).getD z, .bool (look l k).isSome] else (look l k).getD z) w := by
  obtain ⟨es, clock, hb, hs, he⟩ := h
  rcases kmap_find K hs he k with ⟨h0, h1, h2⟩ | ⟨j, x, h0, h1, h2, h3⟩
  · rw [h0]
    simp [Instr.lookup, run_underlying ht, MapKept.run_getObj_map hb, MapKept.run_checkKey hd (K.is k), MapKept.run_findKey hd h1, hz, Result.andThen]
  · rw [h0]
    simp [Instr.lookup, run_underlying ht, MapKept.run_getObj_map hb, MapKept.run_checkKey hd (K.is k), MapKept.run_findKey hd h1, Result.andThen]
theorem KMap.push (h : KMap w b d enc l) (K : KeyEnc d enc) (ht : P.underlying t = some (.map kt e)) (hd : P.underlying kt = some d) {k : κ} (hk : look l k = none) (v : Value) :
    ∃ o, (Instr.mapUpdate t (.map (some b)) (enc k) v).run P w = .ok () (setBlock w b o) ∧ KMap (setBlock w b o) b d enc (l ++ [(k, v)]) := by
  obtain ⟨es, clock, hb, hs, he⟩ := h
  rcases kmap_find K hs he k with ⟨h0, h1, h2⟩ | ⟨j, x, h0, h1, h2, h3⟩
  · refine ⟨.map (es.push ⟨enc k, v, clock⟩) (clock + 1), ?_, es.push ⟨enc k, v, clock⟩, clock + 1, heap_setBlock_same hb _, stamped_push hs h2, by simp [he]⟩
    simp [Instr.mapUpdate, run_underlying ht, MapKept.run_getObj_map hb, MapKept.run_checkKey hd (K.is k), MapKept.run_findKey hd h1, MapKept.run_setObj_map _ hb, Result.andThen, setBlock]
  · rw [hk] at h0; cases h0
/-! At the operation. -/
variable {ops : Array Oper} {rest : List Oper} {o : Oper} {a : Act} {Q : Exit → Act → World → Prop}
end
end Go.Proofs.YtmchfoedjajbdaaGreat
/-
  Words for memory in which much is written: blocks that may be written, rows of such blocks, what a step may change; append as a run equation. Conditions: none.
-/
namespace Go.Proofs.YtmchfoedjajbdaaGreat
open Go Go.RowKit Go.ChangeMaps

/-- A block of cells that may be written. -/
def Blk (w : World) (b : Nat) (cur : List Value) (t : TypeId) : Prop := w.heap[b]? = some (.cells cur.toArray t (0, 0))

section
variable {w w' : World} {b : Nat} {cur : List Value} {t : TypeId}
theorem Blk.lt (h : Blk w b cur t) : b < w.heap.size := (Array.getElem?_eq_some_iff.1 h).1
theorem Blk.cell (h : Blk w b cur t) {i : Nat} {v : Value} (hi : cur[i]? = some v) : w.cell? ⟨b, i, none⟩ = some v := by
  rw [cell_of_row w b i _ t _ h]; simpa using hi
theorem Blk.frozen (h : Blk w b cur t) (i : Nat) : w.frozen? ⟨b, i, none⟩ = false := frozen_of_row w b i _ t h
theorem Blk.set (h : Blk w b cur t) (i : Nat) (u : Value) : Blk (w.setCell ⟨b, i, none⟩ u) b (cur.set i u) t := by
  have := heap_setCell_same w b i _ t u h
  simpa [Blk] using this
end
theorem Blk.new (w : World) (cs : List Value) (t : TypeId) : Blk (w.alloc (.cells cs.toArray t)) w.heap.size cs t := heap_alloc_new w _


/-- What a step may change: of what was there, only blocks in S. -/
structure Stp (S : Nat → Prop) (w w' : World) : Prop where
  os : w'.os = w.os
  tape : w'.tape = w.tape
  output : w'.output = w.output
  size : w.heap.size ≤ w'.heap.size
  block : ∀ b, b < w.heap.size → ¬ S b → w'.heap[b]? = w.heap[b]?
theorem setB_other {w : World} {b g : Nat} (h : g ≠ b) (o : Obj) : (setBlock w b o).heap[g]? = w.heap[g]? := by simp [setBlock, Ne.symm h]
section
variable {S S' : Nat → Prop} {w w' w'' : World}
theorem Stp.set {b : Nat} (hS : S b) (i : Nat) (u : Value) : Stp S w (w.setCell ⟨b, i, none⟩ u) :=
  ⟨rfl, rfl, rfl, by simp [World.setCell], fun k _ hk => heap_setCell_other w _ k u (fun e => hk (by rw [e]; exact hS))⟩
end

/-- What a call may change: only blocks from B on, of types in T, or in M. -/
structure Fr (B : Nat) (T : TypeId → Prop) (M : Nat → Prop) (w w' : World) : Prop where
  os : w'.os = w.os
  tape : w'.tape = w.tape
  output : w'.output = w.output
  size : w.heap.size ≤ w'.heap.size
  keep : ∀ b, b < w.heap.size → (b < B ∨ ¬ M b ∧ ∀ cur t f, w.heap[b]? = some (.cells cur t f) → ¬ T t) → w'.heap[b]? = w.heap[b]?
section
variable {B B' : Nat} {T T' : TypeId → Prop} {M M' S : Nat → Prop} {w w' w'' : World}
end

/-- A slice of n elements of one cell each, in a block of its own from B on. -/
def Row (w : World) (B : Nat) (e : TypeId) (v : Value) (n : Nat) (xs : List Value) : Prop :=
  (v = .slice none 0 0 ∧ n = 0 ∧ xs = []) ∨
  ∃ g off cap cur, v = .slice (some ⟨g, off, none⟩) n cap ∧ B ≤ g ∧ Blk w g cur e ∧ n ≤ cap ∧ cap ≤ maxLen ∧ off + cap ≤ cur.length ∧ (cur.drop off).take n = xs

section
variable {w w' : World} {B : Nat} {e : TypeId} {v : Value} {n : Nat} {xs : List Value}
end

section
variable {P : Program} (w : World)
end
end Go.Proofs.YtmchfoedjajbdaaGreat
/-
  Commands and pieces as one plain type: rows of things that hold rows; how great they are, how deep, what is the same. Conditions: none.
-/
set_option linter.unusedSimpArgs false
set_option linter.unusedVariables false
namespace Go.Proofs.YtmchfoedjajbdaaGreat
open Go Go.RowKit

/-- A row of commands, pieces, sets, redirections, cases, or rows. -/
inductive F where
  | nil
  | node (k : Int) (b : Bool) (n : ByteArray) (g : Bool) (S W R L C r : F)
  | piece (k : Int) (t : ByteArray) (o : Int) (c : Bool) (K B r : F)
  | set (n : ByteArray) (w r : F)
  | redir (fd k : Int) (w r : F)
  | case (W B r : F)
  | row (x r : F)
def I64 (k : Int) : Prop := -9223372036854775808 ≤ k ∧ k ≤ 9223372036854775807
def F.len : F → Nat
  | .nil => 0
  | .node _ _ _ _ _ _ _ _ _ r => r.len + 1
  | .piece _ _ _ _ _ _ r => r.len + 1
  | .set _ _ r => r.len + 1
  | .redir _ _ _ r => r.len + 1
  | .case _ _ r => r.len + 1
  | .row _ r => r.len + 1
def F.tl : F → F
  | .nil => .nil
  | .node _ _ _ _ _ _ _ _ _ r => r
  | .piece _ _ _ _ _ _ r => r
  | .set _ _ r => r
  | .redir _ _ _ r => r
  | .case _ _ r => r
  | .row _ r => r
def F.drop (f : F) : Nat → F
  | 0 => f
  | n + 1 => f.tl.drop n
/-- Which rows: 0 commands, 1 pieces, 2 sets, 3 redirections, 4 cases, 5 words, 6 lists. -/
def Ty : F → Nat → Prop
  | .nil, _ => True
  | .node k _ _ _ S W R L C r, t => t = 0 ∧ I64 k ∧ Ty S 2 ∧ Ty W 5 ∧ Ty R 3 ∧ Ty L 6 ∧ Ty C 4 ∧ Ty r 0
  | .piece k _ o _ K B r, t => t = 1 ∧ I64 k ∧ I64 o ∧ Ty K 1 ∧ Ty B 0 ∧ Ty r 1
  | .set _ w r, t => t = 2 ∧ Ty w 1 ∧ Ty r 2
  | .redir fd k w r, t => t = 3 ∧ I64 fd ∧ I64 k ∧ Ty w 1 ∧ Ty r 3
  | .case W B r, t => t = 4 ∧ Ty W 5 ∧ Ty B 0 ∧ Ty r 4
  | .row x r, t => (t = 5 ∧ Ty x 1 ∧ Ty r 5) ∨ (t = 6 ∧ Ty x 0 ∧ Ty r 6)
/-- How much there is at most of whatever is counted. -/
def wt : F → Nat
  | .nil => 0
  | .node _ _ n _ S W R L C r => 1 + n.size + wt S + wt W + wt R + wt L + wt C + wt r
  | .piece _ t _ _ K B r => 1 + t.size + wt K + wt B + wt r
  | .set n w r => 1 + n.size + wt w + wt r
  | .redir _ _ w r => 1 + wt w + wt r
  | .case W B r => 1 + wt W + wt B + wt r
  | .row x r => 1 + wt x + wt r
/-- How many commands and pieces. -/
def szF : F → Nat
  | .nil => 0
  | .node _ _ _ _ S W R L C r => 1 + szF S + szF W + szF R + szF L + szF C + szF r
  | .piece _ _ _ _ K B r => 1 + szF K + szF B + szF r
  | .set _ w r => szF w + szF r
  | .redir _ _ w r => szF w + szF r
  | .case W B r => szF W + szF B + szF r
  | .row x r => szF x + szF r
/-- How many of them in one another. -/
def dpF : F → Nat
  | .nil => 0
  | .node _ _ _ _ S W R L C r => max (1 + max (dpF S) (max (dpF W) (max (dpF R) (max (dpF L) (dpF C))))) (dpF r)
  | .piece _ _ _ _ K B r => max (1 + max (dpF K) (dpF B)) (dpF r)
  | .set _ w r => max (dpF w) (dpF r)
  | .redir _ _ w r => max (dpF w) (dpF r)
  | .case W B r => max (max (dpF W) (dpF B)) (dpF r)
  | .row x r => max (dpF x) (dpF r)
/-- How many bytes. -/
def byF : F → Nat
  | .nil => 0
  | .node _ _ n _ S W R L C r => n.size + byF S + byF W + byF R + byF L + byF C + byF r
  | .piece _ t _ _ K B r => t.size + byF K + byF B + byF r
  | .set n w r => n.size + byF w + byF r
  | .redir _ _ w r => byF w + byF r
  | .case W B r => byF W + byF B + byF r
  | .row x r => byF x + byF r
/-- Whether two rows are the same. -/
def sameF : F → F → Bool
  | .nil, .nil => true
  | .node k b n g S W R L C r, .node k' b' n' g' S' W' R' L' C' r' => (decide (k = k') && (b == b') && decide (n = n') && (g == g') && sameF S S' && sameF W W' && sameF R R' && sameF L L' && sameF C C') && sameF r r'
  | .piece k t o c K B r, .piece k' t' o' c' K' B' r' => (decide (k = k') && decide (t = t') && decide (o = o') && (c == c') && sameF K K' && sameF B B') && sameF r r'
  | .set n w r, .set n' w' r' => (decide (n = n') && sameF w w') && sameF r r'
  | .redir fd k w r, .redir fd' k' w' r' => (decide (fd = fd') && decide (k = k') && sameF w w') && sameF r r'
  | .case W B r, .case W' B' r' => (sameF W W' && sameF B B') && sameF r r'
  | .row x r, .row x' r' => sameF x x' && sameF r r'
  | _, _ => false
/-- Whether the first things of two rows are the same. -/
def sameH : F → F → Bool
  | .node k b n g S W R L C _, .node k' b' n' g' S' W' R' L' C' _ => decide (k = k') && (b == b') && decide (n = n') && (g == g') && sameF S S' && sameF W W' && sameF R R' && sameF L L' && sameF C C'
  | .piece k t o c K B _, .piece k' t' o' c' K' B' _ => decide (k = k') && decide (t = t') && decide (o = o') && (c == c') && sameF K K' && sameF B B'
  | .set n w _, .set n' w' _ => decide (n = n') && sameF w w'
  | .redir fd k w _, .redir fd' k' w' _ => decide (fd = fd') && decide (k = k') && sameF w w'
  | .case W B _, .case W' B' _ => sameF W W' && sameF B B'
  | .row x _, .row x' _ => sameF x x'
  | _, _ => false

theorem len_tl : ∀ f : F, f.tl.len = f.len - 1 := fun f => by cases f <;> rfl
theorem drop_len : ∀ (j : Nat) (f : F), (f.drop j).len = f.len - j
  | 0, _ => rfl
  | j + 1, f => by
    show (f.tl.drop j).len = _
    rw [drop_len j, len_tl]
    omega
theorem drop_tl : ∀ (j : Nat) (f : F), (f.drop j).tl = f.drop (j + 1)
  | 0, _ => rfl
  | j + 1, f => drop_tl j f.tl
theorem len0 {f : F} (h : f.len = 0) : f = .nil := by
  cases f with
  | nil => rfl
  | _ => exact absurd h (Nat.succ_ne_zero _)
theorem ty_tl {t : Nat} : ∀ {f : F}, Ty f t → Ty f.tl t := fun {f} h => by
  cases f with
  | nil => exact h
  | node => obtain ⟨rfl, _, _, _, _, _, _, h⟩ := h; exact h
  | piece => obtain ⟨rfl, _, _, _, _, h⟩ := h; exact h
  | set => obtain ⟨rfl, _, h⟩ := h; exact h
  | redir => obtain ⟨rfl, _, _, _, h⟩ := h; exact h
  | case => obtain ⟨rfl, _, _, h⟩ := h; exact h
  | row => rcases h with ⟨rfl, _, h⟩ | ⟨rfl, _, h⟩ <;> exact h
theorem ty_drop {t : Nat} : ∀ (j : Nat) {f : F}, Ty f t → Ty (f.drop j) t
  | 0, _, h => h
  | j + 1, f, h => ty_drop j (ty_tl h)
theorem wt_tl (f : F) : wt f.tl ≤ wt f := by cases f <;> (unfold F.tl; simp only [wt]; omega)
theorem wt_drop : ∀ (j : Nat) (f : F), wt (f.drop j) ≤ wt f
  | 0, _ => Nat.le_refl _
  | j + 1, f => Nat.le_trans (wt_drop j f.tl) (wt_tl f)
theorem len_wt : ∀ f : F, f.len ≤ wt f := fun f => by
  induction f with
  | nil => exact Nat.le_refl _
  | node k b n g S W R L C r _ _ _ _ _ ih => simp only [F.len, wt]; omega
  | piece k t o c K B r _ _ ih => simp only [F.len, wt]; omega
  | set n w r _ ih => simp only [F.len, wt]; omega
  | redir fd k w r _ ih => simp only [F.len, wt]; omega
  | case W B r _ _ ih => simp only [F.len, wt]; omega
  | row x r _ ih => simp only [F.len, wt]; omega
theorem sz_wt : ∀ f : F, szF f ≤ wt f := fun f => by
  induction f with
  | nil => exact Nat.le_refl _
  | node k b n g S W R L C r h1 h2 h3 h4 h5 ih => simp only [szF, wt]; omega
  | piece k t o c K B r h1 h2 ih => simp only [szF, wt]; omega
  | set n w r h1 ih => simp only [szF, wt]; omega
  | redir fd k w r h1 ih => simp only [szF, wt]; omega
  | case W B r h1 h2 ih => simp only [szF, wt]; omega
  | row x r h1 ih => simp only [szF, wt]; omega
theorem dp_wt : ∀ f : F, dpF f ≤ wt f := fun f => by
  induction f with
  | nil => exact Nat.le_refl _
  | node k b n g S W R L C r h1 h2 h3 h4 h5 ih => simp only [dpF, wt]; omega
  | piece k t o c K B r h1 h2 ih => simp only [dpF, wt]; omega
  | set n w r h1 ih => simp only [dpF, wt]; omega
  | redir fd k w r h1 ih => simp only [dpF, wt]; omega
  | case W B r h1 h2 ih => simp only [dpF, wt]; omega
  | row x r h1 ih => simp only [dpF, wt]; omega
theorem by_wt : ∀ f : F, byF f ≤ wt f := fun f => by
  induction f with
  | nil => exact Nat.le_refl _
  | node k b n g S W R L C r h1 h2 h3 h4 h5 ih => simp only [byF, wt]; omega
  | piece k t o c K B r h1 h2 ih => simp only [byF, wt]; omega
  | set n w r h1 ih => simp only [byF, wt]; omega
  | redir fd k w r h1 ih => simp only [byF, wt]; omega
  | case W B r h1 h2 ih => simp only [byF, wt]; omega
  | row x r h1 ih => simp only [byF, wt]; omega
theorem same_step {f f' : F} (h : 0 < f.len) (h' : 0 < f'.len) : sameF f f' = (sameH f f' && sameF f.tl f'.tl) := by
  cases f <;> cases f' <;> first | rfl | (exact absurd h (Nat.lt_irrefl 0)) | (exact absurd h' (Nat.lt_irrefl 0)) | (simp [sameF, sameH])
theorem same_refl : ∀ f : F, sameF f f = true := fun f => by
  induction f with
  | nil => rfl
  | node k b n g S W R L C r h1 h2 h3 h4 h5 ih => simp [sameF, h1, h2, h3, h4, h5, ih]
  | piece k t o c K B r h1 h2 ih => simp [sameF, h1, h2, ih]
  | set n w r h1 ih => simp [sameF, h1, ih]
  | redir fd k w r h1 ih => simp [sameF, h1, ih]
  | case W B r h1 h2 ih => simp [sameF, h1, h2, ih]
  | row x r h1 ih => simp [sameF, h1, ih]
theorem same_len : ∀ f f' : F, f.len ≠ f'.len → sameF f f' = false := fun f => by
  induction f with
  | nil => intro f' h; cases f' with
    | nil => exact absurd rfl h
    | _ => rfl
  | node k b n g S W R L C r h1 h2 h3 h4 h5 ih =>
    intro f' h; cases f' with
    | node k' b' n' g' S' W' R' L' C' r' => simp only [sameF, ih r' (fun e => h (congrArg (· + 1) e)), Bool.and_false]
    | _ => rfl
  | piece k t o c K B r h1 h2 ih =>
    intro f' h; cases f' with
    | piece k' t' o' c' K' B' r' => simp only [sameF, ih r' (fun e => h (congrArg (· + 1) e)), Bool.and_false]
    | _ => rfl
  | set n w r h1 ih =>
    intro f' h; cases f' with
    | set n' w' r' => simp only [sameF, ih r' (fun e => h (congrArg (· + 1) e)), Bool.and_false]
    | _ => rfl
  | redir fd k w r h1 ih =>
    intro f' h; cases f' with
    | redir fd' k' w' r' => simp only [sameF, ih r' (fun e => h (congrArg (· + 1) e)), Bool.and_false]
    | _ => rfl
  | case W B r h1 h2 ih =>
    intro f' h; cases f' with
    | case W' B' r' => simp only [sameF, ih r' (fun e => h (congrArg (· + 1) e)), Bool.and_false]
    | _ => rfl
  | row x r h1 ih =>
    intro f' h; cases f' with
    | row x' r' => simp only [sameF, ih r' (fun e => h (congrArg (· + 1) e)), Bool.and_false]
    | _ => rfl
end Go.Proofs.YtmchfoedjajbdaaGreat
/-
  Rows of commands and pieces in memory. Conditions: none.
-/
set_option linter.unusedSimpArgs false
set_option linter.unusedVariables false
namespace Go.Proofs.YtmchfoedjajbdaaGreat
open Go Go.RowKit

theorem drewN_below (w : World) (n : Nat) : Below w.heap.size w (w.drewN n) := ⟨rfl, rfl, rfl, Nat.le_refl _, fun _ _ => rfl⟩
/-- A row's things lie from a place on. -/
def Rw (w : World) : F → Nat → Nat → Prop
  | .nil, _, _ => True
  | .node k b n g S W R L C r, B, o =>
    w.cell? ⟨B, o, none⟩ = some (.int .i64 k) ∧ w.cell? ⟨B, o + 1, none⟩ = some (.bool b) ∧ w.cell? ⟨B, o + 2, none⟩ = some (.string n) ∧ w.cell? ⟨B, o + 3, none⟩ = some (.bool g) ∧
    (∃ A c, w.cell? ⟨B, o + 4, none⟩ = some (.slice A S.len c) ∧ S.len ≤ c ∧ c ≤ maxLen ∧ (0 < S.len → ∃ B' o', A = some ⟨B', o', none⟩ ∧ B' < w.heap.size ∧ Rw w S B' o')) ∧
    (∃ A c, w.cell? ⟨B, o + 5, none⟩ = some (.slice A W.len c) ∧ W.len ≤ c ∧ c ≤ maxLen ∧ (0 < W.len → ∃ B' o', A = some ⟨B', o', none⟩ ∧ B' < w.heap.size ∧ Rw w W B' o')) ∧
    (∃ A c, w.cell? ⟨B, o + 6, none⟩ = some (.slice A R.len c) ∧ R.len ≤ c ∧ c ≤ maxLen ∧ (0 < R.len → ∃ B' o', A = some ⟨B', o', none⟩ ∧ B' < w.heap.size ∧ Rw w R B' o')) ∧
    (∃ A c, w.cell? ⟨B, o + 7, none⟩ = some (.slice A L.len c) ∧ L.len ≤ c ∧ c ≤ maxLen ∧ (0 < L.len → ∃ B' o', A = some ⟨B', o', none⟩ ∧ B' < w.heap.size ∧ Rw w L B' o')) ∧
    (∃ A c, w.cell? ⟨B, o + 8, none⟩ = some (.slice A C.len c) ∧ C.len ≤ c ∧ c ≤ maxLen ∧ (0 < C.len → ∃ B' o', A = some ⟨B', o', none⟩ ∧ B' < w.heap.size ∧ Rw w C B' o')) ∧
    Rw w r B (o + 9)
  | .piece k t p c K Y r, B, o =>
    w.cell? ⟨B, o, none⟩ = some (.int .i64 k) ∧ w.cell? ⟨B, o + 1, none⟩ = some (.string t) ∧ w.cell? ⟨B, o + 2, none⟩ = some (.int .i64 p) ∧ w.cell? ⟨B, o + 3, none⟩ = some (.bool c) ∧
    (∃ A c, w.cell? ⟨B, o + 4, none⟩ = some (.slice A K.len c) ∧ K.len ≤ c ∧ c ≤ maxLen ∧ (0 < K.len → ∃ B' o', A = some ⟨B', o', none⟩ ∧ B' < w.heap.size ∧ Rw w K B' o')) ∧
    (∃ A c, w.cell? ⟨B, o + 5, none⟩ = some (.slice A Y.len c) ∧ Y.len ≤ c ∧ c ≤ maxLen ∧ (0 < Y.len → ∃ B' o', A = some ⟨B', o', none⟩ ∧ B' < w.heap.size ∧ Rw w Y B' o')) ∧
    Rw w r B (o + 6)
  | .set n x r, B, o =>
    w.cell? ⟨B, o, none⟩ = some (.string n) ∧
    (∃ A c, w.cell? ⟨B, o + 1, none⟩ = some (.slice A x.len c) ∧ x.len ≤ c ∧ c ≤ maxLen ∧ (0 < x.len → ∃ B' o', A = some ⟨B', o', none⟩ ∧ B' < w.heap.size ∧ Rw w x B' o')) ∧
    Rw w r B (o + 2)
  | .redir fd k x r, B, o =>
    w.cell? ⟨B, o, none⟩ = some (.int .i64 fd) ∧ w.cell? ⟨B, o + 1, none⟩ = some (.int .i64 k) ∧
    (∃ A c, w.cell? ⟨B, o + 2, none⟩ = some (.slice A x.len c) ∧ x.len ≤ c ∧ c ≤ maxLen ∧ (0 < x.len → ∃ B' o', A = some ⟨B', o', none⟩ ∧ B' < w.heap.size ∧ Rw w x B' o')) ∧
    Rw w r B (o + 3)
  | .case W Y r, B, o =>
    (∃ A c, w.cell? ⟨B, o, none⟩ = some (.slice A W.len c) ∧ W.len ≤ c ∧ c ≤ maxLen ∧ (0 < W.len → ∃ B' o', A = some ⟨B', o', none⟩ ∧ B' < w.heap.size ∧ Rw w W B' o')) ∧
    (∃ A c, w.cell? ⟨B, o + 1, none⟩ = some (.slice A Y.len c) ∧ Y.len ≤ c ∧ c ≤ maxLen ∧ (0 < Y.len → ∃ B' o', A = some ⟨B', o', none⟩ ∧ B' < w.heap.size ∧ Rw w Y B' o')) ∧
    Rw w r B (o + 2)
  | .row x r, B, o =>
    (∃ A c, w.cell? ⟨B, o, none⟩ = some (.slice A x.len c) ∧ x.len ≤ c ∧ c ≤ maxLen ∧ (0 < x.len → ∃ B' o', A = some ⟨B', o', none⟩ ∧ B' < w.heap.size ∧ Rw w x B' o')) ∧
    Rw w r B (o + 1)
/-- A slice is a row. -/
def Slc (w : World) (A : Option Addr) (c : Nat) (f : F) : Prop := f.len ≤ c ∧ c ≤ maxLen ∧ (0 < f.len → ∃ B o, A = some ⟨B, o, none⟩ ∧ B < w.heap.size ∧ Rw w f B o)
/-- A cell holds a row's slice. -/
def Cs (w : World) (B o : Nat) (f : F) : Prop := ∃ A c, w.cell? ⟨B, o, none⟩ = some (.slice A f.len c) ∧ Slc w A c f
theorem rw_node {w : World} {k : Int} {b g : Bool} {n : ByteArray} {S W R L C r : F} {B o : Nat} : Rw w (.node k b n g S W R L C r) B o ↔ (w.cell? ⟨B, o, none⟩ = some (.int .i64 k) ∧ w.cell? ⟨B, o + 1, none⟩ = some (.bool b) ∧ w.cell? ⟨B, o + 2, none⟩ = some (.string n) ∧ w.cell? ⟨B, o + 3, none⟩ = some (.bool g) ∧ Cs w B (o + 4) S ∧ Cs w B (o + 5) W ∧ Cs w B (o + 6) R ∧ Cs w B (o + 7) L ∧ Cs w B (o + 8) C ∧ Rw w r B (o + 9)) := Iff.rfl
theorem rw_piece {w : World} {k p : Int} {c : Bool} {t : ByteArray} {K Y r : F} {B o : Nat} : Rw w (.piece k t p c K Y r) B o ↔ (w.cell? ⟨B, o, none⟩ = some (.int .i64 k) ∧ w.cell? ⟨B, o + 1, none⟩ = some (.string t) ∧ w.cell? ⟨B, o + 2, none⟩ = some (.int .i64 p) ∧ w.cell? ⟨B, o + 3, none⟩ = some (.bool c) ∧ Cs w B (o + 4) K ∧ Cs w B (o + 5) Y ∧ Rw w r B (o + 6)) := Iff.rfl
theorem rw_set {w : World} {n : ByteArray} {x r : F} {B o : Nat} : Rw w (.set n x r) B o ↔ (w.cell? ⟨B, o, none⟩ = some (.string n) ∧ Cs w B (o + 1) x ∧ Rw w r B (o + 2)) := Iff.rfl
theorem rw_redir {w : World} {fd k : Int} {x r : F} {B o : Nat} : Rw w (.redir fd k x r) B o ↔ (w.cell? ⟨B, o, none⟩ = some (.int .i64 fd) ∧ w.cell? ⟨B, o + 1, none⟩ = some (.int .i64 k) ∧ Cs w B (o + 2) x ∧ Rw w r B (o + 3)) := Iff.rfl
theorem rw_case {w : World} {W Y r : F} {B o : Nat} : Rw w (.case W Y r) B o ↔ (Cs w B o W ∧ Cs w B (o + 1) Y ∧ Rw w r B (o + 2)) := Iff.rfl
theorem rw_row {w : World} {x r : F} {B o : Nat} : Rw w (.row x r) B o ↔ (Cs w B o x ∧ Rw w r B (o + 1)) := Iff.rfl
section
variable {w w' : World} {f : F} {A : Option Addr} {c t : Nat}
theorem cell_below {B o : Nat} {v : Value} (hb : Below w.heap.size w w') (hB : B < w.heap.size) (h : w.cell? ⟨B, o, none⟩ = some v) : w'.cell? ⟨B, o, none⟩ = some v := (World.cell?_of_block (a := ⟨B, o, none⟩) (hb.block B hB)).trans h
theorem cs_below {x : F} {B o : Nat} (hb : Below w.heap.size w w') (hB : B < w.heap.size) (ih : ∀ B o, Rw w x B o → B < w.heap.size → Rw w' x B o) (h : Cs w B o x) : Cs w' B o x := by
  obtain ⟨A, c, h1, h2, h3, h4⟩ := h
  refine ⟨A, c, cell_below hb hB h1, h2, h3, fun hn => ?_⟩
  obtain ⟨B', o', e, hl, hr⟩ := h4 hn
  exact ⟨B', o', e, Nat.lt_of_lt_of_le hl hb.size, ih B' o' hr hl⟩
theorem Rw.below (hb : Below w.heap.size w w') : ∀ {f : F} {B o : Nat}, Rw w f B o → B < w.heap.size → Rw w' f B o := fun {f} => by
  induction f with
  | nil => exact fun _ _ => trivial
  | node k b n g S W R L C r h1 h2 h3 h4 h5 ih =>
    intro B o h hB
    obtain ⟨a0, a1, a2, a3, a4, a5, a6, a7, a8, a9⟩ := rw_node.1 h
    exact rw_node.2 ⟨cell_below hb hB a0, cell_below hb hB a1, cell_below hb hB a2, cell_below hb hB a3, cs_below hb hB (fun _ _ => h1) a4, cs_below hb hB (fun _ _ => h2) a5, cs_below hb hB (fun _ _ => h3) a6, cs_below hb hB (fun _ _ => h4) a7, cs_below hb hB (fun _ _ => h5) a8, ih a9 hB⟩
  | piece k t p c K Y r h1 h2 ih =>
    intro B o h hB
    obtain ⟨a0, a1, a2, a3, a4, a5, a6⟩ := rw_piece.1 h
    exact rw_piece.2 ⟨cell_below hb hB a0, cell_below hb hB a1, cell_below hb hB a2, cell_below hb hB a3, cs_below hb hB (fun _ _ => h1) a4, cs_below hb hB (fun _ _ => h2) a5, ih a6 hB⟩
  | set n x r h1 ih =>
    intro B o h hB
    obtain ⟨a0, a1, a2⟩ := rw_set.1 h
    exact rw_set.2 ⟨cell_below hb hB a0, cs_below hb hB (fun _ _ => h1) a1, ih a2 hB⟩
  | redir fd k x r h1 ih =>
    intro B o h hB
    obtain ⟨a0, a1, a2, a3⟩ := rw_redir.1 h
    exact rw_redir.2 ⟨cell_below hb hB a0, cell_below hb hB a1, cs_below hb hB (fun _ _ => h1) a2, ih a3 hB⟩
  | case W Y r h1 h2 ih =>
    intro B o h hB
    obtain ⟨a0, a1, a2⟩ := rw_case.1 h
    exact rw_case.2 ⟨cs_below hb hB (fun _ _ => h1) a0, cs_below hb hB (fun _ _ => h2) a1, ih a2 hB⟩
  | row x r h1 ih =>
    intro B o h hB
    obtain ⟨a0, a1⟩ := rw_row.1 h
    exact rw_row.2 ⟨cs_below hb hB (fun _ _ => h1) a0, ih a1 hB⟩
theorem Slc.below (h : Slc w A c f) (hb : Below w.heap.size w w') : Slc w' A c f := ⟨h.1, h.2.1, fun hn => by
  obtain ⟨B, o, e, hl, hr⟩ := h.2.2 hn
  exact ⟨B, o, e, Nat.lt_of_lt_of_le hl hb.size, hr.below hb hl⟩⟩
theorem Slc.nil : Slc w none 0 .nil := ⟨Nat.le_refl _, Nat.zero_le _, fun h => absurd h (Nat.lt_irrefl 0)⟩
/-- How many cells a thing has. -/
def szT : Nat → Nat
  | 0 => 9
  | 1 => 6
  | 2 => 2
  | 3 => 3
  | 4 => 2
  | _ => 1
theorem rw_tl {B o : Nat} (ht : Ty f t) (hn : 0 < f.len) (h : Rw w f B o) : Rw w f.tl B (o + szT t) := by
  cases f with
  | nil => exact absurd hn (Nat.lt_irrefl 0)
  | node => obtain ⟨rfl, _⟩ := ht; exact (rw_node.1 h).2.2.2.2.2.2.2.2.2
  | piece => obtain ⟨rfl, _⟩ := ht; exact (rw_piece.1 h).2.2.2.2.2.2
  | set => obtain ⟨rfl, _⟩ := ht; exact (rw_set.1 h).2.2
  | redir => obtain ⟨rfl, _⟩ := ht; exact (rw_redir.1 h).2.2.2
  | case => obtain ⟨rfl, _⟩ := ht; exact (rw_case.1 h).2.2
  | row => rcases ht with ⟨rfl, _⟩ | ⟨rfl, _⟩ <;> exact (rw_row.1 h).2
theorem rw_drop : ∀ (j : Nat) {f : F} {B o : Nat}, Ty f t → j ≤ f.len → Rw w f B o → Rw w (f.drop j) B (o + j * szT t)
  | 0, f, B, o, _, _, h => by simpa [F.drop] using h
  | j + 1, f, B, o, ht, hj, h => by
    have := rw_drop j (ty_tl ht) (by rw [len_tl]; omega) (rw_tl ht (by omega) h)
    rw [show o + (j + 1) * szT t = o + szT t + j * szT t by rw [Nat.succ_mul]; omega]
    exact this
/-- The thing at a place. -/
theorem at_node (ht : Ty f 0) (hn : 0 < f.len) : ∃ k b n g S W R L C r, f = .node k b n g S W R L C r ∧ I64 k ∧ Ty S 2 ∧ Ty W 5 ∧ Ty R 3 ∧ Ty L 6 ∧ Ty C 4 ∧ Ty r 0 := by
  cases f with
  | nil => exact absurd hn (Nat.lt_irrefl 0)
  | node k b n g S W R L C r => exact ⟨k, b, n, g, S, W, R, L, C, r, rfl, ht.2⟩
  | piece => exact absurd ht.1 (by decide)
  | set => exact absurd ht.1 (by decide)
  | redir => exact absurd ht.1 (by decide)
  | case => exact absurd ht.1 (by decide)
  | row => rcases ht with h | h <;> exact absurd h.1 (by decide)
theorem at_piece (ht : Ty f 1) (hn : 0 < f.len) : ∃ k x o c K Y r, f = .piece k x o c K Y r ∧ I64 k ∧ I64 o ∧ Ty K 1 ∧ Ty Y 0 ∧ Ty r 1 := by
  cases f with
  | nil => exact absurd hn (Nat.lt_irrefl 0)
  | piece k x o c K Y r => exact ⟨k, x, o, c, K, Y, r, rfl, ht.2⟩
  | node => exact absurd ht.1 (by decide)
  | set => exact absurd ht.1 (by decide)
  | redir => exact absurd ht.1 (by decide)
  | case => exact absurd ht.1 (by decide)
  | row => rcases ht with h | h <;> exact absurd h.1 (by decide)
theorem at_set (ht : Ty f 2) (hn : 0 < f.len) : ∃ n x r, f = .set n x r ∧ Ty x 1 ∧ Ty r 2 := by
  cases f with
  | nil => exact absurd hn (Nat.lt_irrefl 0)
  | set n x r => exact ⟨n, x, r, rfl, ht.2⟩
  | node => exact absurd ht.1 (by decide)
  | piece => exact absurd ht.1 (by decide)
  | redir => exact absurd ht.1 (by decide)
  | case => exact absurd ht.1 (by decide)
  | row => rcases ht with h | h <;> exact absurd h.1 (by decide)
theorem at_redir (ht : Ty f 3) (hn : 0 < f.len) : ∃ fd k x r, f = .redir fd k x r ∧ I64 fd ∧ I64 k ∧ Ty x 1 ∧ Ty r 3 := by
  cases f with
  | nil => exact absurd hn (Nat.lt_irrefl 0)
  | redir fd k x r => exact ⟨fd, k, x, r, rfl, ht.2⟩
  | node => exact absurd ht.1 (by decide)
  | piece => exact absurd ht.1 (by decide)
  | set => exact absurd ht.1 (by decide)
  | case => exact absurd ht.1 (by decide)
  | row => rcases ht with h | h <;> exact absurd h.1 (by decide)
theorem at_case (ht : Ty f 4) (hn : 0 < f.len) : ∃ W Y r, f = .case W Y r ∧ Ty W 5 ∧ Ty Y 0 ∧ Ty r 4 := by
  cases f with
  | nil => exact absurd hn (Nat.lt_irrefl 0)
  | case W Y r => exact ⟨W, Y, r, rfl, ht.2⟩
  | node => exact absurd ht.1 (by decide)
  | piece => exact absurd ht.1 (by decide)
  | set => exact absurd ht.1 (by decide)
  | redir => exact absurd ht.1 (by decide)
  | row => rcases ht with h | h <;> exact absurd h.1 (by decide)
theorem at_word (ht : Ty f 5) (hn : 0 < f.len) : ∃ x r, f = .row x r ∧ Ty x 1 ∧ Ty r 5 := by
  cases f with
  | nil => exact absurd hn (Nat.lt_irrefl 0)
  | row x r => rcases ht with h | h; exact ⟨x, r, rfl, h.2⟩; exact absurd h.1 (by decide)
  | node => exact absurd ht.1 (by decide)
  | piece => exact absurd ht.1 (by decide)
  | set => exact absurd ht.1 (by decide)
  | redir => exact absurd ht.1 (by decide)
  | case => exact absurd ht.1 (by decide)
theorem at_list (ht : Ty f 6) (hn : 0 < f.len) : ∃ x r, f = .row x r ∧ Ty x 0 ∧ Ty r 6 := by
  cases f with
  | nil => exact absurd hn (Nat.lt_irrefl 0)
  | row x r => rcases ht with h | h; exact absurd h.1 (by decide); exact ⟨x, r, rfl, h.2⟩
  | node => exact absurd ht.1 (by decide)
  | piece => exact absurd ht.1 (by decide)
  | set => exact absurd ht.1 (by decide)
  | redir => exact absurd ht.1 (by decide)
  | case => exact absurd ht.1 (by decide)
end
end Go.Proofs.YtmchfoedjajbdaaGreat
/-
  Arguments opened: rows of commands, however deep. Conditions: none.
-/
set_option linter.unusedSimpArgs false
set_option linter.unusedVariables false
namespace Go.Proofs.YtmchfoedjajbdaaGreat
open Go Go.ChangeShapes Go.WideShapes Go.ChangeAt Go.RowKit Go.Deep

theorem rowOwn : ownKnob Tryz.prog.godebug = none := by kernel_rfl
theorem rowOut : laidOutB Tryz.prog = true := by kernel_rfl
/-- A world for the witness: the settled one. -/
noncomputable def plainWorld (os : Os) : World := World.holding Tryz.prog os ⟨#[], #[], []⟩
theorem laid_none (m : World) : laidMet Tryz.prog [] m := ⟨[], rfl, List.nodup_nil, fun _ _ h => by cases h⟩
theorem clInt : Tryz.prog.cellsOf 3 = 1 := by kernel_rfl
theorem clBool : Tryz.prog.cellsOf 4 = 1 := by kernel_rfl
theorem clStr : Tryz.prog.cellsOf 9 = 1 := by kernel_rfl
theorem clNodes : Tryz.prog.cellsOf 22 = 1 := by kernel_rfl
theorem clPieces : Tryz.prog.cellsOf 28 = 1 := by kernel_rfl
theorem clWord : Tryz.prog.cellsOf 29 = 1 := by kernel_rfl
theorem clSets : Tryz.prog.cellsOf 37 = 1 := by kernel_rfl
theorem clRedirs : Tryz.prog.cellsOf 39 = 1 := by kernel_rfl
theorem clCases : Tryz.prog.cellsOf 41 = 1 := by kernel_rfl
theorem clWords : Tryz.prog.cellsOf 38 = 1 := by kernel_rfl
theorem clLists : Tryz.prog.cellsOf 40 = 1 := by kernel_rfl
theorem clNode : Tryz.prog.cellsOf 43 = 9 := by kernel_rfl
theorem clPiece : Tryz.prog.cellsOf 66 = 6 := by kernel_rfl
theorem clSet : Tryz.prog.cellsOf 50 = 2 := by kernel_rfl
theorem clRedir : Tryz.prog.cellsOf 69 = 3 := by kernel_rfl
theorem clCase : Tryz.prog.cellsOf 45 = 2 := by kernel_rfl
theorem flNode : ∃ f0 f1 f2 f3 f4 f5 f6 f7 f8 : Field, Tryz.prog.underlying 43 = some (.struct #[f0, f1, f2, f3, f4, f5, f6, f7, f8]) ∧ (f0.offset = 0 ∧ f1.offset = 1 ∧ f2.offset = 2 ∧ f3.offset = 3 ∧ f4.offset = 4 ∧ f5.offset = 5 ∧ f6.offset = 6 ∧ f7.offset = 7 ∧ f8.offset = 8) ∧ f0.type = 3 ∧ f1.type = 4 ∧ f2.type = 9 ∧ f3.type = 4 ∧ f4.type = 37 ∧ f5.type = 38 ∧ f6.type = 39 ∧ f7.type = 40 ∧ f8.type = 41 :=
  ⟨_, _, _, _, _, _, _, _, _, Tryz.underlying43, ⟨rfl, rfl, rfl, rfl, rfl, rfl, rfl, rfl, rfl⟩, rfl, rfl, rfl, rfl, rfl, rfl, rfl, rfl, rfl⟩
theorem flPiece : ∃ f0 f1 f2 f3 f4 f5 : Field, Tryz.prog.underlying 66 = some (.struct #[f0, f1, f2, f3, f4, f5]) ∧ (f0.offset = 0 ∧ f1.offset = 1 ∧ f2.offset = 2 ∧ f3.offset = 3 ∧ f4.offset = 4 ∧ f5.offset = 5) ∧ f0.type = 3 ∧ f1.type = 9 ∧ f2.type = 3 ∧ f3.type = 4 ∧ f4.type = 28 ∧ f5.type = 22 :=
  ⟨_, _, _, _, _, _, Tryz.underlying66, ⟨rfl, rfl, rfl, rfl, rfl, rfl⟩, rfl, rfl, rfl, rfl, rfl, rfl⟩
theorem flSet : ∃ f0 f1 : Field, Tryz.prog.underlying 50 = some (.struct #[f0, f1]) ∧ (f0.offset = 0 ∧ f1.offset = 1) ∧ f0.type = 9 ∧ f1.type = 29 :=
  ⟨_, _, Tryz.underlying50, ⟨rfl, rfl⟩, rfl, rfl⟩
theorem flRedir : ∃ f0 f1 f2 : Field, Tryz.prog.underlying 69 = some (.struct #[f0, f1, f2]) ∧ (f0.offset = 0 ∧ f1.offset = 1 ∧ f2.offset = 2) ∧ f0.type = 3 ∧ f1.type = 3 ∧ f2.type = 29 :=
  ⟨_, _, _, Tryz.underlying69, ⟨rfl, rfl, rfl⟩, rfl, rfl, rfl⟩
theorem flCase : ∃ f0 f1 : Field, Tryz.prog.underlying 45 = some (.struct #[f0, f1]) ∧ (f0.offset = 0 ∧ f1.offset = 1) ∧ f0.type = 38 ∧ f1.type = 22 :=
  ⟨_, _, Tryz.underlying45, ⟨rfl, rfl⟩, rfl, rfl⟩
/-- One thing ahead of a row. -/
def F.cons : F → F → F
  | .nil, r => r
  | .node k b n g S W R L C _, r => .node k b n g S W R L C r
  | .piece k t p c K Y _, r => .piece k t p c K Y r
  | .set n x _, r => .set n x r
  | .redir d k x _, r => .redir d k x r
  | .case W Y _, r => .case W Y r
  | .row x _, r => .row x r
theorem cons_all {W : World} {h r : F} {t B o : Nat} (hl : h.len = 1) (ht : Ty h t) (hr : Ty r t) (hw : Rw W h B o) (hw2 : Rw W r B (o + szT t)) : (F.cons h r).len = r.len + 1 ∧ Ty (F.cons h r) t ∧ Rw W (F.cons h r) B o ∧ wt (F.cons h r) = wt h + wt r := by
  cases h with
  | nil => exact absurd hl (by decide)
  | node k b n g S W2 R L C q =>
    obtain rfl : q = .nil := len0 (by have : q.len + 1 = 1 := hl; omega)
    obtain ⟨rfl, a1, a2, a3, a4, a5, a6, _⟩ := ht
    obtain ⟨b0, b1, b2, b3, b4, b5, b6, b7, b8, _⟩ := rw_node.1 hw
    exact ⟨rfl, ⟨rfl, a1, a2, a3, a4, a5, a6, hr⟩, rw_node.2 ⟨b0, b1, b2, b3, b4, b5, b6, b7, b8, hw2⟩, by simp only [F.cons, wt]; omega⟩
  | piece k x p c K Y q =>
    obtain rfl : q = .nil := len0 (by have : q.len + 1 = 1 := hl; omega)
    obtain ⟨rfl, a1, a2, a3, a4, _⟩ := ht
    obtain ⟨b0, b1, b2, b3, b4, b5, _⟩ := rw_piece.1 hw
    exact ⟨rfl, ⟨rfl, a1, a2, a3, a4, hr⟩, rw_piece.2 ⟨b0, b1, b2, b3, b4, b5, hw2⟩, by simp only [F.cons, wt]; omega⟩
  | set n x q =>
    obtain rfl : q = .nil := len0 (by have : q.len + 1 = 1 := hl; omega)
    obtain ⟨rfl, a1, _⟩ := ht
    obtain ⟨b0, b1, _⟩ := rw_set.1 hw
    exact ⟨rfl, ⟨rfl, a1, hr⟩, rw_set.2 ⟨b0, b1, hw2⟩, by simp only [F.cons, wt]; omega⟩
  | redir d k x q =>
    obtain rfl : q = .nil := len0 (by have : q.len + 1 = 1 := hl; omega)
    obtain ⟨rfl, a1, a2, a3, _⟩ := ht
    obtain ⟨b0, b1, b2, _⟩ := rw_redir.1 hw
    exact ⟨rfl, ⟨rfl, a1, a2, a3, hr⟩, rw_redir.2 ⟨b0, b1, b2, hw2⟩, by simp only [F.cons, wt]; omega⟩
  | case X Y q =>
    obtain rfl : q = .nil := len0 (by have : q.len + 1 = 1 := hl; omega)
    obtain ⟨rfl, a1, a2, _⟩ := ht
    obtain ⟨b0, b1, _⟩ := rw_case.1 hw
    exact ⟨rfl, ⟨rfl, a1, a2, hr⟩, rw_case.2 ⟨b0, b1, hw2⟩, by simp only [F.cons, wt]; omega⟩
  | row x q =>
    obtain rfl : q = .nil := len0 (by have : q.len + 1 = 1 := hl; omega)
    obtain ⟨b0, _⟩ := rw_row.1 hw
    rcases ht with ⟨rfl, a1, _⟩ | ⟨rfl, a1, _⟩
    · exact ⟨rfl, .inl ⟨rfl, a1, hr⟩, rw_row.2 ⟨b0, hw2⟩, by simp only [F.cons, wt]; omega⟩
    · exact ⟨rfl, .inr ⟨rfl, a1, hr⟩, rw_row.2 ⟨b0, hw2⟩, by simp only [F.cons, wt]; omega⟩
theorem build {H : Type} {W : World} {B o t len : Nat} {ds : List (DataW H)} (hds : ds.length = len) (hd : Nat → F) (h : ∀ i, i < len → (hd i).len = 1 ∧ Ty (hd i) t ∧ Rw W (hd i) B (o + i * szT t) ∧ ∀ d, ds[i]? = some d → wt (hd i) ≤ Rows.uptoBulk d) : ∀ n, n ≤ len → ∃ f : F, f.len = n ∧ Ty f t ∧ Rw W f B (o + (len - n) * szT t) ∧ wt f ≤ Rows.uptoBulkAll (ds.drop (len - n))
  | 0, _ => ⟨.nil, rfl, trivial, trivial, Nat.zero_le _⟩
  | n + 1, hn => by
    obtain ⟨f, h1, h2, h3, h4⟩ := build hds hd h n (by omega)
    obtain ⟨a1, a2, a3, a4⟩ := h (len - (n + 1)) (by omega)
    have e : len - n = len - (n + 1) + 1 := by omega
    rw [e] at h3 h4
    have h3' : Rw W f B (o + (len - (n + 1)) * szT t + szT t) := by rw [Nat.succ_mul] at h3; rwa [Nat.add_assoc]
    obtain ⟨c1, c2, c3, c4⟩ := cons_all a1 a2 h2 a3 h3'
    refine ⟨F.cons (hd (len - (n + 1))) f, by rw [c1, h1], c2, c3, ?_⟩
    have hlt : len - (n + 1) < ds.length := by omega
    rw [List.drop_eq_getElem_cons hlt, c4]
    have := a4 _ (List.getElem?_eq_getElem hlt)
    simp only [Rows.uptoBulkAll]
    omega
instance : Inhabited F := ⟨.nil⟩
section
variable {H : Type} {enc : TypeId × Value → H} {W : World}
theorem op_int {fuel : Nat} {v : Value} {x : DataW H × List MemPlace} (h : DataW.trod enc Tryz.prog W 0 (fun _ => true) true fuel 3 [v] = some x) : ∃ n : Int, v = .int .i64 n ∧ I64 n ∧ Rows.uptoBulk x.1 = 1 := by
  obtain ⟨n, e1, e2, wk⟩ := DataW.trod_int Tryz.underlying3 h
  refine ⟨n, by simpa using e1, ?_, by rw [e2]; rfl⟩
  have m1 : IntKind.i64.min = -9223372036854775808 := rfl
  have m2 : IntKind.i64.max = 9223372036854775807 := rfl
  simp only [Lit.wf, Bool.and_eq_true, decide_eq_true_eq] at wk
  unfold I64
  omega
theorem op_bool {fuel : Nat} {v : Value} {x : DataW H × List MemPlace} (h : DataW.trod enc Tryz.prog W 0 (fun _ => true) true fuel 4 [v] = some x) : ∃ b : Bool, v = .bool b ∧ Rows.uptoBulk x.1 = 1 := by
  obtain ⟨b, e1, e2⟩ := DataW.trod_bool Tryz.underlying4 h
  exact ⟨b, by simpa using e1, by rw [e2]; rfl⟩
theorem op_str {fuel : Nat} {v : Value} {x : DataW H × List MemPlace} (h : DataW.trod enc Tryz.prog W 0 (fun _ => true) true fuel 9 [v] = some x) : ∃ s : ByteArray, v = .string s ∧ Rows.uptoBulk x.1 = s.size + 1 := by
  obtain ⟨s, e1, e2, _⟩ := DataW.trod_string Tryz.underlying9 h
  exact ⟨s, by simpa using e1, by rw [e2, Lib.size_eq]; rfl⟩
/-- What a slice of so little fuel is. -/
def SlOk (enc : TypeId × Value → H) (W : World) (fuel : Nat) (T : TypeId) (t : Nat) : Prop := ∀ (v : Value) (x : DataW H × List MemPlace), DataW.trod enc Tryz.prog W 0 (fun _ => true) true fuel T [v] = some x → (∀ y ∈ x.2, y.block < W.heap.size) → ∃ f A c, v = .slice A f.len c ∧ Slc W A c f ∧ Ty f t ∧ wt f + 1 ≤ Rows.uptoBulk x.1
/-- What an element of a slice is. -/
def ElOk (enc : TypeId × Value → H) (W : World) (fuel : Nat) (T : TypeId) (t : Nat) : Prop := ∀ (cs : List Value) (x : DataW H × List MemPlace), cs.length = szT t → DataW.trod enc Tryz.prog W 0 (fun _ => true) true fuel T cs = some x → (∀ y ∈ x.2, y.block < W.heap.size) → ∃ h : F, h.len = 1 ∧ Ty h t ∧ (∀ B o, (∀ j (hj : j < cs.length), W.cell? ⟨B, o + j, none⟩ = some cs[j]) → Rw W h B o) ∧ wt h ≤ Rows.uptoBulk x.1
theorem sl_of {T E : TypeId} {t fuel : Nat} (hT : Tryz.prog.underlying T = some (.slice E)) (hE : Tryz.prog.cellsOf E = szT t) (ih : ∀ m, m < fuel → ElOk enc W m E t) (hsz : 0 < szT t) : SlOk enc W fuel T t := by
  intro v x h hlt
  rcases DataW.trod_slice hT h with ⟨hcs, hx⟩ | ⟨a, len, cap, elems, rest, m, hm, hcs, hx, _, hl, hmx, hel, hi, _, _⟩
  · obtain rfl : v = .slice none 0 0 := by simpa using hcs
    exact ⟨.nil, none, 0, rfl, Slc.nil, trivial, by rw [hx]; exact Nat.le_refl 1⟩
  · obtain rfl : v = .slice (some a) len cap := by simpa using hcs
    have each : ∀ i, i < len → ∃ h : F, h.len = 1 ∧ Ty h t ∧ (∃ cs : List Value, cs.length = szT t ∧ (∀ j (hj : j < cs.length), W.cell? (a.add (i * szT t + j)) = some cs[j]) ∧ ∀ B o, (∀ j (hj : j < cs.length), W.cell? ⟨B, o + j, none⟩ = some cs[j]) → Rw W h B o) ∧ ∀ d, (elems.map (·.1))[i]? = some d → wt h ≤ Rows.uptoBulk d := by
      intro i hil
      have h1 := hi i hil
      rw [List.getElem?_eq_getElem (by omega)] at h1
      obtain ⟨cs', h2, h3⟩ := Option.bind_eq_some_iff.1 h1
      rw [hE] at h2
      obtain ⟨_, hlen2, hcell⟩ := World.cells?_some h2
      obtain ⟨h, b1, b2, b3, b4⟩ := ih m (by omega) cs' _ hlen2 h3 (fun y hy => hlt y (by
        rw [hx]
        refine List.mem_append_right _ (List.mem_flatMap.2 ⟨elems[i]'(by omega), List.mem_append_left _ (List.getElem_mem _), hy⟩)))
      refine ⟨h, b1, b2, ⟨cs', hlen2, fun j hj => ?_, b3⟩, fun d hd => ?_⟩
      · have := hcell j (by omega)
        rw [add_add, List.getElem?_eq_getElem hj] at this
        exact this
      · rw [List.getElem?_map, List.getElem?_eq_getElem (by omega)] at hd
        obtain rfl := Option.some.inj hd
        exact b4
    obtain ⟨C, hC⟩ := choose_lt (α := F) each
    have hbulk : Rows.uptoBulkAll (elems.map (·.1)) + 1 ≤ Rows.uptoBulk x.1 := by rw [hx]; simp only [Rows.uptoBulk]; omega
    rcases Nat.eq_zero_or_pos len with h0 | hpos
    · subst h0
      exact ⟨.nil, some a, cap, rfl, ⟨Nat.zero_le _, hmx, fun h => absurd h (Nat.lt_irrefl 0)⟩, trivial, by simp only [wt]; omega⟩
    · obtain ⟨b, off, spot⟩ := a
      have hspot : spot = none := by
        obtain ⟨cs0, hs0, hc0, _⟩ := (hC 0 hpos).2.2.1
        simpa [Addr.add] using World.cell?_spot (hc0 0 (by omega))
      subst hspot
      obtain ⟨f, f1, f2, f3, f4⟩ := build (W := W) (B := b) (o := off) (t := t) (len := len) (ds := elems.map (·.1)) (by simpa using hel) C (fun i hi => ⟨(hC i hi).1, (hC i hi).2.1, by
        obtain ⟨cs, k1, k2, k3⟩ := (hC i hi).2.2.1
        refine k3 _ _ fun j hj => ?_
        have := k2 j hj
        rw [add_plain0] at this
        rwa [show off + i * szT t + j = off + (i * szT t + j) by omega], (hC i hi).2.2.2⟩) len (Nat.le_refl _)
      rw [Nat.sub_self, Nat.zero_mul, Nat.add_zero] at f3
      rw [Nat.sub_self, List.drop_zero] at f4
      have hb : b < W.heap.size := hlt (.cell b off) (by
        rw [hx]
        refine List.mem_append_left _ (MemPlace.mem_row.2 ⟨0, ?_, by simp⟩)
        rw [hE]
        have : 0 < elems.length + rest.length := by omega
        exact Nat.mul_pos this hsz)
      exact ⟨f, some ⟨b, off, none⟩, cap, by rw [f1], ⟨by rw [f1]; exact hl, hmx, fun _ => ⟨b, off, rfl, hb, f3⟩⟩, f2, by omega⟩
set_option maxRecDepth 100000 in
theorem el_ofNode {fuel : Nat} (q4 : ∀ m, m < fuel → SlOk enc W m 37 2) (q5 : ∀ m, m < fuel → SlOk enc W m 38 5) (q6 : ∀ m, m < fuel → SlOk enc W m 39 3) (q7 : ∀ m, m < fuel → SlOk enc W m 40 6) (q8 : ∀ m, m < fuel → SlOk enc W m 41 4) : ElOk enc W fuel 43 0 := by
  intro cs x hlen h hlt
  obtain ⟨f0, f1, f2, f3, f4, f5, f6, f7, f8, he, ⟨o0, o1, o2, o3, o4, o5, o6, o7, o8⟩, t0, t1, t2, t3, t4, t5, t6, t7, t8⟩ := flNode
  obtain ⟨xs, m, hm, hxy, _, hxl, hg⟩ := DataW.trod_struct he h
  match cs, hlen, xs, hxl with
  | [c0, c1, c2, c3, c4, c5, c6, c7, c8], _, [x0, x1, x2, x3, x4, x5, x6, x7, x8], _ =>
    have g0 := hg 0 f0 rfl
    rw [o0, t0, clInt] at g0
    have g1 := hg 1 f1 rfl
    rw [o1, t1, clBool] at g1
    have g2 := hg 2 f2 rfl
    rw [o2, t2, clStr] at g2
    have g3 := hg 3 f3 rfl
    rw [o3, t3, clBool] at g3
    have g4 := hg 4 f4 rfl
    rw [o4, t4, clSets] at g4
    have g5 := hg 5 f5 rfl
    rw [o5, t5, clWords] at g5
    have g6 := hg 6 f6 rfl
    rw [o6, t6, clRedirs] at g6
    have g7 := hg 7 f7 rfl
    rw [o7, t7, clLists] at g7
    have g8 := hg 8 f8 rfl
    rw [o8, t8, clCases] at g8
    obtain ⟨a0, e0, w0, b0⟩ := op_int (v := c0) (x := x0) (by simpa using g0)
    obtain ⟨a1, e1, b1⟩ := op_bool (v := c1) (x := x1) (by simpa using g1)
    obtain ⟨a2, e2, b2⟩ := op_str (v := c2) (x := x2) (by simpa using g2)
    obtain ⟨a3, e3, b3⟩ := op_bool (v := c3) (x := x3) (by simpa using g3)
    obtain ⟨a4, A4, k4, e4, w4, y4, b4⟩ := q4 m (by omega) c4 x4 (by simpa using g4) (fun y hy => hlt y (by rw [hxy]; exact List.mem_flatMap.2 ⟨x4, by simp, hy⟩))
    obtain ⟨a5, A5, k5, e5, w5, y5, b5⟩ := q5 m (by omega) c5 x5 (by simpa using g5) (fun y hy => hlt y (by rw [hxy]; exact List.mem_flatMap.2 ⟨x5, by simp, hy⟩))
    obtain ⟨a6, A6, k6, e6, w6, y6, b6⟩ := q6 m (by omega) c6 x6 (by simpa using g6) (fun y hy => hlt y (by rw [hxy]; exact List.mem_flatMap.2 ⟨x6, by simp, hy⟩))
    obtain ⟨a7, A7, k7, e7, w7, y7, b7⟩ := q7 m (by omega) c7 x7 (by simpa using g7) (fun y hy => hlt y (by rw [hxy]; exact List.mem_flatMap.2 ⟨x7, by simp, hy⟩))
    obtain ⟨a8, A8, k8, e8, w8, y8, b8⟩ := q8 m (by omega) c8 x8 (by simpa using g8) (fun y hy => hlt y (by rw [hxy]; exact List.mem_flatMap.2 ⟨x8, by simp, hy⟩))
    subst e0 e1 e2 e3 e4 e5 e6 e7 e8
    refine ⟨.node a0 a1 a2 a3 a4 a5 a6 a7 a8 .nil, rfl, ⟨rfl, w0, y4, y5, y6, y7, y8, trivial⟩, fun B o hB => rw_node.2 ⟨by have := hB 0 (by simp); simpa using this, by have := hB 1 (by simp); simpa using this, by have := hB 2 (by simp); simpa using this, by have := hB 3 (by simp); simpa using this, ⟨A4, k4, by have := hB 4 (by simp); simpa using this, w4⟩, ⟨A5, k5, by have := hB 5 (by simp); simpa using this, w5⟩, ⟨A6, k6, by have := hB 6 (by simp); simpa using this, w6⟩, ⟨A7, k7, by have := hB 7 (by simp); simpa using this, w7⟩, ⟨A8, k8, by have := hB 8 (by simp); simpa using this, w8⟩, trivial⟩, ?_⟩
    rw [hxy]
    simp only [Rows.uptoBulk, Rows.uptoBulkAll, List.map_cons, List.map_nil, wt]
    omega
set_option maxRecDepth 100000 in
theorem el_ofPiece {fuel : Nat} (q4 : ∀ m, m < fuel → SlOk enc W m 28 1) (q5 : ∀ m, m < fuel → SlOk enc W m 22 0) : ElOk enc W fuel 66 1 := by
  intro cs x hlen h hlt
  obtain ⟨f0, f1, f2, f3, f4, f5, he, ⟨o0, o1, o2, o3, o4, o5⟩, t0, t1, t2, t3, t4, t5⟩ := flPiece
  obtain ⟨xs, m, hm, hxy, _, hxl, hg⟩ := DataW.trod_struct he h
  match cs, hlen, xs, hxl with
  | [c0, c1, c2, c3, c4, c5], _, [x0, x1, x2, x3, x4, x5], _ =>
    have g0 := hg 0 f0 rfl
    rw [o0, t0, clInt] at g0
    have g1 := hg 1 f1 rfl
    rw [o1, t1, clStr] at g1
    have g2 := hg 2 f2 rfl
    rw [o2, t2, clInt] at g2
    have g3 := hg 3 f3 rfl
    rw [o3, t3, clBool] at g3
    have g4 := hg 4 f4 rfl
    rw [o4, t4, clPieces] at g4
    have g5 := hg 5 f5 rfl
    rw [o5, t5, clNodes] at g5
    obtain ⟨a0, e0, w0, b0⟩ := op_int (v := c0) (x := x0) (by simpa using g0)
    obtain ⟨a1, e1, b1⟩ := op_str (v := c1) (x := x1) (by simpa using g1)
    obtain ⟨a2, e2, w2, b2⟩ := op_int (v := c2) (x := x2) (by simpa using g2)
    obtain ⟨a3, e3, b3⟩ := op_bool (v := c3) (x := x3) (by simpa using g3)
    obtain ⟨a4, A4, k4, e4, w4, y4, b4⟩ := q4 m (by omega) c4 x4 (by simpa using g4) (fun y hy => hlt y (by rw [hxy]; exact List.mem_flatMap.2 ⟨x4, by simp, hy⟩))
    obtain ⟨a5, A5, k5, e5, w5, y5, b5⟩ := q5 m (by omega) c5 x5 (by simpa using g5) (fun y hy => hlt y (by rw [hxy]; exact List.mem_flatMap.2 ⟨x5, by simp, hy⟩))
    subst e0 e1 e2 e3 e4 e5
    refine ⟨.piece a0 a1 a2 a3 a4 a5 .nil, rfl, ⟨rfl, w0, w2, y4, y5, trivial⟩, fun B o hB => rw_piece.2 ⟨by have := hB 0 (by simp); simpa using this, by have := hB 1 (by simp); simpa using this, by have := hB 2 (by simp); simpa using this, by have := hB 3 (by simp); simpa using this, ⟨A4, k4, by have := hB 4 (by simp); simpa using this, w4⟩, ⟨A5, k5, by have := hB 5 (by simp); simpa using this, w5⟩, trivial⟩, ?_⟩
    rw [hxy]
    simp only [Rows.uptoBulk, Rows.uptoBulkAll, List.map_cons, List.map_nil, wt]
    omega
set_option maxRecDepth 100000 in
theorem el_ofSet {fuel : Nat} (q1 : ∀ m, m < fuel → SlOk enc W m 29 1) : ElOk enc W fuel 50 2 := by
  intro cs x hlen h hlt
  obtain ⟨f0, f1, he, ⟨o0, o1⟩, t0, t1⟩ := flSet
  obtain ⟨xs, m, hm, hxy, _, hxl, hg⟩ := DataW.trod_struct he h
  match cs, hlen, xs, hxl with
  | [c0, c1], _, [x0, x1], _ =>
    have g0 := hg 0 f0 rfl
    rw [o0, t0, clStr] at g0
    have g1 := hg 1 f1 rfl
    rw [o1, t1, clWord] at g1
    obtain ⟨a0, e0, b0⟩ := op_str (v := c0) (x := x0) (by simpa using g0)
    obtain ⟨a1, A1, k1, e1, w1, y1, b1⟩ := q1 m (by omega) c1 x1 (by simpa using g1) (fun y hy => hlt y (by rw [hxy]; exact List.mem_flatMap.2 ⟨x1, by simp, hy⟩))
    subst e0 e1
    refine ⟨.set a0 a1 .nil, rfl, ⟨rfl, y1, trivial⟩, fun B o hB => rw_set.2 ⟨by have := hB 0 (by simp); simpa using this, ⟨A1, k1, by have := hB 1 (by simp); simpa using this, w1⟩, trivial⟩, ?_⟩
    rw [hxy]
    simp only [Rows.uptoBulk, Rows.uptoBulkAll, List.map_cons, List.map_nil, wt]
    omega
set_option maxRecDepth 100000 in
theorem el_ofRedir {fuel : Nat} (q2 : ∀ m, m < fuel → SlOk enc W m 29 1) : ElOk enc W fuel 69 3 := by
  intro cs x hlen h hlt
  obtain ⟨f0, f1, f2, he, ⟨o0, o1, o2⟩, t0, t1, t2⟩ := flRedir
  obtain ⟨xs, m, hm, hxy, _, hxl, hg⟩ := DataW.trod_struct he h
  match cs, hlen, xs, hxl with
  | [c0, c1, c2], _, [x0, x1, x2], _ =>
    have g0 := hg 0 f0 rfl
    rw [o0, t0, clInt] at g0
    have g1 := hg 1 f1 rfl
    rw [o1, t1, clInt] at g1
    have g2 := hg 2 f2 rfl
    rw [o2, t2, clWord] at g2
    obtain ⟨a0, e0, w0, b0⟩ := op_int (v := c0) (x := x0) (by simpa using g0)
    obtain ⟨a1, e1, w1, b1⟩ := op_int (v := c1) (x := x1) (by simpa using g1)
    obtain ⟨a2, A2, k2, e2, w2, y2, b2⟩ := q2 m (by omega) c2 x2 (by simpa using g2) (fun y hy => hlt y (by rw [hxy]; exact List.mem_flatMap.2 ⟨x2, by simp, hy⟩))
    subst e0 e1 e2
    refine ⟨.redir a0 a1 a2 .nil, rfl, ⟨rfl, w0, w1, y2, trivial⟩, fun B o hB => rw_redir.2 ⟨by have := hB 0 (by simp); simpa using this, by have := hB 1 (by simp); simpa using this, ⟨A2, k2, by have := hB 2 (by simp); simpa using this, w2⟩, trivial⟩, ?_⟩
    rw [hxy]
    simp only [Rows.uptoBulk, Rows.uptoBulkAll, List.map_cons, List.map_nil, wt]
    omega
set_option maxRecDepth 100000 in
theorem el_ofCase {fuel : Nat} (q0 : ∀ m, m < fuel → SlOk enc W m 38 5) (q1 : ∀ m, m < fuel → SlOk enc W m 22 0) : ElOk enc W fuel 45 4 := by
  intro cs x hlen h hlt
  obtain ⟨f0, f1, he, ⟨o0, o1⟩, t0, t1⟩ := flCase
  obtain ⟨xs, m, hm, hxy, _, hxl, hg⟩ := DataW.trod_struct he h
  match cs, hlen, xs, hxl with
  | [c0, c1], _, [x0, x1], _ =>
    have g0 := hg 0 f0 rfl
    rw [o0, t0, clWords] at g0
    have g1 := hg 1 f1 rfl
    rw [o1, t1, clNodes] at g1
    obtain ⟨a0, A0, k0, e0, w0, y0, b0⟩ := q0 m (by omega) c0 x0 (by simpa using g0) (fun y hy => hlt y (by rw [hxy]; exact List.mem_flatMap.2 ⟨x0, by simp, hy⟩))
    obtain ⟨a1, A1, k1, e1, w1, y1, b1⟩ := q1 m (by omega) c1 x1 (by simpa using g1) (fun y hy => hlt y (by rw [hxy]; exact List.mem_flatMap.2 ⟨x1, by simp, hy⟩))
    subst e0 e1
    refine ⟨.case a0 a1 .nil, rfl, ⟨rfl, y0, y1, trivial⟩, fun B o hB => rw_case.2 ⟨⟨A0, k0, by have := hB 0 (by simp); simpa using this, w0⟩, ⟨A1, k1, by have := hB 1 (by simp); simpa using this, w1⟩, trivial⟩, ?_⟩
    rw [hxy]
    simp only [Rows.uptoBulk, Rows.uptoBulkAll, List.map_cons, List.map_nil, wt]
    omega
set_option maxRecDepth 100000 in
theorem el_ofWord {fuel : Nat} (q : SlOk enc W fuel 29 1) : ElOk enc W fuel 29 5 := by
  intro cs x hlen h hlt
  match cs, hlen with
  | [c0], _ =>
    obtain ⟨f, A, k, rfl, w1, y1, b1⟩ := q c0 x h hlt
    refine ⟨.row f .nil, rfl, .inl ⟨rfl, y1, trivial⟩, fun B o hB => rw_row.2 ⟨⟨A, k, by have := hB 0 (by simp); simpa using this, w1⟩, trivial⟩, ?_⟩
    simp only [wt]
    omega
set_option maxRecDepth 100000 in
theorem el_ofNodes {fuel : Nat} (q : SlOk enc W fuel 22 0) : ElOk enc W fuel 22 6 := by
  intro cs x hlen h hlt
  match cs, hlen with
  | [c0], _ =>
    obtain ⟨f, A, k, rfl, w1, y1, b1⟩ := q c0 x h hlt
    refine ⟨.row f .nil, rfl, .inr ⟨rfl, y1, trivial⟩, fun B o hB => rw_row.2 ⟨⟨A, k, by have := hB 0 (by simp); simpa using this, w1⟩, trivial⟩, ?_⟩
    simp only [wt]
    omega
/-- All rows at once. -/
structure AllOk (enc : TypeId × Value → H) (W : World) (fuel : Nat) : Prop where
  nodes : SlOk enc W fuel 22 0
  pieces : SlOk enc W fuel 28 1
  word : SlOk enc W fuel 29 1
  sets : SlOk enc W fuel 37 2
  redirs : SlOk enc W fuel 39 3
  cases : SlOk enc W fuel 41 4
  words : SlOk enc W fuel 38 5
  lists : SlOk enc W fuel 40 6
set_option maxRecDepth 100000 in
theorem all_ok : ∀ fuel, AllOk enc W fuel := fun fuel => by
  induction fuel using Nat.strongRecOn with
  | ind fuel ih =>
    have pNodes : SlOk enc W fuel 22 0 := sl_of Tryz.underlying22 clNode (fun m hm => el_ofNode (fun k hk => (ih k (by omega)).sets) (fun k hk => (ih k (by omega)).words) (fun k hk => (ih k (by omega)).redirs) (fun k hk => (ih k (by omega)).lists) (fun k hk => (ih k (by omega)).cases)) (by decide)
    have pPieces : SlOk enc W fuel 28 1 := sl_of Tryz.underlying28 clPiece (fun m hm => el_ofPiece (fun k hk => (ih k (by omega)).pieces) (fun k hk => (ih k (by omega)).nodes)) (by decide)
    have pWord : SlOk enc W fuel 29 1 := sl_of Tryz.underlying29 clPiece (fun m hm => el_ofPiece (fun k hk => (ih k (by omega)).pieces) (fun k hk => (ih k (by omega)).nodes)) (by decide)
    have pSets : SlOk enc W fuel 37 2 := sl_of Tryz.underlying37 clSet (fun m hm => el_ofSet (fun k hk => (ih k (by omega)).word)) (by decide)
    have pRedirs : SlOk enc W fuel 39 3 := sl_of Tryz.underlying39 clRedir (fun m hm => el_ofRedir (fun k hk => (ih k (by omega)).word)) (by decide)
    have pCases : SlOk enc W fuel 41 4 := sl_of Tryz.underlying41 clCase (fun m hm => el_ofCase (fun k hk => (ih k (by omega)).words) (fun k hk => (ih k (by omega)).nodes)) (by decide)
    have pWords : SlOk enc W fuel 38 5 := sl_of Tryz.underlying38 clWord (fun m hm => el_ofWord (ih m hm).word) (by decide)
    have pLists : SlOk enc W fuel 40 6 := sl_of Tryz.underlying40 clNodes (fun m hm => el_ofNodes (ih m hm).nodes) (by decide)
    exact ⟨pNodes, pPieces, pWord, pSets, pRedirs, pCases, pWords, pLists⟩
set_option maxRecDepth 100000 in
theorem open_nodes {base : Nat} {v : Value} {d : DataW H} {p : List MemPlace} (hv : Value.okWide Tryz.prog W .any base 22 v)
    (h : DataW.Trod enc Tryz.prog W 0 (fun _ => true) true 22 v d p) (hlt : ∀ x ∈ p, x.block < W.heap.size) : ∃ f A c, v = .slice A f.len c ∧ Slc W A c f ∧ Ty f 0 ∧ wt f + 1 ≤ Rows.uptoBulk d := by
  obtain ⟨a0, len0, cap0, rfl⟩ := okWide_slice Tryz.underlying22 hv
  obtain ⟨fuel, hf⟩ := h
  exact (all_ok fuel).nodes _ (d, p) (by simpa [Value.cells] using hf) hlt
theorem clTwoI : Tryz.prog.cellsOf 36 = 2 := by kernel_rfl
set_option maxRecDepth 100000 in
theorem open_twoI {base : Nat} {v : Value} {d : DataW H} {p : List MemPlace} (hv : Value.okWide Tryz.prog W .any base 36 v)
    (h : DataW.Trod enc Tryz.prog W 0 (fun _ => true) true 36 v d p) : ∃ a b : Int, v = .agg #[.int .i64 a, .int .i64 b] ∧ I64 a ∧ I64 b := by
  obtain ⟨cs, rfl⟩ : ∃ cs, v = .agg cs := by
    simp only [Value.okWide, Tryz.underlying36] at hv
    obtain ⟨cs, h1, _⟩ := hv
    exact ⟨cs, h1⟩
  obtain ⟨fuel, hf⟩ := h
  have hf : DataW.trod enc Tryz.prog W 0 (fun _ => true) true fuel 36 cs.toList = some (d, p) := hf
  obtain ⟨xs, m, _, _, hl, hxl, hg⟩ := DataW.trod_array Tryz.underlying36 hf
  rw [clTwoI] at hl
  obtain ⟨l, hcs⟩ : ∃ l, cs.toList = l := ⟨_, rfl⟩
  have hca : cs = l.toArray := by rw [← hcs]
  rw [hcs] at hl hg
  subst hca
  match l, hl with
  | [c0, c1], _ =>
    have g0 := hg 0 (by omega)
    have g1 := hg 1 (by omega)
    rw [clInt, List.getElem?_eq_getElem (by omega)] at g0 g1
    obtain ⟨a, rfl, ha, _⟩ := op_int g0
    obtain ⟨b, rfl, hb, _⟩ := op_int g1
    exact ⟨a, b, rfl, ha, hb⟩
set_option maxRecDepth 100000 in
theorem upto_small {l : List (DataW H)} (hk : Rows.uptoSmall H l = true) : Rows.uptoBulkAll l ≤ 1048576 := of_decide_eq_true hk
theorem bulk_pos (d : DataW H) : 1 ≤ Rows.uptoBulk d := by
  cases d with
  | lit l => cases l <;> simp [Rows.uptoBulk]
  | _ => simp [Rows.uptoBulk]
end
end Go.Proofs.YtmchfoedjajbdaaGreat
/-
  A thing's value, and the cells in which it lies. Conditions: none.
-/
set_option linter.unusedSimpArgs false
set_option linter.unusedVariables false
namespace Go.Proofs.YtmchfoedjajbdaaGreat
open Go Go.RowKit

/-- The value of a row's first thing. -/
def ElV (Z : World) : F → Value → Prop
  | .nil, _ => False
  | .node k b n g S W R L C _, v => ∃ AS cS AW cW AR cR AL cL AC cC, v = .agg #[.int .i64 k, .bool b, .string n, .bool g, .slice AS S.len cS, .slice AW W.len cW, .slice AR R.len cR, .slice AL L.len cL, .slice AC C.len cC] ∧ Slc Z AS cS S ∧ Slc Z AW cW W ∧ Slc Z AR cR R ∧ Slc Z AL cL L ∧ Slc Z AC cC C
  | .piece k t p c K Y _, v => ∃ AK cK AY cY, v = .agg #[.int .i64 k, .string t, .int .i64 p, .bool c, .slice AK K.len cK, .slice AY Y.len cY] ∧ Slc Z AK cK K ∧ Slc Z AY cY Y
  | .set n x _, v => ∃ Ax cx, v = .agg #[.string n, .slice Ax x.len cx] ∧ Slc Z Ax cx x
  | .redir d k x _, v => ∃ Ax cx, v = .agg #[.int .i64 d, .int .i64 k, .slice Ax x.len cx] ∧ Slc Z Ax cx x
  | .case W Y _, v => ∃ AW cW AY cY, v = .agg #[.slice AW W.len cW, .slice AY Y.len cY] ∧ Slc Z AW cW W ∧ Slc Z AY cY Y
  | .row x _, v => ∃ Ax cx, v = .slice Ax x.len cx ∧ Slc Z Ax cx x
section
variable {w w' : World}
theorem ElV.below {f : F} {v : Value} (h : ElV w f v) (hb : Below w.heap.size w w') : ElV w' f v := by
  cases f with
  | nil => exact h
  | node k b n g S W R L C r =>
    obtain ⟨AS, cS, AW, cW, AR, cR, AL, cL, AC, cC, rfl, hS, hW, hR, hL, hC⟩ := h
    exact ⟨_, _, _, _, _, _, _, _, _, _, rfl, hS.below hb, hW.below hb, hR.below hb, hL.below hb, hC.below hb⟩
  | piece k t p c K Y r =>
    obtain ⟨AK, cK, AY, cY, rfl, hK, hY⟩ := h
    exact ⟨_, _, _, _, rfl, hK.below hb, hY.below hb⟩
  | set n x r =>
    obtain ⟨Ax, cx, rfl, hx⟩ := h
    exact ⟨_, _, rfl, hx.below hb⟩
  | redir d k x r =>
    obtain ⟨Ax, cx, rfl, hx⟩ := h
    exact ⟨_, _, rfl, hx.below hb⟩
  | case W Y r =>
    obtain ⟨AW, cW, AY, cY, rfl, hW, hY⟩ := h
    exact ⟨_, _, _, _, rfl, hW.below hb, hY.below hb⟩
  | row x r =>
    obtain ⟨Ax, cx, rfl, hx⟩ := h
    exact ⟨_, _, rfl, hx.below hb⟩
theorem el_node {f : F} {B o : Nat} (h : Rw w f B o) (ht : Ty f 0) (hn : 0 < f.len) : ∃ (k : Int) (b : Bool) (n : ByteArray) (g : Bool) (AS : Option Addr) (mS cS : Nat) (AW : Option Addr) (mW cW : Nat) (AR : Option Addr) (mR cR : Nat) (AL : Option Addr) (mL cL : Nat) (AC : Option Addr) (mC cC : Nat), w.cell? ⟨B, o, none⟩ = some (.int .i64 k) ∧ w.cell? ⟨B, o + 1, none⟩ = some (.bool b) ∧ w.cell? ⟨B, o + 2, none⟩ = some (.string n) ∧ w.cell? ⟨B, o + 3, none⟩ = some (.bool g) ∧ w.cell? ⟨B, o + 4, none⟩ = some (.slice AS mS cS) ∧ w.cell? ⟨B, o + 5, none⟩ = some (.slice AW mW cW) ∧ w.cell? ⟨B, o + 6, none⟩ = some (.slice AR mR cR) ∧ w.cell? ⟨B, o + 7, none⟩ = some (.slice AL mL cL) ∧ w.cell? ⟨B, o + 8, none⟩ = some (.slice AC mC cC) ∧ ElV w f (.agg #[.int .i64 k, .bool b, .string n, .bool g, .slice AS mS cS, .slice AW mW cW, .slice AR mR cR, .slice AL mL cL, .slice AC mC cC]) := by
  obtain ⟨k, b, n, g, S, W, R, L, C, r, rfl, _⟩ := at_node ht hn
  obtain ⟨e0, e1, e2, e3, ⟨AS, cS, e4, hS⟩, ⟨AW, cW, e5, hW⟩, ⟨AR, cR, e6, hR⟩, ⟨AL, cL, e7, hL⟩, ⟨AC, cC, e8, hC⟩, _⟩ := rw_node.1 h
  exact ⟨k, b, n, g, AS, S.len, cS, AW, W.len, cW, AR, R.len, cR, AL, L.len, cL, AC, C.len, cC, e0, e1, e2, e3, e4, e5, e6, e7, e8, _, _, _, _, _, _, _, _, _, _, rfl, hS, hW, hR, hL, hC⟩
theorem el_piece {f : F} {B o : Nat} (h : Rw w f B o) (ht : Ty f 1) (hn : 0 < f.len) : ∃ (k : Int) (t : ByteArray) (p : Int) (c : Bool) (AK : Option Addr) (mK cK : Nat) (AY : Option Addr) (mY cY : Nat), w.cell? ⟨B, o, none⟩ = some (.int .i64 k) ∧ w.cell? ⟨B, o + 1, none⟩ = some (.string t) ∧ w.cell? ⟨B, o + 2, none⟩ = some (.int .i64 p) ∧ w.cell? ⟨B, o + 3, none⟩ = some (.bool c) ∧ w.cell? ⟨B, o + 4, none⟩ = some (.slice AK mK cK) ∧ w.cell? ⟨B, o + 5, none⟩ = some (.slice AY mY cY) ∧ ElV w f (.agg #[.int .i64 k, .string t, .int .i64 p, .bool c, .slice AK mK cK, .slice AY mY cY]) := by
  obtain ⟨k, t, p, c, K, Y, r, rfl, _⟩ := at_piece ht hn
  obtain ⟨e0, e1, e2, e3, ⟨AK, cK, e4, hK⟩, ⟨AY, cY, e5, hY⟩, _⟩ := rw_piece.1 h
  exact ⟨k, t, p, c, AK, K.len, cK, AY, Y.len, cY, e0, e1, e2, e3, e4, e5, _, _, _, _, rfl, hK, hY⟩
theorem el_set {f : F} {B o : Nat} (h : Rw w f B o) (ht : Ty f 2) (hn : 0 < f.len) : ∃ (n : ByteArray) (Ax : Option Addr) (mx cx : Nat), w.cell? ⟨B, o, none⟩ = some (.string n) ∧ w.cell? ⟨B, o + 1, none⟩ = some (.slice Ax mx cx) ∧ ElV w f (.agg #[.string n, .slice Ax mx cx]) := by
  obtain ⟨n, x, r, rfl, _⟩ := at_set ht hn
  obtain ⟨e0, ⟨Ax, cx, e1, hx⟩, _⟩ := rw_set.1 h
  exact ⟨n, Ax, x.len, cx, e0, e1, _, _, rfl, hx⟩
theorem el_redir {f : F} {B o : Nat} (h : Rw w f B o) (ht : Ty f 3) (hn : 0 < f.len) : ∃ (d : Int) (k : Int) (Ax : Option Addr) (mx cx : Nat), w.cell? ⟨B, o, none⟩ = some (.int .i64 d) ∧ w.cell? ⟨B, o + 1, none⟩ = some (.int .i64 k) ∧ w.cell? ⟨B, o + 2, none⟩ = some (.slice Ax mx cx) ∧ ElV w f (.agg #[.int .i64 d, .int .i64 k, .slice Ax mx cx]) := by
  obtain ⟨d, k, x, r, rfl, _⟩ := at_redir ht hn
  obtain ⟨e0, e1, ⟨Ax, cx, e2, hx⟩, _⟩ := rw_redir.1 h
  exact ⟨d, k, Ax, x.len, cx, e0, e1, e2, _, _, rfl, hx⟩
theorem el_case {f : F} {B o : Nat} (h : Rw w f B o) (ht : Ty f 4) (hn : 0 < f.len) : ∃ (AW : Option Addr) (mW cW : Nat) (AY : Option Addr) (mY cY : Nat), w.cell? ⟨B, o, none⟩ = some (.slice AW mW cW) ∧ w.cell? ⟨B, o + 1, none⟩ = some (.slice AY mY cY) ∧ ElV w f (.agg #[.slice AW mW cW, .slice AY mY cY]) := by
  obtain ⟨W, Y, r, rfl, _⟩ := at_case ht hn
  obtain ⟨⟨AW, cW, e0, hW⟩, ⟨AY, cY, e1, hY⟩, _⟩ := rw_case.1 h
  exact ⟨AW, W.len, cW, AY, Y.len, cY, e0, e1, _, _, _, _, rfl, hW, hY⟩
theorem el_word {f : F} {B o : Nat} (h : Rw w f B o) (ht : Ty f 5) (hn : 0 < f.len) : ∃ (Ax : Option Addr) (mx cx : Nat), w.cell? ⟨B, o, none⟩ = some (.slice Ax mx cx) ∧ ElV w f (.slice Ax mx cx) := by
  obtain ⟨x, r, rfl, _⟩ := at_word ht hn
  obtain ⟨⟨Ax, cx, e0, hx⟩, _⟩ := rw_row.1 h
  exact ⟨Ax, x.len, cx, e0, _, _, rfl, hx⟩
theorem el_list {f : F} {B o : Nat} (h : Rw w f B o) (ht : Ty f 6) (hn : 0 < f.len) : ∃ (Ax : Option Addr) (mx cx : Nat), w.cell? ⟨B, o, none⟩ = some (.slice Ax mx cx) ∧ ElV w f (.slice Ax mx cx) := by
  obtain ⟨x, r, rfl, _⟩ := at_list ht hn
  obtain ⟨⟨Ax, cx, e0, hx⟩, _⟩ := rw_row.1 h
  exact ⟨Ax, x.len, cx, e0, _, _, rfl, hx⟩
end
end Go.Proofs.YtmchfoedjajbdaaGreat
