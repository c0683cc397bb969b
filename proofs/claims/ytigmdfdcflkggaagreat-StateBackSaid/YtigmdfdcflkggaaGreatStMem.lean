/-
  Maps and cells of a log in memory, whatever their values; the cells that notes have caught. Conditions: none.
-/
import Derived.Test.YtigmdfdcflkggaaGreatUdMap
import Derived.StillTailTactics
namespace Go.Proofs.YtigmdfdcflkggaaGreat
open Go Go.RowKit Go.ChangeMaps

abbrev Es (α : Type) := List (ByteArray × α)
def encE {α : Type} (enc : α → Value) (es : Es α) : List (ByteArray × Value) := es.map fun p => (p.1, enc p.2)
structure MapAt (T : TypeId) {α : Type} (enc : α → Value) (w : World) (B mb : Nat) (lo : Option Addr) (ob : Nat) (es : Es α) : Prop where
  hB : B ≤ mb
  hO : B ≤ ob
  blk : Blk w mb [.pointer lo, .map (some ob)] T
  map : KMap w ob .string encS (encE enc es)
structure CellAt (T : TypeId) (w : World) (B cb : Nat) (lo : Option Addr) (cs : List Value) : Prop where
  hB : B ≤ cb
  blk : Blk w cb (.pointer lo :: cs) T
theorem encE_look {α : Type} (enc : α → Value) (es : Es α) (k : ByteArray) : look (encE enc es) k = (look es k).map enc := look_map _ es k
/-- A variable. -/
structure Vr where
  v : ByteArray
  s : Bool
  e : Bool
  f : Bool
  deriving DecidableEq
/-- A command with a kind and a name, and nothing else. -/
structure Nd where
  k : Int
  s : ByteArray
def encV (x : Vr) : Value := .agg #[.string x.v, .bool x.s, .bool x.e, .bool x.f]
def encN (x : Nd) : Value := .agg #[.int .i64 x.k, .bool false, .string x.s, .bool false, .slice none 0 0, .slice none 0 0, .slice none 0 0, .slice none 0 0, .slice none 0 0]
def encW (x : ByteArray) : Value := .agg #[.string x]
def noV : Vr := ⟨⟨#[]⟩, false, false, false⟩
def noN : Nd := ⟨0, ⟨#[]⟩⟩
def noW : ByteArray := ⟨#[]⟩
def cellsV (x : Vr) : List Value := [.string x.v, .bool x.s, .bool x.e, .bool x.f]
def cellsN (x : Nd) : List Value := [.int .i64 x.k, .bool false, .string x.s, .bool false, .slice none 0 0, .slice none 0 0, .slice none 0 0, .slice none 0 0, .slice none 0 0]
def cellsW (x : ByteArray) : List Value := [.string x]
section
variable {α : Type} {enc : α → Value} {T : TypeId} {w w' : World} {B mb cb ob : Nat} {lo : Option Addr} {es : Es α} {cs : List Value}
theorem MapAt.keep (h : MapAt T enc w B mb lo ob es) (h1 : w'.heap[mb]? = w.heap[mb]?) (h2 : w'.heap[ob]? = w.heap[ob]?) : MapAt T enc w' B mb lo ob es := ⟨h.hB, h.hO, h1.trans h.blk, h.map.keep h2⟩
theorem MapAt.fr {B' : Nat} {P : TypeId → Prop} {M : Nat → Prop} (h : MapAt T enc w B mb lo ob es) (k : Fr B' P M w w') (hT : ¬ P T) (hM : ∀ b, M b → b ≠ mb ∧ b ≠ ob) : MapAt T enc w' B mb lo ob es :=
  ⟨h.hB, h.hO, h.blk.fr k hT (fun e => (hM _ e).1 rfl), h.map.fr k (fun e => (hM _ e).2 rfl)⟩
theorem CellAt.fr {B' : Nat} {P : TypeId → Prop} {M : Nat → Prop} (h : CellAt T w B cb lo cs) (k : Fr B' P M w w') (hT : ¬ P T) (hM : ¬ M cb) : CellAt T w' B cb lo cs := ⟨h.hB, h.blk.fr k hT hM⟩
theorem MapAt.below (h : MapAt T enc w B mb lo ob es) (k : Below w.heap.size w w') : MapAt T enc w' B mb lo ob es := h.keep (k.block _ h.blk.lt) (k.block _ h.map.lt)
theorem Below.of_alloc (w : World) (o : Obj) : Below w.heap.size w (w.alloc o) := (Below.refl _ w).alloc (Nat.le_refl _) o
theorem CellAt.below (h : CellAt T w B cb lo cs) (k : Below w.heap.size w w') : CellAt T w' B cb lo cs := ⟨h.hB, (k.block _ h.blk.lt).trans h.blk⟩
theorem MapAt.ne_obj (h : MapAt T enc w B mb lo ob es) : mb ≠ ob := fun e => h.map.no_cells (e ▸ h.blk)
theorem MapAt.put (h : MapAt T enc w B mb lo ob es) (k : ByteArray) (v : α) (o : Obj) (hk : KMap (setBlock w ob o) ob .string encS (putK (encE enc es) k (enc v))) : MapAt T enc (setBlock w ob o) B mb lo ob (putK es k v) :=
  ⟨h.hB, h.hO, (setB_other (fun e => by have := h.blk; rw [e] at this; exact absurd this h.map.no_cells) o).trans h.blk, by
    have := putK_map enc es k v
    unfold encE at hk ⊢
    rw [← this]; exact hk⟩
theorem MapAt.del (h : MapAt T enc w B mb lo ob es) (k : ByteArray) (o : Obj) (hk : KMap (setBlock w ob o) ob .string encS ((encE enc es).filter fun p => p.1 ≠ k)) : MapAt T enc (setBlock w ob o) B mb lo ob (dropK es k) :=
  ⟨h.hB, h.hO, (setB_other (fun e => by have := h.blk; rw [e] at this; exact absurd this h.map.no_cells) o).trans h.blk, by
    have := dropK_map enc es k
    unfold encE at hk ⊢
    rw [← this]; exact hk⟩
/-- What a map's note goes back to: a value, or none. -/
def ntOf (es : Es α) (k : ByteArray) : Option α := look es k
end
section
variable {P : Program} {ops : Array Oper} {Q : Exit → Act → World → Prop} {md : Region.Mode} {S : World → Prop} {L : Nat}
/-- Two operations that may come up. -/
theorem wpAnyT_two {i j : Nat} {oi oj : Oper} {fuel : Nat} {listed : Array Bool} {a : Act} {w : World} (hi : ops[i]? = some oi) (hj : ops[j]? = some oj) (hr : Region.ready md ops listed = [i, j]) (gi : oi.guard = none) (gj : oj.guard = none)
    (h1 : oi.wp P a w (fun a' w' => (i ≠ L → S w') ∧ wpAnyT P md ops Q S L fuel (listed.setIfInBounds i true) a' w') Q)
    (h2 : oj.wp P a w (fun a' w' => (j ≠ L → S w') ∧ wpAnyT P md ops Q S L fuel (listed.setIfInBounds j true) a' w') Q) : wpAnyT P md ops Q S L (fuel + 1) listed a w := by
  refine ⟨fun h0 => (by rw [hr] at h0; cases h0), fun k hk => ?_⟩
  rw [hr] at hk
  rcases List.mem_cons.1 hk with rfl | hk
  · unfold wpOp
    simp only [hi, Region.wanted, gi, if_true]
    exact .inl h1
  · rw [List.mem_singleton] at hk
    subst hk
    unfold wpOp
    simp only [hj, Region.wanted, gj, if_true]
    exact .inl h2
end
set_option maxRecDepth 100000 in
theorem oneZero_any (k : ByteArray) (w : World) :
    Calls Tryz.prog 124 #[.string k] w fun e w' => e = .returned (.string k) ∧ w' = w := by
  by_cases hk : k.data.toList = []
  · have hk2 : k = ⟨#[]⟩ := by
      have h1 : k.data = #[] := Array.toList_eq_nil_iff.1 hk
      cases k; simp_all
    clear hk
    subst hk2
    go_enter Tryz.func124, Tryz.ntmps124
    go_wp2
    go_ret
    exact ⟨rfl, rfl⟩
  · have hk1 : k.toList.isEmpty = false := by
      rw [ByteArray.toList_eq]
      cases h : k.data.toList with
      | nil => exact absurd h hk
      | cons => rfl
    clear hk
    go_enter Tryz.func124, Tryz.ntmps124
    go_wp2
    go_ret
    exact ⟨rfl, rfl⟩
end Go.Proofs.YtigmdfdcflkggaaGreat
