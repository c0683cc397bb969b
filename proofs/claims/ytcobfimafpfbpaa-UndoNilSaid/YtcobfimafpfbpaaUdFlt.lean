/-
  A map of a log whose keys are floats: how a key is found and set; New, Get, oneZero; cmp.Or of no error and ErrArg. Conditions: at most one key.
-/
import Derived.Test.YtcobfimafpfbpaaUdState
import Derived.Test.YtcobfimafpfbpaaUdKeys
import Derived.Laws.Cover2
namespace Go.Proofs.Ytcobfimafpfbpaa
open Go Go.RowKit Go.ChangeMaps

/-- Whether two floats are one key. -/
def fEq (x y : Nat) : Bool := FloatKind.f64.format.order x y == some .eq
structure FAt (w : World) (mb : Nat) (lo : Option Addr) (ob : Nat) (es : Array MapEntry) (ck : Nat) : Prop where
  blk : Blk w mb [.pointer lo, .map (some ob)] 102
  map : w.heap[ob]? = some (.map es ck)
def oneF (x : Nat) : Array MapEntry := #[⟨.float .f64 x, .int .i64 1, 0⟩]
section
variable {w w' : World} {mb ob : Nat} {lo : Option Addr} {es : Array MapEntry} {ck : Nat}
theorem FAt.lt2 (h : FAt w mb lo ob es ck) : ob < w.heap.size := (Array.getElem?_eq_some_iff.1 h.map).1
theorem FAt.keep (h : FAt w mb lo ob es ck) (h1 : w'.heap[mb]? = w.heap[mb]?) (h2 : w'.heap[ob]? = w.heap[ob]?) : FAt w' mb lo ob es ck := ⟨h1.trans h.blk, h2.trans h.map⟩
theorem FAt.below (h : FAt w mb lo ob es ck) (hb : Below w.heap.size w w') : FAt w' mb lo ob es ck := h.keep (hb.block mb h.blk.lt) (hb.block ob h.lt2)
theorem checkF (e : Bool) (n : Nat) (x : Nat) (w : World) : (Instr.checkKey e (n + 1) 62 (.float .f64 x)).run Try.prog w = .ok () w := by
  unfold Instr.checkKey
  simp only [Sem.run_bind, run_underlying Try.underlying62, Result.andThen]
  rfl
theorem equalF (x y : Nat) (w : World) : (Op.equal 62 (.float .f64 x) (.float .f64 y)).run Try.prog w = .ok (fEq x y) w := by
  unfold Op.equal Op.maxDepth Op.equalIn
  simp only [Sem.run_bind, run_underlying Try.underlying62, Result.andThen]
  rfl
theorem findF0 (x : Nat) (w : World) : (Instr.findKey 62 (.float .f64 x) []).run Try.prog w = .ok none w := by
  simp [Instr.findKey, run_underlying Try.underlying62, Instr.findNow]
theorem findF1 (x y : Nat) (w : World) : (Instr.findKey 62 (.float .f64 x) (oneF y).toList).run Try.prog w = .ok (if fEq x y then some (0, .int .i64 1) else none) w := by
  have := equalF x y w
  cases h : fEq x y <;> rw [h] at this <;> simp [oneF, Instr.findKey, run_underlying Try.underlying62, Instr.findNow, Instr.sameNow, Instr.findAsking, this]
theorem FAt.find0 (h : FAt w mb lo ob #[] 0) (x : Nat) : (Instr.lookup 100 (.map (some ob)) (.float .f64 x) true).run Try.prog w = .ok (.tuple #[.int .i64 0, .bool false]) w := by
  unfold Instr.lookup
  simp [run_underlying Try.underlying100, MapKept.run_getObj_map h.map, checkF, findF0, Result.andThen]
theorem FAt.find1 {y : Nat} (h : FAt w mb lo ob (oneF y) 1) (x : Nat) (hx : fEq x y = true) : (Instr.lookup 100 (.map (some ob)) (.float .f64 x) true).run Try.prog w = .ok (.tuple #[.int .i64 1, .bool true]) w := by
  unfold Instr.lookup
  simp [run_underlying Try.underlying100, MapKept.run_getObj_map h.map, checkF, findF1, hx, Result.andThen]
theorem FAt.put (h : FAt w mb lo ob #[] 0) (x : Nat) : (Instr.mapUpdate 100 (.map (some ob)) (.float .f64 x) (.int .i64 1)).run Try.prog w = .ok () (setBlock w ob (.map (oneF x) 1)) := by
  unfold Instr.mapUpdate
  simp [run_underlying Try.underlying100, MapKept.run_getObj_map h.map, checkF, findF0, Result.andThen, oneF, setObj, Sem.run, h.map, setBlock]

set_option maxRecDepth 100000 in
theorem NewMapF_any (lo : Option Addr) (w : World) :
    Calls Try.prog 33 #[.pointer lo] w fun e w' => e = .returned (ptrV (w.heap.size + 1)) ∧ FAt w' (w.heap.size + 1) lo w.heap.size #[] 0 ∧ Below w.heap.size w w' ∧ w'.heap.size = w.heap.size + 2 := by
  have hk : (w.alloc (.map #[] 0)).heap[w.heap.size]? = some (.map #[] 0) := heap_alloc_new w _
  have hs : (w.alloc (.map #[] 0)).heap.size = w.heap.size + 1 := by simp
  have hk2 := (Below.heap_alloc (w.alloc (.map #[] 0)) (.cells #[.pointer lo, .map (some w.heap.size)] 102) w.heap.size (by omega)).trans hk
  have hb2 : Blk ((w.alloc (.map #[] 0)).alloc (.cells #[.pointer lo, .map (some w.heap.size)] 102)) (w.heap.size + 1) [.pointer lo, .map (some w.heap.size)] 102 := by rw [← hs]; exact Blk.new _ _ _
  have hm : FAt ((w.alloc (.map #[] 0)).alloc (.cells #[.pointer lo, .map (some w.heap.size)] 102)) (w.heap.size + 1) lo w.heap.size #[] 0 := ⟨hb2, hk2⟩
  have hbl := ((Below.refl w.heap.size w).alloc (Nat.le_refl _) (.map #[] 0)).alloc (by rw [hs]; omega) (.cells #[.pointer lo, .map (some w.heap.size)] 102)
  have hsz : ((w.alloc (.map #[] 0)).alloc (.cells #[.pointer lo, .map (some w.heap.size)] 102)).heap.size = w.heap.size + 2 := by simp
  replace hm := Lib.hid hm
  replace hbl := Lib.hid hbl
  replace hsz := Lib.hid hsz
  unfold ptrV
  clear hk hk2 hb2 hs
  have hmm := @run_makeMap Try.prog
  go_enter Try.func33, Try.ntmps33
  go_wp2
  go_ret
  exact ⟨rfl, hm.out, hbl.out, hsz.out⟩

/-- The key that is kept of a float. -/
def keyF (x : Nat) : Nat := if fEq x 0 then 0 else x
theorem keyF_eq {x : Nat} (h : fEq x x = true) : fEq x (keyF x) = true := by
  unfold keyF
  split
  · assumption
  · exact h
set_option maxRecDepth 100000 in
theorem oneZeroF_any (x : Nat) (w : World) :
    Calls Try.prog 53 #[.float .f64 x] w fun e w' => e = .returned (.float .f64 (keyF x)) ∧ w' = w := by
  cases hx : fEq x 0 with
  | true =>
    rw [show keyF x = 0 from if_pos hx]
    have hx2 : (FloatKind.f64.format.order x 0 == some .eq) = true := hx
    clear hx
    go_enter Try.func53, Try.ntmps53
    go_wp2
    go_ret
    exact ⟨rfl, rfl⟩
  | false =>
    rw [show keyF x = x from if_neg (by rw [hx]; decide)]
    have hx2 : (FloatKind.f64.format.order x 0 == some .eq) = false := hx
    clear hx
    go_enter Try.func53, Try.ntmps53
    go_wp2
    go_ret
    exact ⟨rfl, rfl⟩
set_option maxRecDepth 100000 in
theorem GetF_no (h : FAt w mb lo ob #[] 0) (x : Nat) :
    Calls Try.prog 35 #[ptrV mb, .float .f64 x] w fun e w' => e = .returned (.tuple #[.int .i64 0, .bool false]) ∧ w' = w := by
  have c1 : w.cell? ⟨mb, 1, none⟩ = some (.map (some ob)) := h.blk.cell (i := 1) rfl
  have hlt := h.blk.lt
  have hf := h.find0 x
  unfold ptrV
  clear h
  go_enter Try.func35, Try.ntmps35
  go_wp2
  go_ret2
  exact ⟨rfl, rfl⟩
set_option maxRecDepth 100000 in
theorem GetF_yes {y : Nat} (h : FAt w mb lo ob (oneF y) 1) (x : Nat) (hx : fEq x y = true) :
    Calls Try.prog 35 #[ptrV mb, .float .f64 x] w fun e w' => e = .returned (.tuple #[.int .i64 1, .bool true]) ∧ w' = w := by
  have c1 : w.cell? ⟨mb, 1, none⟩ = some (.map (some ob)) := h.blk.cell (i := 1) rfl
  have hlt := h.blk.lt
  have hf := h.find1 x hx
  unfold ptrV
  clear h hx
  go_enter Try.func35, Try.ntmps35
  go_wp2
  go_ret2
  exact ⟨rfl, rfl⟩
set_option maxRecDepth 100000 in
/-- cmp.Or of no error and ErrArg. -/
theorem orE {b : Nat} (h0 : w.cell? ⟨b, 0, none⟩ = some (.int .i64 0)) (h1 : w.cell? ⟨b, 1, none⟩ = some (.int .i64 1)) (hlt : b < w.heap.size) :
    Calls Try.prog 47 #[.slice (some ⟨b, 0, none⟩) 2 2] w fun e w' => e = .returned (.int .i64 1) ∧ w' = w := by
  go_enter Try.func47, Try.ntmps47
  go_wp2
  go_loopw [8] (fun nv wr => ∃ i : Nat, i ≤ 1 ∧ nv = .int .i64 (i : Int) ∧ wr = w) (fun nv _ => 2 - (intOf nv).toNat)
  case atStart => exact ⟨0, by omega, rfl, rfl⟩
  case round =>
    obtain ⟨i, hi, rfl, rfl⟩ := hrel
    have hi2 : i = 0 ∨ i = 1 := by omega
    rcases hi2 with rfl | rfl
    · go_wp2
      go_roundw
      case rel => exact ⟨1, by omega, rfl, trivial⟩
      case measure => simp [intOf]
    · go_wp2
      go_ret
      simp
end
end Go.Proofs.Ytcobfimafpfbpaa
