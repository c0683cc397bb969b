/-
  A map of api.Node by names, of a log: New, Get, Set, Delete, and its notes. Conditions: none.
-/
import Derived.Test.YtigmdfdcflkggaaStMem
namespace Go.Proofs.Ytigmdfdcflkggaa.MN
open Go Go.RowKit Go.ChangeMaps

def NoteT (t : TypeId) : Prop := t = 4 ∨ t = 71 ∨ t = 46 ∨ t = 9
section
variable {w w' : World} {B mb ob : Nat} {lo : Option Addr} {es : Es Nd}
set_option maxRecDepth 100000 in
theorem NewMap_any (lo : Option Addr) (w : World) :
    Calls Try.prog 25 #[.pointer lo] w fun e w' => e = .returned (ptrV (w.heap.size + 1)) ∧ MapAt 96 encN w' w.heap.size (w.heap.size + 1) lo w.heap.size [] ∧ Below w.heap.size w w' ∧ w'.heap.size = w.heap.size + 2 := by
  have hk := KMap.new w .string encS
  have hs : (w.alloc (.map #[] 0)).heap.size = w.heap.size + 1 := by simp
  have hk2 : KMap ((w.alloc (.map #[] 0)).alloc (.cells #[.pointer lo, .map (some w.heap.size)] 96)) w.heap.size .string encS (encE encN []) := hk.keep (Below.heap_alloc _ _ _ (by omega))
  have hb2 : Blk ((w.alloc (.map #[] 0)).alloc (.cells #[.pointer lo, .map (some w.heap.size)] 96)) (w.heap.size + 1) [.pointer lo, .map (some w.heap.size)] 96 := by rw [← hs]; exact Blk.new _ _ _
  have hm : MapAt 96 encN ((w.alloc (.map #[] 0)).alloc (.cells #[.pointer lo, .map (some w.heap.size)] 96)) w.heap.size (w.heap.size + 1) lo w.heap.size [] := ⟨by omega, Nat.le_refl _, hb2, hk2⟩
  have hbl := ((Below.refl w.heap.size w).alloc (Nat.le_refl _) (.map #[] 0)).alloc (by rw [hs]; omega) (.cells #[.pointer lo, .map (some w.heap.size)] 96)
  have hsz : ((w.alloc (.map #[] 0)).alloc (.cells #[.pointer lo, .map (some w.heap.size)] 96)).heap.size = w.heap.size + 2 := by simp
  replace hm := Lib.hid hm
  replace hbl := Lib.hid hbl
  replace hsz := Lib.hid hsz
  unfold ptrV
  clear hk hk2 hb2 hs
  have hmm := @run_makeMap Try.prog
  go_enter Try.func25, Try.ntmps25
  go_wp2
  go_ret
  exact ⟨rfl, hm.out, hbl.out, hsz.out⟩
theorem zero_ (w : World) : (zeroValue 71).run Try.prog w = .ok (encN noN) w := by kernel_rfl
theorem find (h : MapAt 96 encN w B mb lo ob es) (k : ByteArray) : (Instr.lookup 94 (.map (some ob)) (.string k) true).run Try.prog w = .ok (.tuple #[encN ((look es k).getD noN), .bool (look es k).isSome]) w := by
  have := h.map.find keyS Try.underlying94 Try.underlying9 (zero_ w) true k
  rw [encE_look] at this
  cases hl : look es k with
  | none => rw [hl] at this; exact this
  | some v => rw [hl] at this; exact this
end
end Go.Proofs.Ytigmdfdcflkggaa.MN
