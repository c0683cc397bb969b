/-
  A map and a cell of a log: New, Get, oneZero; a note of a map's key. Conditions: none.
-/
import Derived.Test.YtcobfimafpfbpaaUdMap
namespace Go.Proofs.Ytcobfimafpfbpaa
open Go Go.RowKit Go.ChangeMaps

abbrev Es := List (ByteArray × Int)
def encE (es : Es) : List (ByteArray × Value) := es.map fun p => (p.1, .int .i64 p.2)
structure MapAt (w : World) (B mb : Nat) (lo : Option Addr) (ob : Nat) (es : Es) : Prop where
  hB : B ≤ mb
  hO : B ≤ ob
  blk : Blk w mb [.pointer lo, .map (some ob)] 85
  map : KMap w ob .string encS (encE es)
structure CellAt (w : World) (B cb : Nat) (lo : Option Addr) (s : ByteArray) : Prop where
  hB : B ≤ cb
  blk : Blk w cb [.pointer lo, .string s] 93
theorem encE_look (es : Es) (k : ByteArray) : look (encE es) k = (look es k).map fun v => .int .i64 v := look_map _ es k

section
variable {w w' : World} {B mb cb ob : Nat} {lo : Option Addr} {es : Es} {s : ByteArray}
theorem MapAt.keep (h : MapAt w B mb lo ob es) (h1 : w'.heap[mb]? = w.heap[mb]?) (h2 : w'.heap[ob]? = w.heap[ob]?) : MapAt w' B mb lo ob es := ⟨h.hB, h.hO, h1.trans h.blk, h.map.keep h2⟩
theorem MapAt.fr {B' : Nat} {T : TypeId → Prop} {M : Nat → Prop} (h : MapAt w B mb lo ob es) (k : Fr B' T M w w') (hT : ¬ T 85) (hM : ∀ b, M b → b ≠ mb ∧ b ≠ ob) : MapAt w' B mb lo ob es :=
  ⟨h.hB, h.hO, h.blk.fr k hT (fun e => (hM _ e).1 rfl), h.map.fr k (fun e => (hM _ e).2 rfl)⟩
theorem CellAt.fr {B' : Nat} {T : TypeId → Prop} {M : Nat → Prop} (h : CellAt w B cb lo s) (k : Fr B' T M w w') (hT : ¬ T 93) (hM : ¬ M cb) : CellAt w' B cb lo s := ⟨h.hB, h.blk.fr k hT hM⟩

set_option maxRecDepth 100000 in
theorem NewMap_any (lo : Option Addr) (w : World) :
    Calls Try.prog 25 #[.pointer lo] w fun e w' => e = .returned (ptrV (w.heap.size + 1)) ∧ MapAt w' w.heap.size (w.heap.size + 1) lo w.heap.size [] ∧ Below w.heap.size w w' ∧ w'.heap.size = w.heap.size + 2 := by
  have hk := KMap.new w .string encS
  have hs : (w.alloc (.map #[] 0)).heap.size = w.heap.size + 1 := by simp
  have hk2 : KMap ((w.alloc (.map #[] 0)).alloc (.cells #[.pointer lo, .map (some w.heap.size)] 85)) w.heap.size .string encS (encE []) := hk.keep (Below.heap_alloc _ _ _ (by omega))
  have hb2 : Blk ((w.alloc (.map #[] 0)).alloc (.cells #[.pointer lo, .map (some w.heap.size)] 85)) (w.heap.size + 1) [.pointer lo, .map (some w.heap.size)] 85 := by rw [← hs]; exact Blk.new _ _ _
  have hm : MapAt ((w.alloc (.map #[] 0)).alloc (.cells #[.pointer lo, .map (some w.heap.size)] 85)) w.heap.size (w.heap.size + 1) lo w.heap.size [] := ⟨by omega, Nat.le_refl _, hb2, hk2⟩
  have hbl := ((Below.refl w.heap.size w).alloc (Nat.le_refl _) (.map #[] 0)).alloc (by rw [hs]; omega) (.cells #[.pointer lo, .map (some w.heap.size)] 85)
  have hsz : ((w.alloc (.map #[] 0)).alloc (.cells #[.pointer lo, .map (some w.heap.size)] 85)).heap.size = w.heap.size + 2 := by simp
  replace hm := Lib.hid hm
  replace hbl := Lib.hid hbl
  replace hsz := Lib.hid hsz
  unfold ptrV
  clear hk hk2 hb2 hs
  have hmm := @run_makeMap Try.prog
  go_enter Try.func25, Try.ntmps25
  go_wp2
  go_ret
  exact ⟨rfl, hm.out, hbl.out, hsz.out⟩
set_option maxRecDepth 100000 in
theorem NewCell_any (lo : Option Addr) (s : ByteArray) (w : World) :
    Calls Try.prog 26 #[.pointer lo, .string s] w fun e w' => e = .returned (ptrV w.heap.size) ∧ CellAt w' w.heap.size w.heap.size lo s ∧ Below w.heap.size w w' ∧ w'.heap.size = w.heap.size + 1 := by
  have hb2 : Blk (w.alloc (.cells #[.pointer lo, .string s] 93)) w.heap.size [.pointer lo, .string s] 93 := Blk.new _ _ _
  have hm : CellAt (w.alloc (.cells #[.pointer lo, .string s] 93)) w.heap.size w.heap.size lo s := ⟨Nat.le_refl _, hb2⟩
  replace hm := Lib.hid hm
  unfold ptrV
  clear hb2
  go_enter Try.func26, Try.ntmps26
  go_wp2
  go_ret
  exact ⟨rfl, hm.out, (Below.refl _ w).alloc (Nat.le_refl _) _, by simp⟩
set_option maxRecDepth 100000 in
theorem CGet_nil (w : World) :
    Calls Try.prog 32 #[.pointer none] w fun e w' => e = .returned (.string ⟨#[]⟩) ∧ w' = w := by
  go_enter Try.func32, Try.ntmps32
  go_wp2
  go_ret
  exact ⟨rfl, rfl⟩
set_option maxRecDepth 100000 in
theorem CGet_any (h : CellAt w B cb lo s) :
    Calls Try.prog 32 #[ptrV cb] w fun e w' => e = .returned (.string s) ∧ w' = w := by
  have c1 : w.cell? ⟨cb, 1, none⟩ = some (.string s) := h.blk.cell (i := 1) rfl
  have hlt := h.blk.lt
  unfold ptrV
  clear h
  go_enter Try.func32, Try.ntmps32
  go_wp2
  go_ret
  exact ⟨rfl, rfl⟩
set_option maxRecDepth 100000 in
theorem Get_nil (k : ByteArray) (w : World) :
    Calls Try.prog 17 #[.pointer none, .string k] w fun e w' => e = .returned (.tuple #[.int .i64 0, .bool false]) ∧ w' = w := by
  go_enter Try.func17, Try.ntmps17
  go_wp2
  go_ret2
  exact ⟨rfl, rfl⟩
theorem zeroInt (w : World) : (zeroValue 3).run Try.prog w = .ok (.int .i64 0) w := by kernel_rfl
theorem MapAt.find (h : MapAt w B mb lo ob es) (k : ByteArray) : (Instr.lookup 83 (.map (some ob)) (.string k) true).run Try.prog w = .ok (.tuple #[.int .i64 ((look es k).getD 0), .bool (look es k).isSome]) w := by
  have := h.map.find keyS Try.underlying83 Try.underlying9 (zeroInt w) true k
  rw [encE_look] at this
  cases hl : look es k with
  | none => rw [hl] at this; exact this
  | some v => rw [hl] at this; exact this
set_option maxRecDepth 100000 in
theorem Get_any (h : MapAt w B mb lo ob es) (k : ByteArray) :
    Calls Try.prog 17 #[ptrV mb, .string k] w fun e w' => e = .returned (.tuple #[.int .i64 ((look es k).getD 0), .bool (look es k).isSome]) ∧ w' = w := by
  have c1 : w.cell? ⟨mb, 1, none⟩ = some (.map (some ob)) := h.blk.cell (i := 1) rfl
  have hlt := h.blk.lt
  have hf := h.find k
  generalize (look es k).getD 0 = V at hf ⊢
  generalize (look es k).isSome = E at hf ⊢
  unfold ptrV
  clear h
  go_enter Try.func17, Try.ntmps17
  go_wp2
  go_ret2
  exact ⟨rfl, rfl⟩
set_option maxRecDepth 100000 in
theorem oneZero_any (k : ByteArray) (w : World) :
    Calls Try.prog 48 #[.string k] w fun e w' => e = .returned (.string k) ∧ w' = w := by
  by_cases hk : k.data.toList = []
  · have hk2 : k = ⟨#[]⟩ := by
      have h1 : k.data = #[] := Array.toList_eq_nil_iff.1 hk
      cases k; simp_all
    clear hk
    subst hk2
    go_enter Try.func48, Try.ntmps48
    go_wp2
    go_ret
    exact ⟨rfl, rfl⟩
  · have hk1 : k.toList.isEmpty = false := by
      rw [ByteArray.toList_eq]
      cases h : k.data.toList with
      | nil => exact absurd h hk
      | cons => rfl
    clear hk
    go_enter Try.func48, Try.ntmps48
    go_wp2
    go_ret
    exact ⟨rfl, rfl⟩
end
end Go.Proofs.Ytcobfimafpfbpaa
