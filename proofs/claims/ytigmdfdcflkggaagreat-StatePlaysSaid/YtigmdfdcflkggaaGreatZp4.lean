/-
  A map of state.wording by names, of a log: New, Get, Set, Delete, and its notes. Conditions: none.
-/
import Derived.Test.YtigmdfdcflkggaaGreatZp1
namespace Go.Proofs.YtigmdfdcflkggaaGreat.MW
open Go Go.RowKit Go.ChangeMaps

/-- A note in memory: its closure, and the cells that it has caught. -/
def NoteAt (w : World) (mb : Nat) (v : Value) (k : ByteArray) : Option ByteArray → Prop
  | some x => ∃ b0 b1 b2 b3, v = .func (.func 139) #[] #[ptrV b0, ptrV b1, ptrV b2, ptrV b3] ∧ Blk w b0 [.bool true] 4 ∧ Blk w b1 (cellsW x) 126 ∧ Blk w b2 [ptrV mb] 106 ∧ Blk w b3 [.string k] 9
  | none => ∃ b0 b1 b2 b3, v = .func (.func 139) #[] #[ptrV b0, ptrV b1, ptrV b2, ptrV b3] ∧ Blk w b0 [.bool false] 4 ∧ Blk w b2 [ptrV mb] 106 ∧ Blk w b3 [.string k] 9
def NoteT (t : TypeId) : Prop := t = 4 ∨ t = 126 ∨ t = 106 ∨ t = 9
theorem NoteAt.keep {w w' : World} {mb : Nat} {v : Value} {k : ByteArray} {n : Option ByteArray} (h : NoteAt w mb v k n) (hk : ∀ (b : Nat) cur t, Blk w b cur t → NoteT t → Blk w' b cur t) : NoteAt w' mb v k n := by
  cases n with
  | some x =>
    obtain ⟨b0, b1, b2, b3, hv, h0, h1, h2, h3⟩ := h
    exact ⟨b0, b1, b2, b3, hv, hk _ _ _ h0 (.inl rfl), hk _ _ _ h1 (.inr (.inl rfl)), hk _ _ _ h2 (.inr (.inr (.inl rfl))), hk _ _ _ h3 (.inr (.inr (.inr rfl)))⟩
  | none =>
    obtain ⟨b0, b1, b2, b3, hv, h0, h2, h3⟩ := h
    exact ⟨b0, b1, b2, b3, hv, hk _ _ _ h0 (.inl rfl), hk _ _ _ h2 (.inr (.inr (.inl rfl))), hk _ _ _ h3 (.inr (.inr (.inr rfl)))⟩
section
variable {w w' : World} {B mb ob : Nat} {lo : Option Addr} {es : Es ByteArray}
set_option maxRecDepth 100000 in
theorem NewMap_any (lo : Option Addr) (w : World) :
    Calls Tryz.prog 91 #[.pointer lo] w fun e w' => e = .returned (ptrV (w.heap.size + 1)) ∧ MapAt 155 encW w' w.heap.size (w.heap.size + 1) lo w.heap.size [] ∧ Below w.heap.size w w' ∧ w'.heap.size = w.heap.size + 2 := by
  have hk := KMap.new w .string encS
  have hs : (w.alloc (.map #[] 0)).heap.size = w.heap.size + 1 := by simp
  have hk2 : KMap ((w.alloc (.map #[] 0)).alloc (.cells #[.pointer lo, .map (some w.heap.size)] 155)) w.heap.size .string encS (encE encW []) := hk.keep (Below.heap_alloc _ _ _ (by omega))
  have hb2 : Blk ((w.alloc (.map #[] 0)).alloc (.cells #[.pointer lo, .map (some w.heap.size)] 155)) (w.heap.size + 1) [.pointer lo, .map (some w.heap.size)] 155 := by rw [← hs]; exact Blk.new _ _ _
  have hm : MapAt 155 encW ((w.alloc (.map #[] 0)).alloc (.cells #[.pointer lo, .map (some w.heap.size)] 155)) w.heap.size (w.heap.size + 1) lo w.heap.size [] := ⟨by omega, Nat.le_refl _, hb2, hk2⟩
  have hbl := ((Below.refl w.heap.size w).alloc (Nat.le_refl _) (.map #[] 0)).alloc (by rw [hs]; omega) (.cells #[.pointer lo, .map (some w.heap.size)] 155)
  have hsz : ((w.alloc (.map #[] 0)).alloc (.cells #[.pointer lo, .map (some w.heap.size)] 155)).heap.size = w.heap.size + 2 := by simp
  replace hm := Lib.hid hm
  replace hbl := Lib.hid hbl
  replace hsz := Lib.hid hsz
  unfold ptrV
  clear hk hk2 hb2 hs
  have hmm := @run_makeMap Tryz.prog
  go_enter Tryz.func91, Tryz.ntmps91
  go_wp2
  go_ret
  exact ⟨rfl, hm.out, hbl.out, hsz.out⟩
theorem zero_ (w : World) : (zeroValue 126).run Tryz.prog w = .ok (encW noW) w := by kernel_rfl
theorem find (h : MapAt 155 encW w B mb lo ob es) (k : ByteArray) : (Instr.lookup 153 (.map (some ob)) (.string k) true).run Tryz.prog w = .ok (.tuple #[encW ((look es k).getD noW), .bool (look es k).isSome]) w := by
  have := h.map.find keyS Tryz.underlying153 Tryz.underlying9 (zero_ w) true k
  rw [encE_look] at this
  cases hl : look es k with
  | none => rw [hl] at this; exact this
  | some v => rw [hl] at this; exact this
set_option maxRecDepth 100000 in
theorem Get_any (h : MapAt 155 encW w B mb lo ob es) (k : ByteArray) :
    Calls Tryz.prog 102 #[ptrV mb, .string k] w fun e w' => e = .returned (.tuple #[encW ((look es k).getD noW), .bool (look es k).isSome]) ∧ Below w.heap.size w w' := by
  have hX := h.below (Below.of_alloc w (.cells #[.string ⟨#[]⟩] 126))
  have c1 : w.cell? ⟨mb, 1, none⟩ = some (.map (some ob)) := h.blk.cell (i := 1) rfl
  have hlt := h.blk.lt
  have hf := find hX k
  generalize (look es k).getD noW = V at hf ⊢
  generalize (look es k).isSome = E at hf ⊢
  unfold encW at hf
  unfold ptrV encW
  clear h hX
  obtain ⟨x0, hx0⟩ : ∃ y, y = V := ⟨_, rfl⟩
  subst hx0
  have eb : Blk ((w.alloc (.cells #[.string x0] 126)).alloc (.cells #[.string x0] 126)) w.heap.size [.string x0] 126 := (Blk.new w _ _).alloc _
  have hbE : Below w.heap.size w ((w.alloc (.cells #[.string x0] 126)).alloc (.cells #[.string x0] 126)) := ((Below.refl _ w).alloc (Nat.le_refl _) _).alloc (by simp) _
  replace eb := Lib.hid eb
  replace hbE := Lib.hid hbE
  go_enter Tryz.func102, Tryz.ntmps102
  go_wp2
  generalize ((w.alloc (.cells #[.string x0] 126)).alloc (.cells #[.string x0] 126)) = wE at eb hbE ⊢
  replace eb := eb.out
  have e0 : wE.cell? ⟨w.heap.size, 0, none⟩ = some (.string x0) := eb.cell (i := 0) rfl
  exact bodyPost_ret (v := .tuple #[.agg #[.string x0], .bool E]) (by simp [results, Tryz.results102, e0, go_sem]) rfl ⟨rfl, hbE.out⟩
set_option maxRecDepth 100000 in
set_option maxHeartbeats 4000000 in
theorem note_any (h : MapAt 155 encW w B mb lo ob es) (k : ByteArray) (r : Int) (R : Array Value → World → World → Prop)
    (hN : ∀ w1 cap, NoteAt w1 mb (.func (.func 139) #[] cap) k (look es k) → Below w.heap.size w w1 → Calls Tryz.prog 126 #[.pointer lo, .func (.func 139) #[] cap] w1 fun e w' => e = .returned (.int .i64 r) ∧ R cap w1 w') :
    Calls Tryz.prog 131 #[ptrV mb, .string k] w fun e w' => e = .returned (.int .i64 r) ∧ ∃ cap w1, NoteAt w1 mb (.func (.func 139) #[] cap) k (look es k) ∧ Below w.heap.size w w1 ∧ R cap w1 w' := by
  have hmbl := h.blk.lt
  have hobl := h.map.lt
  obtain ⟨z, hz⟩ : ∃ z, w.heap.size = z := ⟨_, rfl⟩
  -- the boxes of m and k
  have hs0 : ((w.alloc (.cells #[.pointer (some ⟨mb, 0, none⟩)] 106)).alloc (.cells #[.string k] 9)).heap.size = z + 2 := by simp [hz]
  have bm : Blk ((w.alloc (.cells #[.pointer (some ⟨mb, 0, none⟩)] 106)).alloc (.cells #[.string k] 9)) z [ptrV mb] 106 := by rw [← hz]; exact (Blk.new w _ _).alloc _
  have bk : Blk ((w.alloc (.cells #[.pointer (some ⟨mb, 0, none⟩)] 106)).alloc (.cells #[.string k] 9)) (z + 1) [.string k] 9 := by
    have := Blk.new (w.alloc (.cells #[.pointer (some ⟨mb, 0, none⟩)] 106)) [.string k] 9
    rw [show (w.alloc (.cells #[.pointer (some ⟨mb, 0, none⟩)] 106)).heap.size = z + 1 by simp [hz]] at this
    exact this
  have hb0 := ((Below.refl w.heap.size w).alloc (Nat.le_refl _) (.cells #[.pointer (some ⟨mb, 0, none⟩)] 106)).alloc (by simp) (.cells #[.string k] 9)
  obtain ⟨v0, hv0⟩ : ∃ v0, (w.alloc (.cells #[.pointer (some ⟨mb, 0, none⟩)] 106)).alloc (.cells #[.string k] 9) = v0 := ⟨_, rfl⟩
  rw [hv0] at hs0 bm bk hb0
  obtain ⟨v, hv⟩ : ∃ v, v0.drew = v := ⟨_, rfl⟩
  have hbv : Below w.heap.size w v := by rw [← hv]; exact hb0.drew
  have hsv : v.heap.size = z + 2 := by rw [← hv]; exact hs0
  have bmv : Blk v z [ptrV mb] 106 := by rw [← hv]; exact bm
  have bkv : Blk v (z + 1) [.string k] 9 := by rw [← hv]; exact bk
  have hMv : MapAt 155 encW v B mb lo ob es := h.keep (hbv.block mb hmbl) (hbv.block ob hobl)
  obtain ⟨V, hV⟩ : ∃ V, (look es k).getD noW = V := ⟨_, rfl⟩
  obtain ⟨E, hE⟩ : ∃ E, (look es k).isSome = E := ⟨_, rfl⟩
  obtain ⟨x0, hx0⟩ : ∃ x, x = V := ⟨_, rfl⟩
  subst hx0
  have hS : ∀ W : World, (∀ b, b < z + 2 → W.heap[b]? = v.heap[b]?) → W.cell? ⟨z, 0, none⟩ = some (.pointer (some ⟨mb, 0, none⟩)) ∧ W.cell? ⟨z + 1, 0, none⟩ = some (.string k) ∧ W.cell? ⟨mb, 1, none⟩ = some (.map (some ob)) ∧ (Instr.lookup 153 (.map (some ob)) (.string k) true).run Tryz.prog W = .ok (.tuple #[.agg #[.string x0], .bool E]) W := fun W hW => by
    have hM : MapAt 155 encW W B mb lo ob es := hMv.keep (hW mb (by omega)) (hW ob (by omega))
    have hf := find hM k
    rw [hV, hE] at hf
    exact ⟨Blk.cell (t := 106) (cur := [ptrV mb]) ((hW z (by omega)).trans bmv) rfl, Blk.cell (t := 9) (cur := [.string k]) ((hW (z + 1) (by omega)).trans bkv) rfl, hM.blk.cell (i := 1) rfl, hf⟩
  obtain ⟨A1, hA1⟩ : ∃ A, v.alloc (.cells #[.string ⟨#[]⟩] 126) = A := ⟨_, rfl⟩
  have sA1 : A1.heap.size = z + 3 := by rw [← hA1]; simp [hsv]
  have kA1 : ∀ b, b < z + 2 → A1.heap[b]? = v.heap[b]? := fun b hb => by rw [← hA1]; exact Below.heap_alloc v _ b (by omega)
  have nA1 : Blk A1 (z + 2) [.string ⟨#[]⟩] 126 := by rw [← hA1, ← hsv]; exact Blk.new v _ _
  have bA1 : Below w.heap.size w A1 := by rw [← hA1]; exact hbv.alloc (by omega) _
  obtain ⟨D1, hD1⟩ : ∃ D, A1.alloc (.cells #[.bool false] 4) = D := ⟨_, rfl⟩
  have sD1 : D1.heap.size = z + 4 := by rw [← hD1]; simp [sA1]
  have kD1 : ∀ b, b < z + 2 → D1.heap[b]? = v.heap[b]? := fun b hb => by rw [← hD1]; exact (Below.heap_alloc A1 _ b (by omega)).trans (kA1 b hb)
  have mD1 : Blk D1 (z + 2) [.string ⟨#[]⟩] 126 := by rw [← hD1]; exact nA1.alloc _
  have nD1 : Blk D1 (z + 3) [.bool false] 4 := by rw [← hD1, ← sA1]; exact Blk.new A1 _ _
  have bD1 : Below w.heap.size w D1 := by rw [← hD1]; exact bA1.alloc (by omega) _
  obtain ⟨F1, hF1⟩ : ∃ F, (D1.setCell ⟨z + 2, 0, none⟩ (.string x0)) = F := ⟨_, rfl⟩
  have kF1 : ∀ b, b < z + 2 → F1.heap[b]? = v.heap[b]? := fun b hb => by rw [← hF1]; exact (heap_setCell_other _ _ b _ (by show b ≠ z + 2; omega)).trans (kD1 b hb)
  have mF1 : Blk F1 (z + 2) [.string x0] 126 := by rw [← hF1]; exact (mD1.set 0 (.string x0))
  have nF1 : Blk F1 (z + 3) [.bool false] 4 := by rw [← hF1]; exact (nD1.other (a := ⟨z + 2, 0, none⟩) (by show z + 3 ≠ z + 2; omega) _)
  have bF1 : Below w.heap.size w F1 := by rw [← hF1]; exact (bD1.setCell (by show w.heap.size ≤ z + 2; omega) _)
  obtain ⟨G1, hG1⟩ : ∃ G, F1.setCell ⟨z + 3, 0, none⟩ (.bool E) = G := ⟨_, rfl⟩
  have kG1 : ∀ b, b < z + 2 → G1.heap[b]? = v.heap[b]? := fun b hb => by rw [← hG1]; exact (heap_setCell_other F1 _ b _ (by show b ≠ z + 3; omega)).trans (kF1 b hb)
  have mG1 : Blk G1 (z + 2) [.string x0] 126 := by rw [← hG1]; exact mF1.other (a := ⟨z + 3, 0, none⟩) (by show z + 2 ≠ z + 3; omega) _
  have nG1 : Blk G1 (z + 3) [.bool E] 4 := by rw [← hG1]; exact nF1.set 0 (.bool E)
  have bG1 : Below w.heap.size w G1 := by rw [← hG1]; exact bF1.setCell (by show w.heap.size ≤ z + 3; omega) _
  have SA1 := hS A1 kA1
  have SD1 := hS D1 kD1
  have SF1 := hS F1 kF1
  have xD1a : D1.cell? ⟨z + 2, 0, none⟩ = some (.string ⟨#[]⟩) := mD1.cell (i := 0) rfl
  have yD1a : D1.frozen? ⟨z + 2, 0, none⟩ = false := mD1.frozen 0
  have xF1 : F1.cell? ⟨z + 3, 0, none⟩ = some (.bool false) := nF1.cell (i := 0) rfl
  have yF1 : F1.frozen? ⟨z + 3, 0, none⟩ = false := nF1.frozen 0
  have zG1 : Below w.heap.size w G1 ∧ Blk G1 (z + 2) [.string x0] 126 ∧ Blk G1 (z + 3) [.bool E] 4 ∧ Blk G1 z [ptrV mb] 106 ∧ Blk G1 (z + 1) [.string k] 9 := ⟨bG1, mG1, nG1, (kG1 z (by omega)).trans bmv, (kG1 (z + 1) (by omega)).trans bkv⟩
  replace zG1 := Lib.hid zG1
  replace hA1 := Lib.hid hA1
  replace hD1 := Lib.hid hD1
  replace hF1 := Lib.hid hF1
  replace hG1 := Lib.hid hG1
  replace sA1 := Lib.hid sA1
  replace SA1 := Lib.hid SA1
  replace SD1 := Lib.hid SD1
  replace SF1 := Lib.hid SF1
  clear bG1 nG1 mG1 kG1 bF1 nF1 mF1 kF1 bD1 nD1 mD1 kD1 sD1 bA1 nA1 kA1
  obtain ⟨A2, hA2⟩ : ∃ A, v.alloc (.cells #[.bool false] 4) = A := ⟨_, rfl⟩
  have sA2 : A2.heap.size = z + 3 := by rw [← hA2]; simp [hsv]
  have kA2 : ∀ b, b < z + 2 → A2.heap[b]? = v.heap[b]? := fun b hb => by rw [← hA2]; exact Below.heap_alloc v _ b (by omega)
  have nA2 : Blk A2 (z + 2) [.bool false] 4 := by rw [← hA2, ← hsv]; exact Blk.new v _ _
  have bA2 : Below w.heap.size w A2 := by rw [← hA2]; exact hbv.alloc (by omega) _
  obtain ⟨D2, hD2⟩ : ∃ D, A2.alloc (.cells #[.string ⟨#[]⟩] 126) = D := ⟨_, rfl⟩
  have sD2 : D2.heap.size = z + 4 := by rw [← hD2]; simp [sA2]
  have kD2 : ∀ b, b < z + 2 → D2.heap[b]? = v.heap[b]? := fun b hb => by rw [← hD2]; exact (Below.heap_alloc A2 _ b (by omega)).trans (kA2 b hb)
  have mD2 : Blk D2 (z + 2) [.bool false] 4 := by rw [← hD2]; exact nA2.alloc _
  have nD2 : Blk D2 (z + 3) [.string ⟨#[]⟩] 126 := by rw [← hD2, ← sA2]; exact Blk.new A2 _ _
  have bD2 : Below w.heap.size w D2 := by rw [← hD2]; exact bA2.alloc (by omega) _
  obtain ⟨F2, hF2⟩ : ∃ F, (D2.setCell ⟨z + 3, 0, none⟩ (.string x0)) = F := ⟨_, rfl⟩
  have kF2 : ∀ b, b < z + 2 → F2.heap[b]? = v.heap[b]? := fun b hb => by rw [← hF2]; exact (heap_setCell_other _ _ b _ (by show b ≠ z + 3; omega)).trans (kD2 b hb)
  have mF2 : Blk F2 (z + 3) [.string x0] 126 := by rw [← hF2]; exact (nD2.set 0 (.string x0))
  have nF2 : Blk F2 (z + 2) [.bool false] 4 := by rw [← hF2]; exact (mD2.other (a := ⟨z + 3, 0, none⟩) (by show z + 2 ≠ z + 3; omega) _)
  have bF2 : Below w.heap.size w F2 := by rw [← hF2]; exact (bD2.setCell (by show w.heap.size ≤ z + 3; omega) _)
  obtain ⟨G2, hG2⟩ : ∃ G, F2.setCell ⟨z + 2, 0, none⟩ (.bool E) = G := ⟨_, rfl⟩
  have kG2 : ∀ b, b < z + 2 → G2.heap[b]? = v.heap[b]? := fun b hb => by rw [← hG2]; exact (heap_setCell_other F2 _ b _ (by show b ≠ z + 2; omega)).trans (kF2 b hb)
  have mG2 : Blk G2 (z + 3) [.string x0] 126 := by rw [← hG2]; exact mF2.other (a := ⟨z + 2, 0, none⟩) (by show z + 3 ≠ z + 2; omega) _
  have nG2 : Blk G2 (z + 2) [.bool E] 4 := by rw [← hG2]; exact nF2.set 0 (.bool E)
  have bG2 : Below w.heap.size w G2 := by rw [← hG2]; exact bF2.setCell (by show w.heap.size ≤ z + 2; omega) _
  have SA2 := hS A2 kA2
  have SD2 := hS D2 kD2
  have SF2 := hS F2 kF2
  have xD2a : D2.cell? ⟨z + 3, 0, none⟩ = some (.string ⟨#[]⟩) := nD2.cell (i := 0) rfl
  have yD2a : D2.frozen? ⟨z + 3, 0, none⟩ = false := nD2.frozen 0
  have xF2 : F2.cell? ⟨z + 2, 0, none⟩ = some (.bool false) := nF2.cell (i := 0) rfl
  have yF2 : F2.frozen? ⟨z + 2, 0, none⟩ = false := nF2.frozen 0
  have zG2 : Below w.heap.size w G2 ∧ Blk G2 (z + 3) [.string x0] 126 ∧ Blk G2 (z + 2) [.bool E] 4 ∧ Blk G2 z [ptrV mb] 106 ∧ Blk G2 (z + 1) [.string k] 9 := ⟨bG2, mG2, nG2, (kG2 z (by omega)).trans bmv, (kG2 (z + 1) (by omega)).trans bkv⟩
  replace zG2 := Lib.hid zG2
  replace hA2 := Lib.hid hA2
  replace hD2 := Lib.hid hD2
  replace hF2 := Lib.hid hF2
  replace hG2 := Lib.hid hG2
  replace sA2 := Lib.hid sA2
  replace SA2 := Lib.hid SA2
  replace SD2 := Lib.hid SD2
  replace SF2 := Lib.hid SF2
  clear bG2 nG2 mG2 kG2 bF2 nF2 mF2 kF2 bD2 nD2 mD2 kD2 sD2 bA2 nA2 kA2
  have hS0 := hS v (fun _ _ => rfl)
  replace hN := Lib.hid hN
  replace hv0 := Lib.hid hv0
  replace hv := Lib.hid hv
  replace hsv := Lib.hid hsv
  replace hV := Lib.hid hV
  replace hE := Lib.hid hE
  have hbk := h.blk
  replace hbk := Lib.hid hbk
  obtain ⟨NT, hNT⟩ : ∃ n, look es k = n := ⟨_, rfl⟩
  rw [hNT]
  replace hNT := Lib.hid hNT
  replace hz := Lib.hid hz
  unfold ptrV
  clear hS hMv bmv bkv hbv hb0 bm bk hs0 h
  go_enter Tryz.func131, Tryz.ntmps131
  go_upto_region 1 with fail
  rw [hz.out, hv0.out]
  go_cut [5, 6] from 5 to 15 (fun t5 t6 wx => ∃ b5 b6 : Nat, t5 = .pointer (some ⟨b5, 0, none⟩) ∧ t6 = .pointer (some ⟨b6, 0, none⟩) ∧ Below w.heap.size w wx ∧ Blk wx b5 [.string x0] 126 ∧ Blk wx b6 [.bool E] 4 ∧ Blk wx z [ptrV mb] 106 ∧ Blk wx (z + 1) [.string k] 9)
  case first =>
    refine wp_region_last (L := 12) (S := (fun w' : World => w'.cell? ⟨z, 0, none⟩ = some (.pointer (some ⟨mb, 0, none⟩)) ∧ w'.cell? ⟨z + 1, 0, none⟩ = some (.string k) ∧ w'.cell? ⟨mb, 1, none⟩ = some (.map (some ob)) ∧ (Instr.lookup 153 (.map (some ob)) (.string k) true).run Tryz.prog w' = .ok (.tuple #[.agg #[.string x0], .bool E]) w')) (by kernel_rfl) ?_
    rw [hv.out]
    refine wpAnyT_takeT (n := 40) (i := 0) (v := .pointer (some ⟨mb, 0, none⟩)) rfl (by kernel_rfl) (by kernel_rfl) (by kernel_rfl) (by kernel_rfl) (by kernel_rfl) (fun _ _ _ h => h) (Or.inl ⟨by rfl, ?_⟩) hS0 ?_
    · intro W hW
      obtain ⟨k0, k1, k2, k3⟩ := hW
      clear hS0 xD1a yD1a xD2a yD2a xF1 yF1 xF2 yF2
      go_simp
      try (intro hx; exfalso; omega)
    try simp only [Act.put, List.setIfInBounds_toArray]
    refine wpAnyT_takeT (n := 40) (i := 1) (v := .pointer (some ⟨mb, 0, none⟩)) rfl (by kernel_rfl) (by kernel_rfl) (by kernel_rfl) (by kernel_rfl) (by kernel_rfl) (fun _ _ _ h => h) (Or.inl ⟨by rfl, ?_⟩) hS0 ?_
    · intro W hW
      obtain ⟨k0, k1, k2, k3⟩ := hW
      clear hS0 xD1a yD1a xD2a yD2a xF1 yF1 xF2 yF2
      go_simp
      try (intro hx; exfalso; omega)
    try simp only [Act.put]
    refine wpAnyT_takeT (n := 40) (i := 2) (v := .pointer (some ⟨mb, 1, none⟩)) rfl (by kernel_rfl) (by kernel_rfl) (by kernel_rfl) (by kernel_rfl) (by kernel_rfl) (fun _ _ _ h => h) (Or.inl ⟨by rfl, ?_⟩) hS0 ?_
    · intro W hW
      obtain ⟨k0, k1, k2, k3⟩ := hW
      clear hS0 xD1a yD1a xD2a yD2a xF1 yF1 xF2 yF2
      go_simp
      try (intro hx; exfalso; omega)
    try simp only [Act.put]
    refine wpAnyT_takeT (n := 40) (i := 3) (v := .map (some ob)) rfl (by kernel_rfl) (by kernel_rfl) (by kernel_rfl) (by kernel_rfl) (by kernel_rfl) (fun _ _ _ h => h) (Or.inl ⟨by rfl, ?_⟩) hS0 ?_
    · intro W hW
      obtain ⟨k0, k1, k2, k3⟩ := hW
      clear hS0 xD1a yD1a xD2a yD2a xF1 yF1 xF2 yF2
      go_simp
      try (intro hx; exfalso; omega)
    try simp only [Act.put]
    refine wpAnyT_takeT (n := 40) (i := 4) (v := .string k) rfl (by kernel_rfl) (by kernel_rfl) (by kernel_rfl) (by kernel_rfl) (by kernel_rfl) (fun _ _ _ h => h) (Or.inl ⟨by rfl, ?_⟩) hS0 ?_
    · intro W hW
      obtain ⟨k0, k1, k2, k3⟩ := hW
      clear hS0 xD1a yD1a xD2a yD2a xF1 yF1 xF2 yF2
      go_simp
      try (intro hx; exfalso; omega)
    try simp only [Act.put]
    refine wpAnyT_takeT (n := 40) (i := 5) (v := .tuple #[.agg #[.string x0], .bool E]) rfl (by kernel_rfl) (by kernel_rfl) (by kernel_rfl) (by kernel_rfl) (by kernel_rfl) (fun _ _ _ h => h) (Or.inl ⟨by rfl, ?_⟩) hS0 ?_
    · intro W hW
      obtain ⟨k0, k1, k2, k3⟩ := hW
      clear hS0 xD1a yD1a xD2a yD2a xF1 yF1 xF2 yF2
      go_simp
      try (intro hx; exfalso; omega)
    try simp only [Act.put]
    refine wpAnyT_takeT (n := 40) (i := 6) (v := .tuple #[.agg #[.string x0], .bool E]) rfl (by kernel_rfl) (by kernel_rfl) (by kernel_rfl) (by kernel_rfl) (by kernel_rfl) (fun _ _ _ h => h) (Or.inl ⟨by rfl, ?_⟩) hS0 ?_
    · intro W hW
      obtain ⟨k0, k1, k2, k3⟩ := hW
      clear hS0 xD1a yD1a xD2a yD2a xF1 yF1 xF2 yF2
      go_simp
      try (intro hx; exfalso; omega)
    try simp only [Act.put]
    refine wpAnyT_takeT (n := 40) (i := 7) (v := .agg #[.string x0]) rfl (by kernel_rfl) (by kernel_rfl) (by kernel_rfl) (by kernel_rfl) (by kernel_rfl) (fun _ _ _ h => h) (Or.inl ⟨by rfl, ?_⟩) hS0 ?_
    · intro W hW
      obtain ⟨k0, k1, k2, k3⟩ := hW
      clear hS0 xD1a yD1a xD2a yD2a xF1 yF1 xF2 yF2
      go_simp
      try (intro hx; exfalso; omega)
    try simp only [Act.put]
    refine wpAnyT_takeT (n := 40) (i := 8) (v := .bool E) rfl (by kernel_rfl) (by kernel_rfl) (by kernel_rfl) (by kernel_rfl) (by kernel_rfl) (fun _ _ _ h => h) (Or.inl ⟨by rfl, ?_⟩) hS0 ?_
    · intro W hW
      obtain ⟨k0, k1, k2, k3⟩ := hW
      clear hS0 xD1a yD1a xD2a yD2a xF1 yF1 xF2 yF2
      go_simp
      try (intro hx; exfalso; omega)
    try simp only [Act.put]
    clear hS0
    refine wpAnyT_two (i := 9) (j := 10) rfl rfl (by kernel_rfl) rfl rfl ?_ ?_
    · go_simp
      rw [hsv.out, hA1.out]
      refine ⟨SA1.out, ?_⟩
      refine wpAnyT_one (i := 10) rfl (by kernel_rfl) rfl ?_
      go_simp
      rw [sA1.out, hD1.out]
      refine ⟨SD1.out, ?_⟩
      refine wpAnyT_one (i := 11) rfl (by kernel_rfl) rfl ?_
      go_simp
      rw [hF1.out]
      refine ⟨⟨(by first | exact SD1.out.1 | exact SF1.out.1), (by first | exact SD1.out.2.1 | exact SF1.out.2.1), (by first | exact SD1.out.2.2.1 | exact SF1.out.2.2.1), (by first | exact SD1.out.2.2.2 | exact SF1.out.2.2.2)⟩, ?_⟩
      refine wpAnyT_one (i := 12) rfl (by kernel_rfl) rfl ?_
      go_simp
      rw [hG1.out]
      refine wpAnyT_done (by kernel_rfl) ?_ _
      go_wp2_with fail
      go_meet
      exact ⟨_, _, rfl, rfl, zG1.out⟩
    · go_simp
      rw [hsv.out, hA2.out]
      refine ⟨SA2.out, ?_⟩
      refine wpAnyT_one (i := 9) rfl (by kernel_rfl) rfl ?_
      go_simp
      rw [sA2.out, hD2.out]
      refine ⟨SD2.out, ?_⟩
      refine wpAnyT_one (i := 11) rfl (by kernel_rfl) rfl ?_
      go_simp
      rw [hF2.out]
      refine ⟨⟨(by first | exact SD2.out.1 | exact SF2.out.1), (by first | exact SD2.out.2.1 | exact SF2.out.2.1), (by first | exact SD2.out.2.2.1 | exact SF2.out.2.2.1), (by first | exact SD2.out.2.2.2 | exact SF2.out.2.2.2)⟩, ?_⟩
      refine wpAnyT_one (i := 12) rfl (by kernel_rfl) rfl ?_
      go_simp
      rw [hG2.out]
      refine wpAnyT_done (by kernel_rfl) ?_ _
      go_wp2_with fail
      go_meet
      exact ⟨_, _, rfl, rfl, zG2.out⟩
  case rest =>
    obtain ⟨b5, b6, rfl, rfl, hbc, n5, n6, nm, nk⟩ := hcut
    have hnote : NoteAt wc mb (.func (.func 139) #[] #[.pointer (some ⟨b6, 0, none⟩), .pointer (some ⟨b5, 0, none⟩), .pointer (some ⟨z, 0, none⟩), .pointer (some ⟨z + 1, 0, none⟩)]) k NT := by
      have hV2 := hV.out
      have hE2 := hE.out
      rw [hNT.out] at hV2 hE2
      cases NT with
      | none => exact ⟨b6, b5, z, z + 1, rfl, by rw [← hE2] at n6; exact n6, nm, nk⟩
      | some x =>
        obtain rfl : x = x0 := hV2
        exact ⟨b6, b5, z, z + 1, rfl, by rw [← hE2] at n6; exact n6, n5, nm, nk⟩
    have hcall := hN.out wc _ (by rw [hNT.out]; exact hnote) hbc
    have q0 : wc.cell? ⟨z, 0, none⟩ = some (.pointer (some ⟨mb, 0, none⟩)) := nm.cell (i := 0) rfl
    have hbw : Blk wc mb _ _ := (hbc.block mb hmbl).trans hbk.out
    have q1 : wc.cell? ⟨mb, 0, none⟩ = some (.pointer lo) := hbw.cell (i := 0) rfl
    have ql := nm.lt
    have ql2 := hbw.lt
    have hmf : ∀ (fn : Fn) (first cap : Array Value) (w : World), (Instr.makeFunc fn first cap).run Tryz.prog w = .ok (.func fn first cap) w := fun _ _ _ _ => rfl
    replace hnote := Lib.hid hnote
    replace hcall := Lib.hid hcall
    replace hbc := Lib.hid hbc
    clear hbw nm nk n5 n6 xD1a yD1a xD2a yD2a xF1 yF1 xF2 yF2 hS0
    go_wp2_with fail
    refine hcall.out.mono ?_
    rintro e w' ⟨rfl, hR⟩
    replace hR := Lib.hid hR
    clear q0 q1
    go_wp2
    go_ret
    exact ⟨rfl, _, wc, hnote.out, hbc.out, hR.out⟩
set_option maxRecDepth 100000 in
theorem do_put (h : MapAt 155 encW w B mb lo ob es) {cap : Array Value} {k : ByteArray} {x : ByteArray} (n : NoteAt w mb (.func (.func 139) #[] cap) k (some x)) :
    Calls Tryz.prog 139 cap w fun e w' => e = .returned (.tuple #[]) ∧ MapAt 155 encW w' B mb lo ob (putK es k x) ∧ Stp (fun b => b = ob) w w' := by
  obtain ⟨b0, b1, b2, b3, hv, n0, n1, n2, n3⟩ := n
  obtain ⟨_, _, rfl⟩ := Value.func.inj hv
  obtain ⟨x0, hx0⟩ : ∃ y, y = x := ⟨_, rfl⟩
  subst hx0
  have q0 : w.cell? ⟨b0, 0, none⟩ = some (.bool true) := n0.cell (i := 0) rfl
  have q2 : w.cell? ⟨b2, 0, none⟩ = some (.pointer (some ⟨mb, 0, none⟩)) := n2.cell (i := 0) rfl
  have q3 : w.cell? ⟨b3, 0, none⟩ = some (.string k) := n3.cell (i := 0) rfl
  have qv0 : w.cell? ⟨b1, 0, none⟩ = some (.string x0) := n1.cell (i := 0) rfl
  have l0 := n0.lt
  have l1 := n1.lt
  have l2 := n2.lt
  have l3 := n3.lt
  have lm := h.blk.lt
  have c1 : w.cell? ⟨mb, 1, none⟩ = some (.map (some ob)) := h.blk.cell (i := 1) rfl
  have hm : MapAt 155 encW (w.drewN 1) B mb lo ob es := h.keep rfl rfl
  unfold ptrV
  clear h hv n0 n1 n2 n3
  replace hm := Lib.hid hm
  go_enter Tryz.func139, Tryz.ntmps139
  go_wp2_with fail
  go_still_tail 6, (by kernel_rfl)
  change wpList _ _ _ _ _ (w.drewN 1)
  refine wpList_set_k rfl _ _ _ 153 rfl 9 126 keyS Tryz.underlying153 Tryz.underlying9 rfl hm.out.map k rfl (encW x0) rfl ?_
  intro o hk
  have hM := hm.out.put k x0 o hk
  have hS : Stp (fun b => b = ob) w (setBlock (w.drewN 1) ob o) := (Stp.drewN _ w 1).trans (Stp.setB (S := fun b => b = ob) rfl o) (fun _ _ h => h)
  generalize setBlock (w.drewN 1) ob o = w2 at hM hS ⊢
  clear hk
  replace hM := Lib.hid hM
  replace hS := Lib.hid hS
  go_wp2
  go_end0
  exact ⟨rfl, hM.out, hS.out⟩
set_option maxRecDepth 100000 in
theorem do_del (h : MapAt 155 encW w B mb lo ob es) {cap : Array Value} {k : ByteArray} (n : NoteAt w mb (.func (.func 139) #[] cap) k none) :
    Calls Tryz.prog 139 cap w fun e w' => e = .returned (.tuple #[]) ∧ MapAt 155 encW w' B mb lo ob (dropK es k) ∧ Stp (fun b => b = ob) w w' := by
  obtain ⟨b0, b1, b2, b3, hv, n0, n2, n3⟩ := n
  obtain ⟨_, _, rfl⟩ := Value.func.inj hv
  have q0 : w.cell? ⟨b0, 0, none⟩ = some (.bool false) := n0.cell (i := 0) rfl
  have q2 : w.cell? ⟨b2, 0, none⟩ = some (.pointer (some ⟨mb, 0, none⟩)) := n2.cell (i := 0) rfl
  have q3 : w.cell? ⟨b3, 0, none⟩ = some (.string k) := n3.cell (i := 0) rfl
  have l0 := n0.lt
  have l2 := n2.lt
  have l3 := n3.lt
  have lm := h.blk.lt
  have c1 : w.cell? ⟨mb, 1, none⟩ = some (.map (some ob)) := h.blk.cell (i := 1) rfl
  have hm : MapAt 155 encW (w.drewN 1) B mb lo ob es := h.keep rfl rfl
  unfold ptrV
  clear h hv n0 n2 n3
  replace hm := Lib.hid hm
  go_enter Tryz.func139, Tryz.ntmps139
  go_wp2_with fail
  go_still_tail 5, (by kernel_rfl)
  change wpList _ _ _ _ _ (w.drewN 1)
  refine wpList_del_k rfl _ _ 153 9 rfl 126 keyS Tryz.underlying153 Tryz.underlying9 rfl hm.out.map k rfl ?_
  intro o hk
  have hM := hm.out.del k o hk
  have hS : Stp (fun b => b = ob) w (setBlock (w.drewN 1) ob o) := (Stp.drewN _ w 1).trans (Stp.setB (S := fun b => b = ob) rfl o) (fun _ _ h => h)
  generalize setBlock (w.drewN 1) ob o = w2 at hM hS ⊢
  clear hk
  replace hM := Lib.hid hM
  replace hS := Lib.hid hS
  go_wp2
  go_end0
  exact ⟨rfl, hM.out, hS.out⟩
set_option maxRecDepth 100000 in
theorem Set_bad (k : ByteArray) (v : ByteArray) (h : MapAt 155 encW w B mb lo ob es) (r : Int) (hr : 0 < r) (R : Array Value → World → World → Prop)
    (hN : ∀ w1 cap, NoteAt w1 mb (.func (.func 139) #[] cap) k (look es k) → Below w.heap.size w w1 → Calls Tryz.prog 126 #[.pointer lo, .func (.func 139) #[] cap] w1 fun e w' => e = .returned (.int .i64 r) ∧ R cap w1 w') :
    Calls Tryz.prog 99 #[ptrV mb, .string k, encW v] w fun e w' => e = .returned (.int .i64 r) ∧ ∃ cap w1, NoteAt w1 mb (.func (.func 139) #[] cap) k (look es k) ∧ Below w.heap.size w w1 ∧ R cap w1 w' := by
  obtain ⟨x0, hx0⟩ : ∃ y, y = v := ⟨_, rfl⟩
  subst hx0
  have hX : MapAt 155 encW (w.alloc (.cells #[.string x0] 126)) B mb lo ob es := h.below (Below.of_alloc w _)
  have bX : Blk (w.alloc (.cells #[.string x0] 126)) w.heap.size [.string x0] 126 := Blk.new w _ _
  have hbX : Below w.heap.size w (w.alloc (.cells #[.string x0] 126)) := Below.of_alloc w _
  have hn := note_any hX k r R (fun w1 cap h1 hb => hN w1 cap h1 (hbX.trans (hb.mono (by simp))))
  have hne : (r == 0) = false := by rw [beq_eq_false_iff_ne]; omega
  have hne2 : (r != 0) = true := by rw [bne_iff_ne]; omega
  unfold ptrV at hn
  unfold ptrV encW
  replace hn := Lib.hid hn
  replace hbX := Lib.hid hbX
  clear hN h hX bX
  go_enter Tryz.func99, Tryz.ntmps99
  go_upto_region 5 with fail
  generalize (w.alloc (.cells #[.string x0] 126)) = wX at hn hbX ⊢
  go_wp2_with fail
  refine (oneZero_any k _).mono ?_
  rintro e w' ⟨rfl, hw⟩
  obtain rfl := hw.symm
  go_wp2_with fail
  refine hn.out.mono ?_
  rintro e w' ⟨rfl, cap, w1, hnt, hb, hR⟩
  replace hnt := Lib.hid hnt
  replace hb := Lib.hid (hbX.out.trans (hb.mono hbX.out.size))
  replace hR := Lib.hid hR
  go_wp2
  go_ret
  exact ⟨rfl, cap, w1, hnt.out, hb.out, hR.out⟩
set_option maxRecDepth 100000 in
theorem Set_ok (k : ByteArray) (v : ByteArray) (h : MapAt 155 encW w B mb lo ob es) (R : Array Value → World → World → Prop)
    (hN : ∀ w1 cap, NoteAt w1 mb (.func (.func 139) #[] cap) k (look es k) → Below w.heap.size w w1 → Calls Tryz.prog 126 #[.pointer lo, .func (.func 139) #[] cap] w1 fun e w' => e = .returned (.int .i64 0) ∧ R cap w1 w')
    (hM : ∀ cap w1 w', Below w.heap.size w w1 → R cap w1 w' → MapAt 155 encW w' B mb lo ob es ∧ ∀ b cur t, Blk w1 b cur t → NoteT t → Blk w' b cur t) :
    Calls Tryz.prog 99 #[ptrV mb, .string k, encW v] w fun e w' => e = .returned (.int .i64 0) ∧ MapAt 155 encW w' B mb lo ob (putK es k v) ∧ ∃ cap w1 w2, NoteAt w1 mb (.func (.func 139) #[] cap) k (look es k) ∧ Below w.heap.size w w1 ∧ R cap w1 w2 ∧ Stp (fun b => b = ob) w2 w' := by
  obtain ⟨x0, hx0⟩ : ∃ y, y = v := ⟨_, rfl⟩
  subst hx0
  have hX : MapAt 155 encW (w.alloc (.cells #[.string x0] 126)) B mb lo ob es := h.below (Below.of_alloc w _)
  have bX : Blk (w.alloc (.cells #[.string x0] 126)) w.heap.size [.string x0] 126 := Blk.new w _ _
  have hbX : Below w.heap.size w (w.alloc (.cells #[.string x0] 126)) := Below.of_alloc w _
  have hn := note_any hX k 0 (fun cap w1 w2 => R cap w1 w2 ∧ Blk w1 w.heap.size [.string x0] 126) (fun w1 cap h1 hb => (hN w1 cap h1 (hbX.trans (hb.mono (by simp)))).mono fun e w' ⟨q1, q2⟩ => ⟨q1, q2, (hb.block _ bX.lt).trans bX⟩)
  obtain ⟨z, hz⟩ : ∃ z, w.heap.size = z := ⟨_, rfl⟩
  rw [hz] at bX hbX hM hn ⊢
  unfold ptrV at hn
  unfold ptrV encW
  replace hn := Lib.hid hn
  replace hM := Lib.hid hM
  replace hbX := Lib.hid hbX
  clear hN h hX bX
  go_enter Tryz.func99, Tryz.ntmps99
  go_upto_region 5 with fail
  try rw [hz]
  replace hz := Lib.hid hz
  generalize (w.alloc (.cells #[.string x0] 126)) = wX at hn hbX ⊢
  go_wp2_with fail
  refine (oneZero_any k _).mono ?_
  rintro e w' ⟨rfl, hw⟩
  obtain rfl := hw.symm
  go_wp2_with fail
  refine hn.out.mono ?_
  rintro e w2 ⟨rfl, cap, w1, hnt, hb0, hR, hbx⟩
  have hb : Below z w w1 := hbX.out.trans (hb0.mono (by rw [← hz.out]; exact hbX.out.size))
  obtain ⟨hM2, hkk⟩ := hM.out cap w1 w2 hb hR
  have hbx2 := hkk _ _ _ hbx (.inr (.inl rfl))
  have c1 : w2.cell? ⟨mb, 1, none⟩ = some (.map (some ob)) := hM2.blk.cell (i := 1) rfl
  have lm := hM2.blk.lt
  have lz := hbx2.lt
  have qv0 : w2.cell? ⟨z, 0, none⟩ = some (.string x0) := hbx2.cell (i := 0) rfl
  replace hM2 := Lib.hid hM2
  replace hnt := Lib.hid hnt
  replace hb := Lib.hid hb
  replace hR := Lib.hid hR
  clear hb0 hbx hkk hbx2
  go_upto_region 9 with fail
  go_still_tail 6, (by kernel_rfl)
  change wpList _ _ _ _ _ (w2.drewN 1)
  have hm3 : MapAt 155 encW (w2.drewN 1) B mb lo ob es := hM2.out.keep rfl rfl
  refine wpList_set_k rfl _ _ _ 153 rfl 9 126 keyS Tryz.underlying153 Tryz.underlying9 rfl hm3.map k rfl (encW x0) rfl ?_
  intro o hk
  have hM3 := hm3.put k x0 o hk
  have hS : Stp (fun b => b = ob) w2 (setBlock (w2.drewN 1) ob o) := (Stp.drewN _ w2 1).trans (Stp.setB (S := fun b => b = ob) rfl o) (fun _ _ h => h)
  generalize setBlock (w2.drewN 1) ob o = w3 at hM3 hS ⊢
  clear hk hm3 c1
  replace hM3 := Lib.hid hM3
  replace hS := Lib.hid hS
  go_wp2
  go_ret
  exact ⟨rfl, hM3.out, cap, w1, w2, hnt.out, hb.out, hR.out, hS.out⟩
set_option maxRecDepth 100000 in
theorem Delete_none (k : ByteArray) (h : MapAt 155 encW w B mb lo ob es) (hk : look es k = none)
    (hi : Calls Tryz.prog 77 #[.pointer lo] w fun e w' => e = .returned (.bool false) ∧ w' = w) :
    Calls Tryz.prog 101 #[ptrV mb, .string k] w fun e w' => e = .returned (.int .i64 0) ∧ Below w.heap.size w w' := by
  have c0 : w.cell? ⟨mb, 0, none⟩ = some (.pointer lo) := h.blk.cell (i := 0) rfl
  have c1 : w.cell? ⟨mb, 1, none⟩ = some (.map (some ob)) := h.blk.cell (i := 1) rfl
  have lm := h.blk.lt
  have hf := find h k
  rw [hk] at hf
  replace hf : (Instr.lookup 153 (.map (some ob)) (.string k) true).run Tryz.prog w = .ok (.tuple #[.agg #[.string ⟨#[]⟩], .bool false]) w := hf
  have hbX : Below w.heap.size w (w.alloc (.cells #[.string ⟨#[]⟩] 126)) := Below.of_alloc w _
  replace hbX := Lib.hid hbX
  unfold ptrV
  clear h hk
  go_enter Tryz.func101, Tryz.ntmps101
  go_wp2_with fail
  refine hi.mono ?_
  rintro e w' ⟨rfl, hw⟩
  obtain rfl := hw.symm
  go_wp2
  go_ret
  exact ⟨rfl, hbX.out⟩
set_option maxRecDepth 100000 in
theorem Delete_bad (k : ByteArray) (h : MapAt 155 encW w B mb lo ob es) (x : ByteArray) (hk : look es k = some x)
    (hi : Calls Tryz.prog 77 #[.pointer lo] w fun e w' => e = .returned (.bool false) ∧ w' = w) (r : Int) (hr : 0 < r) (R : Array Value → World → World → Prop)
    (hN : ∀ w1 cap, NoteAt w1 mb (.func (.func 139) #[] cap) k (look es k) → Below w.heap.size w w1 → Calls Tryz.prog 126 #[.pointer lo, .func (.func 139) #[] cap] w1 fun e w' => e = .returned (.int .i64 r) ∧ R cap w1 w') :
    Calls Tryz.prog 101 #[ptrV mb, .string k] w fun e w' => e = .returned (.int .i64 r) ∧ ∃ cap w1, NoteAt w1 mb (.func (.func 139) #[] cap) k (look es k) ∧ Below w.heap.size w w1 ∧ R cap w1 w' := by
  obtain ⟨x0, hx0⟩ : ∃ y, y = x := ⟨_, rfl⟩
  subst hx0
  have hX : MapAt 155 encW (w.alloc (.cells #[.string x0] 126)) B mb lo ob es := h.below (Below.of_alloc w _)
  have hbX : Below w.heap.size w (w.alloc (.cells #[.string x0] 126)) := Below.of_alloc w _
  have hn := note_any hX k r R (fun w1 cap h1 hb => hN w1 cap h1 (hbX.trans (hb.mono (by simp))))
  have hne : (r == 0) = false := by rw [beq_eq_false_iff_ne]; omega
  have hne2 : (r != 0) = true := by rw [bne_iff_ne]; omega
  have c0 : w.cell? ⟨mb, 0, none⟩ = some (.pointer lo) := h.blk.cell (i := 0) rfl
  have c1 : w.cell? ⟨mb, 1, none⟩ = some (.map (some ob)) := h.blk.cell (i := 1) rfl
  have lm := h.blk.lt
  have hf := find h k
  rw [hk] at hf
  replace hf : (Instr.lookup 153 (.map (some ob)) (.string k) true).run Tryz.prog w = .ok (.tuple #[.agg #[.string x0], .bool true]) w := hf
  replace hn := Lib.hid hn
  replace hbX := Lib.hid hbX
  unfold ptrV at hn ⊢
  clear hN h hk hX
  go_enter Tryz.func101, Tryz.ntmps101
  go_wp2_with fail
  refine hi.mono ?_
  rintro e w' ⟨rfl, hw⟩
  obtain rfl := hw.symm
  go_upto_region 4 with fail
  generalize (w.alloc (.cells #[.string x0] 126)) = wX at hn hbX ⊢
  clear c0 c1 hf lm
  go_wp2_with fail
  refine (oneZero_any k _).mono ?_
  rintro e w' ⟨rfl, hw⟩
  obtain rfl := hw.symm
  go_wp2_with fail
  refine hn.out.mono ?_
  rintro e w' ⟨rfl, cap, w1, hnt, hb, hR⟩
  replace hnt := Lib.hid hnt
  replace hb := Lib.hid (hbX.out.trans (hb.mono hbX.out.size))
  replace hR := Lib.hid hR
  go_wp2
  go_ret
  exact ⟨rfl, cap, w1, hnt.out, hb.out, hR.out⟩
set_option maxRecDepth 100000 in
theorem Delete_ok (k : ByteArray) (h : MapAt 155 encW w B mb lo ob es) (x : ByteArray) (hk : look es k = some x)
    (hi : Calls Tryz.prog 77 #[.pointer lo] w fun e w' => e = .returned (.bool false) ∧ w' = w) (R : Array Value → World → World → Prop)
    (hN : ∀ w1 cap, NoteAt w1 mb (.func (.func 139) #[] cap) k (look es k) → Below w.heap.size w w1 → Calls Tryz.prog 126 #[.pointer lo, .func (.func 139) #[] cap] w1 fun e w' => e = .returned (.int .i64 0) ∧ R cap w1 w')
    (hM : ∀ cap w1 w', Below w.heap.size w w1 → R cap w1 w' → MapAt 155 encW w' B mb lo ob es) :
    Calls Tryz.prog 101 #[ptrV mb, .string k] w fun e w' => e = .returned (.int .i64 0) ∧ MapAt 155 encW w' B mb lo ob (dropK es k) ∧ ∃ cap w1 w2, NoteAt w1 mb (.func (.func 139) #[] cap) k (look es k) ∧ Below w.heap.size w w1 ∧ R cap w1 w2 ∧ Stp (fun b => b = ob) w2 w' := by
  obtain ⟨x0, hx0⟩ : ∃ y, y = x := ⟨_, rfl⟩
  subst hx0
  have hX : MapAt 155 encW (w.alloc (.cells #[.string x0] 126)) B mb lo ob es := h.below (Below.of_alloc w _)
  have hbX : Below w.heap.size w (w.alloc (.cells #[.string x0] 126)) := Below.of_alloc w _
  have hn := note_any hX k 0 R (fun w1 cap h1 hb => hN w1 cap h1 (hbX.trans (hb.mono (by simp))))
  have c0 : w.cell? ⟨mb, 0, none⟩ = some (.pointer lo) := h.blk.cell (i := 0) rfl
  have c1 : w.cell? ⟨mb, 1, none⟩ = some (.map (some ob)) := h.blk.cell (i := 1) rfl
  have lm := h.blk.lt
  have hf := find h k
  rw [hk] at hf
  replace hf : (Instr.lookup 153 (.map (some ob)) (.string k) true).run Tryz.prog w = .ok (.tuple #[.agg #[.string x0], .bool true]) w := hf
  replace hn := Lib.hid hn
  replace hM := Lib.hid hM
  replace hbX := Lib.hid hbX
  unfold ptrV at hn ⊢
  clear hN h hk hX
  go_enter Tryz.func101, Tryz.ntmps101
  go_wp2_with fail
  refine hi.mono ?_
  rintro e w' ⟨rfl, hw⟩
  obtain rfl := hw.symm
  go_upto_region 4 with fail
  generalize (w.alloc (.cells #[.string x0] 126)) = wX at hn hbX ⊢
  clear c0 c1 hf lm
  go_wp2_with fail
  refine (oneZero_any k _).mono ?_
  rintro e w' ⟨rfl, hw⟩
  obtain rfl := hw.symm
  go_wp2_with fail
  refine hn.out.mono ?_
  rintro e w2 ⟨rfl, cap, w1, hnt, hb0, hR⟩
  have hb := hbX.out.trans (hb0.mono hbX.out.size)
  have hM2 := hM.out cap w1 w2 hb hR
  have c1 : w2.cell? ⟨mb, 1, none⟩ = some (.map (some ob)) := hM2.blk.cell (i := 1) rfl
  have lm2 := hM2.blk.lt
  replace hM2 := Lib.hid hM2
  replace hnt := Lib.hid hnt
  replace hb := Lib.hid hb
  replace hR := Lib.hid hR
  clear hb0
  go_wp2_with (at_delete; go_loud (refine wpList_del_k rfl _ _ 153 9 rfl 126 keyS Tryz.underlying153 Tryz.underlying9 rfl hM2.out.map k rfl ?_); intro o hk; refine Hid.out ?_)
  refine Lib.hid ?_
  have hM3 := hM2.out.del k o hk
  have hS : Stp (fun b => b = ob) w2 (setBlock w2 ob o) := Stp.setB (S := fun b => b = ob) rfl o
  generalize setBlock w2 ob o = w3 at hM3 hS ⊢
  clear hk c1
  replace hM3 := Lib.hid hM3
  replace hS := Lib.hid hS
  go_wp2
  go_ret
  exact ⟨rfl, hM3.out, cap, w1, w2, hnt.out, hb.out, hR.out, hS.out⟩
end
end Go.Proofs.YtigmdfdcflkggaaGreat.MW
/-
  A cell of a log, of string: New, Get, Set, and its notes. Conditions: none.
-/
namespace Go.Proofs.YtigmdfdcflkggaaGreat.CS
open Go Go.RowKit Go.ChangeMaps

/-- A note in memory: its closure, and the cells that it has caught. -/
def NoteAt (w : World) (cb : Nat) (v : Value) (cs : List Value) : Prop := ∃ b0 b1, v = .func (.func 127) #[] #[ptrV b0, ptrV b1] ∧ Blk w b0 cs 9 ∧ Blk w b1 [ptrV cb] 107
def NoteT (t : TypeId) : Prop := t = 9 ∨ t = 107
theorem NoteAt.keep {w w' : World} {cb : Nat} {v : Value} {cs : List Value} (h : NoteAt w cb v cs) (hk : ∀ (b : Nat) cur t, Blk w b cur t → NoteT t → Blk w' b cur t) : NoteAt w' cb v cs := by
  obtain ⟨b0, b1, hv, h0, h1⟩ := h
  exact ⟨b0, b1, hv, hk _ _ _ h0 (.inl rfl), hk _ _ _ h1 (.inr rfl)⟩
section
variable {w w' : World} {B cb : Nat} {lo : Option Addr}
set_option maxRecDepth 100000 in
theorem New_any (lo : Option Addr) (y0 : ByteArray) (w : World) :
    Calls Tryz.prog 92 #[.pointer lo, .string y0] w fun e w' => ∃ b, e = .returned (ptrV b) ∧ CellAt 157 w' w.heap.size b lo [.string y0] ∧ Below w.heap.size w w' ∧ w'.heap.size ≤ w.heap.size + 2 := by
  have hm : CellAt 157 (w.alloc (.cells #[.pointer lo, .string y0] 157)) w.heap.size w.heap.size lo [.string y0] := ⟨Nat.le_refl _, Blk.new _ _ _⟩
  have hbl := (Below.refl w.heap.size w).alloc (Nat.le_refl _) (.cells #[.pointer lo, .string y0] 157)
  have hsz : (w.alloc (.cells #[.pointer lo, .string y0] 157)).heap.size ≤ w.heap.size + 2 := by simp
  replace hm := Lib.hid hm
  replace hbl := Lib.hid hbl
  replace hsz := Lib.hid hsz
  unfold ptrV
  go_enter Tryz.func92, Tryz.ntmps92
  go_wp2
  go_ret
  exact ⟨_, rfl, hm.out, hbl.out, hsz.out⟩
set_option maxRecDepth 100000 in
theorem Get_any (s0 : ByteArray) (h : CellAt 157 w B cb lo [.string s0]) :
    Calls Tryz.prog 115 #[ptrV cb] w fun e w' => e = .returned (.string s0) ∧ Below w.heap.size w w' := by
  have c1 : w.cell? ⟨cb, 1, none⟩ = some (.string s0) := h.blk.cell (i := 1) rfl
  have hlt := h.blk.lt
  unfold ptrV
  clear h
  go_enter Tryz.func115, Tryz.ntmps115
  go_wp2
  go_ret
  exact ⟨rfl, Below.refl _ w⟩
set_option maxRecDepth 100000 in
theorem do_cell (s0 : ByteArray) (y0 : ByteArray) (h : CellAt 157 w B cb lo [.string s0]) {cap : Array Value} (n : NoteAt w cb (.func (.func 127) #[] cap) [.string y0]) :
    Calls Tryz.prog 127 cap w fun e w' => e = .returned (.tuple #[]) ∧ CellAt 157 w' B cb lo [.string y0] ∧ Stp (fun b => b = cb) w w' := by
  obtain ⟨b0, b1, hv, n0, n1⟩ := n
  obtain ⟨_, _, rfl⟩ := Value.func.inj hv
  have q0 : w.cell? ⟨b0, 0, none⟩ = some (.string y0) := n0.cell (i := 0) rfl
  have r1 : w.cell? ⟨b1, 0, none⟩ = some (.pointer (some ⟨cb, 0, none⟩)) := n1.cell (i := 0) rfl
  have l0 := n0.lt
  have l1 := n1.lt
  have lm := h.blk.lt
  have c1 : w.cell? ⟨cb, 1, none⟩ = some (.string s0) := h.blk.cell (i := 1) rfl
  have f1 := h.blk.frozen 1
  have hC : CellAt 157 (w.setCell ⟨cb, 1, none⟩ (.string y0)) B cb lo [.string y0] := ⟨h.hB, (h.blk.set 1 (.string y0))⟩
  have hS : Stp (fun b => b = cb) w (w.setCell ⟨cb, 1, none⟩ (.string y0)) := (Stp.set (S := fun b => b = cb) rfl 1 _)
  unfold ptrV
  clear h hv n0 n1
  replace hC := Lib.hid hC
  replace hS := Lib.hid hS
  go_enter Tryz.func127, Tryz.ntmps127
  go_wp2
  go_end0
  exact ⟨rfl, hC.out, hS.out⟩
/-- What Set has made when it comes to its note. -/
theorem set_pre (s0 : ByteArray) (y0 : ByteArray) (h : CellAt 157 w B cb lo [.string s0]) : ∃ w1, ((w.alloc (.cells #[.pointer (some ⟨cb, 0, none⟩)] 107)).alloc (.cells #[.string s0] 9)) = w1 ∧
    NoteAt w1 cb (.func (.func 127) #[] #[.pointer (some ⟨w.heap.size + 1, 0, none⟩), .pointer (some ⟨w.heap.size, 0, none⟩)]) [.string s0] ∧ Below w.heap.size w w1 ∧ Blk w1 w.heap.size [ptrV cb] 107 ∧ CellAt 157 w1 B cb lo [.string s0] := by
  have hs1 : (w.alloc (.cells #[.pointer (some ⟨cb, 0, none⟩)] 107)).heap.size = w.heap.size + 1 := by simp
  have b1 : Blk (w.alloc (.cells #[.pointer (some ⟨cb, 0, none⟩)] 107)) w.heap.size [ptrV cb] 107 := Blk.new w _ _
  have b2 : Blk ((w.alloc (.cells #[.pointer (some ⟨cb, 0, none⟩)] 107)).alloc (.cells #[.string s0] 9)) (w.heap.size + 1) [.string s0] 9 := by rw [← hs1]; exact Blk.new _ _ _
  have hb := ((Below.refl w.heap.size w).alloc (Nat.le_refl _) (.cells #[.pointer (some ⟨cb, 0, none⟩)] 107)).alloc (by simp) (.cells #[.string s0] 9)
  exact ⟨_, rfl, ⟨_, _, rfl, b2, b1.alloc _⟩, hb, b1.alloc _, ⟨h.hB, (hb.block cb h.blk.lt).trans h.blk⟩⟩
set_option maxRecDepth 100000 in
theorem Set_bad (s0 : ByteArray) (y0 : ByteArray) (h : CellAt 157 w B cb lo [.string s0]) (r : Int) (hr : 0 < r) (R : Array Value → World → World → Prop)
    (hN : ∀ w1 cap, NoteAt w1 cb (.func (.func 127) #[] cap) [.string s0] → Below w.heap.size w w1 → Calls Tryz.prog 126 #[.pointer lo, (.func (.func 127) #[] cap)] w1 fun e w' => e = .returned (.int .i64 r) ∧ R cap w1 w') :
    Calls Tryz.prog 95 #[ptrV cb, .string y0] w fun e w' => e = .returned (.int .i64 r) ∧ ∃ cap w1, NoteAt w1 cb (.func (.func 127) #[] cap) [.string s0] ∧ Below w.heap.size w w1 ∧ R cap w1 w' := by
  obtain ⟨w1, hw1, hnt, hb, b1, hC⟩ := set_pre s0 y0 h
  have hn := hN w1 _ hnt hb
  have c1 : w.cell? ⟨cb, 1, none⟩ = some (.string s0) := h.blk.cell (i := 1) rfl
  have lm := h.blk.lt
  have d0 : w1.cell? ⟨cb, 0, none⟩ = some (.pointer lo) := hC.blk.cell (i := 0) rfl
  have dl := hC.blk.lt
  have e0 : w1.cell? ⟨w.heap.size, 0, none⟩ = some (.pointer (some ⟨cb, 0, none⟩)) := b1.cell (i := 0) rfl
  have el := b1.lt
  have hnt2 := hnt
  have hne : (r == 0) = false := by rw [beq_eq_false_iff_ne]; omega
  have hne2 : (r != 0) = true := by rw [bne_iff_ne]; omega
  replace hn := Lib.hid hn
  replace hnt2 := Lib.hid hnt2
  replace hb := Lib.hid hb
  replace hw1 := Lib.hid hw1
  have hmf : ∀ (fn : Fn) (first cap : Array Value) (w : World), (Instr.makeFunc fn first cap).run Tryz.prog w = .ok (.func fn first cap) w := fun _ _ _ _ => rfl
  unfold ptrV
  clear hN h hnt hC b1
  go_enter Tryz.func95, Tryz.ntmps95
  go_upto_region 4 with fail
  rw [hw1.out]
  clear c1
  go_wp2_with fail
  refine hn.out.mono ?_
  rintro e w' ⟨rfl, hR⟩
  replace hR := Lib.hid hR
  clear d0 e0
  go_wp2
  go_ret
  exact ⟨rfl, _, w1, hnt2.out, hb.out, hR.out⟩
set_option maxRecDepth 100000 in
theorem Set_ok (s0 : ByteArray) (y0 : ByteArray) (h : CellAt 157 w B cb lo [.string s0]) (R : Array Value → World → World → Prop)
    (hN : ∀ w1 cap, NoteAt w1 cb (.func (.func 127) #[] cap) [.string s0] → Below w.heap.size w w1 → Calls Tryz.prog 126 #[.pointer lo, (.func (.func 127) #[] cap)] w1 fun e w' => e = .returned (.int .i64 0) ∧ R cap w1 w')
    (hM : ∀ cap w1 w', Below w.heap.size w w1 → R cap w1 w' → CellAt 157 w' B cb lo [.string s0] ∧ ∀ b cur t, Blk w1 b cur t → NoteT t → Blk w' b cur t) :
    Calls Tryz.prog 95 #[ptrV cb, .string y0] w fun e w' => e = .returned (.int .i64 0) ∧ CellAt 157 w' B cb lo [.string y0] ∧ ∃ cap w1 w2, NoteAt w1 cb (.func (.func 127) #[] cap) [.string s0] ∧ Below w.heap.size w w1 ∧ R cap w1 w2 ∧ Stp (fun b => b = cb) w2 w' := by
  obtain ⟨w1, hw1, hnt, hb, b1, hC⟩ := set_pre s0 y0 h
  have hn := hN w1 _ hnt hb
  have c1 : w.cell? ⟨cb, 1, none⟩ = some (.string s0) := h.blk.cell (i := 1) rfl
  have lm := h.blk.lt
  have d0 : w1.cell? ⟨cb, 0, none⟩ = some (.pointer lo) := hC.blk.cell (i := 0) rfl
  have dl := hC.blk.lt
  have e0 : w1.cell? ⟨w.heap.size, 0, none⟩ = some (.pointer (some ⟨cb, 0, none⟩)) := b1.cell (i := 0) rfl
  have el := b1.lt
  have hnt2 := hnt
  have hM1 := fun cap w' => hM cap w1 w' hb
  replace hM1 := Lib.hid hM1
  replace hn := Lib.hid hn
  replace hnt2 := Lib.hid hnt2
  replace hb := Lib.hid hb
  replace hw1 := Lib.hid hw1
  replace b1 := Lib.hid b1
  skip
  have hmf : ∀ (fn : Fn) (first cap : Array Value) (w : World), (Instr.makeFunc fn first cap).run Tryz.prog w = .ok (.func fn first cap) w := fun _ _ _ _ => rfl
  unfold ptrV
  clear hN h hnt hC hM
  go_enter Tryz.func95, Tryz.ntmps95
  go_upto_region 4 with fail
  rw [hw1.out]
  clear c1
  go_wp2_with fail
  refine hn.out.mono ?_
  rintro e w2 ⟨rfl, hR⟩
  obtain ⟨hC2, hK2⟩ := hM1.out _ _ hR
  have b2 : Blk w2 w.heap.size [ptrV cb] 107 := hK2 _ _ _ b1.out (.inr rfl)
  clear d0 e0 dl el
  have e0 : w2.cell? ⟨w.heap.size, 0, none⟩ = some (.pointer (some ⟨cb, 0, none⟩)) := b2.cell (i := 0) rfl
  have el := b2.lt
  have d1 : w2.cell? ⟨cb, 1, none⟩ = some (.string s0) := hC2.blk.cell (i := 1) rfl
  have f1 := hC2.blk.frozen 1
  have dl := hC2.blk.lt
  have hC3 : CellAt 157 (w2.setCell ⟨cb, 1, none⟩ (.string y0)) B cb lo [.string y0] := ⟨hC2.hB, (hC2.blk.set 1 (.string y0))⟩
  have hS : Stp (fun b => b = cb) w2 (w2.setCell ⟨cb, 1, none⟩ (.string y0)) := (Stp.set (S := fun b => b = cb) rfl 1 _)
  replace hR := Lib.hid hR
  replace hC3 := Lib.hid hC3
  replace hS := Lib.hid hS
  clear hC2 hK2 b2
  go_wp2
  go_ret
  exact ⟨rfl, hC3.out, _, w1, w2, hnt2.out, hb.out, hR.out, hS.out⟩
end
end Go.Proofs.YtigmdfdcflkggaaGreat.CS
/-
  A cell of a log, of state.given: New, Get, Set, and its notes. Conditions: none.
-/
namespace Go.Proofs.YtigmdfdcflkggaaGreat.CG
open Go Go.RowKit Go.ChangeMaps

/-- A note in memory: its closure, and the cells that it has caught. -/
def NoteAt (w : World) (cb : Nat) (v : Value) (cs : List Value) : Prop := ∃ b0 b1, v = .func (.func 128) #[] #[ptrV b0, ptrV b1] ∧ Blk w b0 cs 103 ∧ Blk w b1 [ptrV cb] 108
def NoteT (t : TypeId) : Prop := t = 103 ∨ t = 108
theorem NoteAt.keep {w w' : World} {cb : Nat} {v : Value} {cs : List Value} (h : NoteAt w cb v cs) (hk : ∀ (b : Nat) cur t, Blk w b cur t → NoteT t → Blk w' b cur t) : NoteAt w' cb v cs := by
  obtain ⟨b0, b1, hv, h0, h1⟩ := h
  exact ⟨b0, b1, hv, hk _ _ _ h0 (.inl rfl), hk _ _ _ h1 (.inr rfl)⟩
section
variable {w w' : World} {B cb : Nat} {lo : Option Addr}
set_option maxRecDepth 100000 in
theorem New_any (lo : Option Addr) (yA : Option Addr) (yn yc : Nat) (y1 y2 : Int) (w : World) :
    Calls Tryz.prog 93 #[.pointer lo, .agg #[.slice yA yn yc, .int .i64 y1, .int .i64 y2]] w fun e w' => ∃ b, e = .returned (ptrV b) ∧ CellAt 144 w' w.heap.size b lo [.slice yA yn yc, .int .i64 y1, .int .i64 y2] ∧ Below w.heap.size w w' ∧ w'.heap.size ≤ w.heap.size + 2 := by
  have hs : (w.alloc (.cells #[.slice yA yn yc, .int .i64 y1, .int .i64 y2] 103)).heap.size = w.heap.size + 1 := by simp
  have hb2 : Blk ((w.alloc (.cells #[.slice yA yn yc, .int .i64 y1, .int .i64 y2] 103)).alloc (.cells #[.pointer lo, .slice yA yn yc, .int .i64 y1, .int .i64 y2] 144)) (w.heap.size + 1) [.pointer lo, .slice yA yn yc, .int .i64 y1, .int .i64 y2] 144 := by rw [← hs]; exact Blk.new _ _ _
  have hm : CellAt 144 ((w.alloc (.cells #[.slice yA yn yc, .int .i64 y1, .int .i64 y2] 103)).alloc (.cells #[.pointer lo, .slice yA yn yc, .int .i64 y1, .int .i64 y2] 144)) w.heap.size (w.heap.size + 1) lo [.slice yA yn yc, .int .i64 y1, .int .i64 y2] := ⟨Nat.le_succ _, hb2⟩
  have hbl := ((Below.refl w.heap.size w).alloc (Nat.le_refl _) (.cells #[.slice yA yn yc, .int .i64 y1, .int .i64 y2] 103)).alloc (by rw [hs]; omega) (.cells #[.pointer lo, .slice yA yn yc, .int .i64 y1, .int .i64 y2] 144)
  have hsz : ((w.alloc (.cells #[.slice yA yn yc, .int .i64 y1, .int .i64 y2] 103)).alloc (.cells #[.pointer lo, .slice yA yn yc, .int .i64 y1, .int .i64 y2] 144)).heap.size ≤ w.heap.size + 2 := by simp
  clear hs hb2
  replace hm := Lib.hid hm
  replace hbl := Lib.hid hbl
  replace hsz := Lib.hid hsz
  unfold ptrV
  go_enter Tryz.func93, Tryz.ntmps93
  go_wp2
  go_ret
  exact ⟨_, rfl, hm.out, hbl.out, hsz.out⟩
set_option maxRecDepth 100000 in
theorem Get_any (sA : Option Addr) (sn sc : Nat) (s1 s2 : Int) (h : CellAt 144 w B cb lo [.slice sA sn sc, .int .i64 s1, .int .i64 s2]) :
    Calls Tryz.prog 79 #[ptrV cb] w fun e w' => e = .returned (.agg #[.slice sA sn sc, .int .i64 s1, .int .i64 s2]) ∧ Below w.heap.size w w' := by
  have c1 : w.cell? ⟨cb, 1, none⟩ = some (.slice sA sn sc) := h.blk.cell (i := 1) rfl
  have c2 : w.cell? ⟨cb, 2, none⟩ = some (.int .i64 s1) := h.blk.cell (i := 2) rfl
  have c3 : w.cell? ⟨cb, 3, none⟩ = some (.int .i64 s2) := h.blk.cell (i := 3) rfl
  have hlt := h.blk.lt
  have eb : Blk (w.alloc (.cells #[.slice sA sn sc, .int .i64 s1, .int .i64 s2] 103)) w.heap.size [.slice sA sn sc, .int .i64 s1, .int .i64 s2] 103 := Blk.new w _ _
  have hbE : Below w.heap.size w (w.alloc (.cells #[.slice sA sn sc, .int .i64 s1, .int .i64 s2] 103)) := Below.of_alloc w _
  replace eb := Lib.hid eb
  replace hbE := Lib.hid hbE
  unfold ptrV
  clear h
  go_enter Tryz.func79, Tryz.ntmps79
  go_wp2
  generalize (w.alloc (.cells #[.slice sA sn sc, .int .i64 s1, .int .i64 s2] 103)) = wE at eb hbE ⊢
  replace eb := eb.out
  have e0 : wE.cell? ⟨w.heap.size, 0, none⟩ = some (.slice sA sn sc) := eb.cell (i := 0) rfl
  have e1 : wE.cell? ⟨w.heap.size, 1, none⟩ = some (.int .i64 s1) := eb.cell (i := 1) rfl
  have e2 : wE.cell? ⟨w.heap.size, 2, none⟩ = some (.int .i64 s2) := eb.cell (i := 2) rfl
  exact bodyPost_ret (v := .agg #[.slice sA sn sc, .int .i64 s1, .int .i64 s2]) (by simp [results, Tryz.results79, e0, e1, e2, go_sem]) rfl ⟨rfl, hbE.out⟩
set_option maxRecDepth 100000 in
theorem do_cell (sA : Option Addr) (sn sc : Nat) (s1 s2 : Int) (yA : Option Addr) (yn yc : Nat) (y1 y2 : Int) (h : CellAt 144 w B cb lo [.slice sA sn sc, .int .i64 s1, .int .i64 s2]) {cap : Array Value} (n : NoteAt w cb (.func (.func 128) #[] cap) [.slice yA yn yc, .int .i64 y1, .int .i64 y2]) :
    Calls Tryz.prog 128 cap w fun e w' => e = .returned (.tuple #[]) ∧ CellAt 144 w' B cb lo [.slice yA yn yc, .int .i64 y1, .int .i64 y2] ∧ Stp (fun b => b = cb) w w' := by
  obtain ⟨b0, b1, hv, n0, n1⟩ := n
  obtain ⟨_, _, rfl⟩ := Value.func.inj hv
  have q0 : w.cell? ⟨b0, 0, none⟩ = some (.slice yA yn yc) := n0.cell (i := 0) rfl
  have q1 : w.cell? ⟨b0, 1, none⟩ = some (.int .i64 y1) := n0.cell (i := 1) rfl
  have q2 : w.cell? ⟨b0, 2, none⟩ = some (.int .i64 y2) := n0.cell (i := 2) rfl
  have r1 : w.cell? ⟨b1, 0, none⟩ = some (.pointer (some ⟨cb, 0, none⟩)) := n1.cell (i := 0) rfl
  have l0 := n0.lt
  have l1 := n1.lt
  have lm := h.blk.lt
  have c1 : w.cell? ⟨cb, 1, none⟩ = some (.slice sA sn sc) := h.blk.cell (i := 1) rfl
  have f1 := h.blk.frozen 1
  have c2 : w.cell? ⟨cb, 2, none⟩ = some (.int .i64 s1) := h.blk.cell (i := 2) rfl
  have f2 := h.blk.frozen 2
  have c3 : w.cell? ⟨cb, 3, none⟩ = some (.int .i64 s2) := h.blk.cell (i := 3) rfl
  have f3 := h.blk.frozen 3
  have hC : CellAt 144 (((w.setCell ⟨cb, 1, none⟩ (.slice yA yn yc)).setCell ⟨cb, 2, none⟩ (.int .i64 y1)).setCell ⟨cb, 3, none⟩ (.int .i64 y2)) B cb lo [.slice yA yn yc, .int .i64 y1, .int .i64 y2] := ⟨h.hB, (((h.blk.set 1 (.slice yA yn yc)).set 2 (.int .i64 y1)).set 3 (.int .i64 y2))⟩
  have hS : Stp (fun b => b = cb) w (((w.setCell ⟨cb, 1, none⟩ (.slice yA yn yc)).setCell ⟨cb, 2, none⟩ (.int .i64 y1)).setCell ⟨cb, 3, none⟩ (.int .i64 y2)) := (((((Stp.set (S := fun b => b = cb) rfl 1 _)).trans (Stp.set (S := fun b => b = cb) rfl 2 _) (fun _ _ h => h))).trans (Stp.set (S := fun b => b = cb) rfl 3 _) (fun _ _ h => h))
  unfold ptrV
  clear h hv n0 n1
  replace hC := Lib.hid hC
  replace hS := Lib.hid hS
  go_enter Tryz.func128, Tryz.ntmps128
  go_wp2
  go_end0
  exact ⟨rfl, hC.out, hS.out⟩
/-- What Set has made when it comes to its note. -/
theorem set_pre (sA : Option Addr) (sn sc : Nat) (s1 s2 : Int) (yA : Option Addr) (yn yc : Nat) (y1 y2 : Int) (h : CellAt 144 w B cb lo [.slice sA sn sc, .int .i64 s1, .int .i64 s2]) : ∃ w1, (((w.alloc (.cells #[.pointer (some ⟨cb, 0, none⟩)] 108)).alloc (.cells #[.slice yA yn yc, .int .i64 y1, .int .i64 y2] 103)).alloc (.cells #[.slice sA sn sc, .int .i64 s1, .int .i64 s2] 103)) = w1 ∧
    NoteAt w1 cb (.func (.func 128) #[] #[.pointer (some ⟨w.heap.size + 2, 0, none⟩), .pointer (some ⟨w.heap.size, 0, none⟩)]) [.slice sA sn sc, .int .i64 s1, .int .i64 s2] ∧ Below w.heap.size w w1 ∧ Blk w1 w.heap.size [ptrV cb] 108 ∧ CellAt 144 w1 B cb lo [.slice sA sn sc, .int .i64 s1, .int .i64 s2] ∧ Blk w1 (w.heap.size + 1) [.slice yA yn yc, .int .i64 y1, .int .i64 y2] 103 := by
  have hs1 : (w.alloc (.cells #[.pointer (some ⟨cb, 0, none⟩)] 108)).heap.size = w.heap.size + 1 := by simp
  have b1 : Blk (w.alloc (.cells #[.pointer (some ⟨cb, 0, none⟩)] 108)) w.heap.size [ptrV cb] 108 := Blk.new w _ _
  have hs2 : ((w.alloc (.cells #[.pointer (some ⟨cb, 0, none⟩)] 108)).alloc (.cells #[.slice yA yn yc, .int .i64 y1, .int .i64 y2] 103)).heap.size = w.heap.size + 2 := by simp
  have b1' : Blk ((w.alloc (.cells #[.pointer (some ⟨cb, 0, none⟩)] 108)).alloc (.cells #[.slice yA yn yc, .int .i64 y1, .int .i64 y2] 103)) w.heap.size [ptrV cb] 108 := b1.alloc _
  have b3 : Blk ((w.alloc (.cells #[.pointer (some ⟨cb, 0, none⟩)] 108)).alloc (.cells #[.slice yA yn yc, .int .i64 y1, .int .i64 y2] 103)) (w.heap.size + 1) [.slice yA yn yc, .int .i64 y1, .int .i64 y2] 103 := by rw [← hs1]; exact Blk.new _ _ _
  have b2 : Blk (((w.alloc (.cells #[.pointer (some ⟨cb, 0, none⟩)] 108)).alloc (.cells #[.slice yA yn yc, .int .i64 y1, .int .i64 y2] 103)).alloc (.cells #[.slice sA sn sc, .int .i64 s1, .int .i64 s2] 103)) (w.heap.size + 2) [.slice sA sn sc, .int .i64 s1, .int .i64 s2] 103 := by rw [← hs2]; exact Blk.new _ _ _
  have hb := (((Below.refl w.heap.size w).alloc (Nat.le_refl _) (.cells #[.pointer (some ⟨cb, 0, none⟩)] 108)).alloc (by simp) (.cells #[.slice yA yn yc, .int .i64 y1, .int .i64 y2] 103)).alloc (by simp; omega) (.cells #[.slice sA sn sc, .int .i64 s1, .int .i64 s2] 103)
  exact ⟨_, rfl, ⟨_, _, rfl, b2, b1'.alloc _⟩, hb, b1'.alloc _, ⟨h.hB, (hb.block cb h.blk.lt).trans h.blk⟩, b3.alloc _⟩
set_option maxRecDepth 100000 in
theorem Set_bad (sA : Option Addr) (sn sc : Nat) (s1 s2 : Int) (yA : Option Addr) (yn yc : Nat) (y1 y2 : Int) (h : CellAt 144 w B cb lo [.slice sA sn sc, .int .i64 s1, .int .i64 s2]) (r : Int) (hr : 0 < r) (R : Array Value → World → World → Prop)
    (hN : ∀ w1 cap, NoteAt w1 cb (.func (.func 128) #[] cap) [.slice sA sn sc, .int .i64 s1, .int .i64 s2] → Below w.heap.size w w1 → Calls Tryz.prog 126 #[.pointer lo, (.func (.func 128) #[] cap)] w1 fun e w' => e = .returned (.int .i64 r) ∧ R cap w1 w') :
    Calls Tryz.prog 96 #[ptrV cb, .agg #[.slice yA yn yc, .int .i64 y1, .int .i64 y2]] w fun e w' => e = .returned (.int .i64 r) ∧ ∃ cap w1, NoteAt w1 cb (.func (.func 128) #[] cap) [.slice sA sn sc, .int .i64 s1, .int .i64 s2] ∧ Below w.heap.size w w1 ∧ R cap w1 w' := by
  obtain ⟨w1, hw1, hnt, hb, b1, hC, b3⟩ := set_pre sA sn sc s1 s2 yA yn yc y1 y2 h
  have hn := hN w1 _ hnt hb
  have c1 : w.cell? ⟨cb, 1, none⟩ = some (.slice sA sn sc) := h.blk.cell (i := 1) rfl
  have c2 : w.cell? ⟨cb, 2, none⟩ = some (.int .i64 s1) := h.blk.cell (i := 2) rfl
  have c3 : w.cell? ⟨cb, 3, none⟩ = some (.int .i64 s2) := h.blk.cell (i := 3) rfl
  have lm := h.blk.lt
  have d0 : w1.cell? ⟨cb, 0, none⟩ = some (.pointer lo) := hC.blk.cell (i := 0) rfl
  have dl := hC.blk.lt
  have e0 : w1.cell? ⟨w.heap.size, 0, none⟩ = some (.pointer (some ⟨cb, 0, none⟩)) := b1.cell (i := 0) rfl
  have el := b1.lt
  have hnt2 := hnt
  have hne : (r == 0) = false := by rw [beq_eq_false_iff_ne]; omega
  have hne2 : (r != 0) = true := by rw [bne_iff_ne]; omega
  replace hn := Lib.hid hn
  replace hnt2 := Lib.hid hnt2
  replace hb := Lib.hid hb
  replace hw1 := Lib.hid hw1
  have hmf : ∀ (fn : Fn) (first cap : Array Value) (w : World), (Instr.makeFunc fn first cap).run Tryz.prog w = .ok (.func fn first cap) w := fun _ _ _ _ => rfl
  unfold ptrV
  clear hN h hnt hC b1 b3
  go_enter Tryz.func96, Tryz.ntmps96
  go_upto_region 4 with fail
  rw [hw1.out]
  clear c1 c2 c3
  go_wp2_with fail
  refine hn.out.mono ?_
  rintro e w' ⟨rfl, hR⟩
  replace hR := Lib.hid hR
  clear d0 e0
  go_wp2
  go_ret
  exact ⟨rfl, _, w1, hnt2.out, hb.out, hR.out⟩
set_option maxRecDepth 100000 in
theorem Set_ok (sA : Option Addr) (sn sc : Nat) (s1 s2 : Int) (yA : Option Addr) (yn yc : Nat) (y1 y2 : Int) (h : CellAt 144 w B cb lo [.slice sA sn sc, .int .i64 s1, .int .i64 s2]) (R : Array Value → World → World → Prop)
    (hN : ∀ w1 cap, NoteAt w1 cb (.func (.func 128) #[] cap) [.slice sA sn sc, .int .i64 s1, .int .i64 s2] → Below w.heap.size w w1 → Calls Tryz.prog 126 #[.pointer lo, (.func (.func 128) #[] cap)] w1 fun e w' => e = .returned (.int .i64 0) ∧ R cap w1 w')
    (hM : ∀ cap w1 w', Below w.heap.size w w1 → R cap w1 w' → CellAt 144 w' B cb lo [.slice sA sn sc, .int .i64 s1, .int .i64 s2] ∧ ∀ b cur t, Blk w1 b cur t → NoteT t → Blk w' b cur t) :
    Calls Tryz.prog 96 #[ptrV cb, .agg #[.slice yA yn yc, .int .i64 y1, .int .i64 y2]] w fun e w' => e = .returned (.int .i64 0) ∧ CellAt 144 w' B cb lo [.slice yA yn yc, .int .i64 y1, .int .i64 y2] ∧ ∃ cap w1 w2, NoteAt w1 cb (.func (.func 128) #[] cap) [.slice sA sn sc, .int .i64 s1, .int .i64 s2] ∧ Below w.heap.size w w1 ∧ R cap w1 w2 ∧ Stp (fun b => b = cb) w2 w' := by
  obtain ⟨w1, hw1, hnt, hb, b1, hC, b3⟩ := set_pre sA sn sc s1 s2 yA yn yc y1 y2 h
  have hn := hN w1 _ hnt hb
  have c1 : w.cell? ⟨cb, 1, none⟩ = some (.slice sA sn sc) := h.blk.cell (i := 1) rfl
  have c2 : w.cell? ⟨cb, 2, none⟩ = some (.int .i64 s1) := h.blk.cell (i := 2) rfl
  have c3 : w.cell? ⟨cb, 3, none⟩ = some (.int .i64 s2) := h.blk.cell (i := 3) rfl
  have lm := h.blk.lt
  have d0 : w1.cell? ⟨cb, 0, none⟩ = some (.pointer lo) := hC.blk.cell (i := 0) rfl
  have dl := hC.blk.lt
  have e0 : w1.cell? ⟨w.heap.size, 0, none⟩ = some (.pointer (some ⟨cb, 0, none⟩)) := b1.cell (i := 0) rfl
  have el := b1.lt
  have hnt2 := hnt
  have hM1 := fun cap w' => hM cap w1 w' hb
  replace hM1 := Lib.hid hM1
  replace hn := Lib.hid hn
  replace hnt2 := Lib.hid hnt2
  replace hb := Lib.hid hb
  replace hw1 := Lib.hid hw1
  replace b1 := Lib.hid b1
  replace b3 := Lib.hid b3
  have hmf : ∀ (fn : Fn) (first cap : Array Value) (w : World), (Instr.makeFunc fn first cap).run Tryz.prog w = .ok (.func fn first cap) w := fun _ _ _ _ => rfl
  unfold ptrV
  clear hN h hnt hC hM
  go_enter Tryz.func96, Tryz.ntmps96
  go_upto_region 4 with fail
  rw [hw1.out]
  clear c1 c2 c3
  go_wp2_with fail
  refine hn.out.mono ?_
  rintro e w2 ⟨rfl, hR⟩
  obtain ⟨hC2, hK2⟩ := hM1.out _ _ hR
  have b2 : Blk w2 w.heap.size [ptrV cb] 108 := hK2 _ _ _ b1.out (.inr rfl)
  clear d0 e0 dl el
  have e0 : w2.cell? ⟨w.heap.size, 0, none⟩ = some (.pointer (some ⟨cb, 0, none⟩)) := b2.cell (i := 0) rfl
  have el := b2.lt
  have b4 : Blk w2 (w.heap.size + 1) [.slice yA yn yc, .int .i64 y1, .int .i64 y2] 103 := hK2 _ _ _ b3.out (.inl rfl)
  have el2 := b4.lt
  have g0 : w2.cell? ⟨w.heap.size + 1, 0, none⟩ = some (.slice yA yn yc) := b4.cell (i := 0) rfl
  have g1 : w2.cell? ⟨w.heap.size + 1, 1, none⟩ = some (.int .i64 y1) := b4.cell (i := 1) rfl
  have g2 : w2.cell? ⟨w.heap.size + 1, 2, none⟩ = some (.int .i64 y2) := b4.cell (i := 2) rfl
  have d1 : w2.cell? ⟨cb, 1, none⟩ = some (.slice sA sn sc) := hC2.blk.cell (i := 1) rfl
  have f1 := hC2.blk.frozen 1
  have d2 : w2.cell? ⟨cb, 2, none⟩ = some (.int .i64 s1) := hC2.blk.cell (i := 2) rfl
  have f2 := hC2.blk.frozen 2
  have d3 : w2.cell? ⟨cb, 3, none⟩ = some (.int .i64 s2) := hC2.blk.cell (i := 3) rfl
  have f3 := hC2.blk.frozen 3
  have dl := hC2.blk.lt
  have hC3 : CellAt 144 (((w2.setCell ⟨cb, 1, none⟩ (.slice yA yn yc)).setCell ⟨cb, 2, none⟩ (.int .i64 y1)).setCell ⟨cb, 3, none⟩ (.int .i64 y2)) B cb lo [.slice yA yn yc, .int .i64 y1, .int .i64 y2] := ⟨hC2.hB, (((hC2.blk.set 1 (.slice yA yn yc)).set 2 (.int .i64 y1)).set 3 (.int .i64 y2))⟩
  have hS : Stp (fun b => b = cb) w2 (((w2.setCell ⟨cb, 1, none⟩ (.slice yA yn yc)).setCell ⟨cb, 2, none⟩ (.int .i64 y1)).setCell ⟨cb, 3, none⟩ (.int .i64 y2)) := (((((Stp.set (S := fun b => b = cb) rfl 1 _)).trans (Stp.set (S := fun b => b = cb) rfl 2 _) (fun _ _ h => h))).trans (Stp.set (S := fun b => b = cb) rfl 3 _) (fun _ _ h => h))
  replace hR := Lib.hid hR
  replace hC3 := Lib.hid hC3
  replace hS := Lib.hid hS
  clear hC2 hK2 b2 b4
  go_wp2
  go_ret
  exact ⟨rfl, hC3.out, _, w1, w2, hnt2.out, hb.out, hR.out, hS.out⟩
end
end Go.Proofs.YtigmdfdcflkggaaGreat.CG
