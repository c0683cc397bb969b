/-
  Notes of a map's key, and of a cell: what they keep, and what they do. Conditions: none.
-/
import Derived.Test.YtcobfimafpfbpaaUdKeys
namespace Go.Proofs.Ytcobfimafpfbpaa
open Go Go.RowKit Go.ChangeMaps

section
variable {P : Program} {ops : Array Oper} {Q : Exit → Act → World → Prop} {md : Region.Mode} {S : World → Prop} {L : Nat}
/-- Two operations that may come up. -/
theorem wpAnyT_two {i j : Nat} {oi oj : Oper} {fuel : Nat} {listed : Array Bool} {a : Act} {w : World} (hi : ops[i]? = some oi) (hj : ops[j]? = some oj) (hr : Region.ready md ops listed = [i, j]) (gi : oi.guard = none) (gj : oj.guard = none)
    (h1 : oi.wp P a w (fun a' w' => (i ≠ L → S w') ∧ wpAnyT P md ops Q S L fuel (listed.setIfInBounds i true) a' w') Q)
    (h2 : oj.wp P a w (fun a' w' => (j ≠ L → S w') ∧ wpAnyT P md ops Q S L fuel (listed.setIfInBounds j true) a' w') Q) : wpAnyT P md ops Q S L (fuel + 1) listed a w := by
  refine ⟨fun h0 => (by rw [hr] at h0; cases h0), fun k hk => ?_⟩
  rw [hr] at hk
  rcases List.mem_cons.1 hk with rfl | hk
  · unfold wpOp
    simp only [hi, Region.wanted, gi, if_true]
    exact .inl h1
  · rw [List.mem_singleton] at hk
    subst hk
    unfold wpOp
    simp only [hj, Region.wanted, gj, if_true]
    exact .inl h2
end

/-- What is to be done. -/
inductive Nt where
  | put (k : ByteArray) (v : Int)
  | del (k : ByteArray)
  | cell (s : ByteArray)
/-- A note in memory: its closure, and the cells that it has caught. -/
def NoteAt (w : World) (Q : Nat → Prop) (mb cb : Nat) (v : Value) : Nt → Prop
  | .put k x => ∃ b0 b1 b2 b3, v = .func (.func 60) #[] #[ptrV b0, ptrV b1, ptrV b2, ptrV b3] ∧ Q b1 ∧ Blk w b0 [.bool true] 4 ∧ Blk w b1 [.int .i64 x] 3 ∧ Blk w b2 [ptrV mb] 26 ∧ Blk w b3 [.string k] 9
  | .del k => ∃ b0 b1 b2 b3, v = .func (.func 60) #[] #[ptrV b0, ptrV b1, ptrV b2, ptrV b3] ∧ Blk w b0 [.bool false] 4 ∧ Blk w b2 [ptrV mb] 26 ∧ Blk w b3 [.string k] 9
  | .cell s => ∃ b0 b1, v = .func (.func 52) #[] #[ptrV b0, ptrV b1] ∧ Blk w b0 [.string s] 9 ∧ Blk w b1 [ptrV cb] 27
/-- The types of the cells that notes have caught. -/
def NoteT (t : TypeId) : Prop := t = 4 ∨ t = 3 ∨ t = 26 ∨ t = 9 ∨ t = 27
structure KeepN (w w' : World) : Prop where
  keep : ∀ (b : Nat) (cur : Array Value) (t : TypeId) (f : Nat × Nat), w.heap[b]? = some (.cells cur t f) → NoteT t → w'.heap[b]? = w.heap[b]?
theorem KeepN.blk {w w' : World} (h : KeepN w w') {b : Nat} {cur : List Value} {t : TypeId} (k : Blk w b cur t) (ht : NoteT t) : Blk w' b cur t := (h.keep b _ _ _ k ht).trans k
theorem KeepN.of_fr {w w' : World} {B' : Nat} {T : TypeId → Prop} {M : Nat → Prop} (h : Fr B' T M w w') (hT : ∀ t, NoteT t → ¬ T t) (hM : ∀ b, M b → ∀ cur t f, w.heap[b]? ≠ some (.cells cur t f)) : KeepN w w' :=
  ⟨fun b cur t f hb ht => h.keep b (Array.getElem?_eq_some_iff.1 hb).1 (.inr ⟨fun k => hM b k cur t f hb, fun cur' t' f' hb' => by
    rw [hb] at hb'
    simp only [Option.some.injEq, Obj.cells.injEq] at hb'
    rw [← hb'.2.1]; exact hT t ht⟩)⟩
theorem NoteAt.mono {w : World} {Q Q' : Nat → Prop} {mb cb : Nat} {v : Value} {n : Nt} (h : NoteAt w Q mb cb v n) (hq : ∀ b, b < w.heap.size → Q b → Q' b) : NoteAt w Q' mb cb v n := by
  cases n with
  | put key x =>
    obtain ⟨b0, b1, b2, b3, hv, hQ, h0, h1, h2, h3⟩ := h
    exact ⟨b0, b1, b2, b3, hv, hq _ h1.lt hQ, h0, h1, h2, h3⟩
  | del key => exact h
  | cell s => exact h
theorem NoteAt.keep {w w' : World} {Q : Nat → Prop} {mb cb : Nat} {v : Value} {n : Nt} (h : NoteAt w Q mb cb v n) (k : KeepN w w') : NoteAt w' Q mb cb v n := by
  cases n with
  | put key x =>
    obtain ⟨b0, b1, b2, b3, hv, hQ, h0, h1, h2, h3⟩ := h
    exact ⟨b0, b1, b2, b3, hv, hQ, k.blk h0 (.inl rfl), k.blk h1 (.inr (.inl rfl)), k.blk h2 (.inr (.inr (.inl rfl))), k.blk h3 (.inr (.inr (.inr (.inl rfl))))⟩
  | del key =>
    obtain ⟨b0, b1, b2, b3, hv, h0, h2, h3⟩ := h
    exact ⟨b0, b1, b2, b3, hv, k.blk h0 (.inl rfl), k.blk h2 (.inr (.inr (.inl rfl))), k.blk h3 (.inr (.inr (.inr (.inl rfl))))⟩
  | cell s =>
    obtain ⟨b0, b1, hv, h0, h1⟩ := h
    exact ⟨b0, b1, hv, k.blk h0 (.inr (.inr (.inr (.inl rfl)))), k.blk h1 (.inr (.inr (.inr (.inr rfl))))⟩
theorem KeepN.of_below {w w' : World} (h : Below w.heap.size w w') : KeepN w w' := ⟨fun b _ _ _ hb _ => h.block b (Array.getElem?_eq_some_iff.1 hb).1⟩
/-- What goes back to what a key has. -/
def ntOf (es : Es) (k : ByteArray) : Nt := match look es k with | some v => .put k v | none => .del k

section
variable {w w' : World} {B mb cb ob : Nat} {lo : Option Addr} {es : Es} {s : ByteArray}
set_option maxRecDepth 100000 in
set_option maxHeartbeats 2000000 in
theorem note_any (h : MapAt w B mb lo ob es) (cb : Nat) (k : ByteArray) (r : Int) (R : Array Value → World → World → Prop)
    (hN : ∀ w1 cap, NoteAt w1 (fun b => w.heap.size ≤ b) mb cb (.func (.func 60) #[] cap) (ntOf es k) → Below w.heap.size w w1 → Calls Try.prog 23 #[.pointer lo, .func (.func 60) #[] cap] w1 fun e w' => e = .returned (.int .i64 r) ∧ R cap w1 w') :
    Calls Try.prog 49 #[ptrV mb, .string k] w fun e w' => e = .returned (.int .i64 r) ∧ ∃ cap w1, NoteAt w1 (fun b => w.heap.size ≤ b) mb cb (.func (.func 60) #[] cap) (ntOf es k) ∧ Below w.heap.size w w1 ∧ R cap w1 w' := by
  have hmbl := h.blk.lt
  have hobl := h.map.lt
  obtain ⟨z, hz⟩ : ∃ z, w.heap.size = z := ⟨_, rfl⟩
  -- the boxes of m and k
  have hs0 : ((w.alloc (.cells #[.pointer (some ⟨mb, 0, none⟩)] 26)).alloc (.cells #[.string k] 9)).heap.size = z + 2 := by simp [hz]
  have bm : Blk ((w.alloc (.cells #[.pointer (some ⟨mb, 0, none⟩)] 26)).alloc (.cells #[.string k] 9)) z [ptrV mb] 26 := by rw [← hz]; exact (Blk.new w _ _).alloc _
  have bk : Blk ((w.alloc (.cells #[.pointer (some ⟨mb, 0, none⟩)] 26)).alloc (.cells #[.string k] 9)) (z + 1) [.string k] 9 := by
    have := Blk.new (w.alloc (.cells #[.pointer (some ⟨mb, 0, none⟩)] 26)) [.string k] 9
    rw [show (w.alloc (.cells #[.pointer (some ⟨mb, 0, none⟩)] 26)).heap.size = z + 1 by simp [hz]] at this
    exact this
  have hb0 := ((Below.refl w.heap.size w).alloc (Nat.le_refl _) (.cells #[.pointer (some ⟨mb, 0, none⟩)] 26)).alloc (by simp) (.cells #[.string k] 9)
  obtain ⟨v0, hv0⟩ : ∃ v0, (w.alloc (.cells #[.pointer (some ⟨mb, 0, none⟩)] 26)).alloc (.cells #[.string k] 9) = v0 := ⟨_, rfl⟩
  rw [hv0] at hs0 bm bk hb0
  obtain ⟨v, hv⟩ : ∃ v, v0.drew = v := ⟨_, rfl⟩
  have hbv : Below w.heap.size w v := by rw [← hv]; exact hb0.drew
  have hsv : v.heap.size = z + 2 := by rw [← hv]; exact hs0
  have bmv : Blk v z [ptrV mb] 26 := by rw [← hv]; exact bm
  have bkv : Blk v (z + 1) [.string k] 9 := by rw [← hv]; exact bk
  have hMv : MapAt v B mb lo ob es := h.keep (hbv.block mb hmbl) (hbv.block ob hobl)
  obtain ⟨V, hV⟩ : ∃ V, (look es k).getD 0 = V := ⟨_, rfl⟩
  obtain ⟨E, hE⟩ : ∃ E, (look es k).isSome = E := ⟨_, rfl⟩
  have hS : ∀ W : World, (∀ b, b < z + 2 → W.heap[b]? = v.heap[b]?) → (W.cell? ⟨z, 0, none⟩ = some (.pointer (some ⟨mb, 0, none⟩)) ∧ W.cell? ⟨z + 1, 0, none⟩ = some (.string k) ∧ W.cell? ⟨mb, 1, none⟩ = some (.map (some ob)) ∧ (Instr.lookup 83 (.map (some ob)) (.string k) true).run Try.prog W = .ok (.tuple #[.int .i64 V, .bool E]) W) := fun W hW => by
    have hM : MapAt W B mb lo ob es := hMv.keep (hW mb (by omega)) (hW ob (by omega))
    have hf := hM.find k
    rw [hV, hE] at hf
    exact ⟨Blk.cell (t := 26) (cur := [ptrV mb]) ((hW z (by omega)).trans bmv) rfl, Blk.cell (t := 9) (cur := [.string k]) ((hW (z + 1) (by omega)).trans bkv) rfl, hM.blk.cell (i := 1) rfl, hf⟩
  obtain ⟨A1, hA1⟩ : ∃ A, v.alloc (.cells #[.int .i64 0] 3) = A := ⟨_, rfl⟩
  have sA1 : A1.heap.size = z + 3 := by rw [← hA1]; simp [hsv]
  have kA1 : ∀ b, b < z + 2 → A1.heap[b]? = v.heap[b]? := fun b hb => by rw [← hA1]; exact Below.heap_alloc v _ b (by omega)
  have nA1 : Blk A1 (z + 2) [.int .i64 0] 3 := by rw [← hA1, ← hsv]; exact Blk.new v _ _
  have bA1 : Below w.heap.size w A1 := by rw [← hA1]; exact hbv.alloc (by omega) _
  obtain ⟨D1, hD1⟩ : ∃ D, A1.alloc (.cells #[.bool false] 4) = D := ⟨_, rfl⟩
  have sD1 : D1.heap.size = z + 4 := by rw [← hD1]; simp [sA1]
  have kD1 : ∀ b, b < z + 2 → D1.heap[b]? = v.heap[b]? := fun b hb => by rw [← hD1]; exact (Below.heap_alloc A1 _ b (by omega)).trans (kA1 b hb)
  have mD1 : Blk D1 (z + 2) [.int .i64 0] 3 := by rw [← hD1]; exact nA1.alloc _
  have nD1 : Blk D1 (z + 3) [.bool false] 4 := by rw [← hD1, ← sA1]; exact Blk.new A1 _ _
  have bD1 : Below w.heap.size w D1 := by rw [← hD1]; exact bA1.alloc (by omega) _
  obtain ⟨F1, hF1⟩ : ∃ F, D1.setCell ⟨z + 2, 0, none⟩ (.int .i64 V) = F := ⟨_, rfl⟩
  have kF1 : ∀ b, b < z + 2 → F1.heap[b]? = v.heap[b]? := fun b hb => by rw [← hF1]; exact (heap_setCell_other D1 _ b _ (by show b ≠ z + 2; omega)).trans (kD1 b hb)
  have mF1 : Blk F1 (z + 2) [.int .i64 V] 3 := by rw [← hF1]; exact mD1.set 0 (.int .i64 V)
  have nF1 : Blk F1 (z + 3) [.bool false] 4 := by rw [← hF1]; exact nD1.other (a := ⟨z + 2, 0, none⟩) (by show z + 3 ≠ z + 2; omega) _
  have bF1 : Below w.heap.size w F1 := by rw [← hF1]; exact bD1.setCell (by show w.heap.size ≤ z + 2; omega) _
  obtain ⟨G1, hG1⟩ : ∃ G, F1.setCell ⟨z + 3, 0, none⟩ (.bool E) = G := ⟨_, rfl⟩
  have kG1 : ∀ b, b < z + 2 → G1.heap[b]? = v.heap[b]? := fun b hb => by rw [← hG1]; exact (heap_setCell_other F1 _ b _ (by show b ≠ z + 3; omega)).trans (kF1 b hb)
  have mG1 : Blk G1 (z + 2) [.int .i64 V] 3 := by rw [← hG1]; exact mF1.other (a := ⟨z + 3, 0, none⟩) (by show z + 2 ≠ z + 3; omega) _
  have nG1 : Blk G1 (z + 3) [.bool E] 4 := by rw [← hG1]; exact nF1.set 0 (.bool E)
  have bG1 : Below w.heap.size w G1 := by rw [← hG1]; exact bF1.setCell (by show w.heap.size ≤ z + 3; omega) _
  have SA1 := hS A1 kA1
  have SD1 := hS D1 kD1
  have SF1 := hS F1 kF1
  have xD1 : D1.cell? ⟨z + 2, 0, none⟩ = some (.int .i64 0) := mD1.cell (i := 0) rfl
  have yD1 : D1.frozen? ⟨z + 2, 0, none⟩ = false := mD1.frozen 0
  have xF1 : F1.cell? ⟨z + 3, 0, none⟩ = some (.bool false) := nF1.cell (i := 0) rfl
  have yF1 : F1.frozen? ⟨z + 3, 0, none⟩ = false := nF1.frozen 0
  have zG1 : Below w.heap.size w G1 ∧ Blk G1 (z + 2) [.int .i64 V] 3 ∧ Blk G1 (z + 3) [.bool E] 4 ∧ Blk G1 z [ptrV mb] 26 ∧ Blk G1 (z + 1) [.string k] 9 := ⟨bG1, mG1, nG1, (kG1 z (by omega)).trans bmv, (kG1 (z + 1) (by omega)).trans bkv⟩
  replace zG1 := Lib.hid zG1
  replace hA1 := Lib.hid hA1
  replace hD1 := Lib.hid hD1
  replace hF1 := Lib.hid hF1
  replace hG1 := Lib.hid hG1
  replace sA1 := Lib.hid sA1
  replace SA1 := Lib.hid SA1
  replace SD1 := Lib.hid SD1
  replace SF1 := Lib.hid SF1
  clear bG1 nG1 mG1 kG1 bF1 nF1 mF1 kF1 bD1 nD1 mD1 kD1 sD1 bA1 nA1 kA1
  obtain ⟨A2, hA2⟩ : ∃ A, v.alloc (.cells #[.bool false] 4) = A := ⟨_, rfl⟩
  have sA2 : A2.heap.size = z + 3 := by rw [← hA2]; simp [hsv]
  have kA2 : ∀ b, b < z + 2 → A2.heap[b]? = v.heap[b]? := fun b hb => by rw [← hA2]; exact Below.heap_alloc v _ b (by omega)
  have nA2 : Blk A2 (z + 2) [.bool false] 4 := by rw [← hA2, ← hsv]; exact Blk.new v _ _
  have bA2 : Below w.heap.size w A2 := by rw [← hA2]; exact hbv.alloc (by omega) _
  obtain ⟨D2, hD2⟩ : ∃ D, A2.alloc (.cells #[.int .i64 0] 3) = D := ⟨_, rfl⟩
  have sD2 : D2.heap.size = z + 4 := by rw [← hD2]; simp [sA2]
  have kD2 : ∀ b, b < z + 2 → D2.heap[b]? = v.heap[b]? := fun b hb => by rw [← hD2]; exact (Below.heap_alloc A2 _ b (by omega)).trans (kA2 b hb)
  have mD2 : Blk D2 (z + 2) [.bool false] 4 := by rw [← hD2]; exact nA2.alloc _
  have nD2 : Blk D2 (z + 3) [.int .i64 0] 3 := by rw [← hD2, ← sA2]; exact Blk.new A2 _ _
  have bD2 : Below w.heap.size w D2 := by rw [← hD2]; exact bA2.alloc (by omega) _
  obtain ⟨F2, hF2⟩ : ∃ F, D2.setCell ⟨z + 3, 0, none⟩ (.int .i64 V) = F := ⟨_, rfl⟩
  have kF2 : ∀ b, b < z + 2 → F2.heap[b]? = v.heap[b]? := fun b hb => by rw [← hF2]; exact (heap_setCell_other D2 _ b _ (by show b ≠ z + 3; omega)).trans (kD2 b hb)
  have mF2 : Blk F2 (z + 3) [.int .i64 V] 3 := by rw [← hF2]; exact nD2.set 0 (.int .i64 V)
  have nF2 : Blk F2 (z + 2) [.bool false] 4 := by rw [← hF2]; exact mD2.other (a := ⟨z + 3, 0, none⟩) (by show z + 2 ≠ z + 3; omega) _
  have bF2 : Below w.heap.size w F2 := by rw [← hF2]; exact bD2.setCell (by show w.heap.size ≤ z + 3; omega) _
  obtain ⟨G2, hG2⟩ : ∃ G, F2.setCell ⟨z + 2, 0, none⟩ (.bool E) = G := ⟨_, rfl⟩
  have kG2 : ∀ b, b < z + 2 → G2.heap[b]? = v.heap[b]? := fun b hb => by rw [← hG2]; exact (heap_setCell_other F2 _ b _ (by show b ≠ z + 2; omega)).trans (kF2 b hb)
  have mG2 : Blk G2 (z + 3) [.int .i64 V] 3 := by rw [← hG2]; exact mF2.other (a := ⟨z + 2, 0, none⟩) (by show z + 3 ≠ z + 2; omega) _
  have nG2 : Blk G2 (z + 2) [.bool E] 4 := by rw [← hG2]; exact nF2.set 0 (.bool E)
  have bG2 : Below w.heap.size w G2 := by rw [← hG2]; exact bF2.setCell (by show w.heap.size ≤ z + 2; omega) _
  have SA2 := hS A2 kA2
  have SD2 := hS D2 kD2
  have SF2 := hS F2 kF2
  have xD2 : D2.cell? ⟨z + 3, 0, none⟩ = some (.int .i64 0) := nD2.cell (i := 0) rfl
  have yD2 : D2.frozen? ⟨z + 3, 0, none⟩ = false := nD2.frozen 0
  have xF2 : F2.cell? ⟨z + 2, 0, none⟩ = some (.bool false) := nF2.cell (i := 0) rfl
  have yF2 : F2.frozen? ⟨z + 2, 0, none⟩ = false := nF2.frozen 0
  have zG2 : Below w.heap.size w G2 ∧ Blk G2 (z + 3) [.int .i64 V] 3 ∧ Blk G2 (z + 2) [.bool E] 4 ∧ Blk G2 z [ptrV mb] 26 ∧ Blk G2 (z + 1) [.string k] 9 := ⟨bG2, mG2, nG2, (kG2 z (by omega)).trans bmv, (kG2 (z + 1) (by omega)).trans bkv⟩
  replace zG2 := Lib.hid zG2
  replace hA2 := Lib.hid hA2
  replace hD2 := Lib.hid hD2
  replace hF2 := Lib.hid hF2
  replace hG2 := Lib.hid hG2
  replace sA2 := Lib.hid sA2
  replace SA2 := Lib.hid SA2
  replace SD2 := Lib.hid SD2
  replace SF2 := Lib.hid SF2
  clear bG2 nG2 mG2 kG2 bF2 nF2 mF2 kF2 bD2 nD2 mD2 kD2 sD2 bA2 nA2 kA2
  have hS0 := hS v (fun _ _ => rfl)
  replace hN := Lib.hid hN
  replace hv0 := Lib.hid hv0
  replace hv := Lib.hid hv
  replace hsv := Lib.hid hsv
  replace hV := Lib.hid hV
  replace hE := Lib.hid hE
  have hbk := h.blk
  replace hbk := Lib.hid hbk
  obtain ⟨NT, hNT⟩ : ∃ n, ntOf es k = n := ⟨_, rfl⟩
  rw [hNT]
  replace hNT := Lib.hid hNT
  replace hz := Lib.hid hz
  unfold ptrV
  clear hS hMv bmv bkv hbv hb0 bm bk hs0 h
  go_enter Try.func49, Try.ntmps49
  go_upto_region 1 with fail
  rw [hz.out, hv0.out]
  go_cut [5, 6] from 5 to 15 (fun t5 t6 wx => ∃ b5 b6 : Nat, t5 = .pointer (some ⟨b5, 0, none⟩) ∧ t6 = .pointer (some ⟨b6, 0, none⟩) ∧ z ≤ b5 ∧ Below w.heap.size w wx ∧ Blk wx b5 [.int .i64 V] 3 ∧ Blk wx b6 [.bool E] 4 ∧ Blk wx z [ptrV mb] 26 ∧ Blk wx (z + 1) [.string k] 9)
  case first =>
    refine wp_region_last (L := 12) (S := (fun w' : World => w'.cell? ⟨z, 0, none⟩ = some (.pointer (some ⟨mb, 0, none⟩)) ∧ w'.cell? ⟨z + 1, 0, none⟩ = some (.string k) ∧ w'.cell? ⟨mb, 1, none⟩ = some (.map (some ob)) ∧ (Instr.lookup 83 (.map (some ob)) (.string k) true).run Try.prog w' = .ok (.tuple #[.int .i64 V, .bool E]) w')) (by kernel_rfl) ?_
    rw [hv.out]
    refine wpAnyT_takeT (n := 40) (i := 0) (v := .pointer (some ⟨mb, 0, none⟩)) rfl (by kernel_rfl) (by kernel_rfl) (by kernel_rfl) (by kernel_rfl) (by kernel_rfl) (fun _ _ _ h => h) (Or.inl ⟨by rfl, ?_⟩) hS0 ?_
    · intro W hW
      obtain ⟨k0, k1, k2, k3⟩ := hW
      clear hS0 xD1 yD1 xF1 yF1 xD2 yD2 xF2 yF2
      go_simp
      try (intro hx; exfalso; omega)
    try simp only [Act.put, List.setIfInBounds_toArray]
    refine wpAnyT_takeT (n := 40) (i := 1) (v := .pointer (some ⟨mb, 0, none⟩)) rfl (by kernel_rfl) (by kernel_rfl) (by kernel_rfl) (by kernel_rfl) (by kernel_rfl) (fun _ _ _ h => h) (Or.inl ⟨by rfl, ?_⟩) hS0 ?_
    · intro W hW
      obtain ⟨k0, k1, k2, k3⟩ := hW
      clear hS0 xD1 yD1 xF1 yF1 xD2 yD2 xF2 yF2
      go_simp
      try (intro hx; exfalso; omega)
    try simp only [Act.put]
    refine wpAnyT_takeT (n := 40) (i := 2) (v := .pointer (some ⟨mb, 1, none⟩)) rfl (by kernel_rfl) (by kernel_rfl) (by kernel_rfl) (by kernel_rfl) (by kernel_rfl) (fun _ _ _ h => h) (Or.inl ⟨by rfl, ?_⟩) hS0 ?_
    · intro W hW
      obtain ⟨k0, k1, k2, k3⟩ := hW
      clear hS0 xD1 yD1 xF1 yF1 xD2 yD2 xF2 yF2
      go_simp
      try (intro hx; exfalso; omega)
    try simp only [Act.put]
    refine wpAnyT_takeT (n := 40) (i := 3) (v := .map (some ob)) rfl (by kernel_rfl) (by kernel_rfl) (by kernel_rfl) (by kernel_rfl) (by kernel_rfl) (fun _ _ _ h => h) (Or.inl ⟨by rfl, ?_⟩) hS0 ?_
    · intro W hW
      obtain ⟨k0, k1, k2, k3⟩ := hW
      clear hS0 xD1 yD1 xF1 yF1 xD2 yD2 xF2 yF2
      go_simp
      try (intro hx; exfalso; omega)
    try simp only [Act.put]
    refine wpAnyT_takeT (n := 40) (i := 4) (v := .string k) rfl (by kernel_rfl) (by kernel_rfl) (by kernel_rfl) (by kernel_rfl) (by kernel_rfl) (fun _ _ _ h => h) (Or.inl ⟨by rfl, ?_⟩) hS0 ?_
    · intro W hW
      obtain ⟨k0, k1, k2, k3⟩ := hW
      clear hS0 xD1 yD1 xF1 yF1 xD2 yD2 xF2 yF2
      go_simp
      try (intro hx; exfalso; omega)
    try simp only [Act.put]
    refine wpAnyT_takeT (n := 40) (i := 5) (v := .tuple #[.int .i64 V, .bool E]) rfl (by kernel_rfl) (by kernel_rfl) (by kernel_rfl) (by kernel_rfl) (by kernel_rfl) (fun _ _ _ h => h) (Or.inl ⟨by rfl, ?_⟩) hS0 ?_
    · intro W hW
      obtain ⟨k0, k1, k2, k3⟩ := hW
      clear hS0 xD1 yD1 xF1 yF1 xD2 yD2 xF2 yF2
      go_simp
      try (intro hx; exfalso; omega)
    try simp only [Act.put]
    refine wpAnyT_takeT (n := 40) (i := 6) (v := .tuple #[.int .i64 V, .bool E]) rfl (by kernel_rfl) (by kernel_rfl) (by kernel_rfl) (by kernel_rfl) (by kernel_rfl) (fun _ _ _ h => h) (Or.inl ⟨by rfl, ?_⟩) hS0 ?_
    · intro W hW
      obtain ⟨k0, k1, k2, k3⟩ := hW
      clear hS0 xD1 yD1 xF1 yF1 xD2 yD2 xF2 yF2
      go_simp
      try (intro hx; exfalso; omega)
    try simp only [Act.put]
    refine wpAnyT_takeT (n := 40) (i := 7) (v := .int .i64 V) rfl (by kernel_rfl) (by kernel_rfl) (by kernel_rfl) (by kernel_rfl) (by kernel_rfl) (fun _ _ _ h => h) (Or.inl ⟨by rfl, ?_⟩) hS0 ?_
    · intro W hW
      obtain ⟨k0, k1, k2, k3⟩ := hW
      clear hS0 xD1 yD1 xF1 yF1 xD2 yD2 xF2 yF2
      go_simp
      try (intro hx; exfalso; omega)
    try simp only [Act.put]
    refine wpAnyT_takeT (n := 40) (i := 8) (v := .bool E) rfl (by kernel_rfl) (by kernel_rfl) (by kernel_rfl) (by kernel_rfl) (by kernel_rfl) (fun _ _ _ h => h) (Or.inl ⟨by rfl, ?_⟩) hS0 ?_
    · intro W hW
      obtain ⟨k0, k1, k2, k3⟩ := hW
      clear hS0 xD1 yD1 xF1 yF1 xD2 yD2 xF2 yF2
      go_simp
      try (intro hx; exfalso; omega)
    try simp only [Act.put]
    clear hS0
    refine wpAnyT_two (i := 9) (j := 10) rfl rfl (by kernel_rfl) rfl rfl ?_ ?_
    · go_simp
      rw [hsv.out, hA1.out]
      refine ⟨SA1.out, ?_⟩
      refine wpAnyT_one (i := 10) rfl (by kernel_rfl) rfl ?_
      go_simp
      rw [sA1.out, hD1.out]
      refine ⟨SD1.out, ?_⟩
      refine wpAnyT_one (i := 11) rfl (by kernel_rfl) rfl ?_
      go_simp
      rw [hF1.out]
      refine ⟨⟨SD1.out.1, SD1.out.2.1, SD1.out.2.2.1, SF1.out.2.2.2⟩, ?_⟩
      refine wpAnyT_one (i := 12) rfl (by kernel_rfl) rfl ?_
      go_simp
      rw [hG1.out]
      refine wpAnyT_done (by kernel_rfl) ?_ _
      go_wp2_with fail
      go_meet
      exact ⟨_, _, rfl, rfl, by omega, zG1.out⟩
    · go_simp
      rw [hsv.out, hA2.out]
      refine ⟨SA2.out, ?_⟩
      refine wpAnyT_one (i := 9) rfl (by kernel_rfl) rfl ?_
      go_simp
      rw [sA2.out, hD2.out]
      refine ⟨SD2.out, ?_⟩
      refine wpAnyT_one (i := 11) rfl (by kernel_rfl) rfl ?_
      go_simp
      rw [hF2.out]
      refine ⟨⟨SD2.out.1, SD2.out.2.1, SD2.out.2.2.1, SF2.out.2.2.2⟩, ?_⟩
      refine wpAnyT_one (i := 12) rfl (by kernel_rfl) rfl ?_
      go_simp
      rw [hG2.out]
      refine wpAnyT_done (by kernel_rfl) ?_ _
      go_wp2_with fail
      go_meet
      exact ⟨_, _, rfl, rfl, by omega, zG2.out⟩
  case rest =>
    obtain ⟨b5, b6, rfl, rfl, hzb, hbc, n5, n6, nm, nk⟩ := hcut
    have hnote : NoteAt wc (fun b => w.heap.size ≤ b) mb cb (.func (.func 60) #[] #[.pointer (some ⟨b6, 0, none⟩), .pointer (some ⟨b5, 0, none⟩), .pointer (some ⟨z, 0, none⟩), .pointer (some ⟨z + 1, 0, none⟩)]) NT := by
      rw [← hNT.out]
      unfold ntOf
      have hV2 := hV.out
      have hE2 := hE.out
      cases hl : look es k with
      | none => rw [hl] at hE2; exact ⟨b6, b5, z, z + 1, rfl, by rw [← hE2] at n6; exact n6, nm, nk⟩
      | some x => rw [hl] at hE2 hV2; exact ⟨b6, b5, z, z + 1, rfl, (show w.heap.size ≤ b5 by have := hz.out; omega), by rw [← hE2] at n6; exact n6, by rw [← hV2] at n5; exact n5, nm, nk⟩
    have hcall := hN.out wc _ (by rw [hNT.out]; exact hnote) hbc
    have q0 : wc.cell? ⟨z, 0, none⟩ = some (.pointer (some ⟨mb, 0, none⟩)) := nm.cell (i := 0) rfl
    have hbw : Blk wc mb _ _ := (hbc.block mb hmbl).trans hbk.out
    have q1 : wc.cell? ⟨mb, 0, none⟩ = some (.pointer lo) := hbw.cell (i := 0) rfl
    have ql := nm.lt
    have ql2 := hbw.lt
    have hmf : ∀ (fn : Fn) (first cap : Array Value) (w : World), (Instr.makeFunc fn first cap).run Try.prog w = .ok (.func fn first cap) w := fun _ _ _ _ => rfl
    replace hnote := Lib.hid hnote
    replace hcall := Lib.hid hcall
    replace hbc := Lib.hid hbc
    clear hbw nm nk n5 n6 xD1 yD1 xF1 yF1 xD2 yD2 xF2 yF2 hS0
    go_wp2_with fail
    refine hcall.out.mono ?_
    rintro e w' ⟨rfl, hR⟩
    replace hR := Lib.hid hR
    clear q0 q1
    go_wp2
    go_ret
    exact ⟨rfl, _, wc, hnote.out, hbc.out, hR.out⟩
end
end Go.Proofs.Ytcobfimafpfbpaa
