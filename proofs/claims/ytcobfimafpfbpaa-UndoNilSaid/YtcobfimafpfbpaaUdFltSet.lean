/-
  Set of a map of floats that has no key: of a number that is not as great as itself, and of another. Conditions: the log has no mark.
-/
import Derived.Test.YtcobfimafpfbpaaUdFltNote
namespace Go.Proofs.Ytcobfimafpfbpaa
open Go Go.RowKit Go.ChangeMaps

section
variable {w w' : World} {B lb most nest c mb ob : Nat} {fs : List Value}
theorem below_setB {z : Nat} {w0 : World} (h : Below z w0 w) (hz : z ≤ w0.heap.size) (ho : z ≤ ob) (o : Obj) : Below z w0 (setBlock w ob o) := by
  have hS : Stp (fun b => b = ob) w (setBlock w ob o) := Stp.setB (S := fun b => b = ob) rfl o
  exact ⟨hS.os.trans h.os, hS.tape.trans h.tape, hS.output.trans h.output, Nat.le_trans h.size hS.size, fun b hb => (hS.block b (by have := h.size; omega) (by omega)).trans (h.block b hb)⟩
theorem below_dn {z : Nat} {w0 : World} (h : Below z w0 w) (n : Nat) : Below z w0 (w.drewN n) := ⟨h.os, h.tape, h.output, h.size, h.block⟩
theorem FAt.set {lo : Option Addr} (h : FAt w mb lo ob #[] 0) (x : Nat) : FAt (setBlock w ob (.map (oneF x) 1)) mb lo ob (oneF x) 1 := by
  have hne : mb ≠ ob := fun e => by
    have h1 := h.blk
    rw [e] at h1
    have := h1.symm.trans h.map
    cases this
  exact ⟨(setB_other hne _).trans h.blk, heap_setBlock_same h.map _⟩
set_option maxRecDepth 100000 in
theorem SetF_nan (h : FAt w mb (some ⟨lb, 0, none⟩) ob #[] 0) (hL : LogAt w B lb most nest [] fs c) (x : Nat) (hx : fEq x x = false) :
    Calls Try.prog 34 #[ptrV mb, .float .f64 x, .int .i64 1] w fun e w' => e = .returned (.int .i64 1) ∧ Below w.heap.size w w' := by
  have hr := refusal_any hL
  rw [show refE most [] c = 0 from if_neg (by simp)] at hr
  have c0 : w.cell? ⟨mb, 0, none⟩ = some (.pointer (some ⟨lb, 0, none⟩)) := h.blk.cell (i := 0) rfl
  have hlt := h.blk.lt
  have hx2 : (FloatKind.f64.format.order x x == some .eq) = false := hx
  have hx3 : (FloatKind.f64.format.order x x != some .eq) = true := by rw [bne, hx2]; rfl
  unfold ptrV at hr ⊢
  clear h hL hx
  go_enter Try.func34, Try.ntmps34
  go_wp2_with fail
  refine hr.mono ?_
  rintro e w1 ⟨rfl, n, hw1⟩
  have hb1 : Below w.heap.size w w1 := by rw [hw1]; exact below_dn (Below.refl _ w) n
  replace hb1 := Lib.hid hb1
  clear hw1 hr
  go_wp2_with fail
  have hn : Blk (w1.alloc (.cells #[.int .i64 0, .int .i64 1] 30)) w1.heap.size [.int .i64 0, .int .i64 1] 30 := Blk.new w1 _ _
  refine (orE (hn.cell (i := 0) rfl) (hn.cell (i := 1) rfl) hn.lt).mono ?_
  rintro e w2 ⟨rfl, hw2⟩
  have hb2 : Below w.heap.size w w2 := by rw [hw2]; exact hb1.out.alloc hb1.out.size _
  replace hb2 := Lib.hid hb2
  clear hw2 hn hb1
  go_wp2
  go_ret
  exact ⟨rfl, hb2.out⟩
set_option maxRecDepth 100000 in
theorem SetF_ok (h : FAt w mb (some ⟨lb, 0, none⟩) ob #[] 0) (hL : LogAt w B lb most nest [] fs c) (x : Nat) (hx : fEq x x = true) :
    Calls Try.prog 34 #[ptrV mb, .float .f64 x, .int .i64 1] w fun e w' => e = .returned (.int .i64 0) ∧ FAt w' mb (some ⟨lb, 0, none⟩) ob (oneF (keyF x)) 1 ∧ ∀ z w0, Below z w0 w → z ≤ w0.heap.size → z ≤ ob → Below z w0 w' := by
  have hn := noteF_any (R := fun w' => FAt w' mb (some ⟨lb, 0, none⟩) ob #[] 0 ∧ Below w.heap.size w w') h (keyF x) (fun w1 cap hb => by
    refine (Note_none _ cap (hL.keep (KeepL.of_below hb))).mono ?_
    rintro e w' ⟨rfl, n, rfl⟩
    have hb2 : Below w.heap.size w (w1.drewN n) := below_dn hb n
    exact ⟨rfl, h.below hb2, hb2⟩)
  have hx2 : (FloatKind.f64.format.order x x == some .eq) = true := hx
  have hx3 : (FloatKind.f64.format.order x x != some .eq) = false := by rw [bne, hx2]; rfl
  replace hn := Lib.hid hn
  unfold ptrV at hn ⊢
  clear h hL hx
  go_enter Try.func34, Try.ntmps34
  go_wp2_with fail
  refine (oneZeroF_any x _).mono ?_
  rintro e w1 ⟨rfl, hw1⟩
  obtain rfl := hw1.symm
  go_wp2_with fail
  refine hn.out.mono ?_
  rintro e w2 ⟨rfl, hF, hb⟩
  have c1 : w2.cell? ⟨mb, 1, none⟩ = some (.map (some ob)) := hF.blk.cell (i := 1) rfl
  have hlt := hF.blk.lt
  have hput := hF.put (keyF x)
  have hF2 := hF.set (keyF x)
  obtain ⟨w3, hw3⟩ : ∃ w3, setBlock w2 ob (.map (oneF (keyF x)) 1) = w3 := ⟨_, rfl⟩
  have hbb : ∀ z w0, Below z w0 w → z ≤ w0.heap.size → z ≤ ob → Below z w0 w3 := fun z w0 h1 h2 h3 => by
    rw [← hw3]
    exact below_setB (h1.trans (hb.mono (Nat.le_trans h2 h1.size))) h2 h3 _
  rw [hw3] at hput hF2
  replace hF2 := Lib.hid hF2
  replace hbb := Lib.hid hbb
  clear hF hb hw3 hn
  go_wp2
  go_ret
  exact ⟨rfl, hF2.out, hbb.out⟩
end
end Go.Proofs.Ytcobfimafpfbpaa
