/-
  What a text and a sink do: read, write, seen. Conditions: at most a million bytes.
-/
import Derived.Test.YtffipbmonfodbaaGreatDoorHnText
import Derived.Test.YtffipbmonfodbaaGreatDoorHnClone
import Derived.Test.YtffipbmonfodbaaGreatDoorHnCut
import Derived.BigQuiet
import Derived.OwnWalk
namespace Go.Proofs.YtffipbmonfodbaaGreatDoor
open Go Go.RowKit Go.ChangeMaps

def readT (S : ByteArray) (a k : Nat) : ByteArray := (S.extract a S.size).extract 0 (min k (S.size - a))
theorem readT_size (S : ByteArray) (a k : Nat) : (readT S a k).size = min k (S.size - a) := by
  unfold readT
  rw [ByteArray.size_extract, ByteArray.size_extract]
  omega
section
variable {w : World} {ob : Nat}
set_option maxHeartbeats 1000000 in
set_option maxRecDepth 100000 in
theorem text_read {S : ByteArray} {a : Nat} (hb : Blk w ob [.string S, .int .i64 (a : Int)] 92) (ha : a ≤ S.size) (hS : S.size ≤ 1048576) (k : Nat) :
    Calls Tryz.prog 106 #[ptrV ob, .int .i64 (k : Int)] w fun e w' => e = .returned (.tuple #[.string (readT S a k), .int .i64 0]) ∧ Chg (fun g => g = ob) (fun g => g = ob) w w' ∧ Blk w' ob [.string S, .int .i64 ((a + (readT S a k).size : Nat) : Int)] 92 := by
  have c0 : w.cell? ⟨ob, 0, none⟩ = some (.string S) := hb.cell (i := 0) rfl
  have c1 : w.cell? ⟨ob, 1, none⟩ = some (.int .i64 (a : Int)) := hb.cell (i := 1) rfl
  have f1 := hb.frozen 1
  have hlt := hb.lt
  have i1 : ¬ (a : Int) < 0 := by omega
  have i2 : ¬ (S.size : Int) < (a : Int) := by omega
  have i3 : (a : Int) ≤ (S.size : Int) := by omega
  have i4 : ¬ (k : Int) < 0 := by omega
  have hsz : (S.extract a S.size).size = S.size - a := by rw [ByteArray.size_extract]; omega
  have hRs := readT_size S a k
  obtain ⟨R, hR⟩ : ∃ R, readT S a k = R := ⟨_, rfl⟩
  rw [hR] at hRs ⊢
  unfold readT at hR
  obtain ⟨R1, hR1⟩ : ∃ R1, S.extract a S.size = R1 := ⟨_, rfl⟩
  rw [hR1] at hsz hR
  replace hR := Lib.hid hR
  replace hR1 := Lib.hid hR1
  unfold ptrV
  go_enter Tryz.func106, Tryz.ntmps106
  go_upto_region 3 with fail
  go_quiet (fail)
  rw [hR1.out]
  go_upto_region 5 with fail
  have e1 : R1.extract 0 (min (k : Int) ((S.size - a : Nat) : Int)).toNat = R := by
    rw [← hR.out]
    congr 1
    omega
  rw [e1]
  have i6 : IntKind.i64.wrap ((a : Int) + (R.size : Int)) = (a : Int) + (R.size : Int) := by rw [IntKind.wrap_i64]; omega
  have e2 : ((a + R.size : Nat) : Int) = (a : Int) + (R.size : Int) := Int.natCast_add _ _
  have e3 : R.size ≤ 281474976710656 := by omega
  replace e2 := Lib.hid e2
  replace hRs := Lib.hid hRs
  have hb1 := Blk.set (w := w.drewN nq) hb 1 (.int .i64 ((a : Int) + (R.size : Int)))
  have hc1 := (Chg.drewN (fun g => g = ob) w nq).trans (Chg.set (F := fun g => g = ob) rfl 1 (.int .i64 ((a : Int) + (R.size : Int))))
  replace hb1 := Lib.hid hb1
  replace hc1 := Lib.hid hc1
  clear e1 hR1 hR hsz hb
  go_upto_region 6 with fail
  have hc := sclone R ((w.drewN nq).setCell ⟨ob, 1, none⟩ (.int .i64 ((a : Int) + (R.size : Int)))) e3
  generalize (w.drewN nq).setCell ⟨ob, 1, none⟩ (.int .i64 ((a : Int) + (R.size : Int))) = w1 at hb1 hc1 hc ⊢
  replace hc := Lib.hid hc
  go_wp2_with fail
  refine hc.out.mono ?_
  rintro e w2 ⟨rfl, hb2⟩
  have hc2 := hc1.out.trans (Chg.of_grown (⟨hb2.os, hb2.tape, hb2.output, hb2.size, fun g hg _ => hb2.block g hg⟩ : w1.grownBy w2 none) (fun g => g = ob))
  have hb3 : Blk w2 ob _ _ := (hb2.block ob hb1.out.lt).trans hb1.out
  replace hc2 := Lib.hid hc2
  replace hb3 := Lib.hid hb3
  clear hc hb1 hc1 hb2
  go_wp2
  go_ret2
  exact ⟨rfl, hc2.out, by rw [e2.out]; exact hb3.out⟩

set_option maxHeartbeats 1000000 in
set_option maxRecDepth 100000 in
theorem sink_full {l : List UInt8} {cv : Value} {m : Nat} (hb : Blk w ob [cv, .int .i64 (m : Int)] 103) (hr : RowM w 5 cv l.length (bc l)) (hl : l.length ≤ m) (hm : m ≤ 1048576) (S : ByteArray) (hS : m < l.length + S.size) (hS2 : S.size ≤ 1000000) :
    Calls Tryz.prog 128 #[ptrV ob, .string S] w fun e w' => e = .returned (.int .i64 15) ∧ ∃ n, w' = w.drewN n := by
  obtain ⟨A, c, rfl, hc, hcm⟩ := hr.form
  have c0 := hb.cell (i := 0) rfl
  have c1 := hb.cell (i := 1) rfl
  have hlt := hb.lt
  generalize l.length = L at *
  have i1 : ((m : Int) - (L : Int)) < (S.size : Int) := by omega
  have i2 : IntKind.i64.wrap ((m : Int) - (L : Int)) = (m : Int) - (L : Int) := by rw [IntKind.wrap_i64]; omega
  unfold ptrV
  clear hr hb
  go_enter Tryz.func128, Tryz.ntmps128
  go_upto_region 1 with fail
  go_quiet (fail)
  go_wp2
  go_ret
  exact ⟨rfl, _, rfl⟩
set_option maxHeartbeats 1000000 in
set_option maxRecDepth 100000 in
theorem sink_write {l : List UInt8} {cv : Value} {m : Nat} (hb : Blk w ob [cv, .int .i64 (m : Int)] 103) (hr : RowM w 5 cv l.length (bc l)) (hl : l.length ≤ m) (hm : m ≤ 1048576) (hne : ∀ g, cv.ownBlock = some g → g ≠ ob) (S : ByteArray) (hS : l.length + S.size ≤ m) :
    Calls Tryz.prog 128 #[ptrV ob, .string S] w fun e w' => e = .returned (.int .i64 0) ∧ ∃ cv', Blk w' ob [cv', .int .i64 (m : Int)] 103 ∧ RowM w' 5 cv' (l ++ tl S).length (bc (l ++ tl S)) ∧ (cv'.ownBlock = cv.ownBlock ∨ ∀ g, cv'.ownBlock = some g → w.heap.size ≤ g) ∧
      Chg (fun g => cv.ownBlock = some g ∨ g = ob) (fun g => cv'.ownBlock = some g ∨ cv.ownBlock = some g ∨ g = ob) w w' := by
  obtain ⟨A, c, rfl, hc, hcm⟩ := hr.form
  have c0 := hb.cell (i := 0) rfl
  have c1 := hb.cell (i := 1) rfl
  have hlt := hb.lt
  obtain ⟨i0, hi, hz0, hz1, hz2⟩ := info_parts infoB
  have hap : ∀ d, ∃ A' c' w', (Builtin.append_ #[68, 9] 68 #[.slice A l.length c, .string S]).run Tryz.prog (w.drewN d) = .ok (.slice A' (l.length + S.size) c') w' ∧ RowM w' 5 (.slice A' (l.length + S.size) c') (l.length + S.size) (bc l ++ byteCells S) ∧ Chg (fun b => (Value.slice A l.length c).ownBlock = some b) (fun b => (Value.slice A' (l.length + S.size) c').ownBlock = some b ∨ (Value.slice A l.length c).ownBlock = some b) (w.drewN d) w' ∧ ((Value.slice A' (l.length + S.size) c').ownBlock = (Value.slice A l.length c).ownBlock ∨ (Value.slice A' (l.length + S.size) c').ownBlock = some w.heap.size) := fun d => by
    obtain ⟨v', w', h1, h2, h3, h4⟩ := run_append_m (P := Tryz.prog) (w.drewN d) 68 9 68 5 i0 _ Tryz.underlying68 hi hz0 hz1 rfl (.slice A l.length c) l.length (bc l) (hr.keep fun _ _ => rfl) (.string S) S.size (byteCells S) (Src.ofString _ Tryz.underlying9 S) (by rw [hz2]; omega) (by omega)
    obtain ⟨A', c', rfl, _, _⟩ := h2.form
    exact ⟨A', c', w', h1, h2, h3, h4⟩
  have i1 : ¬ ((m : Int) - (l.length : Int)) < (S.size : Int) := by omega
  have i2 : IntKind.i64.wrap ((m : Int) - (l.length : Int)) = (m : Int) - (l.length : Int) := by rw [IntKind.wrap_i64]; omega
  have hll : (l ++ tl S).length = l.length + S.size := by rw [List.length_append, tl_len]
  have hbb : bc (l ++ tl S) = bc l ++ byteCells S := by rw [bc_app, bc_str]
  rw [hll, hbb]
  generalize byteCells S = BS at *
  generalize bc l = BL at *
  generalize l.length = L at *
  replace hap := Lib.hid hap
  replace hb := Lib.hid hb
  replace hne := Lib.hid hne
  unfold ptrV
  clear hr hll hbb hi hz0 hz1 hz2
  go_enter Tryz.func128, Tryz.ntmps128
  go_upto_region 1 with fail
  go_quiet (fail)
  obtain ⟨A', c', w1, hrun, hr1, m1, ho1⟩ := hap.out nq
  have hb1 : Blk w1 ob _ _ := Blk.chg (w := w.drewN nq) hb.out m1 (fun e => hne.out _ e rfl)
  have hne1 : ∀ g, (Value.slice A' (L + S.size) c').ownBlock = some g → g ≠ ob := fun g hg => by
    rcases ho1 with h | h
    · exact hne.out g (h ▸ hg)
    · rw [h] at hg; cases hg; omega
  have d0 := hb1.cell (i := 0) rfl
  have g0 := hb1.frozen 0
  have hl1 := hb1.lt
  have hb2 := hb1.set 0 (.slice A' (L + S.size) c')
  have hr2 : RowM (w1.setCell ⟨ob, 0, none⟩ (.slice A' (L + S.size) c')) 5 _ _ _ := hr1.keep fun g hg => heap_setCell_other w1 _ g _ (hne1 g hg)
  have m2 : Chg (fun g => (Value.slice A L c).ownBlock = some g ∨ g = ob) (fun g => (Value.slice A' (L + S.size) c').ownBlock = some g ∨ (Value.slice A L c).ownBlock = some g ∨ g = ob) w (w1.setCell ⟨ob, 0, none⟩ (.slice A' (L + S.size) c')) := (((Chg.drewN _ w nq).trans m1).mono (G := fun g => (Value.slice A L c).ownBlock = some g ∨ g = ob) (G' := fun g => (Value.slice A' (L + S.size) c').ownBlock = some g ∨ (Value.slice A L c).ownBlock = some g ∨ g = ob) (fun b hb => .inl hb) (fun b _ hb => hb.elim (fun h => .inl (.inl h)) fun h => h.elim (fun h => .inl (.inr h)) fun h => .inr (.inr h))).trans (Chg.set (F := fun g => (Value.slice A' (L + S.size) c').ownBlock = some g ∨ (Value.slice A L c).ownBlock = some g ∨ g = ob) (.inr (.inr rfl)) 0 _)
  have hfin : (Value.slice A' (L + S.size) c').ownBlock = (Value.slice A L c).ownBlock ∨ ∀ g, (Value.slice A' (L + S.size) c').ownBlock = some g → w.heap.size ≤ g := ho1.imp id fun h g hg => by rw [h] at hg; cases hg; exact Nat.le_refl _
  replace hrun := Lib.hid hrun
  replace hb2 := Lib.hid hb2
  replace hr2 := Lib.hid hr2
  replace m2 := Lib.hid m2
  replace hfin := Lib.hid hfin
  clear hr1 m1 ho1 hb1 hne1 hap hb hne
  go_wp2_with (at_builtin; refine wpList_append_of rfl _ _ 68 9 rfl _ _ _ w1 rfl rfl hrun.out ?_)
  go_ret
  exact ⟨rfl, _, hb2.out, hr2.out, hfin.out, m2.out⟩
set_option maxRecDepth 100000 in
theorem sink_seen {l : List UInt8} {cv : Value} {m : Nat} (hb : Blk w ob [cv, .int .i64 (m : Int)] 103) (hr : RowM w 5 cv l.length (bc l)) :
    Calls Tryz.prog 126 #[ptrV ob] w fun e w' => e = .returned (.tuple #[.string ⟨l.toArray⟩, .int .i64 0]) ∧ w' = w := by
  have hcv := conv_row hr
  obtain ⟨A, c, rfl, hc, hcm⟩ := hr.form
  have c0 := hb.cell (i := 0) rfl
  have hlt := hb.lt
  obtain ⟨S, hS⟩ : ∃ S : ByteArray, ⟨l.toArray⟩ = S := ⟨_, rfl⟩
  rw [hS] at hcv ⊢
  generalize l.length = L at *
  unfold ptrV
  clear hr hb hS
  go_enter Tryz.func126, Tryz.ntmps126
  go_wp2
  go_ret2
  exact ⟨rfl, rfl⟩
end
end Go.Proofs.YtffipbmonfodbaaGreatDoor
