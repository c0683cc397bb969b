/-
  Undo: where there is no log, without a mark, and of whatever notes: all behind the mark are done from the last one on. Conditions: each note comes back and leaves the log alone.
-/
import Derived.Test.YtigmdfdcflkggaaGreatUdTake
namespace Go.Proofs.YtigmdfdcflkggaaGreat
open Go Go.RowKit Go.ChangeMaps

section
variable {w w' : World} {B lb most nest c : Nat} {mv nv : Value} {ms : List Mk} {fs : List Value}
set_option maxRecDepth 100000 in
theorem Undo_nil (w : World) :
    Calls Tryz.prog 22 #[.pointer none] w fun e w' => e = .returned (.int .i64 2) ∧ w' = w := by
  go_enter Tryz.func22, Tryz.ntmps22
  go_wp2_with fail
  refine (isNil_yes _).mono ?_
  rintro e w' ⟨rfl, rfl⟩
  go_wp2
  go_ret
  exact ⟨rfl, rfl⟩
set_option maxRecDepth 100000 in
theorem Undo_none (h : LogAt w B lb most nest [] fs c) :
    Calls Tryz.prog 22 #[ptrV lb] w fun e w' => e = .returned (.int .i64 1) ∧ w' = w := by
  obtain ⟨mv, nv, h⟩ := h
  have hi := isNil_no h
  obtain ⟨A, cc, rfl, hc, hcm⟩ := h.mrow.form
  have c2 : w.cell? ⟨lb, 2, none⟩ = some (.slice A 0 cc) := h.blk.cell (i := 2) rfl
  have hlt := h.blk.lt
  unfold ptrV at hi ⊢
  clear h hc
  go_enter Tryz.func22, Tryz.ntmps22
  go_wp2_with fail
  refine hi.mono ?_
  rintro e w' ⟨rfl, hw⟩
  obtain rfl := hw.symm
  go_wp2
  go_ret
  exact ⟨rfl, rfl⟩

/-- How many notes a log has, read off its block. -/
def lenN (lb : Nat) (w : World) : Nat := match w.cell? ⟨lb, 3, none⟩ with | some (.slice _ n _) => n | _ => 0
theorem LogR.lenN (h : LogR w B lb most nest mv ms nv fs c) : lenN lb w = fs.length := by
  obtain ⟨A, cc, rfl, hc, hcm⟩ := h.nrow.form
  have c3 : w.cell? ⟨lb, 3, none⟩ = some (.slice A fs.length cc) := h.blk.cell (i := 3) rfl
  unfold Proofs.YtigmdfdcflkggaaGreat.lenN
  rw [c3]
theorem LogAt.lenN (h : LogAt w B lb most nest ms fs c) : Proofs.YtigmdfdcflkggaaGreat.lenN lb w = fs.length := by obtain ⟨mv, nv, h⟩ := h; exact h.lenN
theorem take_snocV (fs : List Value) (i : Nat) (h : i < fs.length) : fs.take (i + 1) = fs.take i ++ [fs[i]] := List.take_succ_eq_append_getElem h

set_option maxRecDepth 100000 in
set_option maxHeartbeats 2000000 in
theorem Undo_any {m : Mk} (h : LogAt w B lb most nest (ms ++ [m]) fs c) (hmn : m.notes ≤ fs.length) (I : Nat → World → Prop) (h0 : I fs.length w)
    (keep : ∀ j W W', I j W → Fr B LogT (fun _ => False) W W' → I j W')
    (call : ∀ j W (hj : j < fs.length), m.notes ≤ j → I (j + 1) W → ∃ k cap, fs[j] = .func (.func k) #[] cap ∧ Enters Tryz.prog k ∧ Calls Tryz.prog k cap W fun e W' => e = .returned (.tuple #[]) ∧ I j W' ∧ KeepL W W') :
    Calls Tryz.prog 22 #[ptrV lb] w fun e w' => e = .returned (.int .i64 0) ∧ LogAt w' B lb most nest ms (fs.take m.notes) m.count ∧ I m.notes w' := by
  obtain ⟨mv, nv, h1⟩ := h
  have hi := isNil_no h1
  have hlen : (ms ++ [m]).length = ms.length + 1 := by simp
  have hrow := h1.mrow
  rw [hlen] at hrow
  obtain ⟨K, hK⟩ : ∃ K, ms.length = K := ⟨_, rfl⟩
  rw [hK] at hrow hlen
  obtain ⟨g, off, cc, rfl, hcc, hcm, hBg⟩ := hrow.form1 (Nat.succ_pos _)
  obtain ⟨mb, mn, mc⟩ := m
  simp only at hmn call ⊢
  have c2 : w.cell? ⟨lb, 2, none⟩ = some (.slice (some ⟨g, off, none⟩) (K + 1) cc) := h1.blk.cell (i := 2) (by rw [← hlen]; rfl)
  have hlt := h1.blk.lt
  have k1 : w.cell? ⟨g, off + K, none⟩ = some (.pointer (some ⟨mb, 0, none⟩)) := hrow.cell (j := K) (by rw [← hK]; simp [ptrV])
  have hkl : K ≤ 1024 := by have := h1.mp; have := h1.nest2; omega
  have hmc : mn ≤ mc := (h1.mc ⟨mb, mn, mc⟩ (by simp)).1
  have hne0 : ((K : Int) + 1 == 0) = false := by rw [beq_eq_false_iff_ne]; omega
  have hL0 : LogAt w B lb most nest (ms ++ [⟨mb, mn, mc⟩]) (fs.take fs.length) c := by rw [List.take_length]; exact ⟨_, _, h1⟩
  have hfl : fs.length ≤ 1048576 := by have := h1.fc; have := h1.cp; have := h1.most2; omega
  replace hL0 := Lib.hid hL0
  replace h0 := Lib.hid h0
  replace keep := Lib.hid keep
  replace call := Lib.hid call
  replace hK := Lib.hid hK
  unfold maxLen at hcm
  unfold ptrV at hi ⊢
  obtain ⟨FT, hFT⟩ : ∃ F, fs.take mn = F := ⟨_, rfl⟩
  rw [hFT]
  replace hFT := Lib.hid hFT
  clear h1 hlen hrow
  go_enter Tryz.func22, Tryz.ntmps22
  go_wp2_with fail
  refine hi.mono ?_
  rintro e w' ⟨rfl, hw⟩
  obtain rfl := hw.symm
  clear hi
  go_wp2_with fail
  clear c2 k1
  go_loopw [28] (fun _ wr => ∃ j, mn ≤ j ∧ j ≤ fs.length ∧ LogAt wr B lb most nest (ms ++ [⟨mb, mn, mc⟩]) (fs.take j) c ∧ I j wr) (fun _ wr => lenN lb wr)
  case atStart => exact ⟨fs.length, hmn, Nat.le_refl _, hL0.out, h0.out⟩
  case round =>
    obtain ⟨j, hj1, hj2, hL, hI⟩ := hrel
    have hLn := hL.lenN
    have hLd : ∀ n, LogAt (wr.drewN n) B lb most nest (ms ++ [⟨mb, mn, mc⟩]) (fs.take j) c := fun n => hL.keep (KeepL.drewN wr n)
    obtain ⟨mv', nv', hR⟩ := hL
    have hjl : (fs.take j).length = j := by rw [List.length_take]; omega
    have hnr := hR.nrow
    rw [hjl] at hLn
    rw [hjl] at hnr
    obtain ⟨A2, cc2, rfl, hc2, hcm2⟩ := hnr.form
    have c3 : wr.cell? ⟨lb, 3, none⟩ = some (.slice A2 j cc2) := hR.blk.cell (i := 3) rfl
    have hmb := (hR.mks ⟨mb, mn, mc⟩ (by simp)).2
    have x0 : wr.cell? ⟨mb, 0, none⟩ = some (.int .i64 (mn : Int)) := hmb.cell (i := 0) rfl
    have x2 : wr.cell? ⟨mb, 2, none⟩ = some (.bool false) := hmb.cell (i := 2) rfl
    have hlm := hmb.lt
    have hll := hR.blk.lt
    have hfn := hR.fn
    have hBw : B ≤ wr.heap.size := by have := hR.hB; omega
    unfold maxLen at hcm2
    replace hLd := Lib.hid hLd
    replace hI := Lib.hid hI
    replace hLn := Lib.hid hLn
    replace hjl := Lib.hid hjl
    replace hfn := Lib.hid hfn
    clear hR hnr hmb
    by_cases hlt2 : mn < j
    · obtain ⟨i, rfl⟩ : ∃ i, j = i + 1 := ⟨j - 1, by omega⟩
      have hif : i < fs.length := by omega
      have hd : decide (mn < i + 1) = true := by simpa using hlt2
      obtain ⟨k, cap, hfi⟩ := hfn.out fs[i] (by rw [take_snocV fs i hif]; exact List.mem_append_right _ (List.mem_singleton.2 rfl))
      have hts := take_snocV fs i hif
      rw [hfi] at hts
      have htk : ∀ n, LogAt (wr.drewN n) B lb most nest (ms ++ [⟨mb, mn, mc⟩]) (fs.take i ++ [.func (.func k) #[] cap]) c := fun n => by rw [← hts]; exact hLd.out n
      have hcl : ∀ W, I (i + 1) W → Enters Tryz.prog k ∧ Calls Tryz.prog k cap W fun e W' => e = .returned (.tuple #[]) ∧ I i W' ∧ KeepL W W' := fun W hW => by
        obtain ⟨k', cap', h1, h2, h3⟩ := call.out i W hif (by omega) hW
        rw [hfi] at h1
        obtain ⟨e1, _, e2⟩ := Value.func.inj h1
        obtain rfl := Fn.func.inj e1
        subst e2
        exact ⟨h2, h3⟩
      replace hfi := Lib.hid hfi
      replace hts := Lib.hid hts
      replace htk := Lib.hid htk
      replace hcl := Lib.hid hcl
      go_wp2_with fail
      go_quiet (fail)
      go_wp2_with fail
      refine (takeLast_any (htk.out nq)).mono ?_
      rintro e w1 ⟨rfl, hL1, hF1⟩
      have hI1 := keep.out (i + 1) wr w1 hI.out ((Fr.drewN _ _ _ _ _).trans hF1)
      obtain ⟨hen, hcall⟩ := hcl.out w1 hI1
      have hdo := do_any k cap (fun W' => I i W' ∧ KeepL w1 W') w1 hen hcall
      replace hL1 := Lib.hid hL1
      replace hdo := Lib.hid hdo
      clear hen hcall hI1 hF1 x0 x2 c3
      go_wp2_with fail
      refine hdo.out.mono ?_
      rintro e w2 ⟨rfl, hI2, hK2⟩
      have hL2 := hL1.out.keep hK2
      have hm : lenN lb w2 < lenN lb wr := by
        rw [hL2.lenN, hLn.out, List.length_take]
        omega
      replace hL2 := Lib.hid hL2
      replace hI2 := Lib.hid hI2
      clear hdo hK2
      go_wp2
      go_roundw
      case rel => exact ⟨i, by omega, by omega, hL2.out, hI2.out⟩
      case measure => exact hm
    · obtain rfl : mn = j := by omega
      have hd : decide (mn < mn) = false := by simp
      have hcl : ∀ n, LogAt (wr.drewN n) B lb most nest (ms ++ [⟨mb, mn, mc⟩]) FT c := fun n => by rw [← hFT.out]; exact hLd.out n
      have hcc2 := fun n => close_any (hcl n) (by rw [← hFT.out, hjl.out]; exact hmc)
      rw [hK.out] at hcc2
      have hI2 : ∀ n, I mn (wr.drewN n) := fun n => keep.out mn wr _ hI.out (Fr.drewN _ _ _ _ _)
      unfold ptrV at hcc2
      replace hcc2 := Lib.hid hcc2
      replace hI2 := Lib.hid hI2
      clear hcl
      go_wp2_with fail
      go_quiet (fail)
      go_wp2_with fail
      refine (hcc2.out nq).mono ?_
      rintro e w1 ⟨rfl, hL1, hF1⟩
      have hI1 := keep.out mn _ w1 (hI2.out nq) hF1
      replace hL1 := Lib.hid hL1
      replace hI1 := Lib.hid hI1
      clear hF1 x0 x2 c3
      go_wp2
      go_ret
      exact ⟨rfl, hL1.out, hI1.out⟩
end
end Go.Proofs.YtigmdfdcflkggaaGreat
