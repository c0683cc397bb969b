/-
  Numbers that are back are given out again, the least first: heap.down, heap.Pop, take. Conditions: at most a million numbers.
-/
import Derived.Test.YtbjakhiflgjflaaGreatDoorHnNum
namespace Go.Proofs.YtbjakhiflgjflaaGreatDoor
open Go Go.RowKit

section
variable {w : World} {tb top : Nat} {a0 a1 a2 v : Value} {xs : List Int}
theorem NumAt.drewN (h : NumAt w tb a0 a1 a2 top v xs) (n : Nat) : NumAt (w.drewN n) tb a0 a1 a2 top v xs := ⟨h.blk, h.row.keep fun _ _ => rfl, h.ne, h.few⟩
set_option maxHeartbeats 4000000 in
set_option maxRecDepth 100000 in
theorem heap_down (h : NumAt w tb a0 a1 a2 top v xs) (N : Nat) (hNl : N ≤ xs.length) (hd : DnInv xs 0 N) :
    Calls Tryz.prog 190 #[.iface 222 (.pointer (some ⟨tb, 4, none⟩)), .int .i64 0, .int .i64 (N : Int)] w fun e w' => (∃ b, e = .returned (.bool b)) ∧ ∃ ys : List Int, NumAt w' tb a0 a1 a2 top v ys ∧ ys.Perm xs ∧ IsHp ys N ∧ (∀ k, N ≤ k → gt ys k = gt xs k) ∧ Chg (fun b => v.ownBlock = some b) (fun b => v.ownBlock = some b) w w' := by
  obtain ⟨A, c, rfl, hc, hcm⟩ := h.row.form
  obtain ⟨L, hL⟩ : ∃ L, xs.length = L := ⟨_, rfl⟩
  have hfew := h.few
  rw [hL] at hNl hc hfew h ⊢
  replace hL := Lib.hid hL
  replace h := Lib.hid h
  replace hd := Lib.hid hd
  go_enter Tryz.func190, Tryz.ntmps190
  go_wp2
  go_loopw [7] (fun jv wr => ∃ (k : Nat) (ys : List Int), jv = .int .i64 (k : Int) ∧ k ≤ L ∧ Hid (ys.length = L) ∧ Hid (NumAt wr tb a0 a1 a2 top (.slice A L c) ys) ∧ Hid (ys.Perm xs) ∧ Hid (DnInv ys k N) ∧ Hid (∀ j, N ≤ j → gt ys j = gt xs j) ∧ Hid (Chg (fun b => (Value.slice A L c).ownBlock = some b) (fun b => (Value.slice A L c).ownBlock = some b) w wr)) (fun jv _ => L + 1 - (intOf jv).toNat)
  case atStart => exact ⟨0, xs, rfl, Nat.zero_le _, hL, h, Lib.hid (List.Perm.refl _), hd, Lib.hid (fun _ _ => rfl), Lib.hid (Chg.refl _ _)⟩
  case round =>
    clear h hd
    obtain ⟨k, ys, rfl, hk, hyl, hN, hP, hD, hT, hC⟩ := hrel
    have c4 := hN.out.blk.cell (i := 4) rfl
    have hlt := hN.out.blk.lt
    have hfin : (∀ j, 0 < j → j < N → (j - 1) / 2 = k → gt ys k ≤ gt ys j) → IsHp ys N := fun he => dn_done hD.out he
    have hstep : ∀ j, 0 < j → j < N → (j - 1) / 2 = k → gt ys j < gt ys k → (∀ i, 0 < i → i < N → (i - 1) / 2 = k → gt ys j ≤ gt ys i) → DnInv (swp ys k j) j N := fun j h0 hj hp hl hm => dn_step hD.out (by rw [hyl.out]; exact hNl) h0 hj hp hl hm
    have hless := fun (i j : Nat) (hi : i < L) (hj : j < L) (W : World) (hW : NumAt W tb a0 a1 a2 top (.slice A L c) ys) => is_Less hW.row hyl.out i j (by rw [hyl.out]; exact hi) (by rw [hyl.out]; exact hj) hW.few
    replace hfin := Lib.hid hfin
    replace hstep := Lib.hid hstep
    replace hless := Lib.hid hless
    obtain ⟨gk, hgk⟩ : ∃ g, gt ys k = g := ⟨_, rfl⟩
    obtain ⟨g1, hg1⟩ : ∃ g, gt ys (2 * k + 1) = g := ⟨_, rfl⟩
    obtain ⟨g2, hg2⟩ : ∃ g, gt ys (2 * k + 2) = g := ⟨_, rfl⟩
    replace hgk := Lib.hid hgk
    replace hg1 := Lib.hid hg1
    replace hg2 := Lib.hid hg2
    by_cases hx : N ≤ 2 * k + 1
    · have e1 : ((N : Nat) : Int) ≤ 2 * (k : Int) + 1 := by omega
      have hH := Lib.hid (hfin.out (fun j h0 hj hp => by omega))
      clear hfin hstep hless
      go_wp2
      go_ret
      exact ⟨⟨_, rfl⟩, ys, hN.out, hP.out, hH.out, hT.out, hC.out⟩
    · have e1 : ¬ ((N : Nat) : Int) ≤ 2 * (k : Int) + 1 := by omega
      have e2 : ¬ (2 * (k : Int) + 1) < 0 := by omega
      have ek1 : ((2 * k + 1 : Nat) : Int) = 2 * (k : Int) + 1 := by omega
      have ek2 : ((2 * k + 2 : Nat) : Int) = 2 * (k : Int) + 1 + 1 := by omega
      have kids : ∀ i, 0 < i → (i - 1) / 2 = k → i = 2 * k + 1 ∨ i = 2 * k + 2 := fun i _ _ => by omega
      replace kids := Lib.hid kids
      by_cases h2 : 2 * k + 2 < N
      · have e3 : 2 * (k : Int) + 1 + 1 < ((N : Nat) : Int) := by omega
        by_cases h3 : g2 < g1
        · have hlsa := hless.out (2 * k + 2) (2 * k + 1) (by omega) (by omega) wr hN.out
          rw [hg2.out, hg1.out, decide_eq_true h3] at hlsa
          (try rw [ek2] at hlsa); (try rw [ek1] at hlsa)
          have hma := m_Less c4
          go_wp2_with fail
          refine hlsa.mono ?_
          rintro e wa ⟨rfl, na, rfl⟩
          have hNa := hN.out.drewN na
          have hCa := hC.out.trans (Chg.drewN _ wr na)
          generalize wr.drewN na = va at hNa hCa ⊢
          have d4a := hNa.blk.cell (i := 4) rfl
          have hlta := hNa.blk.lt
          replace hNa := Lib.hid hNa
          replace hCa := Lib.hid hCa
          clear hlsa hma c4
          by_cases hlb : g2 < gk
          · have hst := Lib.hid (hstep.out (2 * k + 2) (by omega) (by omega) (by omega) (by rw [hg2.out, hgk.out]; exact hlb) (fun i h0 hi hp => by have q1 := hg1.out; have q2 := hg2.out; have q3 := hgk.out; rcases kids.out i h0 hp with rfl | rfl <;> omega))
            have hlssb := hless.out (2 * k + 2) k (by omega) (by omega) va hNa.out
            rw [hg2.out, hgk.out, decide_eq_true hlb] at hlssb
            (try rw [ek2] at hlssb); (try rw [ek1] at hlssb)
            have hmsb := m_Less d4a
            go_wp2_with fail
            refine hlssb.mono ?_
            rintro e wsb ⟨rfl, nsb, rfl⟩
            have hNsb := hNa.out.drewN nsb
            have hCsb := hCa.out.trans (Chg.drewN _ va nsb)
            generalize va.drewN nsb = vsb at hNsb hCsb ⊢
            have d4sb := hNsb.blk.cell (i := 4) rfl
            have hltsb := hNsb.blk.lt
            replace hNsb := Lib.hid hNsb
            replace hCsb := Lib.hid hCsb
            clear hlssb hmsb d4a
            have hpm := Lib.hid (swp_perm (ys := ys) (i := k) (j := 2 * k + 2) (by rw [hyl.out]; omega) (by rw [hyl.out]; omega))
            have hsl := Lib.hid ((swp_len ys k (2 * k + 2)).trans hyl.out)
            have hsw := is_Swap hNsb.out.row hyl.out k (2 * k + 2) (by rw [hyl.out]; omega) (by rw [hyl.out]; omega) hNsb.out.few
            (try rw [ek2] at hsw); (try rw [ek1] at hsw)
            have hgs := Lib.hid (fun i (hi : N ≤ i) => (gt_swp (ys := ys) (i := k) (j := 2 * k + 2) (by rw [hyl.out]; omega) (by rw [hyl.out]; omega) i).trans ((if_neg (by omega)).trans ((if_neg (by omega)).trans (hT.out i hi))))
            have hm2 := m_Swap d4sb
            generalize hyy : swp ys k (2 * k + 2) = zs at hst hpm hsl hsw hgs
            replace hyy := Lib.hid hyy
            go_wp2_with fail
            refine hsw.mono ?_
            rintro e w3 ⟨rfl, hr3, c3⟩
            have hN3 : NumAt w3 tb a0 a1 a2 top (.slice A L c) zs := ⟨hNsb.out.blk.chg c3 hNsb.out.ne, by rw [hsl.out]; rw [hyl.out] at hr3; exact hr3, hNsb.out.ne, by rw [hsl.out]; exact hfew⟩
            replace hN3 := Lib.hid hN3
            have hC3 := Lib.hid (hCsb.out.trans c3)
            have hP3 := Lib.hid (hpm.out.trans hP.out)
            clear hsw hm2 d4sb hr3 c3
            go_wp2
            go_roundw
            case rel => exact ⟨2 * k + 2, zs, by rw [ek2], by omega, hsl, hN3, hP3, hst, hgs, hC3⟩
            case measure => simp [intOf]; omega
          · have hH := Lib.hid (hfin.out (fun i h0 hi hp => by have q1 := hg1.out; have q2 := hg2.out; have q3 := hgk.out; rcases kids.out i h0 hp with rfl | rfl <;> omega))
            have hlstb := hless.out (2 * k + 2) k (by omega) (by omega) va hNa.out
            rw [hg2.out, hgk.out, decide_eq_false hlb] at hlstb
            (try rw [ek2] at hlstb); (try rw [ek1] at hlstb)
            have hmtb := m_Less d4a
            go_wp2_with fail
            refine hlstb.mono ?_
            rintro e wtb ⟨rfl, ntb, rfl⟩
            have hNtb := hNa.out.drewN ntb
            have hCtb := hCa.out.trans (Chg.drewN _ va ntb)
            generalize va.drewN ntb = vtb at hNtb hCtb ⊢
            have d4tb := hNtb.blk.cell (i := 4) rfl
            have hlttb := hNtb.blk.lt
            replace hNtb := Lib.hid hNtb
            replace hCtb := Lib.hid hCtb
            clear hlstb hmtb d4a
            go_wp2
            go_ret
            exact ⟨⟨_, rfl⟩, ys, hNtb.out, hP.out, hH.out, hT.out, hCtb.out⟩
        · have hlsa := hless.out (2 * k + 2) (2 * k + 1) (by omega) (by omega) wr hN.out
          rw [hg2.out, hg1.out, decide_eq_false h3] at hlsa
          (try rw [ek2] at hlsa); (try rw [ek1] at hlsa)
          have hma := m_Less c4
          go_wp2_with fail
          refine hlsa.mono ?_
          rintro e wa ⟨rfl, na, rfl⟩
          have hNa := hN.out.drewN na
          have hCa := hC.out.trans (Chg.drewN _ wr na)
          generalize wr.drewN na = va at hNa hCa ⊢
          have d4a := hNa.blk.cell (i := 4) rfl
          have hlta := hNa.blk.lt
          replace hNa := Lib.hid hNa
          replace hCa := Lib.hid hCa
          clear hlsa hma c4
          by_cases hlb : g1 < gk
          · have hst := Lib.hid (hstep.out (2 * k + 1) (by omega) (by omega) (by omega) (by rw [hg1.out, hgk.out]; exact hlb) (fun i h0 hi hp => by have q1 := hg1.out; have q2 := hg2.out; have q3 := hgk.out; rcases kids.out i h0 hp with rfl | rfl <;> omega))
            have hlssb := hless.out (2 * k + 1) k (by omega) (by omega) va hNa.out
            rw [hg1.out, hgk.out, decide_eq_true hlb] at hlssb
            (try rw [ek2] at hlssb); (try rw [ek1] at hlssb)
            have hmsb := m_Less d4a
            go_wp2_with fail
            refine hlssb.mono ?_
            rintro e wsb ⟨rfl, nsb, rfl⟩
            have hNsb := hNa.out.drewN nsb
            have hCsb := hCa.out.trans (Chg.drewN _ va nsb)
            generalize va.drewN nsb = vsb at hNsb hCsb ⊢
            have d4sb := hNsb.blk.cell (i := 4) rfl
            have hltsb := hNsb.blk.lt
            replace hNsb := Lib.hid hNsb
            replace hCsb := Lib.hid hCsb
            clear hlssb hmsb d4a
            have hpm := Lib.hid (swp_perm (ys := ys) (i := k) (j := 2 * k + 1) (by rw [hyl.out]; omega) (by rw [hyl.out]; omega))
            have hsl := Lib.hid ((swp_len ys k (2 * k + 1)).trans hyl.out)
            have hsw := is_Swap hNsb.out.row hyl.out k (2 * k + 1) (by rw [hyl.out]; omega) (by rw [hyl.out]; omega) hNsb.out.few
            (try rw [ek2] at hsw); (try rw [ek1] at hsw)
            have hgs := Lib.hid (fun i (hi : N ≤ i) => (gt_swp (ys := ys) (i := k) (j := 2 * k + 1) (by rw [hyl.out]; omega) (by rw [hyl.out]; omega) i).trans ((if_neg (by omega)).trans ((if_neg (by omega)).trans (hT.out i hi))))
            have hm2 := m_Swap d4sb
            generalize hyy : swp ys k (2 * k + 1) = zs at hst hpm hsl hsw hgs
            replace hyy := Lib.hid hyy
            go_wp2_with fail
            refine hsw.mono ?_
            rintro e w3 ⟨rfl, hr3, c3⟩
            have hN3 : NumAt w3 tb a0 a1 a2 top (.slice A L c) zs := ⟨hNsb.out.blk.chg c3 hNsb.out.ne, by rw [hsl.out]; rw [hyl.out] at hr3; exact hr3, hNsb.out.ne, by rw [hsl.out]; exact hfew⟩
            replace hN3 := Lib.hid hN3
            have hC3 := Lib.hid (hCsb.out.trans c3)
            have hP3 := Lib.hid (hpm.out.trans hP.out)
            clear hsw hm2 d4sb hr3 c3
            go_wp2
            go_roundw
            case rel => exact ⟨2 * k + 1, zs, by rw [ek1], by omega, hsl, hN3, hP3, hst, hgs, hC3⟩
            case measure => simp [intOf]; omega
          · have hH := Lib.hid (hfin.out (fun i h0 hi hp => by have q1 := hg1.out; have q2 := hg2.out; have q3 := hgk.out; rcases kids.out i h0 hp with rfl | rfl <;> omega))
            have hlstb := hless.out (2 * k + 1) k (by omega) (by omega) va hNa.out
            rw [hg1.out, hgk.out, decide_eq_false hlb] at hlstb
            (try rw [ek2] at hlstb); (try rw [ek1] at hlstb)
            have hmtb := m_Less d4a
            go_wp2_with fail
            refine hlstb.mono ?_
            rintro e wtb ⟨rfl, ntb, rfl⟩
            have hNtb := hNa.out.drewN ntb
            have hCtb := hCa.out.trans (Chg.drewN _ va ntb)
            generalize va.drewN ntb = vtb at hNtb hCtb ⊢
            have d4tb := hNtb.blk.cell (i := 4) rfl
            have hlttb := hNtb.blk.lt
            replace hNtb := Lib.hid hNtb
            replace hCtb := Lib.hid hCtb
            clear hlstb hmtb d4a
            go_wp2
            go_ret
            exact ⟨⟨_, rfl⟩, ys, hNtb.out, hP.out, hH.out, hT.out, hCtb.out⟩
      · have e3 : ¬ 2 * (k : Int) + 1 + 1 < ((N : Nat) : Int) := by omega
        by_cases hlb : g1 < gk
        · have hst := Lib.hid (hstep.out (2 * k + 1) (by omega) (by omega) (by omega) (by rw [hg1.out, hgk.out]; exact hlb) (fun i h0 hi hp => by have q1 := hg1.out; have q2 := hg2.out; have q3 := hgk.out; rcases kids.out i h0 hp with rfl | rfl <;> omega))
          have hlssb := hless.out (2 * k + 1) k (by omega) (by omega) wr hN.out
          rw [hg1.out, hgk.out, decide_eq_true hlb] at hlssb
          (try rw [ek2] at hlssb); (try rw [ek1] at hlssb)
          have hmsb := m_Less c4
          go_wp2_with fail
          refine hlssb.mono ?_
          rintro e wsb ⟨rfl, nsb, rfl⟩
          have hNsb := hN.out.drewN nsb
          have hCsb := hC.out.trans (Chg.drewN _ wr nsb)
          generalize wr.drewN nsb = vsb at hNsb hCsb ⊢
          have d4sb := hNsb.blk.cell (i := 4) rfl
          have hltsb := hNsb.blk.lt
          replace hNsb := Lib.hid hNsb
          replace hCsb := Lib.hid hCsb
          clear hlssb hmsb c4
          have hpm := Lib.hid (swp_perm (ys := ys) (i := k) (j := 2 * k + 1) (by rw [hyl.out]; omega) (by rw [hyl.out]; omega))
          have hsl := Lib.hid ((swp_len ys k (2 * k + 1)).trans hyl.out)
          have hsw := is_Swap hNsb.out.row hyl.out k (2 * k + 1) (by rw [hyl.out]; omega) (by rw [hyl.out]; omega) hNsb.out.few
          (try rw [ek2] at hsw); (try rw [ek1] at hsw)
          have hgs := Lib.hid (fun i (hi : N ≤ i) => (gt_swp (ys := ys) (i := k) (j := 2 * k + 1) (by rw [hyl.out]; omega) (by rw [hyl.out]; omega) i).trans ((if_neg (by omega)).trans ((if_neg (by omega)).trans (hT.out i hi))))
          have hm2 := m_Swap d4sb
          generalize hyy : swp ys k (2 * k + 1) = zs at hst hpm hsl hsw hgs
          replace hyy := Lib.hid hyy
          go_wp2_with fail
          refine hsw.mono ?_
          rintro e w3 ⟨rfl, hr3, c3⟩
          have hN3 : NumAt w3 tb a0 a1 a2 top (.slice A L c) zs := ⟨hNsb.out.blk.chg c3 hNsb.out.ne, by rw [hsl.out]; rw [hyl.out] at hr3; exact hr3, hNsb.out.ne, by rw [hsl.out]; exact hfew⟩
          replace hN3 := Lib.hid hN3
          have hC3 := Lib.hid (hCsb.out.trans c3)
          have hP3 := Lib.hid (hpm.out.trans hP.out)
          clear hsw hm2 d4sb hr3 c3
          go_wp2
          go_roundw
          case rel => exact ⟨2 * k + 1, zs, by rw [ek1], by omega, hsl, hN3, hP3, hst, hgs, hC3⟩
          case measure => simp [intOf]; omega
        · have hH := Lib.hid (hfin.out (fun i h0 hi hp => by have q1 := hg1.out; have q2 := hg2.out; have q3 := hgk.out; rcases kids.out i h0 hp with rfl | rfl <;> omega))
          have hlstb := hless.out (2 * k + 1) k (by omega) (by omega) wr hN.out
          rw [hg1.out, hgk.out, decide_eq_false hlb] at hlstb
          (try rw [ek2] at hlstb); (try rw [ek1] at hlstb)
          have hmtb := m_Less c4
          go_wp2_with fail
          refine hlstb.mono ?_
          rintro e wtb ⟨rfl, ntb, rfl⟩
          have hNtb := hN.out.drewN ntb
          have hCtb := hC.out.trans (Chg.drewN _ wr ntb)
          generalize wr.drewN ntb = vtb at hNtb hCtb ⊢
          have d4tb := hNtb.blk.cell (i := 4) rfl
          have hlttb := hNtb.blk.lt
          replace hNtb := Lib.hid hNtb
          replace hCtb := Lib.hid hCtb
          clear hlstb hmtb c4
          go_wp2
          go_ret
          exact ⟨⟨_, rfl⟩, ys, hNtb.out, hP.out, hH.out, hT.out, hCtb.out⟩
set_option maxHeartbeats 1000000 in
set_option maxRecDepth 100000 in
theorem least_Pop (h : NumAt w tb a0 a1 a2 top v xs) {K : Nat} (hK : xs.length = K + 1) :
    Calls Tryz.prog 297 #[.pointer (some ⟨tb, 4, none⟩)] w fun e w' => e = .returned (.iface 3 (.int .i64 (gt xs K))) ∧ ∃ v', NumAt w' tb a0 a1 a2 top v' (xs.take K) ∧ Chg (fun b => b = tb) (fun b => b = tb) w w' ∧ v'.ownBlock = v.ownBlock := by
  obtain ⟨g, off, c, rfl, hc, hcm⟩ := h.row.form1 (by omega)
  have c4 := h.blk.cell (i := 4) rfl
  have f4 := h.blk.frozen 4
  have hlt := h.blk.lt
  have hfew := h.few
  have k1 := h.row.cell (ic_at (xs := xs) (k := K) (by omega))
  have hb := h.blk.set 4 (.slice (some ⟨g, off, none⟩) K c)
  have hne := h.ne
  have hr := h.row.head K (by omega)
  rw [ic_take] at hr
  have htl : (xs.take K).length = K := by rw [List.length_take, hK]; omega
  have hfin : NumAt (w.setCell ⟨tb, 4, none⟩ (.slice (some ⟨g, off, none⟩) K c)) tb a0 a1 a2 top (.slice (some ⟨g, off, none⟩) K c) (xs.take K) := ⟨hb, by
    rw [htl]
    exact hr.keep fun b hb => heap_setCell_other _ _ b _ (fun e => hne (by cases hb; exact congrArg some e)), hne, by rw [htl]; omega⟩
  rw [hK] at c4 hc
  generalize gt xs K = x at k1 ⊢
  have hgl := h.row.lt (g := g) rfl
  replace hfin := Lib.hid hfin
  unfold maxLen at hcm
  clear h hb hr hne htl
  rw [hK] at hfew
  clear hK
  go_enter Tryz.func297, Tryz.ntmps297
  go_wp2
  go_ret
  exact ⟨rfl, _, hfin.out, Chg.set (F := fun b => b = tb) rfl 4 _, rfl⟩
theorem m_Pop {w : World} {tb : Nat} : (method 446 222 (.pointer (some ⟨tb, 4, none⟩)) "Pop").run Tryz.prog w = .ok (297, .pointer (some ⟨tb, 4, none⟩)) w := by kernel_rfl
set_option maxHeartbeats 1000000 in
set_option maxRecDepth 100000 in
theorem heap_Pop (h : NumAt w tb a0 a1 a2 top v xs) (hp : IsHp xs xs.length) (h0 : 0 < xs.length) :
    Calls Tryz.prog 160 #[.iface 222 (.pointer (some ⟨tb, 4, none⟩))] w fun e w' => e = .returned (.iface 3 (.int .i64 (gt xs 0))) ∧ ∃ (v' : Value) (ys : List Int), NumAt w' tb a0 a1 a2 top v' ys ∧ (ys ++ [gt xs 0]).Perm xs ∧ IsHp ys ys.length ∧
      Chg (fun b => b = tb ∨ v.ownBlock = some b) (fun b => b = tb ∨ v.ownBlock = some b) w w' ∧ v'.ownBlock = v.ownBlock := by
  obtain ⟨A, c, rfl, hc, hcm⟩ := h.row.form
  obtain ⟨K, hK⟩ : ∃ K, xs.length = K + 1 := ⟨xs.length - 1, by omega⟩
  have c4 := h.blk.cell (i := 4) rfl
  have hlt := h.blk.lt
  have hfew := h.few
  have hsw := is_Swap h.row rfl 0 K (by omega) (by omega) h.few
  have hpm := swp_perm (ys := xs) (i := 0) (j := K) (by omega) (by omega)
  have hsl := (swp_len xs 0 K).trans hK
  have hgs : gt (swp xs 0 K) K = gt xs 0 := by rw [gt_swp (by omega) (by omega), if_pos rfl]
  have hdn := dn_start (n := K) (by rw [← hK]; exact hp) (by omega)
  have hm1 := m_Len c4
  have hm2 := m_Swap c4
  have hl4 := fun W => is_Len A (K + 1) c W
  generalize gt xs 0 = x0 at hgs ⊢
  generalize swp xs 0 K = zs at hsw hpm hsl hgs hdn
  rw [hK] at c4 hsw hc hfew hm1 hm2
  have hN0 := h
  rw [hK] at hN0
  have e1 : ((K + 1 : Nat) : Int) - 1 = (K : Int) := by omega
  have e2 : (K : Int) + 1 - 1 = (K : Int) := by omega
  replace hN0 := Lib.hid hN0
  replace hpm := Lib.hid hpm
  replace hsl := Lib.hid hsl
  replace hgs := Lib.hid hgs
  replace hdn := Lib.hid hdn
  replace hK := Lib.hid hK
  replace hl4 := Lib.hid hl4
  replace hsw := Lib.hid hsw
  clear h hp h0 hcm
  go_enter Tryz.func160, Tryz.ntmps160
  go_wp2_with fail
  refine (hl4.out w).mono ?_
  rintro e w' ⟨rfl, hw⟩
  obtain rfl := hw.symm
  clear hw
  go_wp2_with fail
  refine hsw.out.mono ?_
  rintro e w2 ⟨rfl, hr2, cc2⟩
  have hN2 : NumAt w2 tb a0 a1 a2 top (.slice A (K + 1) c) zs := ⟨hN0.out.blk.chg cc2 hN0.out.ne, by rw [hsl.out]; exact hr2, hN0.out.ne, by rw [hsl.out]; exact hfew⟩
  have hdo := heap_down hN2 K (by rw [hsl.out]; omega) hdn.out
  have hlt2 := hN2.blk.lt
  replace hdo := Lib.hid hdo
  replace cc2 := Lib.hid cc2
  clear hN2 hsw hm1 hm2 c4 hr2 hN0
  go_wp2_with fail
  refine hdo.out.mono ?_
  rintro e w3 ⟨⟨b, rfl⟩, ys, hN3, hP3, hH3, hT3, cc3⟩
  have hyl : ys.length = K + 1 := hP3.length_eq.trans hsl.out
  have hpo := least_Pop hN3 hyl
  rw [hT3 K (Nat.le_refl _), hgs.out] at hpo
  have hlt3 := hN3.blk.lt
  have hP4 : (ys.take K ++ [x0]).Perm xs := by
    have e3 : ys.take K ++ [x0] = ys := by
      have h5 : gt ys K = x0 := (hT3 K (Nat.le_refl _)).trans hgs.out
      rw [gt_of (by omega)] at h5
      rw [← h5]
      have := List.take_append_getElem (l := ys) (i := K) (by omega)
      rw [this, List.take_of_length_le (by omega)]
    rw [e3]
    exact hP3.trans hpm.out
  have hH4 : IsHp (ys.take K) (ys.take K).length := by
    rw [show (ys.take K).length = K by rw [List.length_take, hyl]; omega]
    exact hH3.take
  have hmp := m_Pop (w := w3) (tb := tb)
  have hown : (Value.slice A xs.length c).ownBlock = (Value.slice A (K + 1) c).ownBlock := own_len _ _ _ _ _
  replace hpo := Lib.hid hpo
  replace hP4 := Lib.hid hP4
  replace hH4 := Lib.hid hH4
  replace cc3 := Lib.hid cc3
  replace hown := Lib.hid hown
  clear hN3 hP3 hH3 hT3 hyl hdo hpm hsl hgs hdn
  go_wp2_with fail
  refine hpo.out.mono ?_
  rintro e w4 ⟨rfl, v', hN4, cc4, ho4⟩
  go_wp2
  go_ret
  refine ⟨rfl, v', _, hN4, hP4.out, hH4.out, ?_, ho4.trans hown.out.symm⟩
  rw [hown.out]
  exact ((cc2.out.trans cc3.out).mono (G := fun b => b = tb ∨ (Value.slice A (K + 1) c).ownBlock = some b) (G' := fun b => b = tb ∨ (Value.slice A (K + 1) c).ownBlock = some b) (fun b hb => .inr hb) (fun b _ hb => .inr hb)).trans (cc4.mono (G := fun b => b = tb ∨ (Value.slice A (K + 1) c).ownBlock = some b) (G' := fun b => b = tb ∨ (Value.slice A (K + 1) c).ownBlock = some b) (fun b hb => .inl hb) (fun b _ hb => .inr hb))
/-- The least number that is not out. -/
def Least (ids : List Int) (k : Int) : Prop := 1 ≤ k ∧ k ∉ ids ∧ ∀ j, 1 ≤ j → j < k → j ∈ ids
theorem NumR.least {ids : List Int} (h : NumR w tb a0 a1 a2 ids top v xs) (h0 : 0 < xs.length) : Least ids (gt xs 0) := by
  have hm : gt xs 0 ∈ xs := by rw [gt_of h0]; exact List.getElem_mem h0
  have h1 := (h.all _).2 (.inr hm)
  refine ⟨h1.1, h.dis _ hm, fun j hj hlt => ?_⟩
  rcases (h.all j).1 ⟨hj, by omega⟩ with h2 | h2
  · exact h2
  · obtain ⟨i, hi, rfl⟩ := List.getElem_of_mem h2
    have := h.hp.least i hi
    rw [gt_of hi] at this
    omega
theorem NumR.least0 {ids : List Int} (h : NumR w tb a0 a1 a2 ids top v []) : Least ids ((top + 1 : Nat) : Int) :=
  ⟨by omega, fun hm => by have := (h.all _).2 (.inl hm); omega, fun j hj hlt => by
    rcases (h.all j).1 ⟨hj, by omega⟩ with h2 | h2
    · exact h2
    · cases h2⟩
theorem NumR.taken {w' : World} {v' : Value} {ids ys : List Int} {x : Int} (h : NumR w tb a0 a1 a2 ids top v xs) (hN : NumAt w' tb a0 a1 a2 top v' ys) (hP : (ys ++ [x]).Perm xs) (hH : IsHp ys ys.length) : NumR w' tb a0 a1 a2 (ids ++ [x]) top v' ys := by
  have hl := hP.length_eq
  rw [List.length_append, List.length_singleton] at hl
  have hnd := hP.nodup_iff.2 h.nd
  rw [List.nodup_append] at hnd
  refine ⟨hN, hH, by have := h.cnt; rw [List.length_append, List.length_singleton]; omega, fun j => ?_, fun j hj hm => ?_, hnd.1, h.few⟩
  · rw [h.all j, ← hP.mem_iff, List.mem_append, List.mem_append, List.mem_singleton]
    constructor
    · rintro (h1 | h1 | h1)
      · exact .inl (.inl h1)
      · exact .inr h1
      · exact .inl (.inr h1)
    · rintro ((h1 | h1) | h1)
      · exact .inl h1
      · exact .inr (.inr h1)
      · exact .inr (.inl h1)
  · rw [List.mem_append, List.mem_singleton] at hm
    rcases hm with hm | hm
    · exact h.dis j (hP.mem_iff.1 (List.mem_append_left _ hj)) hm
    · exact hnd.2.2 j hj x (List.mem_singleton.2 rfl) hm
set_option maxHeartbeats 1000000 in
set_option maxRecDepth 100000 in
theorem nums_take {ids : List Int} (h : NumR w tb a0 a1 a2 ids top v xs) (ht : top < 100000) :
    Calls Tryz.prog 137 #[.pointer (some ⟨tb, 3, none⟩)] w fun e w' => ∃ k, e = .returned (.int .i64 k) ∧ Least ids k ∧ ∃ top' v' xs', top' ≤ top + 1 ∧ NumR w' tb a0 a1 a2 (ids ++ [k]) top' v' xs' ∧ Chg (fun b => b = tb ∨ v.ownBlock = some b) (fun b => b = tb ∨ v.ownBlock = some b) w w' ∧ v'.ownBlock = v.ownBlock := by
  by_cases h0 : xs = []
  · subst h0
    refine (nums_take0 h ht).mono ?_
    rintro e w' ⟨rfl, h1, h2⟩
    exact ⟨_, rfl, h.least0, top + 1, v, [], Nat.le_refl _, h1, h2.mono (fun b hb => .inl hb) (fun b _ hb => .inr hb), rfl⟩
  · have hpos : 0 < xs.length := List.length_pos_iff.2 h0
    have hpop := heap_Pop h.at_ h.hp hpos
    have hle := h.least hpos
    have htk := fun w' v' ys => h.taken (w' := w') (v' := v') (ys := ys) (x := gt xs 0)
    obtain ⟨A, c, hv, hc, hcm⟩ := h.at_.row.form
    have c4 := h.at_.blk.cell (i := 4) rfl
    have hlt := h.at_.blk.lt
    generalize gt xs 0 = x at hpop hle htk ⊢
    obtain ⟨L, hL⟩ : ∃ L, xs.length = L := ⟨_, rfl⟩
    rw [hL] at hv hpos
    rw [hv] at c4
    have hl4 := fun W => is_Len A L c W
    have e1 : (0 : Int) < (L : Int) := by omega
    have hta : ∀ W : World, (Instr.typeAssert (.iface 3 (.int .i64 x)) 20 3 false).run Tryz.prog W = .ok (.int .i64 x) W := fun _ => by kernel_rfl
    replace hpop := Lib.hid hpop
    replace hle := Lib.hid hle
    replace htk := Lib.hid htk
    replace hl4 := Lib.hid hl4
    replace hv := Lib.hid hv
    replace hL := Lib.hid hL
    clear h h0 hc hcm
    go_enter Tryz.func137, Tryz.ntmps137
    go_wp2_with fail
    refine (hl4.out w).mono ?_
    rintro e w' ⟨rfl, hw⟩
    obtain rfl := hw.symm
    clear hw
    go_wp2_with fail
    refine hpop.out.mono ?_
    rintro e w' ⟨rfl, v', ys, h1, h2, h3, h4, h5⟩
    go_wp2
    go_ret
    exact ⟨x, rfl, hle.out, top, v', ys, Nat.le_succ _, htk.out w' v' ys h1 h2 h3, h4, h5⟩
set_option maxHeartbeats 1000000 in
set_option maxRecDepth 100000 in
theorem nums_leaveT {ids : List Int} (h : NumR w tb a0 a1 a2 ids top v xs) (hnd : ids.Nodup) {id : Int} (hid : id ∈ ids) :
    Calls Tryz.prog 73 #[.pointer (some ⟨tb, 3, none⟩), .int .i64 id] w fun e w' => e = .returned (.tuple #[]) ∧ ∃ (top' : Nat) (v' : Value) (ys : List Int), top' ≤ top ∧ NumR w' tb a0 a1 a2 (ids.filter fun j => j ≠ id) top' v' ys ∧
      Chg (fun b => b = tb ∨ v.ownBlock = some b) (fun b => b = tb ∨ v.ownBlock = some b ∨ v'.ownBlock = some b) w w' ∧ (v'.ownBlock = none ∨ v'.ownBlock = v.ownBlock ∨ ∃ g, v'.ownBlock = some g ∧ w.heap.size ≤ g) := by
  have hpush := heap_Push h.at_ h.hp id (by have := h.cnt; have := h.few; omega)
  have hlt := h.at_.blk.lt
  have hcnt := h.cnt
  have hfew := h.few
  have hpu := fun w' v' ys => h.pushed (w' := w') (v' := v') (ys := ys) hnd hid
  replace hpu := Lib.hid hpu
  replace h := Lib.hid h
  replace hcnt := Lib.hid hcnt
  go_enter Tryz.func73, Tryz.ntmps73
  go_wp2_with fail
  refine hpush.mono ?_
  rintro e w1 ⟨rfl, v', ys, hN, hP, hH, hC, how⟩
  have hR := hpu.out w1 v' ys hN hP hH
  obtain ⟨A, c, hv, hc, hcm⟩ := hN.row.form
  have c3 := hN.blk.cell (i := 3) rfl
  have c4 := hN.blk.cell (i := 4) rfl
  have f3 := hN.blk.frozen 3
  have f4 := hN.blk.frozen 4
  have hl1 := hN.blk.lt
  rw [hv] at c4
  obtain ⟨K, hK⟩ : ∃ K, ys.length = K := ⟨_, rfl⟩
  rw [hK] at c4 hc
  replace hN := Lib.hid hN
  replace hR := Lib.hid hR
  replace hC := Lib.hid hC
  replace how := Lib.hid how
  replace hK := Lib.hid hK
  replace hv := Lib.hid hv
  clear hpush hP hH hpu
  go_wp2_with fail
  go_quiet ((go_at_call 122; refine Calls.quiet_of_same (is_Len A K c _)))
  by_cases hkt : K = top
  · have e1 : ((K : Int) == (top : Int)) = true := by simp [hkt]
    go_wp2
    go_end0
    have hb := (hN.out.blk.set 3 (.int .i64 0)).set 4 (.slice none 0 0)
    have hR' := hR.out
    have hl0 : (ids.filter fun j => j ≠ id).length = 0 := by have := hR'.cnt; have := hK.out; omega
    have hnil := List.eq_nil_of_length_eq_zero hl0
    refine ⟨rfl, 0, .slice none 0 0, [], Nat.zero_le _, ⟨⟨hb, .inl ⟨rfl, rfl, rfl⟩, nofun, Nat.zero_le _⟩, IsHp.nil _, by rw [hnil]; rfl, fun j => ?_, nofun, List.nodup_nil, Nat.zero_le _⟩, ?_, .inl rfl⟩
    · rw [hnil]
      simp
      omega
    · refine ((hC.out.trans (Chg.drewN _ w1 nq)).trans (((Chg.set (F := fun b => b = tb ∨ v.ownBlock = some b ∨ v'.ownBlock = some b) (.inl rfl) 3 _).trans (Chg.set (.inl rfl) 4 _)))).mono (fun b hb => hb) (fun b _ hb => ?_)
      rcases hb with hb | hb | hb
      · exact .inr (.inl hb)
      · exact .inr (.inr hb)
      · cases hb
  · have e1 : ((K : Int) == (top : Int)) = false := by simp; omega
    go_wp2
    go_end0
    exact ⟨rfl, top, v', ys, Nat.le_refl _, hR.out.keep rfl (fun _ _ => rfl), hC.out.trans (Chg.drewN _ w1 nq), .inr how.out⟩
end
end Go.Proofs.YtbjakhiflgjflaaGreatDoor
