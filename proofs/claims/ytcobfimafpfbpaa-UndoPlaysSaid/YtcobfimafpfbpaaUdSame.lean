/-
  same: do things have what the document says? Conditions: fewer than a hundred thousand keys.
-/
import Derived.Test.YtcobfimafpfbpaaUdNow
namespace Go.Proofs.Ytcobfimafpfbpaa
open Go Go.Proofs Go.RowKit Go.ChangeMaps

theorem str_eq {a b : ByteArray} (h : a = b) : (a.toList == b.toList) = true := by rw [h]; exact beq_self_eq_true _
theorem drewN_add (w : World) (m n : Nat) : (w.drewN m).drewN n = w.drewN (m + n) := by first | rfl | simp
theorem str_ne {a b : ByteArray} (h : a ≠ b) : (a.toList == b.toList) = false := by
  rw [beq_eq_false_iff_ne]
  intro e
  rw [ByteArray.toList_eq, ByteArray.toList_eq] at e
  exact h (bytesOf_inj e)

set_option maxRecDepth 100000 in
set_option maxHeartbeats 4000000 in
theorem same_any {w : World} {B : Nat} {Q : Nat → Prop} {a : Ad} {pot : Nat} {t : Tg} {L SL : Es} {base : Nat} {vS : Value} {sc : ByteArray} (h : ThAt w B Q a pot t) (hc : Canon t.cur.f L) (hL : L.length ≤ 100000) (hp : pot ≤ 100000) (hS : PairsAt w base vS SL) :
    Calls Try.prog 14 #[thV a, .agg #[vS, .string sc]] w fun e w' => e = .returned (.bool (decide (L = SL ∧ t.cur.s = sc))) ∧ Below w.heap.size w w' := by
  obtain ⟨z, hz⟩ : ∃ z, w.heap.size = z := ⟨_, rfl⟩
  rw [hz]
  obtain ⟨R, hR⟩ : ∃ R, decide (L = SL ∧ t.cur.s = sc) = R := ⟨_, rfl⟩
  rw [hR]
  have hthb : ∀ W, Below z w W → ThAt W B Q a pot t := fun W hW => h.below (by rw [hz]; exact hW)
  have hSb : ∀ W, Below z w W → PairsAt W base vS SL := fun W hW => own_keep hS fun g cur _ hg => hW.block g (by rw [← hz]; exact (Array.getElem?_eq_some_iff.1 hg).1)
  obtain ⟨AS, cS, rfl, hcS, hcSm⟩ := own_form hS
  -- the boxes of t and s
  have b0 : Blk ((w.alloc (.cells #[ptrV a.l, ptrV a.m, ptrV a.c] 29)).alloc (.cells #[.slice AS SL.length cS, .string sc] 44)) z [ptrV a.l, ptrV a.m, ptrV a.c] 29 := by rw [← hz]; exact (Blk.new w _ _).alloc _
  have b1 : Blk ((w.alloc (.cells #[ptrV a.l, ptrV a.m, ptrV a.c] 29)).alloc (.cells #[.slice AS SL.length cS, .string sc] 44)) (z + 1) [.slice AS SL.length cS, .string sc] 44 := by
    have := Blk.new (w.alloc (.cells #[ptrV a.l, ptrV a.m, ptrV a.c] 29)) [.slice AS SL.length cS, .string sc] 44
    rw [show (w.alloc (.cells #[ptrV a.l, ptrV a.m, ptrV a.c] 29)).heap.size = z + 1 by simp [hz]] at this
    exact this
  have hs0 : ((w.alloc (.cells #[ptrV a.l, ptrV a.m, ptrV a.c] 29)).alloc (.cells #[.slice AS SL.length cS, .string sc] 44)).heap.size = z + 2 := by simp [hz]
  have hb0 := ((Below.refl z w).alloc (by omega) (.cells #[ptrV a.l, ptrV a.m, ptrV a.c] 29)).alloc (by simp; omega) (.cells #[.slice AS SL.length cS, .string sc] 44)
  obtain ⟨w0, hw0⟩ : ∃ w0, (w.alloc (.cells #[ptrV a.l, ptrV a.m, ptrV a.c] 29)).alloc (.cells #[.slice AS SL.length cS, .string sc] 44) = w0 := ⟨_, rfl⟩
  rw [hw0] at b0 b1 hs0 hb0
  have hky := th_keys (hthb w0 hb0) hc hp
  rw [hs0] at hky
  have d1 : w0.cell? ⟨z, 1, none⟩ = some (.pointer (some ⟨a.m, 0, none⟩)) := b0.cell (i := 1) rfl
  have dl := b0.lt
  have hcget : ∀ i (hi : i < L.length), t.cur.f L[i].1 = some L[i].2 := fun i hi => canon_get hc hi
  obtain ⟨s, hs⟩ : ∃ s, t.cur.s = s := ⟨_, rfl⟩
  have hcg := fun W hW => th_cget (hthb W hW)
  rw [hs] at hR
  simp only [hs] at hcg
  obtain ⟨KL, hKL⟩ : ∃ K, L.length = K := ⟨_, rfl⟩
  obtain ⟨KS, hKS⟩ : ∃ K, SL.length = K := ⟨_, rfl⟩
  rw [hKL] at hL
  unfold maxLen at hcSm
  rw [hKS] at hcS b1 hw0
  replace hKL := Lib.hid hKL
  replace hz := Lib.hid hz
  replace hthb := Lib.hid hthb
  replace hSb := Lib.hid hSb
  replace hw0 := Lib.hid hw0
  replace hs0 := Lib.hid hs0
  replace b0 := Lib.hid b0
  replace b1 := Lib.hid b1
  replace hb0 := Lib.hid hb0
  replace hcget := Lib.hid hcget
  replace hR := Lib.hid hR
  unfold ptrV at hcg hky hw0
  replace hcg := Lib.hid hcg
  replace hky := Lib.hid hky
  unfold thV ptrV
  clear h hc hs hS
  rw [hKS]
  replace hKS := Lib.hid hKS
  go_enter Try.func14, Try.ntmps14
  go_upto_region 1 with fail
  rw [hz.out, hw0.out]
  go_wp2_with fail
  refine hky.out.mono ?_
  rintro e w1 ⟨kv, rfl, hrow, hb1'⟩
  obtain ⟨A, cc, rfl, hcc, hccm⟩ := own_form hrow
  have hb1'' : Below w0.heap.size w0 w1 := by rw [hs0.out]; exact hb1'
  have b01 : Blk w1 z _ _ := (hb1''.block z b0.out.lt).trans b0.out
  have b11 : Blk w1 (z + 1) _ _ := (hb1''.block (z + 1) b1.out.lt).trans b1.out
  have hbz1 : Below z w w1 := hb0.out.trans (hb1'.mono (by omega))
  have e1 : w1.cell? ⟨z, 1, none⟩ = some (.pointer (some ⟨a.m, 0, none⟩)) := b01.cell (i := 1) rfl
  have e2 : w1.cell? ⟨z, 2, none⟩ = some (.pointer (some ⟨a.c, 0, none⟩)) := b01.cell (i := 2) rfl
  have el := b01.lt
  have f0 : w1.cell? ⟨z + 1, 0, none⟩ = some (.slice AS KS cS) := b11.cell (i := 0) rfl
  have f1 : w1.cell? ⟨z + 1, 1, none⟩ = some (.string sc) := b11.cell (i := 1) rfl
  have fl := b11.lt
  unfold maxLen at hccm
  rw [hKL.out] at hcc ⊢
  have hcg1 := fun n => hcg.out (w1.drewN n) (hbz1.trans (below_drewN (Below.refl _ w1) n))
  have hfin : ∀ n, Below z w (w1.drewN n) := fun n => below_drewN hbz1 n
  replace hrow := Lib.hid hrow
  replace hbz1 := Lib.hid hbz1
  replace hcg1 := Lib.hid hcg1
  replace hfin := Lib.hid hfin
  clear hky hb1' hb1'' d1 dl b0 b1 hb0 b01 b11 hcg
  by_cases hlen : KL = KS
  · subst hlen
    by_cases hsc : s = sc
    · subst hsc
      have hst := str_eq (rfl : s = s)
      go_wp2_with fail
      go_quiet ((go_at_call 32; refine Calls.quiet_of_same (hcg1.out _)))
      go_wp2
      go_loopw [6] (fun nv wr => ∃ (i d : Nat), i ≤ KL ∧ nv = .int .i64 (i : Int) ∧ wr = w1.drewN d ∧ Hid (∀ j (h1 : j < L.length) (h2 : j < SL.length), j < i → L[j] = SL[j])) (fun nv _ => KL - (intOf nv).toNat)
      case atStart => exact ⟨0, nq, Nat.zero_le _, rfl, rfl, Lib.hid (fun j _ _ h => absurd h (Nat.not_lt_zero _))⟩
      case round =>
        obtain ⟨i, d, hi, rfl, hwr, hall⟩ := hrel
        have g1 : wr.cell? ⟨z, 1, none⟩ = some (.pointer (some ⟨a.m, 0, none⟩)) := by rw [hwr]; exact e1
        have gl : z < wr.heap.size := by rw [hwr]; exact el
        have g0 : wr.cell? ⟨z + 1, 0, none⟩ = some (.slice AS KL cS) := by rw [hwr]; exact f0
        have gl2 : z + 1 < wr.heap.size := by rw [hwr]; exact fl
        clear e1 e2 f0 f1 el fl
        by_cases hlt : i < KL
        · have hlt' : i < L.length := by rw [hKL.out]; exact hlt
          have hlt2 : i < SL.length := by rw [hKS.out]; exact hlt
          obtain ⟨hdr, g, rfl, hg1, hg2, hg3⟩ := own_str hrow.out hlt'
          clear hdr
          have hge := fun n => th_get (hthb.out (wr.drewN n) (by rw [hwr]; exact below_drewN (hfin.out d) n)) L[i].1
          simp only [hcget.out i hlt', Option.getD_some, Option.isSome_some] at hge
          have hPS : PairsAt w1 base (.slice AS KL cS) SL := by have := hSb.out w1 hbz1.out; rw [hKS.out] at this; exact this
          obtain ⟨hdr, gS, rfl, hs1, hs2, hs3⟩ := hPS.at_ i hlt2
          clear hdr
          have hall2 : L[i] = SL[i] → Hid (∀ j (h1 : j < L.length) (h2 : j < SL.length), j < i + 1 → L[j] = SL[j]) := fun e j h1 h2 hj => by
            rcases Nat.lt_or_ge j i with h' | h'
            · exact hall.out j h1 h2 h'
            · obtain rfl : j = i := by omega
              exact e
          have hfalse : L[i] ≠ SL[i] → R = false := fun e => by
            rw [← hR.out, decide_eq_false_iff_not]
            rintro ⟨rfl, _⟩
            exact e rfl
          replace hg3 : wr.cell? ⟨g, i, none⟩ = some (.string L[i].1) := by rw [hwr]; exact hg3
          replace hs2 : wr.cell? ⟨gS, i * 2, none⟩ = some (.string SL[i].1) := by rw [hwr]; exact hs2
          replace hs3 : wr.cell? ⟨gS, i * 2 + 1, none⟩ = some (.int .i64 SL[i].2) := by rw [hwr]; exact hs3
          replace hg2 : g < wr.heap.size := by rw [hwr]; exact hg2
          replace hs1 : gS < wr.heap.size := by rw [hwr]; exact hs1
          generalize L[i] = p at hge hg3 hall2 hfalse
          generalize SL[i] = q at hs2 hs3 hall2 hfalse
          obtain ⟨k1, v1⟩ := p
          obtain ⟨k2, v2⟩ := q
          simp only at hge hg3 hs2 hs3
          unfold ptrV at hge
          replace hge := Lib.hid hge
          replace hwr := Lib.hid hwr
          replace hall2 := Lib.hid hall2
          replace hfalse := Lib.hid hfalse
          clear hPS hall
          by_cases hk : k1 = k2
          · subst hk
            have hk1 := str_eq (rfl : k1 = k1)
            by_cases hv : v1 = v2
            · subst hv
              have hv1 : (v1 == v1) = true := beq_self_eq_true _
              have hall3 := hall2.out rfl
              go_wp2_with fail
              go_quiet ((go_at_call 17; refine Calls.quiet_of_same (hge.out _)))
              go_wp2_with fail
              go_quiet (fail)
              go_wp2
              go_roundw
              case rel => exact ⟨i + 1, _, by omega, by go_num, by rw [hwr.out, drewN_add], hall3⟩
              case measure => simp [intOf]; omega
            · have hv1 : (v1 == v2) = false := by rw [beq_eq_false_iff_ne]; exact hv
              have hrf := hfalse.out (fun e => hv (congrArg Prod.snd e))
              subst hrf
              go_wp2_with fail
              go_quiet ((go_at_call 17; refine Calls.quiet_of_same (hge.out _)))
              go_wp2_with fail
              go_quiet (fail)
              go_wp2
              go_ret
              exact ⟨rfl, by rw [hwr.out]; simp only [drewN_add]; exact hfin.out _⟩
          · have hk1 := str_ne hk
            have hrf := hfalse.out (fun e => hk (congrArg Prod.fst e))
            subst hrf
            go_wp2_with fail
            go_quiet ((go_at_call 17; refine Calls.quiet_of_same (hge.out _)))
            go_wp2_with fail
            go_quiet (fail)
            go_wp2
            go_ret
            exact ⟨rfl, by rw [hwr.out]; simp only [drewN_add]; exact hfin.out _⟩
        · obtain rfl : i = KL := by omega
          have hrt : R = true := by
            rw [← hR.out, decide_eq_true_iff]
            refine ⟨List.ext_getElem (by rw [hKL.out, hKS.out]) fun j h1 h2 => hall.out j h1 h2 (by have := hKL.out; omega), trivial⟩
          subst hrt
          go_wp2
          go_ret
          exact ⟨rfl, hfin.out _⟩
    · have hst := str_ne hsc
      have hrf : R = false := by rw [← hR.out, decide_eq_false_iff_not]; exact fun h => hsc h.2
      subst hrf
      go_wp2_with fail
      go_quiet ((go_at_call 32; refine Calls.quiet_of_same (hcg1.out _)))
      go_wp2
      go_ret
      exact ⟨rfl, hfin.out _⟩
  · have hne : ((KL : Int) == (KS : Int)) = false := by rw [beq_eq_false_iff_ne]; omega
    have hne2 : ((KL : Int) != (KS : Int)) = true := by rw [bne_iff_ne]; omega
    have hrf : R = false := by rw [← hR.out, decide_eq_false_iff_not]; exact fun h => hlen (by rw [← hKL.out, ← hKS.out, h.1])
    subst hrf
    go_wp2_with fail
    go_quiet (fail)
    go_wp2
    go_ret
    exact ⟨rfl, hfin.out _⟩
end Go.Proofs.Ytcobfimafpfbpaa
