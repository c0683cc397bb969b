/-
  The walk of StateBack: it answers true and leaves what was there. Conditions: none.
-/
import Derived.Test.YtigmdfdcflkggaaGreatStAwake
import Derived.Test.YtigmdfdcflkggaaGreatStBack
set_option linter.unusedSimpArgs false
set_option linter.unusedVariables false
namespace Go.Proofs.YtigmdfdcflkggaaGreat
open Go Go.RowKit Go.ChangeMaps

theorem back_bools (z : Bool) : (z && true) = z := by cases z <;> rfl
set_option maxHeartbeats 16000000 in
set_option maxRecDepth 100000 in
theorem lawBack_any {A1 A2 : Option Addr} {m1 c1 m2 c2 : Nat} {l1 l2 : List Od} (w : World) (h1 : OpsC w A1 m1 c1 l1) (hL1 : ∀ o ∈ l1, Txs w o.A o.m o.c o.l) (h641 : ∀ o ∈ l1, In64 o.x ∧ In64 o.n) (h2 : OpsC w A2 m2 c2 l2) (hL2 : ∀ o ∈ l2, Txs w o.A o.m o.c o.l) (h642 : ∀ o ∈ l2, In64 o.x ∧ In64 o.n) :
    Calls Tryz.prog 4 #[.slice A1 m1 c1, .slice A2 m2 c2] w fun e w' => e = .returned (.bool true) ∧ Below w.heap.size w w' := by
  obtain ⟨i0, hi0, hz0, hz1, hz2⟩ := info_parts infoStr
  have haw := fun W => awake_any W
  have hfew1 := Few_any w h1 hL1
  have hfew2 := Few_any w h2 hL2
  have hbg := begun_any 1000 w (by decide)
  have hcm1 := h1.2.2.1
  have hmc1 := h1.2.1
  have hcm2 := h2.2.2.1
  have hmc2 := h2.2.1
  unfold maxLen at hcm1 hcm2
  replace haw := Lib.hid haw
  replace hfew1 := Lib.hid hfew1
  replace hfew2 := Lib.hid hfew2
  replace hbg := Lib.hid hbg
  replace h1 := Lib.hid h1
  replace h641 := Lib.hid h641
  replace hL1 := Lib.hid hL1
  replace h2 := Lib.hid h2
  replace h642 := Lib.hid h642
  replace hL2 := Lib.hid hL2
  replace hi0 := Lib.hid hi0
  go_enter Tryz.func4, Tryz.ntmps4
  go_wp2_with fail
  refine hfew1.out.mono ?_
  rintro e w' (⟨rfl, hwq, hm1, hok1⟩ | ⟨rfl, hwq⟩)
  · obtain rfl := hwq.symm
    replace hok1 := Lib.hid hok1
    clear hwq hfew1
    go_wp2_with fail
    refine hfew2.out.mono ?_
    rintro e w' (⟨rfl, hwq, hm2, hok2⟩ | ⟨rfl, hwq⟩)
    · obtain rfl := hwq.symm
      replace hok2 := Lib.hid hok2
      clear hwq hfew2
      go_wp2_with fail
      refine hbg.out.mono ?_
      rintro e w1 ⟨a, sb, rfl, hS, hb1⟩
      have hF1 : Hid (FrD w.heap.size w w1) := Lib.hid (FrD.of_below hb1 (Nat.le_refl _))
      have hS1 : Hid (StAt w1 w.heap.size sb a (10 * 0) (new0 1000 20) 0) := Lib.hid hS
      have hT1 : Hid (TrapN (new0 1000 20) ∧ (new0 1000 20).nest = 20) := Lib.hid ⟨⟨⟨fun k x hk => (by cases hk), Nat.zero_le _⟩, fun p hp => (by cases hp)⟩, rfl⟩
      unfold ptrV
      clear hbg hb1 hS
      go_wp2
      go_loopw [8] (fun iv wr => ∃ (i : Nat) (t : Tg) (n : Int), i ≤ m1 ∧ iv = .int .i64 (i : Int) ∧ Hid (StAt wr w.heap.size sb a (10 * i) t n) ∧ Hid (FrD w.heap.size w wr) ∧ Hid (TrapN t ∧ t.nest = 20)) (fun iv _ => m1 - (intOf iv).toNat)
      case atStart => exact ⟨0, _, 0, Nat.zero_le _, rfl, hS1, hF1, hT1⟩
      case round =>
        clear hS1 hF1 hT1
        obtain ⟨i, t, n, hi, rfl, hS, hF, hT⟩ := hrel
        by_cases hlt : i < m1
        · obtain ⟨hlen, _, _, hcell⟩ := h1.out
          have hil : i < l1.length := by omega
          obtain ⟨b, off, rfl, hbl, hcc⟩ := hcell (by omega)
          have hx := h641.out l1[i] (List.getElem_mem hil)
          have hko := hok1.out l1[i] (List.getElem_mem hil)
          have htx := (hL1.out l1[i] (List.getElem_mem hil)).below hF.out.below
          have hce := fun W (hW : Below w.heap.size w W) => (⟨(World.cell?_of_block (a := ⟨b, off + i * 5, none⟩) (hW.block b hbl)).trans (hcc i l1[i] (List.getElem?_eq_getElem hil)).1, (World.cell?_of_block (a := ⟨b, off + i * 5 + 1, none⟩) (hW.block b hbl)).trans (hcc i l1[i] (List.getElem?_eq_getElem hil)).2.1, (World.cell?_of_block (a := ⟨b, off + i * 5 + 2, none⟩) (hW.block b hbl)).trans (hcc i l1[i] (List.getElem?_eq_getElem hil)).2.2.1, (World.cell?_of_block (a := ⟨b, off + i * 5 + 3, none⟩) (hW.block b hbl)).trans (hcc i l1[i] (List.getElem?_eq_getElem hil)).2.2.2.1, (World.cell?_of_block (a := ⟨b, off + i * 5 + 4, none⟩) (hW.block b hbl)).trans (hcc i l1[i] (List.getElem?_eq_getElem hil)).2.2.2.2⟩ : _ ∧ _ ∧ _ ∧ _ ∧ _)
          generalize l1[i] = o at hx hko hce htx
          obtain ⟨x, k, s, q, Ao, mo, co, lo⟩ := o
          have hdo := does_any hS.out htx hx.1 hx.2 hko hT.out.1.1 (show 10 * i ≤ 90000 by omega)
          dsimp only at hx hce hdo
          obtain ⟨d0, d1, d2, d3, d4⟩ := hce wr hF.out.below
          have hi1 : (0 : Int) ≤ (i : Int) := by omega
          have hi2 : (i : Int) < (m1 : Int) := by omega
          unfold ptrV at hdo
          replace hdo := Lib.hid hdo
          clear hcc hcell hx hko htx hce
          go_wp2_with fail
          refine hdo.out.mono ?_
          rintro e w5 ⟨r, t', n', rfl, hR, q1, q2, _⟩
          have hSE : Hid (StAt w5 w.heap.size sb a (10 * (i + 1)) t' n') := Lib.hid (q1.mono (by omega))
          have hFE : Hid (FrD w.heap.size w w5) := Lib.hid (hF.out.trans q2)
          have hTE : Hid (TrapN t' ∧ t'.nest = 20) := Lib.hid ⟨hR.trap hT.out.1, hR.nest.trans hT.out.2⟩
          clear hdo hR q1 q2 hS hF hT d0 d1 d2 d3 d4
          go_wp2
          go_roundw
          case rel => exact ⟨i + 1, t', n', by omega, by go_num, hSE, hFE, hTE⟩
          case measure => simp [intOf]; omega
        · obtain rfl : i = m1 := by omega
          have hi3 : ¬ (i : Int) < (i : Int) := by omega
          have hnm1 := named_any wr (h1.out.below hF.out.below) (by omega)
          have hll1 : (l1.map (·.k)).length = i := by rw [List.length_map]; exact h1.out.1
          have hno1 : namesO l1 = (l1.map (·.k)).map .string := by unfold namesO; rw [List.map_map]; rfl
          rw [hno1] at hnm1
          have hll2 : (l2.map (·.k)).length = m2 := by rw [List.length_map]; exact h2.out.1
          have hno2 : namesO l2 = (l2.map (·.k)).map .string := by unfold namesO; rw [List.map_map]; rfl
          generalize l1.map (·.k) = ks1 at hnm1 hll1
          generalize l2.map (·.k) = ks2 at hno2 hll2
          clear hno1
          go_wp2_with fail
          refine hnm1.mono ?_
          rintro e w2 ⟨v1, rfl, hown1, hb2⟩
          obtain ⟨Ak1, ck1, rfl, htk1⟩ := txs_of_own hll1 hown1
          have hF2 : FrD w.heap.size w w2 := hF.out.trans (FrD.of_below hb2 hS.out.hBw)
          have hS2 := hS.out.below hb2
          have hnm2 := named_any w2 (h2.out.below hF2.below) (by omega)
          rw [hno2] at hnm2
          replace hF2 := Lib.hid hF2
          replace hS2 := Lib.hid hS2
          clear hnm1 hno2
          go_wp2_with fail
          refine hnm2.mono ?_
          rintro e w3 ⟨v2, rfl, hown2, hb3⟩
          obtain ⟨Ak2, ck2, rfl, htk2⟩ := txs_of_own hll2 hown2
          have hb23 : Below wr.heap.size wr w3 := hb2.trans (hb3.mono hb2.size)
          obtain ⟨An, cn, w4, hrun, hown4, hb4⟩ := append_rows (ownBelow hown1 hb3) hll1 hb23 hb23.size htk2 (by omega) hi0.out hz0 hz1 hz2
          have hS4 : Hid (StAt w4 w.heap.size sb a (10 * i) t n) := Lib.hid (hS.out.below hb4)
          have hF4 : Hid (FrD w.heap.size w w4) := Lib.hid (hF.out.trans (FrD.of_below hb4 hS.out.hBw))
          have hlk : (ks1 ++ ks2).length = i + m2 := by rw [List.length_append, hll1, hll2]
          generalize ks1 ++ ks2 = ks at hown4 hlk
          have htk4 := own_txs hlk hown4
          obtain ⟨yk, hyk⟩ : ∃ y, wr.heap.size = y := ⟨_, rfl⟩
          rw [hyk] at hown4
          replace hown4 := Lib.hid hown4
          replace hrun := Lib.hid hrun
          replace hlk := Lib.hid hlk
          clear hnm2 hown1 hown2 htk1 htk2 hb2 hb3 hb23 hb4 hll1 hll2 hS2 hF2 hS hF hyk
          go_wp2_with (at_builtin; refine wpList_append_of rfl _ _ 35 35 rfl _ _ _ w4 rfl rfl hrun.out ?_)
          clear hrun
          have hdef : Hid (t = t) := Lib.hid rfl
          obtain ⟨vs, al, hkv, hka, htd⟩ := told_any hS4.out (show 10 * i ≤ 100000 by omega) hT.out.1.1.2 htk4 (by omega)
          unfold ptrV at htd
          replace hkv := Lib.hid hkv
          replace hka := Lib.hid hka
          clear htk4 hdef
          go_wp2_with fail
          refine htd.mono ?_
          rintro e w5 ⟨v5, rfl, hown5, hb5⟩
          obtain ⟨At, ct, rfl, _, _⟩ := own_form hown5
          obtain ⟨TL, hTL⟩ : ∃ TL, toldL t vs al ks = TL := ⟨_, rfl⟩
          rw [hTL] at hown5 ⊢
          have hS5 : Hid (StAt w5 w.heap.size sb a (10 * i) t n) := Lib.hid (hS4.out.below hb5)
          have hF5 : Hid (FrD w.heap.size w w5) := Lib.hid (hF4.out.trans (FrD.of_below hb5 hS4.out.hBw))
          have hown4b := Lib.hid (ownBelow hown4.out hb5)
          obtain ⟨yt, hyt⟩ : ∃ y, w4.heap.size = y := ⟨_, rfl⟩
          rw [hyt] at hown5
          replace hown5 := Lib.hid hown5
          replace hTL := Lib.hid hTL
          clear htd hb5 hS4 hF4 hown4 hyt
          have hcu := Cursor_any hS5.out
          have hmk := th_marks hS5.out.th
          obtain ⟨ga, hga⟩ : ∃ x, t.cur.g.a = x := ⟨_, rfl⟩
          obtain ⟨gi, hgi⟩ : ∃ x, t.cur.g.i = x := ⟨_, rfl⟩
          rw [hga, hgi] at hcu
          obtain ⟨KW, hKW⟩ : ∃ x, t.was.length = x := ⟨_, rfl⟩
          have hKWb : KW ≤ 20 := by have := hS5.out.th.good.nest1; rw [hKW, hT.out.2] at this; exact this
          unfold ptrV at hcu
          replace hga := Lib.hid hga
          replace hgi := Lib.hid hgi
          go_wp2_with fail
          refine hcu.mono ?_
          rintro e w6 ⟨rfl, hb6⟩
          have hS6 := hS5.out.below hb6
          have hF6 : Hid (FrD w.heap.size w w6) := Lib.hid (hF5.out.trans (FrD.of_below hb6 hS5.out.hBw))
          have hown46 := Lib.hid (ownBelow hown4b.out hb6)
          have hown56 := Lib.hid (ownBelow hown5.out hb6)
          have hmk := th_marks hS6.th
          rw [hKW] at hmk
          have hmr := th_mark hS6.th
          unfold ptrV at hmk hmr
          replace hS6 := Lib.hid hS6
          clear hcu hb6 hS5 hF5 hown4b hown5
          go_wp2_with fail
          refine hmk.mono ?_
          rintro e w' ⟨rfl, hwq⟩
          obtain rfl := hwq.symm
          clear hmk hwq
          by_cases hfull : KW = 20
          · have hmt : t.mark = (0, 42, t) := by unfold Tg.mark; rw [if_pos (by rw [hKW, hT.out.2]; exact hfull)]
            rw [hmt] at hmr
            subst hfull
            go_wp2_with fail
            refine hmr.mono ?_
            rintro e w7 ⟨rfl, q1, q2⟩
            have hF7 : Hid (FrD w.heap.size w w7) := Lib.hid (hF6.out.trans (hS6.out.frD q2))
            clear hmr q1 q2 hS6 hF6
            go_wp2_with fail
            refine (haw.out _).mono ?_
            rintro e w9 ⟨rfl, hb9⟩
            have hbE : Hid (Below w.heap.size w w9) := Lib.hid (hF7.out.below.trans (hb9.mono hF7.out.below.size))
            clear hb9 haw
            go_wp2
            go_ret
            exact ⟨rfl, hbE.out⟩
          · have hmt : t.mark = ((t.was.length : Int) + 1, 0, t.marked) := by unfold Tg.mark; rw [if_neg (by rw [hKW, hT.out.2]; exact hfull)]
            rw [hmt] at hmr
            go_wp2_with fail
            refine hmr.mono ?_
            rintro e w7 ⟨rfl, q1, q2⟩
            have hF67 := hS6.out.frD q2
            have hF7 : Hid (FrD w.heap.size w w7) := Lib.hid (hF6.out.trans hF67)
            have hS7 : Hid (StAt w7 w.heap.size sb a (10 * i + 10 * 0) t.marked n) := Lib.hid (hS6.out.next q1 q2)
            have hN7 := Lib.hid (own_keepD hown46.out hF67.keep)
            have hW7 := Lib.hid (own_keepD hown56.out hF67.keep)
            have hT7 : Hid (TrapN t.marked ∧ t.marked.nest = 20) := Lib.hid ⟨⟨hT.out.1.1, fun p hp => by
                rcases List.mem_append.1 hp with hp | hp
                · exact hT.out.1.2 p hp
                · rw [List.mem_singleton.1 hp]; exact hT.out.1.1⟩, hT.out.2⟩
            have hH7 : Hid (∃ ws, t.marked.was = t.was ++ (t.ns.length, t.cur) :: ws) := Lib.hid ⟨[], rfl⟩
            obtain ⟨NN, hNN⟩ : ∃ x, t.ns.length = x := ⟨_, rfl⟩
            rw [hNN] at hH7
            replace hKW := Lib.hid hKW
            clear hmr q1 q2 hS6 hF6 hF67 hown46 hown56 hmt hNN hT
            go_wp2
            go_loopw [16] (fun iv wx => ∃ (j : Nat) (t' : Tg) (n' : Int), j ≤ m2 ∧ iv = .int .i64 (j : Int) ∧ Hid (StAt wx w.heap.size sb a (10 * i + 10 * j) t' n') ∧ Hid (FrD w.heap.size w wx) ∧ Hid (TrapN t' ∧ t'.nest = 20) ∧ Hid (∃ ws, t'.was = t.was ++ (NN, t.cur) :: ws) ∧ Hid (wx.ownsRow yk 9 1 (.slice An (i + m2) cn) (i + m2) (ks.map .string)) ∧ Hid (wx.ownsRow yt 9 1 (.slice At TL.length ct) TL.length (TL.map .string))) (fun iv _ => m2 - (intOf iv).toNat)
            case atStart => exact ⟨0, _, n, Nat.zero_le _, rfl, hS7, hF7, hT7, hH7, hN7, hW7⟩
            case round =>
              clear hS7 hF7 hT7 hH7 hN7 hW7
              obtain ⟨j, t', n', hj, rfl, hS, hF, hT, hH, hN, hW⟩ := hrel
              by_cases hlt2 : j < m2
              · obtain ⟨hlen, _, _, hcell⟩ := h2.out
                have hil : j < l2.length := by omega
                obtain ⟨b, off, rfl, hbl, hcc⟩ := hcell (by omega)
                have hx := h642.out l2[j] (List.getElem_mem hil)
                have hko := hok2.out l2[j] (List.getElem_mem hil)
                have htx := (hL2.out l2[j] (List.getElem_mem hil)).below hF.out.below
                have hce := fun W (hW : Below w.heap.size w W) => (⟨(World.cell?_of_block (a := ⟨b, off + j * 5, none⟩) (hW.block b hbl)).trans (hcc j l2[j] (List.getElem?_eq_getElem hil)).1, (World.cell?_of_block (a := ⟨b, off + j * 5 + 1, none⟩) (hW.block b hbl)).trans (hcc j l2[j] (List.getElem?_eq_getElem hil)).2.1, (World.cell?_of_block (a := ⟨b, off + j * 5 + 2, none⟩) (hW.block b hbl)).trans (hcc j l2[j] (List.getElem?_eq_getElem hil)).2.2.1, (World.cell?_of_block (a := ⟨b, off + j * 5 + 3, none⟩) (hW.block b hbl)).trans (hcc j l2[j] (List.getElem?_eq_getElem hil)).2.2.2.1, (World.cell?_of_block (a := ⟨b, off + j * 5 + 4, none⟩) (hW.block b hbl)).trans (hcc j l2[j] (List.getElem?_eq_getElem hil)).2.2.2.2⟩ : _ ∧ _ ∧ _ ∧ _ ∧ _)
                generalize l2[j] = o at hx hko hce htx
                obtain ⟨x, k, s, q, Ao, mo, co, lo⟩ := o
                have hdo := fun W (hb : Below wr.heap.size wr W) => does_any (hS.out.below hb) (htx.below hb) hx.1 hx.2 hko hT.out.1.1 (show 10 * i + 10 * j ≤ 90000 by omega)
                dsimp only at hx hce hdo
                have hak := fun W => ask_any x k s q (.slice Ao mo co) ⟨Ao, mo, co, rfl⟩ hx.1 W
                obtain ⟨d0, d1, d2, d3, d4⟩ := hce wr hF.out.below
                have hi1 : (0 : Int) ≤ (j : Int) := by omega
                have hi2 : (j : Int) < (m2 : Int) := by omega
                obtain ⟨K, hK⟩ : ∃ K, askI x = K := ⟨_, rfl⟩
                rw [hK] at hak hdo
                unfold ptrV at hdo
                obtain ⟨ws, hws⟩ := hH.out
                have hwl : t'.was.length = KW + 1 + ws.length := by rw [hws, List.length_append, hKW.out, List.length_cons]; omega
                replace hws := Lib.hid hws
                replace hwl := Lib.hid hwl
                replace hce := Lib.hid hce
                replace hdo := Lib.hid hdo
                replace hak := Lib.hid hak
                clear hcc hcell hx hko htx hK hH
                go_wp2_with fail
                refine (hak.out _).mono ?_
                rintro e w4 ⟨rfl, hb4⟩
                have hS4 : Hid (StAt w4 w.heap.size sb a (10 * i + 10 * j) t' n') := Lib.hid (hS.out.below hb4)
                have hF4 : Hid (FrD w.heap.size w w4) := Lib.hid (hF.out.trans (FrD.of_below hb4 hS.out.hBw))
                have hN4 := Lib.hid (ownBelow hN.out hb4)
                have hW4 := Lib.hid (ownBelow hW.out hb4)
                have hdo4 := hdo.out w4 hb4
                have hmk4 := th_marks hS4.out.th
                rw [hwl.out] at hmk4
                unfold ptrV at hmk4
                obtain ⟨f0, f1, f2, f3, f4⟩ := hce.out w4 hF4.out.below
                replace hmk4 := Lib.hid hmk4
                replace hdo4 := Lib.hid hdo4
                clear hdo hak hb4 hce hS hF hN hW d0 d1 d2 d3 d4
                by_cases hK18 : (18 : Int) ≤ K
                · by_cases hem : ws.length = 0
                  · have hmq : ((KW + 1 + ws.length : Nat) : Int) = (KW : Int) + 1 := by omega
                    rw [hmq] at hmk4
                    have hSE : Hid (StAt w4 w.heap.size sb a (10 * i + 10 * (j + 1)) t' n') := Lib.hid (hS4.out.mono (by omega))
                    have hHE : Hid (∃ ws, t'.was = t.was ++ (NN, t.cur) :: ws) := Lib.hid ⟨ws, hws.out⟩
                    clear hdo4 hS4 hws hwl hmq
                    go_wp2_with fail
                    refine hmk4.out.mono ?_
                    rintro e w' ⟨rfl, hwq⟩
                    obtain rfl := hwq.symm
                    clear hmk4 hwq f0 f1 f2 f3 f4
                    go_wp2
                    go_roundw
                    case rel => exact ⟨j + 1, t', n', by omega, by go_num, hSE, hF4, hT, hHE, hN4, hW4⟩
                    case measure => simp [intOf]; omega
                  · have hmq : ¬ (((KW + 1 + ws.length : Nat) : Int) = (KW : Int) + 1) := by omega
                    have hwne : ws ≠ [] := fun e => hem (by rw [e]; rfl)
                    replace hwne := Lib.hid hwne
                    obtain ⟨KX, hKX⟩ : ∃ x, ((KW + 1 + ws.length : Nat) : Int) = x := ⟨_, rfl⟩
                    rw [hKX] at hmk4 hmq
                    have hmq2 : (KX == (KW : Int) + 1) = false := beq_eq_false_iff_ne.2 hmq
                    clear hwl hKX hem
                    go_wp2_with fail
                    refine hmk4.out.mono ?_
                    rintro e w' ⟨rfl, hwq⟩
                    obtain rfl := hwq.symm
                    clear hmk4 hwq
                    go_wp2_with fail
                    refine hdo4.out.mono ?_
                    rintro e w5 ⟨r, t2, n2, rfl, hR, q1, q2, _⟩
                    have hSE : Hid (StAt w5 w.heap.size sb a (10 * i + 10 * (j + 1)) t2 n2) := Lib.hid (q1.mono (by omega))
                    have hFE : Hid (FrD w.heap.size w w5) := Lib.hid (hF4.out.trans q2)
                    have hTE : Hid (TrapN t2 ∧ t2.nest = 20) := Lib.hid ⟨hR.trap hT.out.1, hR.nest.trans hT.out.2⟩
                    have hHE : Hid (∃ ws, t2.was = t.was ++ (NN, t.cur) :: ws) := Lib.hid (hR.hold hws.out (fun _ => hwne.out))
                    have hNE := Lib.hid (own_keepD hN4.out q2.keep)
                    have hWE := Lib.hid (own_keepD hW4.out q2.keep)
                    clear hdo4 hR q1 q2 hS4 hF4 hN4 hW4 hws f0 f1 f2 f3 f4
                    go_wp2
                    go_roundw
                    case rel => exact ⟨j + 1, t2, n2, by omega, by go_num, hSE, hFE, hTE, hHE, hNE, hWE⟩
                    case measure => simp [intOf]; omega
                · clear hmk4 hwl
                  go_wp2_with fail
                  refine hdo4.out.mono ?_
                  rintro e w5 ⟨r, t2, n2, rfl, hR, q1, q2, _⟩
                  have hSE : Hid (StAt w5 w.heap.size sb a (10 * i + 10 * (j + 1)) t2 n2) := Lib.hid (q1.mono (by omega))
                  have hFE : Hid (FrD w.heap.size w w5) := Lib.hid (hF4.out.trans q2)
                  have hTE : Hid (TrapN t2 ∧ t2.nest = 20) := Lib.hid ⟨hR.trap hT.out.1, hR.nest.trans hT.out.2⟩
                  have hHE : Hid (∃ ws, t2.was = t.was ++ (NN, t.cur) :: ws) := Lib.hid (hR.hold hws.out (fun e => absurd e (by omega)))
                  have hNE := Lib.hid (own_keepD hN4.out q2.keep)
                  have hWE := Lib.hid (own_keepD hW4.out q2.keep)
                  clear hdo4 hR q1 q2 hS4 hF4 hN4 hW4 hws f0 f1 f2 f3 f4
                  go_wp2
                  go_roundw
                  case rel => exact ⟨j + 1, t2, n2, by omega, by go_num, hSE, hFE, hTE, hHE, hNE, hWE⟩
                  case measure => simp [intOf]; omega
              · obtain rfl : j = m2 := by omega
                have hi4 : ¬ (j : Int) < (j : Int) := by omega
                have hst := Status_any hS.out
                unfold ptrV at hst
                go_wp2_with fail
                refine hst.mono ?_
                rintro e w' ⟨rfl, hwq⟩
                obtain rfl := hwq.symm
                clear hst hwq
                have hS3 : Hid (StAt wr w.heap.size sb a (10 * i + 10 * j) t' n') := hS
                have hH3 : Hid ((∃ ws, t'.was = t.was ++ (NN, t.cur) :: ws) ∨ (t'.was = t.was ∧ t'.cur = t.cur)) := Lib.hid (.inl hH.out)
                clear hS hH
                go_wp2
                go_loopw [111] (fun _ wx => ∃ t2 : Tg, Hid (StAt wx w.heap.size sb a (10 * i + 10 * j) t2 n') ∧ Hid (FrD w.heap.size w wx) ∧ Hid (TrapN t2) ∧ Hid ((∃ ws, t2.was = t.was ++ (NN, t.cur) :: ws) ∨ (t2.was = t.was ∧ t2.cur = t.cur)) ∧ Hid (wx.ownsRow yk 9 1 (.slice An (i + j) cn) (i + j) (ks.map .string)) ∧ Hid (wx.ownsRow yt 9 1 (.slice At TL.length ct) TL.length (TL.map .string))) (fun _ wx => lenM a.l wx)
                case atStart => exact ⟨t', hS3, hF, Lib.hid hT.out.1, hH3, hN, hW⟩
                case round =>
                  clear hS3 hF hT hH3 hN hW
                  obtain ⟨t2, hS, hF, hT, hH, hN, hW⟩ := hrel
                  have hmk := th_marks hS.out.th
                  have hlM := hS.out.lenM
                  have hun := th_undo hS.out.th
                  replace hlM := Lib.hid hlM
                  rcases hH.out with ⟨ws, hws⟩ | ⟨hwas, hcur⟩
                  · have hwl : t2.was.length = KW + 1 + ws.length := by rw [hws, List.length_append, hKW.out, List.length_cons]; omega
                    rw [hwl] at hmk
                    have hgt : (KW : Int) < ((KW + 1 + ws.length : Nat) : Int) := by omega
                    have hgo : t2.undo.1 = 0 ∧ t2.undo.2.was.length < t2.was.length ∧ ((∃ ws, t2.undo.2.was = t.was ++ (NN, t.cur) :: ws) ∨ (t2.undo.2.was = t.was ∧ t2.undo.2.cur = t.cur)) := by
                      by_cases hne : ws = []
                      · subst hne
                        have e := undo_last hws
                        rw [e]
                        exact ⟨rfl, by show t.was.length < _; rw [hwl]; have := hKW.out; simp only [List.length_nil]; omega, .inr ⟨rfl, rfl⟩⟩
                      · obtain ⟨u1, u2, u3, _⟩ := undo_hold hws hne
                        exact ⟨u1, u3, .inl ⟨_, u2⟩⟩
                    have hTE : Hid (TrapN t2.undo.2) := Lib.hid (undo_trap hT.out)
                    obtain ⟨u1, u3, u4⟩ := hgo
                    generalize t2.undo = R at hun u1 u3 u4 hTE
                    obtain ⟨r1, r2⟩ := R
                    dsimp only at hun u1 u3 u4 hTE
                    subst u1
                    have hHE := Lib.hid u4
                    generalize ((KW + 1 + ws.length : Nat) : Int) = KX at hmk hgt
                    unfold ptrV at hmk hun
                    replace hmk := Lib.hid hmk
                    replace hun := Lib.hid hun
                    replace u3 := Lib.hid u3
                    clear u4 hws hwl hH hT
                    go_wp2_with fail
                    refine hmk.out.mono ?_
                    rintro e w' ⟨rfl, hwq⟩
                    obtain rfl := hwq.symm
                    clear hmk hwq
                    go_wp2_with fail
                    refine hun.out.mono ?_
                    rintro e w5 ⟨rfl, q1, q2⟩
                    have hFq := hS.out.frD q2
                    have hSE := hS.out.next q1 q2
                    have hlE : Hid (lenM a.l w5 < lenM a.l wr) := Lib.hid (by rw [hSE.lenM, hlM.out]; exact u3.out)
                    have hFE : Hid (FrD w.heap.size w w5) := Lib.hid (hF.out.trans hFq)
                    have hNE := Lib.hid (own_keepD hN.out hFq.keep)
                    have hWE := Lib.hid (own_keepD hW.out hFq.keep)
                    replace hSE := Lib.hid hSE
                    clear hun q1 q2 hFq hS hF hN hW hlM u3
                    go_wp2
                    go_roundw
                    case rel => exact ⟨r2, hSE, hFE, hTE, hHE, hNE, hWE⟩
                    case measure => exact hlE.out
                  · rw [hwas, hKW.out] at hmk
                    have hgt : ¬ (KW : Int) < (KW : Int) := by omega
                    unfold ptrV at hmk
                    go_wp2_with fail
                    refine hmk.mono ?_
                    rintro e w' ⟨rfl, hwq⟩
                    obtain rfl := hwq.symm
                    clear hmk hwq hun hlM
                    have hcu := Cursor_any hS.out
                    rw [hcur, hga.out, hgi.out] at hcu
                    have hkv2 := hkv.out
                    have hka2 := hka.out
                    rw [← hcur] at hkv2 hka2
                    have htdx := fun W (hb : Below wr.heap.size wr W) => told_any (hS.out.below hb) (show 10 * i + 10 * j ≤ 100000 by omega) hT.out.1.2 ((own_txs hlk.out hN.out).below hb) (by omega)
                    have hTL2 : ∀ vs' al', KeysOf t2.cur.v vs' → KeysOf t2.cur.a al' → toldL t2 vs' al' ks = TL := fun vs' al' e1 e2 => by
                      rw [KeysOf.unique e1 hkv2, KeysOf.unique e2 hka2, toldL_cur hcur, hTL.out]
                    have hst := fun W (hb : Below wr.heap.size wr W) => Status_any (hS.out.below hb)
                    have htl : TL.length = TL.length := rfl
                    unfold ptrV at hcu htdx hst
                    replace htdx := Lib.hid htdx
                    replace hTL2 := Lib.hid hTL2
                    replace hst := Lib.hid hst
                    replace hF2 := hF
                    clear hkv2 hka2 hH hT hwas hcur hkv hka hga hgi
                    go_wp2_with fail
                    refine hcu.mono ?_
                    rintro e w5 ⟨rfl, hb5⟩
                    obtain ⟨vs', al', e1, e2, htd⟩ := htdx.out w5 hb5
                    rw [hTL2.out vs' al' e1 e2] at htd
                    have hW5 := Lib.hid (ownBelow hW.out hb5)
                    clear hcu hTL2 e1 e2 htdx
                    go_wp2_with fail
                    refine htd.mono ?_
                    rintro e w6 ⟨v6, rfl, hown6, hb6⟩
                    have hb56 := hb5.trans (hb6.mono hb5.size)
                    obtain ⟨A6, c6, rfl, hx6⟩ := txs_of_own rfl hown6
                    have hx5 := own_txs rfl (ownBelow hW5.out hb6)
                    have htt := texts_any w6 hx6 hx5
                    replace hb56 := Lib.hid hb56
                    replace htt := Lib.hid htt
                    clear htd hown6 hb6 hb5 hx6 hx5 hW5 hN hW
                    go_wp2_with fail
                    refine htt.out.mono ?_
                    rintro e w7 ⟨rfl, hb7⟩
                    have hb57 := hb56.out.trans (hb7.mono hb56.out.size)
                    have hst7 := hst.out w7 hb57
                    replace hb57 := Lib.hid hb57
                    clear htt hb7 hb56 hst
                    go_wp2_with fail
                    refine hst7.mono ?_
                    rintro e w' ⟨rfl, hwq⟩
                    obtain rfl := hwq.symm
                    clear hst7 hwq
                    have hbF : Hid (Below w.heap.size w w7) := Lib.hid (hF.out.below.trans (hb57.out.mono hF.out.below.size))
                    clear hb57 hF hF2 hS
                    go_wp2_with fail
                    refine (haw.out _).mono ?_
                    rintro e w9 ⟨rfl, hb9⟩
                    have hbE : Hid (Below w.heap.size w w9) := Lib.hid (hbF.out.trans (hb9.mono hbF.out.size))
                    clear hb9 haw
                    go_wp2
                    go_ret
                    exact ⟨rfl, hbE.out⟩
    · obtain rfl := hwq.symm
      clear hwq
      have hbR : Hid (Below w.heap.size w w) := Lib.hid (Below.refl _ _)
      go_wp2_with fail
      refine (haw.out _).mono ?_
      rintro e w9 ⟨rfl, hb9⟩
      have hbE : Hid (Below w.heap.size w w9) := Lib.hid (hbR.out.trans (hb9.mono hbR.out.size))
      clear hb9 haw
      go_wp2
      go_ret
      exact ⟨rfl, hbE.out⟩
  · obtain rfl := hwq.symm
    clear hwq
    have hbR : Hid (Below w.heap.size w w) := Lib.hid (Below.refl _ _)
    go_wp2_with fail
    refine (haw.out _).mono ?_
    rintro e w9 ⟨rfl, hb9⟩
    have hbE : Hid (Below w.heap.size w w9) := Lib.hid (hbR.out.trans (hb9.mono hbR.out.size))
    clear hb9 haw
    go_wp2
    go_ret
    exact ⟨rfl, hbE.out⟩
end Go.Proofs.YtigmdfdcflkggaaGreat
