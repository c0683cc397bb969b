/-
  The walk of StateFixed: it answers true and leaves what was there. Conditions: none.
-/
import Derived.Test.YtigmdfdcflkggaaGreatStAwake
import Derived.Test.YtigmdfdcflkggaaGreatStFix
import Derived.Test.YtigmdfdcflkggaaGreatStFew
set_option linter.unusedSimpArgs false
set_option linter.unusedVariables false
namespace Go.Proofs.YtigmdfdcflkggaaGreat
open Go Go.RowKit Go.ChangeMaps

theorem fix_start (nm vl : ByteArray) (hn : nameB nm = true) (hv : vl.size ≤ 200) : ∃ t1 t2 : Tg, (new0 1000 20).setV nm vl = (0, t1) ∧ t1.markV nm false true = (0, t2) ∧ FxV t2 nm vl ∧ TrapN t2 := by
  have hno : valV (new0 1000 20) nm = noV := rfl
  have h1 : (new0 1000 20).setV nm vl = (new0 1000 20).putv nm ⟨vl, true, (valV (new0 1000 20) nm).e || optB (new0 1000 20) 97, false⟩ := by
    unfold Tg.setV
    rw [if_pos hn, if_neg (show ¬ 4096 < vl.size by omega), if_neg (by rw [hno]; decide)]
  generalize ((valV (new0 1000 20) nm).e || optB (new0 1000 20) 97) = ex at h1
  have hf : ∀ st, ¬ (⟨1000, 20, st, [], []⟩ : Tg).full := fun st h => h.1 rfl
  have hf0 : ¬ (new0 1000 20).full := hf _
  have h2 : (new0 1000 20).setV nm vl = (0, ⟨1000, 20, { sta0 with v := updF sta0.v nm (some ⟨vl, true, ex, false⟩) }, [], []⟩) := h1.trans (by unfold Tg.putv; rw [if_neg hf0]; rfl)
  refine ⟨_, ⟨1000, 20, { sta0 with v := updF (updF sta0.v nm (some ⟨vl, true, ex, false⟩)) nm (some ⟨vl, true, (ex || false), true⟩) }, [], []⟩, h2, ?_, ⟨(ex || false), if_pos rfl⟩, fun k x hk => (by cases hk), fun p hp => (by cases hp)⟩
  have hv2 : valV ⟨1000, 20, { sta0 with v := updF sta0.v nm (some ⟨vl, true, ex, false⟩) }, [], []⟩ nm = ⟨vl, true, ex, false⟩ := by
    unfold valV
    show (updF sta0.v nm (some ⟨vl, true, ex, false⟩) nm).getD noV = _
    unfold updF
    rw [if_pos rfl]; rfl
  unfold Tg.markV Tg.put
  rw [if_pos hn, hv2, if_neg (noV_ne rfl)]
  unfold Tg.putv
  rw [if_neg (hf _)]
  rfl
theorem fix_bad (nm vl : ByteArray) (hn : ¬ nameB nm = true) : (new0 1000 20).setV nm vl = (16, new0 1000 20) ∧ (new0 1000 20).markV nm true true = (16, new0 1000 20) ∧ (new0 1000 20).unsetV nm = (16, new0 1000 20) := by
  refine ⟨?_, ?_, ?_⟩
  · unfold Tg.setV; rw [if_neg hn]
  · unfold Tg.markV Tg.put; rw [if_neg hn]
  · unfold Tg.unsetV; rw [if_neg hn]
set_option maxHeartbeats 8000000 in
set_option maxRecDepth 100000 in
theorem lawFix_any {A : Option Addr} {m c : Nat} {l : List Od} {nm vl : ByteArray} (w : World) (h : OpsC w A m c l) (hL : ∀ o ∈ l, Txs w o.A o.m o.c o.l) (h64 : ∀ o ∈ l, In64 o.x ∧ In64 o.n) :
    Calls Tryz.prog 5 #[.slice A m c, .string nm, .string vl] w fun e w' => e = .returned (.bool true) ∧ Below w.heap.size w w' := by
  have haw := fun W => awake_any W
  have hfew := Few_any w h hL
  have hbg := begun_any 1000 w (by decide)
  have hcm := h.2.2.1
  have hmc := h.2.1
  unfold maxLen at hcm
  replace haw := Lib.hid haw
  replace hfew := Lib.hid hfew
  replace hbg := Lib.hid hbg
  replace h := Lib.hid h
  replace h64 := Lib.hid h64
  replace hL := Lib.hid hL
  by_cases hsz : (nm.size : Int) ≤ 200 ∧ (vl.size : Int) ≤ 200
  · have g1 : ¬ (200 : Int) < (nm.size : Int) := by omega
    have g2 : ¬ (200 : Int) < (vl.size : Int) := by omega
    go_enter Tryz.func5, Tryz.ntmps5
    go_wp2_with fail
    refine hfew.out.mono ?_
    rintro e w' (⟨rfl, hwq, hm, hok⟩ | ⟨rfl, hwq⟩)
    · obtain rfl := hwq.symm
      replace hok := Lib.hid hok
      clear hwq hfew
      go_wp2_with fail
      refine hbg.out.mono ?_
      rintro e w1 ⟨a, sb, rfl, hS, hb1⟩
      replace hb1 := Lib.hid hb1
      clear hbg
      by_cases hn : nameB nm = true
      · obtain ⟨t1, t2, e1, e2, hFx, hTr⟩ := fix_start nm vl hn (by omega)
        have hn0 := hn
        have hc := Set_any hS nm vl (by omega) (by omega)
        rw [e1] at hc
        unfold ptrV at hc ⊢
        replace hS := Lib.hid hS
        clear e1
        go_wp2_with fail
        refine hc.mono ?_
        rintro e w2 ⟨rfl, q1, q2⟩
        have hF2 : Hid (FrD w.heap.size w w2) := Lib.hid ((FrD.of_below hb1.out (Nat.le_refl _)).trans (hS.out.frD q2))
        have hS2 := q1
        clear hc q1 q2 hS hb1
        have hnm := fun W => Name_any nm (by omega) W
        rw [hn] at hnm
        go_wp2_with fail
        refine (hnm _).mono ?_
        rintro e w' ⟨rfl, hwq⟩
        obtain rfl := hwq.symm
        clear hnm hwq
        have hc := Mark_any hS2 nm (by omega) false true
        rw [e2] at hc
        unfold ptrV at hc
        replace hS2 := Lib.hid hS2
        clear e2
        go_wp2_with fail
        refine hc.mono ?_
        rintro e w3 ⟨rfl, q1, q2⟩
        have hF3 : Hid (FrD w.heap.size w w3) := Lib.hid (hF2.out.trans (hS2.out.frD q2))
        have hS3 : Hid (StAt w3 w.heap.size sb a (4 + 10 * 0) t2 0) := Lib.hid q1
        have hT3 : Hid (TrapN t2 ∧ FxV t2 nm vl) := Lib.hid ⟨hTr, hFx⟩
        clear hc q1 q2 hS2 hF2 hTr hFx hn
        have hn := Lib.hid hn0
        clear hn0
        go_wp2
        go_loopw [11] (fun iv wr => ∃ (i : Nat) (t : Tg) (n : Int), i ≤ m ∧ iv = .int .i64 (i : Int) ∧ Hid (StAt wr w.heap.size sb a (4 + 10 * i) t n) ∧ Hid (FrD w.heap.size w wr) ∧ Hid (TrapN t ∧ FxV t nm vl)) (fun iv _ => m - (intOf iv).toNat)
        case atStart => exact ⟨0, t2, 0, Nat.zero_le _, rfl, hS3, hF3, hT3⟩
        case round =>
          clear hS3 hF3 hT3
          obtain ⟨i, t, n, hi, rfl, hS, hF, hT⟩ := hrel
          by_cases hlt : i < m
          · obtain ⟨hlen, _, _, hcell⟩ := h.out
            have hil : i < l.length := by omega
            obtain ⟨b, off, rfl, hbl, hcc⟩ := hcell (by omega)
            have hx := h64.out l[i] (List.getElem_mem hil)
            have hko := hok.out l[i] (List.getElem_mem hil)
            have htx := (hL.out l[i] (List.getElem_mem hil)).below hF.out.below
            have hce := fun W (hW : Below w.heap.size w W) => (⟨(World.cell?_of_block (a := ⟨b, off + i * 5, none⟩) (hW.block b hbl)).trans (hcc i l[i] (List.getElem?_eq_getElem hil)).1, (World.cell?_of_block (a := ⟨b, off + i * 5 + 1, none⟩) (hW.block b hbl)).trans (hcc i l[i] (List.getElem?_eq_getElem hil)).2.1,
              (World.cell?_of_block (a := ⟨b, off + i * 5 + 2, none⟩) (hW.block b hbl)).trans (hcc i l[i] (List.getElem?_eq_getElem hil)).2.2.1, (World.cell?_of_block (a := ⟨b, off + i * 5 + 3, none⟩) (hW.block b hbl)).trans (hcc i l[i] (List.getElem?_eq_getElem hil)).2.2.2.1,
              (World.cell?_of_block (a := ⟨b, off + i * 5 + 4, none⟩) (hW.block b hbl)).trans (hcc i l[i] (List.getElem?_eq_getElem hil)).2.2.2.2⟩ : _ ∧ _ ∧ _ ∧ _ ∧ _)
            generalize l[i] = o at hx hko hce htx
            obtain ⟨x, k, s, q, Ao, mo, co, lo⟩ := o
            have hdo := fun W (hb : Below wr.heap.size wr W) => does_any (hS.out.below hb) (htx.below hb) hx.1 hx.2 hko hT.out.1.1 (show 4 + 10 * i ≤ 90000 by omega)
            dsimp only at hx hce hdo
            have hak := fun W => ask_any x k s q (.slice Ao mo co) ⟨Ao, mo, co, rfl⟩ hx.1 W
            obtain ⟨d0, d1, d2, d3, d4⟩ := hce wr hF.out.below
            have hi1 : (0 : Int) ≤ (i : Int) := by omega
            have hi2 : (i : Int) < (m : Int) := by omega
            obtain ⟨K, hK⟩ : ∃ K, askI x = K := ⟨_, rfl⟩
            rw [hK] at hak hdo
            replace hce := Lib.hid hce
            replace hdo := Lib.hid hdo
            replace hak := Lib.hid hak
            clear hcc hcell hx hko htx hK
            go_wp2_with fail
            refine (hak.out _).mono ?_
            rintro e w4 ⟨rfl, hb4⟩
            have hS4 := hS.out.below hb4
            have hF4 := hF.out.trans (FrD.of_below hb4 hS.out.hBw)
            obtain ⟨f0, f1, f2, f3, f4⟩ := hce.out w4 hF4.below
            replace hS4 := Lib.hid hS4
            replace hF4 := Lib.hid hF4
            clear d0 d1 d2 d3 d4
            by_cases h18 : (18 : Int) ≤ K
            · clear hce hdo hak hb4 hS hF f0 f1 f2 f3 f4
              have hSE : Hid (StAt w4 w.heap.size sb a (4 + 10 * (i + 1)) t n) := Lib.hid (hS4.out.mono (by omega))
              clear hS4
              go_wp2
              go_roundw
              case rel => exact ⟨i + 1, t, n, by omega, by go_num, hSE, hF4, hT⟩
              case measure => simp [intOf]; omega
            · have hdo4 := hdo.out w4 hb4
              unfold ptrV at hdo4
              clear hdo hb4 hS hF
              go_wp2_with fail
              refine hdo4.mono ?_
              rintro e w5 ⟨r, t', n', rfl, hR, q1, q2, _⟩
              obtain ⟨hFx, hr⟩ := hR.fixed (by omega) hn.out hT.out.2
              have hTE : Hid (TrapN t' ∧ FxV t' nm vl) := Lib.hid ⟨hR.trap hT.out.1, hFx⟩
              have hS5 : StAt w5 w.heap.size sb a (4 + 10 * (i + 1)) t' n' := q1.mono (by omega)
              have hF5 := hF4.out.trans q2
              have hv := Var_any hS5 nm
              obtain ⟨V, hV⟩ : ∃ V, valV t' nm = V := ⟨_, rfl⟩
              obtain ⟨v1, v2, v3⟩ := hFx.val
              rw [hV] at hv v1 v2 v3
              obtain ⟨x0, x1, x2, x3⟩ := V
              dsimp only at v1 v2 v3
              subst v1 v2 v3
              unfold encV ptrV at hv
              dsimp only at hv
              replace hS5 := Lib.hid hS5
              replace hF5 := Lib.hid hF5
              replace hr := Lib.hid hr
              clear hdo4 hR q1 q2 hS4 hF4 hT hFx f0 f1 f2 f3 f4 hV
              go_wp2_with fail
              refine hv.mono ?_
              rintro e w6 ⟨rfl, hb6⟩
              have hSB : Hid (StAt (w6.alloc (.cells #[.string x0, .bool true, .bool x2, .bool true] 59)) w.heap.size sb a (4 + 10 * (i + 1)) t' n') := Lib.hid ((hS5.out.below hb6).below (Below.of_alloc w6 _))
              have hFB : Hid (FrD w.heap.size w (w6.alloc (.cells #[.string x0, .bool true, .bool x2, .bool true] 59))) := Lib.hid ((hF5.out.trans (FrD.of_below hb6 hS5.out.hBw)).trans (FrD.of_below (Below.of_alloc w6 _) (hS5.out.below hb6).hBw))
              have bB : Blk (w6.alloc (.cells #[.string x0, .bool true, .bool x2, .bool true] 59)) w6.heap.size [.string x0, .bool true, .bool x2, .bool true] 59 := Blk.new w6 _ _
              go_upto_region 17 with fail
              generalize (w6.alloc (.cells #[.string x0, .bool true, .bool x2, .bool true] 59)) = wB at hSB hFB bB ⊢
              generalize w6.heap.size = y at bB ⊢
              have y0 := bB.cell (i := 0) rfl
              have y1 := bB.cell (i := 1) rfl
              have y3 := bB.cell (i := 3) rfl
              have yl := bB.lt
              have hne : (x0.toList != x0.toList) = false := by simp
              obtain ⟨d0, d1, d2, d3, d4⟩ := hce.out wB hFB.out.below
              clear bB hb6 hv hS5 hF5
              go_wp2_with fail
              refine (hak.out _).mono ?_
              rintro e w7 ⟨rfl, hb7⟩
              have hSE : Hid (StAt w7 w.heap.size sb a (4 + 10 * (i + 1)) t' n') := Lib.hid (hSB.out.below hb7)
              have hFE : Hid (FrD w.heap.size w w7) := Lib.hid (hFB.out.trans (FrD.of_below hb7 hSB.out.hBw))
              obtain ⟨f0, f1, f2, f3, f4⟩ := hce.out w7 hFE.out.below
              clear d0 d1 d2 d3 d4 hce hak hb7 hSB hFB y0 y1 y3 yl
              by_cases h1 : K ≤ 1
              · by_cases hk : k = nm
                · subst hk
                  have heq : (k.toList == k.toList) = true := by simp
                  rcases hr.out h1 rfl with hr1 | hr1
                  · subst hr1
                    clear hr
                    go_wp2
                    go_roundw
                    case rel => exact ⟨i + 1, t', n', by omega, by go_num, hSE, hFE, hTE⟩
                    case measure => simp [intOf]; omega
                  · subst hr1
                    clear hr
                    go_wp2
                    go_roundw
                    case rel => exact ⟨i + 1, t', n', by omega, by go_num, hSE, hFE, hTE⟩
                    case measure => simp [intOf]; omega
                · have heq : (k.toList == nm.toList) = false := by
                    rw [beq_eq_false_iff_ne]
                    intro e
                    rw [ByteArray.toList_eq, ByteArray.toList_eq] at e
                    exact hk (bytesOf_inj e)
                  clear hr
                  go_wp2
                  go_roundw
                  case rel => exact ⟨i + 1, t', n', by omega, by go_num, hSE, hFE, hTE⟩
                  case measure => simp [intOf]; omega
              · clear hr
                go_wp2
                go_roundw
                case rel => exact ⟨i + 1, t', n', by omega, by go_num, hSE, hFE, hTE⟩
                case measure => simp [intOf]; omega
          · obtain rfl : i = m := by omega
            have hi2 : ¬ (i : Int) < (i : Int) := by omega
            go_wp2_with fail
            refine (haw.out _).mono ?_
            rintro e w9 ⟨rfl, hb9⟩
            have hbE : Hid (Below w.heap.size w w9) := Lib.hid (hF.out.below.trans (hb9.mono hF.out.below.size))
            clear hb9 haw hF hS hT
            go_wp2
            go_ret
            exact ⟨rfl, hbE.out⟩
      · obtain ⟨e1, e2, e3⟩ := fix_bad nm vl hn
        have hc := Set_any hS nm vl (by omega) (by omega)
        rw [e1] at hc
        unfold ptrV at hc ⊢
        replace hS := Lib.hid hS
        clear e1
        go_wp2_with fail
        refine hc.mono ?_
        rintro e w2 ⟨rfl, q1, q2⟩
        have hF2 : Hid (FrD w.heap.size w w2) := Lib.hid ((FrD.of_below hb1.out (Nat.le_refl _)).trans (hS.out.frD q2))
        have hS2 := q1
        clear hc q1 q2 hS hb1
        have hnm := fun W => Name_any nm (by omega) W
        rw [Bool.eq_false_iff.2 hn] at hnm
        go_wp2_with fail
        refine (hnm _).mono ?_
        rintro e w' ⟨rfl, hwq⟩
        obtain rfl := hwq.symm
        clear hnm hwq
        have hc := Mark_any hS2 nm (by omega) true true
        rw [e2] at hc
        unfold ptrV at hc
        replace hS2 := Lib.hid hS2
        clear e2
        go_wp2_with fail
        refine hc.mono ?_
        rintro e w3 ⟨rfl, q1, q2⟩
        have hF3 : Hid (FrD w.heap.size w w3) := Lib.hid (hF2.out.trans (hS2.out.frD q2))
        have hS3 := q1
        clear hc q1 q2 hS2 hF2
        have hc := Unset_any hS3 nm (by omega)
        rw [e3] at hc
        unfold ptrV at hc
        replace hS3 := Lib.hid hS3
        clear e3
        go_wp2_with fail
        refine hc.mono ?_
        rintro e w4 ⟨rfl, q1, q2⟩
        have hF4 : Hid (FrD w.heap.size w w4) := Lib.hid (hF3.out.trans (hS3.out.frD q2))
        clear hc q1 q2 hS3 hF3
        go_wp2_with fail
        refine (haw.out _).mono ?_
        rintro e w9 ⟨rfl, hb9⟩
        have hbE : Hid (Below w.heap.size w w9) := Lib.hid (hF4.out.below.trans (hb9.mono hF4.out.below.size))
        clear hb9 haw hF4
        go_wp2
        go_ret
        exact ⟨rfl, hbE.out⟩
    · obtain rfl := hwq.symm
      go_wp2_with fail
      refine (haw.out _).mono ?_
      rintro e w9 ⟨rfl, hb9⟩
      replace hb9 := Lib.hid hb9
      clear haw hwq
      go_wp2
      go_ret
      exact ⟨rfl, hb9.out⟩
  · by_cases g1 : (200 : Int) < (nm.size : Int)
    · go_enter Tryz.func5, Tryz.ntmps5
      go_wp2_with fail
      refine hfew.out.mono ?_
      rintro e w' (⟨rfl, hwq, _, _⟩ | ⟨rfl, hwq⟩)
      · obtain rfl := hwq.symm
        clear hwq hfew hsz
        go_wp2_with fail
        refine (haw.out _).mono ?_
        rintro e w9 ⟨rfl, hb9⟩
        replace hb9 := Lib.hid hb9
        clear haw
        go_wp2
        go_ret
        exact ⟨rfl, hb9.out⟩
      · obtain rfl := hwq.symm
        clear hwq hfew hsz
        go_wp2_with fail
        refine (haw.out _).mono ?_
        rintro e w9 ⟨rfl, hb9⟩
        replace hb9 := Lib.hid hb9
        clear haw
        go_wp2
        go_ret
        exact ⟨rfl, hb9.out⟩
    · have g2 : (200 : Int) < (vl.size : Int) := by omega
      go_enter Tryz.func5, Tryz.ntmps5
      go_wp2_with fail
      refine hfew.out.mono ?_
      rintro e w' (⟨rfl, hwq, _, _⟩ | ⟨rfl, hwq⟩)
      · obtain rfl := hwq.symm
        clear hwq hfew hsz
        go_wp2_with fail
        refine (haw.out _).mono ?_
        rintro e w9 ⟨rfl, hb9⟩
        replace hb9 := Lib.hid hb9
        clear haw
        go_wp2
        go_ret
        exact ⟨rfl, hb9.out⟩
      · obtain rfl := hwq.symm
        clear hwq hfew hsz
        go_wp2_with fail
        refine (haw.out _).mono ?_
        rintro e w9 ⟨rfl, hb9⟩
        replace hb9 := Lib.hid hb9
        clear haw
        go_wp2
        go_ret
        exact ⟨rfl, hb9.out⟩
end Go.Proofs.YtigmdfdcflkggaaGreat
