/-
  Enter of a state. Conditions: what is told stands; fewer than a hundred thousand names.
-/
import Derived.Test.YtigmdfdcflkggaaGreatStEnv
namespace Go.Proofs.YtigmdfdcflkggaaGreat
open Go Go.RowKit Go.ChangeMaps

section
variable {w w' : World} {B sb : Nat} {a : Ad} {pot : Nat} {t : Tg} {n : Int}
/-- Traps whose action has bytes go, one by one. -/
def enterL : List ByteArray → Tg → Int × Tg
  | [], t => (0, t)
  | k :: ks, t => if 0 < ((t.cur.t k).getD noW).size then (if (t.delt k).1 = 0 then enterL ks (t.delt k).2 else t.delt k) else enterL ks t
set_option maxRecDepth 100000 in
set_option maxHeartbeats 4000000 in
theorem Enter_any (h : StAt w B sb a pot t n) (hp : pot ≤ 100000) : ∃ ns, KeysOf t.cur.t ns ∧
    Calls Tryz.prog 36 #[ptrV sb] w fun e w' => e = .returned (.int .i64 (enterL ns t).1) ∧ StAt w' B sb a (pot + 2 * ns.length) (enterL ns t).2 n ∧ FrT B a w w' := by
  have hi := sisNil_no h.blk
  have c3 := h.blk.cell (i := 3) rfl
  have hlt := h.blk.lt
  have hgood := h.th.good
  have hst := fun (W : World) (hb : Below w.heap.size w W) => h.below hb
  obtain ⟨ms, fs, ev, ef, ea, et, h1, h2, h5, h6, h7, h8, h9⟩ := h.th
  have hap := enc_apart h2.mt.map.apart
  have hkb : ∀ p ∈ et, p.1.size ≤ 200 := fun p hp => (hgood.kb.t p.1 p.2 (by rw [← h2.lt]; exact look_of_mem hap (show (p.1, p.2) ∈ et from hp))).1
  have hks := Keys_W h2.mt hkb (by omega)
  rw [names_enc, ← names_len et] at hks
  refine ⟨names et, ⟨et, hap, h2.lt, rfl⟩, ?_⟩
  have hnl : (names et).length ≤ 100000 := by rw [names_len]; omega
  generalize names et = ns at hks hnl ⊢
  unfold ptrV at hi c3 hks ⊢
  replace hst := Lib.hid hst
  clear h h1 h2 h5 h6 h7 h8 h9 hap hkb hgood
  obtain ⟨RE, hRE⟩ : ∃ r, enterL ns t = r := ⟨_, rfl⟩
  rw [hRE]
  replace hRE := Lib.hid hRE
  go_enter Tryz.func36, Tryz.ntmps36
  go_wp2_with fail
  refine hi.mono ?_
  rintro e w' ⟨rfl, hw⟩
  obtain rfl := hw.symm
  clear hi hw
  go_wp2_with fail
  refine hks.mono ?_
  rintro e w2 ⟨v, rfl, hr, hb2⟩
  obtain ⟨A, c, rfl, hc, hcm⟩ := own_form hr
  have hS2 := Lib.hid ((hst.out w2 hb2).mono (Nat.le_add_right pot (2 * 0)))
  have hF2 : Hid (FrT B a w w2) := Lib.hid (FrT.of_below hb2)
  have hrow : Hid (∀ j (hj : j < ns.length), ∃ g cur, A = some ⟨g, 0, none⟩ ∧ Blk w2 g cur 9 ∧ cur[j]? = some (.string ns[j])) := Lib.hid (fun j hj => by
    rcases hr.2 with ⟨_, h0⟩ | ⟨g, cap, cur, e, hb, hg, _, _, _, h4⟩
    · omega
    · cases e
      refine ⟨g, cur.toList, rfl, by unfold Blk; simpa using hg, ?_⟩
      have e : (cur.toList.take (ns.length * 1))[j]? = some (.string ns[j]) := by rw [h4, List.getElem?_map, List.getElem?_eq_getElem hj]; rfl
      rw [List.getElem?_take] at e
      split at e
      · exact e
      · cases e)
  obtain ⟨KN, hKN⟩ : ∃ K, ns.length = K := ⟨_, rfl⟩
  rw [hKN] at hc hnl ⊢
  unfold maxLen at hcm
  replace hKN := Lib.hid hKN
  have hK2 : Hid (KeepB w2 w2) := Lib.hid (fun _ _ _ hb _ => hb)
  have hE0 : Hid (enterL (ns.drop 0) t = RE) := Lib.hid (by rw [List.drop_zero]; exact hRE.out)
  clear hks hr c3 hlt hb2
  go_wp2
  go_loopw [16] (fun iv wr => ∃ (j : Nat) (t' : Tg), j ≤ KN ∧ iv = .int .i64 (j : Int) ∧ Hid (StAt wr B sb a (pot + 2 * j) t' n) ∧ Hid (FrT B a w wr) ∧ Hid (KeepB w2 wr) ∧ Hid (enterL (ns.drop j) t' = RE)) (fun iv _ => KN - (intOf iv).toNat)
  case atStart => exact ⟨0, t, Nat.zero_le _, rfl, hS2, hF2, hK2, hE0⟩
  case round =>
    clear hS2 hF2 hK2 hE0
    obtain ⟨j, t', hj, rfl, hS, hF, hK, hE⟩ := hrel
    by_cases hlt : j < KN
    · have hjn : j < ns.length := by rw [hKN.out]; exact hlt
      obtain ⟨g, cur, rfl, hbk, hcj⟩ := hrow.out j hjn
      have hbr : Blk wr g cur 9 := hK.out _ _ _ hbk (nPk (by decide))
      have ck := hbr.cell hcj
      have hgl := hbr.lt
      have hdr : ns.drop j = ns[j] :: ns.drop (j + 1) := List.drop_eq_getElem_cons hjn
      rw [hdr] at hE
      have htr := Trap_any hS.out ns[j]
      have hj1 : (0 : Int) ≤ (j : Int) := by omega
      have hj2 : (j : Int) < (KN : Int) := by omega
      have hbelow := fun (W : World) (hb : Below wr.heap.size wr W) => (And.intro (hS.out.below hb) (And.intro (hF.out.trans (FrT.of_below hb)) (hK.out.trans (KeepB.of_below hb))))
      have hdel := fun (W : World) (hb : Below wr.heap.size wr W) => th_delt (hS.out.below hb).th ns[j]
      generalize ns[j] = k at ck htr hE hdel
      unfold ptrV at htr hdel
      unfold enterL at hE
      replace hbelow := Lib.hid hbelow
      replace hdel := Lib.hid hdel
      generalize hV : (t'.cur.t k).getD noW = V at htr hE
      replace hV := Lib.hid hV
      generalize (t'.cur.t k).isSome = E at htr
      clear hbr hbk hcj hdr hS hF hK
      by_cases h0 : 0 < V.size
      · have hie := bytesIs h0
        rw [if_pos h0] at hE
        go_wp2_with fail
        refine htr.mono ?_
        rintro e w3 ⟨rfl, hb3⟩
        obtain ⟨hS3, hF3, hK3⟩ := hbelow.out w3 hb3
        have hd := hdel.out w3 hb3
        have c3 := hS3.blk.cell (i := 3) rfl
        have cl := hS3.blk.lt
        unfold ptrV at c3
        replace hS3 := Lib.hid hS3
        replace hF3 := Lib.hid hF3
        replace hK3 := Lib.hid hK3
        clear htr hb3 ck hgl
        generalize t'.delt k = R at hd hE
        obtain ⟨de, t2⟩ : Int × Tg := R
        go_wp2_with fail
        refine hd.mono ?_
        rintro e w4 ⟨rfl, q1, q2⟩
        have hS4 := Lib.hid ((hS3.out.next q1 q2).mono (show pot + 2 * j + 2 ≤ pot + 2 * (j + 1) by omega))
        have hF4 := Lib.hid (hF3.out.trans q2)
        have hK4 := Lib.hid (hK3.out.trans (hS3.out.th.keepB q2))
        clear hd q1 q2 c3 cl hS3 hF3 hK3
        by_cases hz : de = 0
        · subst hz
          rw [if_pos rfl] at hE
          go_wp2
          go_roundw
          case rel => exact ⟨j + 1, t2, by omega, by go_num, hS4, hF4, hK4, hE⟩
          case measure => simp [intOf]; omega
        · rw [if_neg hz] at hE
          have hz1 : (de == 0) = false := by rw [beq_eq_false_iff_ne]; exact hz
          have hz2 : (de != 0) = true := by rw [bne_iff_ne]; exact hz
          have hS5 := Lib.hid (hS4.out.mono (show pot + 2 * (j + 1) ≤ pot + 2 * ns.length by have := hKN.out; omega))
          have hE' := Lib.hid hE
          clear hE hS4
          go_wp2
          go_ret
          exact ⟨by rw [← hE'.out]; rfl, by rw [← hE'.out]; exact hS5.out, hF4.out⟩
      · obtain rfl := noBytes h0
        rw [if_neg h0] at hE
        clear hdel h0
        go_wp2_with fail
        refine htr.mono ?_
        rintro e w3 ⟨rfl, hb3⟩
        obtain ⟨hS3, hF3, hK3⟩ := hbelow.out w3 hb3
        have hS4 := Lib.hid (hS3.mono (show pot + 2 * j ≤ pot + 2 * (j + 1) by omega))
        replace hF3 := Lib.hid hF3
        replace hK3 := Lib.hid hK3
        clear htr hb3 hS3 ck hgl
        go_wp2
        go_roundw
        case rel => exact ⟨j + 1, t', by omega, by go_num, hS4, hF3, hK3, hE⟩
        case measure => simp [intOf]; omega
    · obtain rfl : j = KN := by omega
      have hj2 : ¬ (j : Int) < (j : Int) := by omega
      have hfin : Hid (RE = (0, t')) := Lib.hid (by
        rw [← hE.out, ← hKN.out, List.drop_length]; rfl)
      clear hK hrow
      go_wp2
      go_ret
      exact ⟨by rw [hfin.out]; rfl, by rw [hfin.out, hKN.out]; exact hS.out, hF.out⟩
end
end Go.Proofs.YtigmdfdcflkggaaGreat
