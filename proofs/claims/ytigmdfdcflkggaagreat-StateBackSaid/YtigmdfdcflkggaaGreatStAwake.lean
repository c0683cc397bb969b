/-
  The chapter's example comes out. Conditions: none.
-/
import Derived.Test.YtigmdfdcflkggaaGreatStAwakeP
namespace Go.Proofs.YtigmdfdcflkggaaGreat
open Go Go.RowKit Go.ChangeMaps

theorem one_key {α : Type} {f : ByteArray → Option α} {k : ByteArray} {v : α} {ns : List ByteArray} (h : KeysOf f ns) (hf : f = updF (fun _ => none) k (some v)) : ns = [k] := by
  obtain ⟨es, h1, h2, rfl⟩ := h
  subst hf
  have hall : ∀ p ∈ es, p.1 = k := fun p hp => by
    have e := h2 p.1
    rw [look_of_mem h1 (show (p.1, p.2) ∈ es from hp)] at e
    unfold updF at e
    by_cases hk : p.1 = k
    · exact hk
    · rw [if_neg hk] at e; cases e
  have hk := h2 k
  unfold updF at hk
  rw [if_pos rfl] at hk
  have hm := (names_mem es k).2 ⟨(k, v), look_mem hk, rfl⟩
  have hl : es.length ≤ 1 := by
    match es, h1, hall with
    | [], _, _ => exact Nat.zero_le _
    | [_], _, _ => exact Nat.le_refl _
    | p :: q :: r, h1, hall =>
      exfalso
      have := (List.pairwise_cons.1 h1).1 q (by simp)
      exact this ((hall p (by simp)).trans (hall q (by simp)).symm)
  have hn := names_len es
  match hns : names es, hn, hm with
  | [], _, hm => cases hm
  | [x], _, hm => rw [List.mem_singleton.1 hm]
  | x :: y :: r, hn, _ => simp at hn; omega
theorem env_one (ns : List ByteArray) (h : ns = [xN]) : envL aS2 ns = [⟨#[120, 61, 49]⟩] := by
  subst h
  unfold envL envT
  simp only [List.filter_cons, List.filter_nil, vS2]
  rfl
set_option maxRecDepth 100000 in
set_option maxHeartbeats 4000000 in
theorem awake_any (w : World) : Calls Tryz.prog 8 #[] w fun e w' => e = .returned (.bool true) ∧ Below w.heap.size w w' := by
  have hbg := begun_any 10 w (by decide)
  obtain ⟨B, hB⟩ : ∃ B, w.heap.size = B := ⟨_, rfl⟩
  rw [hB] at hbg ⊢
  unfold ptrV at hbg
  replace hB := Lib.hid hB
  go_enter Tryz.func8, Tryz.ntmps8
  go_wp2_with fail
  refine hbg.mono ?_
  rintro e w1 ⟨a, sb, rfl, hS1, hb1⟩
  have hw1 : Below B w w1 := hb1
  have c1 := SetOption_any hS1 97 true
  rw [a1, show (((97 : UInt8).toNat : Nat) : Int) = 97 from rfl] at c1
  unfold ptrV at c1
  dsimp only at c1
  replace hS1 := Lib.hid hS1
  replace hw1 := Lib.hid hw1
  clear hbg hb1
  go_wp2_with fail
  refine c1.mono ?_
  rintro e w2 ⟨rfl, hS2, hF2⟩
  have hw2 : Below B w w2 := hw1.out.trans (hF2.below (by rw [← hB.out]; exact hw1.out.size))
  have c2 := Set_any hS2 xN ⟨#[49]⟩ (by decide) (by decide)
  rw [a2] at c2
  unfold ptrV xN at c2
  dsimp only at c2
  replace hS2 := Lib.hid hS2
  replace hw2 := Lib.hid hw2
  clear c1 hF2
  go_wp2_with fail
  refine c2.mono ?_
  rintro e w3 ⟨rfl, hS3, hF3⟩
  have hw3 : Below B w w3 := hw2.out.trans (hF3.below (by rw [← hB.out]; exact hw2.out.size))
  obtain ⟨ns, hns, c3⟩ := Environ_any hS3 (by decide)
  rw [env_one ns (one_key hns rfl)] at c3
  unfold ptrV at c3
  replace hS3 := Lib.hid hS3
  replace hw3 := Lib.hid hw3
  clear c2 hF3
  go_wp2_with fail
  refine c3.mono ?_
  rintro e w4 ⟨ev, rfl, hr4, hb4⟩
  have hS4 := hS3.out.below hb4
  have hw4 : Below B w w4 := hw3.out.trans (hb4.mono (by rw [← hB.out]; exact hw3.out.size))
  have c4 := Mark_any hS4 xN (by decide) false true
  rw [a3] at c4
  unfold ptrV xN at c4
  dsimp only at c4
  replace hS4 := Lib.hid hS4
  replace hw4 := Lib.hid hw4
  replace hr4 := Lib.hid hr4
  clear c3 hb4 hns
  go_wp2_with fail
  refine c4.mono ?_
  rintro e w5 ⟨rfl, hS5, hF5⟩
  have hr5 := ownKeepB hr4.out (hS4.out.th.keepB hF5) (nPk (by decide))
  have hw5 : Below B w w5 := hw4.out.trans (hF5.below (by rw [← hB.out]; exact hw4.out.size))
  have c5 := Set_any hS5 xN ⟨#[50]⟩ (by decide) (by decide)
  rw [a3b] at c5
  unfold ptrV xN at c5
  dsimp only at c5
  replace hS5 := Lib.hid hS5
  replace hw5 := Lib.hid hw5
  replace hr5 := Lib.hid hr5
  clear c4 hF5
  go_wp2_with fail
  refine c5.mono ?_
  rintro e w6 ⟨rfl, hS6, hF6⟩
  have hr6 := ownKeepB hr5.out (hS5.out.th.keepB hF6) (nPk (by decide))
  have hw6 : Below B w w6 := hw5.out.trans (hF6.below (by rw [← hB.out]; exact hw5.out.size))
  have hb7 : Below w6.heap.size w6 (w6.alloc (.cells #[.string ⟨#[97]⟩, .string ⟨#[98]⟩, .string ⟨#[99]⟩] 9)) := Below.of_alloc w6 _
  have hS7 := hS6.below hb7
  have hr7 := ownBelow hr6 hb7
  have hw7 := hw6.trans (hb7.mono (by rw [← hB.out]; exact hw6.size))
  have bC : Blk (w6.alloc (.cells #[.string ⟨#[97]⟩, .string ⟨#[98]⟩, .string ⟨#[99]⟩] 9)) w6.heap.size [.string ⟨#[97]⟩, .string ⟨#[98]⟩, .string ⟨#[99]⟩] 9 := Blk.new w6 _ _
  have htx : Txs (w6.alloc (.cells #[.string ⟨#[97]⟩, .string ⟨#[98]⟩, .string ⟨#[99]⟩] 9)) (some ⟨w6.heap.size, 0, none⟩) 3 3 [⟨#[97]⟩, ⟨#[98]⟩, ⟨#[99]⟩] := ⟨rfl, Nat.le_refl _, by decide, fun _ => ⟨w6.heap.size, 0, rfl, bC.lt, fun j x hx => by
    rw [Nat.zero_add]
    refine bC.cell ?_
    match j, hx with
    | 0, hx => cases hx; rfl
    | 1, hx => cases hx; rfl
    | 2, hx => cases hx; rfl
    | j + 3, hx => cases hx⟩⟩
  have c6 := SetArgs_ok hS7 htx (by decide) (by decide) (by decide)
  simp only [a4] at c6
  unfold ptrV at c6
  replace hS7 := Lib.hid hS7
  replace hw7 := Lib.hid hw7
  replace hr7 := Lib.hid hr7
  clear c5 hF6 hS6 hw6 hr6 hb7 bC htx
  go_wp2_with fail
  refine c6.mono ?_
  rintro e w8 ⟨A1, k1, rfl, hS8, hF8, _⟩
  have hr8 := ownKeepB hr7.out (hS7.out.th.keepB hF8) (nPk (by decide))
  have hw8 : Below B w w8 := hw7.out.trans (hF8.below (by rw [← hB.out]; exact hw7.out.size))
  have c7 : Calls Tryz.prog 33 #[ptrV sb, .int .i64 2] w8 fun e w' => ∃ A' c', e = .returned (.int .i64 0) ∧ StAt w' B sb a (0 + 2 + 2 + 2 + 2 + 2 + 2) (aS4 ⟨A', 1, c', 1, 0, [⟨#[99]⟩]⟩) 0 ∧ FrT B a w8 w' := by
    have := Shift_ok hS8 2 (by decide) (show ¬ ((3 : Nat) : Int) < 2 by decide)
    simp only [a5] at this
    exact this
  unfold ptrV at c7
  replace hS8 := Lib.hid hS8
  replace hw8 := Lib.hid hw8
  replace hr8 := Lib.hid hr8
  clear c6 hF8 hS7 hw7 hr7
  go_wp2_with fail
  refine c7.mono ?_
  rintro e w9 ⟨A2, k2, rfl, hS9, hF9⟩
  have hr9 := ownKeepB hr8.out (hS8.out.th.keepB hF9) (nPk (by decide))
  have hw9 : Below B w w9 := hw8.out.trans (hF9.below (by rw [← hB.out]; exact hw8.out.size))
  have c8 := Shift_no hS9 2 (.inr (show ((1 : Nat) : Int) < 2 by decide))
  unfold ptrV at c8
  replace hS9 := Lib.hid hS9
  replace hw9 := Lib.hid hw9
  replace hr9 := Lib.hid hr9
  clear c7 hF9 hS8 hw8 hr8
  go_wp2_with fail
  refine c8.mono ?_
  rintro e w10 ⟨rfl, hb10⟩
  have hS10 := hS9.out.below hb10
  have hr10 := ownBelow hr9.out hb10
  have hw10 : Below B w w10 := hw9.out.trans (hb10.mono (by rw [← hB.out]; exact hw9.out.size))
  have c9 := Args_any hS10 (show (1 : Nat) ≤ 1000000 by decide)
  unfold ptrV at c9
  replace hS10 := Lib.hid hS10
  replace hw10 := Lib.hid hw10
  replace hr10 := Lib.hid hr10
  clear c8 hb10 hS9 hw9 hr9
  go_wp2_with fail
  refine c9.mono ?_
  rintro e w11 ⟨av, rfl, hq11, hb11⟩
  have hS11 := hS10.out.below hb11
  have hr11 := ownBelow hr10.out hb11
  have hw11 : Below B w w11 := hw10.out.trans (hb11.mono (by rw [← hB.out]; exact hw10.out.size))
  replace hq11 : w11.ownsRow w10.heap.size 9 1 av 1 [.string ⟨#[99]⟩] := hq11
  have c10 := SetTrap_any hS11 intN ⟨#[]⟩ (by decide) (by decide)
  rw [a6] at c10
  unfold ptrV intN at c10
  dsimp only at c10
  replace hS11 := Lib.hid hS11
  replace hw11 := Lib.hid hw11
  replace hr11 := Lib.hid hr11
  replace hq11 := Lib.hid hq11
  clear c9 hb11 hS10 hw10 hr10
  go_wp2_with fail
  refine c10.mono ?_
  rintro e w12 ⟨rfl, hS12, hF12⟩
  have hr12 := ownKeepB hr11.out (hS11.out.th.keepB hF12) (nPk (by decide))
  have hq12 := ownKeepB hq11.out (hS11.out.th.keepB hF12) (nPk (by decide))
  have hw12 : Below B w w12 := hw11.out.trans (hF12.below (by rw [← hB.out]; exact hw11.out.size))
  have c11 := SetTrap_any hS12 exitN ⟨#[121]⟩ (by decide) (by decide)
  rw [a7] at c11
  unfold ptrV exitN at c11
  dsimp only at c11
  replace hS12 := Lib.hid hS12
  replace hw12 := Lib.hid hw12
  replace hr12 := Lib.hid hr12
  replace hq12 := Lib.hid hq12
  clear c10 hF12 hS11 hw11 hr11 hq11
  go_wp2_with fail
  refine c11.mono ?_
  rintro e w13 ⟨rfl, hS13, hF13⟩
  have hr13 := ownKeepB hr12.out (hS12.out.th.keepB hF13) (nPk (by decide))
  have hq13 := ownKeepB hq12.out (hS12.out.th.keepB hF13) (nPk (by decide))
  have hw13 : Below B w w13 := hw12.out.trans (hF13.below (by rw [← hB.out]; exact hw12.out.size))
  obtain ⟨n2, hn2, c12⟩ := Enter_any hS13 (by decide)
  have hent := enterL_t n2 (aS7 ⟨A2, 1, k2, 1, 0, [⟨#[99]⟩]⟩) rfl
  obtain ⟨hx1, hx2⟩ := tS7 ⟨A2, 1, k2, 1, 0, [⟨#[99]⟩]⟩
  have ht1 := (hent.2 exitN).1 (hn2.iff hx1) (by rw [hx1]; decide)
  have ht2 := (hent.2 intN).2 (by rw [hx2]; decide)
  rw [hx2] at ht2
  generalize enterL n2 (aS7 ⟨A2, 1, k2, 1, 0, [⟨#[99]⟩]⟩) = RE at c12 ht1 ht2
  obtain ⟨eE, tE⟩ : Int × Tg := RE
  unfold ptrV at c12
  dsimp only at c12 ht1 ht2
  replace hS13 := Lib.hid hS13
  replace hw13 := Lib.hid hw13
  replace hr13 := Lib.hid hr13
  replace hq13 := Lib.hid hq13
  replace ht1 := Lib.hid ht1
  replace ht2 := Lib.hid ht2
  clear c11 hF13 hS12 hw12 hr12 hq12 hn2 hent hx1 hx2
  go_wp2_with fail
  refine c12.mono ?_
  rintro e w14 ⟨rfl, hS14, hF14⟩
  have hr14 := ownKeepB hr13.out (hS13.out.th.keepB hF14) (nPk (by decide))
  have hq14 := ownKeepB hq13.out (hS13.out.th.keepB hF14) (nPk (by decide))
  have hw14 : Below B w w14 := hw13.out.trans (hF14.below (by rw [← hB.out]; exact hw13.out.size))
  have c13 := Trap_any hS14 intN
  rw [ht2.out] at c13
  unfold ptrV intN at c13
  replace hS14 := Lib.hid hS14
  replace hw14 := Lib.hid hw14
  replace hr14 := Lib.hid hr14
  replace hq14 := Lib.hid hq14
  clear c12 hF14 hS13 hw13 hr13 hq13 ht2
  go_wp2_with fail
  refine c13.mono ?_
  rintro e w15 ⟨rfl, hb15⟩
  have hr15 := ownBelow hr14.out hb15
  have hq15 := ownBelow hq14.out hb15
  have hw15 : Below B w w15 := hw14.out.trans (hb15.mono (by rw [← hB.out]; exact hw14.out.size))
  have c14 := Trap_any (hS14.out.below hb15) exitN
  rw [ht1.out] at c14
  unfold ptrV exitN at c14
  replace hw15 := Lib.hid hw15
  replace hr15 := Lib.hid hr15
  replace hq15 := Lib.hid hq15
  clear c13 hb15 hS14 hw14 hr14 hq14 ht1
  go_wp2_with fail
  refine c14.mono ?_
  rintro e w16 ⟨rfl, hb16⟩
  have hr16 := ownBelow hr15.out hb16
  have hq16 := ownBelow hq15.out hb16
  have hw16 : Below B w w16 := hw15.out.trans (hb16.mono (by rw [← hB.out]; exact hw15.out.size))
  obtain ⟨Ae, ke, rfl, hk1, hk2⟩ := own_form hr16
  obtain ⟨Aq, kq, rfl, hk3, hk4⟩ := own_form hq16
  obtain ⟨ge, rfl, _, gel, ce⟩ := own_at hr16 (by decide)
  obtain ⟨gq, rfl, _, gql, cq⟩ := own_at hq16 (by decide)
  have ce0 := ce 0 (.string ⟨#[120, 61, 49]⟩) rfl
  have cq0 := cq 0 (.string ⟨#[99]⟩) rfl
  replace hw16 := Lib.hid hw16
  clear c14 hb16 hr16 hq16 ce cq hw15 hr15 hq15
  go_wp2
  go_ret
  exact ⟨rfl, hw16.out⟩
end Go.Proofs.YtigmdfdcflkggaaGreat
