/-
  The chapter's example comes out. Conditions: none.
-/
import Derived.Deep.CutRange
import Derived.Test.YtigmdfdcflkggaaGreatRows
import Derived.ProofKit
import Derived.OpenShut
import Derived.Deep.SlicePairs
import Derived.Deep.Strs
import Derived.Deep.DeepHandedRow
import Derived.Test.YtigmdfdcflkggaaGreatZp8
namespace Go.Proofs.YtigmdfdcflkggaaGreat
open Go Go.RowKit Go.ChangeMaps

theorem one_key {α : Type} {f : ByteArray → Option α} {k : ByteArray} {v : α} {ns : List ByteArray} (h : KeysOf f ns) (hf : f = updF (fun _ => none) k (some v)) : ns = [k] := by
  obtain ⟨es, h1, h2, rfl⟩ := h
  subst hf
  have hall : ∀ p ∈ es, p.1 = k := fun p hp => by
    have e := h2 p.1
    rw [look_of_mem h1 (show (p.1, p.2) ∈ es from hp)] at e
    unfold updF at e
    by_cases hk : p.1 = k
    · exact hk
    · rw [if_neg hk] at e; cases e
  have hk := h2 k
  unfold updF at hk
  rw [if_pos rfl] at hk
  have hm := (names_mem es k).2 ⟨(k, v), look_mem hk, rfl⟩
  have hl : es.length ≤ 1 := by
    match es, h1, hall with
    | [], _, _ => exact Nat.zero_le _
    | [_], _, _ => exact Nat.le_refl _
    | p :: q :: r, h1, hall =>
      exfalso
      have := (List.pairwise_cons.1 h1).1 q (by simp)
      exact this ((hall p (by simp)).trans (hall q (by simp)).symm)
  have hn := names_len es
  match hns : names es, hn, hm with
  | [], _, hm => cases hm
  | [x], _, hm => rw [List.mem_singleton.1 hm]
  | x :: y :: r, hn, _ => simp at hn; omega
theorem env_one (ns : List ByteArray) (h : ns = [xN]) : envL aS2 ns = [⟨#[120, 61, 49]⟩] := by
  subst h
  unfold envL envT
  simp only [List.filter_cons, List.filter_nil, vS2]
  rfl
set_option maxRecDepth 100000 in
set_option maxHeartbeats 4000000 in
theorem awake_any (w : World) : Calls Tryz.prog 8 #[] w fun e w' => e = .returned (.bool true) ∧ Below w.heap.size w w' := by
  have hbg := begun_any 10 w (by decide)
  obtain ⟨B, hB⟩ : ∃ B, w.heap.size = B := ⟨_, rfl⟩
  rw [hB] at hbg ⊢
  unfold ptrV at hbg
  replace hB := Lib.hid hB
  go_enter Tryz.func8, Tryz.ntmps8
  go_wp2_with fail
  refine hbg.mono ?_
  rintro e w1 ⟨a, sb, rfl, hS1, hb1⟩
  have hw1 : Below B w w1 := hb1
  have c1 := SetOption_any hS1 97 true
  rw [a1, show (((97 : UInt8).toNat : Nat) : Int) = 97 from rfl] at c1
  unfold ptrV at c1
  dsimp only at c1
  replace hS1 := Lib.hid hS1
  replace hw1 := Lib.hid hw1
  clear hbg hb1
  go_wp2_with fail
  refine c1.mono ?_
  rintro e w2 ⟨rfl, hS2, hF2⟩
  have hw2 : Below B w w2 := hw1.out.trans (hF2.below (by rw [← hB.out]; exact hw1.out.size))
  have c2 := Set_any hS2 xN ⟨#[49]⟩ (by decide) (by decide)
  rw [a2] at c2
  unfold ptrV xN at c2
  dsimp only at c2
  replace hS2 := Lib.hid hS2
  replace hw2 := Lib.hid hw2
  clear c1 hF2
  go_wp2_with fail
  refine c2.mono ?_
  rintro e w3 ⟨rfl, hS3, hF3⟩
  have hw3 : Below B w w3 := hw2.out.trans (hF3.below (by rw [← hB.out]; exact hw2.out.size))
  obtain ⟨ns, hns, c3⟩ := Environ_any hS3 (by decide)
  rw [env_one ns (one_key hns rfl)] at c3
  unfold ptrV at c3
  replace hS3 := Lib.hid hS3
  replace hw3 := Lib.hid hw3
  clear c2 hF3
  go_wp2_with fail
  refine c3.mono ?_
  rintro e w4 ⟨ev, rfl, hr4, hb4⟩
  have hS4 := hS3.out.below hb4
  have hw4 : Below B w w4 := hw3.out.trans (hb4.mono (by rw [← hB.out]; exact hw3.out.size))
  have c4 := Mark_any hS4 xN (by decide) false true
  rw [a3] at c4
  unfold ptrV xN at c4
  dsimp only at c4
  replace hS4 := Lib.hid hS4
  replace hw4 := Lib.hid hw4
  replace hr4 := Lib.hid hr4
  clear c3 hb4 hns
  go_wp2_with fail
  refine c4.mono ?_
  rintro e w5 ⟨rfl, hS5, hF5⟩
  have hr5 := ownKeepB hr4.out (hS4.out.th.keepB hF5) (nPk (by decide))
  have hw5 : Below B w w5 := hw4.out.trans (hF5.below (by rw [← hB.out]; exact hw4.out.size))
  have c5 := Set_any hS5 xN ⟨#[50]⟩ (by decide) (by decide)
  rw [a3b] at c5
  unfold ptrV xN at c5
  dsimp only at c5
  replace hS5 := Lib.hid hS5
  replace hw5 := Lib.hid hw5
  replace hr5 := Lib.hid hr5
  clear c4 hF5
  go_wp2_with fail
  refine c5.mono ?_
  rintro e w6 ⟨rfl, hS6, hF6⟩
  have hr6 := ownKeepB hr5.out (hS5.out.th.keepB hF6) (nPk (by decide))
  have hw6 : Below B w w6 := hw5.out.trans (hF6.below (by rw [← hB.out]; exact hw5.out.size))
  have hb7 : Below w6.heap.size w6 (w6.alloc (.cells #[.string ⟨#[97]⟩, .string ⟨#[98]⟩, .string ⟨#[99]⟩] 9)) := Below.of_alloc w6 _
  have hS7 := hS6.below hb7
  have hr7 := ownBelow hr6 hb7
  have hw7 := hw6.trans (hb7.mono (by rw [← hB.out]; exact hw6.size))
  have bC : Blk (w6.alloc (.cells #[.string ⟨#[97]⟩, .string ⟨#[98]⟩, .string ⟨#[99]⟩] 9)) w6.heap.size [.string ⟨#[97]⟩, .string ⟨#[98]⟩, .string ⟨#[99]⟩] 9 := Blk.new w6 _ _
  have htx : Txs (w6.alloc (.cells #[.string ⟨#[97]⟩, .string ⟨#[98]⟩, .string ⟨#[99]⟩] 9)) (some ⟨w6.heap.size, 0, none⟩) 3 3 [⟨#[97]⟩, ⟨#[98]⟩, ⟨#[99]⟩] := ⟨rfl, Nat.le_refl _, by decide, fun _ => ⟨w6.heap.size, 0, rfl, bC.lt, fun j x hx => by
    rw [Nat.zero_add]
    refine bC.cell ?_
    match j, hx with
    | 0, hx => cases hx; rfl
    | 1, hx => cases hx; rfl
    | 2, hx => cases hx; rfl
    | j + 3, hx => cases hx⟩⟩
  have c6 := SetArgs_ok hS7 htx (by decide) (by decide) (by decide)
  simp only [a4] at c6
  unfold ptrV at c6
  replace hS7 := Lib.hid hS7
  replace hw7 := Lib.hid hw7
  replace hr7 := Lib.hid hr7
  clear c5 hF6 hS6 hw6 hr6 hb7 bC htx
  go_wp2_with fail
  refine c6.mono ?_
  rintro e w8 ⟨A1, k1, rfl, hS8, hF8, _⟩
  have hr8 := ownKeepB hr7.out (hS7.out.th.keepB hF8) (nPk (by decide))
  have hw8 : Below B w w8 := hw7.out.trans (hF8.below (by rw [← hB.out]; exact hw7.out.size))
  have c7 : Calls Tryz.prog 33 #[ptrV sb, .int .i64 2] w8 fun e w' => ∃ A' c', e = .returned (.int .i64 0) ∧ StAt w' B sb a (0 + 2 + 2 + 2 + 2 + 2 + 2) (aS4 ⟨A', 1, c', 1, 0, [⟨#[99]⟩]⟩) 0 ∧ FrT B a w8 w' := by
    have := Shift_ok hS8 2 (by decide) (show ¬ ((3 : Nat) : Int) < 2 by decide)
    simp only [a5] at this
    exact this
  unfold ptrV at c7
  replace hS8 := Lib.hid hS8
  replace hw8 := Lib.hid hw8
  replace hr8 := Lib.hid hr8
  clear c6 hF8 hS7 hw7 hr7
  go_wp2_with fail
  refine c7.mono ?_
  rintro e w9 ⟨A2, k2, rfl, hS9, hF9⟩
  have hr9 := ownKeepB hr8.out (hS8.out.th.keepB hF9) (nPk (by decide))
  have hw9 : Below B w w9 := hw8.out.trans (hF9.below (by rw [← hB.out]; exact hw8.out.size))
  have c8 := Shift_no hS9 2 (.inr (show ((1 : Nat) : Int) < 2 by decide))
  unfold ptrV at c8
  replace hS9 := Lib.hid hS9
  replace hw9 := Lib.hid hw9
  replace hr9 := Lib.hid hr9
  clear c7 hF9 hS8 hw8 hr8
  go_wp2_with fail
  refine c8.mono ?_
  rintro e w10 ⟨rfl, hb10⟩
  have hS10 := hS9.out.below hb10
  have hr10 := ownBelow hr9.out hb10
  have hw10 : Below B w w10 := hw9.out.trans (hb10.mono (by rw [← hB.out]; exact hw9.out.size))
  have c9 := Args_any hS10 (show (1 : Nat) ≤ 1000000 by decide)
  unfold ptrV at c9
  replace hS10 := Lib.hid hS10
  replace hw10 := Lib.hid hw10
  replace hr10 := Lib.hid hr10
  clear c8 hb10 hS9 hw9 hr9
  go_wp2_with fail
  refine c9.mono ?_
  rintro e w11 ⟨av, rfl, hq11, hb11⟩
  have hS11 := hS10.out.below hb11
  have hr11 := ownBelow hr10.out hb11
  have hw11 : Below B w w11 := hw10.out.trans (hb11.mono (by rw [← hB.out]; exact hw10.out.size))
  replace hq11 : w11.ownsRow w10.heap.size 9 1 av 1 [.string ⟨#[99]⟩] := hq11
  have c10 := SetTrap_any hS11 intN ⟨#[]⟩ (by decide) (by decide)
  rw [a6] at c10
  unfold ptrV intN at c10
  dsimp only at c10
  replace hS11 := Lib.hid hS11
  replace hw11 := Lib.hid hw11
  replace hr11 := Lib.hid hr11
  replace hq11 := Lib.hid hq11
  clear c9 hb11 hS10 hw10 hr10
  go_wp2_with fail
  refine c10.mono ?_
  rintro e w12 ⟨rfl, hS12, hF12⟩
  have hr12 := ownKeepB hr11.out (hS11.out.th.keepB hF12) (nPk (by decide))
  have hq12 := ownKeepB hq11.out (hS11.out.th.keepB hF12) (nPk (by decide))
  have hw12 : Below B w w12 := hw11.out.trans (hF12.below (by rw [← hB.out]; exact hw11.out.size))
  have c11 := SetTrap_any hS12 exitN ⟨#[121]⟩ (by decide) (by decide)
  rw [a7] at c11
  unfold ptrV exitN at c11
  dsimp only at c11
  replace hS12 := Lib.hid hS12
  replace hw12 := Lib.hid hw12
  replace hr12 := Lib.hid hr12
  replace hq12 := Lib.hid hq12
  clear c10 hF12 hS11 hw11 hr11 hq11
  go_wp2_with fail
  refine c11.mono ?_
  rintro e w13 ⟨rfl, hS13, hF13⟩
  have hr13 := ownKeepB hr12.out (hS12.out.th.keepB hF13) (nPk (by decide))
  have hq13 := ownKeepB hq12.out (hS12.out.th.keepB hF13) (nPk (by decide))
  have hw13 : Below B w w13 := hw12.out.trans (hF13.below (by rw [← hB.out]; exact hw12.out.size))
  obtain ⟨n2, hn2, c12⟩ := Enter_any hS13 (by decide)
  have hent := enterL_t n2 (aS7 ⟨A2, 1, k2, 1, 0, [⟨#[99]⟩]⟩) rfl
  obtain ⟨hx1, hx2⟩ := tS7 ⟨A2, 1, k2, 1, 0, [⟨#[99]⟩]⟩
  have ht1 := (hent.2 exitN).1 (hn2.iff hx1) (by rw [hx1]; decide)
  have ht2 := (hent.2 intN).2 (by rw [hx2]; decide)
  rw [hx2] at ht2
  generalize enterL n2 (aS7 ⟨A2, 1, k2, 1, 0, [⟨#[99]⟩]⟩) = RE at c12 ht1 ht2
  obtain ⟨eE, tE⟩ : Int × Tg := RE
  unfold ptrV at c12
  dsimp only at c12 ht1 ht2
  replace hS13 := Lib.hid hS13
  replace hw13 := Lib.hid hw13
  replace hr13 := Lib.hid hr13
  replace hq13 := Lib.hid hq13
  replace ht1 := Lib.hid ht1
  replace ht2 := Lib.hid ht2
  clear c11 hF13 hS12 hw12 hr12 hq12 hn2 hent hx1 hx2
  go_wp2_with fail
  refine c12.mono ?_
  rintro e w14 ⟨rfl, hS14, hF14⟩
  have hr14 := ownKeepB hr13.out (hS13.out.th.keepB hF14) (nPk (by decide))
  have hq14 := ownKeepB hq13.out (hS13.out.th.keepB hF14) (nPk (by decide))
  have hw14 : Below B w w14 := hw13.out.trans (hF14.below (by rw [← hB.out]; exact hw13.out.size))
  have c13 := Trap_any hS14 intN
  rw [ht2.out] at c13
  unfold ptrV intN at c13
  replace hS14 := Lib.hid hS14
  replace hw14 := Lib.hid hw14
  replace hr14 := Lib.hid hr14
  replace hq14 := Lib.hid hq14
  clear c12 hF14 hS13 hw13 hr13 hq13 ht2
  go_wp2_with fail
  refine c13.mono ?_
  rintro e w15 ⟨rfl, hb15⟩
  have hr15 := ownBelow hr14.out hb15
  have hq15 := ownBelow hq14.out hb15
  have hw15 : Below B w w15 := hw14.out.trans (hb15.mono (by rw [← hB.out]; exact hw14.out.size))
  have c14 := Trap_any (hS14.out.below hb15) exitN
  rw [ht1.out] at c14
  unfold ptrV exitN at c14
  replace hw15 := Lib.hid hw15
  replace hr15 := Lib.hid hr15
  replace hq15 := Lib.hid hq15
  clear c13 hb15 hS14 hw14 hr14 hq14 ht1
  go_wp2_with fail
  refine c14.mono ?_
  rintro e w16 ⟨rfl, hb16⟩
  have hr16 := ownBelow hr15.out hb16
  have hq16 := ownBelow hq15.out hb16
  have hw16 : Below B w w16 := hw15.out.trans (hb16.mono (by rw [← hB.out]; exact hw15.out.size))
  obtain ⟨Ae, ke, rfl, hk1, hk2⟩ := own_form hr16
  obtain ⟨Aq, kq, rfl, hk3, hk4⟩ := own_form hq16
  obtain ⟨ge, rfl, _, gel, ce⟩ := own_at hr16 (by decide)
  obtain ⟨gq, rfl, _, gql, cq⟩ := own_at hq16 (by decide)
  have ce0 := ce 0 (.string ⟨#[120, 61, 49]⟩) rfl
  have cq0 := cq 0 (.string ⟨#[99]⟩) rfl
  replace hw16 := Lib.hid hw16
  clear c14 hb16 hr16 hq16 ce cq hw15 hr15 hq15
  go_wp2
  go_ret
  exact ⟨rfl, hw16.out⟩
end Go.Proofs.YtigmdfdcflkggaaGreat
/-
  What the calls of no state answer. Conditions: none.
-/
namespace Go.Proofs.YtigmdfdcflkggaaGreat
open Go Go.RowKit Go.ChangeMaps

section
variable {w w' : World}
end
end Go.Proofs.YtigmdfdcflkggaaGreat
/-
  What Var, Func, Put, SetFunc, Set, Mark and Environ of no state answer. Conditions: none.
-/
namespace Go.Proofs.YtigmdfdcflkggaaGreat
open Go Go.RowKit Go.ChangeMaps

section
variable {w w' : World}
end
end Go.Proofs.YtigmdfdcflkggaaGreat
/-
  Which call is asked for; does of no state. Conditions: numbers of 64 bits.
-/
namespace Go.Proofs.YtigmdfdcflkggaaGreat
open Go Go.RowKit Go.ChangeMaps

section
variable {w w' : World}
def In64 (x : Int) : Prop := -9223372036854775808 ≤ x ∧ x ≤ 9223372036854775807
/-- Which call. -/
def askI (x : Int) : Int := (x.tmod 20 + 20) % 20
theorem ask_lt (x : Int) : -20 < x.tmod 20 ∧ x.tmod 20 < 20 := by
  have h1 := Int.tmod_lt_of_pos x (show (0 : Int) < 20 by decide)
  have h2 := Int.lt_tmod_of_pos x (show (0 : Int) < 20 by decide)
  omega
set_option maxRecDepth 100000 in
theorem ask_any (x : Int) (k s : ByteArray) (n : Int) (sv : Value) (hs : ∃ A m c, sv = .slice A m c) (hx : In64 x) (w : World) :
    Calls Tryz.prog 20 #[.agg #[.int .i64 x, .string k, .string s, .int .i64 n, sv]] w fun e w' => e = .returned (.int .i64 (askI x)) ∧ Below w.heap.size w w' := by
  obtain ⟨A, m, c, rfl⟩ := hs
  obtain ⟨z, hz⟩ : ∃ z, w.heap.size = z := ⟨_, rfl⟩
  have bC : Blk (w.alloc (.cells #[.int .i64 x, .string k, .string s, .int .i64 n, .slice A m c] 39)) z [.int .i64 x, .string k, .string s, .int .i64 n, .slice A m c] 39 := by rw [← hz]; exact Blk.new w _ _
  have hb : Below w.heap.size w (w.alloc (.cells #[.int .i64 x, .string k, .string s, .int .i64 n, .slice A m c] 39)) := Below.of_alloc w _
  obtain ⟨h1, h2⟩ := ask_lt x
  unfold In64 at hx
  unfold askI
  replace hb := Lib.hid hb
  go_enter Tryz.func20, Tryz.ntmps20
  go_upto_region 1 with fail
  try rw [hz]
  generalize (w.alloc (.cells #[.int .i64 x, .string k, .string s, .int .i64 n, .slice A m c] 39)) = w1 at bC hb ⊢
  have e0 := bC.cell (i := 0) rfl
  have lz := bC.lt
  clear bC
  go_wp2
  go_ret
  exact ⟨rfl, hb.out⟩
set_option maxRecDepth 100000 in
set_option maxHeartbeats 4000000 in
theorem node_any (s : ByteArray) (w : World) :
    Calls Tryz.prog 42 #[.string s] w fun e w' => e = .returned (.agg #[.int .i64 6, .bool false, .string s, .bool false, .slice none 0 0, .slice none 0 0, .slice none 0 0, .slice none 0 0, .slice none 0 0]) ∧ Below w.heap.size w w' := by
  obtain ⟨z, hz⟩ : ∃ z, w.heap.size = z := ⟨_, rfl⟩
  have hb0 : Below z w (w.alloc (.cells #[.int .i64 0, .bool false, .string ⟨#[]⟩, .bool false, .slice none 0 0, .slice none 0 0, .slice none 0 0, .slice none 0 0, .slice none 0 0] 88)) := by rw [← hz]; exact Below.of_alloc w _
  have b0 : Blk (w.alloc (.cells #[.int .i64 0, .bool false, .string ⟨#[]⟩, .bool false, .slice none 0 0, .slice none 0 0, .slice none 0 0, .slice none 0 0, .slice none 0 0] 88)) z [.int .i64 0, .bool false, .string ⟨#[]⟩, .bool false, .slice none 0 0, .slice none 0 0, .slice none 0 0, .slice none 0 0, .slice none 0 0] 88 := by rw [← hz]; exact Blk.new w _ _
  rw [hz]
  replace hb0 := Lib.hid hb0
  replace b0 := Lib.hid b0
  go_enter Tryz.func42, Tryz.ntmps42
  go_upto_region 1 with fail
  try rw [hz]
  generalize (w.alloc (.cells #[.int .i64 0, .bool false, .string ⟨#[]⟩, .bool false, .slice none 0 0, .slice none 0 0, .slice none 0 0, .slice none 0 0, .slice none 0 0] 88)) = w1 at hb0 b0 ⊢
  replace hz := Lib.hid hz
  have e0 := b0.out.cell (i := 0) rfl
  have e1 := b0.out.cell (i := 1) rfl
  have e2 := b0.out.cell (i := 2) rfl
  have e3 := b0.out.cell (i := 3) rfl
  have e4 := b0.out.cell (i := 4) rfl
  have e5 := b0.out.cell (i := 5) rfl
  have e6 := b0.out.cell (i := 6) rfl
  have e7 := b0.out.cell (i := 7) rfl
  have e8 := b0.out.cell (i := 8) rfl
  have f0 := b0.out.frozen 0
  have f1 := b0.out.frozen 1
  have f2 := b0.out.frozen 2
  have f3 := b0.out.frozen 3
  have f4 := b0.out.frozen 4
  have f5 := b0.out.frozen 5
  have f6 := b0.out.frozen 6
  have f7 := b0.out.frozen 7
  have f8 := b0.out.frozen 8
  have l2 := b0.out.lt
  have bE : Blk (((((((((w1.setCell ⟨z, 0, none⟩ (.int .i64 6)).setCell ⟨z, 1, none⟩ (.bool false)).setCell ⟨z, 2, none⟩ (.string s)).setCell ⟨z, 3, none⟩ (.bool false)).setCell ⟨z, 4, none⟩ (.slice none 0 0)).setCell ⟨z, 5, none⟩ (.slice none 0 0)).setCell ⟨z, 6, none⟩ (.slice none 0 0)).setCell ⟨z, 7, none⟩ (.slice none 0 0)).setCell ⟨z, 8, none⟩ (.slice none 0 0)) z [.int .i64 6, .bool false, .string s, .bool false, .slice none 0 0, .slice none 0 0, .slice none 0 0, .slice none 0 0, .slice none 0 0] 88 := (((((((((b0.out.set 0 (.int .i64 6)).set 1 (.bool false)).set 2 (.string s)).set 3 (.bool false)).set 4 (.slice none 0 0)).set 5 (.slice none 0 0)).set 6 (.slice none 0 0)).set 7 (.slice none 0 0)).set 8 (.slice none 0 0))
  have hbE : Below z w (((((((((w1.setCell ⟨z, 0, none⟩ (.int .i64 6)).setCell ⟨z, 1, none⟩ (.bool false)).setCell ⟨z, 2, none⟩ (.string s)).setCell ⟨z, 3, none⟩ (.bool false)).setCell ⟨z, 4, none⟩ (.slice none 0 0)).setCell ⟨z, 5, none⟩ (.slice none 0 0)).setCell ⟨z, 6, none⟩ (.slice none 0 0)).setCell ⟨z, 7, none⟩ (.slice none 0 0)).setCell ⟨z, 8, none⟩ (.slice none 0 0)) := (((((((((hb0.out.setCell (Nat.le_refl z) _).setCell (Nat.le_refl z) _).setCell (Nat.le_refl z) _).setCell (Nat.le_refl z) _).setCell (Nat.le_refl z) _).setCell (Nat.le_refl z) _).setCell (Nat.le_refl z) _).setCell (Nat.le_refl z) _).setCell (Nat.le_refl z) _)
  replace bE := Lib.hid bE
  replace hbE := Lib.hid hbE
  clear b0 hb0
  go_wp2
  generalize (((((((((w1.setCell ⟨z, 0, none⟩ (.int .i64 6)).setCell ⟨z, 1, none⟩ (.bool false)).setCell ⟨z, 2, none⟩ (.string s)).setCell ⟨z, 3, none⟩ (.bool false)).setCell ⟨z, 4, none⟩ (.slice none 0 0)).setCell ⟨z, 5, none⟩ (.slice none 0 0)).setCell ⟨z, 6, none⟩ (.slice none 0 0)).setCell ⟨z, 7, none⟩ (.slice none 0 0)).setCell ⟨z, 8, none⟩ (.slice none 0 0)) = wE at bE hbE ⊢
  have g0 := bE.out.cell (i := 0) rfl
  have g1 := bE.out.cell (i := 1) rfl
  have g2 := bE.out.cell (i := 2) rfl
  have g3 := bE.out.cell (i := 3) rfl
  have g4 := bE.out.cell (i := 4) rfl
  have g5 := bE.out.cell (i := 5) rfl
  have g6 := bE.out.cell (i := 6) rfl
  have g7 := bE.out.cell (i := 7) rfl
  have g8 := bE.out.cell (i := 8) rfl
  exact bodyPost_ret (v := .agg #[.int .i64 6, .bool false, .string s, .bool false, .slice none 0 0, .slice none 0 0, .slice none 0 0, .slice none 0 0, .slice none 0 0]) (by simp [results, Tryz.results42, g0, g1, g2, g3, g4, g5, g6, g7, g8, go_sem]) rfl ⟨rfl, hbE.out⟩
def firstB (s : ByteArray) : UInt8 := if h : 0 < s.size then s[0] else 0
theorem first_any (s : ByteArray) (hs : s.size ≤ 1000000) (w : World) :
    Calls Tryz.prog 47 #[.string s] w fun e w' => e = .returned (.int .u8 ((firstB s).toNat : Int)) ∧ w' = w := by
  by_cases h0 : 0 < s.size
  · have hf : firstB s = s[0] := by unfold firstB; rw [dif_pos h0]
    rw [hf]
    have hie := bytesIs h0
    have h1 : (0 : Int) < (s.size : Int) := by omega
    go_enter Tryz.func47, Tryz.ntmps47
    go_wp2
    go_ret
    exact ⟨rfl, rfl⟩
  · obtain rfl := noBytes h0
    go_enter Tryz.func47, Tryz.ntmps47
    go_wp2
    go_ret
    exact ⟨rfl, rfl⟩
end
end Go.Proofs.YtigmdfdcflkggaaGreat
/-
  New of no log, Environ of no state; the names of calls. Conditions: none.
-/
namespace Go.Proofs.YtigmdfdcflkggaaGreat
open Go Go.RowKit Go.ChangeMaps

section
variable {w w' : World}
end
end Go.Proofs.YtigmdfdcflkggaaGreat
/-
  told of no state. Conditions: names are a row of texts.
-/
namespace Go.Proofs.YtigmdfdcflkggaaGreat
open Go Go.RowKit Go.ChangeMaps

section
variable {w w' : World}
end
end Go.Proofs.YtigmdfdcflkggaaGreat
/-
  Calls that are asked for, in memory; their names. Conditions: at most a million calls.
-/
namespace Go.Proofs.YtigmdfdcflkggaaGreat
open Go Go.RowKit Go.ChangeMaps

/-- A call that is asked for. -/
structure Od where
  x : Int
  k : ByteArray
  s : ByteArray
  n : Int
  A : Option Addr
  m : Nat
  c : Nat
  l : List ByteArray
/-- A slice reads as such calls. -/
def OpsC (w : World) (A : Option Addr) (m c : Nat) (l : List Od) : Prop := l.length = m ∧ m ≤ c ∧ c ≤ maxLen ∧ (0 < m → ∃ b off : Nat, A = some ⟨b, off, none⟩ ∧ b < w.heap.size ∧ ∀ (j : Nat) o, l[j]? = some o →
  w.cell? ⟨b, off + j * 5, none⟩ = some (.int .i64 o.x) ∧ w.cell? ⟨b, off + j * 5 + 1, none⟩ = some (.string o.k) ∧ w.cell? ⟨b, off + j * 5 + 2, none⟩ = some (.string o.s) ∧ w.cell? ⟨b, off + j * 5 + 3, none⟩ = some (.int .i64 o.n) ∧ w.cell? ⟨b, off + j * 5 + 4, none⟩ = some (.slice o.A o.m o.c))
section
variable {w w' : World}
theorem OpsC.below {A : Option Addr} {m c : Nat} {l : List Od} (h : OpsC w A m c l) (k : Below w.heap.size w w') : OpsC w' A m c l := ⟨h.1, h.2.1, h.2.2.1, fun hn => by
  obtain ⟨b, off, e1, e2, e3⟩ := h.2.2.2 hn
  refine ⟨b, off, e1, Nat.lt_of_lt_of_le e2 k.size, fun j o ho => ?_⟩
  have q := fun i => World.cell?_of_block (a := ⟨b, i, none⟩) (k.block b e2)
  obtain ⟨a0, a1, a2, a3, a4⟩ := e3 j o ho
  exact ⟨(q _).trans a0, (q _).trans a1, (q _).trans a2, (q _).trans a3, (q _).trans a4⟩⟩
def namesO (l : List Od) : List Value := l.map fun o => .string o.k
set_option maxRecDepth 100000 in
set_option maxHeartbeats 4000000 in
theorem named_any {A : Option Addr} {m c : Nat} {l : List Od} (w : World) (h : OpsC w A m c l) (hm : m ≤ 1000000) :
    Calls Tryz.prog 11 #[.slice A m c] w fun e w' => ∃ v, e = .returned v ∧ w'.ownsRow w.heap.size 9 1 v m (namesO l) ∧ Below w.heap.size w w' := by
  obtain ⟨i0, hi, hz0, hz1, hz2⟩ := info_parts infoStr
  obtain ⟨hlen, hmc, hcm, hcell⟩ := h
  unfold maxLen at hcm
  obtain ⟨z, hz⟩ : ∃ z, w.heap.size = z := ⟨_, rfl⟩
  rw [hz]
  have hrow0 : Hid (w.ownsRow z 9 1 (.slice none 0 0) (l.take 0).length (namesO (l.take 0))) := Lib.hid (World.ownsRow_nil _ _ _ _)
  have hb0 : Hid (Below z w w) := Lib.hid (Below.refl _ _)
  replace hi := Lib.hid hi
  replace hz := Lib.hid hz
  replace hlen := Lib.hid hlen
  replace hcell := Lib.hid hcell
  go_enter Tryz.func11, Tryz.ntmps11
  go_wp2
  go_loopw [4, 3] (fun iv ov wr => ∃ j : Nat, j ≤ m ∧ iv = .int .i64 (j : Int) ∧ Hid (wr.ownsRow z 9 1 ov (l.take j).length (namesO (l.take j))) ∧ Hid (Below z w wr)) (fun iv _ _ => m - (intOf iv).toNat)
  case atStart => exact ⟨0, Nat.zero_le _, rfl, hrow0, hb0⟩
  case round =>
    clear hrow0 hb0
    obtain ⟨j, hj, rfl, hrow, hbz⟩ := hrel
    have hjl : (l.take j).length = j := by rw [List.length_take, hlen.out]; omega
    rw [hjl] at hrow
    obtain ⟨A2, c2, rfl, hc2, hcm2⟩ := own_form hrow.out
    unfold maxLen at hcm2
    by_cases hlt : j < m
    · have hjn : j < l.length := by rw [hlen.out]; exact hlt
      obtain ⟨b, off, rfl, hbl, hcc⟩ := hcell.out (by omega)
      have hbz2 : b < z := by rw [← hz.out]; exact hbl
      have ck := (World.cell?_of_block (a := ⟨b, off + j * 5 + 1, none⟩) (hbz.out.block b hbz2)).trans (hcc j l[j] (List.getElem?_eq_getElem hjn)).2.1
      have cl := Nat.lt_of_lt_of_le hbl hbz.out.size
      have htk : l.take (j + 1) = l.take j ++ [l[j]] := List.take_succ_eq_append_getElem hjn
      have hno : namesO (l.take (j + 1)) = namesO (l.take j) ++ [.string l[j].k] := by rw [htk]; unfold namesO; rw [List.map_append]; rfl
      have hl1 : (l.take (j + 1)).length = j + 1 := by rw [List.length_take, hlen.out]; omega
      have hj1 : (0 : Int) ≤ (j : Int) := by omega
      have hj2 : (j : Int) < (m : Int) := by omega
      generalize l[j] = o at ck hno
      obtain ⟨x, k, s, n, Ao, mo, co, lo⟩ := o
      dsimp only at ck hno
      have hBn : ∀ i u, ([.string k] : List Value)[i]? = some u → (wr.alloc (.cells #[.string k] 9)).cell? ((⟨wr.heap.size, 0, none⟩ : Addr).add i) = some u := by
        intro i u hu
        rw [add_plain0, Nat.zero_add]
        exact (Blk.new wr [.string k] 9).cell hu
      obtain ⟨gg, cap, w5, hrun, hrow5, hgr5, hat, hgl5⟩ := run_append_lies (P := Tryz.prog) (wr.alloc (.cells #[.string k] 9)) 35 35 z 9 i0 _ 1 16 Tryz.underlying35 hi.out hz0 hz1 hz2 rfl (by decide)
        (.slice A2 j c2) j _ (hrow.out.alloc _) ⟨wr.heap.size, 0, none⟩ 1 1 [.string k] rfl hBn (by simp [Value.oneCell']) (by decide) (by unfold maxLen; omega) (by omega) (by have := hbz.out.size; rw [hz.out] at this; simp; omega) (wr.heap.size + 1) (by simp)
      have hlt5 := hrow.out.lt
      have hbz5 : Hid (Below z w w5) := Lib.hid ((hbz.out.alloc (by have := hbz.out.size; rw [hz.out] at this; omega) _).grown hgr5 (by have := hbz.out.size; rw [hz.out] at this; simp; omega) (fun k hk => (hlt5 k hk).1))
      have hrowE : Hid (w5.ownsRow z 9 1 (.slice (some ⟨gg, 0, none⟩) (j + 1) cap) (l.take (j + 1)).length (namesO (l.take (j + 1)))) := Lib.hid (by rw [hl1, hno]; simpa using hrow5)
      replace hrun := Lib.hid hrun
      clear hrow hrow5 hgr5 hat hgl5 hlt5 hBn hbz hno htk hl1 hjl hcc
      go_wp2_with (at_builtin; refine wpList_append_of rfl _ _ 35 35 rfl _ _ _ w5 rfl rfl hrun.out ?_)
      go_wp2
      go_roundw
      case rel => exact ⟨j + 1, by omega, by go_num, hrowE, hbz5⟩
      case measure => simp [intOf]; omega
    · obtain rfl : j = m := by omega
      have hj2 : ¬ (j : Int) < (j : Int) := by omega
      have hfin := Lib.hid (And.intro hrow.out hbz.out)
      rw [show l.take j = l by rw [← hlen.out, List.take_length]] at hfin
      clear hrow hbz hcell
      go_wp2
      go_ret
      exact ⟨_, rfl, hfin.out⟩
end
end Go.Proofs.YtigmdfdcflkggaaGreat
/-
  Few: what calls may be asked for. Conditions: none.
-/
set_option linter.unusedSimpArgs false
set_option linter.unusedVariables false
namespace Go.Proofs.YtigmdfdcflkggaaGreat
open Go Go.RowKit Go.ChangeMaps

def OkO (o : Od) : Prop := o.k.size ≤ 200 ∧ o.s.size ≤ 5000 ∧ o.m ≤ 1100 ∧ ∀ t ∈ o.l, t.size ≤ 5000
set_option maxRecDepth 100000 in
set_option maxHeartbeats 8000000 in
theorem Few_any {A : Option Addr} {m c : Nat} {l : List Od} (w : World) (h : OpsC w A m c l) (hL : ∀ o ∈ l, Txs w o.A o.m o.c o.l) :
    Calls Tryz.prog 7 #[.slice A m c] w fun e w' => (e = .returned (.bool true) ∧ w' = w ∧ m ≤ 50 ∧ ∀ o ∈ l, OkO o) ∨ (e = .returned (.bool false) ∧ w' = w) := by
  obtain ⟨hlen, hmc, hcm, hcell⟩ := h
  unfold maxLen at hcm
  replace hlen := Lib.hid hlen
  replace hcell := Lib.hid hcell
  replace hL := Lib.hid hL
  by_cases h50 : (50 : Int) < (m : Int)
  · go_enter Tryz.func7, Tryz.ntmps7
    go_wp2
    go_ret
    exact .inr ⟨rfl, rfl⟩
  · go_enter Tryz.func7, Tryz.ntmps7
    go_wp2
    go_loopw [3] (fun iv wr => ∃ j : Nat, j ≤ m ∧ iv = .int .i64 (j : Int) ∧ Hid (wr = w) ∧ Hid (∀ i (hi : i < l.length), i < j → OkO l[i])) (fun iv _ => m - (intOf iv).toNat)
    case atStart => exact ⟨0, Nat.zero_le _, rfl, Lib.hid rfl, Lib.hid (fun i _ h => absurd h (Nat.not_lt_zero i))⟩
    case round =>
      obtain ⟨j, hj, rfl, hwr, hall⟩ := hrel
      obtain rfl := hwr.out
      clear hwr
      by_cases hlt : j < m
      · have hjn : j < l.length := by rw [hlen.out]; exact hlt
        obtain ⟨b, off, rfl, hbl, hcc⟩ := hcell.out (by omega)
        obtain ⟨_, k1, k2, _, k4⟩ := hcc j l[j] (List.getElem?_eq_getElem hjn)
        have htx := hL.out l[j] (List.getElem_mem hjn)
        have hj1 : (0 : Int) ≤ (j : Int) := by omega
        have hj2 : (j : Int) < (m : Int) := by omega
        have hok : l[j].k.size ≤ 200 → l[j].s.size ≤ 5000 → l[j].m ≤ 1100 → (∀ t ∈ l[j].l, t.size ≤ 5000) → Hid (∀ i (hi : i < l.length), i < j + 1 → OkO l[i]) := fun q1 q2 q3 q4 => Lib.hid (fun i hi h => by
          rcases Nat.lt_succ_iff_lt_or_eq.1 h with h | h
          · exact hall.out i hi h
          · subst h; exact ⟨q1, q2, q3, q4⟩)
        generalize l[j] = o at k1 k2 k4 htx hok
        obtain ⟨x, k, s, n, Ao, mo, co, lo⟩ := o
        dsimp only at k1 k2 k4 htx hok
        have hco : mo ≤ co := htx.2.1
        have hcx : co ≤ 2 ^ 63 - 1 := htx.2.2.1
        replace htx := Lib.hid htx
        replace hok := Lib.hid hok
        clear hcc hall
        obtain ⟨bad, hB⟩ : ∃ bad : Bool, decide (200 < k.size ∨ (200 < s.size ∧ s.size ≤ 4096) ∨ 5000 < s.size ∨ (20 < mo ∧ mo ≤ 1000) ∨ 1100 < mo) = bad := ⟨_, rfl⟩
        replace hB := Lib.hid hB
        go_upto_region 7 with fail
        go_cut [66] from 15 to 66 (fun cv wx => cv = .bool bad ∧ Hid (wx = wr))
        case first =>
            replace hB := hB.out
            by_cases b1 : (200 : Int) < (k.size : Int)
            · skip
              clear htx hok
              go_wp2
              go_meet
              exact ⟨congrArg Value.bool (hB.symm.trans (decide_eq_true (p := (200 < k.size ∨ (200 < s.size ∧ s.size ≤ 4096) ∨ 5000 < s.size ∨ (20 < mo ∧ mo ≤ 1000) ∨ 1100 < mo)) (by omega))).symm, rfl⟩
            · by_cases b2 : (200 : Int) < (s.size : Int)
              · by_cases b3 : (s.size : Int) ≤ 4096
                · skip
                  clear htx hok
                  go_wp2
                  go_meet
                  exact ⟨congrArg Value.bool (hB.symm.trans (decide_eq_true (p := (200 < k.size ∨ (200 < s.size ∧ s.size ≤ 4096) ∨ 5000 < s.size ∨ (20 < mo ∧ mo ≤ 1000) ∨ 1100 < mo)) (by omega))).symm, rfl⟩
                · by_cases b4 : (5000 : Int) < (s.size : Int)
                  · skip
                    clear htx hok
                    go_wp2
                    go_meet
                    exact ⟨congrArg Value.bool (hB.symm.trans (decide_eq_true (p := (200 < k.size ∨ (200 < s.size ∧ s.size ≤ 4096) ∨ 5000 < s.size ∨ (20 < mo ∧ mo ≤ 1000) ∨ 1100 < mo)) (by omega))).symm, rfl⟩
                  · skip
                    by_cases m1 : (20 : Int) < (mo : Int)
                    · by_cases m2 : (mo : Int) ≤ 1000
                      · skip
                        clear htx hok
                        go_wp2
                        go_meet
                        exact ⟨congrArg Value.bool (hB.symm.trans (decide_eq_true (p := (200 < k.size ∨ (200 < s.size ∧ s.size ≤ 4096) ∨ 5000 < s.size ∨ (20 < mo ∧ mo ≤ 1000) ∨ 1100 < mo)) (by omega))).symm, rfl⟩
                      · by_cases m3 : (1100 : Int) < (mo : Int)
                        · skip
                          clear htx hok
                          go_wp2
                          go_meet
                          exact ⟨congrArg Value.bool (hB.symm.trans (decide_eq_true (p := (200 < k.size ∨ (200 < s.size ∧ s.size ≤ 4096) ∨ 5000 < s.size ∨ (20 < mo ∧ mo ≤ 1000) ∨ 1100 < mo)) (by omega))).symm, rfl⟩
                        · skip
                          clear htx hok
                          go_wp2
                          go_meet
                          exact ⟨congrArg Value.bool (hB.symm.trans (decide_eq_false (p := (200 < k.size ∨ (200 < s.size ∧ s.size ≤ 4096) ∨ 5000 < s.size ∨ (20 < mo ∧ mo ≤ 1000) ∨ 1100 < mo)) (by omega))).symm, rfl⟩
                    · have m3 : ¬ (1100 : Int) < (mo : Int) := by omega
                      clear htx hok
                      go_wp2
                      go_meet
                      exact ⟨congrArg Value.bool (hB.symm.trans (decide_eq_false (p := (200 < k.size ∨ (200 < s.size ∧ s.size ≤ 4096) ∨ 5000 < s.size ∨ (20 < mo ∧ mo ≤ 1000) ∨ 1100 < mo)) (by omega))).symm, rfl⟩
              · have b4 : ¬ (5000 : Int) < (s.size : Int) := by omega
                by_cases m1 : (20 : Int) < (mo : Int)
                · by_cases m2 : (mo : Int) ≤ 1000
                  · skip
                    clear htx hok
                    go_wp2
                    go_meet
                    exact ⟨congrArg Value.bool (hB.symm.trans (decide_eq_true (p := (200 < k.size ∨ (200 < s.size ∧ s.size ≤ 4096) ∨ 5000 < s.size ∨ (20 < mo ∧ mo ≤ 1000) ∨ 1100 < mo)) (by omega))).symm, rfl⟩
                  · by_cases m3 : (1100 : Int) < (mo : Int)
                    · skip
                      clear htx hok
                      go_wp2
                      go_meet
                      exact ⟨congrArg Value.bool (hB.symm.trans (decide_eq_true (p := (200 < k.size ∨ (200 < s.size ∧ s.size ≤ 4096) ∨ 5000 < s.size ∨ (20 < mo ∧ mo ≤ 1000) ∨ 1100 < mo)) (by omega))).symm, rfl⟩
                    · skip
                      clear htx hok
                      go_wp2
                      go_meet
                      exact ⟨congrArg Value.bool (hB.symm.trans (decide_eq_false (p := (200 < k.size ∨ (200 < s.size ∧ s.size ≤ 4096) ∨ 5000 < s.size ∨ (20 < mo ∧ mo ≤ 1000) ∨ 1100 < mo)) (by omega))).symm, rfl⟩
                · have m3 : ¬ (1100 : Int) < (mo : Int) := by omega
                  clear htx hok
                  go_wp2
                  go_meet
                  exact ⟨congrArg Value.bool (hB.symm.trans (decide_eq_false (p := (200 < k.size ∨ (200 < s.size ∧ s.size ≤ 4096) ∨ 5000 < s.size ∨ (20 < mo ∧ mo ≤ 1000) ∨ 1100 < mo)) (by omega))).symm, rfl⟩
        case rest =>
          obtain ⟨rfl, hwc⟩ := hcut
          obtain rfl := hwc.out
          clear hwc
          cases hbb : bad with
          | true =>
            go_wp2
            go_ret
            exact .inr ⟨rfl, rfl⟩
          | false =>
            have hnb := of_decide_eq_false (hB.out.trans hbb)
            have n1 : k.size ≤ 200 := by omega
            have n2 : s.size ≤ 5000 := by omega
            have n3 : mo ≤ 1100 := by omega
            clear hB hbb hnb
            go_wp2
            go_loopw [5] (fun iv wx => ∃ q : Nat, q ≤ mo ∧ iv = .int .i64 (q : Int) ∧ Hid (wx = wc) ∧ Hid (∀ i (hi : i < lo.length), i < q → lo[i].size ≤ 5000)) (fun iv _ => mo - (intOf iv).toNat)
            case atStart => exact ⟨0, Nat.zero_le _, rfl, Lib.hid rfl, Lib.hid (fun i _ h => absurd h (Nat.not_lt_zero i))⟩
            case round =>
              obtain ⟨q, hq, rfl, hwr, hall⟩ := hrel
              obtain rfl := hwr.out
              clear hwr
              by_cases hql : q < mo
              · obtain ⟨hll, hx2, hx3, hx4⟩ := htx.out
                unfold maxLen at hx3
                have hqn : q < lo.length := by rw [hll]; exact hql
                obtain ⟨b2, off2, rfl, hbl2, hcc2⟩ := hx4 (by omega)
                have ct := hcc2 q lo[q] (List.getElem?_eq_getElem hqn)
                have hq1 : (0 : Int) ≤ (q : Int) := by omega
                have hq2 : (q : Int) < (mo : Int) := by omega
                have hnext : lo[q].size ≤ 5000 → Hid (∀ i (hi : i < lo.length), i < q + 1 → lo[i].size ≤ 5000) := fun h5 => Lib.hid (fun i hi h => by
                  rcases Nat.lt_succ_iff_lt_or_eq.1 h with h | h
                  · exact hall.out i hi h
                  · subst h; exact h5)
                generalize lo[q] = t at ct hnext
                replace hnext := Lib.hid hnext
                clear hcc2 hx4 hall hll
                by_cases ht : (200 : Int) < (t.size : Int)
                · by_cases ht2 : (t.size : Int) ≤ 4096
                  · go_wp2
                    go_ret
                    exact .inr ⟨rfl, rfl⟩
                  · by_cases ht3 : (5000 : Int) < (t.size : Int)
                    · go_wp2
                      go_ret
                      exact .inr ⟨rfl, rfl⟩
                    · have hN := hnext.out (by omega)
                      clear hnext
                      go_wp2
                      go_roundw
                      case rel => exact ⟨q + 1, by omega, by go_num, Lib.hid (by trivial), hN⟩
                      case measure => simp [intOf]; omega
                · have ht3 : ¬ (5000 : Int) < (t.size : Int) := by omega
                  have hN := hnext.out (by omega)
                  clear hnext
                  go_wp2
                  go_roundw
                  case rel => exact ⟨q + 1, by omega, by go_num, Lib.hid (by trivial), hN⟩
                  case measure => simp [intOf]; omega
              · obtain rfl : q = mo := by omega
                have hq2 : ¬ (q : Int) < (q : Int) := by omega
                have hN := hok.out (by omega) (by omega) (by omega) (fun t ht => by
                  obtain ⟨i, hi, rfl⟩ := List.getElem_of_mem ht
                  exact hall.out i hi (by have := htx.out.1; omega))
                clear hall htx hok
                go_wp2
                go_roundw
                case rel => exact ⟨j + 1, by omega, by go_num, Lib.hid (by trivial), hN⟩
                case measure => simp [intOf]; omega
      · obtain rfl : j = m := by omega
        have hj2 : ¬ (j : Int) < (j : Int) := by omega
        have hfin : Hid (∀ o ∈ l, OkO o) := Lib.hid (fun o ho => by
          obtain ⟨i, hi, rfl⟩ := List.getElem_of_mem ho
          exact hall.out i hi (by have := hlen.out; omega))
        have h50n : j ≤ 50 := by omega
        clear hall hcell hL hlen
        go_wp2
        go_ret
        first | exact .inl ⟨rfl, rfl, hfin.out⟩ | exact .inl ⟨rfl, rfl, h50n, hfin.out⟩
end Go.Proofs.YtigmdfdcflkggaaGreat
/-
  What every row of this seat needs: a world for the witness, calls that are asked for.
-/
namespace Go.Proofs.YtigmdfdcflkggaaGreat
open Go Go.ChangeShapes Go.WideShapes Go.ChangeAt Go.RowKit Go.Deep

theorem rowOwn : ownKnob Tryz.prog.godebug = none := by kernel_rfl
theorem rowOut : laidOutB Tryz.prog = true := by kernel_rfl
/-- A world for the witness: the settled one. -/
noncomputable def plainWorld (os : Os) : World := World.holding Tryz.prog os ⟨#[], #[], []⟩
theorem laid_none (m : World) : laidMet Tryz.prog [] m := ⟨[], rfl, List.nodup_nil, fun _ _ h => by cases h⟩

theorem cellsOpd : Tryz.prog.cellsOf 39 = 5 := by kernel_rfl
theorem cellsStr : Tryz.prog.cellsOf 9 = 1 := by kernel_rfl
theorem cellsInt : Tryz.prog.cellsOf 3 = 1 := by kernel_rfl
theorem cellsStrs : Tryz.prog.cellsOf 35 = 1 := by kernel_rfl
theorem opdFields : ∃ f0 f1 f2 f3 f4 : Field, Tryz.prog.underlying 39 = some (.struct #[f0, f1, f2, f3, f4]) ∧ (f0.offset = 0 ∧ f1.offset = 1 ∧ f2.offset = 2 ∧ f3.offset = 3 ∧ f4.offset = 4) ∧ f0.type = 3 ∧ f1.type = 9 ∧ f2.type = 9 ∧ f3.type = 3 ∧ f4.type = 35 :=
  ⟨_, _, _, _, _, Tryz.underlying39, ⟨rfl, rfl, rfl, rfl, rfl⟩, rfl, rfl, rfl, rfl, rfl⟩
section
variable {H : Type} {enc : TypeId × Value → H} {W : World}
set_option maxRecDepth 100000 in
theorem open_int_cell {fuel : Nat} {v : Value} {x : DataW H × List MemPlace} (h : DataW.trod enc Tryz.prog W 0 (fun _ => true) true fuel 3 [v] = some x) : ∃ n : Int, v = .int .i64 n ∧ In64 n := by
  obtain ⟨n, e1, _, wk⟩ := DataW.trod_int Tryz.underlying3 h
  refine ⟨n, by simpa using e1, ?_⟩
  have m1 : IntKind.i64.min = -9223372036854775808 := rfl
  have m2 : IntKind.i64.max = 9223372036854775807 := rfl
  simp only [Lit.wf, Bool.and_eq_true, decide_eq_true_eq] at wk
  unfold In64
  omega
set_option maxRecDepth 100000 in
theorem texts_cell {fuel : Nat} {v : Value} {x : DataW H × List MemPlace} (h : DataW.trod enc Tryz.prog W 0 (fun _ => true) true fuel 35 [v] = some x) (hlt : ∀ y ∈ x.2, y.block < W.heap.size) : ∃ A m c l, v = .slice A m c ∧ Txs W A m c l := by
  rcases open_strs (cs := [v]) Tryz.underlying35 Tryz.underlying9 cellsStr h with ⟨hcs, _⟩ | ⟨a, len, cap, m, Sx, hcs, _, hl, hm, hmm, hx, hi⟩
  · obtain rfl : v = .slice none 0 0 := by simpa using hcs
    exact ⟨none, 0, 0, [], rfl, rfl, Nat.le_refl _, Nat.zero_le _, fun h => absurd h (Nat.lt_irrefl _)⟩
  · obtain rfl : v = .slice (some a) len cap := by simpa using hcs
    have hlm : len ≤ m := by rw [hmm]; split <;> omega
    refine ⟨some a, len, cap, (List.range len).map Sx, rfl, by simp, hl, hm, fun hn => ?_⟩
    obtain ⟨b, off, spot⟩ := a
    have hspot : spot = none := by simpa [Addr.add] using World.cell?_spot (hi 0 (by omega)).1
    subst hspot
    have hb : b < W.heap.size := hlt (.cell b off) (by rw [hx]; exact MemPlace.mem_row.2 ⟨0, by omega, by simp⟩)
    refine ⟨b, off, rfl, hb, fun j u hj => ?_⟩
    have hj2 : j < len := by
      have := (List.getElem?_eq_some_iff.1 hj).1
      simpa using this
    have := (hi j (by omega)).1
    rw [add_plain0] at this
    rw [this]
    simp [hj2] at hj
    rw [hj]
instance : Inhabited Od := ⟨⟨0, ⟨#[]⟩, ⟨#[]⟩, 0, none, 0, 0, []⟩⟩
set_option maxRecDepth 100000 in
theorem open_ops {base : Nat} {v : Value} {d : DataW H} {p : List MemPlace} (hv : Value.okWide Tryz.prog W .any base 22 v)
    (h : DataW.Trod enc Tryz.prog W 0 (fun _ => true) true 22 v d p) (hlt : ∀ x ∈ p, x.block < W.heap.size) :
    ∃ A m c l, v = .slice A m c ∧ OpsC W A m c l ∧ (∀ o ∈ l, Txs W o.A o.m o.c o.l) ∧ ∀ o ∈ l, In64 o.x ∧ In64 o.n := by
  obtain ⟨f0, f1, f2, f3, f4, he, ⟨o0, o1, o2, o3, o4⟩, t0, t1, t2, t3, t4⟩ := opdFields
  obtain ⟨a0, len0, cap0, rfl⟩ := okWide_slice Tryz.underlying22 hv
  obtain ⟨fuel, hf⟩ := h
  rcases open_slice (cs := [.slice a0 len0 cap0]) Tryz.underlying22 (by simpa [Value.cells] using hf) with ⟨hcs, _⟩ | ⟨a, len, cap, m, n, D, Pl, hcs, _, hl, hm, hmm, hx, hi⟩
  · obtain ⟨rfl, rfl, rfl⟩ : a0 = none ∧ len0 = 0 ∧ cap0 = 0 := by simpa using hcs
    exact ⟨none, 0, 0, [], rfl, ⟨rfl, Nat.le_refl _, Nat.zero_le _, fun h => absurd h (Nat.lt_irrefl _)⟩, fun _ h => by (cases h), fun _ h => by (cases h)⟩
  · obtain ⟨rfl, rfl, rfl⟩ : a0 = some a ∧ len0 = len ∧ cap0 = cap := by simpa using hcs
    have hlm : len0 ≤ m := by rw [hmm]; split <;> omega
    simp only [Prod.mk.injEq] at hx
    have each : ∀ i, i < len0 → ∃ q : Od, (W.cell? (a.add (i * 5)) = some (.int .i64 q.x) ∧ W.cell? (a.add (i * 5 + 1)) = some (.string q.k) ∧ W.cell? (a.add (i * 5 + 2)) = some (.string q.s) ∧ W.cell? (a.add (i * 5 + 3)) = some (.int .i64 q.n) ∧ W.cell? (a.add (i * 5 + 4)) = some (.slice q.A q.m q.c)) ∧ Txs W q.A q.m q.c q.l ∧ In64 q.x ∧ In64 q.n := by
      intro i hil
      obtain ⟨cs', h1, h2⟩ := hi i (by omega)
      rw [cellsOpd] at h1
      obtain ⟨_, hlen, hcell⟩ := World.cells?_some h1
      obtain ⟨xs, k, _, hxy, _, hxl, hg⟩ := DataW.trod_struct he h2
      simp only [Prod.mk.injEq] at hxy
      match cs', hlen with
      | [c0, c1, c2, c3, c4], _ =>
        have hxl5 : xs.length = 5 := by simpa using hxl
        have g0 := hg 0 f0 rfl
        have g1 := hg 1 f1 rfl
        have g2 := hg 2 f2 rfl
        have g3 := hg 3 f3 rfl
        have g4 := hg 4 f4 rfl
        rw [o0, t0, cellsInt, List.getElem?_eq_getElem (by omega)] at g0
        rw [o1, t1, cellsStr, List.getElem?_eq_getElem (by omega)] at g1
        rw [o2, t2, cellsStr, List.getElem?_eq_getElem (by omega)] at g2
        rw [o3, t3, cellsInt, List.getElem?_eq_getElem (by omega)] at g3
        rw [o4, t4, cellsStrs, List.getElem?_eq_getElem (by omega)] at g4
        have hP : ∀ y ∈ (xs[4]'(by omega)).2, y.block < W.heap.size := fun y hy => hlt y (by
          rw [hx.2]
          refine List.mem_append_right _ (List.mem_flatMap.2 ⟨i, List.mem_range.2 (by omega), ?_⟩)
          rw [hxy.2]
          exact List.mem_flatMap.2 ⟨_, List.getElem_mem _, hy⟩)
        obtain ⟨n0, e0, b0⟩ := open_int_cell (v := c0) (by simpa using g0)
        obtain ⟨s1, e1, _, _⟩ := DataW.trod_string Tryz.underlying9 g1
        obtain ⟨s2, e2, _, _⟩ := DataW.trod_string Tryz.underlying9 g2
        obtain ⟨n3, e3, b3⟩ := open_int_cell (v := c3) (by simpa using g3)
        obtain ⟨A4, m4, c4', l4, e4, x4⟩ := texts_cell (v := c4) (by simpa using g4) hP
        subst e0 e3 e4
        obtain rfl : c1 = .string s1 := by simpa using e1
        obtain rfl : c2 = .string s2 := by simpa using e2
        have e0 := hcell 0 (by omega)
        have e1 := hcell 1 (by omega)
        have e2 := hcell 2 (by omega)
        have e3 := hcell 3 (by omega)
        have e4 := hcell 4 (by omega)
        rw [add_add] at e0 e1 e2 e3 e4
        exact ⟨⟨n0, s1, s2, n3, A4, m4, c4', l4⟩, ⟨by simpa using e0, by simpa using e1, by simpa using e2, by simpa using e3, by simpa using e4⟩, x4, b0, b3⟩
    obtain ⟨C, hC⟩ := choose_lt (α := Od) each
    refine ⟨some a, len0, cap0, (List.range len0).map C, rfl, ⟨by simp, hl, hm, fun hn => ?_⟩, fun o ho => ?_, fun o ho => ?_⟩
    · obtain ⟨b, off, spot⟩ := a
      have hspot : spot = none := by simpa [Addr.add] using World.cell?_spot (hC 0 (by omega)).1.1
      subst hspot
      have hb : b < W.heap.size := hlt (.cell b off) (by rw [hx.2]; exact List.mem_append_left _ (MemPlace.mem_row.2 ⟨0, by rw [cellsOpd]; omega, by simp⟩))
      refine ⟨b, off, rfl, hb, fun j o ho => ?_⟩
      have hj2 : j < len0 := by
        have := (List.getElem?_eq_some_iff.1 ho).1
        simpa using this
      simp [hj2] at ho
      subst ho
      have h5 := (hC j hj2).1
      rw [add_plain0, add_plain0, add_plain0, add_plain0, add_plain0] at h5
      simpa [Nat.add_assoc] using h5
    · obtain ⟨i, hi, rfl⟩ := List.mem_map.1 ho
      exact (hC i (List.mem_range.1 hi)).2.1
    · obtain ⟨i, hi, rfl⟩ := List.mem_map.1 ho
      exact (hC i (List.mem_range.1 hi)).2.2
end
end Go.Proofs.YtigmdfdcflkggaaGreat
