/-
  The walk of MarksWhole: it answers true and leaves what was there. Conditions: the text lies in memory that was there.
-/
import Derived.Test.YtdiiimcoannnnaaDoorMkAwake
import Derived.Test.YtdiiimcoannnnaaDoorMkSame
import Derived.Test.YtdiiimcoannnnaaDoorMkFind
import Derived.Test.YtdiiimcoannnnaaDoorMkWhole
import Derived.Deep.RegionHeld3
namespace Go.Proofs.YtdiiimcoannnnaaDoor
open Go Go.RowKit

theorem self_same {α} [DecidableEq α] (x : α) : decide (x = x) = true := by simp

set_option maxHeartbeats 2000000 in
set_option maxRecDepth 100000 in
theorem lawWhole_any (l : List Ch) (b : UInt8) (v : Value) (w : World) (ht : Tx w w.heap.size v l) :
    Calls Tryd.prog 7 #[v, .int .u8 (b.toNat : Int)] w fun e w' => e = .returned (.bool true) ∧ Below w.heap.size w w' := by
  obtain ⟨A, c, rfl, hc, hcm⟩ := ht.form
  unfold maxLen at hcm
  obtain ⟨j0, ji, jz0, jz1, jz2⟩ := info_parts infoCh
  by_cases hl : l.length ≤ 1000
  · go_enter Tryd.func7, Tryd.ntmps7
    go_wp2_with fail
    refine (runs_any l _ _ _ ht (Nat.le_refl _) (by omega)).mono ?_
    rintro e w1 ⟨v1, rfl, ho1, hb1⟩
    have h1 := Rs.of_own ho1
    have ht1 := (ht.below hb1).more hb1.size
    clear ht ho1
    have hRl := runsL_length l
    obtain ⟨R, hR⟩ : ∃ R, Hid (runsL l = R) := ⟨_, rfl⟩
    have hfull : Hid (∀ (k : Nat) (h : k < R.length), 0 < R[k].1.size) := by rw [← hR.out]; exact runsL_full l
    have hturn : Hid (∀ (k : Nat) (h : k + 1 < R.length), R[k].2 ≠ R[k + 1].2) := by rw [← hR.out]; exact runsL_turns l
    have hback : Hid (R.flatMap ofR = l) := by rw [← hR.out]; exact runsL_back l
    rw [hR.out] at h1 hRl
    clear hR
    obtain ⟨A1, c1, rfl, hc1, hcm1⟩ := h1.form
    unfold maxLen at hcm1
    go_wp2_with fail
    go_loopw [6, 7] (fun o i wr => ∃ k : Nat, k ≤ R.length ∧ i = .int .i64 k ∧ Below w1.heap.size w1 wr ∧ wr.ownsRow w1.heap.size 61 2 o ((R.take k).flatMap ofR).length (cellsCh ((R.take k).flatMap ofR))) (fun _ i _ => R.length - (intOf i).toNat)
    case atStart => exact ⟨0, Nat.zero_le _, rfl, Below.refl _ _, World.ownsRow_nil _ _ _ _⟩
    case round =>
      obtain ⟨k, hk, rfl, hb, hown⟩ := hrel
      have hsz := hb.size
      by_cases hlt : k < R.length
      · obtain ⟨blk, off, rfl, hblk, f0, f1⟩ := (h1.below hb).at_ hlt
        have hblkw := Nat.lt_of_lt_of_le hblk hsz
        have hsn : Hid ((R.take (k + 1)).flatMap ofR = (R.take k).flatMap ofR ++ ofL R[k].1 R[k].2) := flatMap_snoc ofR R k hlt
        have hlen : ((R.take k).flatMap ofR).length + R[k].1.size ≤ 1000 := by
          have h1 := flatMap_le ofR R (k + 1)
          rw [hback.out, hsn.out, List.length_append, ofL_length] at h1
          omega
        have hx0 : R[k].1.toList.isEmpty = false := by
          have := hfull.out k hlt
          rw [Lib.size_eq] at this
          rw [ByteArray.toList_eq, List.isEmpty_eq_false_iff]
          intro h
          rw [h] at this
          exact absurd this (by decide)
        have hx1 : (R[k].1.toList == (⟨#[]⟩ : ByteArray).toList) = false := by
          rw [show (⟨#[]⟩ : ByteArray).toList = [] from ByteArray.toList_eq _]
          simpa using hx0
        by_cases hk0 : 0 < k
        case' pos =>
          obtain ⟨blk2, off2, hA2, _, _, g1⟩ := (h1.below hb).at_ (k := k - 1) (by omega)
          injection hA2 with hA2
          injection hA2 with e1 e2 _
          subst e1 e2
          have hqq : (R[k - 1].2 == R[k].2) = false := by
            have := hturn.out (k - 1) (by omega)
            simp only [show k - 1 + 1 = k by omega] at this
            simpa using this
          generalize R[k].1 = x at f0 hsn hlen hx0 hx1
          generalize R[k].2 = q at f1 hsn hqq
          generalize R[k - 1].2 = q0 at g1 hqq
          have hd : decide ((0 : Int) < (k : Int)) = true := by simpa using hk0
          go_wp2_with fail
          have hw1 : IntKind.i64.wrap ((k : Int) - 1) = (k : Int) - 1 := IntWalk.i64_in _ (by omega)
          have hw2 : (0 : Int) ≤ (k : Int) - 1 := by omega
          have hw3 : ((k : Int) - 1).toNat = k - 1 := by omega
          have hw4 : (k : Int) - 1 < (R.length : Int) := by omega
          go_quiet (fail)
          clear hw1 hw2 hw3 hw4
          go_wp2_with fail
        case' neg =>
          generalize R[k].1 = x at f0 hsn hlen hx0 hx1
          generalize R[k].2 = q at f1 hsn
          have hd : decide ((0 : Int) < (k : Int)) = false := by simpa using hk0
          go_wp2_with fail
          go_quiet (fail)
          go_wp2_with fail
        all_goals
          have hbW : Below w1.heap.size w1 (wr.drewN nq) := below_drewN hb _
          have f0W : (wr.drewN nq).cell? ⟨blk, off + k * 2, none⟩ = some (.string x) := f0
          have f1W : (wr.drewN nq).cell? ⟨blk, off + k * 2 + 1, none⟩ = some (.bool q) := f1
          have hownW := own_below hown (below_drewN (Below.refl wr.heap.size wr) nq)
          have hszW := hbW.size
          have hblkW := Nat.lt_of_lt_of_le hblk hszW
          have hofl := ofL_length x q
          clear hb hown f0 f1
          generalize wr.drewN nq = W at *
          generalize (R.take k).flatMap ofR = F at *
          go_region_held3 (fun w' => w'.cell? ⟨blk, off + k * 2, none⟩ = some (.string x) ∧ w'.cell? ⟨blk, off + k * 2 + 1, none⟩ = some (.bool q))
            (first
              | go_keep
              | exact ⟨(hb2.cell (p := ⟨blk, off + k * 2, none⟩) hblkW).trans f0W, (hb2.cell (p := ⟨blk, off + k * 2 + 1, none⟩) hblkW).trans f1W⟩
              | exact ⟨(hb3.cell (p := ⟨blk, off + k * 2, none⟩) hblk).trans f0W, (hb3.cell (p := ⟨blk, off + k * 2 + 1, none⟩) hblk).trans f1W⟩)
            (first
              | (go_at_call 12; refine (of_any x q _ (by omega)).mono ?_; rintro e w2 ⟨v2, rfl, h2, hb2'⟩; have hb2 : Below W.heap.size W w2 := ((Below.refl _ W).drew).trans hb2')
              | (refine step_append_sl _ (by rfl) _ _ 22 (by rfl) w1.heap.size 61 j0 (.agg #[.int .u8 0, .bool false]) 2 2 Tryd.underlying22 ji jz0 jz1 jz2 (by rfl) (by decide) u6 F.length (cellsCh F) (by rfl) (own_below hownW hb2) w2.heap.size v2 (ofL x q).length (cellsCh (ofL x q)) (by rfl) h2 (cellsCh_one _) (by simp only [maxLen]; omega) (by omega) (by have := hb2.size; omega) ?_
                 intro v3 w3 hown3 hgrow
                 have hb3 : Below w1.heap.size W w3 := (hb2.mono hszW).grown hgrow (by have := hb2.size; omega) (fun g h => ((own_below hownW hb2).lt g h).1)))
          have hb4 := hbW.trans hb3
          have hown4 : w3.ownsRow w1.heap.size 61 2 v3 ((R.take (k + 1)).flatMap ofR).length (cellsCh ((R.take (k + 1)).flatMap ofR)) := by
            rw [hsn.out, List.length_append, cellsCh_append]; exact hown3
          clear hb3 hb2 hb2' hgrow hown3 hownW hbW f0W f1W h2
          go_wp2
          go_roundw
          case rel => exact ⟨k + 1, by omega, by go_num, hb4, hown4⟩
          case measure => simp [intOf]; omega
      · have hoT : Tx wr wr.heap.size u6 l := by
          have := Sl.of_own hown
          rw [List.take_of_length_le (by omega), hback.out] at this
          exact this
        have ht2 := (ht1.below hb).more hsz
        have hb2 : Below w.heap.size w wr := hb1.trans (hb.mono hb1.size)
        clear ht1 hb hb1 hown hfull hturn hback h1
        go_wp2_with fail
        refine (lsame_any l l _ _ _ _ hoT ht2 (Nat.le_refl _) (by omega) (by omega)).mono ?_
        rintro e w4 ⟨rfl, hb4⟩
        rw [self_same]
        have ht4 := (ht2.below hb4).more hb4.size
        have hb4' := hb2.trans (hb4.mono hb2.size)
        clear ht2 hb2 hb4 hoT
        go_wp2_with fail
        refine (part_any l b _ _ _ ht4 (Nat.le_refl _) (by omega)).mono ?_
        rintro e w5 ⟨v5, rfl, hp5, hb5⟩
        have hp5 := hp5.read
        have ht5 := (ht4.below hb5).more hb5.size
        have hb5' := hb4'.trans (hb5.mono hb4'.size)
        clear ht4 hb4' hb5
        have hPl : (partL b l).length ≤ 1001 := by have := partA_length b l []; unfold partL; omega
        obtain ⟨P, hP⟩ : ∃ P, Hid (partL b l = P) := ⟨_, rfl⟩
        have hle : Hid (∀ k : Nat, (accP b P k).length ≤ l.length) := by rw [← hP.out]; exact accP_le b l
        have hbare : Hid (∀ (k : Nat) (h : k < P.length), findInt P[k] b = -1) := by rw [← hP.out]; exact partL_bare b l
        have hend : Hid (accP b P P.length = l) := by rw [← hP.out, Hid, accP, List.take_length]; exact partL_back b l
        have hP0 : 0 < P.length := by rw [← hP.out]; exact partL_some b l
        rw [hP.out] at hp5 hPl
        clear hP
        obtain ⟨A5, c5, rfl, hc5, hcm5⟩ := hp5.form
        unfold maxLen at hcm5
        go_wp2_with fail
        go_loopw [6, 9] (fun o i wr => ∃ k : Nat, k ≤ P.length ∧ i = .int .i64 k ∧ Below w5.heap.size w5 wr ∧ wr.ownsRow w5.heap.size 61 2 o (accP b P k).length (cellsCh (accP b P k))) (fun _ i _ => P.length - (intOf i).toNat)
        case atStart => exact ⟨0, Nat.zero_le _, rfl, Below.refl _ _, World.ownsRow_nil _ _ _ _⟩
        case round =>
          obtain ⟨k, hk, rfl, hb, hown⟩ := hrel
          have hsz := hb.size
          by_cases hlt : k < P.length
          · obtain ⟨blk, off, u, hA, hblk, g0, hu⟩ := (hp5.below hb).at_ hlt
            subst hA
            have hblkw := Nat.lt_of_lt_of_le hblk hsz
            have hfd := Lib.hid (hbare.out k hlt)
            have hlk := hle.out (k + 1)
            by_cases hk0 : 0 < k
            · have hsn : Hid (accP b P (k + 1) = accP b P k ++ [(b, false)] ++ P[k]) := accP_snoc b P k hk0 hlt
              rw [hsn.out, List.length_append, List.length_append, List.length_singleton] at hlk
              generalize P[k] = m at hu hfd hsn hlk
              obtain ⟨Au, cu, rfl, _, _⟩ := hu.form
              go_wp2_with fail
              refine (find_any m b _ _ _ hu hsz).mono ?_
              rintro e w6 ⟨rfl, hb6⟩
              rw [hfd.out]
              have g6 := (hb6.cell (p := ⟨blk, off + k, none⟩) hblkw).trans g0
              have hu6 := hu.below (hb6.mono hsz)
              have hb6' := hb.trans (hb6.mono hsz)
              have hsz6 := hb6'.size
              have hown6 := (own_below hown hb6).alloc (.cells #[.int .u8 (b.toNat : Int), .bool false] 61)
              clear hb6 hu hown hb g0 hfd
              go_wp2_with (at_builtin; refine wpList_append_own _ rfl _ _ 22 rfl w5.heap.size 61 j0 (.agg #[.int .u8 0, .bool false]) 2 2 Tryd.underlying22 ji jz0 jz1 jz2 rfl (by decide) _ _ _ rfl hown6 ⟨w6.heap.size, 0, none⟩ 1 1 [.int .u8 (b.toNat : Int), .bool false] rfl rfl (new_cells w6 #[.int .u8 (b.toNat : Int), .bool false] _) ?c2 ?c3 ?c4 ?c5 ?_)
              case c2 => simp [Value.oneCell']
              case c3 => simp only [maxLen]; omega
              case c4 => omega
              case c5 => first | omega | (simp; omega)
              intro v7 w7 hown7 hgrow _
              have hb67 : Below w5.heap.size w6 w7 := ((Below.refl _ _).alloc hsz6 _).grown hgrow (by simp; omega) (fun g h => (hown6.lt g h).1)
              have g7 := (hb67.cell (p := ⟨blk, off + k, none⟩) hblk).trans g6
              have hu7 := hu6.below hb67
              have hb7 := hb6'.trans hb67
              have hsz7 := hb7.size
              have hown7' : w7.ownsRow w5.heap.size 61 2 v7 (accP b P k ++ [(b, false)]).length (cellsCh (accP b P k ++ [(b, false)])) := by
                rw [cellsCh_append, List.length_append]; exact hown7
              clear hb67 g6 hu6 hb6' hown6 hgrow hown7
              go_wp2_with (at_builtin; refine wpList_append_sl _ rfl _ _ 22 rfl w5.heap.size 61 j0 (.agg #[.int .u8 0, .bool false]) 2 2 Tryd.underlying22 ji jz0 jz1 jz2 rfl (by decide) _ _ _ rfl hown7' _ _ _ _ rfl hu7 (cellsCh_one _) ?d3 ?d4 ?d5 ?_)
              case d3 => rw [List.length_append, List.length_singleton]; simp only [maxLen]; omega
              case d4 => rw [List.length_append, List.length_singleton]; omega
              case d5 => omega
              intro v8 w8 hown8 hgrow
              have hb8 : Below w5.heap.size w5 w8 := hb7.grown hgrow (by omega) (fun g h => (hown7'.lt g h).1)
              have hown9 : w8.ownsRow w5.heap.size 61 2 v8 (accP b P (k + 1)).length (cellsCh (accP b P (k + 1))) := by
                rw [hsn.out, List.length_append, List.length_append, List.length_singleton, cellsCh_append]; exact hown8
              clear hb7 g7 hu7 hown7' hgrow hown8
              go_wp2
              go_roundw
              case rel => exact ⟨k + 1, by omega, by go_num, hb8, hown9⟩
              case measure => simp [intOf]; omega
            · have hk1 : k = 0 := by omega
              have hsn : Hid (accP b P (k + 1) = accP b P k ++ P[k]) := by
                subst hk1
                rw [Hid, accP_zero, List.nil_append]; exact accP_one b P hlt
              have hk2 : decide ((0 : Int) < (k : Int)) = false := by simpa using hk0
              clear hk1
              rw [hsn.out, List.length_append] at hlk
              generalize P[k] = m at hu hfd hsn hlk
              obtain ⟨Au, cu, rfl, _, _⟩ := hu.form
              go_wp2_with fail
              refine (find_any m b _ _ _ hu hsz).mono ?_
              rintro e w6 ⟨rfl, hb6⟩
              rw [hfd.out]
              have g6 := (hb6.cell (p := ⟨blk, off + k, none⟩) hblkw).trans g0
              have hu6 := hu.below (hb6.mono hsz)
              have hb6' := hb.trans (hb6.mono hsz)
              have hsz6 := hb6'.size
              have hown6 := own_below hown hb6
              clear hb6 hu hown hb g0 hfd
              go_wp2_with (at_builtin; refine wpList_append_sl _ rfl _ _ 22 rfl w5.heap.size 61 j0 (.agg #[.int .u8 0, .bool false]) 2 2 Tryd.underlying22 ji jz0 jz1 jz2 rfl (by decide) _ _ _ rfl hown6 _ _ _ _ rfl hu6 (cellsCh_one _) ?e3 ?e4 ?e5 ?_)
              case e3 => simp only [maxLen]; omega
              case e4 => omega
              case e5 => omega
              intro v8 w8 hown8 hgrow
              have hb8 : Below w5.heap.size w5 w8 := hb6'.grown hgrow (by omega) (fun g h => (hown6.lt g h).1)
              have hown9 : w8.ownsRow w5.heap.size 61 2 v8 (accP b P (k + 1)).length (cellsCh (accP b P (k + 1))) := by
                rw [hsn.out, List.length_append, cellsCh_append]; exact hown8
              clear g6 hu6 hb6' hown6 hgrow hown8
              go_wp2
              go_roundw
              case rel => exact ⟨k + 1, by omega, by go_num, hb8, hown9⟩
              case measure => simp [intOf]; omega
          · have hoT : Tx wr wr.heap.size u6 l := by
              have := Sl.of_own hown
              rw [show k = P.length by omega, hend.out] at this
              exact this
            have ht6 := (ht5.below hb).more hsz
            have hb6 : Below w.heap.size w wr := hb5'.trans (hb.mono hb5'.size)
            have hP1 : (0 : Int) < (P.length : Int) := by omega
            clear ht5 hb hb5' hown hle hbare hend hp5
            go_wp2_with fail
            refine (lsame_any l l _ _ _ _ hoT ht6 (Nat.le_refl _) (by omega) (by omega)).mono ?_
            rintro e w7 ⟨rfl, hb7⟩
            rw [self_same]
            have hb7' := hb6.trans (hb7.mono hb6.size)
            clear ht6 hb6 hb7 hoT
            go_wp2_with fail
            refine (awake_any _).mono ?_
            rintro e w8 ⟨rfl, hb8⟩
            have hb8' := hb7'.trans (hb8.mono hb7'.size)
            clear hb7' hb8
            go_wp2
            go_ret
            exact ⟨rfl, hb8'⟩
  · go_enter Tryd.func7, Tryd.ntmps7
    go_wp2_with fail
    refine (awake_any _).mono ?_
    rintro e w1 ⟨rfl, hb1⟩
    go_wp2
    go_ret
    exact ⟨rfl, hb1⟩
end Go.Proofs.YtdiiimcoannnnaaDoor
