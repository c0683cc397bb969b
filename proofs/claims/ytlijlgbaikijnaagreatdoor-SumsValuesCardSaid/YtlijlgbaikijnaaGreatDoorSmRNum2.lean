/-
  The reference's Number. Conditions: at most a million bytes.
-/
import Derived.Test.YtlijlgbaikijnaaGreatDoorSmRNumber
import Derived.Lib.IndexBytes
import Derived.Lib.Strings
import Derived.WalkMore
namespace Go.Proofs.YtlijlgbaikijnaaGreatDoor
open Go Go.RowKit

def trL (l : List UInt8) : List UInt8 := l.dropWhile blnk
def trR (l : List UInt8) : List UInt8 := (l.reverse.dropWhile blnk).reverse
theorem trR_cons (x : UInt8) (l : List UInt8) : trR (x :: l) = if trR l = [] ∧ blnk x = true then [] else x :: trR l := by
  unfold trR
  rw [List.reverse_cons, List.dropWhile_append]
  by_cases h : (l.reverse.dropWhile blnk) = []
  · rw [h]
    cases hb : blnk x <;> simp [hb]
  · have h2 : (l.reverse.dropWhile blnk).isEmpty = false := by cases hh : l.reverse.dropWhile blnk with | nil => exact absurd hh h | cons => rfl
    rw [h2]
    simp [h]
theorem tr_comm (l : List UInt8) : trR (trL l) = trL (trR l) := by
  induction l with
  | nil => rfl
  | cons x l ih =>
    rw [trR_cons]
    cases hb : blnk x with
    | true =>
      have e1 : trL (x :: l) = trL l := by unfold trL; rw [List.dropWhile_cons, if_pos hb]
      rw [e1, ih]
      by_cases h : trR l = []
      · rw [h]; simp [trL]
      · rw [if_neg (fun h2 => h h2.1)]
        show _ = (x :: trR l).dropWhile blnk
        rw [List.dropWhile_cons, if_pos hb]; rfl
    | false =>
      have e1 : trL (x :: l) = x :: l := by unfold trL; rw [List.dropWhile_cons, hb]; rfl
      rw [e1, trR_cons, hb]
      simp only [Bool.false_eq_true, and_false, if_false]
      unfold trL
      rw [List.dropWhile_cons, hb]; rfl
theorem trimS_eq (l : List UInt8) : Lib.trimS l [9, 10, 11, 12, 13, 32] = trR (trL l) := by rw [tr_comm]; rfl
theorem trR_last {l : List UInt8} (h : l ≠ []) : trR l = if blnk (l.getLast h) = true then trR l.dropLast else l := by
  have e : l = l.dropLast ++ [l.getLast h] := (List.dropLast_concat_getLast h).symm
  have e2 := congrArg List.reverse e
  simp only [List.reverse_append, List.reverse_singleton, List.singleton_append] at e2
  unfold trR
  rw [e2, List.dropWhile_cons]
  split
  · rfl
  · rw [← e2, List.reverse_reverse]

theorem digitsP_no {R : List UInt8} (h : ∀ b, R[0]? = some b → digB b = false) : (digitsP R).2 = 0 := by
  have h48 : R[0]? ≠ some 48 := fun e => by have := h _ e; revert this; decide
  unfold digitsP
  have hh : headB R = (10, 0) := by unfold headB; rw [if_neg h48]
  rw [hh]
  cases R with
  | nil => rfl
  | cons x l =>
    have hx := h x rfl
    simp only [List.drop_zero, Nat.zero_add]
    unfold digRun
    rw [List.takeWhile_cons, if_neg (by
      unfold digB at hx
      have : ¬ (48 ≤ x.toNat ∧ x.toNat ≤ 57) := by simpa using hx
      unfold digV
      rw [if_neg this]
      split
      · simp
      · split <;> simp)]
    rfl
theorem digitsP_yes {R : List UInt8} {b : UInt8} (h : R[0]? = some b) (hb : digB b = true) : 1 ≤ (digitsP R).2 := by
  unfold digitsP
  cases R with
  | nil => cases h
  | cons x l =>
    obtain rfl : x = b := by simpa using h
    have hr : 48 ≤ x.toNat ∧ x.toNat ≤ 57 := by unfold digB at hb; simpa using hb
    have hv : digV x = x.toNat - 48 := by unfold digV; rw [if_pos hr]
    rcases headB_cases (x :: l) with h1 | h1 | ⟨h1, _⟩
    · rw [h1]; simp only [List.drop_zero, Nat.zero_add]; unfold digRun; rw [List.takeWhile_cons, if_pos (by simp; omega)]; simp
    · rw [h1]; simp only [List.drop_zero, Nat.zero_add]
      have h48 : x = 48 := by
        unfold headB at h1
        split at h1
        · rename_i h2; simpa using h2
        · injection h1 with h3; omega
      unfold digRun; rw [List.takeWhile_cons, if_pos (by rw [h48]; decide)]; simp
    · rw [h1]; simp only; omega
/-- When the reference takes what it has read for a number. -/
theorem numTail_ref (m : Bool) (R : List UInt8) (X : Nat) (h1 : 1 ≤ (digitsP R).2) (hX : (digitsP R).1 < 18446744073709551616 → X = (digitsP R).1) (_ : X < 18446744073709551616) :
    numTail m R = if (digitsP R).1 < 18446744073709551616 ∧ ¬ (digitsP R).2 < R.length ∧ X ≤ 9223372036854775808 ∧ ¬ (X = 9223372036854775808 ∧ m = false) then some (if m then -(X : Int) else (X : Int)) else none := by
  unfold numTail
  by_cases hV : (digitsP R).1 < 18446744073709551616
  · rw [hX hV]
    by_cases hc : (digitsP R).2 < R.length
    · rw [if_pos (.inr (.inl hc)), if_neg (fun h => h.2.1 hc)]
    · cases m
      · simp only [Bool.false_eq_true, if_false, and_true]
        by_cases h9 : 9223372036854775807 < (digitsP R).1
        · rw [if_pos (.inr (.inr h9)), if_neg (by omega)]
        · rw [if_neg (by omega), if_pos (by omega)]
      · simp only [↓reduceIte, Bool.true_eq_false, and_false, not_false_eq_true, and_true]
        by_cases h9 : 9223372036854775808 < (digitsP R).1
        · rw [if_pos (.inr (.inr h9)), if_neg (by omega)]
        · rw [if_neg (by omega), if_pos (by omega)]
  · have h9 : (digitsP R).2 = 0 ∨ (digitsP R).2 < R.length ∨ (if m = true then 9223372036854775808 else 9223372036854775807) < (digitsP R).1 := by
      refine .inr (.inr ?_)
      split <;> omega
    rw [if_pos h9, if_neg (fun h => hV h.1)]

set_option maxHeartbeats 8000000 in
set_option maxRecDepth 100000 in
theorem rNumber_any (s : ByteArray) (w : World) (hs : s.size ≤ 1000000) : Calls Tryz.prog 9 #[.string s] w fun e w' => e = .returned (numR (numP (tl s))) ∧ w' = w := by
  unfold numP
  rw [trimS_eq]
  obtain ⟨T, hT⟩ : ∃ T, trR (trL (tl s)) = T := ⟨_, rfl⟩
  rw [hT]
  obtain ⟨RR, hRR⟩ : ∃ RR, numR (numT T) = RR := ⟨_, rfl⟩
  rw [hRR]
  replace hRR := Lib.hid hRR
  replace hT := Lib.hid hT
  go_enter Tryz.func9, Tryz.ntmps9
  go_wp2
  go_loopw [0] (fun sv wr => ∃ x : ByteArray, sv = .string x ∧ x.size ≤ s.size ∧ wr = w ∧ Hid (trR (trL (tl x)) = T)) (fun sv _ => match sv with | .string x => x.size | _ => 0)
  case atStart => exact ⟨s, rfl, Nat.le_refl _, rfl, hT⟩
  case round =>
    obtain ⟨x, rfl, hxs, rfl, hx⟩ := hrel
    cases hx0 : tl x with
    | nil =>
      have he : x.toList.isEmpty = true := by rw [Lib.toList_data]; show (tl x).isEmpty = true; rw [hx0]; rfl
      have hx1 : Hid (trR (tl x) = T) := by rw [Hid, ← hx.out, hx0]; rfl
      clear hx0 hx
      go_wp2
      go_loopw [0] (fun sv wr2 => ∃ y : ByteArray, sv = .string y ∧ y.size ≤ s.size ∧ wr2 = wr ∧ Hid (trR (tl y) = T)) (fun sv _ => match sv with | .string y => y.size | _ => 0)
      case atStart => exact ⟨x, rfl, hxs, rfl, hx1⟩
      case round =>
        clear hx1 he
        obtain ⟨y, rfl, hys, hwr2, hy⟩ := hrel
        obtain rfl := hwr2.symm
        cases hyT : tl y with
        | nil =>
          have he : y.toList.isEmpty = true := by rw [Lib.toList_data]; show (tl y).isEmpty = true; rw [hyT]; rfl
          have hRf : RR = .tuple #[.int .i64 0, .int .i64 0] := by rw [← hRR.out, ← hy.out, hyT]; rfl
          subst hRf
          clear hRR hyT hy
          go_wp2
          go_ret2
          exact ⟨rfl, rfl⟩
        | cons c r =>
          have he : y.toList.isEmpty = false := by rw [Lib.toList_data]; show (tl y).isEmpty = false; rw [hyT]; rfl
          have hy0 : 0 < y.size := by rw [← tl_len, hyT]; simp
          obtain ⟨m, hm⟩ : ∃ m, y.size = m + 1 := ⟨y.size - 1, by omega⟩
          have hm1 : m < y.size := by omega
          have k1 : IntKind.i64.wrap ((y.size : Int) - 1) = (m : Int) := by rw [show (y.size : Int) - 1 = (m : Int) by omega]; exact IntWalk.i64_in _ (by omega)
          have hne : tl y ≠ [] := by rw [hyT]; simp
          have hlast : (tl y).getLast hne = y[m] := by
            rw [List.getLast_eq_getElem]
            have := tl_get y m hm1
            rw [← this]
            congr 1
            rw [tl_len]; omega
          have hbl := fun W => rBlank_any y[m] W
          have hstep := trR_last hne
          rw [hlast] at hstep
          replace hm := Lib.hid hm
          cases hb : blnk y[m] with
          | true =>
            rw [hb] at hbl
            rw [hb, if_pos rfl] at hstep
            have hsz1 : (y.extract 0 m).size = m := by rw [← tl_len, tl_upto, List.length_take, tl_len]; omega
            have hy1 : Hid (trR (tl (y.extract 0 m)) = T) := by
              rw [Hid, ← hy.out, hstep, tl_upto, List.dropLast_eq_take, tl_len]
              congr 2
              have := hm.out; omega
            have i1 : (m : Int) ≤ (y.size : Int) := by omega
            clear hy hyT hb hstep hlast hne
            go_wp2_with fail
            refine (hbl _).mono ?_
            rintro e w4 ⟨rfl, hw4⟩
            obtain rfl := hw4.symm
            go_wp2
            go_roundw
            case rel => exact ⟨_, rfl, by omega, trivial, hy1⟩
            case measure => simp; omega
          | false =>
            rw [hb] at hbl
            rw [hb, if_neg (by simp)] at hstep
            have hT2 : T = c :: r := by rw [← hy.out, hstep, hyT]
            clear hy hb hstep hlast hne
            go_wp2_with fail
            refine (hbl _).mono ?_
            rintro e w4 ⟨rfl, hw4⟩
            obtain rfl := hw4.symm
            clear hbl k1
            have hyc : y[0] = c := by have := tl_get y 0 hy0; simp only [hyT, List.getElem_cons_zero] at this; exact this.symm
            by_cases c1 : c = 45
            · have i3 : (c.toNat : Int) = 45 := by rw [c1]; rfl
              have hTm : numT T = numTail true r := by rw [hT2]; unfold numT; simp only [c1, if_true]
              clear c1 hT2
              cases hr0 : r with
              | nil =>
                have hs1 : y.size = 1 := by rw [← tl_len, hyT, hr0]; rfl
                have e3 : ((1 : Int) == (y.size : Int)) = true := by rw [hs1]; rfl
                rw [hr0] at hTm
                have hTn : numT T = none := by rw [hTm]; decide
                clear hr0 hyT hTm hs1
                have hRf : RR = .tuple #[.int .i64 0, .int .i64 23] := by rw [← hRR.out, hTn]; rfl
                subst hRf
                clear hRR hTn
                go_wp2
                go_ret2
                exact ⟨rfl, rfl⟩
              | cons d r2 =>
                have hs1 : 1 < y.size := by rw [← tl_len, hyT, hr0]; simp
                have e3 : ((1 : Int) == (y.size : Int)) = false := by simp; omega
                have hyd : y[1] = d := by have := tl_get y 1 hs1; simp only [hyT, hr0, List.getElem_cons_succ, List.getElem_cons_zero] at this; exact this.symm
                have hdg := fun W => rDigit_any y[1] W
                rw [hyd] at hdg
                have hrd : (tl y).drop 1 = r := by rw [hyT]; rfl
                have hR0 : r[0]? = some d := by rw [hr0]; rfl
                cases hdd : digB d with
                | false =>
                  rw [hdd] at hdg
                  have hTn : numT T = none := by
                    rw [hTm]; unfold numTail; rw [if_pos (.inl (digitsP_no (fun b hb => by rw [hR0] at hb; rw [← Option.some.inj hb]; exact hdd)))]
                  clear hr0 hyT hTm hrd hR0 hdd
                  have hRf : RR = .tuple #[.int .i64 0, .int .i64 23] := by rw [← hRR.out, hTn]; rfl
                  subst hRf
                  clear hRR hTn
                  go_wp2_with fail
                  refine (hdg _).mono ?_
                  rintro e w4 ⟨rfl, hw4⟩
                  obtain rfl := hw4.symm
                  go_wp2
                  go_ret2
                  exact ⟨rfl, rfl⟩
                | true =>
                  rw [hdd] at hdg
                  have hd1 := digitsP_yes hR0 hdd
                  have hRl : r.length + 1 = y.size := by rw [← tl_len, hyT]; rfl
                  have hnum := fun W => rnumber_1 y W hs1 (by omega)
                  unfold RNumR at hnum
                  rw [hrd] at hnum
                  obtain ⟨R, hRR2⟩ : ∃ R, r = R := ⟨_, rfl⟩
                  rw [hRR2] at hnum hd1 hRl hTm
                  clear hr0 hyT hrd hR0 hdd hRR2
                  go_wp2_with fail
                  refine (hdg _).mono ?_
                  rintro e w4 ⟨rfl, hw4⟩
                  obtain rfl := hw4.symm
                  go_wp2_with fail
                  refine (hnum _).mono ?_
                  rintro e w4 ⟨hw4, X, rfl, hXe, hXl⟩
                  obtain rfl := hw4.symm
                  have href := numTail_ref true R X hd1 hXe hXl
                  rw [← hTm] at href
                  generalize (digitsP R).1 = V at href hXe ⊢
                  generalize (digitsP R).2 = P2 at href hd1 ⊢
                  have hRl2 := Lib.hid hRl
                  by_cases hV : V < 18446744073709551616
                  · rw [decide_eq_true hV]
                    by_cases hto : P2 < R.length
                    · rw [if_neg (fun h => h.2.1 hto)] at href
                      have i5 : ((1 + P2 : Nat) : Int) < (y.size : Int) := by omega
                      generalize 1 + P2 = PP at i5 ⊢
                      clear hXe hnum hTm hRl hV hto
                      have hRf : RR = .tuple #[.int .i64 0, .int .i64 23] := by rw [← hRR.out, href]; rfl
                      subst hRf
                      clear hRR href
                      go_wp2
                      go_ret2
                      exact ⟨rfl, rfl⟩
                    · have i5 : ¬ ((1 + P2 : Nat) : Int) < (y.size : Int) := by omega
                      generalize 1 + P2 = PP at i5 ⊢
                      by_cases hX : X ≤ 9223372036854775808
                      · have i6 : ¬ (9223372036854775808 : Int) < (X : Int) := by omega
                        rw [if_pos ⟨hV, hto, hX, fun h => by cases h.2⟩] at href
                        clear hXe hnum hTm hRl hV hto
                        obtain ⟨Y, k3, k4⟩ := neg_u64 X hX
                        have k5 : IntKind.u64.wrap (0 - (X : Int)) = Y := by rw [Int.zero_sub]; exact k3
                        by_cases hX2 : X = 9223372036854775808
                        · have e7 : ((X : Int) == 9223372036854775808) = true := by rw [hX2]; rfl
                          have hRf : RR = .tuple #[.int .i64 (-(X : Int)), .int .i64 0] := by rw [← hRR.out, href]; rfl
                          subst hRf
                          clear hRR href
                          clear hX2
                          go_wp2
                          go_ret2
                          exact ⟨rfl, rfl⟩
                        · have e7 : ((X : Int) == 9223372036854775808) = false := by simp; omega
                          have hRf : RR = .tuple #[.int .i64 (-(X : Int)), .int .i64 0] := by rw [← hRR.out, href]; rfl
                          subst hRf
                          clear hRR href
                          go_wp2
                          go_ret2
                          exact ⟨rfl, rfl⟩
                      · rw [if_neg (fun h => hX h.2.2.1)] at href
                        have i6 : (9223372036854775808 : Int) < (X : Int) := by omega
                        clear hXe hnum hTm hRl hV hto hX
                        have hRf : RR = .tuple #[.int .i64 0, .int .i64 23] := by rw [← hRR.out, href]; rfl
                        subst hRf
                        clear hRR href
                        go_wp2
                        go_ret2
                        exact ⟨rfl, rfl⟩
                  · rw [if_neg (fun h => hV h.1)] at href
                    rw [decide_eq_false hV]
                    clear hXe hnum hTm hRl hV
                    have hRf : RR = .tuple #[.int .i64 0, .int .i64 23] := by rw [← hRR.out, href]; rfl
                    subst hRf
                    clear hRR href
                    go_wp2
                    go_ret2
                    exact ⟨rfl, rfl⟩
            · have i3 : ¬ (c.toNat : Int) = 45 := fun h => c1 (UInt8.toNat_inj.1 (by show c.toNat = 45; omega))
              by_cases c2 : c = 43
              · have i4 : (c.toNat : Int) = 43 := by rw [c2]; rfl
                have hTm : numT T = numTail false r := by rw [hT2]; unfold numT; simp only [c2, if_true]; rfl
                clear c1 c2 hT2
                cases hr0 : r with
                | nil =>
                  have hs1 : y.size = 1 := by rw [← tl_len, hyT, hr0]; rfl
                  have e3 : ((1 : Int) == (y.size : Int)) = true := by rw [hs1]; rfl
                  rw [hr0] at hTm
                  have hTn : numT T = none := by rw [hTm]; decide
                  clear hr0 hyT hTm hs1
                  have hRf : RR = .tuple #[.int .i64 0, .int .i64 23] := by rw [← hRR.out, hTn]; rfl
                  subst hRf
                  clear hRR hTn
                  go_wp2
                  go_ret2
                  exact ⟨rfl, rfl⟩
                | cons d r2 =>
                  have hs1 : 1 < y.size := by rw [← tl_len, hyT, hr0]; simp
                  have e3 : ((1 : Int) == (y.size : Int)) = false := by simp; omega
                  have hyd : y[1] = d := by have := tl_get y 1 hs1; simp only [hyT, hr0, List.getElem_cons_succ, List.getElem_cons_zero] at this; exact this.symm
                  have hdg := fun W => rDigit_any y[1] W
                  rw [hyd] at hdg
                  have hrd : (tl y).drop 1 = r := by rw [hyT]; rfl
                  have hR0 : r[0]? = some d := by rw [hr0]; rfl
                  cases hdd : digB d with
                  | false =>
                    rw [hdd] at hdg
                    have hTn : numT T = none := by
                      rw [hTm]; unfold numTail; rw [if_pos (.inl (digitsP_no (fun b hb => by rw [hR0] at hb; rw [← Option.some.inj hb]; exact hdd)))]
                    clear hr0 hyT hTm hrd hR0 hdd
                    have hRf : RR = .tuple #[.int .i64 0, .int .i64 23] := by rw [← hRR.out, hTn]; rfl
                    subst hRf
                    clear hRR hTn
                    go_wp2_with fail
                    refine (hdg _).mono ?_
                    rintro e w4 ⟨rfl, hw4⟩
                    obtain rfl := hw4.symm
                    go_wp2
                    go_ret2
                    exact ⟨rfl, rfl⟩
                  | true =>
                    rw [hdd] at hdg
                    have hd1 := digitsP_yes hR0 hdd
                    have hRl : r.length + 1 = y.size := by rw [← tl_len, hyT]; rfl
                    have hnum := fun W => rnumber_1 y W hs1 (by omega)
                    unfold RNumR at hnum
                    rw [hrd] at hnum
                    obtain ⟨R, hRR2⟩ : ∃ R, r = R := ⟨_, rfl⟩
                    rw [hRR2] at hnum hd1 hRl hTm
                    clear hr0 hyT hrd hR0 hdd hRR2
                    go_wp2_with fail
                    refine (hdg _).mono ?_
                    rintro e w4 ⟨rfl, hw4⟩
                    obtain rfl := hw4.symm
                    go_wp2_with fail
                    refine (hnum _).mono ?_
                    rintro e w4 ⟨hw4, X, rfl, hXe, hXl⟩
                    obtain rfl := hw4.symm
                    have href := numTail_ref false R X hd1 hXe hXl
                    rw [← hTm] at href
                    generalize (digitsP R).1 = V at href hXe ⊢
                    generalize (digitsP R).2 = P2 at href hd1 ⊢
                    have hRl2 := Lib.hid hRl
                    by_cases hV : V < 18446744073709551616
                    · rw [decide_eq_true hV]
                      by_cases hto : P2 < R.length
                      · rw [if_neg (fun h => h.2.1 hto)] at href
                        have i5 : ((1 + P2 : Nat) : Int) < (y.size : Int) := by omega
                        generalize 1 + P2 = PP at i5 ⊢
                        clear hXe hnum hTm hRl hV hto
                        have hRf : RR = .tuple #[.int .i64 0, .int .i64 23] := by rw [← hRR.out, href]; rfl
                        subst hRf
                        clear hRR href
                        go_wp2
                        go_ret2
                        exact ⟨rfl, rfl⟩
                      · have i5 : ¬ ((1 + P2 : Nat) : Int) < (y.size : Int) := by omega
                        generalize 1 + P2 = PP at i5 ⊢
                        by_cases hX : X ≤ 9223372036854775808
                        · have i6 : ¬ (9223372036854775808 : Int) < (X : Int) := by omega
                          by_cases hX2 : X = 9223372036854775808
                          · rw [if_neg (fun h => h.2.2.2 ⟨hX2, rfl⟩)] at href
                            have e7 : ((X : Int) == 9223372036854775808) = true := by rw [hX2]; rfl
                            clear hXe hnum hTm hRl hV hto hX2
                            have hRf : RR = .tuple #[.int .i64 0, .int .i64 23] := by rw [← hRR.out, href]; rfl
                            subst hRf
                            clear hRR href
                            go_wp2
                            go_ret2
                            exact ⟨rfl, rfl⟩
                          · rw [if_pos ⟨hV, hto, hX, fun h => hX2 h.1⟩] at href
                            have e7 : ((X : Int) == 9223372036854775808) = false := by simp; omega
                            have k4 : IntKind.i64.wrap (X : Int) = (X : Int) := IntWalk.i64_in _ (by omega)
                            clear hXe hnum hTm hRl hV hto
                            have hRf : RR = .tuple #[.int .i64 (X : Int), .int .i64 0] := by rw [← hRR.out, href]; rfl
                            subst hRf
                            clear hRR href
                            go_wp2
                            go_ret2
                            exact ⟨rfl, rfl⟩
                        · rw [if_neg (fun h => hX h.2.2.1)] at href
                          have i6 : (9223372036854775808 : Int) < (X : Int) := by omega
                          clear hXe hnum hTm hRl hV hto hX
                          have hRf : RR = .tuple #[.int .i64 0, .int .i64 23] := by rw [← hRR.out, href]; rfl
                          subst hRf
                          clear hRR href
                          go_wp2
                          go_ret2
                          exact ⟨rfl, rfl⟩
                    · rw [if_neg (fun h => hV h.1)] at href
                      rw [decide_eq_false hV]
                      clear hXe hnum hTm hRl hV
                      have hRf : RR = .tuple #[.int .i64 0, .int .i64 23] := by rw [← hRR.out, href]; rfl
                      subst hRf
                      clear hRR href
                      go_wp2
                      go_ret2
                      exact ⟨rfl, rfl⟩
              · have i4 : ¬ (c.toNat : Int) = 43 := fun h => c2 (UInt8.toNat_inj.1 (by show c.toNat = 43; omega))
                have j3 : ((c.toNat : Int) == 45) = false := by simpa using i3
                have j4 : ((c.toNat : Int) == 43) = false := by simpa using i4
                have hTm : numT T = numTail false (c :: r) := by rw [hT2]; unfold numT; simp only [c1, c2, if_false]
                have e3 : ¬ ((0 : Int) = (y.size : Int)) := by omega
                have e4 : ¬ (y.size = 0) := by omega
                have e5 : ¬ ((y.size : Int) = 0) := by omega
                have hdg := fun W => rDigit_any y[0] W
                rw [hyc] at hdg
                have hrd : (tl y).drop 0 = c :: r := by rw [hyT]; rfl
                cases hdd : digB c with
                | false =>
                  rw [hdd] at hdg
                  have hTn : numT T = none := by
                    rw [hTm]; unfold numTail; rw [if_pos (.inl (digitsP_no (fun b hb => by rw [← Option.some.inj hb]; exact hdd)))]
                  clear hyT hTm hrd hdd c1 c2 hT2
                  have hRf : RR = .tuple #[.int .i64 0, .int .i64 23] := by rw [← hRR.out, hTn]; rfl
                  subst hRf
                  clear hRR hTn
                  go_wp2_with fail
                  refine (hdg _).mono ?_
                  rintro e w4 ⟨rfl, hw4⟩
                  obtain rfl := hw4.symm
                  go_wp2
                  go_ret2
                  exact ⟨rfl, rfl⟩
                | true =>
                  rw [hdd] at hdg
                  have hd1 := digitsP_yes (R := c :: r) rfl hdd
                  have hRl : (c :: r).length + 0 = y.size := by rw [← tl_len, hyT]; rfl
                  have hnum := fun W => rnumber_0 y W hy0 (by omega)
                  unfold RNumR at hnum
                  rw [hrd] at hnum
                  obtain ⟨R, hRR2⟩ : ∃ R, c :: r = R := ⟨_, rfl⟩
                  rw [hRR2] at hnum hd1 hRl hTm
                  clear hyT hrd hdd hRR2 c1 c2 hT2
                  go_wp2_with fail
                  refine (hdg _).mono ?_
                  rintro e w4 ⟨rfl, hw4⟩
                  obtain rfl := hw4.symm
                  go_wp2_with fail
                  refine (hnum _).mono ?_
                  rintro e w4 ⟨hw4, X, rfl, hXe, hXl⟩
                  obtain rfl := hw4.symm
                  have href := numTail_ref false R X hd1 hXe hXl
                  rw [← hTm] at href
                  generalize (digitsP R).1 = V at href hXe ⊢
                  generalize (digitsP R).2 = P2 at href hd1 ⊢
                  have hRl2 := Lib.hid hRl
                  by_cases hV : V < 18446744073709551616
                  · rw [decide_eq_true hV]
                    by_cases hto : P2 < R.length
                    · rw [if_neg (fun h => h.2.1 hto)] at href
                      have i5 : ((0 + P2 : Nat) : Int) < (y.size : Int) := by omega
                      generalize 0 + P2 = PP at i5 ⊢
                      clear hXe hnum hTm hRl hV hto
                      have hRf : RR = .tuple #[.int .i64 0, .int .i64 23] := by rw [← hRR.out, href]; rfl
                      subst hRf
                      clear hRR href
                      go_wp2
                      go_ret2
                      exact ⟨rfl, rfl⟩
                    · have i5 : ¬ ((0 + P2 : Nat) : Int) < (y.size : Int) := by omega
                      generalize 0 + P2 = PP at i5 ⊢
                      by_cases hX : X ≤ 9223372036854775808
                      · have i6 : ¬ (9223372036854775808 : Int) < (X : Int) := by omega
                        by_cases hX2 : X = 9223372036854775808
                        · rw [if_neg (fun h => h.2.2.2 ⟨hX2, rfl⟩)] at href
                          have e7 : ((X : Int) == 9223372036854775808) = true := by rw [hX2]; rfl
                          clear hXe hnum hTm hRl hV hto hX2
                          have hRf : RR = .tuple #[.int .i64 0, .int .i64 23] := by rw [← hRR.out, href]; rfl
                          subst hRf
                          clear hRR href
                          go_wp2
                          go_ret2
                          exact ⟨rfl, rfl⟩
                        · rw [if_pos ⟨hV, hto, hX, fun h => hX2 h.1⟩] at href
                          have e7 : ((X : Int) == 9223372036854775808) = false := by simp; omega
                          have k4 : IntKind.i64.wrap (X : Int) = (X : Int) := IntWalk.i64_in _ (by omega)
                          clear hXe hnum hTm hRl hV hto
                          have hRf : RR = .tuple #[.int .i64 (X : Int), .int .i64 0] := by rw [← hRR.out, href]; rfl
                          subst hRf
                          clear hRR href
                          go_wp2
                          go_ret2
                          exact ⟨rfl, rfl⟩
                      · rw [if_neg (fun h => hX h.2.2.1)] at href
                        have i6 : (9223372036854775808 : Int) < (X : Int) := by omega
                        clear hXe hnum hTm hRl hV hto hX
                        have hRf : RR = .tuple #[.int .i64 0, .int .i64 23] := by rw [← hRR.out, href]; rfl
                        subst hRf
                        clear hRR href
                        go_wp2
                        go_ret2
                        exact ⟨rfl, rfl⟩
                  · rw [if_neg (fun h => hV h.1)] at href
                    rw [decide_eq_false hV]
                    clear hXe hnum hTm hRl hV
                    have hRf : RR = .tuple #[.int .i64 0, .int .i64 23] := by rw [← hRR.out, href]; rfl
                    subst hRf
                    clear hRR href
                    go_wp2
                    go_ret2
                    exact ⟨rfl, rfl⟩
    | cons c r =>
      have hsz : 0 < x.size := by rw [← tl_len, hx0]; simp
      have hxc : x[0] = c := by have := tl_get x 0 hsz; simp only [hx0, List.getElem_cons_zero] at this; exact this.symm
      have he : x.toList.isEmpty = false := by rw [Lib.toList_data]; show (tl x).isEmpty = false; rw [hx0]; rfl
      have hbl := fun W => rBlank_any x[0] W
      rw [hxc] at hbl
      cases hb : blnk c with
      | true =>
        rw [hb] at hbl
        have ht1 : tl (x.extract 1 x.size) = r := by rw [tl_from, hx0]; rfl
        have hsz1 : (x.extract 1 x.size).size = x.size - 1 := by rw [← tl_len, ht1, ← tl_len, hx0]; simp
        have hx1 : Hid (trR (trL (tl (x.extract 1 x.size))) = T) := by
          rw [Hid, ht1, ← hx.out, hx0]
          show _ = trR ((c :: r).dropWhile blnk)
          rw [List.dropWhile_cons, if_pos hb]; rfl
        have i1 : (1 : Int) ≤ (x.size : Int) := by omega
        clear hx hx0 hb ht1
        go_wp2_with fail
        refine (hbl _).mono ?_
        rintro e w2 ⟨rfl, hw2⟩
        obtain rfl := hw2.symm
        go_wp2
        go_roundw
        case rel => exact ⟨_, rfl, by omega, trivial, hx1⟩
        case measure => simp; omega
      | false =>
        rw [hb] at hbl
        have hx1 : Hid (trR (tl x) = T) := by
          rw [Hid, ← hx.out, hx0]
          show _ = trR ((c :: r).dropWhile blnk)
          rw [List.dropWhile_cons, if_neg (by rw [hb]; simp)]
        clear hx hx0 hb
        go_wp2_with fail
        refine (hbl _).mono ?_
        rintro e w2 ⟨rfl, hw2⟩
        obtain rfl := hw2.symm
        clear hxc hbl
        go_wp2
        go_loopw [0] (fun sv wr2 => ∃ y : ByteArray, sv = .string y ∧ y.size ≤ s.size ∧ wr2 = wr ∧ Hid (trR (tl y) = T)) (fun sv _ => match sv with | .string y => y.size | _ => 0)
        case atStart => exact ⟨x, rfl, hxs, rfl, hx1⟩
        case round =>
          clear hx1 he
          obtain ⟨y, rfl, hys, hwr2, hy⟩ := hrel
          obtain rfl := hwr2.symm
          cases hyT : tl y with
          | nil =>
            have he : y.toList.isEmpty = true := by rw [Lib.toList_data]; show (tl y).isEmpty = true; rw [hyT]; rfl
            have hRf : RR = .tuple #[.int .i64 0, .int .i64 0] := by rw [← hRR.out, ← hy.out, hyT]; rfl
            subst hRf
            clear hRR hyT hy
            go_wp2
            go_ret2
            exact ⟨rfl, rfl⟩
          | cons c r =>
            have he : y.toList.isEmpty = false := by rw [Lib.toList_data]; show (tl y).isEmpty = false; rw [hyT]; rfl
            have hy0 : 0 < y.size := by rw [← tl_len, hyT]; simp
            obtain ⟨m, hm⟩ : ∃ m, y.size = m + 1 := ⟨y.size - 1, by omega⟩
            have hm1 : m < y.size := by omega
            have k1 : IntKind.i64.wrap ((y.size : Int) - 1) = (m : Int) := by rw [show (y.size : Int) - 1 = (m : Int) by omega]; exact IntWalk.i64_in _ (by omega)
            have hne : tl y ≠ [] := by rw [hyT]; simp
            have hlast : (tl y).getLast hne = y[m] := by
              rw [List.getLast_eq_getElem]
              have := tl_get y m hm1
              rw [← this]
              congr 1
              rw [tl_len]; omega
            have hbl := fun W => rBlank_any y[m] W
            have hstep := trR_last hne
            rw [hlast] at hstep
            replace hm := Lib.hid hm
            cases hb : blnk y[m] with
            | true =>
              rw [hb] at hbl
              rw [hb, if_pos rfl] at hstep
              have hsz1 : (y.extract 0 m).size = m := by rw [← tl_len, tl_upto, List.length_take, tl_len]; omega
              have hy1 : Hid (trR (tl (y.extract 0 m)) = T) := by
                rw [Hid, ← hy.out, hstep, tl_upto, List.dropLast_eq_take, tl_len]
                congr 2
                have := hm.out; omega
              have i1 : (m : Int) ≤ (y.size : Int) := by omega
              clear hy hyT hb hstep hlast hne
              go_wp2_with fail
              refine (hbl _).mono ?_
              rintro e w4 ⟨rfl, hw4⟩
              obtain rfl := hw4.symm
              go_wp2
              go_roundw
              case rel => exact ⟨_, rfl, by omega, trivial, hy1⟩
              case measure => simp; omega
            | false =>
              rw [hb] at hbl
              rw [hb, if_neg (by simp)] at hstep
              have hT2 : T = c :: r := by rw [← hy.out, hstep, hyT]
              clear hy hb hstep hlast hne
              go_wp2_with fail
              refine (hbl _).mono ?_
              rintro e w4 ⟨rfl, hw4⟩
              obtain rfl := hw4.symm
              clear hbl k1
              have hyc : y[0] = c := by have := tl_get y 0 hy0; simp only [hyT, List.getElem_cons_zero] at this; exact this.symm
              by_cases c1 : c = 45
              · have i3 : (c.toNat : Int) = 45 := by rw [c1]; rfl
                have hTm : numT T = numTail true r := by rw [hT2]; unfold numT; simp only [c1, if_true]
                clear c1 hT2
                cases hr0 : r with
                | nil =>
                  have hs1 : y.size = 1 := by rw [← tl_len, hyT, hr0]; rfl
                  have e3 : ((1 : Int) == (y.size : Int)) = true := by rw [hs1]; rfl
                  rw [hr0] at hTm
                  have hTn : numT T = none := by rw [hTm]; decide
                  clear hr0 hyT hTm hs1
                  have hRf : RR = .tuple #[.int .i64 0, .int .i64 23] := by rw [← hRR.out, hTn]; rfl
                  subst hRf
                  clear hRR hTn
                  go_wp2
                  go_ret2
                  exact ⟨rfl, rfl⟩
                | cons d r2 =>
                  have hs1 : 1 < y.size := by rw [← tl_len, hyT, hr0]; simp
                  have e3 : ((1 : Int) == (y.size : Int)) = false := by simp; omega
                  have hyd : y[1] = d := by have := tl_get y 1 hs1; simp only [hyT, hr0, List.getElem_cons_succ, List.getElem_cons_zero] at this; exact this.symm
                  have hdg := fun W => rDigit_any y[1] W
                  rw [hyd] at hdg
                  have hrd : (tl y).drop 1 = r := by rw [hyT]; rfl
                  have hR0 : r[0]? = some d := by rw [hr0]; rfl
                  cases hdd : digB d with
                  | false =>
                    rw [hdd] at hdg
                    have hTn : numT T = none := by
                      rw [hTm]; unfold numTail; rw [if_pos (.inl (digitsP_no (fun b hb => by rw [hR0] at hb; rw [← Option.some.inj hb]; exact hdd)))]
                    clear hr0 hyT hTm hrd hR0 hdd
                    have hRf : RR = .tuple #[.int .i64 0, .int .i64 23] := by rw [← hRR.out, hTn]; rfl
                    subst hRf
                    clear hRR hTn
                    go_wp2_with fail
                    refine (hdg _).mono ?_
                    rintro e w4 ⟨rfl, hw4⟩
                    obtain rfl := hw4.symm
                    go_wp2
                    go_ret2
                    exact ⟨rfl, rfl⟩
                  | true =>
                    rw [hdd] at hdg
                    have hd1 := digitsP_yes hR0 hdd
                    have hRl : r.length + 1 = y.size := by rw [← tl_len, hyT]; rfl
                    have hnum := fun W => rnumber_1 y W hs1 (by omega)
                    unfold RNumR at hnum
                    rw [hrd] at hnum
                    obtain ⟨R, hRR2⟩ : ∃ R, r = R := ⟨_, rfl⟩
                    rw [hRR2] at hnum hd1 hRl hTm
                    clear hr0 hyT hrd hR0 hdd hRR2
                    go_wp2_with fail
                    refine (hdg _).mono ?_
                    rintro e w4 ⟨rfl, hw4⟩
                    obtain rfl := hw4.symm
                    go_wp2_with fail
                    refine (hnum _).mono ?_
                    rintro e w4 ⟨hw4, X, rfl, hXe, hXl⟩
                    obtain rfl := hw4.symm
                    have href := numTail_ref true R X hd1 hXe hXl
                    rw [← hTm] at href
                    generalize (digitsP R).1 = V at href hXe ⊢
                    generalize (digitsP R).2 = P2 at href hd1 ⊢
                    have hRl2 := Lib.hid hRl
                    by_cases hV : V < 18446744073709551616
                    · rw [decide_eq_true hV]
                      by_cases hto : P2 < R.length
                      · rw [if_neg (fun h => h.2.1 hto)] at href
                        have i5 : ((1 + P2 : Nat) : Int) < (y.size : Int) := by omega
                        generalize 1 + P2 = PP at i5 ⊢
                        clear hXe hnum hTm hRl hV hto
                        have hRf : RR = .tuple #[.int .i64 0, .int .i64 23] := by rw [← hRR.out, href]; rfl
                        subst hRf
                        clear hRR href
                        go_wp2
                        go_ret2
                        exact ⟨rfl, rfl⟩
                      · have i5 : ¬ ((1 + P2 : Nat) : Int) < (y.size : Int) := by omega
                        generalize 1 + P2 = PP at i5 ⊢
                        by_cases hX : X ≤ 9223372036854775808
                        · have i6 : ¬ (9223372036854775808 : Int) < (X : Int) := by omega
                          rw [if_pos ⟨hV, hto, hX, fun h => by cases h.2⟩] at href
                          clear hXe hnum hTm hRl hV hto
                          obtain ⟨Y, k3, k4⟩ := neg_u64 X hX
                          have k5 : IntKind.u64.wrap (0 - (X : Int)) = Y := by rw [Int.zero_sub]; exact k3
                          by_cases hX2 : X = 9223372036854775808
                          · have e7 : ((X : Int) == 9223372036854775808) = true := by rw [hX2]; rfl
                            have hRf : RR = .tuple #[.int .i64 (-(X : Int)), .int .i64 0] := by rw [← hRR.out, href]; rfl
                            subst hRf
                            clear hRR href
                            clear hX2
                            go_wp2
                            go_ret2
                            exact ⟨rfl, rfl⟩
                          · have e7 : ((X : Int) == 9223372036854775808) = false := by simp; omega
                            have hRf : RR = .tuple #[.int .i64 (-(X : Int)), .int .i64 0] := by rw [← hRR.out, href]; rfl
                            subst hRf
                            clear hRR href
                            go_wp2
                            go_ret2
                            exact ⟨rfl, rfl⟩
                        · rw [if_neg (fun h => hX h.2.2.1)] at href
                          have i6 : (9223372036854775808 : Int) < (X : Int) := by omega
                          clear hXe hnum hTm hRl hV hto hX
                          have hRf : RR = .tuple #[.int .i64 0, .int .i64 23] := by rw [← hRR.out, href]; rfl
                          subst hRf
                          clear hRR href
                          go_wp2
                          go_ret2
                          exact ⟨rfl, rfl⟩
                    · rw [if_neg (fun h => hV h.1)] at href
                      rw [decide_eq_false hV]
                      clear hXe hnum hTm hRl hV
                      have hRf : RR = .tuple #[.int .i64 0, .int .i64 23] := by rw [← hRR.out, href]; rfl
                      subst hRf
                      clear hRR href
                      go_wp2
                      go_ret2
                      exact ⟨rfl, rfl⟩
              · have i3 : ¬ (c.toNat : Int) = 45 := fun h => c1 (UInt8.toNat_inj.1 (by show c.toNat = 45; omega))
                by_cases c2 : c = 43
                · have i4 : (c.toNat : Int) = 43 := by rw [c2]; rfl
                  have hTm : numT T = numTail false r := by rw [hT2]; unfold numT; simp only [c2, if_true]; rfl
                  clear c1 c2 hT2
                  cases hr0 : r with
                  | nil =>
                    have hs1 : y.size = 1 := by rw [← tl_len, hyT, hr0]; rfl
                    have e3 : ((1 : Int) == (y.size : Int)) = true := by rw [hs1]; rfl
                    rw [hr0] at hTm
                    have hTn : numT T = none := by rw [hTm]; decide
                    clear hr0 hyT hTm hs1
                    have hRf : RR = .tuple #[.int .i64 0, .int .i64 23] := by rw [← hRR.out, hTn]; rfl
                    subst hRf
                    clear hRR hTn
                    go_wp2
                    go_ret2
                    exact ⟨rfl, rfl⟩
                  | cons d r2 =>
                    have hs1 : 1 < y.size := by rw [← tl_len, hyT, hr0]; simp
                    have e3 : ((1 : Int) == (y.size : Int)) = false := by simp; omega
                    have hyd : y[1] = d := by have := tl_get y 1 hs1; simp only [hyT, hr0, List.getElem_cons_succ, List.getElem_cons_zero] at this; exact this.symm
                    have hdg := fun W => rDigit_any y[1] W
                    rw [hyd] at hdg
                    have hrd : (tl y).drop 1 = r := by rw [hyT]; rfl
                    have hR0 : r[0]? = some d := by rw [hr0]; rfl
                    cases hdd : digB d with
                    | false =>
                      rw [hdd] at hdg
                      have hTn : numT T = none := by
                        rw [hTm]; unfold numTail; rw [if_pos (.inl (digitsP_no (fun b hb => by rw [hR0] at hb; rw [← Option.some.inj hb]; exact hdd)))]
                      clear hr0 hyT hTm hrd hR0 hdd
                      have hRf : RR = .tuple #[.int .i64 0, .int .i64 23] := by rw [← hRR.out, hTn]; rfl
                      subst hRf
                      clear hRR hTn
                      go_wp2_with fail
                      refine (hdg _).mono ?_
                      rintro e w4 ⟨rfl, hw4⟩
                      obtain rfl := hw4.symm
                      go_wp2
                      go_ret2
                      exact ⟨rfl, rfl⟩
                    | true =>
                      rw [hdd] at hdg
                      have hd1 := digitsP_yes hR0 hdd
                      have hRl : r.length + 1 = y.size := by rw [← tl_len, hyT]; rfl
                      have hnum := fun W => rnumber_1 y W hs1 (by omega)
                      unfold RNumR at hnum
                      rw [hrd] at hnum
                      obtain ⟨R, hRR2⟩ : ∃ R, r = R := ⟨_, rfl⟩
                      rw [hRR2] at hnum hd1 hRl hTm
                      clear hr0 hyT hrd hR0 hdd hRR2
                      go_wp2_with fail
                      refine (hdg _).mono ?_
                      rintro e w4 ⟨rfl, hw4⟩
                      obtain rfl := hw4.symm
                      go_wp2_with fail
                      refine (hnum _).mono ?_
                      rintro e w4 ⟨hw4, X, rfl, hXe, hXl⟩
                      obtain rfl := hw4.symm
                      have href := numTail_ref false R X hd1 hXe hXl
                      rw [← hTm] at href
                      generalize (digitsP R).1 = V at href hXe ⊢
                      generalize (digitsP R).2 = P2 at href hd1 ⊢
                      have hRl2 := Lib.hid hRl
                      by_cases hV : V < 18446744073709551616
                      · rw [decide_eq_true hV]
                        by_cases hto : P2 < R.length
                        · rw [if_neg (fun h => h.2.1 hto)] at href
                          have i5 : ((1 + P2 : Nat) : Int) < (y.size : Int) := by omega
                          generalize 1 + P2 = PP at i5 ⊢
                          clear hXe hnum hTm hRl hV hto
                          have hRf : RR = .tuple #[.int .i64 0, .int .i64 23] := by rw [← hRR.out, href]; rfl
                          subst hRf
                          clear hRR href
                          go_wp2
                          go_ret2
                          exact ⟨rfl, rfl⟩
                        · have i5 : ¬ ((1 + P2 : Nat) : Int) < (y.size : Int) := by omega
                          generalize 1 + P2 = PP at i5 ⊢
                          by_cases hX : X ≤ 9223372036854775808
                          · have i6 : ¬ (9223372036854775808 : Int) < (X : Int) := by omega
                            by_cases hX2 : X = 9223372036854775808
                            · rw [if_neg (fun h => h.2.2.2 ⟨hX2, rfl⟩)] at href
                              have e7 : ((X : Int) == 9223372036854775808) = true := by rw [hX2]; rfl
                              clear hXe hnum hTm hRl hV hto hX2
                              have hRf : RR = .tuple #[.int .i64 0, .int .i64 23] := by rw [← hRR.out, href]; rfl
                              subst hRf
                              clear hRR href
                              go_wp2
                              go_ret2
                              exact ⟨rfl, rfl⟩
                            · rw [if_pos ⟨hV, hto, hX, fun h => hX2 h.1⟩] at href
                              have e7 : ((X : Int) == 9223372036854775808) = false := by simp; omega
                              have k4 : IntKind.i64.wrap (X : Int) = (X : Int) := IntWalk.i64_in _ (by omega)
                              clear hXe hnum hTm hRl hV hto
                              have hRf : RR = .tuple #[.int .i64 (X : Int), .int .i64 0] := by rw [← hRR.out, href]; rfl
                              subst hRf
                              clear hRR href
                              go_wp2
                              go_ret2
                              exact ⟨rfl, rfl⟩
                          · rw [if_neg (fun h => hX h.2.2.1)] at href
                            have i6 : (9223372036854775808 : Int) < (X : Int) := by omega
                            clear hXe hnum hTm hRl hV hto hX
                            have hRf : RR = .tuple #[.int .i64 0, .int .i64 23] := by rw [← hRR.out, href]; rfl
                            subst hRf
                            clear hRR href
                            go_wp2
                            go_ret2
                            exact ⟨rfl, rfl⟩
                      · rw [if_neg (fun h => hV h.1)] at href
                        rw [decide_eq_false hV]
                        clear hXe hnum hTm hRl hV
                        have hRf : RR = .tuple #[.int .i64 0, .int .i64 23] := by rw [← hRR.out, href]; rfl
                        subst hRf
                        clear hRR href
                        go_wp2
                        go_ret2
                        exact ⟨rfl, rfl⟩
                · have i4 : ¬ (c.toNat : Int) = 43 := fun h => c2 (UInt8.toNat_inj.1 (by show c.toNat = 43; omega))
                  have j3 : ((c.toNat : Int) == 45) = false := by simpa using i3
                  have j4 : ((c.toNat : Int) == 43) = false := by simpa using i4
                  have hTm : numT T = numTail false (c :: r) := by rw [hT2]; unfold numT; simp only [c1, c2, if_false]
                  have e3 : ¬ ((0 : Int) = (y.size : Int)) := by omega
                  have e4 : ¬ (y.size = 0) := by omega
                  have e5 : ¬ ((y.size : Int) = 0) := by omega
                  have hdg := fun W => rDigit_any y[0] W
                  rw [hyc] at hdg
                  have hrd : (tl y).drop 0 = c :: r := by rw [hyT]; rfl
                  cases hdd : digB c with
                  | false =>
                    rw [hdd] at hdg
                    have hTn : numT T = none := by
                      rw [hTm]; unfold numTail; rw [if_pos (.inl (digitsP_no (fun b hb => by rw [← Option.some.inj hb]; exact hdd)))]
                    clear hyT hTm hrd hdd c1 c2 hT2
                    have hRf : RR = .tuple #[.int .i64 0, .int .i64 23] := by rw [← hRR.out, hTn]; rfl
                    subst hRf
                    clear hRR hTn
                    go_wp2_with fail
                    refine (hdg _).mono ?_
                    rintro e w4 ⟨rfl, hw4⟩
                    obtain rfl := hw4.symm
                    go_wp2
                    go_ret2
                    exact ⟨rfl, rfl⟩
                  | true =>
                    rw [hdd] at hdg
                    have hd1 := digitsP_yes (R := c :: r) rfl hdd
                    have hRl : (c :: r).length + 0 = y.size := by rw [← tl_len, hyT]; rfl
                    have hnum := fun W => rnumber_0 y W hy0 (by omega)
                    unfold RNumR at hnum
                    rw [hrd] at hnum
                    obtain ⟨R, hRR2⟩ : ∃ R, c :: r = R := ⟨_, rfl⟩
                    rw [hRR2] at hnum hd1 hRl hTm
                    clear hyT hrd hdd hRR2 c1 c2 hT2
                    go_wp2_with fail
                    refine (hdg _).mono ?_
                    rintro e w4 ⟨rfl, hw4⟩
                    obtain rfl := hw4.symm
                    go_wp2_with fail
                    refine (hnum _).mono ?_
                    rintro e w4 ⟨hw4, X, rfl, hXe, hXl⟩
                    obtain rfl := hw4.symm
                    have href := numTail_ref false R X hd1 hXe hXl
                    rw [← hTm] at href
                    generalize (digitsP R).1 = V at href hXe ⊢
                    generalize (digitsP R).2 = P2 at href hd1 ⊢
                    have hRl2 := Lib.hid hRl
                    by_cases hV : V < 18446744073709551616
                    · rw [decide_eq_true hV]
                      by_cases hto : P2 < R.length
                      · rw [if_neg (fun h => h.2.1 hto)] at href
                        have i5 : ((0 + P2 : Nat) : Int) < (y.size : Int) := by omega
                        generalize 0 + P2 = PP at i5 ⊢
                        clear hXe hnum hTm hRl hV hto
                        have hRf : RR = .tuple #[.int .i64 0, .int .i64 23] := by rw [← hRR.out, href]; rfl
                        subst hRf
                        clear hRR href
                        go_wp2
                        go_ret2
                        exact ⟨rfl, rfl⟩
                      · have i5 : ¬ ((0 + P2 : Nat) : Int) < (y.size : Int) := by omega
                        generalize 0 + P2 = PP at i5 ⊢
                        by_cases hX : X ≤ 9223372036854775808
                        · have i6 : ¬ (9223372036854775808 : Int) < (X : Int) := by omega
                          by_cases hX2 : X = 9223372036854775808
                          · rw [if_neg (fun h => h.2.2.2 ⟨hX2, rfl⟩)] at href
                            have e7 : ((X : Int) == 9223372036854775808) = true := by rw [hX2]; rfl
                            clear hXe hnum hTm hRl hV hto hX2
                            have hRf : RR = .tuple #[.int .i64 0, .int .i64 23] := by rw [← hRR.out, href]; rfl
                            subst hRf
                            clear hRR href
                            go_wp2
                            go_ret2
                            exact ⟨rfl, rfl⟩
                          · rw [if_pos ⟨hV, hto, hX, fun h => hX2 h.1⟩] at href
                            have e7 : ((X : Int) == 9223372036854775808) = false := by simp; omega
                            have k4 : IntKind.i64.wrap (X : Int) = (X : Int) := IntWalk.i64_in _ (by omega)
                            clear hXe hnum hTm hRl hV hto
                            have hRf : RR = .tuple #[.int .i64 (X : Int), .int .i64 0] := by rw [← hRR.out, href]; rfl
                            subst hRf
                            clear hRR href
                            go_wp2
                            go_ret2
                            exact ⟨rfl, rfl⟩
                        · rw [if_neg (fun h => hX h.2.2.1)] at href
                          have i6 : (9223372036854775808 : Int) < (X : Int) := by omega
                          clear hXe hnum hTm hRl hV hto hX
                          have hRf : RR = .tuple #[.int .i64 0, .int .i64 23] := by rw [← hRR.out, href]; rfl
                          subst hRf
                          clear hRR href
                          go_wp2
                          go_ret2
                          exact ⟨rfl, rfl⟩
                    · rw [if_neg (fun h => hV h.1)] at href
                      rw [decide_eq_false hV]
                      clear hXe hnum hTm hRl hV
                      have hRf : RR = .tuple #[.int .i64 0, .int .i64 23] := by rw [← hRR.out, href]; rfl
                      subst hRf
                      clear hRR href
                      go_wp2
                      go_ret2
                      exact ⟨rfl, rfl⟩
end Go.Proofs.YtlijlgbaikijnaaGreatDoor
