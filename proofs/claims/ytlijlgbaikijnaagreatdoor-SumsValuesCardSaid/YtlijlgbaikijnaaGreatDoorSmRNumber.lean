/-
  The reference's numbers: Blank, Digit, digit, number, Number. Conditions: at most a million bytes.
  The reference's number with which a rest begins. Conditions: at most a million bytes.
-/
import Derived.Test.YtlijlgbaikijnaaGreatDoorSmNumber
namespace Go.Proofs.YtlijlgbaikijnaaGreatDoor
open Go Go.RowKit

def blnk (b : UInt8) : Bool := [9, 10, 11, 12, 13, 32].contains b
theorem blnk_iff (b : UInt8) : blnk b = true ↔ (9 ≤ b.toNat ∧ b.toNat ≤ 13) ∨ b.toNat = 32 := by
  revert b
  have h : ∀ n : Fin 256, blnk (UInt8.ofNat n.val) = true ↔ (9 ≤ n.val ∧ n.val ≤ 13) ∨ n.val = 32 := by decide +kernel
  intro b
  have := h ⟨b.toNat, b.toNat_lt⟩
  simpa using this
set_option maxHeartbeats 1000000 in
set_option maxRecDepth 100000 in
theorem rBlank_any (b : UInt8) (w : World) : Calls Tryz.prog 28 #[.int .u8 (b.toNat : Int)] w fun e w' => e = .returned (.bool (blnk b)) ∧ w' = w := by
  have hb := blnk_iff b
  obtain ⟨n, hn⟩ : ∃ n, b.toNat = n := ⟨_, rfl⟩
  rw [hn] at hb ⊢
  obtain ⟨q, hq⟩ : ∃ q, blnk b = q := ⟨_, rfl⟩
  rw [hq] at hb ⊢
  clear hq hn
  by_cases h1 : 9 ≤ n
  · by_cases h2 : n ≤ 13
    · have : q = true := hb.2 (.inl ⟨h1, h2⟩)
      subst this
      have i1 : (9 : Int) ≤ (n : Int) := by omega
      have i2 : (n : Int) ≤ (13 : Int) := by omega
      clear hb
      go_enter Tryz.func28, Tryz.ntmps28
      go_wp2
      go_ret
      exact ⟨rfl, rfl⟩
    · have : q = decide (n = 32) := by rw [Bool.eq_iff_iff, hb, decide_eq_true_iff]; omega
      subst this
      have i1 : (9 : Int) ≤ (n : Int) := by omega
      have i2 : ¬ (n : Int) ≤ (13 : Int) := by omega
      clear hb
      go_enter Tryz.func28, Tryz.ntmps28
      go_wp2
      go_ret
      exact ⟨ret_bool (by rw [Bool.eq_iff_iff]; simp; omega), rfl⟩
  · have : q = decide (n = 32) := by rw [Bool.eq_iff_iff, hb, decide_eq_true_iff]; omega
    subst this
    have i1 : ¬ (9 : Int) ≤ (n : Int) := by omega
    clear hb
    go_enter Tryz.func28, Tryz.ntmps28
    go_wp2
    go_ret
    exact ⟨ret_bool (by rw [Bool.eq_iff_iff]; simp; omega), rfl⟩
set_option maxHeartbeats 1000000 in
set_option maxRecDepth 100000 in
theorem rDigit_any (b : UInt8) (w : World) : Calls Tryz.prog 29 #[.int .u8 (b.toNat : Int)] w fun e w' => e = .returned (.bool (digB b)) ∧ w' = w := by
  unfold digB
  obtain ⟨n, hn⟩ : ∃ n, b.toNat = n := ⟨_, rfl⟩
  rw [hn]
  by_cases h1 : 48 ≤ n
  · have i1 : (48 : Int) ≤ (n : Int) := by omega
    clear hn
    go_enter Tryz.func29, Tryz.ntmps29
    go_wp2
    go_ret
    exact ⟨ret_bool (by first | rfl | (simp; done) | (simp; omega) | (rw [Bool.eq_iff_iff]; simp; omega)), rfl⟩
  · have i1 : ¬ (48 : Int) ≤ (n : Int) := by omega
    clear hn
    go_enter Tryz.func29, Tryz.ntmps29
    go_wp2
    go_ret
    exact ⟨ret_bool (by first | rfl | (simp; done) | (simp; omega) | (rw [Bool.eq_iff_iff]; simp; omega)), rfl⟩

/-- The reference's digit of a base. -/
def rdig (b : UInt8) (base : Nat) : Int := if digV b < base then (digV b : Int) else -1
set_option maxHeartbeats 2000000 in
set_option maxRecDepth 100000 in
theorem rdigit_any (b : UInt8) (base : Nat) (h0 : 1 ≤ base) (h1 : base ≤ 16) (w : World) : Calls Tryz.prog 57 #[.int .u8 (b.toNat : Int), .int .i64 (base : Int)] w fun e w' => e = .returned (.int .i64 (rdig b base)) ∧ w' = w := by
  have hd := fun W => rDigit_any b W
  unfold rdig
  unfold digB at hd
  have hdv : digV b = if 48 ≤ b.toNat ∧ b.toNat ≤ 57 then b.toNat - 48
    else if 97 ≤ b.toNat ∧ b.toNat ≤ 102 then b.toNat - 97 + 10
    else if 65 ≤ b.toNat ∧ b.toNat ≤ 70 then b.toNat - 65 + 10
    else 16 := rfl
  obtain ⟨V, hV⟩ : ∃ V, digV b = V := ⟨_, rfl⟩
  have hlt := b.toNat_lt
  obtain ⟨n, hn⟩ : ∃ n, b.toNat = n := ⟨_, rfl⟩
  rw [hn] at hd hdv hlt ⊢
  rw [hV] at hdv ⊢
  clear hn hV
  by_cases c1 : 48 ≤ n ∧ n ≤ 57
  · rw [if_pos c1] at hdv
    rw [decide_eq_true c1] at hd
    subst hdv
    obtain ⟨c1, c2⟩ := c1
    have k1 : IntKind.u8.wrap ((n : Int) - 48) = ((n - 48 : Nat) : Int) := by rw [show (n : Int) - 48 = ((n - 48 : Nat) : Int) by omega]; simp [IntKind.wrap, IntKind.bits, IntKind.signed]; omega
    generalize hm : n - 48 = m at k1 ⊢
    by_cases hb : m < base
    · rw [if_pos hb]
      have i1 : ¬ (base : Int) ≤ (m : Int) := by omega
      go_enter Tryz.func57, Tryz.ntmps57
      go_wp2_with fail
      refine (hd _).mono ?_
      rintro e w1 ⟨rfl, hw1⟩
      obtain rfl := hw1.symm
      go_wp2
      go_ret
      exact ⟨rfl, rfl⟩
    · rw [if_neg hb]
      have i1 : (base : Int) ≤ (m : Int) := by omega
      go_enter Tryz.func57, Tryz.ntmps57
      go_wp2_with fail
      refine (hd _).mono ?_
      rintro e w1 ⟨rfl, hw1⟩
      obtain rfl := hw1.symm
      go_wp2
      go_ret
      exact ⟨rfl, rfl⟩
  · rw [if_neg c1] at hdv
    rw [decide_eq_false c1] at hd
    by_cases c2 : 97 ≤ n ∧ n ≤ 102
    · rw [if_pos c2] at hdv
      subst hdv
      obtain ⟨c2, c3⟩ := c2
      have j1 : (97 : Int) ≤ (n : Int) := by omega
      have j2 : (n : Int) ≤ 102 := by omega
      have k1 : IntKind.u8.wrap ((n : Int) - 97) = ((n - 97 : Nat) : Int) := by rw [show (n : Int) - 97 = ((n - 97 : Nat) : Int) by omega]; simp [IntKind.wrap, IntKind.bits, IntKind.signed]; omega
      have hm5 : n - 97 ≤ 5 := by omega
      generalize hm : n - 97 = m at k1 hm5 ⊢
      by_cases hb : m + 10 < base
      · rw [if_pos hb]
        have i1 : ¬ (base : Int) ≤ (m : Int) + 10 := by omega
        go_enter Tryz.func57, Tryz.ntmps57
        go_wp2_with fail
        refine (hd _).mono ?_
        rintro e w1 ⟨rfl, hw1⟩
        obtain rfl := hw1.symm
        go_wp2
        go_ret
        exact ⟨ret_int (by omega), rfl⟩
      · rw [if_neg hb]
        have i1 : (base : Int) ≤ (m : Int) + 10 := by omega
        go_enter Tryz.func57, Tryz.ntmps57
        go_wp2_with fail
        refine (hd _).mono ?_
        rintro e w1 ⟨rfl, hw1⟩
        obtain rfl := hw1.symm
        go_wp2
        go_ret
        exact ⟨rfl, rfl⟩
    · rw [if_neg c2] at hdv
      have hnl : (97 : Int) ≤ (n : Int) → ¬ (n : Int) ≤ 102 := by omega
      by_cases c3 : 65 ≤ n ∧ n ≤ 70
      · rw [if_pos c3] at hdv
        subst hdv
        obtain ⟨c3, c4⟩ := c3
        have j1 : ¬ (97 : Int) ≤ (n : Int) := by omega
        have j2 : (65 : Int) ≤ (n : Int) := by omega
        have j3 : (n : Int) ≤ 70 := by omega
        have k1 : IntKind.u8.wrap ((n : Int) - 65) = ((n - 65 : Nat) : Int) := by rw [show (n : Int) - 65 = ((n - 65 : Nat) : Int) by omega]; simp [IntKind.wrap, IntKind.bits, IntKind.signed]; omega
        have hm5 : n - 65 ≤ 5 := by omega
        generalize hm : n - 65 = m at k1 hm5 ⊢
        by_cases hb : m + 10 < base
        · rw [if_pos hb]
          have i1 : ¬ (base : Int) ≤ (m : Int) + 10 := by omega
          go_enter Tryz.func57, Tryz.ntmps57
          go_wp2_with fail
          refine (hd _).mono ?_
          rintro e w1 ⟨rfl, hw1⟩
          obtain rfl := hw1.symm
          go_wp2
          go_ret
          exact ⟨ret_int (by omega), rfl⟩
        · rw [if_neg hb]
          have i1 : (base : Int) ≤ (m : Int) + 10 := by omega
          go_enter Tryz.func57, Tryz.ntmps57
          go_wp2_with fail
          refine (hd _).mono ?_
          rintro e w1 ⟨rfl, hw1⟩
          obtain rfl := hw1.symm
          go_wp2
          go_ret
          exact ⟨rfl, rfl⟩
      · rw [if_neg c3] at hdv
        subst hdv
        rw [if_neg (by omega)]
        have i1 : ¬ (base : Int) ≤ -1 := by omega
        by_cases d1 : 97 ≤ n
        · have j1 : (97 : Int) ≤ (n : Int) := by omega
          have j2 : ¬ (n : Int) ≤ 102 := by omega
          have j3 : (65 : Int) ≤ (n : Int) := by omega
          have j4 : ¬ (n : Int) ≤ 70 := by omega
          go_enter Tryz.func57, Tryz.ntmps57
          go_wp2_with fail
          refine (hd _).mono ?_
          rintro e w1 ⟨rfl, hw1⟩
          obtain rfl := hw1.symm
          go_wp2
          go_ret
          exact ⟨rfl, rfl⟩
        · have j1 : ¬ (97 : Int) ≤ (n : Int) := by omega
          by_cases d2 : 65 ≤ n
          · have j3 : (65 : Int) ≤ (n : Int) := by omega
            have j4 : ¬ (n : Int) ≤ 70 := by omega
            go_enter Tryz.func57, Tryz.ntmps57
            go_wp2_with fail
            refine (hd _).mono ?_
            rintro e w1 ⟨rfl, hw1⟩
            obtain rfl := hw1.symm
            go_wp2
            go_ret
            exact ⟨rfl, rfl⟩
          · have j3 : ¬ (65 : Int) ≤ (n : Int) := by omega
            go_enter Tryz.func57, Tryz.ntmps57
            go_wp2_with fail
            refine (hd _).mono ?_
            rintro e w1 ⟨rfl, hw1⟩
            obtain rfl := hw1.symm
            go_wp2
            go_ret
            exact ⟨rfl, rfl⟩
end Go.Proofs.YtlijlgbaikijnaaGreatDoor

namespace Go.Proofs.YtlijlgbaikijnaaGreatDoor
open Go Go.RowKit

/-- What the reference's number answers. -/
def RNumR (s : ByteArray) (I : Nat) (w : World) (e : Ending) (w' : World) : Prop :=
  w' = w ∧ ∃ X : Nat, e = .returned (.tuple #[.int .u64 (X : Int), .int .i64 ((I + (digitsP ((tl s).drop I)).2 : Nat) : Int), .bool (decide ((digitsP ((tl s).drop I)).1 < 18446744073709551616))]) ∧
    ((digitsP ((tl s).drop I)).1 < 18446744073709551616 → X = (digitsP ((tl s).drop I)).1) ∧ X < 18446744073709551616
theorem over_step {B V v dd : Nat} (hB : 0 < B) (hd : dd ≤ 18446744073709551615) (hv : v = V) : ((18446744073709551615 - dd) / B < v ↔ ¬ V * B + dd < 18446744073709551616) := by
  subst hv
  rw [Nat.div_lt_iff_lt_mul hB]
  omega

set_option maxHeartbeats 8000000 in
set_option maxRecDepth 100000 in
theorem rnumber_0 (s : ByteArray) (w : World) (hI : 0 < s.size) (hs : s.size ≤ 1000000) : Calls Tryz.prog 30 #[.string s, .int .i64 0] w (RNumR s 0 w) := by
  unfold RNumR
  obtain ⟨L0, hL0⟩ : ∃ L0, (tl s).drop 0 = L0 := ⟨_, rfl⟩
  have hL0l : L0.length = s.size - 0 := by rw [← hL0, List.length_drop, tl_len]
  have hL0g : ∀ k (h : 0 + k < s.size), L0[k]? = some s[0 + k] := fun k h => by rw [← hL0, List.getElem?_drop]; exact tl_opt s _ h
  rw [hL0]
  obtain ⟨B, N0, hH⟩ : ∃ B N0, headB L0 = (B, N0) := ⟨_, _, rfl⟩
  have hB : (B = 8 ∨ B = 10 ∨ B = 16) ∧ N0 ≤ L0.length := by
    rcases headB_cases L0 with h | h | ⟨h, h2⟩
    all_goals
      rw [hH] at h
      injection h with h1 h2'
      omega
  obtain ⟨V, N, hP⟩ : ∃ V N, digitsP L0 = (V, N) := ⟨_, _, rfl⟩
  rw [hP]
  have hP2 : V = valB B (digRun B (L0.drop N0)) ∧ N = N0 + (digRun B (L0.drop N0)).length := by
    unfold digitsP at hP
    rw [hH] at hP
    injection hP with h1 h2
    exact ⟨h1.symm, h2.symm⟩
  have hP3 := Lib.hid hP2
  have hH2 := Lib.hid hH
  have hL0g := Lib.hid hL0g
  have hL0l := Lib.hid hL0l
  have hL0 := Lib.hid hL0
  simp only
  obtain ⟨NN, hNN⟩ : ∃ NN, 0 + N = NN := ⟨_, rfl⟩
  rw [hNN]
  have hNN := Lib.hid hNN
  clear hP hP2 hH
  go_enter Tryz.func30, Tryz.ntmps30
  go_upto_region 2 with fail
  go_cut [43] from 11 to 42 (fun qv wx => wx = w ∧ qv = .bool (decide (B = 16)))
  case first =>
    have e0 := hL0g.out 0 hI
    by_cases h0 : s[0] = 48
    · have i0 : (s[0].toNat : Int) = 48 := by rw [h0]; rfl
      have h00 : L0[0]? = some 48 := by rw [e0]; exact congrArg some h0
      by_cases h2 : 0 + 2 < s.size
      · have hh : headB L0 = if (s[0 + 1] = 120 ∨ s[0 + 1] = 88) ∧ digV s[0 + 2] < 16 then (16, 2) else (8, 0) := by
          unfold headB; rw [if_pos h00, hL0g.out 1 (by omega), hL0g.out 2 h2]
        rw [hH2.out] at hh
        have hdg := rdigit_any s[0 + 2] 16 (by omega) (by omega)
        simp only [Nat.reduceAdd] at hdg hh
        by_cases hx : s[0 + 1] = 120 ∨ s[0 + 1] = 88
        · by_cases hd : digV s[0 + 2] < 16
          · rw [if_pos ⟨hx, hd⟩] at hh
            obtain ⟨rfl, rfl⟩ := Prod.mk.inj hh
            have i3 : (0 : Int) ≤ rdig s[0 + 2] 16 := by unfold rdig; rw [if_pos hd]; omega
            simp only [Nat.reduceAdd] at i3 hx
            generalize rdig s[2] 16 = rd at hdg i3
            clear hh hH2 hP3 h0 h00 e0
            rcases hx with hx | hx
            · have i1 : (s[1].toNat : Int) = 120 := by rw [hx]; rfl
              clear hx
              go_wp2_with fail
              refine (hdg _).mono ?_
              rintro e w2 ⟨rfl, hw2⟩
              obtain rfl := hw2.symm
              go_wp2
              go_meet
              case rel => exact ⟨rfl, rfl⟩
            · have i1 : (s[1].toNat : Int) = 88 := by rw [hx]; rfl
              clear hx
              go_wp2_with fail
              refine (hdg _).mono ?_
              rintro e w2 ⟨rfl, hw2⟩
              obtain rfl := hw2.symm
              go_wp2
              go_meet
              case rel => exact ⟨rfl, rfl⟩
          · rw [if_neg (fun h => hd h.2)] at hh
            obtain ⟨rfl, rfl⟩ := Prod.mk.inj hh
            have i3 : ¬ (0 : Int) ≤ rdig s[0 + 2] 16 := by unfold rdig; rw [if_neg hd]; omega
            simp only [Nat.reduceAdd] at i3 hx
            generalize rdig s[2] 16 = rd at hdg i3
            clear hh hH2 hP3 h0 h00 e0
            rcases hx with hx | hx
            · have i1 : (s[1].toNat : Int) = 120 := by rw [hx]; rfl
              clear hx
              go_wp2_with fail
              refine (hdg _).mono ?_
              rintro e w2 ⟨rfl, hw2⟩
              obtain rfl := hw2.symm
              go_wp2
              go_meet
              case rel => exact ⟨rfl, by first | rfl | (congr 1; rw [show decide (0 ≤ rd) = false from decide_eq_false (by omega)]; rfl)⟩
            · have i1 : (s[1].toNat : Int) = 88 := by rw [hx]; rfl
              clear hx
              go_wp2_with fail
              refine (hdg _).mono ?_
              rintro e w2 ⟨rfl, hw2⟩
              obtain rfl := hw2.symm
              go_wp2
              go_meet
              case rel => exact ⟨rfl, by first | rfl | (congr 1; rw [show decide (0 ≤ rd) = false from decide_eq_false (by omega)]; rfl)⟩
        · rw [if_neg (fun h => hx h.1)] at hh
          obtain ⟨rfl, rfl⟩ := Prod.mk.inj hh
          have i1 : ¬ (s[0 + 1].toNat : Int) = 120 := fun h => hx (.inl (UInt8.toNat_inj.1 (by show s[0 + 1].toNat = 120; omega)))
          have i2 : ¬ (s[0 + 1].toNat : Int) = 88 := fun h => hx (.inr (UInt8.toNat_inj.1 (by show s[0 + 1].toNat = 88; omega)))
          simp only [Nat.reduceAdd] at i1 i2
          clear hh hH2 hP3 hdg hx h0 h00 e0
          go_wp2
          go_meet
          case rel => exact ⟨rfl, rfl⟩
      · have hh : headB L0 = (8, 0) := by
          have e2 : L0[2]? = none := List.getElem?_eq_none (by have := hL0l.out; omega)
          unfold headB; rw [if_pos h00, e2]
          split
          · rename_i h9; cases h9
          · rfl
        rw [hH2.out] at hh
        obtain ⟨rfl, rfl⟩ := Prod.mk.inj hh
        clear hh hH2 hP3 h0 h00 e0
        go_wp2
        go_meet
        case rel => exact ⟨rfl, rfl⟩
    · have i0 : ¬ (s[0].toNat : Int) = 48 := fun h => h0 (UInt8.toNat_inj.1 (by show s[0].toNat = 48; omega))
      have hh : headB L0 = (10, 0) := by unfold headB; rw [if_neg (by rw [e0]; intro h; exact h0 (Option.some.inj h))]
      rw [hH2.out] at hh
      obtain ⟨rfl, rfl⟩ := Prod.mk.inj hh
      clear hh hH2 hP3 h0 e0
      by_cases h2 : 0 + 2 < s.size
      · go_wp2
        go_meet
        case rel => exact ⟨rfl, rfl⟩
      · go_wp2
        go_meet
        case rel => exact ⟨rfl, rfl⟩
  case rest =>
    obtain ⟨rfl, rfl⟩ := hcut
    go_upto_if 43 with fail
    go_cut [1, 7] from 44 to 49 (fun nv bv wx => wx = wc ∧ bv = .int .i64 (B : Int) ∧ nv = .int .i64 ((0 + N0 : Nat) : Int))
    case first =>
      have hh := headB_cases L0
      rw [hH2.out] at hh
      have e0 := hL0g.out 0 hI
      rcases hh with h | h | ⟨h, _⟩
      · obtain ⟨rfl, rfl⟩ := Prod.mk.inj h
        have i0 : ¬ (s[0].toNat : Int) = 48 := fun h9 => by
          have h00 : L0[0]? = some 48 := by rw [e0]; exact congrArg some (UInt8.toNat_inj.1 (by show s[0].toNat = 48; omega))
          have h8 := hH2.out
          unfold headB at h8
          rw [if_pos h00] at h8
          split at h8
          · split at h8 <;> (injection h8 with h7; omega)
          · injection h8 with h7; omega
        have hq : decide (10 = 16) = false := by decide
        rw [hq]
        clear h hH2 hP3 e0
        go_wp2
        go_meet
        case rel => exact ⟨rfl, rfl, rfl⟩
      · obtain ⟨rfl, rfl⟩ := Prod.mk.inj h
        have i0 : (s[0].toNat : Int) = 48 := by
          have h8 := hH2.out
          unfold headB at h8
          split at h8
          · rename_i h00
            rw [e0] at h00
            have := Option.some.inj h00
            rw [show s[0].toNat = 48 by rw [show s[0] = 48 from this]; rfl]; rfl
          · injection h8 with h7; omega
        have hq : decide (8 = 16) = false := by decide
        rw [hq]
        clear h hH2 hP3 e0
        go_wp2
        go_meet
        case rel => exact ⟨rfl, rfl, rfl⟩
      · obtain ⟨rfl, rfl⟩ := Prod.mk.inj h
        have hq : decide (16 = 16) = true := by decide
        rw [hq]
        clear h hH2 hP3 e0
        go_wp2
        go_meet
        case rel => exact ⟨rfl, rfl, rfl⟩
    case rest =>
      obtain ⟨rfl, rfl, rfl⟩ := hcut
      clear hH2
      obtain ⟨L, hL⟩ : ∃ L, L0.drop N0 = L := ⟨_, rfl⟩
      rw [hL] at hP3
      have hLl : L.length = s.size - (0 + N0) := by have := hL0l.out; rw [← hL, List.length_drop]; omega
      have hLg : ∀ k (h : 0 + N0 + k < s.size) (h2 : k < L.length), L[k] = s[0 + N0 + k] := fun k h h2 => by
        have h3 := hL0g.out (N0 + k) (by omega)
        rw [← List.getElem?_drop, hL, List.getElem?_eq_getElem h2] at h3
        rw [Option.some.inj h3]
        congr 1; omega
      have hLg := Lib.hid hLg
      have hLl := Lib.hid hLl
      have hN0 := hL0l.out
      have hB0 := Lib.hid hB.2
      obtain ⟨M0, hM0⟩ : ∃ M0, 0 + N0 = M0 := ⟨_, rfl⟩
      have hPN : Hid (NN = M0 + (digRun B L).length) := by rw [Hid, ← hNN.out, hP3.out.2]; omega
      have hPV : Hid (V = valB B (digRun B L)) := hP3.out.1
      have hM0s : M0 ≤ s.size := by have := hB.2; omega
      rw [hM0] at hLl hLg ⊢
      have hB := hB.1
      clear hL hP3 hM0 hN0 hB0 hL0 hL0g hL0l
      go_wp2
      go_loopw [1, 8, 9] (fun nv vv ov wr => ∃ n v : Nat, ∃ ok : Bool, n ≤ s.size ∧ nv = .int .i64 (n : Int) ∧ vv = .int .u64 (v : Int) ∧ ov = .bool ok ∧ v < 18446744073709551616 ∧ wr = wc ∧ Hid (∃ k, M0 + k = n ∧ ok = decide (valB B (L.take k) < 18446744073709551616) ∧ (ok = true → v = valB B (L.take k)) ∧ ∀ j (hj : j < L.length), j < k → digV L[j] < B)) (fun nv _ _ _ => s.size - (intOf nv).toNat)
      case atStart => exact ⟨M0, 0, true, by omega, rfl, rfl, rfl, by omega, rfl, 0, rfl, rfl, fun _ => rfl, fun j _ h => absurd h (by omega)⟩
      case round =>
        obtain ⟨n, v, ok, hn, rfl, rfl, rfl, hv, rfl, hinv⟩ := hrel
        by_cases hlt : n < s.size
        · have hdg := fun W => rdigit_any s[n] B (by omega) (by omega) W
          have hdv := digV_le s[n]
          have hmem : Hid (∃ k, ∃ hkL : k < L.length, M0 + k = n ∧ L[k] = s[n] ∧ ok = decide (valB B (L.take k) < 18446744073709551616) ∧ (ok = true → v = valB B (L.take k)) ∧ ∀ j (hj : j < L.length), j < k → digV L[j] < B) := by
            obtain ⟨k, hk, h1, h2, h3⟩ := hinv.out
            have hkL : k < L.length := by have := hLl.out; omega
            have hc := hLg.out k (by omega) hkL
            exact ⟨k, hkL, hk, by rw [hc]; congr 1, h1, h2, h3⟩
          obtain ⟨dd, hdd⟩ : ∃ dd, digV s[n] = dd := ⟨_, rfl⟩
          unfold rdig at hdg
          rw [hdd] at hdg hdv
          by_cases hd : dd < B
          · rw [if_pos hd] at hdg
            obtain ⟨X, hX⟩ : ∃ X : Nat, IntKind.u64.wrap (IntKind.u64.wrap ((v : Int) * (B : Int)) + (dd : Int)) = (X : Int) ∧ X < 18446744073709551616 ∧ (v * B + dd < 18446744073709551616 → X = v * B + dd) := by
              refine ⟨(v * B + dd) % 18446744073709551616, ?_, Nat.mod_lt _ (by decide), fun h => Nat.mod_eq_of_lt h⟩
              rw [IntKind.wrap_u64, IntKind.wrap_u64]
              omega
            obtain ⟨k7, hXl, hXe⟩ := hX
            have k1 : IntKind.u64.wrap (18446744073709551615 - (dd : Int)) = ((18446744073709551615 - dd : Nat) : Int) := by
              rw [show (18446744073709551615 : Int) - (dd : Int) = ((18446744073709551615 - dd : Nat) : Int) by omega]; exact IntWalk.u64_in _ (by omega)
            obtain ⟨D, hD⟩ : ∃ D, 18446744073709551615 - dd = D := ⟨_, rfl⟩
            rw [hD] at k1
            have hnext : ∀ ok' : Bool, (D / B < v → ok' = false) → (¬ D / B < v → ok' = ok) → Hid (∃ k, M0 + k = n + 1 ∧ ok' = decide (valB B (L.take k) < 18446744073709551616) ∧ (ok' = true → X = valB B (L.take k)) ∧ ∀ j (hj : j < L.length), j < k → digV L[j] < B) := by
              intro ok' h1 h2
              obtain ⟨k, hkL, hk, hc2, h3, h4, hall⟩ := hmem.out
              have hvt := valB_take B L k hkL
              rw [hc2, hdd] at hvt
              have hall2 : ∀ j (hj : j < L.length), j < k + 1 → digV L[j] < B := fun j hj hjk => by
                by_cases e : j = k
                · subst e; rw [hc2, hdd]; exact hd
                · exact hall j hj (by omega)
              generalize valB B (L.take k) = Vk at hvt h3 h4
              have hmul : Vk ≤ Vk * B := Nat.le_mul_of_pos_right _ (by omega)
              refine ⟨k + 1, by omega, ?_, ?_, hall2⟩
              · rw [hvt]
                by_cases hq : D / B < v
                · rw [h1 hq]
                  by_cases hok : ok = true
                  · have := (over_step (B := B) (V := Vk) (v := v) (dd := dd) (by omega) (by omega) (h4 hok)).1 (by rw [hD]; exact hq)
                    exact (decide_eq_false this).symm
                  · have h5 : ¬ Vk < 18446744073709551616 := by intro h6; rw [decide_eq_true h6] at h3; exact hok h3
                    exact (decide_eq_false (by omega)).symm
                · rw [h2 hq]
                  by_cases hok : ok = true
                  · have h5 : Vk * B + dd < 18446744073709551616 := Classical.byContradiction fun h6 => hq (by rw [← hD]; exact (over_step (by omega) (by omega) (h4 hok)).2 h6)
                    rw [hok]; exact (decide_eq_true h5).symm
                  · have h5 : ¬ Vk < 18446744073709551616 := by intro h6; rw [decide_eq_true h6] at h3; exact hok h3
                    have hof : ok = false := by simpa using hok
                    rw [hof]; exact (decide_eq_false (by omega)).symm
              · intro hok'
                have hq : ¬ D / B < v := fun hq => by rw [h1 hq] at hok'; cases hok'
                have hok : ok = true := by rw [← h2 hq]; exact hok'
                have h5 : Vk * B + dd < 18446744073709551616 := Classical.byContradiction fun h6 => hq (by rw [← hD]; exact (over_step (by omega) (by omega) (h4 hok)).2 h6)
                rw [hvt]
                have := h4 hok
                subst this
                exact hXe h5
            clear hinv hmem hXe hPN hPV
            have i0 : (0 : Int) ≤ (dd : Int) := by omega
            have k9 : IntKind.u64.wrap (dd : Int) = (dd : Int) := IntWalk.u64_in _ (by omega)
            have k2 : IntKind.u64.wrap ((D : Int) / (B : Int)) = ((D / B : Nat) : Int) := by
              rw [← Int.natCast_ediv]
              have := Nat.div_le_self D B
              generalize D / B = QQ at this ⊢
              exact IntWalk.u64_in _ (by omega)
            by_cases hq : D / B < v
            · have i2 : ((D / B : Nat) : Int) < (v : Int) := by omega
              generalize D / B = QQ at k2 i2 hq hnext
              have hnx := hnext false (fun _ => rfl) (fun h => absurd hq h)
              clear hnext hq hD hdd hd hB
              go_wp2_with fail
              refine (hdg _).mono ?_
              rintro e w2 ⟨rfl, hw2⟩
              obtain rfl := hw2.symm
              go_wp2_with fail
              refine (hdg _).mono ?_
              rintro e w2 ⟨rfl, hw2⟩
              obtain rfl := hw2.symm
              clear hdg
              go_wp2
              go_roundw
              case rel => exact ⟨n + 1, X, false, by omega, by go_num, rfl, rfl, hXl, trivial, hnx⟩
              case measure => simp [intOf]; omega
            · have i2 : ¬ ((D / B : Nat) : Int) < (v : Int) := by omega
              generalize D / B = QQ at k2 i2 hq hnext
              have hnx := hnext ok (fun h => absurd h hq) (fun _ => rfl)
              clear hnext hq hD hdd hd hB
              go_wp2_with fail
              refine (hdg _).mono ?_
              rintro e w2 ⟨rfl, hw2⟩
              obtain rfl := hw2.symm
              go_wp2_with fail
              refine (hdg _).mono ?_
              rintro e w2 ⟨rfl, hw2⟩
              obtain rfl := hw2.symm
              clear hdg
              go_wp2
              go_roundw
              case rel => exact ⟨n + 1, X, ok, by omega, by go_num, rfl, rfl, hXl, trivial, hnx⟩
              case measure => simp [intOf]; omega
          · rw [if_neg hd] at hdg
            obtain ⟨rfl, hVo, hVe⟩ : n = NN ∧ ok = decide (V < 18446744073709551616) ∧ (V < 18446744073709551616 → v = V) := by
              obtain ⟨k, hkL, hk, hc2, h3, h4, hall⟩ := hmem.out
              have hr := run_stop hkL hall (by rw [hc2, hdd]; exact hd)
              have e1 : V = valB B (L.take k) := by rw [hPV.out, hr]
              refine ⟨by rw [hPN.out, hr, List.length_take]; omega, by rw [e1]; exact h3, fun h => ?_⟩
              rw [e1] at h ⊢
              exact h4 (by rw [h3]; exact decide_eq_true h)
            subst hVo
            have hVe := Lib.hid hVe
            clear hinv hmem hPN hPV hd hdd
            go_wp2_with fail
            refine (hdg _).mono ?_
            rintro e w2 ⟨rfl, hw2⟩
            obtain rfl := hw2.symm
            clear hdg
            go_wp2
            refine bodyPost_ret (v := .tuple #[.int .u64 (v : Int), .int .i64 (n : Int), .bool (decide (V < 18446744073709551616))]) (by simp [results, Tryz.results30]) rfl ?_
            exact ⟨rfl, v, rfl, hVe.out, hv⟩
        · obtain rfl : n = s.size := by omega
          obtain ⟨hNN, hVo, hVe⟩ : s.size = NN ∧ ok = decide (V < 18446744073709551616) ∧ (V < 18446744073709551616 → v = V) := by
            obtain ⟨k, hk, h3, h4, hall⟩ := hinv.out
            have hr : digRun B L = L := run_all (fun j hj => hall j hj (by have := hLl.out; omega))
            have hk2 : k = L.length := by have := hLl.out; omega
            rw [hk2, List.take_length] at h3 h4
            have e1 : V = valB B L := by rw [hPV.out, hr]
            refine ⟨by rw [hPN.out, hr]; omega, by rw [e1]; exact h3, fun h => ?_⟩
            rw [e1] at h ⊢
            exact h4 (by rw [h3]; exact decide_eq_true h)
          subst hVo
          have hVe := Lib.hid hVe
          have hNN := Lib.hid hNN
          clear hinv hPN hPV
          go_wp2
          refine bodyPost_ret (v := .tuple #[.int .u64 (v : Int), .int .i64 (s.size : Int), .bool (decide (V < 18446744073709551616))]) (by simp [results, Tryz.results30]) rfl ?_
          exact ⟨rfl, v, by rw [← hNN.out], hVe.out, hv⟩

set_option maxHeartbeats 8000000 in
set_option maxRecDepth 100000 in
theorem rnumber_1 (s : ByteArray) (w : World) (hI : 1 < s.size) (hs : s.size ≤ 1000000) : Calls Tryz.prog 30 #[.string s, .int .i64 1] w (RNumR s 1 w) := by
  unfold RNumR
  obtain ⟨L0, hL0⟩ : ∃ L0, (tl s).drop 1 = L0 := ⟨_, rfl⟩
  have hL0l : L0.length = s.size - 1 := by rw [← hL0, List.length_drop, tl_len]
  have hL0g : ∀ k (h : 1 + k < s.size), L0[k]? = some s[1 + k] := fun k h => by rw [← hL0, List.getElem?_drop]; exact tl_opt s _ h
  rw [hL0]
  obtain ⟨B, N0, hH⟩ : ∃ B N0, headB L0 = (B, N0) := ⟨_, _, rfl⟩
  have hB : (B = 8 ∨ B = 10 ∨ B = 16) ∧ N0 ≤ L0.length := by
    rcases headB_cases L0 with h | h | ⟨h, h2⟩
    all_goals
      rw [hH] at h
      injection h with h1 h2'
      omega
  obtain ⟨V, N, hP⟩ : ∃ V N, digitsP L0 = (V, N) := ⟨_, _, rfl⟩
  rw [hP]
  have hP2 : V = valB B (digRun B (L0.drop N0)) ∧ N = N0 + (digRun B (L0.drop N0)).length := by
    unfold digitsP at hP
    rw [hH] at hP
    injection hP with h1 h2
    exact ⟨h1.symm, h2.symm⟩
  have hP3 := Lib.hid hP2
  have hH2 := Lib.hid hH
  have hL0g := Lib.hid hL0g
  have hL0l := Lib.hid hL0l
  have hL0 := Lib.hid hL0
  simp only
  obtain ⟨NN, hNN⟩ : ∃ NN, 1 + N = NN := ⟨_, rfl⟩
  rw [hNN]
  have hNN := Lib.hid hNN
  clear hP hP2 hH
  go_enter Tryz.func30, Tryz.ntmps30
  go_upto_region 2 with fail
  go_cut [43] from 11 to 42 (fun qv wx => wx = w ∧ qv = .bool (decide (B = 16)))
  case first =>
    have e0 := hL0g.out 0 hI
    by_cases h0 : s[1] = 48
    · have i0 : (s[1].toNat : Int) = 48 := by rw [h0]; rfl
      have h00 : L0[0]? = some 48 := by rw [e0]; exact congrArg some h0
      by_cases h2 : 1 + 2 < s.size
      · have hh : headB L0 = if (s[1 + 1] = 120 ∨ s[1 + 1] = 88) ∧ digV s[1 + 2] < 16 then (16, 2) else (8, 0) := by
          unfold headB; rw [if_pos h00, hL0g.out 1 (by omega), hL0g.out 2 h2]
        rw [hH2.out] at hh
        have hdg := rdigit_any s[1 + 2] 16 (by omega) (by omega)
        simp only [Nat.reduceAdd] at hdg hh
        by_cases hx : s[1 + 1] = 120 ∨ s[1 + 1] = 88
        · by_cases hd : digV s[1 + 2] < 16
          · rw [if_pos ⟨hx, hd⟩] at hh
            obtain ⟨rfl, rfl⟩ := Prod.mk.inj hh
            have i3 : (0 : Int) ≤ rdig s[1 + 2] 16 := by unfold rdig; rw [if_pos hd]; omega
            simp only [Nat.reduceAdd] at i3 hx
            generalize rdig s[3] 16 = rd at hdg i3
            clear hh hH2 hP3 h0 h00 e0
            rcases hx with hx | hx
            · have i1 : (s[2].toNat : Int) = 120 := by rw [hx]; rfl
              clear hx
              go_wp2_with fail
              refine (hdg _).mono ?_
              rintro e w2 ⟨rfl, hw2⟩
              obtain rfl := hw2.symm
              go_wp2
              go_meet
              case rel => exact ⟨rfl, rfl⟩
            · have i1 : (s[2].toNat : Int) = 88 := by rw [hx]; rfl
              clear hx
              go_wp2_with fail
              refine (hdg _).mono ?_
              rintro e w2 ⟨rfl, hw2⟩
              obtain rfl := hw2.symm
              go_wp2
              go_meet
              case rel => exact ⟨rfl, rfl⟩
          · rw [if_neg (fun h => hd h.2)] at hh
            obtain ⟨rfl, rfl⟩ := Prod.mk.inj hh
            have i3 : ¬ (0 : Int) ≤ rdig s[1 + 2] 16 := by unfold rdig; rw [if_neg hd]; omega
            simp only [Nat.reduceAdd] at i3 hx
            generalize rdig s[3] 16 = rd at hdg i3
            clear hh hH2 hP3 h0 h00 e0
            rcases hx with hx | hx
            · have i1 : (s[2].toNat : Int) = 120 := by rw [hx]; rfl
              clear hx
              go_wp2_with fail
              refine (hdg _).mono ?_
              rintro e w2 ⟨rfl, hw2⟩
              obtain rfl := hw2.symm
              go_wp2
              go_meet
              case rel => exact ⟨rfl, by first | rfl | (congr 1; rw [show decide (0 ≤ rd) = false from decide_eq_false (by omega)]; rfl)⟩
            · have i1 : (s[2].toNat : Int) = 88 := by rw [hx]; rfl
              clear hx
              go_wp2_with fail
              refine (hdg _).mono ?_
              rintro e w2 ⟨rfl, hw2⟩
              obtain rfl := hw2.symm
              go_wp2
              go_meet
              case rel => exact ⟨rfl, by first | rfl | (congr 1; rw [show decide (0 ≤ rd) = false from decide_eq_false (by omega)]; rfl)⟩
        · rw [if_neg (fun h => hx h.1)] at hh
          obtain ⟨rfl, rfl⟩ := Prod.mk.inj hh
          have i1 : ¬ (s[1 + 1].toNat : Int) = 120 := fun h => hx (.inl (UInt8.toNat_inj.1 (by show s[1 + 1].toNat = 120; omega)))
          have i2 : ¬ (s[1 + 1].toNat : Int) = 88 := fun h => hx (.inr (UInt8.toNat_inj.1 (by show s[1 + 1].toNat = 88; omega)))
          simp only [Nat.reduceAdd] at i1 i2
          clear hh hH2 hP3 hdg hx h0 h00 e0
          go_wp2
          go_meet
          case rel => exact ⟨rfl, rfl⟩
      · have hh : headB L0 = (8, 0) := by
          have e2 : L0[2]? = none := List.getElem?_eq_none (by have := hL0l.out; omega)
          unfold headB; rw [if_pos h00, e2]
          split
          · rename_i h9; cases h9
          · rfl
        rw [hH2.out] at hh
        obtain ⟨rfl, rfl⟩ := Prod.mk.inj hh
        clear hh hH2 hP3 h0 h00 e0
        go_wp2
        go_meet
        case rel => exact ⟨rfl, rfl⟩
    · have i0 : ¬ (s[1].toNat : Int) = 48 := fun h => h0 (UInt8.toNat_inj.1 (by show s[1].toNat = 48; omega))
      have hh : headB L0 = (10, 0) := by unfold headB; rw [if_neg (by rw [e0]; intro h; exact h0 (Option.some.inj h))]
      rw [hH2.out] at hh
      obtain ⟨rfl, rfl⟩ := Prod.mk.inj hh
      clear hh hH2 hP3 h0 e0
      by_cases h2 : 1 + 2 < s.size
      · go_wp2
        go_meet
        case rel => exact ⟨rfl, rfl⟩
      · go_wp2
        go_meet
        case rel => exact ⟨rfl, rfl⟩
  case rest =>
    obtain ⟨rfl, rfl⟩ := hcut
    go_upto_if 43 with fail
    go_cut [1, 7] from 44 to 49 (fun nv bv wx => wx = wc ∧ bv = .int .i64 (B : Int) ∧ nv = .int .i64 ((1 + N0 : Nat) : Int))
    case first =>
      have hh := headB_cases L0
      rw [hH2.out] at hh
      have e0 := hL0g.out 0 hI
      rcases hh with h | h | ⟨h, _⟩
      · obtain ⟨rfl, rfl⟩ := Prod.mk.inj h
        have i0 : ¬ (s[1].toNat : Int) = 48 := fun h9 => by
          have h00 : L0[0]? = some 48 := by rw [e0]; exact congrArg some (UInt8.toNat_inj.1 (by show s[1].toNat = 48; omega))
          have h8 := hH2.out
          unfold headB at h8
          rw [if_pos h00] at h8
          split at h8
          · split at h8 <;> (injection h8 with h7; omega)
          · injection h8 with h7; omega
        have hq : decide (10 = 16) = false := by decide
        rw [hq]
        clear h hH2 hP3 e0
        go_wp2
        go_meet
        case rel => exact ⟨rfl, rfl, rfl⟩
      · obtain ⟨rfl, rfl⟩ := Prod.mk.inj h
        have i0 : (s[1].toNat : Int) = 48 := by
          have h8 := hH2.out
          unfold headB at h8
          split at h8
          · rename_i h00
            rw [e0] at h00
            have := Option.some.inj h00
            rw [show s[1].toNat = 48 by rw [show s[1] = 48 from this]; rfl]; rfl
          · injection h8 with h7; omega
        have hq : decide (8 = 16) = false := by decide
        rw [hq]
        clear h hH2 hP3 e0
        go_wp2
        go_meet
        case rel => exact ⟨rfl, rfl, rfl⟩
      · obtain ⟨rfl, rfl⟩ := Prod.mk.inj h
        have hq : decide (16 = 16) = true := by decide
        rw [hq]
        clear h hH2 hP3 e0
        go_wp2
        go_meet
        case rel => exact ⟨rfl, rfl, rfl⟩
    case rest =>
      obtain ⟨rfl, rfl, rfl⟩ := hcut
      clear hH2
      obtain ⟨L, hL⟩ : ∃ L, L0.drop N0 = L := ⟨_, rfl⟩
      rw [hL] at hP3
      have hLl : L.length = s.size - (1 + N0) := by have := hL0l.out; rw [← hL, List.length_drop]; omega
      have hLg : ∀ k (h : 1 + N0 + k < s.size) (h2 : k < L.length), L[k] = s[1 + N0 + k] := fun k h h2 => by
        have h3 := hL0g.out (N0 + k) (by omega)
        rw [← List.getElem?_drop, hL, List.getElem?_eq_getElem h2] at h3
        rw [Option.some.inj h3]
        congr 1; omega
      have hLg := Lib.hid hLg
      have hLl := Lib.hid hLl
      have hN0 := hL0l.out
      have hB0 := Lib.hid hB.2
      obtain ⟨M0, hM0⟩ : ∃ M0, 1 + N0 = M0 := ⟨_, rfl⟩
      have hPN : Hid (NN = M0 + (digRun B L).length) := by rw [Hid, ← hNN.out, hP3.out.2]; omega
      have hPV : Hid (V = valB B (digRun B L)) := hP3.out.1
      have hM0s : M0 ≤ s.size := by have := hB.2; omega
      rw [hM0] at hLl hLg ⊢
      have hB := hB.1
      clear hL hP3 hM0 hN0 hB0 hL0 hL0g hL0l
      go_wp2
      go_loopw [1, 8, 9] (fun nv vv ov wr => ∃ n v : Nat, ∃ ok : Bool, n ≤ s.size ∧ nv = .int .i64 (n : Int) ∧ vv = .int .u64 (v : Int) ∧ ov = .bool ok ∧ v < 18446744073709551616 ∧ wr = wc ∧ Hid (∃ k, M0 + k = n ∧ ok = decide (valB B (L.take k) < 18446744073709551616) ∧ (ok = true → v = valB B (L.take k)) ∧ ∀ j (hj : j < L.length), j < k → digV L[j] < B)) (fun nv _ _ _ => s.size - (intOf nv).toNat)
      case atStart => exact ⟨M0, 0, true, by omega, rfl, rfl, rfl, by omega, rfl, 0, rfl, rfl, fun _ => rfl, fun j _ h => absurd h (by omega)⟩
      case round =>
        obtain ⟨n, v, ok, hn, rfl, rfl, rfl, hv, rfl, hinv⟩ := hrel
        by_cases hlt : n < s.size
        · have hdg := fun W => rdigit_any s[n] B (by omega) (by omega) W
          have hdv := digV_le s[n]
          have hmem : Hid (∃ k, ∃ hkL : k < L.length, M0 + k = n ∧ L[k] = s[n] ∧ ok = decide (valB B (L.take k) < 18446744073709551616) ∧ (ok = true → v = valB B (L.take k)) ∧ ∀ j (hj : j < L.length), j < k → digV L[j] < B) := by
            obtain ⟨k, hk, h1, h2, h3⟩ := hinv.out
            have hkL : k < L.length := by have := hLl.out; omega
            have hc := hLg.out k (by omega) hkL
            exact ⟨k, hkL, hk, by rw [hc]; congr 1, h1, h2, h3⟩
          obtain ⟨dd, hdd⟩ : ∃ dd, digV s[n] = dd := ⟨_, rfl⟩
          unfold rdig at hdg
          rw [hdd] at hdg hdv
          by_cases hd : dd < B
          · rw [if_pos hd] at hdg
            obtain ⟨X, hX⟩ : ∃ X : Nat, IntKind.u64.wrap (IntKind.u64.wrap ((v : Int) * (B : Int)) + (dd : Int)) = (X : Int) ∧ X < 18446744073709551616 ∧ (v * B + dd < 18446744073709551616 → X = v * B + dd) := by
              refine ⟨(v * B + dd) % 18446744073709551616, ?_, Nat.mod_lt _ (by decide), fun h => Nat.mod_eq_of_lt h⟩
              rw [IntKind.wrap_u64, IntKind.wrap_u64]
              omega
            obtain ⟨k7, hXl, hXe⟩ := hX
            have k1 : IntKind.u64.wrap (18446744073709551615 - (dd : Int)) = ((18446744073709551615 - dd : Nat) : Int) := by
              rw [show (18446744073709551615 : Int) - (dd : Int) = ((18446744073709551615 - dd : Nat) : Int) by omega]; exact IntWalk.u64_in _ (by omega)
            obtain ⟨D, hD⟩ : ∃ D, 18446744073709551615 - dd = D := ⟨_, rfl⟩
            rw [hD] at k1
            have hnext : ∀ ok' : Bool, (D / B < v → ok' = false) → (¬ D / B < v → ok' = ok) → Hid (∃ k, M0 + k = n + 1 ∧ ok' = decide (valB B (L.take k) < 18446744073709551616) ∧ (ok' = true → X = valB B (L.take k)) ∧ ∀ j (hj : j < L.length), j < k → digV L[j] < B) := by
              intro ok' h1 h2
              obtain ⟨k, hkL, hk, hc2, h3, h4, hall⟩ := hmem.out
              have hvt := valB_take B L k hkL
              rw [hc2, hdd] at hvt
              have hall2 : ∀ j (hj : j < L.length), j < k + 1 → digV L[j] < B := fun j hj hjk => by
                by_cases e : j = k
                · subst e; rw [hc2, hdd]; exact hd
                · exact hall j hj (by omega)
              generalize valB B (L.take k) = Vk at hvt h3 h4
              have hmul : Vk ≤ Vk * B := Nat.le_mul_of_pos_right _ (by omega)
              refine ⟨k + 1, by omega, ?_, ?_, hall2⟩
              · rw [hvt]
                by_cases hq : D / B < v
                · rw [h1 hq]
                  by_cases hok : ok = true
                  · have := (over_step (B := B) (V := Vk) (v := v) (dd := dd) (by omega) (by omega) (h4 hok)).1 (by rw [hD]; exact hq)
                    exact (decide_eq_false this).symm
                  · have h5 : ¬ Vk < 18446744073709551616 := by intro h6; rw [decide_eq_true h6] at h3; exact hok h3
                    exact (decide_eq_false (by omega)).symm
                · rw [h2 hq]
                  by_cases hok : ok = true
                  · have h5 : Vk * B + dd < 18446744073709551616 := Classical.byContradiction fun h6 => hq (by rw [← hD]; exact (over_step (by omega) (by omega) (h4 hok)).2 h6)
                    rw [hok]; exact (decide_eq_true h5).symm
                  · have h5 : ¬ Vk < 18446744073709551616 := by intro h6; rw [decide_eq_true h6] at h3; exact hok h3
                    have hof : ok = false := by simpa using hok
                    rw [hof]; exact (decide_eq_false (by omega)).symm
              · intro hok'
                have hq : ¬ D / B < v := fun hq => by rw [h1 hq] at hok'; cases hok'
                have hok : ok = true := by rw [← h2 hq]; exact hok'
                have h5 : Vk * B + dd < 18446744073709551616 := Classical.byContradiction fun h6 => hq (by rw [← hD]; exact (over_step (by omega) (by omega) (h4 hok)).2 h6)
                rw [hvt]
                have := h4 hok
                subst this
                exact hXe h5
            clear hinv hmem hXe hPN hPV
            have i0 : (0 : Int) ≤ (dd : Int) := by omega
            have k9 : IntKind.u64.wrap (dd : Int) = (dd : Int) := IntWalk.u64_in _ (by omega)
            have k2 : IntKind.u64.wrap ((D : Int) / (B : Int)) = ((D / B : Nat) : Int) := by
              rw [← Int.natCast_ediv]
              have := Nat.div_le_self D B
              generalize D / B = QQ at this ⊢
              exact IntWalk.u64_in _ (by omega)
            by_cases hq : D / B < v
            · have i2 : ((D / B : Nat) : Int) < (v : Int) := by omega
              generalize D / B = QQ at k2 i2 hq hnext
              have hnx := hnext false (fun _ => rfl) (fun h => absurd hq h)
              clear hnext hq hD hdd hd hB
              go_wp2_with fail
              refine (hdg _).mono ?_
              rintro e w2 ⟨rfl, hw2⟩
              obtain rfl := hw2.symm
              go_wp2_with fail
              refine (hdg _).mono ?_
              rintro e w2 ⟨rfl, hw2⟩
              obtain rfl := hw2.symm
              clear hdg
              go_wp2
              go_roundw
              case rel => exact ⟨n + 1, X, false, by omega, by go_num, rfl, rfl, hXl, trivial, hnx⟩
              case measure => simp [intOf]; omega
            · have i2 : ¬ ((D / B : Nat) : Int) < (v : Int) := by omega
              generalize D / B = QQ at k2 i2 hq hnext
              have hnx := hnext ok (fun h => absurd h hq) (fun _ => rfl)
              clear hnext hq hD hdd hd hB
              go_wp2_with fail
              refine (hdg _).mono ?_
              rintro e w2 ⟨rfl, hw2⟩
              obtain rfl := hw2.symm
              go_wp2_with fail
              refine (hdg _).mono ?_
              rintro e w2 ⟨rfl, hw2⟩
              obtain rfl := hw2.symm
              clear hdg
              go_wp2
              go_roundw
              case rel => exact ⟨n + 1, X, ok, by omega, by go_num, rfl, rfl, hXl, trivial, hnx⟩
              case measure => simp [intOf]; omega
          · rw [if_neg hd] at hdg
            obtain ⟨rfl, hVo, hVe⟩ : n = NN ∧ ok = decide (V < 18446744073709551616) ∧ (V < 18446744073709551616 → v = V) := by
              obtain ⟨k, hkL, hk, hc2, h3, h4, hall⟩ := hmem.out
              have hr := run_stop hkL hall (by rw [hc2, hdd]; exact hd)
              have e1 : V = valB B (L.take k) := by rw [hPV.out, hr]
              refine ⟨by rw [hPN.out, hr, List.length_take]; omega, by rw [e1]; exact h3, fun h => ?_⟩
              rw [e1] at h ⊢
              exact h4 (by rw [h3]; exact decide_eq_true h)
            subst hVo
            have hVe := Lib.hid hVe
            clear hinv hmem hPN hPV hd hdd
            go_wp2_with fail
            refine (hdg _).mono ?_
            rintro e w2 ⟨rfl, hw2⟩
            obtain rfl := hw2.symm
            clear hdg
            go_wp2
            refine bodyPost_ret (v := .tuple #[.int .u64 (v : Int), .int .i64 (n : Int), .bool (decide (V < 18446744073709551616))]) (by simp [results, Tryz.results30]) rfl ?_
            exact ⟨rfl, v, rfl, hVe.out, hv⟩
        · obtain rfl : n = s.size := by omega
          obtain ⟨hNN, hVo, hVe⟩ : s.size = NN ∧ ok = decide (V < 18446744073709551616) ∧ (V < 18446744073709551616 → v = V) := by
            obtain ⟨k, hk, h3, h4, hall⟩ := hinv.out
            have hr : digRun B L = L := run_all (fun j hj => hall j hj (by have := hLl.out; omega))
            have hk2 : k = L.length := by have := hLl.out; omega
            rw [hk2, List.take_length] at h3 h4
            have e1 : V = valB B L := by rw [hPV.out, hr]
            refine ⟨by rw [hPN.out, hr]; omega, by rw [e1]; exact h3, fun h => ?_⟩
            rw [e1] at h ⊢
            exact h4 (by rw [h3]; exact decide_eq_true h)
          subst hVo
          have hVe := Lib.hid hVe
          have hNN := Lib.hid hNN
          clear hinv hPN hPV
          go_wp2
          refine bodyPost_ret (v := .tuple #[.int .u64 (v : Int), .int .i64 (s.size : Int), .bool (decide (V < 18446744073709551616))]) (by simp [results, Tryz.results30]) rfl ?_
          exact ⟨rfl, v, by rw [← hNN.out], hVe.out, hv⟩
end Go.Proofs.YtlijlgbaikijnaaGreatDoor
