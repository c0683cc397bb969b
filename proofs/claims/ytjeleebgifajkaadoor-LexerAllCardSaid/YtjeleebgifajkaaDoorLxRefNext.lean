/-
  The document's Next and Hole tell what Next and Hole tell. Conditions: none.
-/
import Derived.WalkMore
import Derived.Test.YtjeleebgifajkaaDoorLxRefScan
import Derived.Test.YtjeleebgifajkaaDoorLxFace
import Derived.Test.YtjeleebgifajkaaDoorLxRefDoc
set_option linter.unusedSimpArgs false
set_option linter.unusedVariables false
namespace Go.Proofs.YtjeleebgifajkaaDoor
open Go Go.Shelf Go.RowKit Go.ChangeMaps

theorem isB_no (c : UInt8) (r : List UInt8) (a : UInt8) (h : ¬ (c = 36 ∧ r.headD 0 = a)) : isB (c :: r) [36, a] = false := by
  rw [isB_two]
  cases r with
  | nil => rfl
  | cons d r =>
    simp only [List.headD_cons] at h
    by_cases h1 : c = 36
    · by_cases h2 : d = a
      · exact absurd ⟨h1, h2⟩ h
      · simp [h2]
    · simp [h1]
theorem isB_yes (a : UInt8) (r : List UInt8) : isB (36 :: a :: r) [36, a] = true := by rw [isB_two]; simp
theorem ret2 {a b c : Int} (h : a = b) : Ending.returned (.tuple #[.int .i64 a, .int .i64 c]) = Ending.returned (.tuple #[.int .i64 b, .int .i64 c]) := by rw [h]
section
set_option maxRecDepth 100000
set_option maxHeartbeats 8000000
theorem rHole_any (s : ByteArray) (at_ : Int) (w : World) :
    Calls Tryd.prog 13 #[.string s, .int .i64 at_] w fun e w' => e = .returned (.tuple #[.int .i64 (holeV s at_).1, .int .i64 (holeV s at_).2]) ∧ Below w.heap.size w w' := by
  obtain ⟨R, hR⟩ : ∃ R, holeV s at_ = R := ⟨_, rfl⟩
  rw [hR]
  obtain ⟨r1, r2⟩ := R
  dsimp only
  have hh := may_any s at_ w
  unfold holeV at hR
  by_cases hc : chk s at_ = 0
  · obtain ⟨hs, k, rfl, hk⟩ := chk_0 hc
    rw [if_neg (fun h => h hc)] at hR
    rw [show ((k : Int)).toNat = k from rfl] at hR
    have q1 := is_any s k ⟨#[36, 40]⟩ hk (by omega) (by decide) w
    have q2 := is_any s k ⟨#[36, 123]⟩ hk (by omega) (by decide) w
    have q3 := is_any s k ⟨#[96]⟩ hk (by omega) (by decide) w
    have sc1 := fun j t ht hj => rscan_any s j t ht hj (by omega) w
    rw [hc] at hh
    replace hh := Lib.hid hh
    have hsi : (s.size : Int) ≤ 4096 := by omega
    clear hc
    by_cases hlt : k < s.size
    · have hx := bl_cons s k hlt
      have hn := s[k].toNat_lt
      simp only [bl] at q1 q2 q3
      rw [show s.data.toList = bl s from rfl] at q1 q2 q3
      rw [hx] at q1 q2
      have e3 : isB ((bl s).drop k) [96] = (s[k] == 96) := by rw [hx]; unfold isB; simp
      rw [e3] at q3
      rw [hx] at hR
      have hki : (k : Int) < (s.size : Int) := by omega
      by_cases h36 : s[k] = 36 ∧ (((bl s).drop (k + 1)).headD 0 = 40 ∨ ((bl s).drop (k + 1)).headD 0 = 123)
      · obtain ⟨h36, hd⟩ := h36
        have hk1 : k + 1 < s.size := by
          by_cases h : k + 1 < s.size
          · exact h
          · rw [bl_end s (k + 1) (by omega)] at hd; rcases hd with h | h <;> exact absurd h (by decide)
        have hk1i : (k : Int) + 1 < (s.size : Int) := by omega
        have hx2 := bl_cons s (k + 1) hk1
        have hn2 := s[k + 1].toNat_lt
        rw [hx2, List.headD_cons] at hd
        rw [hx2] at q1 q2 hR
        rw [if_neg (by rcases hd with h | h <;> simp [holeB, h36, h])] at hR
        rcases hd with h | h
        · have e1 : holeP (s[k] :: s[k + 1] :: (bl s).drop (k + 1 + 1)) = (scan ((bl s).drop (k + 2)) [40]).map (· + 2) := by simp [holeP, h36, h]
          rw [e1] at hR
          have i2 : (s[k + 1].toNat : Int) = 40 := by rw [h]; rfl
          rw [h36, h, isB_yes] at q1
          clear hx hx2 h36 h e1 e3 q2 q3
          have sc := sc1 (k + 2) 40 (by simp [TopB]) (by omega)
          rw [show (((40) : UInt8).toNat : Int) = 40 by rfl] at sc
          generalize scan ((bl s).drop (k + 2)) [40] = o at sc hR
          replace sc := Lib.hid sc
          replace q1 := Lib.hid q1
          have hki2 : (k : Int) ≤ (s.size : Int) := by omega
          cases o with
          | none =>
            injection hR with hR1 hR2
            subst hR1 hR2
            rw [enc_none] at sc
            go_enter Tryd.func13, Tryd.ntmps13
            go_wp2_with fail
            refine hh.out.mono ?_
            rintro e w' ⟨rfl, hwq⟩
            obtain rfl := hwq.symm
            clear hh hwq
            go_wp2_with fail
            refine q1.out.mono ?_
            rintro e w' ⟨rfl, hwq⟩
            obtain rfl := hwq.symm
            clear q1 hwq
            go_wp2_with fail
            refine sc.out.mono ?_
            rintro e w2 ⟨rfl, hb⟩
            replace hb := Lib.hid hb
            clear sc
            go_wp2
            go_ret2
            exact ⟨rfl, hb.out⟩
          | some n =>
            injection hR with hR1 hR2
            subst hR1 hR2
            rw [enc_some] at sc
            have hnn : ¬ ((k + 2 + n : Nat) : Int) < 0 := by omega
            have hjn : ((0 + k + 0 : Nat) : Int) = ((0 + k + 0 : Nat) : Int) := rfl
            obtain ⟨v, hv⟩ : ∃ v, k + 2 + n = v := ⟨_, rfl⟩
            rw [hv] at sc hnn
            replace hv := Lib.hid hv
            go_enter Tryd.func13, Tryd.ntmps13
            go_wp2_with fail
            refine hh.out.mono ?_
            rintro e w' ⟨rfl, hwq⟩
            obtain rfl := hwq.symm
            clear hh hwq
            go_wp2_with fail
            refine q1.out.mono ?_
            rintro e w' ⟨rfl, hwq⟩
            obtain rfl := hwq.symm
            clear q1 hwq
            go_wp2_with fail
            refine sc.out.mono ?_
            rintro e w2 ⟨rfl, hb⟩
            replace hb := Lib.hid hb
            clear sc
            go_wp2
            go_ret2
            exact ⟨ret2 (by have := hv.out; omega), hb.out⟩
        · have e1 : holeP (s[k] :: s[k + 1] :: (bl s).drop (k + 1 + 1)) = (scan ((bl s).drop (k + 2)) [123]).map (· + 2) := by simp [holeP, h36, h]
          rw [e1] at hR
          have i2 : (s[k + 1].toNat : Int) = 123 := by rw [h]; rfl
          rw [h36, h, isB_yes] at q2
          rw [h36, h, isB_no _ _ 40 (by simp)] at q1
          clear hx hx2 h36 h e1 e3 q3
          have sc := sc1 (k + 2) 123 (by simp [TopB]) (by omega)
          rw [show (((123) : UInt8).toNat : Int) = 123 by rfl] at sc
          generalize scan ((bl s).drop (k + 2)) [123] = o at sc hR
          replace sc := Lib.hid sc
          replace q1 := Lib.hid q1
          replace q2 := Lib.hid q2
          have hki2 : (k : Int) ≤ (s.size : Int) := by omega
          cases o with
          | none =>
            injection hR with hR1 hR2
            subst hR1 hR2
            rw [enc_none] at sc
            go_enter Tryd.func13, Tryd.ntmps13
            go_wp2_with fail
            refine hh.out.mono ?_
            rintro e w' ⟨rfl, hwq⟩
            obtain rfl := hwq.symm
            clear hh hwq
            go_wp2_with fail
            refine q1.out.mono ?_
            rintro e w' ⟨rfl, hwq⟩
            obtain rfl := hwq.symm
            clear q1 hwq
            go_wp2_with fail
            refine q2.out.mono ?_
            rintro e w' ⟨rfl, hwq⟩
            obtain rfl := hwq.symm
            clear q2 hwq
            go_wp2_with fail
            refine sc.out.mono ?_
            rintro e w2 ⟨rfl, hb⟩
            replace hb := Lib.hid hb
            clear sc
            go_wp2
            go_ret2
            exact ⟨rfl, hb.out⟩
          | some n =>
            injection hR with hR1 hR2
            subst hR1 hR2
            rw [enc_some] at sc
            have hnn : ¬ ((k + 2 + n : Nat) : Int) < 0 := by omega
            have hjn : ((0 + k + 0 : Nat) : Int) = ((0 + k + 0 : Nat) : Int) := rfl
            obtain ⟨v, hv⟩ : ∃ v, k + 2 + n = v := ⟨_, rfl⟩
            rw [hv] at sc hnn
            replace hv := Lib.hid hv
            go_enter Tryd.func13, Tryd.ntmps13
            go_wp2_with fail
            refine hh.out.mono ?_
            rintro e w' ⟨rfl, hwq⟩
            obtain rfl := hwq.symm
            clear hh hwq
            go_wp2_with fail
            refine q1.out.mono ?_
            rintro e w' ⟨rfl, hwq⟩
            obtain rfl := hwq.symm
            clear q1 hwq
            go_wp2_with fail
            refine q2.out.mono ?_
            rintro e w' ⟨rfl, hwq⟩
            obtain rfl := hwq.symm
            clear q2 hwq
            go_wp2_with fail
            refine sc.out.mono ?_
            rintro e w2 ⟨rfl, hb⟩
            replace hb := Lib.hid hb
            clear sc
            go_wp2
            go_ret2
            exact ⟨ret2 (by have := hv.out; omega), hb.out⟩
      · rw [isB_no _ _ 40 (fun h => h36 ⟨h.1, .inl h.2⟩)] at q1
        rw [isB_no _ _ 123 (fun h => h36 ⟨h.1, .inr h.2⟩)] at q2
        by_cases h96 : s[k] = 96
        · rw [if_neg (by simp [holeB, h96])] at hR
          have e1 : holeP (s[k] :: (bl s).drop (k + 1)) = (scan ((bl s).drop (k + 1)) [96]).map (· + 1) := by simp [holeP, h96]
          rw [e1] at hR
          rw [h96] at q3
          simp only [beq_self_eq_true] at q3
          clear hx h36 h96 e1 e3
          have sc := sc1 (k + 1) 96 (by simp [TopB]) (by omega)
          rw [show (((96) : UInt8).toNat : Int) = 96 by rfl] at sc
          generalize scan ((bl s).drop (k + 1)) [96] = o at sc hR
          replace sc := Lib.hid sc
          replace q1 := Lib.hid q1
          replace q2 := Lib.hid q2
          replace q3 := Lib.hid q3
          have hki2 : (k : Int) ≤ (s.size : Int) := by omega
          cases o with
          | none =>
            injection hR with hR1 hR2
            subst hR1 hR2
            rw [enc_none] at sc
            go_enter Tryd.func13, Tryd.ntmps13
            go_wp2_with fail
            refine hh.out.mono ?_
            rintro e w' ⟨rfl, hwq⟩
            obtain rfl := hwq.symm
            clear hh hwq
            go_wp2_with fail
            refine q1.out.mono ?_
            rintro e w' ⟨rfl, hwq⟩
            obtain rfl := hwq.symm
            clear q1 hwq
            go_wp2_with fail
            refine q2.out.mono ?_
            rintro e w' ⟨rfl, hwq⟩
            obtain rfl := hwq.symm
            clear q2 hwq
            go_wp2_with fail
            refine q3.out.mono ?_
            rintro e w' ⟨rfl, hwq⟩
            obtain rfl := hwq.symm
            clear q3 hwq
            go_wp2_with fail
            refine sc.out.mono ?_
            rintro e w2 ⟨rfl, hb⟩
            replace hb := Lib.hid hb
            clear sc
            go_wp2
            go_ret2
            exact ⟨rfl, hb.out⟩
          | some n =>
            injection hR with hR1 hR2
            subst hR1 hR2
            rw [enc_some] at sc
            have hnn : ¬ ((k + 1 + n : Nat) : Int) < 0 := by omega
            have hjn : ((0 + k + 0 : Nat) : Int) = ((0 + k + 0 : Nat) : Int) := rfl
            obtain ⟨v, hv⟩ : ∃ v, k + 1 + n = v := ⟨_, rfl⟩
            rw [hv] at sc hnn
            replace hv := Lib.hid hv
            go_enter Tryd.func13, Tryd.ntmps13
            go_wp2_with fail
            refine hh.out.mono ?_
            rintro e w' ⟨rfl, hwq⟩
            obtain rfl := hwq.symm
            clear hh hwq
            go_wp2_with fail
            refine q1.out.mono ?_
            rintro e w' ⟨rfl, hwq⟩
            obtain rfl := hwq.symm
            clear q1 hwq
            go_wp2_with fail
            refine q2.out.mono ?_
            rintro e w' ⟨rfl, hwq⟩
            obtain rfl := hwq.symm
            clear q2 hwq
            go_wp2_with fail
            refine q3.out.mono ?_
            rintro e w' ⟨rfl, hwq⟩
            obtain rfl := hwq.symm
            clear q3 hwq
            go_wp2_with fail
            refine sc.out.mono ?_
            rintro e w2 ⟨rfl, hb⟩
            replace hb := Lib.hid hb
            clear sc
            go_wp2
            go_ret2
            exact ⟨ret2 (by have := hv.out; omega), hb.out⟩
        · have e4 : holeB (s[k] :: (bl s).drop (k + 1)) = false := by
            have : (s[k] == 96) = false := beq_eq_false_iff_ne.2 h96
            unfold holeB
            rw [List.headD_cons, this, Bool.false_or, List.tail_cons]
            by_cases ha : s[k] = 36
            · have h1 : ¬ ((bl s).drop (k + 1)).headD 0 = 40 := fun h => h36 ⟨ha, .inl h⟩
              have h2 : ¬ ((bl s).drop (k + 1)).headD 0 = 123 := fun h => h36 ⟨ha, .inr h⟩
              rw [beq_eq_false_iff_ne.2 h1, beq_eq_false_iff_ne.2 h2]; simp
            · rw [beq_eq_false_iff_ne.2 ha]; rfl
          rw [if_pos e4] at hR
          rw [beq_eq_false_iff_ne.2 h96] at q3
          clear hx h36 h96 e4 e3 sc1
          injection hR with hR1 hR2
          subst hR1 hR2
          replace q1 := Lib.hid q1
          replace q2 := Lib.hid q2
          replace q3 := Lib.hid q3
          go_enter Tryd.func13, Tryd.ntmps13
          go_wp2_with fail
          refine hh.out.mono ?_
          rintro e w' ⟨rfl, hwq⟩
          obtain rfl := hwq.symm
          clear hh hwq
          go_wp2_with fail
          refine q1.out.mono ?_
          rintro e w' ⟨rfl, hwq⟩
          obtain rfl := hwq.symm
          clear q1 hwq
          go_wp2_with fail
          refine q2.out.mono ?_
          rintro e w' ⟨rfl, hwq⟩
          obtain rfl := hwq.symm
          clear q2 hwq
          go_wp2_with fail
          refine q3.out.mono ?_
          rintro e w' ⟨rfl, hwq⟩
          obtain rfl := hwq.symm
          clear q3 hwq
          go_wp2
          go_ret2
          exact ⟨rfl, Below.refl _ _⟩
    · have hx := bl_end s k (by omega)
      simp only [bl] at q1 q2 q3
      rw [show s.data.toList = bl s from rfl, hx] at q1 q2 q3
      have f1 : isB [] [36, 40] = false := rfl
      have f2 : isB [] [36, 123] = false := rfl
      have f3 : isB [] [96] = false := rfl
      rw [f1] at q1
      rw [f2] at q2
      rw [f3] at q3
      rw [hx, if_pos (by decide)] at hR
      clear hx f1 f2 f3 sc1
      injection hR with hR1 hR2
      subst hR1 hR2
      replace q1 := Lib.hid q1
      replace q2 := Lib.hid q2
      replace q3 := Lib.hid q3
      go_enter Tryd.func13, Tryd.ntmps13
      go_wp2_with fail
      refine hh.out.mono ?_
      rintro e w' ⟨rfl, hwq⟩
      obtain rfl := hwq.symm
      clear hh hwq
      go_wp2_with fail
      refine q1.out.mono ?_
      rintro e w' ⟨rfl, hwq⟩
      obtain rfl := hwq.symm
      clear q1 hwq
      go_wp2_with fail
      refine q2.out.mono ?_
      rintro e w' ⟨rfl, hwq⟩
      obtain rfl := hwq.symm
      clear q2 hwq
      go_wp2_with fail
      refine q3.out.mono ?_
      rintro e w' ⟨rfl, hwq⟩
      obtain rfl := hwq.symm
      clear q3 hwq
      go_wp2
      go_ret2
      exact ⟨rfl, Below.refl _ _⟩
  · rw [if_pos hc] at hR
    injection hR with hR1 hR2
    subst hR1 hR2
    generalize chk s at_ = c at hc hh ⊢
    replace hh := Lib.hid hh
    go_enter Tryd.func13, Tryd.ntmps13
    go_wp2_with fail
    refine hh.out.mono ?_
    rintro e w' ⟨rfl, hwq⟩
    obtain rfl := hwq.symm
    clear hh hwq
    go_wp2
    go_ret2
    exact ⟨rfl, Below.refl _ _⟩
end
end Go.Proofs.YtjeleebgifajkaaDoor
