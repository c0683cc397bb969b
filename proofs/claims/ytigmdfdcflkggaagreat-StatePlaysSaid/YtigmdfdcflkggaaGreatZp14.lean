/-
  The document's answer: which bytes and which texts are names. Conditions: texts of at most a million bytes.
-/
import Derived.Lib.IndexLaws
import Derived.Test.YtigmdfdcflkggaaGreatZp11
import Derived.Test.YtigmdfdcflkggaaGreatZp13
set_option linter.unusedSimpArgs false
set_option linter.unusedVariables false
namespace Go.Proofs.YtigmdfdcflkggaaGreat
open Go Go.RowKit Go.ChangeMaps

def letB (b : UInt8) : Bool := (97 ≤ b.toNat && b.toNat ≤ 122) || (65 ≤ b.toNat && b.toNat ≤ 90) || decide (b.toNat = 95)
def digB (b : UInt8) : Bool := 48 ≤ b.toNat && b.toNat ≤ 57
theorem Letter_any (b : UInt8) (w : World) : Calls Tryz.prog 118 #[.int .u8 (b.toNat : Int)] w fun e w' => e = .returned (.bool (letB b)) ∧ w' = w := by
  have hlt : b.toNat < 256 := b.toNat_lt
  unfold letB
  generalize b.toNat = n at hlt ⊢
  obtain ⟨R, hR⟩ : ∃ R, ((decide (97 ≤ n) && decide (n ≤ 122)) || (decide (65 ≤ n) && decide (n ≤ 90)) || decide (n = 95)) = R := ⟨_, rfl⟩
  rw [hR]
  replace hR := Lib.hid hR
  rcases (by omega : n ≤ 64 ∨ (65 ≤ n ∧ n ≤ 90) ∨ (91 ≤ n ∧ n ≤ 94) ∨ n = 95 ∨ n = 96 ∨ (97 ≤ n ∧ n ≤ 122) ∨ 123 ≤ n) with h | h | h | h | h | h | h
  · have a1 : ¬ ((97 : Int) ≤ (n : Int)) := by omega
    have a2 : ((n : Int) ≤ 122) := by omega
    have a3 : ¬ ((65 : Int) ≤ (n : Int)) := by omega
    have a4 : ((n : Int) ≤ 90) := by omega
    have a5 : ((n : Int) == 95) = false := by rw [beq_eq_false_iff_ne]; omega
    have hf : Hid (R = false) := Lib.hid (by rw [← hR.out]; simp; omega)
    go_enter Tryz.func118, Tryz.ntmps118
    go_wp2
    go_ret
    exact ⟨by rw [hf.out] <;> rfl, rfl⟩
  · have a1 : ¬ ((97 : Int) ≤ (n : Int)) := by omega
    have a2 : ((n : Int) ≤ 122) := by omega
    have a3 : ((65 : Int) ≤ (n : Int)) := by omega
    have a4 : ((n : Int) ≤ 90) := by omega
    have a5 : ((n : Int) == 95) = false := by rw [beq_eq_false_iff_ne]; omega
    have hf : Hid (R = true) := Lib.hid (by rw [← hR.out]; simp; omega)
    go_enter Tryz.func118, Tryz.ntmps118
    go_wp2
    go_ret
    exact ⟨by rw [hf.out] <;> rfl, rfl⟩
  · have a1 : ¬ ((97 : Int) ≤ (n : Int)) := by omega
    have a2 : ((n : Int) ≤ 122) := by omega
    have a3 : ((65 : Int) ≤ (n : Int)) := by omega
    have a4 : ¬ ((n : Int) ≤ 90) := by omega
    have a5 : ((n : Int) == 95) = false := by rw [beq_eq_false_iff_ne]; omega
    have hf : Hid (R = false) := Lib.hid (by rw [← hR.out]; simp; omega)
    go_enter Tryz.func118, Tryz.ntmps118
    go_wp2
    go_ret
    exact ⟨by rw [hf.out] <;> rfl, rfl⟩
  · have a1 : ¬ ((97 : Int) ≤ (n : Int)) := by omega
    have a2 : ((n : Int) ≤ 122) := by omega
    have a3 : ((65 : Int) ≤ (n : Int)) := by omega
    have a4 : ¬ ((n : Int) ≤ 90) := by omega
    have a5 : ((n : Int) == 95) = true := by rw [beq_iff_eq]; omega
    have hf : Hid (R = true) := Lib.hid (by rw [← hR.out]; simp; omega)
    go_enter Tryz.func118, Tryz.ntmps118
    go_wp2
    go_ret
    exact ⟨by rw [hf.out] <;> rfl, rfl⟩
  · have a1 : ¬ ((97 : Int) ≤ (n : Int)) := by omega
    have a2 : ((n : Int) ≤ 122) := by omega
    have a3 : ((65 : Int) ≤ (n : Int)) := by omega
    have a4 : ¬ ((n : Int) ≤ 90) := by omega
    have a5 : ((n : Int) == 95) = false := by rw [beq_eq_false_iff_ne]; omega
    have hf : Hid (R = false) := Lib.hid (by rw [← hR.out]; simp; omega)
    go_enter Tryz.func118, Tryz.ntmps118
    go_wp2
    go_ret
    exact ⟨by rw [hf.out] <;> rfl, rfl⟩
  · have a1 : ((97 : Int) ≤ (n : Int)) := by omega
    have a2 : ((n : Int) ≤ 122) := by omega
    have a3 : ((65 : Int) ≤ (n : Int)) := by omega
    have a4 : ¬ ((n : Int) ≤ 90) := by omega
    have a5 : ((n : Int) == 95) = false := by rw [beq_eq_false_iff_ne]; omega
    have hf : Hid (R = true) := Lib.hid (by rw [← hR.out]; simp; omega)
    go_enter Tryz.func118, Tryz.ntmps118
    go_wp2
    go_ret
    exact ⟨by rw [hf.out] <;> rfl, rfl⟩
  · have a1 : ((97 : Int) ≤ (n : Int)) := by omega
    have a2 : ¬ ((n : Int) ≤ 122) := by omega
    have a3 : ((65 : Int) ≤ (n : Int)) := by omega
    have a4 : ¬ ((n : Int) ≤ 90) := by omega
    have a5 : ((n : Int) == 95) = false := by rw [beq_eq_false_iff_ne]; omega
    have hf : Hid (R = false) := Lib.hid (by rw [← hR.out]; simp; omega)
    go_enter Tryz.func118, Tryz.ntmps118
    go_wp2
    go_ret
    exact ⟨by rw [hf.out] <;> rfl, rfl⟩
theorem Digit_any (b : UInt8) (w : World) : Calls Tryz.prog 119 #[.int .u8 (b.toNat : Int)] w fun e w' => e = .returned (.bool (digB b)) ∧ w' = w := by
  have hlt : b.toNat < 256 := b.toNat_lt
  unfold digB
  generalize b.toNat = n at hlt ⊢
  obtain ⟨R, hR⟩ : ∃ R, (decide (48 ≤ n) && decide (n ≤ 57)) = R := ⟨_, rfl⟩
  rw [hR]
  replace hR := Lib.hid hR
  rcases (by omega : n < 48 ∨ (48 ≤ n ∧ n ≤ 57) ∨ 57 < n) with h | h | h
  · have a1 : ¬ ((48 : Int) ≤ (n : Int)) := by omega
    have a2 : ((n : Int) ≤ 57) := by omega
    have hf : Hid (R = false) := Lib.hid (by rw [← hR.out]; simp; omega)
    go_enter Tryz.func119, Tryz.ntmps119
    go_wp2
    go_ret
    exact ⟨by rw [hf.out] <;> rfl, rfl⟩
  · have a1 : ((48 : Int) ≤ (n : Int)) := by omega
    have a2 : ((n : Int) ≤ 57) := by omega
    have hf : Hid (R = true) := Lib.hid (by rw [← hR.out]; simp; omega)
    go_enter Tryz.func119, Tryz.ntmps119
    go_wp2
    go_ret
    exact ⟨by rw [hf.out] <;> rfl, rfl⟩
  · have a1 : ((48 : Int) ≤ (n : Int)) := by omega
    have a2 : ¬ ((n : Int) ≤ 57) := by omega
    have hf : Hid (R = false) := Lib.hid (by rw [← hR.out]; simp; omega)
    go_enter Tryz.func119, Tryz.ntmps119
    go_wp2
    go_ret
    exact ⟨by rw [hf.out] <;> rfl, rfl⟩
theorem byte_one (b : UInt8) : decide (0 ≤ Lib.indexByte [95] b) = decide (b.toNat = 95) := by
  unfold Lib.indexByte
  by_cases h : b.toNat = 95
  · have hb : (95 : UInt8) = b := by apply UInt8.toNat_inj.1; rw [h]; rfl
    rw [if_pos (by rw [← hb]; rfl), decide_eq_true h]; rfl
  · have hb : ¬ ((95 : UInt8) == b) = true := fun e => h (by rw [← (beq_iff_eq.1 e)]; rfl)
    rw [if_neg hb, decide_eq_false h]; rfl
theorem allow_name (b : UInt8) : allow ⟨#[95]⟩ b = (letB b || digB b) := by
  unfold allow letB digB
  rw [show (⟨#[95]⟩ : ByteArray).data.toList = [95] from rfl, byte_one]
  generalize decide (97 ≤ b.toNat) = a1
  generalize decide (b.toNat ≤ 122) = a2
  generalize decide (65 ≤ b.toNat) = a3
  generalize decide (b.toNat ≤ 90) = a4
  generalize decide (48 ≤ b.toNat) = a5
  generalize decide (b.toNat ≤ 57) = a6
  generalize decide (b.toNat = 95) = a7
  revert a1 a2 a3 a4 a5 a6 a7
  decide
theorem let_dig (b : UInt8) (h : letB b = true) : digB b = false := by
  unfold letB at h
  unfold digB
  simp only [Bool.or_eq_true, Bool.and_eq_true, decide_eq_true_eq] at h
  rw [Bool.and_eq_false_iff, decide_eq_false_iff_not, decide_eq_false_iff_not]
  omega
/-- A byte that may stand at a place of a name. -/
def okN (s : ByteArray) (j : Nat) (h : j < s.size) : Bool := letB s[j] || (decide (j ≠ 0) && digB s[j])
theorem nameB_yes {s : ByteArray} (h0 : 0 < s.size) (h : ∀ j (hj : j < s.size), okN s j hj = true) : nameB s = true := by
  have hl : letB s[0] = true := by have := h 0 h0; unfold okN at this; simpa using this
  unfold nameB
  rw [dif_pos h0]
  have h1 : (decide (48 ≤ s[0].toNat) && decide (s[0].toNat ≤ 57)) = false := let_dig _ hl
  rw [h1]
  show allB s _ = true
  refine (allB_iff _ _).2 fun j hj => ?_
  rw [allow_name]
  have := h j hj
  unfold okN at this
  simp only [Bool.or_eq_true, Bool.and_eq_true] at this ⊢
  rcases this with h | h
  · exact .inl h
  · exact .inr h.2
theorem nameB_no {s : ByteArray} {j : Nat} (hj : j < s.size) (h : okN s j hj = false) : nameB s = false := by
  have h0 : 0 < s.size := by omega
  unfold okN at h
  simp only [Bool.or_eq_false_iff, Bool.and_eq_false_iff, decide_eq_false_iff_not] at h
  obtain ⟨hl, hd⟩ := h
  unfold nameB
  rw [dif_pos h0]
  rcases hd with hd | hd
  · have e : j = 0 := by simpa using hd
    subst e
    cases hdd : digB s[0]
    · have : allB s ⟨#[95]⟩ = false := allB_no hj (by rw [allow_name, hl, hdd]; rfl)
      rw [this, Bool.and_false]
    · have : (decide (48 ≤ s[0].toNat) && decide (s[0].toNat ≤ 57)) = true := hdd
      rw [this]; rfl
  · have : allB s ⟨#[95]⟩ = false := allB_no hj (by rw [allow_name, hl, hd]; rfl)
    rw [this, Bool.and_false]
set_option maxRecDepth 100000 in
set_option maxHeartbeats 4000000 in
theorem rName_any (s : ByteArray) (hs : s.size ≤ 1000000) (w : World) :
    Calls Tryz.prog 76 #[.string s] w fun e w' => e = .returned (.bool (nameB s)) ∧ w' = w := by
  obtain ⟨R, hR⟩ : ∃ R, nameB s = R := ⟨_, rfl⟩
  rw [hR]
  replace hR := Lib.hid hR
  go_enter Tryz.func76, Tryz.ntmps76
  go_wp2
  go_loopw [3] (fun i wr => ∃ k : Nat, k ≤ s.size ∧ i = .int .i64 (k : Int) ∧ Hid (∀ j (h : j < s.size), j < k → okN s j h = true) ∧ Hid (wr = w)) (fun i _ => s.size - (intOf i).toNat)
  case atStart => exact ⟨0, Nat.zero_le _, rfl, Lib.hid (fun _ _ h => absurd h (Nat.not_lt_zero _)), Lib.hid rfl⟩
  case round =>
    obtain ⟨k, hk, rfl, hall, hw⟩ := hrel
    obtain rfl := hw.out
    clear hw
    by_cases hlt : k < s.size
    · have hi1 : (k : Int) < (s.size : Int) := by omega
      have hi0 : (0 : Int) ≤ (k : Int) := by omega
      have hn : s[k].toNat < 256 := s[k].toNat_lt
      have hL := Letter_any s[k] wr
      have hD := Digit_any s[k] wr
      have hyes : okN s k hlt = true → Hid (∀ j (h : j < s.size), j < k + 1 → okN s j h = true) := fun e => Lib.hid (fun j h hj => by
        by_cases q : j = k
        · subst q; exact e
        · exact hall.out j h (by omega))
      have hno : okN s k hlt = false → Hid (R = false) := fun e => Lib.hid (by rw [← hR.out]; exact nameB_no hlt e)
      have hok : okN s k hlt = (letB s[k] || (decide (k ≠ 0) && digB s[k])) := rfl
      obtain ⟨lb, hlb⟩ : ∃ b, letB s[k] = b := ⟨_, rfl⟩
      obtain ⟨db, hdb⟩ : ∃ b, digB s[k] = b := ⟨_, rfl⟩
      rw [hlb] at hL hok
      rw [hdb] at hD hok
      replace hyes := Lib.hid hyes
      replace hno := Lib.hid hno
      replace hL := Lib.hid hL
      replace hD := Lib.hid hD
      replace hok := Lib.hid hok
      clear hlb hdb
      cases lb
      · by_cases hk0 : k = 0
        · have hf := hno.out (hok.out.trans (by rw [hk0]; rfl))
          have hke : ((k : Int) == 0) = true := by rw [hk0]; rfl
          have hkd : (k : Int) = 0 := by rw [hk0]; rfl
          subst hk0
          clear hyes hno hok hall hke hkd
          go_wp2_with fail
          refine hL.out.mono ?_
          rintro e w' ⟨rfl, hw⟩
          obtain rfl := hw.symm
          clear hL hw
          go_wp2
          go_ret
          exact ⟨by rw [hf.out] <;> rfl, rfl⟩
        · have hke : ((k : Int) == 0) = false := by rw [beq_eq_false_iff_ne]; omega
          have hkd : ¬ (k : Int) = 0 := by omega
          cases db
          · have hf := hno.out (hok.out.trans (by simp))
            clear hyes hno hok hall hk0
            go_wp2_with fail
            refine hL.out.mono ?_
            rintro e w' ⟨rfl, hw⟩
            obtain rfl := hw.symm
            clear hL hw
            go_wp2_with fail
            refine hD.out.mono ?_
            rintro e w' ⟨rfl, hw⟩
            obtain rfl := hw.symm
            clear hD hw
            go_wp2
            go_ret
            exact ⟨by rw [hf.out] <;> rfl, rfl⟩
          · have hy := hyes.out (hok.out.trans (by simp [hk0]))
            clear hyes hno hok hall hk0
            go_wp2_with fail
            refine hL.out.mono ?_
            rintro e w' ⟨rfl, hw⟩
            obtain rfl := hw.symm
            clear hL hw
            go_wp2_with fail
            refine hD.out.mono ?_
            rintro e w' ⟨rfl, hw⟩
            obtain rfl := hw.symm
            clear hD hw
            go_wp2
            go_roundw
            case rel => exact ⟨k + 1, by omega, by go_num, hy, Lib.hid trivial⟩
            case measure => simp [intOf]; omega
      · have hy := hyes.out (hok.out.trans (by simp))
        clear hyes hno hok hall
        go_wp2_with fail
        refine hL.out.mono ?_
        rintro e w' ⟨rfl, hw⟩
        obtain rfl := hw.symm
        clear hL hw
        go_wp2
        go_roundw
        case rel => exact ⟨k + 1, by omega, by go_num, hy, Lib.hid trivial⟩
        case measure => simp [intOf]; omega
    · obtain rfl : k = s.size := by omega
      have hi1 : ¬ (s.size : Int) < (s.size : Int) := by omega
      by_cases h0 : 0 < s.size
      · have hf := Lib.hid (hR.out.symm.trans (nameB_yes h0 fun j hj => hall.out j hj hj))
        have hie := bytesIs h0
        clear hall
        go_wp2
        go_ret
        exact ⟨by rw [hf.out] <;> rfl, rfl⟩
      · have hf : Hid (R = false) := Lib.hid (by rw [← hR.out]; unfold nameB; rw [dif_neg h0])
        obtain rfl := noBytes h0
        clear hall
        go_wp2
        go_ret
        exact ⟨by rw [hf.out] <;> rfl, rfl⟩
end Go.Proofs.YtigmdfdcflkggaaGreat
/-
  The document's answer: aliases' names, traps' names, options. Conditions: texts of at most a million bytes.
-/
set_option linter.unusedSimpArgs false
set_option linter.unusedVariables false
namespace Go.Proofs.YtigmdfdcflkggaaGreat
open Go Go.RowKit Go.ChangeMaps

theorem rSignal_any (s : ByteArray) (w : World) : Calls Tryz.prog 114 #[.string s] w fun e w' => e = .returned (.bool (trapB s)) ∧ w' = w := by
  by_cases h0 : s = ⟨#[69, 88, 73, 84]⟩
  · subst h0
    rw [show trapB ⟨#[69, 88, 73, 84]⟩ = true from rfl]
    go_enter Tryz.func114, Tryz.ntmps114
    go_wp2
    go_ret
    exact ⟨rfl, rfl⟩
  by_cases h1 : s = ⟨#[72, 85, 80]⟩
  · subst h1
    rw [show trapB ⟨#[72, 85, 80]⟩ = true from rfl]
    clear h0
    go_enter Tryz.func114, Tryz.ntmps114
    go_wp2
    go_ret
    exact ⟨rfl, rfl⟩
  by_cases h2 : s = ⟨#[73, 78, 84]⟩
  · subst h2
    rw [show trapB ⟨#[73, 78, 84]⟩ = true from rfl]
    clear h0 h1
    go_enter Tryz.func114, Tryz.ntmps114
    go_wp2
    go_ret
    exact ⟨rfl, rfl⟩
  by_cases h3 : s = ⟨#[84, 69, 82, 77]⟩
  · subst h3
    rw [show trapB ⟨#[84, 69, 82, 77]⟩ = true from rfl]
    clear h0 h1 h2
    go_enter Tryz.func114, Tryz.ntmps114
    go_wp2
    go_ret
    exact ⟨rfl, rfl⟩
  by_cases h4 : s = ⟨#[85, 83, 82, 49]⟩
  · subst h4
    rw [show trapB ⟨#[85, 83, 82, 49]⟩ = true from rfl]
    clear h0 h1 h2 h3
    go_enter Tryz.func114, Tryz.ntmps114
    go_wp2
    go_ret
    exact ⟨rfl, rfl⟩
  rw [show trapB s = false by unfold trapB; rw [decide_eq_false h0, decide_eq_false h1, decide_eq_false h2, decide_eq_false h3, decide_eq_false h4]; rfl]
  have g0 : (s.toList == [69, 88, 73, 84]) = false := bytesNe h0
  have g1 : (s.toList == [72, 85, 80]) = false := bytesNe h1
  have g2 : (s.toList == [73, 78, 84]) = false := bytesNe h2
  have g3 : (s.toList == [84, 69, 82, 77]) = false := bytesNe h3
  have g4 : (s.toList == [85, 83, 82, 49]) = false := bytesNe h4
  clear h0 h1 h2 h3 h4
  go_enter Tryz.func114, Tryz.ntmps114
  go_wp2
  go_ret
  exact ⟨rfl, rfl⟩
def okA (b : UInt8) : Bool := letB b || digB b || decide (b.toNat = 33) || decide (b.toNat = 37) || decide (b.toNat = 44) || decide (b.toNat = 64)
theorem byte_five (b : UInt8) : decide (0 ≤ Lib.indexByte [95, 33, 37, 44, 64] b) = (decide (b.toNat = 95) || decide (b.toNat = 33) || decide (b.toNat = 37) || decide (b.toNat = 44) || decide (b.toNat = 64)) := by
  have hb : ∀ n : Nat, ∀ x : UInt8, x.toNat = n → ((x == b) = decide (b.toNat = n)) := fun n x hx => by
    by_cases h : b.toNat = n
    · rw [decide_eq_true h, beq_iff_eq]
      exact UInt8.toNat_inj.1 (hx.trans h.symm)
    · rw [decide_eq_false h, beq_eq_false_iff_ne]
      intro e
      exact h (by rw [← e]; exact hx)
  unfold Lib.indexByte Lib.indexByte Lib.indexByte Lib.indexByte Lib.indexByte Lib.indexByte
  rw [hb 95 95 rfl, hb 33 33 rfl, hb 37 37 rfl, hb 44 44 rfl, hb 64 64 rfl]
  cases decide (b.toNat = 95) <;> cases decide (b.toNat = 33) <;> cases decide (b.toNat = 37) <;> cases decide (b.toNat = 44) <;> cases decide (b.toNat = 64) <;> rfl
theorem allow_alias (b : UInt8) : allow others b = okA b := by
  unfold allow okA letB digB
  rw [show others.data.toList = [95, 33, 37, 44, 64] from rfl, byte_five]
  generalize decide (97 ≤ b.toNat) = a1
  generalize decide (b.toNat ≤ 122) = a2
  generalize decide (65 ≤ b.toNat) = a3
  generalize decide (b.toNat ≤ 90) = a4
  generalize decide (48 ≤ b.toNat) = a5
  generalize decide (b.toNat ≤ 57) = a6
  generalize decide (b.toNat = 95) = a7
  generalize decide (b.toNat = 33) = b1
  generalize decide (b.toNat = 37) = b2
  generalize decide (b.toNat = 44) = b3
  generalize decide (b.toNat = 64) = b4
  cases a7 <;> cases b1 <;> cases b2 <;> cases b3 <;> cases b4 <;> cases a1 <;> cases a2 <;> cases a3 <;> cases a4 <;> cases a5 <;> cases a6 <;> rfl
theorem aliasB_yes {s : ByteArray} (h0 : 0 < s.size) (h : ∀ j (hj : j < s.size), okA s[j] = true) : aliasB s = true := by
  unfold aliasB
  rw [decide_eq_true h0]
  exact (allB_iff _ _).2 fun j hj => by rw [allow_alias]; exact h j hj
theorem aliasB_no {s : ByteArray} {j : Nat} (hj : j < s.size) (h : okA s[j] = false) : aliasB s = false := by
  unfold aliasB
  rw [allB_no hj (by rw [allow_alias]; exact h), Bool.and_false]
set_option maxRecDepth 100000 in
set_option maxHeartbeats 4000000 in
theorem raliased_any (s : ByteArray) (hs : s.size ≤ 1000000) (w : World) :
    Calls Tryz.prog 110 #[.string s] w fun e w' => e = .returned (.bool (aliasB s)) ∧ w' = w := by
  obtain ⟨R, hR⟩ : ∃ R, aliasB s = R := ⟨_, rfl⟩
  rw [hR]
  replace hR := Lib.hid hR
  go_enter Tryz.func110, Tryz.ntmps110
  go_wp2
  go_loopw [3, 4] (fun i bv wr => ∃ k : Nat, k ≤ s.size ∧ i = .int .i64 (k : Int) ∧ Hid (∀ j (h : j < s.size), j < k → okA s[j] = true) ∧ Hid (wr = w)) (fun i _ _ => s.size - (intOf i).toNat)
  case atStart => exact ⟨0, Nat.zero_le _, rfl, Lib.hid (fun _ _ h => absurd h (Nat.not_lt_zero _)), Lib.hid rfl⟩
  case round =>
    obtain ⟨k, hk, rfl, hall, hw⟩ := hrel
    obtain rfl := hw.out
    clear hw
    by_cases hlt : k < s.size
    · have hi1 : (k : Int) < (s.size : Int) := by omega
      have hi0 : (0 : Int) ≤ (k : Int) := by omega
      have hn : s[k].toNat < 256 := s[k].toNat_lt
      have hL := Letter_any s[k] wr
      have hD := Digit_any s[k] wr
      have hyes : okA s[k] = true → Hid (∀ j (h : j < s.size), j < k + 1 → okA s[j] = true) := fun e => Lib.hid (fun j h hj => by
        by_cases q : j = k
        · subst q; exact e
        · exact hall.out j h (by omega))
      have hno : okA s[k] = false → Hid (R = false) := fun e => Lib.hid (by rw [← hR.out]; exact aliasB_no hlt e)
      have hok : okA s[k] = (letB s[k] || digB s[k] || decide (s[k].toNat = 33) || decide (s[k].toNat = 37) || decide (s[k].toNat = 44) || decide (s[k].toNat = 64)) := rfl
      obtain ⟨lb, hlb⟩ : ∃ b, letB s[k] = b := ⟨_, rfl⟩
      obtain ⟨db, hdb⟩ : ∃ b, digB s[k] = b := ⟨_, rfl⟩
      rw [hlb] at hL hok
      rw [hdb] at hD hok
      replace hyes := Lib.hid hyes
      replace hno := Lib.hid hno
      replace hL := Lib.hid hL
      replace hD := Lib.hid hD
      replace hok := Lib.hid hok
      clear hlb hdb
      cases lb
      · cases db
        · by_cases e33 : s[k].toNat = 33
          · have hy := hyes.out (hok.out.trans (by simp [e33]))
            have m33 : ((s[k].toNat : Int) == 33) = true := by rw [e33]; rfl
            have mm33 : ((s[k].toNat : Int) != 33) = false := by rw [bne, m33]; rfl
            clear hyes hno hok hall e33 
            go_wp2_with fail
            refine hL.out.mono ?_
            rintro e w' ⟨rfl, hw⟩
            obtain rfl := hw.symm
            clear hL hw
            go_wp2_with fail
            refine hD.out.mono ?_
            rintro e w' ⟨rfl, hw⟩
            obtain rfl := hw.symm
            clear hD hw
            go_wp2
            go_roundw
            case rel => exact ⟨k + 1, by omega, by go_num, hy, Lib.hid trivial⟩
            case measure => simp [intOf]; omega
          have m33 : ((s[k].toNat : Int) == 33) = false := by rw [beq_eq_false_iff_ne]; omega
          have mm33 : ((s[k].toNat : Int) != 33) = true := by rw [bne, m33]; rfl
          by_cases e37 : s[k].toNat = 37
          · have hy := hyes.out (hok.out.trans (by simp [e37]))
            have m37 : ((s[k].toNat : Int) == 37) = true := by rw [e37]; rfl
            have mm37 : ((s[k].toNat : Int) != 37) = false := by rw [bne, m37]; rfl
            clear hyes hno hok hall e37 e33
            go_wp2_with fail
            refine hL.out.mono ?_
            rintro e w' ⟨rfl, hw⟩
            obtain rfl := hw.symm
            clear hL hw
            go_wp2_with fail
            refine hD.out.mono ?_
            rintro e w' ⟨rfl, hw⟩
            obtain rfl := hw.symm
            clear hD hw
            go_wp2
            go_roundw
            case rel => exact ⟨k + 1, by omega, by go_num, hy, Lib.hid trivial⟩
            case measure => simp [intOf]; omega
          have m37 : ((s[k].toNat : Int) == 37) = false := by rw [beq_eq_false_iff_ne]; omega
          have mm37 : ((s[k].toNat : Int) != 37) = true := by rw [bne, m37]; rfl
          by_cases e44 : s[k].toNat = 44
          · have hy := hyes.out (hok.out.trans (by simp [e44]))
            have m44 : ((s[k].toNat : Int) == 44) = true := by rw [e44]; rfl
            have mm44 : ((s[k].toNat : Int) != 44) = false := by rw [bne, m44]; rfl
            clear hyes hno hok hall e44 e33 e37
            go_wp2_with fail
            refine hL.out.mono ?_
            rintro e w' ⟨rfl, hw⟩
            obtain rfl := hw.symm
            clear hL hw
            go_wp2_with fail
            refine hD.out.mono ?_
            rintro e w' ⟨rfl, hw⟩
            obtain rfl := hw.symm
            clear hD hw
            go_wp2
            go_roundw
            case rel => exact ⟨k + 1, by omega, by go_num, hy, Lib.hid trivial⟩
            case measure => simp [intOf]; omega
          have m44 : ((s[k].toNat : Int) == 44) = false := by rw [beq_eq_false_iff_ne]; omega
          have mm44 : ((s[k].toNat : Int) != 44) = true := by rw [bne, m44]; rfl
          by_cases e64 : s[k].toNat = 64
          · have hy := hyes.out (hok.out.trans (by simp [e64]))
            have m64 : ((s[k].toNat : Int) == 64) = true := by rw [e64]; rfl
            have mm64 : ((s[k].toNat : Int) != 64) = false := by rw [bne, m64]; rfl
            clear hyes hno hok hall e64 e33 e37 e44
            go_wp2_with fail
            refine hL.out.mono ?_
            rintro e w' ⟨rfl, hw⟩
            obtain rfl := hw.symm
            clear hL hw
            go_wp2_with fail
            refine hD.out.mono ?_
            rintro e w' ⟨rfl, hw⟩
            obtain rfl := hw.symm
            clear hD hw
            go_wp2
            go_roundw
            case rel => exact ⟨k + 1, by omega, by go_num, hy, Lib.hid trivial⟩
            case measure => simp [intOf]; omega
          have m64 : ((s[k].toNat : Int) == 64) = false := by rw [beq_eq_false_iff_ne]; omega
          have mm64 : ((s[k].toNat : Int) != 64) = true := by rw [bne, m64]; rfl
          have hf := hno.out (hok.out.trans (by simp [e33, e37, e44, e64]))
          clear hyes hno hok hall e33 e37 e44 e64
          go_wp2_with fail
          refine hL.out.mono ?_
          rintro e w' ⟨rfl, hw⟩
          obtain rfl := hw.symm
          clear hL hw
          go_wp2_with fail
          refine hD.out.mono ?_
          rintro e w' ⟨rfl, hw⟩
          obtain rfl := hw.symm
          clear hD hw
          go_wp2
          go_ret
          exact ⟨by rw [hf.out] <;> rfl, rfl⟩
        · have hy := hyes.out (hok.out.trans (by simp))
          clear hyes hno hok hall
          go_wp2_with fail
          refine hL.out.mono ?_
          rintro e w' ⟨rfl, hw⟩
          obtain rfl := hw.symm
          clear hL hw
          go_wp2_with fail
          refine hD.out.mono ?_
          rintro e w' ⟨rfl, hw⟩
          obtain rfl := hw.symm
          clear hD hw
          go_wp2
          go_roundw
          case rel => exact ⟨k + 1, by omega, by go_num, hy, Lib.hid trivial⟩
          case measure => simp [intOf]; omega
      · have hy := hyes.out (hok.out.trans (by simp))
        clear hyes hno hok hall
        go_wp2_with fail
        refine hL.out.mono ?_
        rintro e w' ⟨rfl, hw⟩
        obtain rfl := hw.symm
        clear hL hw
        go_wp2
        go_roundw
        case rel => exact ⟨k + 1, by omega, by go_num, hy, Lib.hid trivial⟩
        case measure => simp [intOf]; omega
    · obtain rfl : k = s.size := by omega
      have hi1 : ¬ (s.size : Int) < (s.size : Int) := by omega
      by_cases h0 : 0 < s.size
      · have hf := Lib.hid (hR.out.symm.trans (aliasB_yes h0 fun j hj => hall.out j hj hj))
        have hie := bytesIs h0
        clear hall
        go_wp2
        go_ret
        exact ⟨by rw [hf.out] <;> rfl, rfl⟩
      · have hf : Hid (R = false) := Lib.hid (by rw [← hR.out]; unfold aliasB; rw [decide_eq_false h0]; rfl)
        obtain rfl := noBytes h0
        clear hall
        go_wp2
        go_ret
        exact ⟨by rw [hf.out] <;> rfl, rfl⟩
def hasB (o : ByteArray) (c : UInt8) : Bool := decide (0 ≤ Lib.indexByte o.data.toList c)
theorem hasB_yes {o : ByteArray} {c : UInt8} {j : Nat} (hj : j < o.size) (h : o[j] = c) : hasB o c = true := by
  unfold hasB
  rw [decide_eq_true_eq]
  apply Classical.byContradiction
  intro hn
  have hge := Lib.indexByte_ge o.data.toList c
  have he : Lib.indexByte o.data.toList c = -1 := by omega
  exact Lib.indexByte_none he j (by rw [List.getElem?_eq_getElem (by simpa using hj)]; exact congrArg some h)
theorem hasB_no {o : ByteArray} {c : UInt8} (h : ∀ j (hj : j < o.size), o[j] ≠ c) : hasB o c = false := by
  unfold hasB
  rw [decide_eq_false_iff_not]
  intro h0
  obtain ⟨n, hn⟩ : ∃ n : Nat, Lib.indexByte o.data.toList c = (n : Int) := ⟨_, (Int.toNat_of_nonneg h0).symm⟩
  have h1 := (Lib.indexByte_some hn).1
  obtain ⟨hl, e⟩ := List.getElem?_eq_some_iff.1 h1
  exact h n (by simpa using hl) e
set_option maxRecDepth 100000 in
set_option maxHeartbeats 4000000 in
theorem rOption_any {W : World} {rb : Nat} {r : Rf} (h : RfA W rb r) (c : UInt8) (ho : r.o.size ≤ 1000) :
    Calls Tryz.prog 109 #[ptrV rb, .int .u8 (c.toNat : Int)] W fun e w' => e = .returned (.bool (hasB r.o c)) ∧ w' = W := by
  obtain ⟨sv, sf, sa, st, h⟩ := h
  have cr : W.cell? ⟨rb, 4, none⟩ = some (.string r.o) := h.blk.cell (i := 4) rfl
  have crl := h.blk.lt
  obtain ⟨R, hR⟩ : ∃ R, hasB r.o c = R := ⟨_, rfl⟩
  rw [hR]
  generalize r.o = s at cr hR ho
  replace hR := Lib.hid hR
  unfold ptrV
  clear h
  go_enter Tryz.func109, Tryz.ntmps109
  go_wp2
  go_loopw [5] (fun i wr => ∃ k : Nat, k ≤ s.size ∧ i = .int .i64 (k : Int) ∧ Hid (∀ j (h : j < s.size), j < k → s[j] ≠ c) ∧ Hid (wr = W)) (fun i _ => s.size - (intOf i).toNat)
  case atStart => exact ⟨0, Nat.zero_le _, rfl, Lib.hid (fun _ _ h => absurd h (Nat.not_lt_zero _)), Lib.hid rfl⟩
  case round =>
    obtain ⟨k, hk, rfl, hall, hw⟩ := hrel
    obtain rfl := hw.out
    clear hw
    by_cases hlt : k < s.size
    · have hi1 : (k : Int) < (s.size : Int) := by omega
      have hi0 : (0 : Int) ≤ (k : Int) := by omega
      by_cases he : s[k] = c
      · have hf := Lib.hid (hR.out.symm.trans (hasB_yes hlt he))
        have hq : ((s[k].toNat : Int) == (c.toNat : Int)) = true := by rw [he]; exact beq_self_eq_true _
        have hq2 : (s[k].toNat : Int) = (c.toNat : Int) := by rw [he]
        clear hall he
        replace hq2 := Lib.hid hq2
        go_wp2
        go_ret
        exact ⟨by rw [hf.out] <;> rfl, rfl⟩
      · have hne : s[k].toNat ≠ c.toNat := fun e => he (UInt8.toNat_inj.1 e)
        have hq2 : ¬ (s[k].toNat : Int) = (c.toNat : Int) := fun e => hne (Int.ofNat_inj.1 e)
        have hq : ((s[k].toNat : Int) == (c.toNat : Int)) = false := beq_eq_false_iff_ne.2 hq2
        have hy : Hid (∀ j (h : j < s.size), j < k + 1 → s[j] ≠ c) := Lib.hid (fun j h hj => by
          by_cases q : j = k
          · subst q; exact he
          · exact hall.out j h (by omega))
        clear hall he hne
        go_wp2
        go_roundw
        case rel => exact ⟨k + 1, by omega, by go_num, hy, Lib.hid trivial⟩
        case measure => simp [intOf]; omega
    · obtain rfl : k = s.size := by omega
      have hi1 : ¬ (s.size : Int) < (s.size : Int) := by omega
      have hf := Lib.hid (hR.out.symm.trans (hasB_no fun j hj => hall.out j hj hj))
      clear hall
      go_wp2
      go_ret
      exact ⟨by rw [hf.out] <;> rfl, rfl⟩
end Go.Proofs.YtigmdfdcflkggaaGreat
/-
  The document's answer: aliases and traps. Conditions: fewer than ninety thousand names, texts of at most a million bytes.
-/
set_option linter.unusedSimpArgs false
set_option linter.unusedVariables false
namespace Go.Proofs.YtigmdfdcflkggaaGreat
open Go Go.RowKit Go.ChangeMaps

section
variable {W w w' : World} {rb : Nat} {r : Rf}
theorem rAlias_any (h : RfA W rb r) (k : ByteArray) :
    Calls Tryz.prog 112 #[ptrV rb, .string k] W fun e w' => e = .returned (.tuple #[.string ((look r.a k).getD noW), .bool (look r.a k).isSome]) ∧ w' = W := by
  obtain ⟨sv, sf, sa, st, h⟩ := h
  obtain ⟨A, c, hst, hc, hcm⟩ := own_form h.ra
  subst hst
  have hf := find_any h.ra rfl k
  have cr : W.cell? ⟨rb, 2, none⟩ = some (.slice A r.a.length c) := h.blk.cell (i := 2) rfl
  have crl := h.blk.lt
  unfold ptrV
  generalize (look r.a k).getD noW = x1 at hf ⊢
  generalize (look r.a k).isSome = x2 at hf ⊢
  generalize r.a.length = n at hf cr
  clear h hc
  go_enter Tryz.func112, Tryz.ntmps112
  go_wp2_with fail
  refine hf.mono ?_
  rintro e w' ⟨rfl, hw⟩
  obtain rfl := hw.symm
  clear hf hw
  go_wp2
  go_ret2
  exact ⟨rfl, rfl⟩
theorem rTrap_any (h : RfA W rb r) (k : ByteArray) :
    Calls Tryz.prog 71 #[ptrV rb, .string k] W fun e w' => e = .returned (.tuple #[.string ((look r.t k).getD noW), .bool (look r.t k).isSome]) ∧ w' = W := by
  obtain ⟨sv, sf, sa, st, h⟩ := h
  obtain ⟨A, c, hst, hc, hcm⟩ := own_form h.rt
  subst hst
  have hf := find_any h.rt rfl k
  have cr : W.cell? ⟨rb, 3, none⟩ = some (.slice A r.t.length c) := h.blk.cell (i := 3) rfl
  have crl := h.blk.lt
  unfold ptrV
  generalize (look r.t k).getD noW = x1 at hf ⊢
  generalize (look r.t k).isSome = x2 at hf ⊢
  generalize r.t.length = n at hf cr
  clear h hc
  go_enter Tryz.func71, Tryz.ntmps71
  go_wp2_with fail
  refine hf.mono ?_
  rintro e w' ⟨rfl, hw⟩
  obtain rfl := hw.symm
  clear hf hw
  go_wp2
  go_ret2
  exact ⟨rfl, rfl⟩
set_option maxRecDepth 100000 in
set_option maxHeartbeats 4000000 in
theorem rSetAlias_ok (h : RfA W rb r) (hl : r.a.length ≤ 89000) (k v : ByteArray) (hk : k.size ≤ 1000000) (hgd : aliasB k = true) (hv : ¬ 4096 < v.size) :
    Calls Tryz.prog 55 #[ptrV rb, .string k, .string v] W fun e w' => e = .returned (.int .i64 0) ∧ RfA w' rb { r with a := putL false k v (dropK r.a k) } ∧ Stp (fun b => b = rb) W w' := by
  obtain ⟨sv, sf, sa, st, h⟩ := h
  obtain ⟨A, c, hst, hc, hcm⟩ := own_form h.ra
  subst hst
  have h1 := h.ra
  have hwt := with_any h1 rfl (by omega) k v
  have cr : W.cell? ⟨rb, 2, none⟩ = some (.slice A r.a.length c) := h.blk.cell (i := 2) rfl
  have crl := h.blk.lt
  have hall := fun (w2 : World) (hb : Below W.heap.size W w2) => h.below hb
  have hg := raliased_any k hk W
  rw [hgd] at hg
  unfold ptrV
  replace hall := Lib.hid hall
  clear h h1 hc
  go_enter Tryz.func55, Tryz.ntmps55
  go_wp2_with fail
  refine hg.mono ?_
  rintro e w' ⟨rfl, hwq⟩
  obtain rfl := hwq.symm
  clear hg hwq
  go_wp2_with fail
  refine hwt.mono ?_
  rintro e w1 ⟨A2, m2, c2, rfl, hrow, hlen, hb⟩
  have hA := hall.out w1 hb
  have hfz := hA.blk.frozen 2
  have cr1 : w1.cell? ⟨rb, 2, none⟩ = some (.slice A r.a.length c) := hA.blk.cell (i := 2) rfl
  have crl1 := hA.blk.lt
  obtain ⟨hR, hS⟩ := hA.set (r' := { r with a := putL false k v (dropK r.a k) }) (sa' := .slice A2 m2 c2) 2 (.slice A2 m2 c2) rfl hA.rv hA.rf (by show w1.ownsRow 0 _ 2 _ (putL false k v (dropK r.a k)).length _; rw [hlen]; exact hrow) hA.rt hA.ga
  have hSt : Stp (fun b => b = rb) W (w1.setCell ⟨rb, 2, none⟩ (.slice A2 m2 c2)) := Stp.trans (S := fun b => b = rb) (S' := fun b => b = rb) (Stp.mono (S := fun _ => False) ⟨hb.os, hb.tape, hb.output, hb.size, fun b hb' _ => hb.block b hb'⟩ (fun _ _ h => h.elim)) hS (fun _ _ h => h)
  have hfin := Lib.hid (And.intro hR hSt)
  clear hA hR hS hSt hwt hrow hb hlen cr crl hall
  go_wp2
  go_ret
  exact ⟨rfl, ⟨_, _, _, _, hfin.out.1⟩, hfin.out.2⟩
set_option maxRecDepth 100000 in
set_option maxHeartbeats 4000000 in
theorem rSetTrap_ok (h : RfA W rb r) (hl : r.t.length ≤ 89000) (k v : ByteArray) (hgd : trapB k = true) (hv : ¬ 4096 < v.size) :
    Calls Tryz.prog 57 #[ptrV rb, .string k, .string v] W fun e w' => e = .returned (.int .i64 0) ∧ RfA w' rb { r with t := putL false k v (dropK r.t k) } ∧ Stp (fun b => b = rb) W w' := by
  obtain ⟨sv, sf, sa, st, h⟩ := h
  obtain ⟨A, c, hst, hc, hcm⟩ := own_form h.rt
  subst hst
  have h1 := h.rt
  have hwt := with_any h1 rfl (by omega) k v
  have cr : W.cell? ⟨rb, 3, none⟩ = some (.slice A r.t.length c) := h.blk.cell (i := 3) rfl
  have crl := h.blk.lt
  have hall := fun (w2 : World) (hb : Below W.heap.size W w2) => h.below hb
  have hg := rSignal_any k W
  rw [hgd] at hg
  unfold ptrV
  replace hall := Lib.hid hall
  clear h h1 hc
  go_enter Tryz.func57, Tryz.ntmps57
  go_wp2_with fail
  refine hg.mono ?_
  rintro e w' ⟨rfl, hwq⟩
  obtain rfl := hwq.symm
  clear hg hwq
  go_wp2_with fail
  refine hwt.mono ?_
  rintro e w1 ⟨A2, m2, c2, rfl, hrow, hlen, hb⟩
  have hA := hall.out w1 hb
  have hfz := hA.blk.frozen 3
  have cr1 : w1.cell? ⟨rb, 3, none⟩ = some (.slice A r.t.length c) := hA.blk.cell (i := 3) rfl
  have crl1 := hA.blk.lt
  obtain ⟨hR, hS⟩ := hA.set (r' := { r with t := putL false k v (dropK r.t k) }) (st' := .slice A2 m2 c2) 3 (.slice A2 m2 c2) rfl hA.rv hA.rf hA.ra (by show w1.ownsRow 0 _ 2 _ (putL false k v (dropK r.t k)).length _; rw [hlen]; exact hrow) hA.ga
  have hSt : Stp (fun b => b = rb) W (w1.setCell ⟨rb, 3, none⟩ (.slice A2 m2 c2)) := Stp.trans (S := fun b => b = rb) (S' := fun b => b = rb) (Stp.mono (S := fun _ => False) ⟨hb.os, hb.tape, hb.output, hb.size, fun b hb' _ => hb.block b hb'⟩ (fun _ _ h => h.elim)) hS (fun _ _ h => h)
  have hfin := Lib.hid (And.intro hR hSt)
  clear hA hR hS hSt hwt hrow hb hlen cr crl hall
  go_wp2
  go_ret
  exact ⟨rfl, ⟨_, _, _, _, hfin.out.1⟩, hfin.out.2⟩
set_option maxRecDepth 100000 in
set_option maxHeartbeats 4000000 in
theorem rUntrap_ok (h : RfA W rb r) (hl : r.t.length ≤ 89000) (k : ByteArray) (hgd : trapB k = true) :
    Calls Tryz.prog 58 #[ptrV rb, .string k] W fun e w' => e = .returned (.int .i64 0) ∧ RfA w' rb { r with t := dropK r.t k } ∧ Stp (fun b => b = rb) W w' := by
  obtain ⟨sv, sf, sa, st, h⟩ := h
  obtain ⟨A, c, hst, hc, hcm⟩ := own_form h.rt
  subst hst
  have h1 := h.rt
  have hwt := without_any h1 rfl (by omega) k
  have cr : W.cell? ⟨rb, 3, none⟩ = some (.slice A r.t.length c) := h.blk.cell (i := 3) rfl
  have crl := h.blk.lt
  have hall := fun (w2 : World) (hb : Below W.heap.size W w2) => h.below hb
  have hg := rSignal_any k W
  rw [hgd] at hg
  unfold ptrV
  replace hall := Lib.hid hall
  clear h h1 hc
  go_enter Tryz.func58, Tryz.ntmps58
  go_wp2_with fail
  refine hg.mono ?_
  rintro e w' ⟨rfl, hwq⟩
  obtain rfl := hwq.symm
  clear hg hwq
  go_wp2_with fail
  refine hwt.mono ?_
  rintro e w1 ⟨A2, c2, rfl, hrow, hb⟩
  have hA := hall.out w1 hb
  have hfz := hA.blk.frozen 3
  have cr1 : w1.cell? ⟨rb, 3, none⟩ = some (.slice A r.t.length c) := hA.blk.cell (i := 3) rfl
  have crl1 := hA.blk.lt
  obtain ⟨hR, hS⟩ := hA.set (r' := { r with t := dropK r.t k }) (st' := .slice A2 (dropK r.t k).length c2) 3 (.slice A2 (dropK r.t k).length c2) rfl hA.rv hA.rf hA.ra (own_base hrow (Nat.zero_le _)) hA.ga
  have hSt : Stp (fun b => b = rb) W (w1.setCell ⟨rb, 3, none⟩ (.slice A2 (dropK r.t k).length c2)) := Stp.trans (S := fun b => b = rb) (S' := fun b => b = rb) (Stp.mono (S := fun _ => False) ⟨hb.os, hb.tape, hb.output, hb.size, fun b hb' _ => hb.block b hb'⟩ (fun _ _ h => h.elim)) hS (fun _ _ h => h)
  have hfin := Lib.hid (And.intro hR hSt)
  clear hA hR hS hSt hwt hrow hb cr crl hall
  go_wp2
  go_ret
  exact ⟨rfl, ⟨_, _, _, _, hfin.out.1⟩, hfin.out.2⟩
set_option maxRecDepth 100000 in
set_option maxHeartbeats 4000000 in
theorem rUnalias_ok (h : RfA W rb r) (hl : r.a.length ≤ 89000) (k : ByteArray) (hgd : (look r.a k).isSome = true) :
    Calls Tryz.prog 56 #[ptrV rb, .string k] W fun e w' => e = .returned (.int .i64 0) ∧ RfA w' rb { r with a := dropK r.a k } ∧ Stp (fun b => b = rb) W w' := by
  obtain ⟨sv, sf, sa, st, h⟩ := h
  obtain ⟨A, c, hst, hc, hcm⟩ := own_form h.ra
  subst hst
  have h1 := h.ra
  have hwt := without_any h1 rfl (by omega) k
  have cr : W.cell? ⟨rb, 2, none⟩ = some (.slice A r.a.length c) := h.blk.cell (i := 2) rfl
  have crl := h.blk.lt
  have hall := fun (w2 : World) (hb : Below W.heap.size W w2) => h.below hb
  have hg := rAlias_any ⟨_, _, _, _, h⟩ k
  rw [hgd] at hg
  generalize (look r.a k).getD noW = x1 at hg
  unfold ptrV at hg
  unfold ptrV
  replace hall := Lib.hid hall
  clear h h1 hc
  go_enter Tryz.func56, Tryz.ntmps56
  go_wp2_with fail
  refine hg.mono ?_
  rintro e w' ⟨rfl, hwq⟩
  obtain rfl := hwq.symm
  clear hg hwq
  go_wp2_with fail
  refine hwt.mono ?_
  rintro e w1 ⟨A2, c2, rfl, hrow, hb⟩
  have hA := hall.out w1 hb
  have hfz := hA.blk.frozen 2
  have cr1 : w1.cell? ⟨rb, 2, none⟩ = some (.slice A r.a.length c) := hA.blk.cell (i := 2) rfl
  have crl1 := hA.blk.lt
  obtain ⟨hR, hS⟩ := hA.set (r' := { r with a := dropK r.a k }) (sa' := .slice A2 (dropK r.a k).length c2) 2 (.slice A2 (dropK r.a k).length c2) rfl hA.rv hA.rf (own_base hrow (Nat.zero_le _)) hA.rt hA.ga
  have hSt : Stp (fun b => b = rb) W (w1.setCell ⟨rb, 2, none⟩ (.slice A2 (dropK r.a k).length c2)) := Stp.trans (S := fun b => b = rb) (S' := fun b => b = rb) (Stp.mono (S := fun _ => False) ⟨hb.os, hb.tape, hb.output, hb.size, fun b hb' _ => hb.block b hb'⟩ (fun _ _ h => h.elim)) hS (fun _ _ h => h)
  have hfin := Lib.hid (And.intro hR hSt)
  clear hA hR hS hSt hwt hrow hb cr crl hall
  go_wp2
  go_ret
  exact ⟨rfl, ⟨_, _, _, _, hfin.out.1⟩, hfin.out.2⟩
set_option maxRecDepth 100000 in
theorem rSetAlias_bad (h : RfA W rb r) (k v : ByteArray) (hk : k.size ≤ 1000000) (hgd : aliasB k = false) :
    Calls Tryz.prog 55 #[ptrV rb, .string k, .string v] W fun e w' => e = .returned (.int .i64 16) ∧ w' = W := by
  have hg := raliased_any k hk W
  rw [hgd] at hg
  unfold ptrV
  clear h
  go_enter Tryz.func55, Tryz.ntmps55
  go_wp2_with fail
  refine hg.mono ?_
  rintro e w' ⟨rfl, hwq⟩
  obtain rfl := hwq.symm
  clear hg hwq
  go_wp2
  go_ret
  exact ⟨rfl, rfl⟩
set_option maxRecDepth 100000 in
theorem rSetAlias_big (h : RfA W rb r) (k v : ByteArray) (hk : k.size ≤ 1000000) (hgd : aliasB k = true) (hv : 4096 < v.size) :
    Calls Tryz.prog 55 #[ptrV rb, .string k, .string v] W fun e w' => e = .returned (.int .i64 21) ∧ w' = W := by
  have hg := raliased_any k hk W
  rw [hgd] at hg
  have hv2 : (4096 : Int) < (v.size : Int) := by omega
  unfold ptrV
  clear h
  go_enter Tryz.func55, Tryz.ntmps55
  go_wp2_with fail
  refine hg.mono ?_
  rintro e w' ⟨rfl, hwq⟩
  obtain rfl := hwq.symm
  clear hg hwq
  go_wp2
  go_ret
  exact ⟨rfl, rfl⟩
set_option maxRecDepth 100000 in
theorem rSetTrap_bad (h : RfA W rb r) (k v : ByteArray) (hgd : trapB k = false) :
    Calls Tryz.prog 57 #[ptrV rb, .string k, .string v] W fun e w' => e = .returned (.int .i64 16) ∧ w' = W := by
  have hg := rSignal_any k W
  rw [hgd] at hg
  unfold ptrV
  clear h
  go_enter Tryz.func57, Tryz.ntmps57
  go_wp2_with fail
  refine hg.mono ?_
  rintro e w' ⟨rfl, hwq⟩
  obtain rfl := hwq.symm
  clear hg hwq
  go_wp2
  go_ret
  exact ⟨rfl, rfl⟩
set_option maxRecDepth 100000 in
theorem rSetTrap_big (h : RfA W rb r) (k v : ByteArray) (hgd : trapB k = true) (hv : 4096 < v.size) :
    Calls Tryz.prog 57 #[ptrV rb, .string k, .string v] W fun e w' => e = .returned (.int .i64 21) ∧ w' = W := by
  have hg := rSignal_any k W
  rw [hgd] at hg
  have hv2 : (4096 : Int) < (v.size : Int) := by omega
  unfold ptrV
  clear h
  go_enter Tryz.func57, Tryz.ntmps57
  go_wp2_with fail
  refine hg.mono ?_
  rintro e w' ⟨rfl, hwq⟩
  obtain rfl := hwq.symm
  clear hg hwq
  go_wp2
  go_ret
  exact ⟨rfl, rfl⟩
set_option maxRecDepth 100000 in
theorem rUntrap_bad (h : RfA W rb r) (k : ByteArray) (hgd : trapB k = false) :
    Calls Tryz.prog 58 #[ptrV rb, .string k] W fun e w' => e = .returned (.int .i64 16) ∧ w' = W := by
  have hg := rSignal_any k W
  rw [hgd] at hg
  unfold ptrV
  clear h
  go_enter Tryz.func58, Tryz.ntmps58
  go_wp2_with fail
  refine hg.mono ?_
  rintro e w' ⟨rfl, hwq⟩
  obtain rfl := hwq.symm
  clear hg hwq
  go_wp2
  go_ret
  exact ⟨rfl, rfl⟩
set_option maxRecDepth 100000 in
theorem rUnalias_no (h : RfA W rb r) (k : ByteArray) (hgd : (look r.a k).isSome = false) :
    Calls Tryz.prog 56 #[ptrV rb, .string k] W fun e w' => e = .returned (.int .i64 10) ∧ w' = W := by
  have hg := rAlias_any h k
  rw [hgd] at hg
  generalize (look r.a k).getD noW = x1 at hg
  unfold ptrV at hg
  unfold ptrV
  clear h
  go_enter Tryz.func56, Tryz.ntmps56
  go_wp2_with fail
  refine hg.mono ?_
  rintro e w' ⟨rfl, hwq⟩
  obtain rfl := hwq.symm
  clear hg hwq
  go_wp2
  go_ret
  exact ⟨rfl, rfl⟩
end
end Go.Proofs.YtigmdfdcflkggaaGreat
