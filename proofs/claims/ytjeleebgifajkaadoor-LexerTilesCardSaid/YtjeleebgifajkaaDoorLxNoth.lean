/-
  nothing, told plainly. Conditions: texts of up to a million bytes.
-/
import Derived.Test.YtjeleebgifajkaaDoorLxTileP
set_option linter.unusedSimpArgs false
set_option linter.unusedVariables false
namespace Go.Proofs.YtjeleebgifajkaaDoor
open Go Go.Shelf Go.RowKit

section
set_option maxRecDepth 100000
set_option maxHeartbeats 4000000
theorem nothing_any (s : ByteArray) (hs : s.size ≤ 1000000) (w : World) :
    Calls Tryd.prog 21 #[.string s] w fun e w' => e = .returned (.bool (nothB (bl s))) ∧ w' = w := by
  obtain ⟨R, hR⟩ : ∃ R, nothB (bl s) = R := ⟨_, rfl⟩
  rw [hR]
  replace hR := Lib.hid hR
  go_enter Tryd.func21, Tryd.ntmps21
  go_wp2
  go_loopw [3] (fun iv wr => ∃ k : Nat, k ≤ s.size ∧ iv = .int .i64 (k : Int) ∧ Hid (nothB ((bl s).drop k) = R) ∧ Hid (wr = w)) (fun iv _ => s.size - (intOf iv).toNat)
  case atStart => exact ⟨0, Nat.zero_le _, rfl, hR, Lib.hid rfl⟩
  case round =>
    obtain ⟨k, hk, rfl, hsay, hw⟩ := hrel
    obtain rfl := hw.out
    clear hw hR
    by_cases hlt : k < s.size
    · have hi1 : (k : Int) < (s.size : Int) := by omega
      have hn : s[k].toNat < 256 := s[k].toNat_lt
      have hsay0 := hsay.out
      have hx := bl_cons s k hlt
      rw [hx] at hsay0
      by_cases h92 : s[k] = 92
      · have i92 : (s[k].toNat : Int) = 92 := by rw [h92]; rfl
        by_cases hk1 : k + 1 < s.size
        · have hi2 : (k : Int) + 1 < (s.size : Int) := by omega
          have hn2 : s[k + 1].toNat < 256 := s[k + 1].toNat_lt
          have hx2 := bl_cons s (k + 1) hk1
          rw [hx2] at hsay0
          by_cases h10 : s[k + 1] = 10
          · have i10 : (s[k + 1].toNat : Int) = 10 := by rw [h10]; rfl
            rw [h92, h10, noth_join] at hsay0
            have hsay1 : Hid (nothB ((bl s).drop (k + 2)) = R) := Lib.hid hsay0
            clear hsay hsay0 hx hx2 h92 h10
            go_wp2
            go_roundw
            case rel => exact ⟨k + 2, by omega, by go_num, hsay1, Lib.hid (by trivial)⟩
            case measure => simp [intOf]; omega
          · have i10 : ¬ (s[k + 1].toNat : Int) = 10 := fun e => h10 (UInt8.toNat_inj.1 (by rw [show (10 : UInt8).toNat = 10 from rfl]; omega))
            rw [noth_no (by rintro ⟨_, h⟩; exact h10 h) (by rw [h92]; decide) (by rw [h92]; decide)] at hsay0
            replace hsay0 := Lib.hid hsay0
            clear hsay hx hx2 h92 h10
            go_wp2
            go_ret
            exact ⟨by rw [← hsay0.out]; rfl, rfl⟩
        · have hi2 : ¬ (k : Int) + 1 < (s.size : Int) := by omega
          rw [bl_end s (k + 1) (by omega), noth_no (by rintro ⟨_, h⟩; exact absurd h (by decide)) (by rw [h92]; decide) (by rw [h92]; decide)] at hsay0
          replace hsay0 := Lib.hid hsay0
          clear hsay hx h92
          go_wp2
          go_ret
          exact ⟨by rw [← hsay0.out]; rfl, rfl⟩
      · have i92 : ¬ (s[k].toNat : Int) = 92 := fun e => h92 (UInt8.toNat_inj.1 (by rw [show (92 : UInt8).toNat = 92 from rfl]; omega))
        by_cases h35 : s[k] = 35
        · have i35 : (s[k].toNat : Int) = 35 := by rw [h35]; rfl
          have hd := hsay0
          rw [h35, noth_hash, ← h35, ← hx] at hd
          have hrl : ((bl s).drop (k + 1)).length + 1 = s.size - k := by rw [List.length_drop, bl_len]; omega
          rw [hrl] at hd
          obtain ⟨ln, hln⟩ : ∃ ln, lineN ((bl s).drop k) = ln := ⟨_, rfl⟩
          have hll := lineN_le ((bl s).drop k)
          have hlat := lineN_at ((bl s).drop k)
          have hlno : ∀ i, i < ln → ∃ h : k + i < s.size, s[k + i] ≠ 10 := by
            intro i hi
            rw [List.length_drop, bl_len] at hll
            refine ⟨by omega, ?_⟩
            have hm : ∀ (x : List UInt8) (i : Nat), i < lineN x → x[i]? ≠ some 10 := by
              intro x
              induction x with
              | nil => intro i h; simp [lineN] at h
              | cons a r ih =>
                intro i h
                unfold lineN at h
                by_cases ha : a = 10
                · rw [if_pos ha] at h; omega
                · rw [if_neg ha] at h
                  cases i with
                  | zero => simpa using ha
                  | succ i => simpa using ih i (by omega)
            intro e
            refine hm ((bl s).drop k) i (by omega) ?_
            rw [List.getElem?_drop, List.getElem?_eq_getElem (by rw [bl_len]; omega)]
            exact congrArg some e
          rw [hln] at hll hlat hd
          rw [List.length_drop, bl_len] at hll hlat
          have hqn : ∀ h : k + ln < s.size, s[k + ln] = 10 := by
            intro h
            have := hlat (by omega)
            rw [List.getElem?_drop, List.getElem?_eq_getElem (by rw [bl_len]; omega)] at this
            exact Option.some.inj this
          replace hd := Lib.hid hd
          replace hlno := Lib.hid hlno
          replace hqn := Lib.hid hqn
          clear hsay hsay0 hx h92 h35 hln hlat hrl
          go_wp2
          go_loopw [3] (fun jv wx => ∃ j : Nat, j ≤ ln ∧ jv = .int .i64 ((k + j : Nat) : Int) ∧ Hid (wx = wr)) (fun jv _ => s.size - (intOf jv).toNat)
          case atStart => exact ⟨0, Nat.zero_le _, rfl, Lib.hid rfl⟩
          case round =>
            obtain ⟨j, hj, rfl, hwx⟩ := hrel
            obtain rfl := hwx.out
            clear hwx
            obtain ⟨e, he⟩ : ∃ e, k + j = e := ⟨_, rfl⟩
            by_cases hjl : j < ln
            · obtain ⟨h1, h2⟩ := hlno.out j hjl
              have hel : e < s.size := by omega
              have hei : (e : Int) < (s.size : Int) := by omega
              have hn9 : s[e].toNat < 256 := s[e].toNat_lt
              have hc : ¬ (s[e].toNat : Int) = 10 := fun h => by subst he; exact h2 (UInt8.toNat_inj.1 (by rw [show (10 : UInt8).toNat = 10 from rfl]; omega))
              rw [he]
              replace he := Lib.hid he
              clear h2
              go_wp2
              go_roundw
              case rel => exact ⟨j + 1, by omega, by have := he.out; go_num, Lib.hid (by trivial)⟩
              case measure => have := he.out; simp [intOf]; omega
            · obtain rfl : ln = j := by omega
              by_cases hel : e < s.size
              · have hei : (e : Int) < (s.size : Int) := by omega
                have hn9 : s[e].toNat < 256 := s[e].toNat_lt
                have hc : (s[e].toNat : Int) = 10 := by have := hqn.out (by omega); subst he; rw [this]; rfl
                have hne : ¬ (e : Int) = (s.size : Int) := by omega
                have hRF : Hid (R = false) := Lib.hid (by rw [← hd.out]; exact decide_eq_false (by omega))
                rw [he]
                have hb : ((e : Int) == (s.size : Int)) = false := beq_eq_false_iff_ne.2 hne
                replace hb := Lib.hid hb
                clear he hd
                go_wp2
                go_ret
                exact ⟨by rw [hRF.out]; exact congrArg (fun b => Ending.returned (Value.bool b)) hb.out, rfl⟩
              · have hee : e = s.size := by omega
                have hei : ¬ (s.size : Int) < (s.size : Int) := by omega
                have hRF : Hid (R = true) := Lib.hid (by rw [← hd.out]; exact decide_eq_true (by omega))
                rw [he, hee]
                clear he hd hee hel
                go_wp2
                go_ret
                exact ⟨by rw [hRF.out]; rfl, rfl⟩
        · have i35 : ¬ (s[k].toNat : Int) = 35 := fun e => h35 (UInt8.toNat_inj.1 (by rw [show (35 : UInt8).toNat = 35 from rfl]; omega))
          by_cases h32 : s[k] = 32
          · have i32 : (s[k].toNat : Int) = 32 := by rw [h32]; rfl
            rw [noth_one _ (.inl h32)] at hsay0
            have hsay1 : Hid (nothB ((bl s).drop (k + 1)) = R) := Lib.hid hsay0
            clear hsay hsay0 hx h92 h35 h32
            go_wp2
            go_roundw
            case rel => exact ⟨k + 1, by omega, by go_num, hsay1, Lib.hid (by trivial)⟩
            case measure => simp [intOf]; omega
          · have i32 : ¬ (s[k].toNat : Int) = 32 := fun e => h32 (UInt8.toNat_inj.1 (by rw [show (32 : UInt8).toNat = 32 from rfl]; omega))
            by_cases h9 : s[k] = 9
            · have i9 : (s[k].toNat : Int) = 9 := by rw [h9]; rfl
              rw [noth_one _ (.inr h9)] at hsay0
              have hsay1 : Hid (nothB ((bl s).drop (k + 1)) = R) := Lib.hid hsay0
              clear hsay hsay0 hx h92 h35 h32 h9
              go_wp2
              go_roundw
              case rel => exact ⟨k + 1, by omega, by go_num, hsay1, Lib.hid (by trivial)⟩
              case measure => simp [intOf]; omega
            · have i9 : ¬ (s[k].toNat : Int) = 9 := fun e => h9 (UInt8.toNat_inj.1 (by rw [show (9 : UInt8).toNat = 9 from rfl]; omega))
              have j32 : ((s[k].toNat : Int) != 32) = true := bne_iff_ne.2 i32
              have j9 : ((s[k].toNat : Int) != 9) = true := bne_iff_ne.2 i9
              rw [noth_no (fun h => h92 h.1) h35 (fun h => h.elim h32 h9)] at hsay0
              replace hsay0 := Lib.hid hsay0
              clear hsay hx h92 h35 h32 h9
              go_wp2
              go_ret
              exact ⟨by rw [← hsay0.out]; rfl, rfl⟩
    · have hi1 : ¬ (k : Int) < (s.size : Int) := by omega
      have hsay0 := hsay.out
      rw [bl_end s k (by omega)] at hsay0
      replace hsay0 := Lib.hid hsay0
      clear hsay
      go_wp2
      go_ret
      exact ⟨by rw [← hsay0.out]; rfl, rfl⟩
end
end Go.Proofs.YtjeleebgifajkaaDoor
