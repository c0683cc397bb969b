/-
  The reference's hard: whether a byte of a path is fitted by One alone. Conditions: the place lies in the text.
-/
import Derived.Test.YtmoihdddmeienaaGreatDoorGbRef1
import Derived.Test.YtmoihdddmeienaaGreatDoorGbPath
namespace Go.Proofs.YtmoihdddmeienaaGreatDoor
open Go Go.RowKit

/-- Whether the byte at a place of a path is one that One alone fits. -/
def hardB (s : List UInt8) (k : Nat) : Bool := ((pm true s)[k]?.map (·.2)).getD false
theorem pm_first (st : Bool) (c : UInt8) (s : List UInt8) : (pm st (c :: s))[0]? = some (c, c == 47 || (c == 46 && st)) := rfl
theorem pm_later (st : Bool) (s : List UInt8) (k : Nat) (b c : UInt8) (hb : s[k]? = some b) (hc : s[k + 1]? = some c) : (pm st s)[k + 1]? = some (c, c == 47 || (c == 46 && b == 47)) := by
  induction k generalizing s st with
  | zero =>
    match s with
    | [] => cases hb
    | [_] => cases hc
    | x :: y :: s =>
      simp only [List.getElem?_cons_zero, Option.some.injEq] at hb
      simp only [Nat.zero_add, List.getElem?_cons_succ, List.getElem?_cons_zero, Option.some.injEq] at hc
      subst hb hc
      rfl
  | succ k ih =>
    cases s with
    | nil => cases hb
    | cons x s => simpa [pm] using ih (x == 47) s (by simpa using hb) (by simpa using hc)
theorem hardB_zero (s : ByteArray) (h : 0 < s.size) : hardB (bl s) 0 = (s[0] == 47 || s[0] == 46) := by
  have h0 := bl_get s 0 h
  unfold hardB
  cases hb : bl s with
  | nil => rw [hb] at h0; cases h0
  | cons x t =>
    rw [hb] at h0
    simp only [List.getElem?_cons_zero, Option.some.injEq] at h0
    subst h0
    rw [pm_first]; simp
theorem hardB_succ (s : ByteArray) (k : Nat) (h : k + 1 < s.size) : hardB (bl s) (k + 1) = (s[k + 1] == 47 || (s[k + 1] == 46 && s[k] == 47)) := by
  unfold hardB
  rw [pm_later true (bl s) k _ _ (bl_get s k (by omega)) (bl_get s (k + 1) h)]
  rfl

theorem u8_ne {x : UInt8} {n : Nat} (hn : n < 256) (h : ¬ x = UInt8.ofNat n) : ¬ (x.toNat : Int) = (n : Int) := by
  intro e
  apply h
  apply UInt8.toNat.inj
  have : x.toNat = n := by omega
  rw [this]; simp; omega

set_option maxHeartbeats 1000000 in
theorem hardRef_any (s : ByteArray) (k : Nat) (w : World) (hk : k < s.size) (hs : s.size ≤ 1000000) :
    Calls Tryz.prog 41 #[.string s, .int .i64 (k : Int)] w fun e w' => e = .returned (.bool (hardB (bl s) k)) ∧ w' = w := by
  cases k with
  | zero =>
    have hh := Lib.hid (hardB_zero s hk)
    generalize hz : s[0] = z at hh
    by_cases h7 : z = 47
    · subst h7
      go_enter Tryz.func41, Tryz.ntmps41
      go_wp2
      go_ret
      exact ⟨ret_bool (by rw [hh.out]; rfl), rfl⟩
    · have i7 : ¬ (z.toNat : Int) = 47 := u8_ne (n := 47) (by omega) h7
      by_cases h6 : z = 46
      · subst h6
        go_enter Tryz.func41, Tryz.ntmps41
        go_wp2
        go_ret
        exact ⟨ret_bool (by rw [hh.out]; rfl), rfl⟩
      · have i6 : ¬ (z.toNat : Int) = 46 := u8_ne (n := 46) (by omega) h6
        have hn : Hid (hardB (bl s) 0 = false) := by rw [Hid, hh.out]; simp [h7, h6]
        clear hh h7 h6
        go_enter Tryz.func41, Tryz.ntmps41
        go_wp2
        go_ret
        exact ⟨ret_bool (by rw [hn.out]; simp [i7]), rfl⟩
  | succ k =>
    have hh := Lib.hid (hardB_succ s k hk)
    have hk0 : k < s.size := by omega
    generalize hz : s[k + 1] = z at hh
    generalize hy : s[k] = y at hh
    by_cases h7 : z = 47
    · subst h7
      go_enter Tryz.func41, Tryz.ntmps41
      go_wp2
      go_ret
      exact ⟨ret_bool (by rw [hh.out]; rfl), rfl⟩
    · have i7 : ¬ (z.toNat : Int) = 47 := u8_ne (n := 47) (by omega) h7
      by_cases h6 : z = 46
      · subst h6
        by_cases hy7 : y = 47
        · subst hy7
          go_enter Tryz.func41, Tryz.ntmps41
          go_wp2
          go_ret
          exact ⟨ret_bool (by rw [hh.out]; rfl), rfl⟩
        · have j7 : ¬ (y.toNat : Int) = 47 := u8_ne (n := 47) (by omega) hy7
          have hn : Hid (hardB (bl s) (k + 1) = false) := by rw [Hid, hh.out]; simp [hy7]
          clear hh h7 hy7
          go_enter Tryz.func41, Tryz.ntmps41
          go_wp2
          go_ret
          exact ⟨ret_bool (by rw [hn.out]; try simp [j7]; try omega), rfl⟩
      · have i6 : ¬ (z.toNat : Int) = 46 := u8_ne (n := 46) (by omega) h6
        have hn : Hid (hardB (bl s) (k + 1) = false) := by rw [Hid, hh.out]; simp [h7, h6]
        clear hh h7 h6
        go_enter Tryz.func41, Tryz.ntmps41
        go_wp2
        go_ret
        exact ⟨ret_bool (by rw [hn.out]; simp [i7]), rfl⟩
end Go.Proofs.YtmoihdddmeienaaGreatDoor
