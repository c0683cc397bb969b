/-
  What a byte says in a number, by the package. Conditions: none.
  What a name may have, by the package. Conditions: none.
  How many bytes of a name a text begins with, by the package. Conditions: at most a million bytes.
-/
import Derived.Test.YtlijlgbaikijnaaGreatDoorSmNumPure
import Derived.Test.YtlijlgbaikijnaaGreatDoorMkWords
import Derived.Test.YtlijlgbaikijnaaGreatDoorProg
import Derived.StillTailTactics
import Derived.Deep.QuietTactic
import Derived.BigQuiet
import Derived.IntWalk
import Derived.Lib.Strings
import Derived.Lib.IndexBytes
import Derived.WalkMore
import Derived.Deep.LoopGhost
namespace Go.Proofs.YtlijlgbaikijnaaGreatDoor
open Go Go.RowKit

set_option maxHeartbeats 400000 in
theorem digit_any (b : UInt8) (w : World) : Calls Tryz.prog 56 #[.int .u8 (b.toNat : Int)] w fun e w' => e = .returned (.int .u64 (digV b : Int)) ∧ w' = w := by
  have hb := b.toNat_lt
  obtain ⟨d, hd0⟩ : ∃ d, digV b = d := ⟨_, rfl⟩
  rw [hd0]
  unfold digV at hd0
  by_cases h1 : 48 ≤ b.toNat ∧ b.toNat ≤ 57
  · rw [if_pos h1] at hd0
    have i1 : (48 : Int) ≤ (b.toNat : Int) := by omega
    have i2 : (b.toNat : Int) ≤ 57 := by omega
    have hd := Lib.hid hd0
    clear hd0
    go_enter Tryz.func56, Tryz.ntmps56
    go_wp2
    go_ret
    exact ⟨ret_int (by have := hd.out; omega), rfl⟩
  · rw [if_neg h1] at hd0
    by_cases h2 : 97 ≤ b.toNat ∧ b.toNat ≤ 102
    · rw [if_pos h2] at hd0
      have i0 : ¬ (b.toNat : Int) ≤ 57 := by omega
      have i1 : (97 : Int) ≤ (b.toNat : Int) := by omega
      have i2 : (b.toNat : Int) ≤ 102 := by omega
      have hd := Lib.hid hd0
      clear hd0
      go_enter Tryz.func56, Tryz.ntmps56
      go_wp2
      go_ret
      exact ⟨ret_int (by have := hd.out; omega), rfl⟩
    · rw [if_neg h2] at hd0
      by_cases h3 : 65 ≤ b.toNat ∧ b.toNat ≤ 70
      · rw [if_pos h3] at hd0
        have i0 : ¬ (b.toNat : Int) ≤ 57 := by omega
        have i3 : ¬ (97 : Int) ≤ (b.toNat : Int) := by omega
        have i1 : (65 : Int) ≤ (b.toNat : Int) := by omega
        have i2 : (b.toNat : Int) ≤ 70 := by omega
        have hd := Lib.hid hd0
        clear hd0
        go_enter Tryz.func56, Tryz.ntmps56
        go_wp2
        go_ret
        exact ⟨ret_int (by have := hd.out; omega), rfl⟩
      · rw [if_neg h3] at hd0
        have hd := Lib.hid hd0
        clear hd0
        go_enter Tryz.func56, Tryz.ntmps56
        go_wp2 <;> (go_ret; exact ⟨ret_int (by have := hd.out; omega), rfl⟩)
end Go.Proofs.YtlijlgbaikijnaaGreatDoor

namespace Go.Proofs.YtlijlgbaikijnaaGreatDoor
open Go Go.RowKit

/-- A name may have this byte. -/
def nameB (b : UInt8) : Bool := decide ((97 ≤ b.toNat ∧ b.toNat ≤ 122) ∨ (65 ≤ b.toNat ∧ b.toNat ≤ 90) ∨ (48 ≤ b.toNat ∧ b.toNat ≤ 57) ∨ b.toNat = 95)

set_option maxHeartbeats 400000 in
theorem inName_any (b : UInt8) (w : World) : Calls Tryz.prog 101 #[.int .u8 (b.toNat : Int)] w fun e w' => e = .returned (.bool (nameB b)) ∧ w' = w := by
  have hb := b.toNat_lt
  obtain ⟨d, hd0⟩ : ∃ d, nameB b = d := ⟨_, rfl⟩
  rw [hd0]
  unfold nameB at hd0
  have hd := Lib.hid hd0
  clear hd0
  go_enter Tryz.func101, Tryz.ntmps101
  go_wp2 <;> (go_ret; exact ⟨ret_bool (by rw [← hd.out, Bool.eq_iff_iff]; simp only [Bool.or_eq_true, decide_eq_true_eq, beq_iff_eq, true_iff]; omega), rfl⟩)
end Go.Proofs.YtlijlgbaikijnaaGreatDoor

namespace Go.Proofs.YtlijlgbaikijnaaGreatDoor
open Go Go.RowKit

/-- The bytes of a string. -/
def tl (s : ByteArray) : List UInt8 := s.data.toList
theorem tl_len (s : ByteArray) : (tl s).length = s.size := (Lib.size_eq s).symm
theorem tl_get (s : ByteArray) (k : Nat) (h : k < s.size) : (tl s)[k]'(by rw [tl_len]; exact h) = s[k] := by
  have := Lib.data_getElem? s k h
  rw [List.getElem?_eq_some_iff] at this
  obtain ⟨h1, h2⟩ := this
  exact h2
theorem tw_go {p : UInt8 → Bool} {l : List UInt8} {k : Nat} (h : k ≤ (l.takeWhile p).length) (hk : k < l.length) (hp : p l[k] = true) : k + 1 ≤ (l.takeWhile p).length := by
  induction l generalizing k with
  | nil => simp at hk
  | cons x l ih =>
    cases k with
    | zero =>
      simp only [List.getElem_cons_zero] at hp
      rw [List.takeWhile_cons, if_pos hp, List.length_cons]; omega
    | succ k =>
      rw [List.takeWhile_cons] at h ⊢
      split at h
      · rename_i hx
        rw [if_pos hx, List.length_cons]
        have := ih (k := k) (by simpa using h) (by simpa using hk) (by simpa using hp)
        omega
      · simp at h
theorem tw_at {p : UInt8 → Bool} {l : List UInt8} {k : Nat} (h : k ≤ (l.takeWhile p).length) (hk : k < l.length) (hp : p l[k] = false) : (l.takeWhile p).length = k := by
  induction l generalizing k with
  | nil => simp at hk
  | cons x l ih =>
    cases k with
    | zero =>
      simp only [List.getElem_cons_zero] at hp
      rw [List.takeWhile_cons, hp]; rfl
    | succ k =>
      rw [List.takeWhile_cons] at h ⊢
      split at h
      · rename_i hx
        rw [if_pos hx, List.length_cons]
        have := ih (k := k) (by simpa using h) (by simpa using hk) (by simpa using hp)
        omega
      · simp at h
theorem tw_le (p : UInt8 → Bool) (l : List UInt8) : (l.takeWhile p).length ≤ l.length := (List.takeWhile_prefix p).length_le

def digB (b : UInt8) : Bool := decide (48 ≤ b.toNat ∧ b.toNat ≤ 57)
/-- How many bytes of a name a text begins with; 0, if it begins with none. -/
def nameLen (l : List UInt8) : Nat := if l.head?.map digB = some true then 0 else (l.takeWhile nameB).length
theorem nameLen_le (l : List UInt8) : nameLen l ≤ l.length := by
  unfold nameLen; split
  · omega
  · exact tw_le _ _
theorem nameLen_go {l : List UInt8} {k : Nat} (h : k ≤ nameLen l) (hk : k < l.length) (hp : nameB l[k] = true) (hd : 0 < k ∨ digB l[k] = false) : k + 1 ≤ nameLen l := by
  unfold nameLen at h ⊢
  split at h
  · rename_i hx
    have : k = 0 := by omega
    subst this
    cases l with
    | nil => simp at hk
    | cons x l =>
      simp only [List.head?_cons, Option.map_some, Option.some.injEq] at hx
      simp [hx] at hd
  · rename_i hx
    rw [if_neg hx]; exact tw_go h hk hp
theorem nameLen_at {l : List UInt8} {k : Nat} (h : k ≤ nameLen l) (hk : k < l.length) (hp : nameB l[k] = false) : nameLen l = k := by
  unfold nameLen at h ⊢
  split at h
  · rename_i hx
    rw [if_pos hx]; omega
  · rename_i hx
    rw [if_neg hx]; exact tw_at h hk hp
theorem nameLen_first {l : List UInt8} (hk : 0 < l.length) (hp : digB l[0] = true) : nameLen l = 0 := by
  cases l with
  | nil => simp at hk
  | cons x l =>
    simp only [List.getElem_cons_zero] at hp
    unfold nameLen
    rw [if_pos (by simp [hp])]

set_option maxHeartbeats 1000000 in
set_option maxRecDepth 100000 in
theorem nameLength_any (s : ByteArray) (w : World) (hs : s.size ≤ 1000000) :
    Calls Tryz.prog 93 #[.string s] w fun e w' => e = .returned (.int .i64 (nameLen (tl s))) ∧ w' = w := by
  go_enter Tryz.func93, Tryz.ntmps93
  go_wp2
  go_loopw [3] (fun i wr => ∃ k : Nat, k ≤ s.size ∧ Hid (k ≤ nameLen (tl s)) ∧ i = .int .i64 k ∧ wr = w) (fun i _ => s.size - (intOf i).toNat)
  case atStart => exact ⟨0, Nat.zero_le _, Nat.zero_le _, rfl, rfl⟩
  case round =>
    obtain ⟨k, hk, hkf, rfl, rfl⟩ := hrel
    by_cases hlt : k < s.size
    · have hlt' : k < (tl s).length := by rw [tl_len]; exact hlt
      have e1 : (tl s)[k] = s[k] := tl_get s k hlt
      have hgo := Lib.hid (fun (h : nameB (tl s)[k] = true) (h2 : 0 < k ∨ digB (tl s)[k] = false) => nameLen_go hkf.out hlt' h h2)
      have hat := Lib.hid (fun (h : nameB (tl s)[k] = false) => nameLen_at hkf.out hlt' h)
      have hfi := Lib.hid (fun (e : k = 0) (h : digB (tl s)[k] = true) => (by subst e; exact nameLen_first hlt' h : nameLen (tl s) = 0))
      rw [e1] at hgo hat hfi
      clear e1
      have hcall := inName_any s[k] wr
      cases hq : nameB s[k] with
      | false =>
        rw [hq] at hcall
        have hi := Lib.hid (hat.out hq)
        clear hq hgo hat hfi
        go_wp2_with fail
        refine hcall.mono ?_
        rintro e w' ⟨rfl, rfl⟩
        go_wp2
        go_ret
        exact ⟨ret_int (by rw [hi.out]), rfl⟩
      | true =>
        rw [hq] at hcall
        have hg := Lib.hid (fun h => hgo.out hq h)
        clear hq hgo hat
        by_cases h0 : 0 < k
        · have hi := Lib.hid (hg.out (.inl h0))
          clear hg hfi
          go_wp2_with fail
          refine hcall.mono ?_
          rintro e w' ⟨rfl, rfl⟩
          go_wp2
          go_roundw
          case rel => exact ⟨k + 1, by omega, hi.out, by go_num, trivial⟩
          case measure => simp [intOf]; omega
        · have hk0 : k = 0 := by omega
          subst hk0
          cases hd : digB s[0] with
          | true =>
            have hi := Lib.hid (hfi.out rfl hd)
            have i1 : 48 ≤ (s[0].toNat : Int) ∧ (s[0].toNat : Int) ≤ 57 := by unfold digB at hd; simp only [decide_eq_true_eq] at hd; omega
            obtain ⟨i1, i2⟩ := i1
            clear hg hfi hd
            go_wp2_with fail
            refine hcall.mono ?_
            rintro e w' ⟨rfl, rfl⟩
            go_wp2
            go_ret
            exact ⟨ret_int (by rw [hi.out]; rfl), rfl⟩
          | false =>
            have hi := Lib.hid (hg.out (.inr hd))
            have i1 : ¬ (48 ≤ (s[0].toNat : Int) ∧ (s[0].toNat : Int) ≤ 57) := by unfold digB at hd; simp only [decide_eq_false_iff_not] at hd; omega
            clear hg hfi hd
            go_wp2_with fail
            refine hcall.mono ?_
            rintro e w' ⟨rfl, rfl⟩
            go_wp2
            all_goals exact ⟨⟨1, by omega, hi.out, by go_num, trivial⟩, by simp [intOf]; omega⟩
    · have hi := Lib.hid (show nameLen (tl s) = k by have := nameLen_le (tl s); rw [tl_len] at this; have := hkf.out; omega)
      go_wp2
      go_ret
      exact ⟨ret_int (by rw [hi.out]), rfl⟩
end Go.Proofs.YtlijlgbaikijnaaGreatDoor
