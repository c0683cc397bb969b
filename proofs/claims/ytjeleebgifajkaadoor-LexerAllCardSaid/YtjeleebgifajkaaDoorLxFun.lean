/-
  What counts as a whole in a text: the functions that call one another, each told by the plain scan. Conditions: texts of up to a million bytes.
-/
import Derived.Lib.IndexBytes
import Derived.BigQuiet
import Derived.StillTailTactics
import Derived.Test.YtjeleebgifajkaaDoorLxShelf
import Derived.Test.YtjeleebgifajkaaDoorLxPure
set_option linter.unusedSimpArgs false
set_option linter.unusedVariables false
namespace Go.Proofs.YtjeleebgifajkaaDoor
open Go Go.Shelf Go.RowKit

abbrev bl (s : ByteArray) : List UInt8 := s.data.toList
theorem bl_len (s : ByteArray) : (bl s).length = s.size := by simp [bl]
theorem bl_get (s : ByteArray) (k : Nat) (h : k < s.size) : (bl s)[k]'(by rw [bl_len]; exact h) = s[k] := rfl
theorem bl_cons (s : ByteArray) (k : Nat) (h : k < s.size) : (bl s).drop k = s[k] :: (bl s).drop (k + 1) := by
  rw [List.drop_eq_getElem_cons (by rw [bl_len]; exact h)]
  rfl
theorem bl_end (s : ByteArray) (k : Nat) (h : s.size ≤ k) : (bl s).drop k = [] := List.drop_of_length_le (by rw [bl_len]; exact h)
theorem bl_extract (s : ByteArray) (i j : Nat) : (s.extract i j).data.toList = ((bl s).take j).drop i := by
  simp [bl, ByteArray.data_extract, List.extract_eq_take_drop, List.drop_take]
theorem bl_from (s : ByteArray) (i : Nat) : (s.extract i s.size).data.toList = (bl s).drop i := by
  rw [bl_extract, List.take_of_length_le (by rw [bl_len]; exact Nat.le_refl _)]
theorem b_eq {a b : UInt8} : ((a.toNat : Int) = (b.toNat : Int)) ↔ a = b := by
  constructor
  · intro h; exact UInt8.toNat_inj.1 (by omega)
  · rintro rfl; rfl

/-- A place as the functions tell it: the place, or -1. -/
def enc (k : Nat) (o : Option Nat) : Int := match o with | none => -1 | some n => ((k + n : Nat) : Int)
theorem enc_none (k : Nat) : enc k none = -1 := rfl
theorem enc_some (k n : Nat) : enc k (some n) = ((k + n : Nat) : Int) := rfl

section
set_option maxRecDepth 100000
set_option maxHeartbeats 1000000
theorem one_any (s : ByteArray) (k : Nat) (hk : k < 1000000) (w : World) :
    Calls Tryd.prog 59 #[.string s, .int .i64 (k : Int)] w fun e w' => e = .returned (.int .i64 (enc k (some 1))) ∧ w' = w := by
  rw [enc_some]
  go_enter Tryd.func59, Tryd.ntmps59
  go_wp2
  go_ret
  exact ⟨by go_num, rfl⟩

/-- A \ and the byte behind it. -/
def escP (x : List UInt8) : Option Nat := if x.headD 0 = 92 then (if x.tail = [] then none else some 2) else some 1
theorem escaped_any (s : ByteArray) (k : Nat) (hk : k < s.size) (hs : s.size ≤ 1000000) (w : World) :
    Calls Tryd.prog 44 #[.string s, .int .i64 (k : Int)] w fun e w' => e = .returned (.int .i64 (enc k (escP ((bl s).drop k)))) ∧ w' = w := by
  rw [bl_cons s k hk]
  have hk1 : (k : Int) < (s.size : Int) := by omega
  have hn : s[k].toNat < 256 := s[k].toNat_lt
  by_cases h : s[k] = 92
  · have h1 : (s[k].toNat : Int) = 92 := by rw [h]; rfl
    by_cases h2 : k + 1 = s.size
    · have e : escP (s[k] :: (bl s).drop (k + 1)) = none := by rw [bl_end s (k + 1) (by omega)]; simp [escP, h]
      rw [e, enc_none]
      have h3 : ((k : Int) + 1) = (s.size : Int) := by omega
      clear e h
      go_enter Tryd.func44, Tryd.ntmps44
      go_wp2
      go_ret
      exact ⟨rfl, rfl⟩
    · have e : escP (s[k] :: (bl s).drop (k + 1)) = some 2 := by rw [bl_cons s (k + 1) (by omega)]; simp [escP, h]
      rw [e, enc_some]
      have h3 : ¬ ((k : Int) + 1) = (s.size : Int) := by omega
      clear e h
      go_enter Tryd.func44, Tryd.ntmps44
      go_wp2
      go_ret
      exact ⟨by go_num, rfl⟩
  · have h1 : ¬ (s[k].toNat : Int) = 92 := fun e => h (UInt8.toNat_inj.1 (by rw [show (92 : UInt8).toNat = 92 from rfl]; omega))
    have e : escP (s[k] :: (bl s).drop (k + 1)) = some 1 := by simp [escP, h]
    rw [e, enc_some]
    clear e h
    go_enter Tryd.func44, Tryd.ntmps44
    go_wp2
    go_ret
    exact ⟨by go_num, rfl⟩

/-- Whether a hole begins. -/
def holeB (x : List UInt8) : Bool := x.headD 0 == 96 || (x.headD 0 == 36 && (x.tail.headD 0 == 40 || x.tail.headD 0 == 123))
theorem hp_one (x : List UInt8) (a : UInt8) : Lib.hasPrefix x [a] = (match x with | [] => false | c :: _ => c == a) := by
  cases x with
  | nil => rfl
  | cons c r => simp only [Lib.hasPrefix, List.isPrefixOf, Bool.and_true]; exact BEq.comm
theorem hp_two (x : List UInt8) (a b : UInt8) : Lib.hasPrefix x [a, b] = (match x with | c :: d :: _ => c == a && d == b | _ => false) := by
  match x with
  | [] => rfl
  | [c] => simp [Lib.hasPrefix, List.isPrefixOf]
  | c :: d :: r => simp only [Lib.hasPrefix, List.isPrefixOf, Bool.and_true]; rw [BEq.comm (a := a), BEq.comm (a := b)]
theorem holeB_eq (x : List UInt8) : holeB x = (Lib.hasPrefix x [96] || Lib.hasPrefix x [36, 40] || Lib.hasPrefix x [36, 123]) := by
  rw [hp_one, hp_two, hp_two]
  match x with
  | [] => rfl
  | [c] => simp [holeB]
  | c :: d :: r => simp [holeB, Bool.and_or_distrib_left, Bool.or_assoc]
theorem isHole_any (s : ByteArray) (k : Nat) (hk : k ≤ s.size) (hs : s.size ≤ 1000000) (w : World) :
    Calls Tryd.prog 28 #[.string s, .int .i64 (k : Int)] w fun e w' => e = .returned (.bool (holeB ((bl s).drop k))) ∧ w' = w := by
  rw [holeB_eq]
  have hk1 : (k : Int) ≤ (s.size : Int) := by omega
  have p1 := Tryd.strings_HasPrefix (s.extract k s.size) ⟨#[96]⟩ w
  have p2 := Tryd.strings_HasPrefix (s.extract k s.size) ⟨#[36, 40]⟩ w
  have p3 := Tryd.strings_HasPrefix (s.extract k s.size) ⟨#[36, 123]⟩ w
  rw [bl_from] at p1 p2 p3
  simp only at p1 p2 p3
  generalize Lib.hasPrefix ((bl s).drop k) [96] = q1 at p1 ⊢
  generalize Lib.hasPrefix ((bl s).drop k) [36, 40] = q2 at p2 ⊢
  generalize Lib.hasPrefix ((bl s).drop k) [36, 123] = q3 at p3 ⊢
  replace p1 := Lib.hid p1
  replace p2 := Lib.hid p2
  replace p3 := Lib.hid p3
  cases q1 with
  | true =>
    go_enter Tryd.func28, Tryd.ntmps28
    go_wp2_with fail
    refine p1.out.mono ?_
    rintro e w' ⟨rfl, hw⟩
    obtain rfl := hw.symm
    go_wp2
    go_ret
    exact ⟨rfl, rfl⟩
  | false =>
    cases q2 with
    | true =>
      go_enter Tryd.func28, Tryd.ntmps28
      go_wp2_with (first | (refine p1.out.mono ?_; rintro e w' ⟨rfl, hw⟩; obtain rfl := hw.symm) | (refine p2.out.mono ?_; rintro e w' ⟨rfl, hw⟩; obtain rfl := hw.symm))
      go_ret
      exact ⟨rfl, rfl⟩
    | false =>
      go_enter Tryd.func28, Tryd.ntmps28
      go_wp2_with (first | (refine p1.out.mono ?_; rintro e w' ⟨rfl, hw⟩; obtain rfl := hw.symm) | (refine p2.out.mono ?_; rintro e w' ⟨rfl, hw⟩; obtain rfl := hw.symm) | (refine p3.out.mono ?_; rintro e w' ⟨rfl, hw⟩; obtain rfl := hw.symm))
      go_ret
      exact ⟨rfl, rfl⟩
end
end Go.Proofs.YtjeleebgifajkaaDoor
