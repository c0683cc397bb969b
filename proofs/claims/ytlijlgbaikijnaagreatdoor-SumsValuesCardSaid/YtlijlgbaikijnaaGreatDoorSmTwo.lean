/-
  What marks make of numbers, by the package: ofTwo, ofOne, ofDivision, truth. Conditions: none.
-/
import Derived.Test.YtlijlgbaikijnaaGreatDoorSmThrow
namespace Go.Proofs.YtlijlgbaikijnaaGreatDoor
open Go Go.RowKit

def truthI (b : Bool) : Int := if b then 1 else 0
theorem truth_any (b : Bool) (w : World) : Calls Tryz.prog 72 #[.bool b] w fun e w' => e = .returned (.int .i64 (truthI b)) ∧ w' = w := by
  cases b
  all_goals
    go_enter Tryz.func72, Tryz.ntmps72
    go_wp2
    go_ret
    exact ⟨rfl, rfl⟩
theorem and63 (b : Int) : bits BinOp.and IntKind.i64 b 63 = b % 64 := by
  have h : (BitVec.ofInt 64 b &&& BitVec.ofInt 64 63).toNat = (b % 64).toNat := by
    have e : (BitVec.ofInt 64 63) = BitVec.ofNat 64 63 := by decide
    have h1 : ∀ x : Nat, x &&& 63 = x % 64 := fun x => Nat.and_two_pow_sub_one_eq_mod (n := 6) x
    rw [e, BitVec.toNat_and, BitVec.toNat_ofNat, show 63 % 2 ^ 64 = 63 by decide, h1, BitVec.toNat_ofInt]
    omega
  unfold bits
  simp only
  show IntKind.i64.wrap ((BitVec.ofInt 64 b &&& BitVec.ofInt 64 63).toNat : Int) = _
  rw [h, IntKind.wrap_i64]
  omega
def oneV (op : List UInt8) (n : Int) : Int := if op == [110, 101, 103] then wrap64 (-n) else if op == [110, 111, 116] then truthI (n == 0) else if op == [99, 111, 109] then bits BinOp.xor IntKind.i64 (-1) n else n

def twoV (m : List UInt8) (a b : Int) : Option Int :=
  if m == [42] then some (wrap64 (a * b)) else if m == [47] then (if b = 0 then none else some (wrap64 (a.tdiv b))) else if m == [37] then (if b = 0 then none else some (a.tmod b)) else if m == [43] then some (wrap64 (a + b)) else if m == [45] then some (wrap64 (a - b)) else if m == [60, 60] then some (wrap64 (a * 2 ^ (bits BinOp.and IntKind.i64 b 63).toNat)) else if m == [62, 62] then some (a / 2 ^ (bits BinOp.and IntKind.i64 b 63).toNat) else if m == [60] then some (truthI (decide (a < b))) else if m == [60, 61] then some (truthI (decide (a ≤ b))) else if m == [62] then some (truthI (decide (b < a))) else if m == [62, 61] then some (truthI (decide (b ≤ a))) else if m == [61, 61] then some (truthI (a == b)) else if m == [33, 61] then some (truthI (!(a == b))) else if m == [38] then some (bits BinOp.and IntKind.i64 a b) else if m == [94] then some (bits BinOp.xor IntKind.i64 a b) else some (bits BinOp.or IntKind.i64 a b)

/-- What a mark between two answers, or that something is divided by nothing. -/
def TwoR (o : Option Int) (w : World) (e : Ending) (w' : World) : Prop := (match o with | some n => e = .returned (.int .i64 n) | none => e = thrown 24 0) ∧ w' = w
set_option maxHeartbeats 1000000 in
set_option maxRecDepth 100000 in
theorem division_any (x : ByteArray) (a b : Int) (m : List UInt8) (hm : m = [47] ∨ m = [37]) (hx : x.toList = m) (w : World) : Calls Tryz.prog 99 #[.string x, .int .i64 a, .int .i64 b] w (TwoR (twoV m a b) w) := by
  have g0 : ∀ l, (x.toList == l) = (m == l) := fun l => by rw [hx]
  have hth := fun W => throw_any 24 0 W
  rcases hm with rfl | rfl
  all_goals
    by_cases hb : b = 0
    · rw [show twoV _ a b = none by simp [twoV, hb]]
      subst hb
      clear hx
      go_enter Tryz.func99, Tryz.ntmps99
      go_wp2_with fail
      refine (hth _).mono ?_
      rintro e w1 ⟨rfl, rfl⟩
      exact ⟨rfl, rfl, rfl⟩
    · first
      | rw [show twoV [47] a b = some (wrap64 (a.tdiv b)) by simp [twoV, hb]]
      | rw [show twoV [37] a b = some (a.tmod b) by simp [twoV, hb]]
      clear hx
      go_enter Tryz.func99, Tryz.ntmps99
      go_wp2
      go_ret
      exact ⟨rfl, rfl⟩
set_option maxHeartbeats 1000000 in
set_option maxRecDepth 100000 in
theorem two_0 (x : ByteArray) (a b : Int) (w : World) (hx : x.toList = [42]) : Calls Tryz.prog 73 #[.string x, .int .i64 a, .int .i64 b] w fun e w' => e = .returned (.int .i64 (wrap64 (a * b))) ∧ w' = w := by
  have g0 : ∀ l, (x.toList == l) = ([42] == l) := fun l => by rw [hx]
  clear hx
  go_enter Tryz.func73, Tryz.ntmps73
  go_wp2
  go_ret
  exact ⟨rfl, rfl⟩
set_option maxHeartbeats 1000000 in
set_option maxRecDepth 100000 in
theorem two_1 (x : ByteArray) (a b : Int) (w : World) (hx : x.toList = [47]) : Calls Tryz.prog 73 #[.string x, .int .i64 a, .int .i64 b] w (TwoR (twoV [47] a b) w) := by
  have g0 : ∀ l, (x.toList == l) = ([47] == l) := fun l => by rw [hx]
  have hd := fun W => division_any x a b [47] (by simp) hx W
  obtain ⟨o, ho⟩ : ∃ o, twoV [47] a b = o := ⟨_, rfl⟩
  rw [ho] at hd ⊢
  clear ho hx
  go_enter Tryz.func73, Tryz.ntmps73
  go_wp2_with fail
  refine (hd _).mono ?_
  intro e w1 h
  cases o with
  | some n =>
    obtain ⟨rfl, rfl⟩ := h
    go_wp2
    go_ret
    exact ⟨rfl, rfl⟩
  | none =>
    obtain ⟨rfl, rfl⟩ := h
    exact ⟨rfl, rfl, rfl⟩
set_option maxHeartbeats 1000000 in
set_option maxRecDepth 100000 in
theorem two_2 (x : ByteArray) (a b : Int) (w : World) (hx : x.toList = [37]) : Calls Tryz.prog 73 #[.string x, .int .i64 a, .int .i64 b] w (TwoR (twoV [37] a b) w) := by
  have g0 : ∀ l, (x.toList == l) = ([37] == l) := fun l => by rw [hx]
  have hd := fun W => division_any x a b [37] (by simp) hx W
  obtain ⟨o, ho⟩ : ∃ o, twoV [37] a b = o := ⟨_, rfl⟩
  rw [ho] at hd ⊢
  clear ho hx
  go_enter Tryz.func73, Tryz.ntmps73
  go_wp2_with fail
  refine (hd _).mono ?_
  intro e w1 h
  cases o with
  | some n =>
    obtain ⟨rfl, rfl⟩ := h
    go_wp2
    go_ret
    exact ⟨rfl, rfl⟩
  | none =>
    obtain ⟨rfl, rfl⟩ := h
    exact ⟨rfl, rfl, rfl⟩
set_option maxHeartbeats 1000000 in
set_option maxRecDepth 100000 in
theorem two_3 (x : ByteArray) (a b : Int) (w : World) (hx : x.toList = [43]) : Calls Tryz.prog 73 #[.string x, .int .i64 a, .int .i64 b] w fun e w' => e = .returned (.int .i64 (wrap64 (a + b))) ∧ w' = w := by
  have g0 : ∀ l, (x.toList == l) = ([43] == l) := fun l => by rw [hx]
  clear hx
  go_enter Tryz.func73, Tryz.ntmps73
  go_wp2
  go_ret
  exact ⟨rfl, rfl⟩
set_option maxHeartbeats 1000000 in
set_option maxRecDepth 100000 in
theorem two_4 (x : ByteArray) (a b : Int) (w : World) (hx : x.toList = [45]) : Calls Tryz.prog 73 #[.string x, .int .i64 a, .int .i64 b] w fun e w' => e = .returned (.int .i64 (wrap64 (a - b))) ∧ w' = w := by
  have g0 : ∀ l, (x.toList == l) = ([45] == l) := fun l => by rw [hx]
  clear hx
  go_enter Tryz.func73, Tryz.ntmps73
  go_wp2
  go_ret
  exact ⟨rfl, rfl⟩
set_option maxHeartbeats 1000000 in
set_option maxRecDepth 100000 in
theorem two_5 (x : ByteArray) (a b : Int) (w : World) (hx : x.toList = [60, 60]) : Calls Tryz.prog 73 #[.string x, .int .i64 a, .int .i64 b] w fun e w' => e = .returned (.int .i64 (wrap64 (a * 2 ^ (bits BinOp.and IntKind.i64 b 63).toNat))) ∧ w' = w := by
  have g0 : ∀ l, (x.toList == l) = ([60, 60] == l) := fun l => by rw [hx]
  clear hx
  have s0 : 0 ≤ bits BinOp.and IntKind.i64 b 63 := by rw [and63]; omega
  have s1 : bits BinOp.and IntKind.i64 b 63 ≤ 64 := by rw [and63]; omega
  go_enter Tryz.func73, Tryz.ntmps73
  go_wp2
  go_ret
  exact ⟨rfl, rfl⟩
set_option maxHeartbeats 1000000 in
set_option maxRecDepth 100000 in
theorem two_6 (x : ByteArray) (a b : Int) (w : World) (hx : x.toList = [62, 62]) : Calls Tryz.prog 73 #[.string x, .int .i64 a, .int .i64 b] w fun e w' => e = .returned (.int .i64 (a / 2 ^ (bits BinOp.and IntKind.i64 b 63).toNat)) ∧ w' = w := by
  have g0 : ∀ l, (x.toList == l) = ([62, 62] == l) := fun l => by rw [hx]
  clear hx
  have s0 : 0 ≤ bits BinOp.and IntKind.i64 b 63 := by rw [and63]; omega
  have s1 : bits BinOp.and IntKind.i64 b 63 ≤ 64 := by rw [and63]; omega
  go_enter Tryz.func73, Tryz.ntmps73
  go_wp2
  go_ret
  exact ⟨rfl, rfl⟩
set_option maxHeartbeats 1000000 in
set_option maxRecDepth 100000 in
theorem two_7 (x : ByteArray) (a b : Int) (w : World) (hx : x.toList = [60]) : Calls Tryz.prog 73 #[.string x, .int .i64 a, .int .i64 b] w fun e w' => e = .returned (.int .i64 (truthI (decide (a < b)))) ∧ w' = w := by
  have g0 : ∀ l, (x.toList == l) = ([60] == l) := fun l => by rw [hx]
  clear hx
  have ht := fun W => truth_any (decide (a < b)) W
  go_enter Tryz.func73, Tryz.ntmps73
  go_wp2_with fail
  refine (ht _).mono ?_
  rintro e w1 ⟨rfl, rfl⟩
  go_wp2
  go_ret
  exact ⟨rfl, rfl⟩
set_option maxHeartbeats 1000000 in
set_option maxRecDepth 100000 in
theorem two_8 (x : ByteArray) (a b : Int) (w : World) (hx : x.toList = [60, 61]) : Calls Tryz.prog 73 #[.string x, .int .i64 a, .int .i64 b] w fun e w' => e = .returned (.int .i64 (truthI (decide (a ≤ b)))) ∧ w' = w := by
  have g0 : ∀ l, (x.toList == l) = ([60, 61] == l) := fun l => by rw [hx]
  clear hx
  have ht := fun W => truth_any (decide (a ≤ b)) W
  go_enter Tryz.func73, Tryz.ntmps73
  go_wp2_with fail
  refine (ht _).mono ?_
  rintro e w1 ⟨rfl, rfl⟩
  go_wp2
  go_ret
  exact ⟨rfl, rfl⟩
set_option maxHeartbeats 1000000 in
set_option maxRecDepth 100000 in
theorem two_9 (x : ByteArray) (a b : Int) (w : World) (hx : x.toList = [62]) : Calls Tryz.prog 73 #[.string x, .int .i64 a, .int .i64 b] w fun e w' => e = .returned (.int .i64 (truthI (decide (b < a)))) ∧ w' = w := by
  have g0 : ∀ l, (x.toList == l) = ([62] == l) := fun l => by rw [hx]
  clear hx
  have ht := fun W => truth_any (decide (b < a)) W
  go_enter Tryz.func73, Tryz.ntmps73
  go_wp2_with fail
  refine (ht _).mono ?_
  rintro e w1 ⟨rfl, rfl⟩
  go_wp2
  go_ret
  exact ⟨rfl, rfl⟩
set_option maxHeartbeats 1000000 in
set_option maxRecDepth 100000 in
theorem two_10 (x : ByteArray) (a b : Int) (w : World) (hx : x.toList = [62, 61]) : Calls Tryz.prog 73 #[.string x, .int .i64 a, .int .i64 b] w fun e w' => e = .returned (.int .i64 (truthI (decide (b ≤ a)))) ∧ w' = w := by
  have g0 : ∀ l, (x.toList == l) = ([62, 61] == l) := fun l => by rw [hx]
  clear hx
  have ht := fun W => truth_any (decide (b ≤ a)) W
  go_enter Tryz.func73, Tryz.ntmps73
  go_wp2_with fail
  refine (ht _).mono ?_
  rintro e w1 ⟨rfl, rfl⟩
  go_wp2
  go_ret
  exact ⟨rfl, rfl⟩
set_option maxHeartbeats 1000000 in
set_option maxRecDepth 100000 in
theorem two_11 (x : ByteArray) (a b : Int) (w : World) (hx : x.toList = [61, 61]) : Calls Tryz.prog 73 #[.string x, .int .i64 a, .int .i64 b] w fun e w' => e = .returned (.int .i64 (truthI (a == b))) ∧ w' = w := by
  have g0 : ∀ l, (x.toList == l) = ([61, 61] == l) := fun l => by rw [hx]
  clear hx
  have ht := fun W => truth_any (a == b) W
  go_enter Tryz.func73, Tryz.ntmps73
  go_wp2_with fail
  refine (ht _).mono ?_
  rintro e w1 ⟨rfl, rfl⟩
  go_wp2
  go_ret
  exact ⟨rfl, rfl⟩
set_option maxHeartbeats 1000000 in
set_option maxRecDepth 100000 in
theorem two_12 (x : ByteArray) (a b : Int) (w : World) (hx : x.toList = [33, 61]) : Calls Tryz.prog 73 #[.string x, .int .i64 a, .int .i64 b] w fun e w' => e = .returned (.int .i64 (truthI (!(a == b)))) ∧ w' = w := by
  have g0 : ∀ l, (x.toList == l) = ([33, 61] == l) := fun l => by rw [hx]
  clear hx
  have ht := fun W => truth_any (!(a == b)) W
  go_enter Tryz.func73, Tryz.ntmps73
  go_wp2_with fail
  refine (ht _).mono ?_
  rintro e w1 ⟨rfl, rfl⟩
  go_wp2
  go_ret
  exact ⟨rfl, rfl⟩
set_option maxHeartbeats 1000000 in
set_option maxRecDepth 100000 in
theorem two_13 (x : ByteArray) (a b : Int) (w : World) (hx : x.toList = [38]) : Calls Tryz.prog 73 #[.string x, .int .i64 a, .int .i64 b] w fun e w' => e = .returned (.int .i64 (bits BinOp.and IntKind.i64 a b)) ∧ w' = w := by
  have g0 : ∀ l, (x.toList == l) = ([38] == l) := fun l => by rw [hx]
  clear hx
  go_enter Tryz.func73, Tryz.ntmps73
  go_wp2
  go_ret
  exact ⟨rfl, rfl⟩
set_option maxHeartbeats 1000000 in
set_option maxRecDepth 100000 in
theorem two_14 (x : ByteArray) (a b : Int) (w : World) (hx : x.toList = [94]) : Calls Tryz.prog 73 #[.string x, .int .i64 a, .int .i64 b] w fun e w' => e = .returned (.int .i64 (bits BinOp.xor IntKind.i64 a b)) ∧ w' = w := by
  have g0 : ∀ l, (x.toList == l) = ([94] == l) := fun l => by rw [hx]
  clear hx
  go_enter Tryz.func73, Tryz.ntmps73
  go_wp2
  go_ret
  exact ⟨rfl, rfl⟩
set_option maxHeartbeats 1000000 in
set_option maxRecDepth 100000 in
theorem two_15 (x : ByteArray) (a b : Int) (w : World) (h0 : ¬ x.toList = [42]) (h1 : ¬ x.toList = [47]) (h2 : ¬ x.toList = [37]) (h3 : ¬ x.toList = [43]) (h4 : ¬ x.toList = [45]) (h5 : ¬ x.toList = [60, 60]) (h6 : ¬ x.toList = [62, 62]) (h7 : ¬ x.toList = [60]) (h8 : ¬ x.toList = [60, 61]) (h9 : ¬ x.toList = [62]) (h10 : ¬ x.toList = [62, 61]) (h11 : ¬ x.toList = [61, 61]) (h12 : ¬ x.toList = [33, 61]) (h13 : ¬ x.toList = [38]) (h14 : ¬ x.toList = [94]) : Calls Tryz.prog 73 #[.string x, .int .i64 a, .int .i64 b] w fun e w' => e = .returned (.int .i64 (bits BinOp.or IntKind.i64 a b)) ∧ w' = w := by
  have g0 : (x.toList == [42]) = false := by simpa using h0
  have g1 : (x.toList == [47]) = false := by simpa using h1
  have g2 : (x.toList == [37]) = false := by simpa using h2
  have g3 : (x.toList == [43]) = false := by simpa using h3
  have g4 : (x.toList == [45]) = false := by simpa using h4
  have g5 : (x.toList == [60, 60]) = false := by simpa using h5
  have g6 : (x.toList == [62, 62]) = false := by simpa using h6
  have g7 : (x.toList == [60]) = false := by simpa using h7
  have g8 : (x.toList == [60, 61]) = false := by simpa using h8
  have g9 : (x.toList == [62]) = false := by simpa using h9
  have g10 : (x.toList == [62, 61]) = false := by simpa using h10
  have g11 : (x.toList == [61, 61]) = false := by simpa using h11
  have g12 : (x.toList == [33, 61]) = false := by simpa using h12
  have g13 : (x.toList == [38]) = false := by simpa using h13
  have g14 : (x.toList == [94]) = false := by simpa using h14
  clear h0 h1 h2 h3 h4 h5 h6 h7 h8 h9 h10 h11 h12 h13 h14
  go_enter Tryz.func73, Tryz.ntmps73
  go_wp2
  go_ret
  exact ⟨rfl, rfl⟩
theorem ofTwo_any (x : ByteArray) (a b : Int) (w : World) : Calls Tryz.prog 73 #[.string x, .int .i64 a, .int .i64 b] w (TwoR (twoV (tl x) a b) w) := by
  have hx : x.toList = tl x := Lib.toList_data x
  by_cases h0 : tl x = [42]
  · rw [h0]; exact (two_0 x a b w (hx.trans h0)).mono fun e w1 h => ⟨h.1, h.2⟩
  by_cases h1 : tl x = [47]
  · rw [h1]; exact two_1 x a b w (hx.trans h1)
  by_cases h2 : tl x = [37]
  · rw [h2]; exact two_2 x a b w (hx.trans h2)
  by_cases h3 : tl x = [43]
  · rw [h3]; exact (two_3 x a b w (hx.trans h3)).mono fun e w1 h => ⟨h.1, h.2⟩
  by_cases h4 : tl x = [45]
  · rw [h4]; exact (two_4 x a b w (hx.trans h4)).mono fun e w1 h => ⟨h.1, h.2⟩
  by_cases h5 : tl x = [60, 60]
  · rw [h5]; exact (two_5 x a b w (hx.trans h5)).mono fun e w1 h => ⟨h.1, h.2⟩
  by_cases h6 : tl x = [62, 62]
  · rw [h6]; exact (two_6 x a b w (hx.trans h6)).mono fun e w1 h => ⟨h.1, h.2⟩
  by_cases h7 : tl x = [60]
  · rw [h7]; exact (two_7 x a b w (hx.trans h7)).mono fun e w1 h => ⟨h.1, h.2⟩
  by_cases h8 : tl x = [60, 61]
  · rw [h8]; exact (two_8 x a b w (hx.trans h8)).mono fun e w1 h => ⟨h.1, h.2⟩
  by_cases h9 : tl x = [62]
  · rw [h9]; exact (two_9 x a b w (hx.trans h9)).mono fun e w1 h => ⟨h.1, h.2⟩
  by_cases h10 : tl x = [62, 61]
  · rw [h10]; exact (two_10 x a b w (hx.trans h10)).mono fun e w1 h => ⟨h.1, h.2⟩
  by_cases h11 : tl x = [61, 61]
  · rw [h11]; exact (two_11 x a b w (hx.trans h11)).mono fun e w1 h => ⟨h.1, h.2⟩
  by_cases h12 : tl x = [33, 61]
  · rw [h12]; exact (two_12 x a b w (hx.trans h12)).mono fun e w1 h => ⟨h.1, h.2⟩
  by_cases h13 : tl x = [38]
  · rw [h13]; exact (two_13 x a b w (hx.trans h13)).mono fun e w1 h => ⟨h.1, h.2⟩
  by_cases h14 : tl x = [94]
  · rw [h14]; exact (two_14 x a b w (hx.trans h14)).mono fun e w1 h => ⟨h.1, h.2⟩
  rw [show twoV (tl x) a b = some (bits BinOp.or IntKind.i64 a b) by simp [twoV, h0, h1, h2, h3, h4, h5, h6, h7, h8, h9, h10, h11, h12, h13, h14]]
  exact (two_15 x a b w (fun h => h0 (hx.symm.trans h)) (fun h => h1 (hx.symm.trans h)) (fun h => h2 (hx.symm.trans h)) (fun h => h3 (hx.symm.trans h)) (fun h => h4 (hx.symm.trans h)) (fun h => h5 (hx.symm.trans h)) (fun h => h6 (hx.symm.trans h)) (fun h => h7 (hx.symm.trans h)) (fun h => h8 (hx.symm.trans h)) (fun h => h9 (hx.symm.trans h)) (fun h => h10 (hx.symm.trans h)) (fun h => h11 (hx.symm.trans h)) (fun h => h12 (hx.symm.trans h)) (fun h => h13 (hx.symm.trans h)) (fun h => h14 (hx.symm.trans h))).mono fun e w1 h => ⟨h.1, h.2⟩
set_option maxHeartbeats 2000000 in
set_option maxRecDepth 100000 in
theorem ofOne_any (x : ByteArray) (a : Int) (w : World) : Calls Tryz.prog 71 #[.string x, .int .i64 a] w fun e w' => e = .returned (.int .i64 (oneV (tl x) a)) ∧ w' = w := by
  have hx : x.toList = tl x := Lib.toList_data x
  by_cases h0 : tl x = [110, 101, 103]
  · rw [show oneV (tl x) a = wrap64 (-a) by rw [h0]; rfl]
    have g0 : ∀ l, (x.toList == l) = ([110, 101, 103] == l) := fun l => by rw [hx, h0]
    clear hx h0
    go_enter Tryz.func71, Tryz.ntmps71
    go_wp2
    go_ret
    exact ⟨rfl, rfl⟩
  by_cases h1 : tl x = [110, 111, 116]
  · rw [show oneV (tl x) a = truthI (a == 0) by rw [h1]; rfl]
    have g0 : ∀ l, (x.toList == l) = ([110, 111, 116] == l) := fun l => by rw [hx, h1]
    have ht := fun W => truth_any (a == 0) W
    clear hx h0 h1
    go_enter Tryz.func71, Tryz.ntmps71
    go_wp2_with fail
    refine (ht _).mono ?_
    rintro e w1 ⟨rfl, rfl⟩
    go_wp2
    go_ret
    exact ⟨rfl, rfl⟩
  by_cases h2 : tl x = [99, 111, 109]
  · rw [show oneV (tl x) a = bits BinOp.xor IntKind.i64 (-1) a by rw [h2]; rfl]
    have g0 : ∀ l, (x.toList == l) = ([99, 111, 109] == l) := fun l => by rw [hx, h2]
    clear hx h0 h1 h2
    go_enter Tryz.func71, Tryz.ntmps71
    go_wp2
    go_ret
    exact ⟨rfl, rfl⟩
  rw [show oneV (tl x) a = a by simp [oneV, h0, h1, h2]]
  have g0 : (x.toList == [110, 101, 103]) = false := by rw [hx]; simpa using h0
  have g1 : (x.toList == [110, 111, 116]) = false := by rw [hx]; simpa using h1
  have g2 : (x.toList == [99, 111, 109]) = false := by rw [hx]; simpa using h2
  clear hx h0 h1 h2
  go_enter Tryz.func71, Tryz.ntmps71
  go_wp2
  go_ret
  exact ⟨rfl, rfl⟩
end Go.Proofs.YtlijlgbaikijnaaGreatDoor
