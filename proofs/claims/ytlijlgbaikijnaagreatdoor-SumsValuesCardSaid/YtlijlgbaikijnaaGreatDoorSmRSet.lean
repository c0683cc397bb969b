/-
  What marks between two make of numbers, by the reference. Conditions: numbers of 64 bits.
  The reference's table as it lies in memory; Get and number of it, by the reference. Conditions: texts of at most a million bytes.
  Set of the reference's table, by the reference. Conditions: at most a million pairs.
-/
import Derived.Test.YtlijlgbaikijnaaGreatDoorSmArith
import Derived.Test.YtlijlgbaikijnaaGreatDoorSmRNum2
import Derived.Test.YtlijlgbaikijnaaGreatDoorSmRText
import Derived.Test.YtlijlgbaikijnaaGreatDoorSmRRight
namespace Go.Proofs.YtlijlgbaikijnaaGreatDoor
open Go Go.RowKit

theorem rOne_any (b : Bool) (w : World) : Calls Tryz.prog 77 #[.bool b] w fun e w' => e = .returned (.int .i64 (truthI b)) ∧ w' = w := by
  cases b
  all_goals
    go_enter Tryz.func77, Tryz.ntmps77
    go_wp2
    go_ret
    exact ⟨rfl, rfl⟩
/-- What the reference's two answers. -/
def twoT (o : Option Int) : Value := match o with | some n => .tuple #[.int .i64 n, .int .i64 0] | none => .tuple #[.int .i64 0, .int .i64 24]
theorem dbl (a : Int) (k : Nat) : wrap64 (wrap64 (a * 2 ^ k) + wrap64 (a * 2 ^ k)) = wrap64 (a * 2 ^ (k + 1)) := by
  have h : wrap64 (wrap64 (a * 2 ^ k) + wrap64 (a * 2 ^ k)) = wrap64 (a * 2 ^ k + a * 2 ^ k) := by
    simp only [wrap64_bv, BitVec.ofInt_add, BitVec.ofInt_toInt]
  rw [h, Int.pow_succ, ← Int.mul_assoc]
  congr 1
  omega
theorem hlf (a : Int) (k : Nat) : a / 2 ^ (k + 1) = a / 2 ^ k / 2 := by
  rw [Int.pow_succ, Int.ediv_ediv_of_nonneg (Int.le_of_lt (Int.pow_pos (by decide)))]
theorem hlf_neg {x : Int} (h : x < 0) (hr : InR x) : wrap64 (-1 - wrap64 ((wrap64 (-1 - x)).tdiv 2)) = x / 2 := by
  unfold InR at hr
  have e1 : wrap64 (-1 - x) = -1 - x := by unfold wrap64; omega
  rw [e1, Int.tdiv_eq_ediv_of_nonneg (by omega)]
  have e2 : wrap64 ((-1 - x) / 2) = (-1 - x) / 2 := by unfold wrap64; omega
  rw [e2]
  unfold wrap64
  omega
theorem hlf_pos {x : Int} (h : ¬ x < 0) (hr : InR x) : wrap64 (x.tdiv 2) = x / 2 := by
  unfold InR at hr
  rw [Int.tdiv_eq_ediv_of_nonneg (by omega)]
  unfold wrap64
  omega
set_option maxHeartbeats 1000000 in
set_option maxRecDepth 100000 in
theorem rtwo_0 (x : ByteArray) (a b : Int) (w : World) (hx : x.toList = [42]) : Calls Tryz.prog 75 #[.string x, .int .i64 a, .int .i64 b] w fun e w' => e = .returned (.tuple #[.int .i64 (wrap64 (a * b)), .int .i64 0]) ∧ w' = w := by
  have g0 : ∀ l, (x.toList == l) = ([42] == l) := fun l => by rw [hx]
  clear hx
  go_enter Tryz.func75, Tryz.ntmps75
  go_wp2
  go_ret2
  exact ⟨rfl, rfl⟩
set_option maxHeartbeats 1000000 in
set_option maxRecDepth 100000 in
theorem rtwo_1 (x : ByteArray) (a b : Int) (w : World) (hx : x.toList = [43]) : Calls Tryz.prog 75 #[.string x, .int .i64 a, .int .i64 b] w fun e w' => e = .returned (.tuple #[.int .i64 (wrap64 (a + b)), .int .i64 0]) ∧ w' = w := by
  have g0 : ∀ l, (x.toList == l) = ([43] == l) := fun l => by rw [hx]
  clear hx
  go_enter Tryz.func75, Tryz.ntmps75
  go_wp2
  go_ret2
  exact ⟨rfl, rfl⟩
set_option maxHeartbeats 1000000 in
set_option maxRecDepth 100000 in
theorem rtwo_2 (x : ByteArray) (a b : Int) (w : World) (hx : x.toList = [45]) : Calls Tryz.prog 75 #[.string x, .int .i64 a, .int .i64 b] w fun e w' => e = .returned (.tuple #[.int .i64 (wrap64 (a - b)), .int .i64 0]) ∧ w' = w := by
  have g0 : ∀ l, (x.toList == l) = ([45] == l) := fun l => by rw [hx]
  clear hx
  go_enter Tryz.func75, Tryz.ntmps75
  go_wp2
  go_ret2
  exact ⟨rfl, rfl⟩
set_option maxHeartbeats 1000000 in
set_option maxRecDepth 100000 in
theorem rtwo_3 (x : ByteArray) (a b : Int) (w : World) (hx : x.toList = [38]) : Calls Tryz.prog 75 #[.string x, .int .i64 a, .int .i64 b] w fun e w' => e = .returned (.tuple #[.int .i64 (bits BinOp.and IntKind.i64 a b), .int .i64 0]) ∧ w' = w := by
  have g0 : ∀ l, (x.toList == l) = ([38] == l) := fun l => by rw [hx]
  clear hx
  go_enter Tryz.func75, Tryz.ntmps75
  go_wp2
  go_ret2
  exact ⟨rfl, rfl⟩
set_option maxHeartbeats 1000000 in
set_option maxRecDepth 100000 in
theorem rtwo_4 (x : ByteArray) (a b : Int) (w : World) (hx : x.toList = [94]) : Calls Tryz.prog 75 #[.string x, .int .i64 a, .int .i64 b] w fun e w' => e = .returned (.tuple #[.int .i64 (bits BinOp.xor IntKind.i64 a b), .int .i64 0]) ∧ w' = w := by
  have g0 : ∀ l, (x.toList == l) = ([94] == l) := fun l => by rw [hx]
  clear hx
  go_enter Tryz.func75, Tryz.ntmps75
  go_wp2
  go_ret2
  exact ⟨rfl, rfl⟩
set_option maxHeartbeats 1000000 in
set_option maxRecDepth 100000 in
theorem rtwo_5 (x : ByteArray) (a b : Int) (w : World) (hx : x.toList = [124]) : Calls Tryz.prog 75 #[.string x, .int .i64 a, .int .i64 b] w fun e w' => e = .returned (.tuple #[.int .i64 (bits BinOp.or IntKind.i64 a b), .int .i64 0]) ∧ w' = w := by
  have g0 : ∀ l, (x.toList == l) = ([124] == l) := fun l => by rw [hx]
  clear hx
  go_enter Tryz.func75, Tryz.ntmps75
  go_wp2
  go_ret2
  exact ⟨rfl, rfl⟩
set_option maxHeartbeats 1000000 in
set_option maxRecDepth 100000 in
theorem rtwo_6 (x : ByteArray) (a b : Int) (w : World) (hx : x.toList = [60]) : Calls Tryz.prog 75 #[.string x, .int .i64 a, .int .i64 b] w fun e w' => e = .returned (.tuple #[.int .i64 (truthI (decide (a < b))), .int .i64 0]) ∧ w' = w := by
  have g0 : ∀ l, (x.toList == l) = ([60] == l) := fun l => by rw [hx]
  clear hx
  have ht := fun W => rOne_any (decide (a < b)) W
  go_enter Tryz.func75, Tryz.ntmps75
  go_wp2_with fail
  refine (ht _).mono ?_
  rintro e w1 ⟨rfl, rfl⟩
  go_wp2
  go_ret2
  exact ⟨rfl, rfl⟩
set_option maxHeartbeats 1000000 in
set_option maxRecDepth 100000 in
theorem rtwo_7 (x : ByteArray) (a b : Int) (w : World) (hx : x.toList = [60, 61]) : Calls Tryz.prog 75 #[.string x, .int .i64 a, .int .i64 b] w fun e w' => e = .returned (.tuple #[.int .i64 (truthI (decide (a ≤ b))), .int .i64 0]) ∧ w' = w := by
  have g0 : ∀ l, (x.toList == l) = ([60, 61] == l) := fun l => by rw [hx]
  clear hx
  have ht := fun W => rOne_any (decide (a ≤ b)) W
  go_enter Tryz.func75, Tryz.ntmps75
  go_wp2_with fail
  refine (ht _).mono ?_
  rintro e w1 ⟨rfl, rfl⟩
  go_wp2
  go_ret2
  exact ⟨rfl, rfl⟩
set_option maxHeartbeats 1000000 in
set_option maxRecDepth 100000 in
theorem rtwo_8 (x : ByteArray) (a b : Int) (w : World) (hx : x.toList = [62]) : Calls Tryz.prog 75 #[.string x, .int .i64 a, .int .i64 b] w fun e w' => e = .returned (.tuple #[.int .i64 (truthI (decide (b < a))), .int .i64 0]) ∧ w' = w := by
  have g0 : ∀ l, (x.toList == l) = ([62] == l) := fun l => by rw [hx]
  clear hx
  have ht := fun W => rOne_any (decide (b < a)) W
  go_enter Tryz.func75, Tryz.ntmps75
  go_wp2_with fail
  refine (ht _).mono ?_
  rintro e w1 ⟨rfl, rfl⟩
  go_wp2
  go_ret2
  exact ⟨rfl, rfl⟩
set_option maxHeartbeats 1000000 in
set_option maxRecDepth 100000 in
theorem rtwo_9 (x : ByteArray) (a b : Int) (w : World) (hx : x.toList = [62, 61]) : Calls Tryz.prog 75 #[.string x, .int .i64 a, .int .i64 b] w fun e w' => e = .returned (.tuple #[.int .i64 (truthI (decide (b ≤ a))), .int .i64 0]) ∧ w' = w := by
  have g0 : ∀ l, (x.toList == l) = ([62, 61] == l) := fun l => by rw [hx]
  clear hx
  have ht := fun W => rOne_any (decide (b ≤ a)) W
  go_enter Tryz.func75, Tryz.ntmps75
  go_wp2_with fail
  refine (ht _).mono ?_
  rintro e w1 ⟨rfl, rfl⟩
  go_wp2
  go_ret2
  exact ⟨rfl, rfl⟩
set_option maxHeartbeats 1000000 in
set_option maxRecDepth 100000 in
theorem rtwo_10 (x : ByteArray) (a b : Int) (w : World) (hx : x.toList = [61, 61]) : Calls Tryz.prog 75 #[.string x, .int .i64 a, .int .i64 b] w fun e w' => e = .returned (.tuple #[.int .i64 (truthI (a == b)), .int .i64 0]) ∧ w' = w := by
  have g0 : ∀ l, (x.toList == l) = ([61, 61] == l) := fun l => by rw [hx]
  clear hx
  have ht := fun W => rOne_any (a == b) W
  go_enter Tryz.func75, Tryz.ntmps75
  go_wp2_with fail
  refine (ht _).mono ?_
  rintro e w1 ⟨rfl, rfl⟩
  go_wp2
  go_ret2
  exact ⟨rfl, rfl⟩
set_option maxHeartbeats 1000000 in
set_option maxRecDepth 100000 in
theorem rtwo_11 (x : ByteArray) (a b : Int) (w : World) (hx : x.toList = [33, 61]) : Calls Tryz.prog 75 #[.string x, .int .i64 a, .int .i64 b] w fun e w' => e = .returned (.tuple #[.int .i64 (truthI (!(a == b))), .int .i64 0]) ∧ w' = w := by
  have g0 : ∀ l, (x.toList == l) = ([33, 61] == l) := fun l => by rw [hx]
  clear hx
  have ht := fun W => rOne_any (!(a == b)) W
  go_enter Tryz.func75, Tryz.ntmps75
  go_wp2_with fail
  refine (ht _).mono ?_
  rintro e w1 ⟨rfl, rfl⟩
  go_wp2
  go_ret2
  exact ⟨rfl, rfl⟩
set_option maxHeartbeats 1000000 in
set_option maxRecDepth 100000 in
theorem rtwo_quo (x : ByteArray) (a b : Int) (w : World) (hx : x.toList = [47]) : Calls Tryz.prog 75 #[.string x, .int .i64 a, .int .i64 b] w fun e w' => e = .returned (twoT (twoV [47] a b)) ∧ w' = w := by
  have g0 : ∀ l, (x.toList == l) = ([47] == l) := fun l => by rw [hx]
  clear hx
  by_cases hb : b = 0
  · rw [show twoV [47] a b = none by simp [twoV, hb]]
    subst hb
    go_enter Tryz.func75, Tryz.ntmps75
    go_wp2
    go_ret2
    exact ⟨rfl, rfl⟩
  · rw [show twoV [47] a b = some (wrap64 (a.tdiv b)) by simp [twoV, hb]]
    have k0 : (b == 0) = false := by simpa using hb
    by_cases hm : b = -1
    · have k1 : (b == -1) = true := by rw [hm]; rfl
      have e1 : wrap64 (a.tdiv b) = wrap64 (-a) := by rw [hm, Int.tdiv_neg, Int.tdiv_one]
      rw [e1]
      clear hm e1 hb
      go_enter Tryz.func75, Tryz.ntmps75
      go_wp2
      go_ret2
      exact ⟨rfl, rfl⟩
    · have k1 : (b == -1) = false := by simpa using hm
      clear hm
      go_enter Tryz.func75, Tryz.ntmps75
      go_wp2
      go_ret2
      exact ⟨rfl, rfl⟩
set_option maxHeartbeats 1000000 in
set_option maxRecDepth 100000 in
theorem rtwo_rem (x : ByteArray) (a b : Int) (w : World) (hx : x.toList = [37]) : Calls Tryz.prog 75 #[.string x, .int .i64 a, .int .i64 b] w fun e w' => e = .returned (twoT (twoV [37] a b)) ∧ w' = w := by
  have g0 : ∀ l, (x.toList == l) = ([37] == l) := fun l => by rw [hx]
  clear hx
  by_cases hb : b = 0
  · rw [show twoV [37] a b = none by simp [twoV, hb]]
    subst hb
    go_enter Tryz.func75, Tryz.ntmps75
    go_wp2
    go_ret2
    exact ⟨rfl, rfl⟩
  · rw [show twoV [37] a b = some (a.tmod b) by simp [twoV, hb]]
    have k0 : (b == 0) = false := by simpa using hb
    by_cases hm : b = -1
    · have k1 : (b == -1) = true := by rw [hm]; rfl
      have e1 : a.tmod b = 0 := by rw [hm, Int.tmod_neg, Int.tmod_one]
      rw [e1]
      clear hm e1 hb
      go_enter Tryz.func75, Tryz.ntmps75
      go_wp2
      go_ret2
      exact ⟨rfl, rfl⟩
    · have k1 : (b == -1) = false := by simpa using hm
      clear hm
      go_enter Tryz.func75, Tryz.ntmps75
      go_wp2
      go_ret2
      exact ⟨rfl, rfl⟩
set_option maxHeartbeats 1000000 in
set_option maxRecDepth 100000 in
theorem rtwo_shl (x : ByteArray) (a b : Int) (ha : InR a) (w : World) (hx : x.toList = [60, 60]) : Calls Tryz.prog 75 #[.string x, .int .i64 a, .int .i64 b] w fun e w' => e = .returned (.tuple #[.int .i64 (wrap64 (a * 2 ^ (bits BinOp.and IntKind.i64 b 63).toNat)), .int .i64 0]) ∧ w' = w := by
  have g0 : ∀ l, (x.toList == l) = ([60, 60] == l) := fun l => by rw [hx]
  clear hx
  obtain ⟨N, hN⟩ : ∃ N : Nat, bits BinOp.and IntKind.i64 b 63 = (N : Int) := ⟨(bits BinOp.and IntKind.i64 b 63).toNat, by rw [and63]; omega⟩
  have hN64 : N < 64 := by have := and63 b; omega
  rw [hN, Int.toNat_natCast]
  have h0 : wrap64 (a * 2 ^ 0) = a := by rw [Int.pow_zero, Int.mul_one, wrap64_id ha]
  go_enter Tryz.func75, Tryz.ntmps75
  go_wp2
  go_loopw [1, 8] (fun av nv wr => ∃ k : Nat, k ≤ N ∧ nv = .int .i64 ((N : Int) - (k : Int)) ∧ av = .int .i64 (wrap64 (a * 2 ^ k)) ∧ wr = w) (fun _ nv _ => (intOf nv).toNat)
  case atStart => exact ⟨0, Nat.zero_le _, by simp, by rw [h0], rfl⟩
  case round =>
    obtain ⟨k, hk, rfl, rfl, rfl⟩ := hrel
    have hd := dbl a k
    by_cases hlt : k < N
    · have i0 : (0 : Int) < (N : Int) - (k : Int) := by omega
      generalize wrap64 (a * 2 ^ k) = y at hd ⊢
      replace hd := Lib.hid hd
      go_wp2
      go_roundw
      case rel => exact ⟨k + 1, by omega, congrArg (Value.int IntKind.i64) (by omega), by rw [hd.out], trivial⟩
      case measure => simp [intOf]; omega
    · obtain rfl : k = N := by omega
      have i0 : ¬ (0 : Int) < (k : Int) - (k : Int) := by omega
      clear hd
      go_wp2
      go_ret2
      exact ⟨rfl, rfl⟩
set_option maxHeartbeats 1000000 in
set_option maxRecDepth 100000 in
theorem rtwo_shr (x : ByteArray) (a b : Int) (ha : InR a) (w : World) (hx : x.toList = [62, 62]) : Calls Tryz.prog 75 #[.string x, .int .i64 a, .int .i64 b] w fun e w' => e = .returned (.tuple #[.int .i64 (a / 2 ^ (bits BinOp.and IntKind.i64 b 63).toNat), .int .i64 0]) ∧ w' = w := by
  have g0 : ∀ l, (x.toList == l) = ([62, 62] == l) := fun l => by rw [hx]
  clear hx
  obtain ⟨N, hN⟩ : ∃ N : Nat, bits BinOp.and IntKind.i64 b 63 = (N : Int) := ⟨(bits BinOp.and IntKind.i64 b 63).toNat, by rw [and63]; omega⟩
  have hN64 : N < 64 := by have := and63 b; omega
  rw [hN, Int.toNat_natCast]
  have h0 : a / 2 ^ 0 = a := by rw [Int.pow_zero, Int.ediv_one]
  go_enter Tryz.func75, Tryz.ntmps75
  go_wp2
  go_loopw [1, 8] (fun av nv wr => ∃ k : Nat, k ≤ N ∧ nv = .int .i64 ((N : Int) - (k : Int)) ∧ av = .int .i64 (a / 2 ^ k) ∧ wr = w) (fun _ nv _ => (intOf nv).toNat)
  case atStart => exact ⟨0, Nat.zero_le _, by simp, by rw [h0], rfl⟩
  case round =>
    obtain ⟨k, hk, rfl, rfl, rfl⟩ := hrel
    have hd := hlf a k
    have hr := div_in ha k
    by_cases hlt : k < N
    · have i0 : (0 : Int) < (N : Int) - (k : Int) := by omega
      generalize a / 2 ^ k = y at hd hr ⊢
      replace hd := Lib.hid hd
      by_cases hy : y < 0
      · have e2 := Lib.hid (hlf_neg hy hr)
        clear hr
        go_wp2
        go_roundw
        case rel => exact ⟨k + 1, by omega, congrArg (Value.int IntKind.i64) (by omega), by rw [hd.out, e2.out], trivial⟩
        case measure => simp [intOf]; omega
      · have e2 := Lib.hid (hlf_pos hy hr)
        clear hr
        go_wp2
        go_roundw
        case rel => exact ⟨k + 1, by omega, congrArg (Value.int IntKind.i64) (by omega), by rw [hd.out, e2.out], trivial⟩
        case measure => simp [intOf]; omega
    · obtain rfl : k = N := by omega
      have i0 : ¬ (0 : Int) < (k : Int) - (k : Int) := by omega
      clear hd hr
      go_wp2
      go_ret2
      exact ⟨rfl, rfl⟩
/-- The marks between two that need both. -/
def bothM : List (List UInt8) := [[42], [43], [45], [38], [94], [124], [60], [60, 61], [62], [62, 61], [61, 61], [33, 61], [47], [37], [60, 60], [62, 62]]
theorem rTwo_any (x : ByteArray) (a b : Int) (ha : InR a) (hm : tl x ∈ bothM) (w : World) : Calls Tryz.prog 75 #[.string x, .int .i64 a, .int .i64 b] w fun e w' => e = .returned (twoT (twoV (tl x) a b)) ∧ w' = w := by
  have hx : x.toList = tl x := Lib.toList_data x
  simp only [bothM, List.mem_cons, List.mem_nil_iff, or_false] at hm
  rcases hm with h | h | h | h | h | h | h | h | h | h | h | h | h | h | h | h
  · rw [h]; exact rtwo_0 x a b w (hx.trans h)
  · rw [h]; exact rtwo_1 x a b w (hx.trans h)
  · rw [h]; exact rtwo_2 x a b w (hx.trans h)
  · rw [h]; exact rtwo_3 x a b w (hx.trans h)
  · rw [h]; exact rtwo_4 x a b w (hx.trans h)
  · rw [h]; exact rtwo_5 x a b w (hx.trans h)
  · rw [h]; exact rtwo_6 x a b w (hx.trans h)
  · rw [h]; exact rtwo_7 x a b w (hx.trans h)
  · rw [h]; exact rtwo_8 x a b w (hx.trans h)
  · rw [h]; exact rtwo_9 x a b w (hx.trans h)
  · rw [h]; exact rtwo_10 x a b w (hx.trans h)
  · rw [h]; exact rtwo_11 x a b w (hx.trans h)
  · rw [h]; exact rtwo_quo x a b w (hx.trans h)
  · rw [h]; exact rtwo_rem x a b w (hx.trans h)
  · rw [h]; exact rtwo_shl x a b ha w (hx.trans h)
  · rw [h]; exact rtwo_shr x a b ha w (hx.trans h)
end Go.Proofs.YtlijlgbaikijnaaGreatDoor

namespace Go.Proofs.YtlijlgbaikijnaaGreatDoor
open Go Go.RowKit

/-- The reference's table: its pairs and its log, in rows of its own; T: the blocks that it may write. -/
structure RTab (w : World) (rb B : Nat) (ps : List Pr) (N : Nat) (T : Nat → Prop) : Prop where
  row : ∃ (vp vl : Value) (ls : List Pr), w.heap[rb]? = some (.cells #[vp, vl] 86 (0, 0)) ∧ w.ownsRow B 87 3 vp ps.length (cellsPr ps) ∧ w.ownsRow B 87 3 vl ls.length (cellsPr ls) ∧ ls.length ≤ N ∧
    (∀ g, vp.ownBlock = some g → T g ∧ vl.ownBlock ≠ some g) ∧ (∀ g, vl.ownBlock = some g → T g)
  tb : T rb
  lo : rb < B
  few : ps.length ≤ N
  bd : ∀ g, T g → g < w.heap.size
theorem RTab.keep {w w' : World} {rb B : Nat} {ps : List Pr} {N : Nat} {T : Nat → Prop} (h : RTab w rb B ps N T) (hk : ∀ k, k < w.heap.size → T k → w'.heap[k]? = w.heap[k]?) (hs : w.heap.size ≤ w'.heap.size) : RTab w' rb B ps N T := by
  obtain ⟨⟨vp, vl, ls, h1, h2, h3, h4, h5, h6⟩, ht, hl, hf, hbd⟩ := h
  refine ⟨⟨vp, vl, ls, (hk rb (Array.getElem?_eq_some_iff.1 h1).1 ht).trans h1, ?_, ?_, h4, h5, h6⟩, ht, hl, hf, fun g hg => Nat.lt_of_lt_of_le (hbd g hg) hs⟩
  · obtain ⟨a, b⟩ := h2
    refine ⟨a, ?_⟩
    rcases b with b | ⟨g, cap, cur, rfl, hb, hg, r⟩
    · exact .inl b
    · exact .inr ⟨g, cap, cur, rfl, hb, by rw [hk g (Array.getElem?_eq_some_iff.1 hg).1 (h5 g rfl).1]; exact hg, r⟩
  · obtain ⟨a, b⟩ := h3
    refine ⟨a, ?_⟩
    rcases b with b | ⟨g, cap, cur, rfl, hb, hg, r⟩
    · exact .inl b
    · exact .inr ⟨g, cap, cur, rfl, hb, by rw [hk g (Array.getElem?_eq_some_iff.1 hg).1 (h6 g rfl)]; exact hg, r⟩
theorem RTab.grown {w w' : World} {rb B : Nat} {ps : List Pr} {N : Nat} {T : Nat → Prop} (h : RTab w rb B ps N T) (hg : w.grownBy w' none) : RTab w' rb B ps N T := h.keep (fun k hk _ => hg.block k hk (by simp)) hg.size
theorem RTab.mono {w : World} {rb B : Nat} {ps : List Pr} {N M : Nat} {T : Nat → Prop} (h : RTab w rb B ps N T) (hm : N ≤ M) : RTab w rb B ps M T := by
  obtain ⟨⟨vp, vl, ls, h1, h2, h3, h4, h5, h6⟩, ht, hl, hf, hbd⟩ := h
  exact ⟨⟨vp, vl, ls, h1, h2, h3, Nat.le_trans h4 hm, h5, h6⟩, ht, hl, Nat.le_trans hf hm, hbd⟩
theorem RTab.lt {w : World} {rb B : Nat} {ps : List Pr} {N : Nat} {T : Nat → Prop} (h : RTab w rb B ps N T) : rb < w.heap.size := by
  obtain ⟨⟨_, _, _, h1, _⟩, _⟩ := h
  exact (Array.getElem?_eq_some_iff.1 h1).1

set_option maxHeartbeats 2000000 in
set_option maxRecDepth 100000 in
theorem rGet_any (nm : ByteArray) (rb B : Nat) (ps : List Pr) (N : Nat) (T : Nat → Prop) (w : World) (h : RTab w rb B ps N T) :
    Calls Tryz.prog 21 #[.pointer (some ⟨rb, 0, none⟩), .string nm] w fun e w' => e = .returned (.tuple (match getP ps nm with | some s => #[.string s, .bool true] | none => #[.string ⟨#[]⟩, .bool false])) ∧ w' = w := by
  obtain ⟨⟨vp, vl, ls, hr, hown, _⟩, _, hlo, _, _⟩ := h
  have hp := prS_own hown rfl hlo
  obtain ⟨A, c, rfl, hc, hcm⟩ := hp.form
  unfold maxLen at hcm
  have q0 : w.cell? ⟨rb, 0, none⟩ = some (.slice A ps.length c) := by rw [cell_of_row w _ _ _ _ _ hr]; rfl
  obtain ⟨R, hR⟩ : ∃ R : Array Value, (match getP ps nm with | some s => #[.string s, .bool true] | none => #[.string ⟨#[]⟩, .bool false]) = R := ⟨_, rfl⟩
  rw [hR]
  unfold getP firstP at hR
  obtain ⟨PL, hPL⟩ : ∃ PL, ps.length = PL := ⟨_, rfl⟩
  rw [hPL] at hp hc q0
  replace hp := Lib.hid hp
  replace hR := Lib.hid hR
  replace hPL := Lib.hid hPL
  clear hown hr hlo
  go_enter Tryz.func21, Tryz.ntmps21
  go_wp2
  go_loopw [6] (fun nv wr => ∃ m : Nat, m ≤ PL ∧ nv = .int .i64 (m : Int) ∧ wr = w ∧ Hid (∀ i (hi : i < ps.length), i < m → (ps[i].1.toList == nm.toList) = false)) (fun nv _ => PL - (intOf nv).toNat)
  case atStart => exact ⟨0, Nat.zero_le _, rfl, rfl, fun _ _ h => absurd h (Nat.not_lt_zero _)⟩
  case round =>
    obtain ⟨m, hm, rfl, rfl, hno⟩ := hrel
    by_cases hlt : m < PL
    · have hlt' : m < ps.length := by rw [hPL.out]; exact hlt
      obtain ⟨b, off, rfl, _, _, c0, c1, _⟩ := hp.out.at_ m hlt'
      obtain ⟨s0, hs0⟩ : ∃ s, ps[m].1 = s := ⟨_, rfl⟩
      obtain ⟨s1, hs1⟩ : ∃ s, ps[m].2.1 = s := ⟨_, rfl⟩
      rw [hs0] at c0
      rw [hs1] at c1
      cases hb : (s0.toList == nm.toList) with
      | true =>
        have hRr : R = #[.string s1, .bool true] := by
          rw [← hR.out]
          have h1 : ps.findIdx? (fun p => p.1.toList == nm.toList) = some m := by
            rw [List.findIdx?_eq_some_iff_getElem]
            exact ⟨hlt', by rw [hs0]; exact hb, fun j hj => by rw [hno.out j (by omega) hj]; simp⟩
          rw [h1]
          simp only [List.getElem?_eq_getElem hlt', Option.map_some, hs1]
        subst hRr
        clear hR hno hs0 hs1
        go_wp2
        go_ret2
        exact ⟨rfl, rfl⟩
      | false =>
        have hno2 : Hid (∀ i (hi : i < ps.length), i < m + 1 → (ps[i].1.toList == nm.toList) = false) := fun i hi h => by
          rcases Nat.lt_or_ge i m with h' | h'
          · exact hno.out i hi h'
          · obtain rfl : i = m := by omega
            rw [hs0]; exact hb
        clear hno hs0 hs1
        go_wp2
        go_roundw
        case rel => exact ⟨m + 1, by omega, by go_num, trivial, hno2⟩
        case measure => simp [intOf]; omega
    · obtain rfl : m = PL := by omega
      have hRr : R = #[.string ⟨#[]⟩, .bool false] := by
        rw [← hR.out]
        have h1 : ps.findIdx? (fun p => p.1.toList == nm.toList) = none := by
          rw [List.findIdx?_eq_none_iff]
          intro x hx
          obtain ⟨i, hi, rfl⟩ := List.getElem_of_mem hx
          exact hno.out i hi (by have := hPL.out; omega)
        rw [h1]
      subst hRr
      clear hR hno
      go_wp2
      go_ret2
      exact ⟨rfl, rfl⟩

theorem getV_ref (ps : List Pr) (nm : ByteArray) : ∃ s b, (match getP ps nm with | some s => #[Value.string s, .bool true] | none => #[.string ⟨#[]⟩, .bool false]) = #[.string s, .bool b] ∧ numP (tl s) = getV ps nm ∧ (∀ N, Vals ps → 0 ≤ N → s.size ≤ 1000000) := by
  unfold getV
  cases h : getP ps nm with
  | some s =>
    refine ⟨s, true, rfl, rfl, fun _ hv _ => ?_⟩
    unfold getP at h
    cases hf : firstP ps nm with
    | none => rw [hf] at h; cases h
    | some i =>
      rw [hf] at h
      have hi := firstP_lt hf
      simp only [List.getElem?_eq_getElem hi, Option.map_some, Option.some.injEq] at h
      rw [← h]
      exact hv _ (List.getElem_mem hi)
  | none => exact ⟨⟨#[]⟩, false, rfl, rfl, fun _ _ _ => by decide⟩
set_option maxHeartbeats 2000000 in
set_option maxRecDepth 100000 in
theorem rNum_any (nm : ByteArray) (rb B : Nat) (ps : List Pr) (N : Nat) (T : Nat → Prop) (w : World) (h : RTab w rb B ps N T) (hv : Vals ps) :
    Calls Tryz.prog 74 #[.pointer (some ⟨rb, 0, none⟩), .string nm] w fun e w' => e = .returned (numR (getV ps nm)) ∧ w' = w := by
  have hge := rGet_any nm rb B ps N T w h
  obtain ⟨s, b, h1, h2, h3⟩ := getV_ref ps nm
  rw [h1] at hge
  have hs := h3 0 hv (Nat.le_refl _)
  have hnu := rNumber_any s w hs
  rw [h2] at hnu
  obtain ⟨x, y, hxy⟩ : ∃ x y, numR (getV ps nm) = .tuple #[.int .i64 x, .int .i64 y] := by cases getV ps nm with | none => exact ⟨_, _, rfl⟩ | some m => exact ⟨_, _, rfl⟩
  rw [hxy] at hnu ⊢
  clear h1 h2 h3 hxy h hv
  go_enter Tryz.func74, Tryz.ntmps74
  go_wp2_with fail
  refine hge.mono ?_
  rintro e w1 ⟨rfl, hw1⟩
  obtain rfl := hw1.symm
  clear hge
  go_wp2_with fail
  refine hnu.mono ?_
  rintro e w2 ⟨rfl, hw2⟩
  obtain rfl := hw2.symm
  go_wp2
  go_ret2
  exact ⟨rfl, rfl⟩
end Go.Proofs.YtlijlgbaikijnaaGreatDoor

namespace Go.Proofs.YtlijlgbaikijnaaGreatDoor
open Go Go.RowKit

theorem infoRPair : (Tryz.prog.info? 87).map (fun i => (i.zero, i.size, i.bytes)) = some (some (.agg #[.string ⟨#[]⟩, .string ⟨#[]⟩, .bool false]), 3, 40) := by kernel_rfl
/-- The table has moved on; nothing but its blocks has changed. -/
structure RMove (w w' : World) (rb B : Nat) (qs : List Pr) (N : Nat) (T : Nat → Prop) : Prop where
  tab : ∃ T' : Nat → Prop, RTab w' rb B qs N T' ∧ ∀ k, T' k → T k ∨ w.heap.size ≤ k
  os : w'.os = w.os
  tape : w'.tape = w.tape
  output : w'.output = w.output
  size : w.heap.size ≤ w'.heap.size
  block : ∀ k, k < w.heap.size → ¬ T k → w'.heap[k]? = w.heap[k]?
theorem rmove_log {w0 w1 w2 w3 : World} {rb B n gg cap : Nat} {vp vl : Value} {ps ls : List Pr} {x : Pr} {N : Nat} {T : Nat → Prop} (hrow : w1.heap[rb]? = some (.cells #[vp, vl] 86 (0, 0)))
    (hp : w1.ownsRow B 87 3 vp n (cellsPr ps)) (hn : n = ps.length) (hl : w1.ownsRow B 87 3 vl ls.length (cellsPr ls)) (hd : ∀ g, vp.ownBlock = some g → vl.ownBlock ≠ some g) (h12 : w1.grownBy w2 none)
    (hown3 : w3.ownsRow B 87 3 (.slice (some ⟨gg, 0, none⟩) (ls.length + 1) cap) (ls.length + 1) (cellsPr ls ++ [.string x.1, .string x.2.1, .bool x.2.2])) (hgrow : w2.grownBy w3 vl.ownBlock) (hat : vl.ownBlock = some gg ∨ gg = w2.heap.size)
    (hlo : rb < B) (hT : T rb) (hTp : ∀ g, vp.ownBlock = some g → T g ∨ w0.heap.size ≤ g) (hTl : ∀ g, vl.ownBlock = some g → T g ∨ w0.heap.size ≤ g) (hN : ps.length ≤ N) (hM : ls.length + 1 ≤ N) (hbd : ∀ g, T g → g < w0.heap.size)
    (h01 : w1.os = w0.os ∧ w1.tape = w0.tape ∧ w1.output = w0.output ∧ w0.heap.size ≤ w1.heap.size ∧ ∀ k, k < w0.heap.size → ¬ T k → w1.heap[k]? = w0.heap[k]?) :
    w3.heap[rb]? = some (.cells #[vp, vl] 86 (0, 0)) ∧ RMove w0 (w3.setCell ⟨rb, 1, none⟩ (.slice (some ⟨gg, 0, none⟩) (ls.length + 1) cap)) rb B ps N T := by
  have hlt := (Array.getElem?_eq_some_iff.1 hrow).1
  have hs := h12.size
  have hs3 := hgrow.size
  obtain ⟨o1, o2, o3, o4, o5⟩ := h01
  have hne : some rb ≠ vl.ownBlock := fun e => by have := (hl.lt rb e.symm).1; omega
  have hrow3 : w3.heap[rb]? = some (.cells #[vp, vl] 86 (0, 0)) := (hgrow.block rb (by omega) hne).trans ((h12.block rb hlt (by simp)).trans hrow)
  have hsf : (w3.setCell ⟨rb, 1, none⟩ (.slice (some ⟨gg, 0, none⟩) (ls.length + 1) cap)).heap.size = w3.heap.size := by simp [World.setCell]
  have hgg := (hown3.lt gg rfl).2
  refine ⟨hrow3, ⟨fun k => T k ∨ (w0.heap.size ≤ k ∧ k < w3.heap.size), ⟨⟨vp, _, ls ++ [x], heap_setCell_same w3 rb 1 _ _ _ hrow3, ?_, ?_, by rw [List.length_append]; exact hM, fun g hg => ⟨(hTp g hg).imp id (fun h => ⟨h, by have := (hp.lt g hg).2; omega⟩), fun e => ?_⟩, fun g hg => ?_⟩, .inl hT, hlo, hN, fun g hg => by rcases hg with hg | hg; have := hbd g hg; omega; omega⟩, fun k hk => hk.imp id (fun h => h.1)⟩, ?_, ?_, ?_, by omega, fun k hk hkT => ?_⟩
  · subst hn
    refine ownsRow_setCell_below ?_ (by show rb < _; exact hlo) _
    have h2 := hp.kept h12 (by cases hv : vp.ownBlock <;> simp)
    exact h2.kept hgrow (by
      cases hv : vp.ownBlock with
      | none => exact .inl rfl
      | some g => exact .inr (fun e => hd g hv e.symm))
  · refine ownsRow_setCell_below ?_ (by show rb < _; exact hlo) _
    rw [List.length_append, cellsPr_append]
    exact hown3
  · have e : gg = g := Option.some.inj e
    subst e
    rcases hat with h | h
    · exact hd gg hg h
    · have := (hp.lt gg hg).2
      omega
  · have e : gg = g := Option.some.inj hg
    rw [← e]
    rcases hat with h | h
    · exact (hTl gg h).imp id (fun h => ⟨h, hgg⟩)
    · exact .inr ⟨by omega, hgg⟩
  · exact hgrow.os.trans (h12.os.trans o1)
  · exact hgrow.tape.trans (h12.tape.trans o2)
  · exact hgrow.output.trans (h12.output.trans o3)
  · rw [heap_setCell_other w3 ⟨rb, 1, none⟩ k _ (fun e => hkT (by have e : k = rb := e; rw [e]; exact hT)), hgrow.block k (by omega) (fun e => by
      rcases hTl k e.symm with h | h
      · exact hkT h
      · omega), h12.block k (by omega) (by simp)]
    exact o5 k hk hkT
theorem prs_app {w w2 w3 : World} {rb B n gg cap : Nat} {vp vl : Value} {ps : List Pr} {xs : List Value} {x : Pr} (hrow : w.heap[rb]? = some (.cells #[vp, vl] 86 (0, 0)))
    (hp : w.ownsRow B 87 3 vp ps.length (cellsPr ps)) (hl : w.ownsRow B 87 3 vl n xs) (hd : ∀ g, vp.ownBlock = some g → vl.ownBlock ≠ some g) (h12 : w.grownBy w2 none)
    (hown3 : w3.ownsRow B 87 3 (.slice (some ⟨gg, 0, none⟩) (ps.length + 1) cap) (ps.length + 1) (cellsPr ps ++ [.string x.1, .string x.2.1, .bool x.2.2])) (hgrow : w2.grownBy w3 vp.ownBlock) (hat : vp.ownBlock = some gg ∨ gg = w2.heap.size) (hlo : rb < B) :
    w3.heap[rb]? = some (.cells #[vp, vl] 86 (0, 0)) ∧ (w3.setCell ⟨rb, 0, none⟩ (.slice (some ⟨gg, 0, none⟩) (ps.length + 1) cap)).heap[rb]? = some (.cells #[.slice (some ⟨gg, 0, none⟩) (ps.length + 1) cap, vl] 86 (0, 0)) ∧
    (w3.setCell ⟨rb, 0, none⟩ (.slice (some ⟨gg, 0, none⟩) (ps.length + 1) cap)).ownsRow B 87 3 (.slice (some ⟨gg, 0, none⟩) (ps.length + 1) cap) (ps.length + 1) (cellsPr (ps ++ [x])) ∧
    (w3.setCell ⟨rb, 0, none⟩ (.slice (some ⟨gg, 0, none⟩) (ps.length + 1) cap)).ownsRow B 87 3 vl n xs ∧ (vl.ownBlock ≠ some gg) ∧ w.heap.size ≤ (w3.setCell ⟨rb, 0, none⟩ (.slice (some ⟨gg, 0, none⟩) (ps.length + 1) cap)).heap.size ∧
    (∀ k, k < w.heap.size → k ≠ rb → vp.ownBlock ≠ some k → (w3.setCell ⟨rb, 0, none⟩ (.slice (some ⟨gg, 0, none⟩) (ps.length + 1) cap)).heap[k]? = w.heap[k]?) := by
  have hlt := (Array.getElem?_eq_some_iff.1 hrow).1
  have hs := h12.size
  have hs3 := hgrow.size
  have hne : some rb ≠ vp.ownBlock := fun e => by have := (hp.lt rb e.symm).1; omega
  have hrow3 : w3.heap[rb]? = some (.cells #[vp, vl] 86 (0, 0)) := (hgrow.block rb (by omega) hne).trans ((h12.block rb hlt (by simp)).trans hrow)
  have hsz : (w3.setCell ⟨rb, 0, none⟩ (.slice (some ⟨gg, 0, none⟩) (ps.length + 1) cap)).heap.size = w3.heap.size := by simp [World.setCell]
  refine ⟨hrow3, heap_setCell_same w3 rb 0 _ _ _ hrow3, ?_, ?_, fun e => ?_, by omega, fun k hk h1 h2 => ?_⟩
  · refine ownsRow_setCell_below ?_ (by show rb < _; exact hlo) _
    rw [cellsPr_append]
    exact hown3
  · refine ownsRow_setCell_below ?_ (by show rb < _; exact hlo) _
    have h2 := hl.kept h12 (by cases hv : vl.ownBlock <;> simp)
    exact h2.kept hgrow (by
      cases hv : vl.ownBlock with
      | none => exact .inl rfl
      | some g => exact .inr (fun e => hd g e.symm hv))
  · rcases hat with h | h
    · exact hd gg h e
    · have := (hl.lt gg e).2
      omega
  · rw [heap_setCell_other w3 ⟨rb, 0, none⟩ k _ (fun e => h1 e), hgrow.block k (by omega) (fun e => h2 e.symm), h12.block k (by omega) (by simp)]

set_option maxHeartbeats 8000000 in
set_option maxRecDepth 100000 in
theorem rSet_any (nm v : ByteArray) (rb B : Nat) (ps : List Pr) (N : Nat) (T : Nat → Prop) (w : World) (h : RTab w rb B ps N T) (hN : N ≤ 1000000) (hBw : B ≤ w.heap.size) :
    Calls Tryz.prog 76 #[.pointer (some ⟨rb, 0, none⟩), .string nm, .string v] w fun e w' => match setP ps nm v with
      | none => e = .returned (.int .i64 26) ∧ w' = w
      | some qs => e = .returned (.int .i64 0) ∧ RMove w w' rb B qs (N + 1) T := by
  obtain ⟨i0, hi, hz0, hz1, hz2⟩ := info_parts infoRPair
  obtain ⟨⟨vp, vl, ls, hr, hown, hlog, hln, hTp, hTl⟩, hTb, hlo, hpn, hbd⟩ := h
  have hp := prS_own hown rfl hlo
  obtain ⟨A, c, rfl, hc, hcm⟩ := hp.form
  have hpl := prS_own hlog rfl hlo
  obtain ⟨AL, cL, rfl, hcL, hcLm⟩ := hpl.form
  unfold maxLen at hcm hcLm
  have q0 : w.cell? ⟨rb, 0, none⟩ = some (.slice A ps.length c) := by rw [cell_of_row w _ _ _ _ _ hr]; rfl
  have q1 : w.cell? ⟨rb, 1, none⟩ = some (.slice AL ls.length cL) := by rw [cell_of_row w _ _ _ _ _ hr]; rfl
  obtain ⟨R, hR⟩ : ∃ R, setP ps nm v = R := ⟨_, rfl⟩
  rw [hR]
  unfold setP firstP at hR
  obtain ⟨PL, hPL⟩ : ∃ PL, ps.length = PL := ⟨_, rfl⟩
  obtain ⟨LL, hLL⟩ : ∃ LL, ls.length = LL := ⟨_, rfl⟩
  rw [hPL] at hp hc q0 hr hown hTp hpn
  rw [hLL] at hlog hcL q1 hr hTp hTl hln
  replace hp := Lib.hid hp
  replace hR := Lib.hid hR
  replace hPL := Lib.hid hPL
  replace hLL := Lib.hid hLL
  replace hr := Lib.hid hr
  replace hown := Lib.hid hown
  replace hlo1 := Lib.hid hlog
  replace hTp := Lib.hid hTp
  replace hTl := Lib.hid hTl
  clear hlog hpl
  have hrl : rb < w.heap.size := by have := (Array.getElem?_eq_some_iff.1 hr.out).1; exact this
  go_enter Tryz.func76, Tryz.ntmps76
  go_wp2
  go_loopw [7] (fun nv wr => ∃ m : Nat, m ≤ PL ∧ nv = .int .i64 (m : Int) ∧ wr = w ∧ Hid (∀ i (hi : i < ps.length), i < m → (ps[i].1.toList == nm.toList) = false)) (fun nv _ => PL - (intOf nv).toNat)
  case atStart => exact ⟨0, Nat.zero_le _, rfl, rfl, fun _ _ h => absurd h (Nat.not_lt_zero _)⟩
  case round =>
    obtain ⟨m, hm, rfl, rfl, hno⟩ := hrel
    by_cases hlt : m < PL
    · have hlt' : m < ps.length := by rw [hPL.out]; exact hlt
      obtain ⟨b, off, rfl, hbl, hbr, c0, c1, c2⟩ := hp.out.at_ m hlt'
      obtain ⟨x0, x1, x2, hx⟩ : ∃ x0 x1 x2, ps[m] = (x0, x1, x2) := ⟨_, _, _, rfl⟩
      rw [hx] at c0 c1 c2
      simp only at c0 c1 c2
      cases hb : (x0.toList == nm.toList) with
      | true =>
        have hRr : R = if x2 then none else some (ps.set m (x0, v, x2)) := by
          rw [← hR.out]
          have h1 : ps.findIdx? (fun p => p.1.toList == nm.toList) = some m := by
            rw [List.findIdx?_eq_some_iff_getElem]
            exact ⟨hlt', by rw [hx]; exact hb, fun j hj => by rw [hno.out j (by omega) hj]; simp⟩
          rw [h1]
          simp only [List.getElem?_eq_getElem hlt', hx]
        cases x2 with
        | true =>
          simp only [if_true] at hRr
          subst hRr
          clear hR hno hx
          go_wp2
          go_ret
          exact ⟨rfl, rfl⟩
        | false =>
          simp only [Bool.false_eq_true, if_false] at hRr
          subst hRr
          have hoff : off = 0 := by
            rcases hown.out.2 with ⟨h, _⟩ | ⟨g', cap', cur, h, _⟩
            · cases h
            · simp only [Value.slice.injEq, Option.some.injEq, Addr.mk.injEq] at h
              exact h.1.2.1
          subst hoff
          simp only [Nat.zero_add] at c0 c1 c2
          have kf := hown.out.frozenAt (m * 3 + 1)
          obtain ⟨h5, h6⟩ := hown.out.stored (m * 3 + 1) (.string v)
          have hset := cellsPr_set ps m hlt' v
          rw [hx] at hset
          simp only at hset
          rw [← hset] at h5
          have hTb2 := hTp.out b rfl
          have hlog5 : (wr.setCell ⟨b, m * 3 + 1, none⟩ (.string v)).ownsRow B 87 3 (.slice AL LL cL) LL (cellsPr ls) := hlo1.out.kept h6 (by
            cases hv : (Value.slice AL LL cL).ownBlock with
            | none => exact .inl rfl
            | some g => exact .inr (fun e => hTb2.2 (hv.trans e)))
          have hr5 : (wr.setCell ⟨b, m * 3 + 1, none⟩ (.string v)).heap[rb]? = some (.cells #[.slice (some ⟨b, 0, none⟩) PL c, .slice AL LL cL] 86 (0, 0)) := (h6.block rb hrl (by simp; omega)).trans hr.out
          have q15 : (wr.setCell ⟨b, m * 3 + 1, none⟩ (.string v)).cell? ⟨rb, 1, none⟩ = some (.slice AL LL cL) := by rw [cell_of_row _ _ _ _ _ _ hr5]; rfl
          have hsz5 : (wr.setCell ⟨b, m * 3 + 1, none⟩ (.string v)).heap.size = wr.heap.size := by simp [World.setCell]
          replace hlo1 := Lib.hid hlog5
          replace hr5 := Lib.hid hr5
          replace h5 := Lib.hid h5
          replace h6 := Lib.hid h6
          replace hsz5 := Lib.hid hsz5
          clear hset hx hR hno hlog5
          go_upto_region 8 with fail
          generalize hw5 : wr.setCell ⟨b, m * 3 + 1, none⟩ (.string v) = w5 at *
          clear c2 c0 c1 kf q0 q1
          have hBw5 : B ≤ w5.heap.size := by rw [hsz5.out]; exact hBw
          go_wp2_with (at_builtin; refine wpList_append_lies _ rfl (.tmp 47) (.tmp 51) 84 rfl B 87 i0 _ 3 40 Tryz.underlying84 hi hz0 hz1 hz2 rfl (by decide) (.slice AL LL cL) LL (cellsPr ls) rfl (hlo1.out.alloc _) ⟨w5.heap.size, 0, none⟩ 1 1 [.string nm, .string v, .bool false] rfl rfl (new_cells w5 _ _) (by simp [Value.oneCell']) (by decide) (by simp only [maxLen]; omega) (by omega) (by simp; omega) (w5.heap.size + 1) (by simp) ?_)
          intro gg capg w3 hown3 hgrow hat hlt3
          have hl5 : w5.ownsRow B 87 3 (.slice AL LL cL) ls.length (cellsPr ls) := by rw [hLL.out]; exact hlo1.out
          rw [← hLL.out] at hown3
          obtain ⟨hr3, hmv⟩ := rmove_log (w0 := wr) (N := N + 1) (T := T) (x := (nm, v, false)) hr5.out h5.out (by rw [List.length_set, hPL.out]) hl5 (fun g hg => (hTp.out g hg).2) (World.grownBy_alloc w5 _ none) hown3 hgrow (by simpa using hat) hlo hTb (fun g hg => .inl (hTp.out g hg).1) (fun g hg => .inl (hTl.out g hg)) (by rw [List.length_set, hPL.out]; omega) (by rw [hLL.out]; omega) hbd
            ⟨h6.out.os, h6.out.tape, h6.out.output, by rw [hsz5.out]; exact Nat.le_refl _, fun k hk hkT => h6.out.block k hk (fun e => hkT (by have e := Option.some.inj e; rw [e]; exact hTb2.1))⟩
          have d1 : w3.cell? ⟨rb, 1, none⟩ = some (.slice AL LL cL) := by rw [cell_of_row w3 _ _ _ _ _ hr3]; rfl
          have f1 : w3.frozen? ⟨rb, 1, none⟩ = false := frozen_of_row w3 _ _ _ _ hr3
          rw [hLL.out] at hmv
          replace hmv := Lib.hid hmv
          clear hown3 hgrow hat hr3 hl5 q15 hi hz0 hz1 hz2
          go_wp2
          go_ret
          exact ⟨rfl, hmv.out⟩
      | false =>
        have hno2 : Hid (∀ i (hi : i < ps.length), i < m + 1 → (ps[i].1.toList == nm.toList) = false) := fun i hi h => by
          rcases Nat.lt_or_ge i m with h' | h'
          · exact hno.out i hi h'
          · obtain rfl : i = m := by omega
            rw [hx]; exact hb
        clear hno hx
        go_wp2
        go_roundw
        case rel => exact ⟨m + 1, by omega, by go_num, trivial, hno2⟩
        case measure => simp [intOf]; omega
    · obtain rfl : m = PL := by omega
      have hRr : R = some (ps ++ [(nm, v, false)]) := by
        rw [← hR.out]
        have h1 : ps.findIdx? (fun p => p.1.toList == nm.toList) = none := by
          rw [List.findIdx?_eq_none_iff]
          intro x hx
          obtain ⟨i, hi, rfl⟩ := List.getElem_of_mem hx
          exact hno.out i hi (by have := hPL.out; omega)
        rw [h1]
      subst hRr
      clear hR hno
      go_wp2_with (at_builtin; refine wpList_append_lies _ rfl (.tmp 59) (.tmp 63) 84 rfl B 87 i0 _ 3 40 Tryz.underlying84 hi hz0 hz1 hz2 rfl (by decide) (.slice A m c) m (cellsPr ps) rfl (hown.out.alloc _) ⟨wr.heap.size, 0, none⟩ 1 1 [.string nm, .string v, .bool false] rfl rfl (new_cells wr _ _) (by simp [Value.oneCell']) (by decide) (by simp only [maxLen]; omega) (by omega) (by simp; omega) (wr.heap.size + 1) (by simp) ?_)
      intro gg capg w3 hown3 hgrow hat hlt3
      have hp5 : wr.ownsRow B 87 3 (.slice A m c) ps.length (cellsPr ps) := by rw [hPL.out]; exact hown.out
      rw [← hPL.out] at hown3
      obtain ⟨hr3, hr4, hp4, hl4, hd4, hs4, hk4⟩ := prs_app (x := (nm, v, false)) hr.out hp5 hlo1.out (fun g hg => (hTp.out g hg).2) (World.grownBy_alloc wr _ none) hown3 hgrow (by simpa using hat) hlo
      have hos4 : w3.os = wr.os ∧ w3.tape = wr.tape ∧ w3.output = wr.output := ⟨hgrow.os, hgrow.tape, hgrow.output⟩
      have d0 : w3.cell? ⟨rb, 0, none⟩ = some (.slice A m c) := by rw [cell_of_row w3 _ _ _ _ _ hr3]; rfl
      have f0 : w3.frozen? ⟨rb, 0, none⟩ = false := frozen_of_row w3 _ _ _ _ hr3
      have hTg : T gg ∨ wr.heap.size ≤ gg := by
        rcases hat with h | h
        · exact .inl (hTp.out gg h).1
        · exact .inr (by omega)
      rw [hPL.out] at hr4 hp4 hl4 hs4 hk4
      have d1 : (w3.setCell ⟨rb, 0, none⟩ (.slice (some ⟨gg, 0, none⟩) (m + 1) capg)).cell? ⟨rb, 1, none⟩ = some (.slice AL LL cL) := by rw [cell_of_row _ _ _ _ _ _ hr4]; rfl
      replace hr4 := Lib.hid hr4
      replace hp4 := Lib.hid hp4
      replace hlo1 := Lib.hid hl4
      replace hk4 := Lib.hid hk4
      replace hTg := Lib.hid hTg
      replace hos4 := Lib.hid hos4
      replace hd4 := Lib.hid hd4
      clear hown3 hgrow hat hr3 hp5 hl4 q0 q1
      go_upto_region 11 with fail
      generalize hw4 : w3.setCell ⟨rb, 0, none⟩ (.slice (some ⟨gg, 0, none⟩) (m + 1) capg) = w4 at *
      have hos5 : w4.os = wr.os ∧ w4.tape = wr.tape ∧ w4.output = wr.output := by rw [← hw4]; exact hos4.out
      clear hw4 d0 f0
      obtain ⟨g1, hg1⟩ : ∃ g, gg = g := ⟨_, rfl⟩
      obtain ⟨cp1, hcp1⟩ : ∃ c, capg = c := ⟨_, rfl⟩
      rw [hg1] at hTg hd4
      rw [hg1, hcp1] at hr4 hp4
      replace hos5 := Lib.hid hos5
      go_wp2_with (at_builtin; refine wpList_append_lies _ rfl (.tmp 71) (.tmp 75) 84 rfl B 87 i0 _ 3 40 Tryz.underlying84 hi hz0 hz1 hz2 rfl (by decide) (.slice AL LL cL) LL (cellsPr ls) rfl (hlo1.out.alloc _) ⟨w4.heap.size, 0, none⟩ 1 1 [.string nm, .string v, .bool false] rfl rfl (new_cells w4 _ _) (by simp [Value.oneCell']) (by decide) (by simp only [maxLen]; omega) (by omega) (by simp; omega) (w4.heap.size + 1) (by simp) ?_)
      intro gg capg w3 hown3 hgrow hat hlt3
      have hl5 : w4.ownsRow B 87 3 (.slice AL LL cL) ls.length (cellsPr ls) := by rw [hLL.out]; exact hlo1.out
      rw [← hLL.out] at hown3
      obtain ⟨hr3, hmv⟩ := rmove_log (w0 := wr) (N := N + 1) (T := T) (x := (nm, v, false)) hr4.out hp4.out (by rw [List.length_append, hPL.out]; rfl) hl5 (fun g hg => by have e : g1 = g := Option.some.inj hg; rw [← e]; exact hd4.out) (World.grownBy_alloc w4 _ none) hown3 hgrow (by simpa using hat) hlo hTb (fun g hg => by have e : g1 = g := Option.some.inj hg; rw [← e]; exact hTg.out) (fun g hg => .inl (hTl.out g hg)) (by rw [List.length_append, hPL.out]; simp; omega) (by rw [hLL.out]; omega) hbd
        ⟨hos5.out.1, hos5.out.2.1, hos5.out.2.2, hs4, fun k hk hkT => hk4.out k hk (fun e => hkT (by rw [e]; exact hTb)) (fun e => hkT (hTp.out k e).1)⟩
      have e1 : w3.cell? ⟨rb, 1, none⟩ = some (.slice AL LL cL) := by rw [cell_of_row w3 _ _ _ _ _ hr3]; rfl
      have f1 : w3.frozen? ⟨rb, 1, none⟩ = false := frozen_of_row w3 _ _ _ _ hr3
      rw [hLL.out] at hmv
      replace hmv := Lib.hid hmv
      clear hown3 hgrow hat hr3 hl5 d1 hi hz0 hz1 hz2
      go_wp2
      go_ret
      exact ⟨rfl, hmv.out⟩

section
variable {w w1 w2 : World} {rb B : Nat} {ps qs : List Pr} {N M : Nat} {T T1 : Nat → Prop}
theorem RMove.pre (hg : w.grownBy w1 none) (h : RMove w1 w2 rb B qs N T) : RMove w w2 rb B qs N T := by
  obtain ⟨⟨T', h1, h2⟩, a, b, c, d, e⟩ := h
  have hs := hg.size
  exact ⟨⟨T', h1, fun k hk => (h2 k hk).imp id (fun h => by omega)⟩, a.trans hg.os, b.trans hg.tape, c.trans hg.output, by omega, fun k hk hT => (e k (by omega) hT).trans (hg.block k hk (by simp))⟩
theorem RMove.post (h : RMove w w1 rb B qs N T) (hg : w1.grownBy w2 none) : RMove w w2 rb B qs N T := by
  obtain ⟨⟨T', h1, h2⟩, a, b, c, d, e⟩ := h
  have hs := hg.size
  exact ⟨⟨T', h1.grown hg, h2⟩, hg.os.trans a, hg.tape.trans b, hg.output.trans c, by omega, fun k hk hT => (hg.block k (by omega) (by simp)).trans (e k hk hT)⟩
theorem RMove.still (h : RTab w rb B ps N T) (hg : w.grownBy w1 none) (hm : N ≤ M) : RMove w w1 rb B ps M T :=
  ⟨⟨T, (h.grown hg).mono hm, fun _ hk => .inl hk⟩, hg.os, hg.tape, hg.output, hg.size, fun k hk _ => hg.block k hk (by simp)⟩
theorem RMove.more (h : RMove w w1 rb B qs N T) (hm : N ≤ M) : RMove w w1 rb B qs M T := by
  obtain ⟨T', h1, h2⟩ := h.tab
  exact ⟨⟨T', h1.mono hm, h2⟩, h.os, h.tape, h.output, h.size, h.block⟩
theorem RMove.then (h : RMove w w1 rb B ps M T) (hT : ∀ k, T1 k → T k ∨ w.heap.size ≤ k) (h2 : RMove w1 w2 rb B qs N T1) : RMove w w2 rb B qs N T := by
  obtain ⟨_, a, b, c, d, e⟩ := h
  obtain ⟨⟨T', t1, t2⟩, a2, b2, c2, d2, e2⟩ := h2
  refine ⟨⟨T', t1, fun k hk => ?_⟩, a2.trans a, b2.trans b, c2.trans c, by omega, fun k hk hk2 => (e2 k (by omega) (fun h => (hT k h).elim hk2 (fun h => by omega))).trans (e k hk hk2)⟩
  rcases t2 k hk with h | h
  · exact hT k h
  · exact .inr (by omega)
end
end Go.Proofs.YtlijlgbaikijnaaGreatDoor
