/-
  SumsWrap answers true. Conditions: the table of powers of ten holds them.
-/
import Derived.Test.YtlijlgbaikijnaaDoorSmVal3
import Derived.OrdersHeld
import Derived.Deep.SlicePairs
namespace Go.Proofs.YtlijlgbaikijnaaDoor
open Go Go.RowKit

/-- A text that is parsed as an expression over a, b and c, and what it comes to. -/
def WOk (a b c : Int) (s : List UInt8) (o : Option Int) : Prop := ∃ (x : E) (N : Nat) (t : Th), okX abcN 200 x = true ∧ dpLe 200 x = true ∧ sizeE x ≤ 100 ∧ NumE x ∧ parseP N s = .ok x t ∧ valX (abcG a b c) 200 x = o
theorem wok_val {a b c : Int} {o : Option Int} (s : ByteArray) (h : WOk a b c (tl s) o) (hs : s.size ≤ 4096) (ha : InR a) (hb : InR b) (hc : InR c) (w : World) (ht : Tab w) :
    Calls Tryd.prog 5 #[.string s, .agg #[.int .i64 a, .int .i64 b, .int .i64 c]] w fun e w' => e = .returned (.tuple #[.int .i64 (valR0 o), .int .i64 (valR1 o)]) ∧ w.grownBy w' none := by
  obtain ⟨x, N, t, h1, h2, h3, h4, h5, h6⟩ := h
  rw [← h6]
  exact val_any h1 h2 h3 h4 s h5 hs a b c ha hb hc w ht
section
set_option maxRecDepth 100000
theorem wl0 (a b c : Int) : WOk a b c [97, 43, 98] (some (wrap64 (a + b))) :=
  ⟨.mk [43] 0 [] [.mk [110, 97, 109, 101] 0 [97] [], .mk [110, 97, 109, 101] 0 [98] []], 60, ⟨0, [], 0, 3⟩, by kernel_rfl, by kernel_rfl, by decide, by simp [NumE, NumL, InR], by kernel_rfl, by kernel_rfl⟩
theorem wr0 (a b c : Int) : WOk a b c [98, 43, 97] (some (wrap64 (b + a))) :=
  ⟨.mk [43] 0 [] [.mk [110, 97, 109, 101] 0 [98] [], .mk [110, 97, 109, 101] 0 [97] []], 60, ⟨0, [], 0, 3⟩, by kernel_rfl, by kernel_rfl, by decide, by simp [NumE, NumL, InR], by kernel_rfl, by kernel_rfl⟩
theorem wl1 (a b c : Int) : WOk a b c [97, 42, 98] (some (wrap64 (a * b))) :=
  ⟨.mk [42] 0 [] [.mk [110, 97, 109, 101] 0 [97] [], .mk [110, 97, 109, 101] 0 [98] []], 60, ⟨0, [], 0, 3⟩, by kernel_rfl, by kernel_rfl, by decide, by simp [NumE, NumL, InR], by kernel_rfl, by kernel_rfl⟩
theorem wr1 (a b c : Int) : WOk a b c [98, 42, 97] (some (wrap64 (b * a))) :=
  ⟨.mk [42] 0 [] [.mk [110, 97, 109, 101] 0 [98] [], .mk [110, 97, 109, 101] 0 [97] []], 60, ⟨0, [], 0, 3⟩, by kernel_rfl, by kernel_rfl, by decide, by simp [NumE, NumL, InR], by kernel_rfl, by kernel_rfl⟩
theorem wl2 (a b c : Int) : WOk a b c [40, 97, 43, 98, 41, 43, 99] (some (wrap64 ((wrap64 (a + b)) + c))) :=
  ⟨.mk [43] 0 [] [.mk [43] 0 [] [.mk [110, 97, 109, 101] 0 [97] [], .mk [110, 97, 109, 101] 0 [98] []], .mk [110, 97, 109, 101] 0 [99] []], 60, ⟨0, [], 0, 7⟩, by kernel_rfl, by kernel_rfl, by decide, by simp [NumE, NumL, InR], by kernel_rfl, by kernel_rfl⟩
theorem wr2 (a b c : Int) : WOk a b c [97, 43, 40, 98, 43, 99, 41] (some (wrap64 (a + (wrap64 (b + c))))) :=
  ⟨.mk [43] 0 [] [.mk [110, 97, 109, 101] 0 [97] [], .mk [43] 0 [] [.mk [110, 97, 109, 101] 0 [98] [], .mk [110, 97, 109, 101] 0 [99] []]], 60, ⟨0, [], 0, 7⟩, by kernel_rfl, by kernel_rfl, by decide, by simp [NumE, NumL, InR], by kernel_rfl, by kernel_rfl⟩
theorem wl3 (a b c : Int) : WOk a b c [97, 42, 98, 42, 99] (some (wrap64 ((wrap64 (a * b)) * c))) :=
  ⟨.mk [42] 0 [] [.mk [42] 0 [] [.mk [110, 97, 109, 101] 0 [97] [], .mk [110, 97, 109, 101] 0 [98] []], .mk [110, 97, 109, 101] 0 [99] []], 60, ⟨0, [], 0, 5⟩, by kernel_rfl, by kernel_rfl, by decide, by simp [NumE, NumL, InR], by kernel_rfl, by kernel_rfl⟩
theorem wr3 (a b c : Int) : WOk a b c [97, 42, 40, 98, 42, 99, 41] (some (wrap64 (a * (wrap64 (b * c))))) :=
  ⟨.mk [42] 0 [] [.mk [110, 97, 109, 101] 0 [97] [], .mk [42] 0 [] [.mk [110, 97, 109, 101] 0 [98] [], .mk [110, 97, 109, 101] 0 [99] []]], 60, ⟨0, [], 0, 7⟩, by kernel_rfl, by kernel_rfl, by decide, by simp [NumE, NumL, InR], by kernel_rfl, by kernel_rfl⟩
theorem wl4 (a b c : Int) : WOk a b c [97, 42, 40, 98, 43, 99, 41] (some (wrap64 (a * (wrap64 (b + c))))) :=
  ⟨.mk [42] 0 [] [.mk [110, 97, 109, 101] 0 [97] [], .mk [43] 0 [] [.mk [110, 97, 109, 101] 0 [98] [], .mk [110, 97, 109, 101] 0 [99] []]], 60, ⟨0, [], 0, 7⟩, by kernel_rfl, by kernel_rfl, by decide, by simp [NumE, NumL, InR], by kernel_rfl, by kernel_rfl⟩
theorem wr4 (a b c : Int) : WOk a b c [97, 42, 98, 43, 97, 42, 99] (some (wrap64 ((wrap64 (a * b)) + (wrap64 (a * c))))) :=
  ⟨.mk [43] 0 [] [.mk [42] 0 [] [.mk [110, 97, 109, 101] 0 [97] [], .mk [110, 97, 109, 101] 0 [98] []], .mk [42] 0 [] [.mk [110, 97, 109, 101] 0 [97] [], .mk [110, 97, 109, 101] 0 [99] []]], 60, ⟨0, [], 0, 7⟩, by kernel_rfl, by kernel_rfl, by decide, by simp [NumE, NumL, InR], by kernel_rfl, by kernel_rfl⟩
theorem wl5 (a b c : Int) : WOk a b c [97, 45, 98, 43, 98] (some (wrap64 ((wrap64 (a - b)) + b))) :=
  ⟨.mk [43] 0 [] [.mk [45] 0 [] [.mk [110, 97, 109, 101] 0 [97] [], .mk [110, 97, 109, 101] 0 [98] []], .mk [110, 97, 109, 101] 0 [98] []], 60, ⟨0, [], 0, 5⟩, by kernel_rfl, by kernel_rfl, by decide, by simp [NumE, NumL, InR], by kernel_rfl, by kernel_rfl⟩
theorem wr5 (a b c : Int) : WOk a b c [97] (some (a)) :=
  ⟨.mk [110, 97, 109, 101] 0 [97] [], 60, ⟨0, [], 0, 1⟩, by kernel_rfl, by kernel_rfl, by decide, by simp [NumE, NumL, InR], by kernel_rfl, by kernel_rfl⟩
theorem wl6 (a b c : Int) : WOk a b c [126, 97] (some (bits BinOp.xor IntKind.i64 (-1) a)) :=
  ⟨.mk [99, 111, 109] 0 [] [.mk [110, 97, 109, 101] 0 [97] []], 60, ⟨0, [], 0, 2⟩, by kernel_rfl, by kernel_rfl, by decide, by simp [NumE, NumL, InR], by kernel_rfl, by kernel_rfl⟩
theorem wr6 (a b c : Int) : WOk a b c [45, 97, 45, 49] (some (wrap64 ((wrap64 (-a)) - 1))) :=
  ⟨.mk [45] 0 [] [.mk [110, 101, 103] 0 [] [.mk [110, 97, 109, 101] 0 [97] []], .mk [110, 117, 109] 1 [] []], 60, ⟨0, [], 0, 4⟩, by kernel_rfl, by kernel_rfl, by decide, by simp [NumE, NumL, InR], by kernel_rfl, by kernel_rfl⟩
theorem wl7 (a b c : Int) : WOk a b c [97, 94, 98, 94, 98] (some (bits BinOp.xor IntKind.i64 (bits BinOp.xor IntKind.i64 a b) b)) :=
  ⟨.mk [94] 0 [] [.mk [94] 0 [] [.mk [110, 97, 109, 101] 0 [97] [], .mk [110, 97, 109, 101] 0 [98] []], .mk [110, 97, 109, 101] 0 [98] []], 60, ⟨0, [], 0, 5⟩, by kernel_rfl, by kernel_rfl, by decide, by simp [NumE, NumL, InR], by kernel_rfl, by kernel_rfl⟩
theorem wr7 (a b c : Int) : WOk a b c [97] (some (a)) :=
  ⟨.mk [110, 97, 109, 101] 0 [97] [], 60, ⟨0, [], 0, 1⟩, by kernel_rfl, by kernel_rfl, by decide, by simp [NumE, NumL, InR], by kernel_rfl, by kernel_rfl⟩
theorem wl8 (a b c : Int) : WOk a b c [40, 97, 38, 98, 41, 43, 40, 97, 124, 98, 41] (some (wrap64 ((bits BinOp.and IntKind.i64 a b) + (bits BinOp.or IntKind.i64 a b)))) :=
  ⟨.mk [43] 0 [] [.mk [38] 0 [] [.mk [110, 97, 109, 101] 0 [97] [], .mk [110, 97, 109, 101] 0 [98] []], .mk [124] 0 [] [.mk [110, 97, 109, 101] 0 [97] [], .mk [110, 97, 109, 101] 0 [98] []]], 60, ⟨0, [], 0, 11⟩, by kernel_rfl, by kernel_rfl, by decide, by simp [NumE, NumL, InR], by kernel_rfl, by kernel_rfl⟩
theorem wr8 (a b c : Int) : WOk a b c [97, 43, 98] (some (wrap64 (a + b))) :=
  ⟨.mk [43] 0 [] [.mk [110, 97, 109, 101] 0 [97] [], .mk [110, 97, 109, 101] 0 [98] []], 60, ⟨0, [], 0, 3⟩, by kernel_rfl, by kernel_rfl, by decide, by simp [NumE, NumL, InR], by kernel_rfl, by kernel_rfl⟩
theorem wl9 (a b c : Int) : WOk a b c [33, 97] (some (truthI (a == 0))) :=
  ⟨.mk [110, 111, 116] 0 [] [.mk [110, 97, 109, 101] 0 [97] []], 60, ⟨0, [], 0, 2⟩, by kernel_rfl, by kernel_rfl, by decide, by simp [NumE, NumL, InR], by kernel_rfl, by kernel_rfl⟩
theorem wr9 (a b c : Int) : WOk a b c [97, 61, 61, 48] (some (truthI (a == 0))) :=
  ⟨.mk [61, 61] 0 [] [.mk [110, 97, 109, 101] 0 [97] [], .mk [110, 117, 109] 0 [] []], 60, ⟨0, [], 0, 4⟩, by kernel_rfl, by kernel_rfl, by decide, by simp [NumE, NumL, InR], by kernel_rfl, by kernel_rfl⟩
theorem wl10 (a b c : Int) : WOk a b c [97, 60, 98] (some (truthI (decide (a < b)))) :=
  ⟨.mk [60] 0 [] [.mk [110, 97, 109, 101] 0 [97] [], .mk [110, 97, 109, 101] 0 [98] []], 60, ⟨0, [], 0, 3⟩, by kernel_rfl, by kernel_rfl, by decide, by simp [NumE, NumL, InR], by kernel_rfl, by kernel_rfl⟩
theorem wr10 (a b c : Int) : WOk a b c [98, 62, 97] (some (truthI (decide (a < b)))) :=
  ⟨.mk [62] 0 [] [.mk [110, 97, 109, 101] 0 [98] [], .mk [110, 97, 109, 101] 0 [97] []], 60, ⟨0, [], 0, 3⟩, by kernel_rfl, by kernel_rfl, by decide, by simp [NumE, NumL, InR], by kernel_rfl, by kernel_rfl⟩
theorem wl11 (a b c : Int) : WOk a b c [97, 60, 61, 98] (some (truthI (decide (a ≤ b)))) :=
  ⟨.mk [60, 61] 0 [] [.mk [110, 97, 109, 101] 0 [97] [], .mk [110, 97, 109, 101] 0 [98] []], 60, ⟨0, [], 0, 4⟩, by kernel_rfl, by kernel_rfl, by decide, by simp [NumE, NumL, InR], by kernel_rfl, by kernel_rfl⟩
theorem wr11 (a b c : Int) : WOk a b c [33, 40, 97, 62, 98, 41] (some (truthI (truthI (decide (b < a)) == 0))) :=
  ⟨.mk [110, 111, 116] 0 [] [.mk [62] 0 [] [.mk [110, 97, 109, 101] 0 [97] [], .mk [110, 97, 109, 101] 0 [98] []]], 60, ⟨0, [], 0, 6⟩, by kernel_rfl, by kernel_rfl, by decide, by simp [NumE, NumL, InR], by kernel_rfl, by kernel_rfl⟩
theorem wl12 (a b c : Int) : WOk a b c [97, 60, 60, 49] (some (wrap64 (a * 2 ^ (bits BinOp.and IntKind.i64 1 63).toNat))) :=
  ⟨.mk [60, 60] 0 [] [.mk [110, 97, 109, 101] 0 [97] [], .mk [110, 117, 109] 1 [] []], 60, ⟨0, [], 0, 4⟩, by kernel_rfl, by kernel_rfl, by decide, by simp [NumE, NumL, InR], by kernel_rfl, by kernel_rfl⟩
theorem wr12 (a b c : Int) : WOk a b c [97, 43, 97] (some (wrap64 (a + a))) :=
  ⟨.mk [43] 0 [] [.mk [110, 97, 109, 101] 0 [97] [], .mk [110, 97, 109, 101] 0 [97] []], 60, ⟨0, [], 0, 3⟩, by kernel_rfl, by kernel_rfl, by decide, by simp [NumE, NumL, InR], by kernel_rfl, by kernel_rfl⟩
theorem wl13 (a b c : Int) : WOk a b c [97, 60, 60, 98] (some (wrap64 (a * 2 ^ (bits BinOp.and IntKind.i64 b 63).toNat))) :=
  ⟨.mk [60, 60] 0 [] [.mk [110, 97, 109, 101] 0 [97] [], .mk [110, 97, 109, 101] 0 [98] []], 60, ⟨0, [], 0, 4⟩, by kernel_rfl, by kernel_rfl, by decide, by simp [NumE, NumL, InR], by kernel_rfl, by kernel_rfl⟩
theorem wr13 (a b c : Int) : WOk a b c [97, 60, 60, 40, 98, 38, 54, 51, 41] (some (wrap64 (a * 2 ^ (bits BinOp.and IntKind.i64 (bits BinOp.and IntKind.i64 b 63) 63).toNat))) :=
  ⟨.mk [60, 60] 0 [] [.mk [110, 97, 109, 101] 0 [97] [], .mk [38] 0 [] [.mk [110, 97, 109, 101] 0 [98] [], .mk [110, 117, 109] 63 [] []]], 60, ⟨0, [], 0, 9⟩, by kernel_rfl, by kernel_rfl, by decide, by simp [NumE, NumL, InR], by kernel_rfl, by kernel_rfl⟩
theorem wl14 (a b c : Int) : WOk a b c [97, 63, 98, 58, 99] (if ¬ a = 0 then some b else some c) :=
  ⟨.mk [63] 0 [] [.mk [110, 97, 109, 101] 0 [97] [], .mk [110, 97, 109, 101] 0 [98] [], .mk [110, 97, 109, 101] 0 [99] []], 60, ⟨0, [], 0, 5⟩, by kernel_rfl, by kernel_rfl, by decide, by simp [NumE, NumL, InR], by kernel_rfl, by kernel_rfl⟩
theorem wr14 (a b c : Int) : WOk a b c [40, 97, 33, 61, 48, 41, 42, 98, 43, 40, 97, 61, 61, 48, 41, 42, 99] (some (wrap64 ((wrap64 ((truthI (!(a == 0))) * b)) + (wrap64 ((truthI (a == 0)) * c))))) :=
  ⟨.mk [43] 0 [] [.mk [42] 0 [] [.mk [33, 61] 0 [] [.mk [110, 97, 109, 101] 0 [97] [], .mk [110, 117, 109] 0 [] []], .mk [110, 97, 109, 101] 0 [98] []], .mk [42] 0 [] [.mk [61, 61] 0 [] [.mk [110, 97, 109, 101] 0 [97] [], .mk [110, 117, 109] 0 [] []], .mk [110, 97, 109, 101] 0 [99] []]], 60, ⟨0, [], 0, 17⟩, by kernel_rfl, by kernel_rfl, by decide, by simp [NumE, NumL, InR], by kernel_rfl, by kernel_rfl⟩
theorem wl15 (a b c : Int) : WOk a b c [97, 38, 38, 98] (if ¬ a = 0 then some (truthI (!(b == 0))) else some 0) :=
  ⟨.mk [38, 38] 0 [] [.mk [110, 97, 109, 101] 0 [97] [], .mk [110, 97, 109, 101] 0 [98] []], 60, ⟨0, [], 0, 4⟩, by kernel_rfl, by kernel_rfl, by decide, by simp [NumE, NumL, InR], by kernel_rfl, by kernel_rfl⟩
theorem wr15 (a b c : Int) : WOk a b c [40, 97, 33, 61, 48, 41, 38, 40, 98, 33, 61, 48, 41] (some (bits BinOp.and IntKind.i64 (truthI (!(a == 0))) (truthI (!(b == 0))))) :=
  ⟨.mk [38] 0 [] [.mk [33, 61] 0 [] [.mk [110, 97, 109, 101] 0 [97] [], .mk [110, 117, 109] 0 [] []], .mk [33, 61] 0 [] [.mk [110, 97, 109, 101] 0 [98] [], .mk [110, 117, 109] 0 [] []]], 60, ⟨0, [], 0, 13⟩, by kernel_rfl, by kernel_rfl, by decide, by simp [NumE, NumL, InR], by kernel_rfl, by kernel_rfl⟩
theorem wl16 (a b c : Int) : WOk a b c [97, 124, 124, 98] (if ¬ a = 0 then some 1 else some (truthI (!(b == 0)))) :=
  ⟨.mk [124, 124] 0 [] [.mk [110, 97, 109, 101] 0 [97] [], .mk [110, 97, 109, 101] 0 [98] []], 60, ⟨0, [], 0, 4⟩, by kernel_rfl, by kernel_rfl, by decide, by simp [NumE, NumL, InR], by kernel_rfl, by kernel_rfl⟩
theorem wr16 (a b c : Int) : WOk a b c [33, 40, 33, 97, 38, 33, 98, 41] (some (truthI (bits BinOp.and IntKind.i64 (truthI (a == 0)) (truthI (b == 0)) == 0))) :=
  ⟨.mk [110, 111, 116] 0 [] [.mk [38] 0 [] [.mk [110, 111, 116] 0 [] [.mk [110, 97, 109, 101] 0 [97] []], .mk [110, 111, 116] 0 [] [.mk [110, 97, 109, 101] 0 [98] []]]], 60, ⟨0, [], 0, 8⟩, by kernel_rfl, by kernel_rfl, by decide, by simp [NumE, NumL, InR], by kernel_rfl, by kernel_rfl⟩
theorem wlast (a b c : Int) : WOk a b c [97, 47, 98, 42, 98, 43, 97, 37, 98] (((if b = 0 then none else some (wrap64 (a.tdiv b))).bind fun x => some (wrap64 (x * b))).bind fun x => (if b = 0 then none else some (a.tmod b)).bind fun y => some (wrap64 (x + y))) :=
  ⟨.mk [43] 0 [] [.mk [42] 0 [] [.mk [47] 0 [] [.mk [110, 97, 109, 101] 0 [97] [], .mk [110, 97, 109, 101] 0 [98] []], .mk [110, 97, 109, 101] 0 [98] []], .mk [37] 0 [] [.mk [110, 97, 109, 101] 0 [97] [], .mk [110, 97, 109, 101] 0 [98] []]], 60, ⟨0, [], 0, 9⟩, by kernel_rfl, by kernel_rfl, by decide, by simp [NumE, NumL, InR], by kernel_rfl, by kernel_rfl⟩
end
theorem we0 {a b _c : Int} (_ : InR a) (_ : InR b) : (wrap64 (a + b)) = wrap64 (b + a) := by
  rw [Int.add_comm]
theorem we1 {a b _c : Int} (_ : InR a) (_ : InR b) : (wrap64 (a * b)) = wrap64 (b * a) := by
  rw [Int.mul_comm]
theorem we2 {a b c : Int} (_ : InR a) (_ : InR b) : (wrap64 ((wrap64 (a + b)) + c)) = wrap64 (a + (wrap64 (b + c))) := by
  simp only [wrap64_bv, BitVec.ofInt_add, BitVec.ofInt_toInt, BitVec.add_assoc]
theorem we3 {a b c : Int} (_ : InR a) (_ : InR b) : (wrap64 ((wrap64 (a * b)) * c)) = wrap64 (a * (wrap64 (b * c))) := by
  exact ar_mul3 a b c
theorem we4 {a b c : Int} (_ : InR a) (_ : InR b) : (wrap64 (a * (wrap64 (b + c)))) = wrap64 ((wrap64 (a * b)) + (wrap64 (a * c))) := by
  exact (ar_spread a b c)
theorem we5 {a b _c : Int} (ha : InR a) (_ : InR b) : (wrap64 ((wrap64 (a - b)) + b)) = a := by
  have h : wrap64 (wrap64 (a - b) + b) = wrap64 a := by
    simp only [wrap64_bv, Int.sub_eq_add_neg, BitVec.ofInt_add, BitVec.ofInt_neg, BitVec.ofInt_toInt]
    rw [BitVec.add_assoc, BitVec.add_comm (-BitVec.ofInt 64 b), BitVec.add_right_neg, BitVec.add_zero]
  rw [h, wrap64_id ha]
theorem we6 {a b _c : Int} (ha : InR a) (_ : InR b) : (bits BinOp.xor IntKind.i64 (-1) a) = wrap64 ((wrap64 (-a)) - 1) := by
  exact ar_com ha
theorem we7 {a b _c : Int} (ha : InR a) (hb : InR b) : (bits BinOp.xor IntKind.i64 (bits BinOp.xor IntKind.i64 a b) b) = a := by
  exact ar_xor2 ha hb
theorem we8 {a b _c : Int} (ha : InR a) (hb : InR b) : (wrap64 ((bits BinOp.and IntKind.i64 a b) + (bits BinOp.or IntKind.i64 a b))) = wrap64 (a + b) := by
  exact ar_andor ha hb
theorem we9 {a b _c : Int} (_ : InR a) (_ : InR b) : (truthI (a == 0)) = truthI (a == 0) := by
  rfl
theorem we10 {a b _c : Int} (_ : InR a) (_ : InR b) : (truthI (decide (a < b))) = truthI (decide (a < b)) := by
  rfl
theorem we11 {a b _c : Int} (_ : InR a) (_ : InR b) : (truthI (decide (a ≤ b))) = truthI (truthI (decide (b < a)) == 0) := by
  by_cases h : a ≤ b
  · rw [decide_eq_true h, decide_eq_false (by omega)]; rfl
  · rw [decide_eq_false h, decide_eq_true (by omega)]; rfl
theorem we12 {a b _c : Int} (_ : InR a) (_ : InR b) : (wrap64 (a * 2 ^ (bits BinOp.and IntKind.i64 1 63).toNat)) = wrap64 (a + a) := by
  have h : (bits BinOp.and IntKind.i64 1 63).toNat = 1 := by decide
  rw [h]
  congr 1
  omega
theorem we13 {a b _c : Int} (_ : InR a) (hb : InR b) : (wrap64 (a * 2 ^ (bits BinOp.and IntKind.i64 b 63).toNat)) = wrap64 (a * 2 ^ (bits BinOp.and IntKind.i64 (bits BinOp.and IntKind.i64 b 63) 63).toNat) := by
  rw [ar_63 hb]
theorem we14 {a b c : Int} (ha : InR a) (hb : InR b) (hc : InR c) : (if ¬ a = 0 then some b else some c) = some (wrap64 ((wrap64 ((truthI (!(a == 0))) * b)) + (wrap64 ((truthI (a == 0)) * c)))) := by
  by_cases h : a = 0
  · subst h
    rw [if_neg (by simp)]
    show some c = some (wrap64 (wrap64 (0 * b) + wrap64 (1 * c)))
    have e0 : wrap64 (0 * b) = 0 := by rw [Int.zero_mul]; unfold wrap64; omega
    rw [e0, Int.zero_add, Int.one_mul, wrap64_id (wrap64_in c), wrap64_id hc]
  · have hb0 : (a == 0) = false := by simpa using h
    rw [if_pos h, hb0]
    show some b = some (wrap64 (wrap64 (1 * b) + wrap64 (0 * c)))
    have e0 : wrap64 (0 * c) = 0 := by rw [Int.zero_mul]; unfold wrap64; omega
    rw [e0, Int.add_zero, Int.one_mul, wrap64_id (wrap64_in b), wrap64_id hb]
theorem we15 {a b c : Int} (ha : InR a) (_ : InR b) (_ : InR c) : (if ¬ a = 0 then some (truthI (!(b == 0))) else some 0) = some (bits BinOp.and IntKind.i64 (truthI (!(a == 0))) (truthI (!(b == 0)))) := by
  by_cases h : a = 0
  · subst h
    rw [if_neg (by simp)]
    cases (b == 0) <;> decide
  · have hb0 : (a == 0) = false := by simpa using h
    rw [if_pos h, hb0]
    cases (b == 0) <;> decide
theorem we16 {a b c : Int} (ha : InR a) (_ : InR b) (_ : InR c) : (if ¬ a = 0 then some 1 else some (truthI (!(b == 0)))) = some (truthI (bits BinOp.and IntKind.i64 (truthI (a == 0)) (truthI (b == 0)) == 0)) := by
  by_cases h : a = 0
  · subst h
    rw [if_neg (by simp)]
    cases (b == 0) <;> decide
  · have hb0 : (a == 0) = false := by simpa using h
    rw [if_pos h, hb0]
    cases (b == 0) <;> decide
def wrL : List ByteArray := [⟨#[97, 43, 98]⟩, ⟨#[97, 42, 98]⟩, ⟨#[40, 97, 43, 98, 41, 43, 99]⟩, ⟨#[97, 42, 98, 42, 99]⟩, ⟨#[97, 42, 40, 98, 43, 99, 41]⟩, ⟨#[97, 45, 98, 43, 98]⟩, ⟨#[126, 97]⟩, ⟨#[97, 94, 98, 94, 98]⟩, ⟨#[40, 97, 38, 98, 41, 43, 40, 97, 124, 98, 41]⟩, ⟨#[33, 97]⟩, ⟨#[97, 60, 98]⟩, ⟨#[97, 60, 61, 98]⟩, ⟨#[97, 60, 60, 49]⟩, ⟨#[97, 60, 60, 98]⟩, ⟨#[97, 63, 98, 58, 99]⟩, ⟨#[97, 38, 38, 98]⟩, ⟨#[97, 124, 124, 98]⟩]
def wrR : List ByteArray := [⟨#[98, 43, 97]⟩, ⟨#[98, 42, 97]⟩, ⟨#[97, 43, 40, 98, 43, 99, 41]⟩, ⟨#[97, 42, 40, 98, 42, 99, 41]⟩, ⟨#[97, 42, 98, 43, 97, 42, 99]⟩, ⟨#[97]⟩, ⟨#[45, 97, 45, 49]⟩, ⟨#[97]⟩, ⟨#[97, 43, 98]⟩, ⟨#[97, 61, 61, 48]⟩, ⟨#[98, 62, 97]⟩, ⟨#[33, 40, 97, 62, 98, 41]⟩, ⟨#[97, 43, 97]⟩, ⟨#[97, 60, 60, 40, 98, 38, 54, 51, 41]⟩, ⟨#[40, 97, 33, 61, 48, 41, 42, 98, 43, 40, 97, 61, 61, 48, 41, 42, 99]⟩, ⟨#[40, 97, 33, 61, 48, 41, 38, 40, 98, 33, 61, 48, 41]⟩, ⟨#[33, 40, 33, 97, 38, 33, 98, 41]⟩]
theorem wr_all {a b c : Int} (ha : InR a) (hb : InR b) (hc : InR c) : ∀ i, i < 17 → ∃ (l r : ByteArray) (v : Int), wrL[i]? = some l ∧ wrR[i]? = some r ∧ l.size ≤ 4096 ∧ r.size ≤ 4096 ∧ WOk a b c (tl l) (some v) ∧ WOk a b c (tl r) (some v)
  | 0, _ => ⟨_, _, wrap64 (b + a), rfl, rfl, by decide, by decide, (by have h := wl0 a b c; rw [we0 ha hb (_c := c)] at h; exact h), wr0 a b c⟩
  | 1, _ => ⟨_, _, wrap64 (b * a), rfl, rfl, by decide, by decide, (by have h := wl1 a b c; rw [we1 ha hb (_c := c)] at h; exact h), wr1 a b c⟩
  | 2, _ => ⟨_, _, wrap64 (a + (wrap64 (b + c))), rfl, rfl, by decide, by decide, (by have h := wl2 a b c; rw [we2 ha hb (c := c)] at h; exact h), wr2 a b c⟩
  | 3, _ => ⟨_, _, wrap64 (a * (wrap64 (b * c))), rfl, rfl, by decide, by decide, (by have h := wl3 a b c; rw [we3 ha hb (c := c)] at h; exact h), wr3 a b c⟩
  | 4, _ => ⟨_, _, wrap64 ((wrap64 (a * b)) + (wrap64 (a * c))), rfl, rfl, by decide, by decide, (by have h := wl4 a b c; rw [we4 ha hb (c := c)] at h; exact h), wr4 a b c⟩
  | 5, _ => ⟨_, _, a, rfl, rfl, by decide, by decide, (by have h := wl5 a b c; rw [we5 ha hb (_c := c)] at h; exact h), wr5 a b c⟩
  | 6, _ => ⟨_, _, wrap64 ((wrap64 (-a)) - 1), rfl, rfl, by decide, by decide, (by have h := wl6 a b c; rw [we6 ha hb (_c := c)] at h; exact h), wr6 a b c⟩
  | 7, _ => ⟨_, _, a, rfl, rfl, by decide, by decide, (by have h := wl7 a b c; rw [we7 ha hb (_c := c)] at h; exact h), wr7 a b c⟩
  | 8, _ => ⟨_, _, wrap64 (a + b), rfl, rfl, by decide, by decide, (by have h := wl8 a b c; rw [we8 ha hb (_c := c)] at h; exact h), wr8 a b c⟩
  | 9, _ => ⟨_, _, truthI (a == 0), rfl, rfl, by decide, by decide, (by have h := wl9 a b c; rw [we9 ha hb (_c := c)] at h; exact h), wr9 a b c⟩
  | 10, _ => ⟨_, _, truthI (decide (a < b)), rfl, rfl, by decide, by decide, (by have h := wl10 a b c; rw [we10 ha hb (_c := c)] at h; exact h), wr10 a b c⟩
  | 11, _ => ⟨_, _, truthI (truthI (decide (b < a)) == 0), rfl, rfl, by decide, by decide, (by have h := wl11 a b c; rw [we11 ha hb (_c := c)] at h; exact h), wr11 a b c⟩
  | 12, _ => ⟨_, _, wrap64 (a + a), rfl, rfl, by decide, by decide, (by have h := wl12 a b c; rw [we12 ha hb (_c := c)] at h; exact h), wr12 a b c⟩
  | 13, _ => ⟨_, _, wrap64 (a * 2 ^ (bits BinOp.and IntKind.i64 (bits BinOp.and IntKind.i64 b 63) 63).toNat), rfl, rfl, by decide, by decide, (by have h := wl13 a b c; rw [we13 ha hb (_c := c)] at h; exact h), wr13 a b c⟩
  | 14, _ => ⟨_, _, wrap64 ((wrap64 ((truthI (!(a == 0))) * b)) + (wrap64 ((truthI (a == 0)) * c))), rfl, rfl, by decide, by decide, (by have h := wl14 a b c; rw [we14 ha hb hc] at h; exact h), wr14 a b c⟩
  | 15, _ => ⟨_, _, bits BinOp.and IntKind.i64 (truthI (!(a == 0))) (truthI (!(b == 0))), rfl, rfl, by decide, by decide, (by have h := wl15 a b c; rw [we15 ha hb hc] at h; exact h), wr15 a b c⟩
  | 16, _ => ⟨_, _, truthI (bits BinOp.and IntKind.i64 (truthI (a == 0)) (truthI (b == 0)) == 0), rfl, rfl, by decide, by decide, (by have h := wl16 a b c; rw [we16 ha hb hc] at h; exact h), wr16 a b c⟩
  | i + 17, h => by omega
theorem wr_last {a b c : Int} (ha : InR a) : WOk a b c [97, 47, 98, 42, 98, 43, 97, 37, 98] (if b = 0 then none else some a) := by
  have h := wlast a b c
  by_cases hb : b = 0
  · rw [if_pos hb] at h ⊢
    exact h
  · rw [if_neg hb, if_neg hb] at h
    rw [if_neg hb]
    have e : wrap64 (wrap64 (wrap64 (a.tdiv b) * b) + a.tmod b) = a := ar_left ha
    have h : WOk a b c _ (some (wrap64 (wrap64 (wrap64 (a.tdiv b) * b) + a.tmod b))) := h
    rw [e] at h
    exact h
end Go.Proofs.YtlijlgbaikijnaaDoor
