/-
  Sets of bytes, a bit each: has, add and turn. Conditions: the set's four cells lie in memory.
-/
import Derived.Test.YtmoihdddmeienaaDoorGbPure
import Derived.Test.YtmoihdddmeienaaDoorProg
import Derived.StillTailTactics
import Derived.Deep.QuietTactic
import Derived.BigQuiet
import Derived.Laws.Bits64
namespace Go.Proofs.YtmoihdddmeienaaDoor
open Go Go.RowKit

abbrev St := Nat → Nat
def okSt (n : St) : Prop := ∀ k, n k < 18446744073709551616
def hasS (n : St) (b : UInt8) : Bool := (n (b.toNat / 64)).testBit (b.toNat % 64)
def cellsSt (n : St) : List Value := [.int .u64 (n 0 : Int), .int .u64 (n 1 : Int), .int .u64 (n 2 : Int), .int .u64 (n 3 : Int)]
theorem cellsSt_get (n : St) (k : Nat) (h : k < 4) : (cellsSt n)[k]? = some (.int .u64 (n k : Int)) := by
  match k, h with
  | 0, _ => rfl
  | 1, _ => rfl
  | 2, _ => rfl
  | 3, _ => rfl

set_option maxHeartbeats 400000 in
theorem has_any (n : St) (hn : okSt n) (b : UInt8) (blk off : Nat) (w : World) (hc : ∀ k, k < 4 → w.cell? ⟨blk, off + k, none⟩ = some (.int .u64 (n k : Int))) :
    Calls Tryd.prog 89 #[.pointer (some ⟨blk, off, none⟩), .int .u8 (b.toNat : Int)] w fun e w' => e = .returned (.bool (hasS n b)) ∧ w' = w := by
  have hb := b.toNat_lt
  have hk : b.toNat / 64 < 4 := by omega
  have g0 := hc (b.toNat / 64) hk
  have h63 := hn (b.toNat / 64)
  clear hc
  go_enter Tryd.func89, Tryd.ntmps89
  go_wp2
  go_ret
  refine ⟨ret_bool ?_, rfl⟩
  unfold hasS
  generalize n (b.toNat / 64) = m at h63
  have hd : m / 2 ^ (b.toNat % 64) < 18446744073709551616 := Nat.lt_of_le_of_lt (Nat.div_le_self _ _) h63
  rw [show ((m : Int) / 2 ^ (b.toNat % 64)) = ((m / 2 ^ (b.toNat % 64) : Nat) : Int) by simp, show (1 : Int) = ((1 : Nat) : Int) from rfl, bits_and_u64_nat _ _ hd (by decide), Nat.and_one_is_mod]
  rw [Nat.testBit_eq_decide_div_mod_eq]
  generalize m / 2 ^ (b.toNat % 64) % 2 = r
  rw [Bool.eq_iff_iff, beq_iff_eq, decide_eq_true_eq]
  norm_cast

/-- A block that holds a set. -/
def setAt (w : World) (g : Nat) (n : St) : Prop := w.heap[g]? = some (.cells (cellsSt n).toArray 120 (0, 0))
theorem setAt_cell {w : World} {g : Nat} {n : St} (h : setAt w g n) (k : Nat) (hk : k < 4) : w.cell? ⟨g, k, none⟩ = some (.int .u64 (n k : Int)) := by
  rw [cell_of_row w _ _ _ _ _ h]; simpa using cellsSt_get n k hk
theorem setAt_frozen {w : World} {g : Nat} {n : St} (h : setAt w g n) (k : Nat) : w.frozen? ⟨g, k, none⟩ = false := frozen_of_row w _ _ _ _ h
def putSt (n : St) (k x : Nat) : St := fun j => if j = k then x else n j
theorem cellsSt_put (n : St) (k x : Nat) (hk : k < 4) : (cellsSt n).set k (.int .u64 (x : Int)) = cellsSt (putSt n k x) := by
  match k, hk with
  | 0, _ => rfl
  | 1, _ => rfl
  | 2, _ => rfl
  | 3, _ => rfl
theorem setAt_put {w : World} {g : Nat} {n : St} (h : setAt w g n) (k x : Nat) (hk : k < 4) : setAt (w.setCell ⟨g, k, none⟩ (.int .u64 (x : Int))) g (putSt n k x) := by
  have := heap_setCell_same w g k _ _ (.int .u64 (x : Int)) h
  rw [List.setIfInBounds_toArray, cellsSt_put n k x hk] at this
  exact this
theorem okSt_put {n : St} (h : okSt n) {k x : Nat} (hx : x < 18446744073709551616) : okSt (putSt n k x) := by
  intro j; unfold putSt; split
  · exact hx
  · exact h j
theorem hasS_put {n : St} {k : Nat} (c : UInt8) : hasS (putSt n (k / 64) (n (k / 64) ||| 2 ^ (k % 64))) c = (hasS n c || decide (c.toNat = k)) := by
  unfold hasS putSt
  split
  · rename_i h
    rw [Nat.testBit_or, Nat.testBit_two_pow, h]
    congr 1
    rw [decide_eq_decide]
    omega
  · rename_i h; have : ¬ c.toNat = k := fun e => h (by rw [e])
    simp [this]
theorem lt_or {a b : Nat} (ha : a < 18446744073709551616) (hb : b < 18446744073709551616) : a ||| b < 18446744073709551616 := Nat.or_lt_two_pow (n := 64) ha hb
theorem lt_bit (k : Nat) : 2 ^ (k % 64) < 18446744073709551616 := Nat.pow_lt_pow_right (a := 2) (by decide) (show k % 64 < 64 by omega)

set_option maxHeartbeats 400000 in
set_option maxRecDepth 100000 in
theorem add_any (n : St) (hn : okSt n) (a b : UInt8) (g : Nat) (w : World) (hg : setAt w g n) :
    Calls Tryd.prog 90 #[.pointer (some ⟨g, 0, none⟩), .int .u8 (a.toNat : Int), .int .u8 (b.toNat : Int)] w fun e w' => e = .returned (.tuple #[]) ∧ ∃ n', okSt n' ∧ (∀ c, hasS n' c = (hasS n c || (decide (a.toNat ≤ c.toNat) && decide (c.toNat ≤ b.toNat)))) ∧ setAt w' g n' ∧ Below g w w' := by
  have hb := b.toNat_lt
  have ha := a.toNat_lt
  go_enter Tryd.func90, Tryd.ntmps90
  go_wp2
  go_loopw [6] (fun i wr => ∃ (k : Nat) (n' : St), k ≤ 256 ∧ a.toNat ≤ k ∧ (k = a.toNat ∨ k ≤ b.toNat + 1) ∧ i = .int .i64 k ∧ okSt n' ∧ Hid (∀ c, hasS n' c = (hasS n c || (decide (a.toNat ≤ c.toNat) && decide (c.toNat < k)))) ∧ setAt wr g n' ∧ Below g w wr) (fun i _ => 256 - (intOf i).toNat)
  case atStart =>
    refine ⟨a.toNat, n, by omega, Nat.le_refl _, .inl rfl, rfl, hn, fun c => ?_, hg, Below.refl _ _⟩
    have : (decide (a.toNat ≤ c.toNat) && decide (c.toNat < a.toNat)) = false := by
      rw [Bool.and_eq_false_iff]; rcases Nat.lt_or_ge c.toNat a.toNat with h | h
      · left; simp; omega
      · right; simp; omega
    simp [this]
  case round =>
    obtain ⟨k, n', hk, hak, hkb, rfl, hn', hs, hg', hbl⟩ := hrel
    by_cases hlt : k ≤ b.toNat
    · have hk4 : k / 64 < 4 := by omega
      have c0 := setAt_cell hg' (k / 64) hk4
      have f0 := setAt_frozen hg' (k / 64)
      have h63 := hn' (k / 64)
      go_wp2
      go_region
      have hx : bits BinOp.or IntKind.u64 (n' (k / 64) : Int) (IntKind.u64.wrap (2 ^ (k % 64))) = ((n' (k / 64) ||| 2 ^ (k % 64) : Nat) : Int) := by
        have h2 := lt_bit k
        have e : ((2 : Int) ^ (k % 64)) = ((2 ^ (k % 64) : Nat) : Int) := by simp
        rw [e]
        generalize 2 ^ (k % 64) = y at h2
        rw [IntWalk.u64_in _ (by omega), bits_or_u64_nat _ _ h63 h2]
      rw [hx]
      have hp := setAt_put hg' (k / 64) (n' (k / 64) ||| 2 ^ (k % 64)) hk4
      have hq := (hbl.setCell (p := ⟨g, k / 64, none⟩) (Nat.le_refl _) (.int .u64 ((n' (k / 64) ||| 2 ^ (k % 64) : Nat) : Int)))
      have ho := okSt_put (k := k / 64) hn' (lt_or h63 (lt_bit k))
      have hh := Lib.hid (fun c => @hasS_put n' k c)
      clear hx c0 f0 hg' hbl
      generalize wr.setCell ⟨g, k / 64, none⟩ (.int .u64 ((n' (k / 64) ||| 2 ^ (k % 64) : Nat) : Int)) = w1 at hp hq
      generalize putSt n' (k / 64) (n' (k / 64) ||| 2 ^ (k % 64)) = n1 at hp ho hh
      generalize (n' (k / 64) ||| 2 ^ (k % 64)) = y1
      go_wp2
      go_roundw
      case rel =>
        refine ⟨k + 1, n1, by omega, by omega, by omega, by go_num, ho, fun c => ?_, hp, hq.drew⟩
        rw [hh.out c, hs.out c, Bool.or_assoc]
        congr 1
        rw [Bool.eq_iff_iff]
        simp only [Bool.or_eq_true, Bool.and_eq_true, decide_eq_true_eq]
        omega
      case measure => simp [intOf]; omega
    · go_wp2
      go_end0
      refine ⟨rfl, n', hn', fun c => ?_, hg', hbl⟩
      rw [hs.out c]
      congr 1
      rw [Bool.eq_iff_iff]
      simp only [Bool.and_eq_true, decide_eq_true_eq]
      omega

theorem cellsSt_ext (n m : St) (h : ∀ k, k < 4 → n k = m k) : cellsSt n = cellsSt m := by
  unfold cellsSt
  rw [h 0 (by decide), h 1 (by decide), h 2 (by decide), h 3 (by decide)]
/-- The set turned about in its first k places. -/
def turnSt (n : St) (k : Nat) : St := fun j => if j < k then 18446744073709551615 - n j else n j
theorem okSt_turn {n : St} (h : okSt n) (k : Nat) : okSt (turnSt n k) := by
  intro j; unfold turnSt; have := h j; split <;> omega
theorem hasS_turn {n : St} (h : okSt n) (b : UInt8) : hasS (turnSt n 4) b = !hasS n b := by
  have hb := b.toNat_lt
  unfold hasS turnSt
  rw [if_pos (by omega)]
  have := h (b.toNat / 64)
  generalize n (b.toNat / 64) = m at this
  have e : 18446744073709551615 - m = 2 ^ 64 - (m + 1) := by omega
  rw [e, Nat.testBit_two_pow_sub_succ (by simpa using this)]
  have : b.toNat % 64 < 64 := by omega
  simp [this]
theorem xor_ones {m : Nat} (h : m < 18446744073709551616) : 18446744073709551615 ^^^ m = 18446744073709551615 - m := by
  have e : 18446744073709551615 - m = 2 ^ 64 - (m + 1) := by omega
  rw [e]
  apply Nat.eq_of_testBit_eq
  intro i
  rw [Nat.testBit_two_pow_sub_succ (by simpa using h), Nat.testBit_xor, show (18446744073709551615 : Nat) = 2 ^ 64 - 1 from rfl, Nat.testBit_two_pow_sub_one]
  by_cases hi : i < 64
  · simp [hi]
  · simp only [hi, decide_false, Bool.false_bne, Bool.false_and]
    exact Nat.testBit_lt_two_pow (Nat.lt_of_lt_of_le h (Nat.pow_le_pow_right (n := 2) (by decide) (show 64 ≤ i by omega)))
theorem turnSt_put (n : St) (k : Nat) : putSt (turnSt n k) k (18446744073709551615 - n k) = turnSt n (k + 1) := by
  funext j
  unfold putSt turnSt
  by_cases h : j = k
  · subst h; simp
  · rw [if_neg h]
    by_cases h1 : j < k
    · rw [if_pos h1, if_pos (by omega)]
    · rw [if_neg h1, if_neg (by omega)]

set_option maxHeartbeats 400000 in
set_option maxRecDepth 100000 in
theorem turn_any (n : St) (hn : okSt n) (g : Nat) (w : World) (hg : setAt w g n) :
    Calls Tryd.prog 91 #[.pointer (some ⟨g, 0, none⟩)] w fun e w' => e = .returned (.tuple #[]) ∧ ∃ n', okSt n' ∧ (∀ c, hasS n' c = !hasS n c) ∧ setAt w' g n' ∧ Below g w w' := by
  go_enter Tryd.func91, Tryd.ntmps91
  go_wp2
  go_loopw [3] (fun i wr => ∃ (k : Nat), k ≤ 4 ∧ i = .int .i64 k ∧ setAt wr g (turnSt n k) ∧ Below g w wr) (fun i _ => 4 - (intOf i).toNat)
  case atStart => exact ⟨0, by omega, rfl, hg, Below.refl _ _⟩
  case round =>
    obtain ⟨k, hk, rfl, hg', hbl⟩ := hrel
    by_cases hlt : k < 4
    · have c0 := setAt_cell hg' k hlt
      have f0 := setAt_frozen hg' k
      have h63 := okSt_turn hn k k
      go_wp2
      go_region
      have hx : bits BinOp.xor IntKind.u64 (if IntKind.u64.signed = true then -1 else IntKind.u64.max) (turnSt n k k : Int) = ((18446744073709551615 - n k : Nat) : Int) := by
        have e : turnSt n k k = n k := by unfold turnSt; simp
        have h4 := hn k
        rw [e, if_neg (by decide), show IntKind.u64.max = ((18446744073709551615 : Nat) : Int) from rfl, bits_xor_u64_nat _ _ (by decide) h4]
        congr 1
        exact xor_ones h4
      rw [hx]
      have hp := setAt_put hg' k (18446744073709551615 - n k) hlt
      rw [turnSt_put] at hp
      have hq := (hbl.setCell (p := ⟨g, k, none⟩) (Nat.le_refl _) (.int .u64 ((18446744073709551615 - n k : Nat) : Int)))
      clear hx c0 f0 hg' hbl
      generalize wr.setCell ⟨g, k, none⟩ (.int .u64 ((18446744073709551615 - n k : Nat) : Int)) = w1 at hp hq
      go_wp2
      go_roundw
      case rel => exact ⟨k + 1, by omega, by go_num, hp, hq.drew⟩
      case measure => simp [intOf]; omega
    · go_wp2
      go_end0
      obtain rfl : k = 4 := by omega
      exact ⟨rfl, _, okSt_turn hn 4, hasS_turn hn, hg', hbl⟩
end Go.Proofs.YtmoihdddmeienaaDoor
