/-
  A number's text is that number; numbers of 64 bits as bit vectors; what an expression without an assignment says over names whose numbers are known. No walk in it.
-/
import Derived.Test.YtlijlgbaikijnaaGreatDoorSmAwake
namespace Go.Proofs.YtlijlgbaikijnaaGreatDoor
open Go Go.RowKit

theorem dd_small {u : Nat} (h : u < 10) : Lib.decDigits u = [UInt8.ofNat (48 + u)] := by rw [Lib.decDigits, dif_pos h]
theorem dd_big {u : Nat} (h : ¬ u < 10) : Lib.decDigits u = Lib.decDigits (u / 10) ++ [UInt8.ofNat (48 + u % 10)] := by rw [Lib.decDigits, dif_neg h]
theorem dig_nat (d : Nat) (h : d < 10) : (UInt8.ofNat (48 + d)).toNat = 48 + d := by rw [UInt8.toNat_ofNat']; omega
theorem digV_dig (d : Nat) (h : d < 10) : digV (UInt8.ofNat (48 + d)) = d := by unfold digV; rw [dig_nat d h, if_pos (by omega)]; omega
theorem dd_all (k : Nat) : ∀ u, u ≤ k → ∀ b ∈ Lib.decDigits u, 48 ≤ b.toNat ∧ b.toNat ≤ 57 := by
  induction k with
  | zero => intro u hu b hb; rw [dd_small (by omega)] at hb; simp only [List.mem_singleton] at hb; subst hb; rw [dig_nat u (by omega)]; omega
  | succ k ih =>
    intro u hu b hb
    by_cases h : u < 10
    · rw [dd_small h] at hb; simp only [List.mem_singleton] at hb; subst hb; rw [dig_nat u h]; omega
    · rw [dd_big h] at hb
      rcases List.mem_append.1 hb with hb | hb
      · exact ih _ (by omega) b hb
      · simp only [List.mem_singleton] at hb; subst hb; rw [dig_nat _ (by omega)]; omega
theorem dd_val (k : Nat) : ∀ u, u ≤ k → valB 10 (Lib.decDigits u) = u := by
  induction k with
  | zero => intro u hu; rw [dd_small (by omega)]; show 0 * 10 + digV _ = u; rw [digV_dig u (by omega)]; omega
  | succ k ih =>
    intro u hu
    by_cases h : u < 10
    · rw [dd_small h]; show 0 * 10 + digV _ = u; rw [digV_dig u h]; omega
    · rw [dd_big h, valB_snoc, ih _ (by omega), digV_dig _ (by omega)]; omega
theorem dd_ne (u : Nat) : Lib.decDigits u ≠ [] := by
  by_cases h : u < 10
  · rw [dd_small h]; simp
  · rw [dd_big h]; simp
theorem dd_head (k : Nat) : ∀ u, u ≤ k → 0 < u → (Lib.decDigits u)[0]? ≠ some 48 := by
  induction k with
  | zero => intro u hu h0; omega
  | succ k ih =>
    intro u hu h0
    by_cases h : u < 10
    · rw [dd_small h]
      intro he
      simp only [List.getElem?_cons_zero, Option.some.injEq] at he
      have := congrArg UInt8.toNat he
      rw [dig_nat u h] at this
      have e : (48 : UInt8).toNat = 48 := rfl
      omega
    · rw [dd_big h, List.getElem?_append_left (List.length_pos_iff.2 (dd_ne _))]
      exact ih _ (by omega) (by omega)
theorem digits_dd (u : Nat) : digitsP (Lib.decDigits u) = (u, (Lib.decDigits u).length) := by
  by_cases h0 : u = 0
  · subst h0; rw [dd_small (by omega)]; rfl
  · have hh : headB (Lib.decDigits u) = (10, 0) := by unfold headB; rw [if_neg (dd_head u u (Nat.le_refl _) (by omega))]
    have hr : digRun 10 (Lib.decDigits u) = Lib.decDigits u := run_all fun j hj => by
      have := dd_all u u (Nat.le_refl _) _ (List.getElem_mem hj)
      unfold digV
      rw [if_pos this]; omega
    unfold digitsP
    rw [hh]
    simp only [List.drop_zero]
    rw [hr, dd_val u u (Nat.le_refl _)]
    simp
theorem dropWhile_none {p : UInt8 → Bool} {l : List UInt8} (h : ∀ b ∈ l, p b = false) : l.dropWhile p = l := by
  cases l with
  | nil => rfl
  | cons b l => rw [List.dropWhile_cons, if_neg (by rw [h b (by simp)]; simp)]
theorem trimS_none {l cs : List UInt8} (h : ∀ b ∈ l, cs.contains b = false) : Lib.trimS l cs = l := by
  unfold Lib.trimS Lib.trimLeftS Lib.trimRightS
  rw [dropWhile_none (l := l.reverse) (by simpa using h), List.reverse_reverse, dropWhile_none h]
theorem blank_no {b : UInt8} (h : 45 ≤ b.toNat) : ([9, 10, 11, 12, 13, 32] : List UInt8).contains b = false := by
  rw [← Bool.not_eq_true]
  intro hc
  have : b ∈ ([9, 10, 11, 12, 13, 32] : List UInt8) := by simpa using hc
  simp only [List.mem_cons, List.mem_nil_iff, or_false] at this
  rcases this with rfl | rfl | rfl | rfl | rfl | rfl <;> simp at h
/-- A number's text is that number. -/
theorem num_itoa {n : Int} (h : InR n) : numP (Lib.itoa n) = some n := by
  unfold InR at h
  unfold Lib.itoa numP
  split
  · rename_i hn
    rw [trimS_none (fun b hb => blank_no (by
      rcases List.mem_cons.1 hb with rfl | hb
      · decide
      · have := (dd_all _ _ (Nat.le_refl _) b hb).1; omega))]
    show (if (45 : UInt8) = 45 then numTail true (Lib.decDigits n.natAbs) else if (45 : UInt8) = 43 then numTail false (Lib.decDigits n.natAbs) else numTail false (45 :: Lib.decDigits n.natAbs)) = some n
    rw [if_pos rfl]
    unfold numTail
    rw [digits_dd, if_neg]
    · simp only [if_true, Option.some.injEq]; omega
    · have := List.length_pos_iff.2 (dd_ne n.natAbs)
      simp only [if_true]
      omega
  · rename_i hn
    rw [trimS_none (fun b hb => blank_no (by have := (dd_all _ _ (Nat.le_refl _) b hb).1; omega))]
    cases hd : Lib.decDigits n.toNat with
    | nil => exact absurd hd (dd_ne _)
    | cons c r =>
      have hc := dd_all n.toNat _ (Nat.le_refl _) c (by rw [hd]; simp)
      have c1 : ¬ c = 45 := by rintro rfl; simp at hc
      have c2 : ¬ c = 43 := by rintro rfl; simp at hc
      show (if c = 45 then numTail true r else if c = 43 then numTail false r else numTail false (c :: r)) = some n
      rw [if_neg c1, if_neg c2, ← hd]
      unfold numTail
      rw [digits_dd, if_neg]
      · simp only [Bool.false_eq_true, if_false, Option.some.injEq]; omega
      · have := List.length_pos_iff.2 (dd_ne n.toNat)
        simp only [Bool.false_eq_true, if_false]
        omega

/-! ### Numbers of 64 bits as bit vectors -/
theorem wrap64_bv (z : Int) : wrap64 z = (BitVec.ofInt 64 z).toInt := by
  rw [BitVec.toInt_ofInt, Int.bmod_def]
  unfold wrap64
  have e : ((2 ^ 64 : Nat) : Int) = 18446744073709551616 := by decide
  rw [e]
  split <;> omega
theorem wrapi64_bv (z : Int) : IntKind.i64.wrap z = (BitVec.ofInt 64 z).toInt := by rw [← wrap64_bv, IntKind.wrap_i64]; unfold wrap64; rfl
theorem bv_of {n : Int} (h : InR n) : ∃ x : BitVec 64, n = x.toInt := by
  refine ⟨BitVec.ofInt 64 n, ?_⟩
  rw [← wrap64_bv]
  unfold InR at h
  unfold wrap64
  omega
theorem bits_bv (op : BinOp) (x y : BitVec 64) : bits op IntKind.i64 x.toInt y.toInt = (match op with | .and => x &&& y | .or => x ||| y | .xor => x ^^^ y | _ => x &&& ~~~y).toInt := by
  have h : bits op IntKind.i64 x.toInt y.toInt = IntKind.i64.wrap (((match op with | .and => BitVec.ofInt 64 x.toInt &&& BitVec.ofInt 64 y.toInt | .or => BitVec.ofInt 64 x.toInt ||| BitVec.ofInt 64 y.toInt | .xor => BitVec.ofInt 64 x.toInt ^^^ BitVec.ofInt 64 y.toInt | _ => BitVec.ofInt 64 x.toInt &&& ~~~BitVec.ofInt 64 y.toInt).toNat : Nat) : Int) := by cases op <;> rfl
  rw [h, wrapi64_bv]
  simp only [BitVec.ofInt_toInt]
  rw [BitVec.ofInt_natCast, BitVec.ofNat_toNat, BitVec.setWidth_eq]
theorem wrap64_id {n : Int} (h : InR n) : wrap64 n = n := by unfold InR at h; unfold wrap64; omega
theorem nat_and_or (k : Nat) : ∀ x y : Nat, x ≤ k → (x &&& y) + (x ||| y) = x + y := by
  induction k with
  | zero => intro x y h; obtain rfl : x = 0 := by omega
            simp
  | succ k ih =>
    intro x y h
    by_cases hx : x = 0
    · subst hx; simp
    · have h1 := ih (x / 2) (y / 2) (by omega)
      have a1 : (x &&& y) / 2 = x / 2 &&& y / 2 := Nat.and_div_two
      have a2 : (x ||| y) / 2 = x / 2 ||| y / 2 := Nat.or_div_two
      have a3 : (x &&& y) % 2 = 1 ↔ x % 2 = 1 ∧ y % 2 = 1 := Nat.and_mod_two_eq_one
      have a4 : (x ||| y) % 2 = 1 ↔ x % 2 = 1 ∨ y % 2 = 1 := Nat.or_mod_two_eq_one
      generalize hp : x &&& y = p at *
      generalize hq : x ||| y = q at *
      omega
theorem and_or_sum (x y : BitVec 64) : (x &&& y) + (x ||| y) = x + y := by
  apply BitVec.eq_of_toNat_eq
  rw [BitVec.toNat_add, BitVec.toNat_add, BitVec.toNat_and, BitVec.toNat_or, nat_and_or _ _ _ (Nat.le_refl _)]
theorem com_bv (x : BitVec 64) : ~~~x = -x + BitVec.ofInt 64 (-1) := by
  rw [BitVec.not_eq_neg_add]
  have : BitVec.ofInt 64 (-1) = -1#64 := by decide
  rw [this]
  exact BitVec.sub_eq_add_neg _ _
theorem ar_mul3 (a b c : Int) : wrap64 (wrap64 (a * b) * c) = wrap64 (a * wrap64 (b * c)) := by
  simp only [wrap64_bv, BitVec.ofInt_mul, BitVec.ofInt_toInt, BitVec.mul_assoc]
theorem ar_spread (a b c : Int) : wrap64 (a * wrap64 (b + c)) = wrap64 (wrap64 (a * b) + wrap64 (a * c)) := by
  simp only [wrap64_bv, BitVec.ofInt_mul, BitVec.ofInt_add, BitVec.ofInt_toInt, BitVec.mul_add]
theorem ar_com {a : Int} (h : InR a) : bits BinOp.xor IntKind.i64 (-1) a = wrap64 (wrap64 (-a) - 1) := by
  obtain ⟨x, rfl⟩ := bv_of h
  have e : (-1 : Int) = (BitVec.allOnes 64).toInt := by decide
  rw [e, bits_bv]
  simp only [BitVec.allOnes_xor, com_bv, wrap64_bv, Int.sub_eq_add_neg, BitVec.ofInt_add, BitVec.ofInt_neg, BitVec.ofInt_toInt]
theorem ar_xor2 {a b : Int} (ha : InR a) (hb : InR b) : bits BinOp.xor IntKind.i64 (bits BinOp.xor IntKind.i64 a b) b = a := by
  obtain ⟨x, rfl⟩ := bv_of ha
  obtain ⟨y, rfl⟩ := bv_of hb
  rw [bits_bv, bits_bv]
  simp only [BitVec.xor_assoc, BitVec.xor_self, BitVec.xor_zero]
theorem ar_andor {a b : Int} (ha : InR a) (hb : InR b) : wrap64 (bits BinOp.and IntKind.i64 a b + bits BinOp.or IntKind.i64 a b) = wrap64 (a + b) := by
  obtain ⟨x, rfl⟩ := bv_of ha
  obtain ⟨y, rfl⟩ := bv_of hb
  rw [bits_bv, bits_bv]
  simp only [wrap64_bv, BitVec.ofInt_add, BitVec.ofInt_toInt, and_or_sum]
theorem ar_63 {b : Int} (hb : InR b) : bits BinOp.and IntKind.i64 (bits BinOp.and IntKind.i64 b 63) 63 = bits BinOp.and IntKind.i64 b 63 := by
  obtain ⟨y, rfl⟩ := bv_of hb
  have e : (63 : Int) = (63 : BitVec 64).toInt := by decide
  rw [e, bits_bv, bits_bv]
  simp only [BitVec.and_assoc, BitVec.and_self]
theorem ar_left {a b : Int} (ha : InR a) : wrap64 (wrap64 (wrap64 (a.tdiv b) * b) + a.tmod b) = a := by
  have h : wrap64 (wrap64 (wrap64 (a.tdiv b) * b) + a.tmod b) = wrap64 (a.tdiv b * b + a.tmod b) := by
    simp only [wrap64_bv, BitVec.ofInt_mul, BitVec.ofInt_add, BitVec.ofInt_toInt]
  rw [h, Int.mul_comm, Int.mul_tdiv_add_tmod, wrap64_id ha]

/-! ### What an expression without an assignment says, over names whose numbers are known -/
def valX (g : List UInt8 → Int) : Nat → E → Option Int
  | 0, _ => none
  | n + 1, .mk op num name kids =>
    match kids with
    | [] => if op = [110, 117, 109] then some num else some (g name)
    | [k] => (valX g n k).map (oneV op)
    | a :: b :: rest => (valX g n a).bind fun x =>
        if op = [63] then (if ¬ x = 0 then valX g n b else match rest with | [] => none | c :: _ => valX g n c)
        else if op = [38, 38] then (if ¬ x = 0 then (valX g n b).map fun y => truthI (!(y == 0)) else some 0)
        else if op = [124, 124] then (if ¬ x = 0 then some 1 else (valX g n b).map fun y => truthI (!(y == 0)))
        else (valX g n b).bind fun y => twoV op x y
/-- Of such an expression: its names are some of these, and it has as many Kids as its Op has. -/
def okX (names : List (List UInt8)) : Nat → E → Bool
  | 0, _ => false
  | n + 1, .mk op _ name kids =>
    decide ((kids.length : Int) = kidsV op) && !asgV op && (decide (op = [110, 117, 109]) || decide (op = [110, 97, 109, 101]) && names.contains name || decide (2 ≤ kids.length ∨ kids.length = 1) && !decide (op = [110, 117, 109]) && !decide (op = [110, 97, 109, 101])) && (!decide (op = [63]) || decide (kids.length = 3)) && kids.all (okX names n)
def OfX (o : Option Int) (ps : List Pr) : VRes := match o with | some n => .ok n ps | none => .no 24 ps
theorem OfX.next {o : Option Int} {ps : List Pr} {k : Int → List Pr → VRes} {f : Int → Option Int} (h : ∀ n, k n ps = OfX (f n) ps) : (OfX o ps).next k = OfX (o.bind f) ps := by
  cases o with
  | none => rfl
  | some n => exact h n
theorem OfX.map {o : Option Int} {ps : List Pr} {k : Int → List Pr → VRes} {f : Int → Int} (h : ∀ n, k n ps = .ok (f n) ps) : (OfX o ps).next k = OfX (o.map f) ps := by
  cases o with
  | none => rfl
  | some n => exact h n
theorem valX_val {names : List (List UInt8)} {g : List UInt8 → Int} {ps : List Pr} (hg : ∀ nm ∈ names, getV ps (nmB nm) = some (g nm)) :
    ∀ (n : Nat) (x : E), okX names n x = true → valueP n x ps = OfX (valX g n x) ps := by
  intro n
  induction n with
  | zero => intro x h; simp [okX] at h
  | succ n ih =>
    intro x h
    obtain ⟨op, num, name, kids⟩ := x
    simp only [okX, Bool.and_eq_true, Bool.not_eq_true', decide_eq_true_eq, Bool.or_eq_true, decide_eq_false_iff_not, List.all_eq_true, List.contains_iff_mem] at h
    obtain ⟨⟨⟨⟨hk, ha⟩, hop⟩, h3⟩, hall⟩ := h
    have hd : valueP (n + 1) (.mk op num name kids) ps = stepV (valueP n) op num name kids ps := rfl
    rw [hd]
    unfold stepV
    rw [if_neg (by simpa using hk)]
    by_cases e1 : op = [110, 117, 109]
    · subst e1
      rw [if_pos rfl]
      have hz : kids = [] := by
        have : kidsV [110, 117, 109] = 0 := by decide
        rw [this] at hk
        exact List.length_eq_zero_iff.1 (by omega)
      subst hz
      rfl
    rw [if_neg e1]
    by_cases e2 : op = [110, 97, 109, 101]
    · subst e2
      rw [if_pos rfl]
      have hz : kids = [] := by
        have : kidsV [110, 97, 109, 101] = 0 := by decide
        rw [this] at hk
        exact List.length_eq_zero_iff.1 (by omega)
      subst hz
      have hn : name ∈ names := by
        rcases hop with (h | h) | h
        · exact absurd h (by decide)
        · exact h.2
        · exact absurd rfl h.2
      show getR ps name = OfX (if ([110, 97, 109, 101] : List UInt8) = [110, 117, 109] then some num else some (g name)) ps
      rw [if_neg (by decide)]
      unfold getR
      rw [hg name hn]
      rfl
    rw [if_neg e2, if_neg (by simp [ha])]
    have hlen : 2 ≤ kids.length ∨ kids.length = 1 := by
      rcases hop with (h | h) | h
      · exact absurd h e1
      · exact absurd h.1 e2
      · exact h.1.1
    match kids, hall, h3, hlen with
    | [], _, _, hlen => simp at hlen
    | [k], hall, _, _ =>
      show (valueP n k ps).next _ = OfX ((valX g n k).map _) ps
      rw [ih k (hall k (by simp))]
      exact OfX.map fun _ => rfl
    | a :: b :: rest, hall, h3, _ =>
      show (valueP n a ps).next _ = OfX ((valX g n a).bind _) ps
      rw [ih a (hall a (by simp))]
      refine OfX.next fun x => ?_
      have hb := ih b (hall b (by simp))
      by_cases c1 : op = [63]
      · rw [if_pos c1, if_pos c1]
        by_cases hx : x = 0
        · rw [if_neg (by simpa using hx), if_neg (by simpa using hx)]
          cases rest with
          | nil => rcases h3 with h | h; exact absurd c1 h; simp at h
          | cons c r => exact ih c (hall c (by simp))
        · rw [if_pos hx, if_pos hx, hb]
      rw [if_neg c1, if_neg c1]
      by_cases c2 : op = [38, 38]
      · rw [if_pos c2, if_pos c2]
        by_cases hx : x = 0
        · rw [if_neg (by simpa using hx), if_neg (by simpa using hx)]; rfl
        · rw [if_pos hx, if_pos hx, hb]; exact OfX.map fun _ => rfl
      rw [if_neg c2, if_neg c2]
      by_cases c3 : op = [124, 124]
      · rw [if_pos c3, if_pos c3]
        by_cases hx : x = 0
        · rw [if_neg (by simpa using hx), if_neg (by simpa using hx), hb]; exact OfX.map fun _ => rfl
        · rw [if_pos hx, if_pos hx]; rfl
      rw [if_neg c3, if_neg c3, hb]
      exact OfX.next fun y => rfl
end Go.Proofs.YtlijlgbaikijnaaGreatDoor
