/-
  What an expression's value is over a table, in plain words, with fuel. No walk in it.
-/
import Derived.Test.YtlijlgbaikijnaaGreatDoorSmGet
namespace Go.Proofs.YtlijlgbaikijnaaGreatDoor
open Go Go.RowKit

/-- A value, or what is wrong; and the table behind it. -/
inductive VRes where
  | ok (n : Int) (ps : List Pr)
  | no (c : Int) (ps : List Pr)
def VRes.tab : VRes → List Pr
  | .ok _ ps => ps
  | .no _ ps => ps
def VRes.next (r : VRes) (k : Int → List Pr → VRes) : VRes := match r with | .ok n ps => k n ps | .no c ps => .no c ps
def nmB (l : List UInt8) : ByteArray := ⟨l.toArray⟩
def getR (ps : List Pr) (nm : List UInt8) : VRes := match getV ps (nmB nm) with | some n => .ok n ps | none => .no 23 ps
def setR (ps : List Pr) (nm : List UInt8) (n : Int) : VRes := match setP ps (nmB nm) ⟨(Lib.itoa n).toArray⟩ with | some qs => .ok n qs | none => .no 26 ps
def twoR (m : List UInt8) (a b : Int) (ps : List Pr) : VRes := match twoV m a b with | some n => .ok n ps | none => .no 24 ps
def stepV (val : E → List Pr → VRes) (op : List UInt8) (num : Int) (name : List UInt8) (kids : List E) (ps : List Pr) : VRes :=
    if (kids.length : Int) ≠ kidsV op then .no 1 ps
    else if op = [110, 117, 109] then .ok num ps
    else if op = [110, 97, 109, 101] then getR ps name
    else if asgV op = true then
      (match kids with
       | [] => .no 1 ps
       | k :: _ =>
         if Lib.trimSuffix op [61] = [] then (val k ps).next fun v qs => setR qs name v
         else (getR ps name).next fun a ps => (val k ps).next fun b qs => (twoR (Lib.trimSuffix op [61]) a b qs).next fun v rs => setR rs name v)
    else match kids with
      | [] => .no 1 ps
      | [k] => (val k ps).next fun a qs => .ok (oneV op a) qs
      | a :: b :: rest => (val a ps).next fun x qs =>
          if op = [63] then (if ¬ x = 0 then val b qs else match rest with | [] => .no 1 qs | c :: _ => val c qs)
          else if op = [38, 38] then (if ¬ x = 0 then (val b qs).next fun y rs => .ok (truthI (!(y == 0))) rs else .ok 0 qs)
          else if op = [124, 124] then (if ¬ x = 0 then .ok 1 qs else (val b qs).next fun y rs => .ok (truthI (!(y == 0))) rs)
          else (val b qs).next fun y rs => twoR op x y rs

def valueP : Nat → E → List Pr → VRes
  | 0, _, ps => .no 0 ps
  | n + 1, .mk op num name kids, ps => stepV (valueP n) op num name kids ps

mutual
def sizeE : E → Nat
  | .mk _ _ _ kids => 1 + sizeL kids
def sizeL : List E → Nat
  | [] => 0
  | e :: es => sizeE e + sizeL es
end

theorem itoa_small {n : Int} (h0 : -9223372036854775808 ≤ n) (h1 : n ≤ 9223372036854775807) : (Lib.itoa n).length ≤ 21 := by
  have h : ∀ u : Nat, u ≤ 9223372036854775808 → Lib.nDigits u ≤ 20 := by
    intro u hu
    have h2 := Lib.numDigits_eq u
    by_cases hz : u = 0
    · subst hz; rw [Lib.nDigits_small (by omega)]; omega
    · have h3 := h2 (by omega) (by omega)
      have : (if 10 ^ Lib.l10 (Lib.bitLen u) ≤ u then 1 else 0) ≤ 1 := by split <;> omega
      omega
  unfold Lib.itoa
  split
  · rw [List.length_cons, Lib.decDigits_length]; have := h n.natAbs (by omega); omega
  · rw [Lib.decDigits_length]; have := h n.toNat (by omega); omega

def InR (n : Int) : Prop := -9223372036854775808 ≤ n ∧ n ≤ 9223372036854775807
mutual
def NumE : E → Prop
  | .mk _ num _ kids => InR num ∧ NumL kids
def NumL : List E → Prop
  | [] => True
  | e :: es => NumE e ∧ NumL es
end
theorem NumL.mem : ∀ {l : List E}, NumL l → ∀ x ∈ l, NumE x
  | [], _, x, hx => by cases hx
  | e :: es, h, x, hx => by
    unfold NumL at h
    rcases List.mem_cons.1 hx with rfl | hx
    · exact h.1
    · exact NumL.mem h.2 x hx
theorem sizeL.mem : ∀ {l : List E}, ∀ x ∈ l, sizeE x ≤ sizeL l
  | [], x, hx => by cases hx
  | e :: es, x, hx => by
    unfold sizeL
    rcases List.mem_cons.1 hx with rfl | hx
    · omega
    · have := sizeL.mem x hx; omega
theorem wrap_in (n : Int) : InR (IntKind.i64.wrap n) := by rw [IntKind.wrap_i64]; unfold InR; omega
theorem wrap64_in (n : Int) : InR (wrap64 n) := by unfold wrap64 InR; omega
theorem bits_in (op : BinOp) (a b : Int) : InR (bits op IntKind.i64 a b) := by unfold bits; exact wrap_in _
theorem truthI_in (b : Bool) : InR (truthI b) := by cases b <;> (unfold InR truthI; simp)
theorem div_in {a : Int} (h : InR a) (k : Nat) : InR (a / 2 ^ k) := by
  unfold InR at *
  have hp : (0 : Int) < 2 ^ k := Int.pow_pos (by decide)
  constructor
  · rcases Int.lt_or_le a 0 with h0 | h0
    · have h1 : a ≤ a / 2 ^ k := by
        rw [Int.le_ediv_iff_mul_le hp]
        have : a * 2 ^ k ≤ a * 1 := Int.mul_le_mul_of_nonpos_left (by omega) (by omega)
        omega
      omega
    · have := Int.ediv_nonneg h0 (Int.le_of_lt hp); omega
  · rcases Int.lt_or_le a 0 with h0 | h0
    · have := Int.ediv_neg_of_neg_of_pos h0 hp; omega
    · have := Int.ediv_le_self (2 ^ k) h0; omega
theorem tmod_in {a : Int} (h : InR a) (b : Int) : InR (a.tmod b) := by
  unfold InR at *
  have h1 : (a.tmod b).natAbs ≤ a.natAbs := by rw [Int.natAbs_tmod]; exact Nat.mod_le _ _
  have h2 : 0 ≤ a → 0 ≤ a.tmod b := fun h => Int.tmod_nonneg b h
  have h3 : a ≤ 0 → 0 ≤ (-a).tmod b := fun h => Int.tmod_nonneg b (by omega)
  rw [Int.neg_tmod] at h3
  omega
theorem oneV_in {n : Int} (h : InR n) (op : List UInt8) : InR (oneV op n) := by
  unfold oneV
  split
  · exact wrap64_in _
  · split
    · exact truthI_in _
    · split
      · exact bits_in _ _ _
      · exact h
theorem some_in {P : Int → Prop} {n m : Int} (h : some n = some m) (hn : P n) : P m := by cases h; exact hn
theorem ite_in {c : Prop} [Decidable c] {x y : Option Int} {P : Int → Prop} (hx : ∀ n, x = some n → P n) (hy : ∀ n, y = some n → P n) : ∀ n, (if c then x else y) = some n → P n := by
  intro n h
  by_cases hc : c
  · rw [if_pos hc] at h; exact hx n h
  · rw [if_neg hc] at h; exact hy n h
theorem twoV_in {a b n : Int} {m : List UInt8} (ha : InR a) (h : twoV m a b = some n) : InR n := by
  suffices hh : ∀ n, twoV m a b = some n → InR n from hh n h
  unfold twoV
  repeat' (refine ite_in (P := InR) ?_ ?_)
  all_goals
    intro n h
    first
    | (cases h; done)
    | exact some_in h (wrap64_in _)
    | exact some_in h (tmod_in ha _)
    | exact some_in h (div_in ha _)
    | exact some_in h (truthI_in _)
    | exact some_in h (bits_in _ _ _)
theorem numTail_in {m : Bool} {l : List UInt8} {n : Int} (h : numTail m l = some n) : InR n := by
  unfold numTail at h
  by_cases hc : (digitsP l).2 = 0 ∨ (digitsP l).2 < l.length ∨ (if m then 9223372036854775808 else 9223372036854775807) < (digitsP l).1
  · rw [if_pos hc] at h; cases h
  · rw [if_neg hc] at h
    have h := Option.some.inj h
    unfold InR
    cases m <;> simp at h hc <;> omega
theorem numP_in {l : List UInt8} {n : Int} (h : numP l = some n) : InR n := by
  unfold numP numT at h
  split at h
  · cases h; unfold InR; omega
  · split at h
    · exact numTail_in h
    · split at h <;> exact numTail_in h
theorem getV_in {ps : List Pr} {nm : ByteArray} {n : Int} (h : getV ps nm = some n) : InR n := by
  unfold getV at h
  split at h
  · exact numP_in h
  · cases h; unfold InR; omega

/-- A result that is good: no text of its table is too long, it has at most so many pairs, and its number is one of 64 bits. -/
def GoodR (m : Nat) (r : VRes) : Prop := Vals r.tab ∧ r.tab.length ≤ m ∧ ∀ v ps, r = .ok v ps → InR v
theorem good_no {m : Nat} {ps : List Pr} (h : Vals ps) (hl : ps.length ≤ m) (c : Int) : GoodR m (.no c ps) := ⟨h, hl, by simp⟩
theorem good_ok {m : Nat} {ps : List Pr} (h : Vals ps) (hl : ps.length ≤ m) {n : Int} (hn : InR n) : GoodR m (.ok n ps) := ⟨h, hl, fun v qs h => by cases h; exact hn⟩
theorem good_next {a b : Nat} {r : VRes} {k : Int → List Pr → VRes} (h : GoodR a r) (hab : a ≤ b) (hk : ∀ v ps, Vals ps → ps.length ≤ a → InR v → GoodR b (k v ps)) : GoodR b (r.next k) := by
  cases r with
  | ok v ps => exact hk v ps h.1 h.2.1 (h.2.2 v ps rfl)
  | no c ps => exact good_no h.1 (Nat.le_trans h.2.1 hab) c
theorem good_get {m : Nat} {ps : List Pr} (h : Vals ps) (hl : ps.length ≤ m) (nm : List UInt8) : GoodR m (getR ps nm) := by
  unfold getR
  cases hg : getV ps (nmB nm) with
  | none => exact good_no h hl _
  | some n => exact good_ok h hl (getV_in hg)
theorem setP_good {ps qs : List Pr} {nm v : ByteArray} (h : Vals ps) (hv : v.size ≤ 1000000) (hs : setP ps nm v = some qs) : Vals qs ∧ qs.length ≤ ps.length + 1 := by
  unfold setP at hs
  cases hf : firstP ps nm with
  | none =>
    rw [hf] at hs
    obtain rfl := Option.some.inj hs
    refine ⟨fun p hp => ?_, by simp⟩
    rcases List.mem_append.1 hp with hp | hp
    · exact h p hp
    · simp at hp; subst hp; exact hv
  | some i =>
    have hi := firstP_lt hf
    simp only [hf, List.getElem?_eq_getElem hi] at hs
    split at hs
    · cases hs
    · obtain rfl := Option.some.inj hs
      refine ⟨fun p hp => ?_, by simp⟩
      rcases List.mem_or_eq_of_mem_set hp with hp | rfl
      · exact h p hp
      · exact hv
theorem good_set {m : Nat} {ps : List Pr} (h : Vals ps) (hl : ps.length + 1 ≤ m) (nm : List UInt8) {n : Int} (hn : InR n) : GoodR m (setR ps nm n) := by
  unfold setR
  cases hs : setP ps (nmB nm) ⟨(Lib.itoa n).toArray⟩ with
  | none => exact good_no h (by omega) _
  | some qs =>
    have h1 := setP_good h (by show (Lib.itoa n).toArray.size ≤ _; have := itoa_small hn.1 hn.2; simp; omega) hs
    exact good_ok h1.1 (by omega) hn
theorem good_two {m : Nat} {ps : List Pr} (h : Vals ps) (hl : ps.length ≤ m) (op : List UInt8) {a : Int} (ha : InR a) (b : Int) : GoodR m (twoR op a b ps) := by
  unfold twoR
  cases ht : twoV op a b with
  | none => exact good_no h hl _
  | some n => exact good_ok h hl (twoV_in ha ht)
theorem good_val : ∀ (n : Nat) (x : E) (ps : List Pr), NumE x → Vals ps → GoodR (ps.length + sizeE x) (valueP n x ps)
  | 0, x, ps, _, h => by rw [valueP]; exact good_no h (by omega) _
  | n + 1, .mk op num name kids, ps, hx, h => by
    unfold NumE at hx
    rw [valueP, sizeE]
    unfold stepV
    split
    · exact good_no h (by omega) _
    · split
      · exact good_ok h (by omega) hx.1
      · split
        · exact good_get h (by omega) _
        · split
          · cases kids with
            | nil => exact good_no h (by omega) _
            | cons k ks =>
              have hk := hx.2.mem k List.mem_cons_self
              simp only [sizeL]
              split
              · refine good_next (good_val n k ps hk h) (by omega) fun v qs hq hl hv => ?_
                exact good_set hq (by omega) _ hv
              · refine good_next (good_get (m := ps.length) h (by omega) _) (by omega) fun a qs hq hl ha => ?_
                refine good_next (good_val n k qs hk hq) (by omega) fun b rs hr hl2 hb => ?_
                refine good_next (good_two (m := rs.length) hr (by omega) _ ha b) (by omega) fun v ts ht hl3 hv => ?_
                exact good_set ht (by omega) _ hv
          · match kids, hx.2 with
            | [], _ => exact good_no h (by omega) _
            | [k], hx2 =>
              have hk := hx2.mem k (by simp)
              simp only [sizeL]
              refine good_next (good_val n k ps hk h) (by omega) fun v qs hq hl hv => ?_
              exact good_ok hq (by omega) (oneV_in hv _)
            | a :: b :: rest, hx2 =>
              have ha := hx2.mem a (by simp)
              have hb := hx2.mem b (by simp)
              simp only [sizeL]
              refine good_next (good_val n a ps ha h) (by omega) fun v qs hq hl hv => ?_
              have hgb := good_val n b qs hb hq
              split
              · split
                · exact ⟨hgb.1, by have := hgb.2.1; omega, hgb.2.2⟩
                · cases rest with
                  | nil => exact good_no hq (by omega) _
                  | cons c cs =>
                    have hgc := good_val n c qs (hx2.mem c (by simp)) hq
                    simp only [sizeL]
                    exact ⟨hgc.1, by have := hgc.2.1; omega, hgc.2.2⟩
              · split
                · split
                  · exact good_next hgb (by omega) fun y rs hr hl2 _ => good_ok hr (by omega) (truthI_in _)
                  · exact good_ok hq (by omega) (by unfold InR; omega)
                · split
                  · split
                    · exact good_ok hq (by omega) (by unfold InR; omega)
                    · exact good_next hgb (by omega) fun y rs hr hl2 _ => good_ok hr (by omega) (truthI_in _)
                  · exact good_next hgb (by omega) fun y rs hr hl2 _ => good_two hr (by omega) _ hv _
end Go.Proofs.YtlijlgbaikijnaaGreatDoor
