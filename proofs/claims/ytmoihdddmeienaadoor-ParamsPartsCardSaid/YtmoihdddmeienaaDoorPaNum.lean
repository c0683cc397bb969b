/-
  Numbers of arguments: what digits tell, what strconv.Atoi makes of them, and what is left of digits when digits are trimmed. Conditions: none.
-/
import Derived.Lib.AtoiAll
import Derived.Lib.SlTrimSet
import Derived.Test.YtmoihdddmeienaaDoorGbHead
namespace Go.Proofs.YtmoihdddmeienaaDoor
open Go Go.RowKit

def digB (b : UInt8) : Bool := decide (48 ≤ b.toNat) && decide (b.toNat ≤ 57)
/-- Digits, of which the first one is no 0. -/
def numB : List UInt8 → Bool
  | [] => false
  | b :: l => b != 48 && (b :: l).all digB
def valF (acc : Nat) : List UInt8 → Nat
  | [] => acc
  | c :: r => valF (acc * 10 + (c.toNat - 48)) r
theorem valF_le (acc : Nat) (l : List UInt8) : acc ≤ valF acc l := by
  induction l generalizing acc with
  | nil => exact Nat.le_refl _
  | cons c r ih => exact Nat.le_trans (by omega) (ih _)
theorem valF_append (acc : Nat) (l : List UInt8) (c : UInt8) : valF acc (l ++ [c]) = valF acc l * 10 + (c.toNat - 48) := by
  induction l generalizing acc with
  | nil => rfl
  | cons b r ih => exact ih _
theorem digB_iff (b : UInt8) : digB b = true ↔ 48 ≤ b.toNat ∧ b.toNat ≤ 57 := by unfold digB; simp
theorem parse_val (l : List UInt8) (acc v : Nat) (hv : valF acc l = v) (ha : acc < 18446744073709551616) (h : l.all digB = true) :
    (v < 18446744073709551616 → Lib.parseUint10 acc l = .ok v) ∧ (18446744073709551616 ≤ v → Lib.parseUint10 acc l = .range) := by
  induction l generalizing acc with
  | nil =>
    obtain rfl : acc = v := hv
    exact ⟨fun _ => rfl, fun h => by omega⟩
  | cons c r ih =>
    rw [List.all_cons, Bool.and_eq_true] at h
    have hc := (digB_iff c).1 h.1
    have hv2 : valF (acc * 10 + (c.toNat - 48)) r = v := hv
    have hge := valF_le (acc * 10 + (c.toNat - 48)) r
    rw [hv2] at hge
    have hu : Lib.parseUint10 acc (c :: r) = if 1844674407370955162 ≤ acc then .range else if 18446744073709551616 ≤ acc * 10 + (c.toNat - 48) then .range else Lib.parseUint10 (acc * 10 + (c.toNat - 48)) r := by
      simp only [Lib.parseUint10]
      rw [if_pos hc]
    rw [hu]
    clear hu hv
    obtain ⟨a2, h2⟩ : ∃ a2, acc * 10 + (c.toNat - 48) = a2 := ⟨_, rfl⟩
    have hbig : 1844674407370955162 ≤ acc → 18446744073709551616 ≤ a2 := by omega
    rw [h2] at hv2 hge ⊢
    clear h2
    have hi := ih a2 hv2
    clear ih
    by_cases h1 : 1844674407370955162 ≤ acc
    · rw [if_pos h1]
      have := hbig h1
      exact ⟨fun h => by omega, fun _ => rfl⟩
    · rw [if_neg h1]
      by_cases h2 : 18446744073709551616 ≤ a2
      · rw [if_pos h2]
        exact ⟨fun h => by omega, fun _ => rfl⟩
      · rw [if_neg h2]
        exact hi (by omega) h.2
theorem numB_parts {l : List UInt8} (h : numB l = true) : ∃ b r, l = b :: r ∧ b ≠ 48 ∧ l.all digB = true := by
  cases l with
  | nil => cases h
  | cons b r =>
    simp only [numB, Bool.and_eq_true, bne_iff_ne] at h
    exact ⟨b, r, rfl, h.1, h.2⟩
theorem atoi_val {l : List UInt8} {v : Nat} (hv : valF 0 l = v) (h : numB l = true) : (v < 9223372036854775808 → Lib.atoiAll l = .ok (v : Int)) ∧ (9223372036854775808 ≤ v → Lib.atoiAll l = .range) := by
  obtain ⟨b, r, rfl, _, hall⟩ := numB_parts h
  have hb : 48 ≤ b.toNat ∧ b.toNat ≤ 57 := by
    rw [List.all_cons, Bool.and_eq_true] at hall
    exact (digB_iff b).1 hall.1
  have hp := parse_val (b :: r) 0 v hv (by decide) hall
  have hm : Lib.parseMag (if b.toNat = 43 ∨ b.toNat = 45 then r else b :: r) = Lib.parseUint10 0 (b :: r) := by
    rw [if_neg (by omega)]
    unfold Lib.parseMag
    rw [if_neg (by simp)]
  have hn : ¬ b.toNat = 45 := by omega
  obtain ⟨p1, p2⟩ := hp
  clear hv
  refine ⟨fun h1 => ?_, fun h1 => ?_⟩
  · have hq := p1 (by omega)
    unfold Lib.atoiAll
    simp only [hm, hq]
    rw [if_neg (fun h => by omega), if_neg (fun h => hn h.1), if_neg hn]
  · by_cases h2 : v < 18446744073709551616
    · have hq := p1 h2
      unfold Lib.atoiAll
      simp only [hm, hq]
      rw [if_pos ⟨hn, h1⟩]
    · have hq := p2 (by omega)
      unfold Lib.atoiAll
      simp only [hm, hq]
theorem val_pos {l : List UInt8} (h : numB l = true) : 1 ≤ valF 0 l := by
  obtain ⟨b, r, rfl, h0, hall⟩ := numB_parts h
  have hb : 48 ≤ b.toNat ∧ b.toNat ≤ 57 := by
    rw [List.all_cons, Bool.and_eq_true] at hall
    exact (digB_iff b).1 hall.1
  have hne : b.toNat ≠ 48 := fun e => h0 (by rw [← UInt8.toNat_inj]; exact e)
  have := valF_le (0 * 10 + (b.toNat - 48)) r
  show 1 ≤ valF (0 * 10 + (b.toNat - 48)) r
  omega
def tenB : List UInt8 := [48, 49, 50, 51, 52, 53, 54, 55, 56, 57]
theorem ten_dig (b : UInt8) : tenB.contains b = digB b := by
  have h : ∀ n < 256, tenB.contains (UInt8.ofNat n) = digB (UInt8.ofNat n) := by decide +kernel
  have := h b.toNat b.toNat_lt
  rwa [UInt8.ofNat_toNat] at this
theorem dropWhile_nil {α : Type} (p : α → Bool) (l : List α) : l.dropWhile p = [] ↔ l.all p = true := by
  induction l with
  | nil => simp
  | cons a l ih =>
    rw [List.dropWhile_cons, List.all_cons]
    cases p a <;> simp [ih]
theorem trim_digits (l : List UInt8) : (Lib.trimS l [48, 49, 50, 51, 52, 53, 54, 55, 56, 57] = []) ↔ l.all digB = true := by
  have hf : (fun b => List.contains [48, 49, 50, 51, 52, 53, 54, 55, 56, 57] b) = digB := funext ten_dig
  unfold Lib.trimS Lib.trimLeftS Lib.trimRightS
  rw [show (fun x => List.contains [48, 49, 50, 51, 52, 53, 54, 55, 56, 57] x) = digB from hf, dropWhile_nil]
  rw [List.all_reverse]
  constructor
  · intro h
    rw [← List.all_reverse]
    refine (dropWhile_nil digB l.reverse).1 ?_
    cases hd : l.reverse.dropWhile digB with
    | nil => rfl
    | cons a t =>
      rw [hd, List.all_cons, Bool.and_eq_true] at h
      have := List.head?_dropWhile_not digB l.reverse
      rw [hd] at this
      simp at this
      rw [h.1] at this; cases this
  · intro h
    have := (dropWhile_nil digB l.reverse).2 (by rw [List.all_reverse]; exact h)
    rw [this]; rfl
end Go.Proofs.YtmoihdddmeienaaDoor
