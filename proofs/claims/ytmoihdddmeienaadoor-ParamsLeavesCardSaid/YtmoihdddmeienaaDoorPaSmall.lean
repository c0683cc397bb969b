/-
  The package's Status (of up to 99), Choose where a value counts, the document's Text of such a number, and the law's few. Conditions: as said.
-/
import Derived.Test.YtmoihdddmeienaaDoorPaArg
import Derived.Lib.ConvBytes
import Derived.Laws.BytesString
import Derived.Laws.Concat
namespace Go.Proofs.YtmoihdddmeienaaDoor
open Go Go.RowKit

theorem status_any (n : Nat) (hn : n < 100) (w : World) :
    Calls Tryd.prog 12 #[.int .i64 n] w fun e w' => e = .returned (.string ⟨(Lib.decDigits n).toArray⟩) ∧ w = w' := by
  have h := Tryd.strconv_Itoa_small n hn
  generalize (⟨(Lib.decDigits n).toArray⟩ : ByteArray) = r at h ⊢
  go_enter Tryd.func12, Tryd.ntmps12
  go_wp2_with fail
  refine (h _).mono ?_
  rintro e w1 ⟨rfl, hw⟩
  subst hw
  go_wp2
  go_ret
  exact ⟨rfl, rfl⟩

def fewL (l : List ByteArray) : Bool := decide (l.length ≤ 30) && l.all fun s => decide (s.size ≤ 100)
theorem fewL_parts {l : List ByteArray} (h : fewL l = true) : l.length ≤ 30 ∧ ∀ k (hk : k < l.length), (l[k]).size ≤ 100 := by
  unfold fewL at h
  simp only [Bool.and_eq_true, decide_eq_true_eq, List.all_eq_true] at h
  exact ⟨h.1, fun k hk => h.2 _ (List.getElem_mem hk)⟩
set_option maxHeartbeats 1000000 in
set_option maxRecDepth 100000 in
theorem few_any (l : List ByteArray) (v : Value) (B : Nat) (w : World) (ht : Ls w B v l) :
    Calls Tryd.prog 6 #[v] w fun e w' => e = .returned (.bool (fewL l)) ∧ w = w' := by
  obtain ⟨A, c, rfl, hc, hcm⟩ := ht.form
  unfold maxLen at hcm
  obtain ⟨R, hR⟩ : ∃ R, fewL l = R := ⟨_, rfl⟩
  rw [hR]
  by_cases h30 : l.length ≤ 30
  · have hbad : Hid (∀ k (hk : k < l.length), ¬ (l[k]).size ≤ 100 → R = false) := Lib.hid (fun k hk h => by
      rw [← hR]
      unfold fewL
      have : (l.all fun s => decide (s.size ≤ 100)) = false := by
        rw [List.all_eq_false]
        exact ⟨l[k], List.getElem_mem hk, by simpa using h⟩
      rw [this, Bool.and_false])
    have hgood : Hid ((l.take l.length).all (fun s => decide (s.size ≤ 100)) = true → R = true) := Lib.hid (fun h => by
      rw [← hR]
      unfold fewL
      rw [List.take_length] at h
      rw [h]; simpa using h30)
    have hcell : Hid (∀ k (hk : k < l.length), ∃ b off : Nat, A = some ⟨b, off, none⟩ ∧ w.cell? ⟨b, off + k, none⟩ = some (.string l[k])) := Lib.hid (fun k hk => by
      obtain ⟨b, off, hA, _, hc⟩ := ht.at_ (by omega)
      exact ⟨b, off, hA, hc k hk⟩)
    clear ht hR
    go_enter Tryd.func6, Tryd.ntmps6
    go_wp2
    go_loop [3] (fun i => ∃ k : Nat, k ≤ l.length ∧ i = .int .i64 k ∧ Hid ((l.take k).all (fun s => decide (s.size ≤ 100)) = true)) (fun i => l.length - (intOf i).toNat)
    case atStart => exact ⟨0, Nat.zero_le _, rfl, Lib.hid rfl⟩
    case round =>
      obtain ⟨k, hk, rfl, hA⟩ := hrel
      by_cases hlt : k < l.length
      · obtain ⟨b, off, rfl, hc0⟩ := hcell.out k hlt
        have hb2 := hbad.out k hlt
        have hnx : (l[k]).size ≤ 100 → Hid ((l.take (k + 1)).all (fun s => decide (s.size ≤ 100)) = true) := fun h => Lib.hid (by
          rw [List.take_add_one, List.getElem?_eq_getElem hlt, List.all_append, hA.out]
          simpa using h)
        generalize l[k] = x at hc0 hb2 hnx
        by_cases hx : x.size ≤ 100
        · have hnx := hnx hx
          clear hcell hbad hgood hb2
          go_wp2
          go_round
          case rel => exact ⟨k + 1, by omega, by go_num, hnx⟩
          case measure => simp [intOf]; omega
        · have hb2 := hb2 hx
          subst hb2
          clear hcell hbad hgood hnx
          go_wp2
          go_ret
          exact ⟨rfl, rfl⟩
      · obtain rfl : k = l.length := by omega
        have hg := hgood.out hA.out
        subst hg
        clear hcell hbad hgood hA
        go_wp2
        go_ret
        exact ⟨rfl, rfl⟩
  · have : R = false := by rw [← hR]; unfold fewL; simp [h30]
    subst this
    clear ht hR
    go_enter Tryd.func6, Tryd.ntmps6
    go_wp2
    go_ret
    exact ⟨rfl, rfl⟩
set_option maxHeartbeats 1000000 in
set_option maxRecDepth 100000 in
theorem choose_a (w : World) : Calls Tryd.prog 18 #[.int .i64 2, .bool true, .bool true, .string ⟨#[]⟩] w fun e w' => e = .returned (.int .i64 2) ∧ Below w.heap.size w w' := by
  go_enter Tryd.func18, Tryd.ntmps18
  go_wp2
  go_ret
  exact ⟨rfl, (((Below.refl _ _).alloc (Nat.le_refl _) _).alloc (by simp) _).alloc (by simp; omega) _⟩
set_option maxHeartbeats 1000000 in
set_option maxRecDepth 100000 in
theorem choose_b (w : World) : Calls Tryd.prog 18 #[.int .i64 2, .bool false, .bool true, .string ⟨#[]⟩] w fun e w' => e = .returned (.int .i64 1) ∧ Below w.heap.size w w' := by
  go_enter Tryd.func18, Tryd.ntmps18
  go_wp2
  go_ret
  exact ⟨rfl, (((Below.refl _ _).alloc (Nat.le_refl _) _).alloc (by simp) _).alloc (by simp; omega) _⟩
set_option maxHeartbeats 1000000 in
set_option maxRecDepth 100000 in
theorem choose_c (w : World) : Calls Tryd.prog 18 #[.int .i64 5, .bool true, .bool true, .string ⟨#[]⟩] w fun e w' => e = .returned (.int .i64 4) ∧ Below w.heap.size w w' := by
  go_enter Tryd.func18, Tryd.ntmps18
  go_wp2
  go_ret
  exact ⟨rfl, (((Below.refl _ _).alloc (Nat.le_refl _) _).alloc (by simp) _).alloc (by simp; omega) _⟩
end Go.Proofs.YtmoihdddmeienaaDoor
