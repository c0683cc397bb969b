/-
  Chomp (of the package and of the reference) takes the line feeds at the end away. Conditions: at most a million bytes.
-/
import Derived.Test.YtdiiimcoannnnaaDoorMkShelf
import Derived.Test.YtdiiimcoannnnaaDoorMkWords
import Derived.Lib.Strings
namespace Go.Proofs.YtdiiimcoannnnaaDoor
open Go Go.RowKit

def chompS (s : ByteArray) : ByteArray := ⟨(Lib.trimRightB s.data.toList 10).toArray⟩

theorem chomp_any (s : ByteArray) (w : World) (hs : s.size ≤ 1000000) :
    Calls Tryd.prog 32 #[.string s] w fun e w' => e = .returned (.string (chompS s)) ∧ w' = w := by
  go_enter Tryd.func32, Tryd.ntmps32
  go_wp2_with fail
  refine (trimRight s 10 (by decide) _ (by omega)).mono ?_
  rintro e w1 ⟨rfl, rfl⟩
  go_wp2
  go_ret
  exact ⟨rfl, rfl⟩

theorem list_data (t : ByteArray) : t.toList = t.data.toList := by
  exact Lib.toList_data t
theorem chompS_empty {t : ByteArray} (h : t.size = 0) : chompS t = t := by
  have : t.data = #[] := Array.eq_empty_of_size_eq_zero h
  cases t
  simp only at this
  subst this
  rfl
theorem chomp_snoc (l : List UInt8) : Lib.trimRightB (l ++ [10]) 10 = Lib.trimRightB l 10 := by simp [Lib.trimRightB]
theorem chomp_stop (l : List UInt8) (x : UInt8) (h : ¬ x = 10) : Lib.trimRightB (l ++ [x]) 10 = l ++ [x] := by simp [Lib.trimRightB, h]
theorem data_last {t : ByteArray} (h : 0 < t.size) : t.data.toList = (t.extract 0 (t.size - 1)).data.toList ++ [t[t.size - 1]'(by omega)] := by
  rw [Lib.extract_data, List.drop_zero, Nat.sub_zero]
  have h1 : t.data.toList.length = t.size := by simp
  have h2 := List.take_succ_eq_append_getElem (l := t.data.toList) (i := t.size - 1) (by omega)
  rw [show t.size - 1 + 1 = t.data.toList.length by omega, List.take_length] at h2
  exact h2
theorem chompS_cut {t : ByteArray} (h : 0 < t.size) (hx : t[t.size - 1]'(by omega) = 10) : chompS (t.extract 0 (t.size - 1)) = chompS t := by
  unfold chompS
  rw [data_last h, hx, chomp_snoc]
theorem chompS_stop {t : ByteArray} (h : 0 < t.size) (hx : ¬ t[t.size - 1]'(by omega) = 10) : chompS t = t := by
  have h0 := data_last h
  have : chompS t = ⟨t.data.toList.toArray⟩ := by
    unfold chompS
    rw [h0, chomp_stop _ _ hx]
  rw [this]

set_option maxHeartbeats 400000 in
theorem rchomp_any (s : ByteArray) (w : World) (hs : s.size ≤ 1000000) :
    Calls Tryd.prog 33 #[.string s] w fun e w' => e = .returned (.string (chompS s)) ∧ w' = w := by
  go_enter Tryd.func33, Tryd.ntmps33
  go_wp2
  go_loop [0] (fun v => ∃ t : ByteArray, v = .string t ∧ t.size ≤ 1000000 ∧ Hid (chompS t = chompS s)) (fun v => match v with | .string t => t.size | _ => 0)
  case atStart => exact ⟨s, rfl, hs, rfl⟩
  case round =>
    obtain ⟨t, rfl, ht, hc⟩ := hrel
    by_cases h0 : t.size = 0
    · have e0 : t.toList = [] := by rw [list_data]; exact List.eq_nil_of_length_eq_zero (by simpa using h0)
      have H0 := Lib.hid h0
      clear h0
      go_wp2
      all_goals
        go_ret
        exact ⟨ret_str (by rw [← hc.out, chompS_empty H0.out]), rfl⟩
    · have hpos : 0 < t.size := by omega
      have e0 : t.toList ≠ [] := by
        rw [list_data]; intro h
        have : t.size = 0 := by rw [Lib.size_eq, h]; rfl
        omega
      have e1 : t.toList.isEmpty = false := by simpa using e0
      have hcut := Lib.hid (@chompS_cut t hpos)
      have hstop := Lib.hid (@chompS_stop t hpos)
      have hext : (t.extract 0 (t.size - 1)).size = t.size - 1 := by simp [ByteArray.size_extract]
      have HE := Lib.hid hext
      clear hext h0
      by_cases hx : t[t.size - 1]'(by omega) = 10
      · have e2 : ((t[t.size - 1]'(by omega)).toNat : Int) = 10 := by rw [hx]; rfl
        have H2 := Lib.hid hx
        clear hx
        go_wp2
        go_round
        case rel => exact ⟨_, rfl, by rw [HE.out]; omega, by rw [hcut.out H2.out, hc.out]; rfl⟩
        case measure => simp only; rw [HE.out]; omega
      · have e2 : (((t[t.size - 1]'(by omega)).toNat : Int) == 10) = false := by
          rw [beq_eq_false_iff_ne]; intro h
          exact hx (UInt8.toNat.inj (by have : (10 : UInt8).toNat = 10 := rfl; omega))
        have H2 := Lib.hid hx
        clear hx
        go_wp2
        go_ret
        exact ⟨ret_str (by rw [← hc.out, hstop.out H2.out]), rfl⟩
end Go.Proofs.YtdiiimcoannnnaaDoor
