/-
  The number with which a text begins, by the package. Conditions: at most a million bytes.
-/
import Derived.Test.YtlijlgbaikijnaaGreatDoorSmNameLen
import Derived.Deep.CutBlock
import Derived.Deep.CutRange
namespace Go.Proofs.YtlijlgbaikijnaaGreatDoor
open Go Go.RowKit

theorem tl_upto (s : ByteArray) (k : Nat) : tl (s.extract 0 k) = (tl s).take k := by
  simp [tl, ByteArray.data_extract, Array.toList_extract, List.extract]
theorem tl_from (s : ByteArray) (k : Nat) : tl (s.extract k s.size) = (tl s).drop k := by
  have h := Lib.size_eq s
  simp only [tl, ByteArray.data_extract, Array.toList_extract, List.extract]
  exact List.take_of_length_le (by rw [List.length_drop]; omega)
theorem tl_opt (s : ByteArray) (k : Nat) (h : k < s.size) : (tl s)[k]? = some s[k] := by
  rw [← tl_get s k h]; exact List.getElem?_eq_getElem _

set_option maxHeartbeats 1000000 in
set_option maxRecDepth 100000 in
theorem hasZero_any (s : ByteArray) (w : World) (hs : s.size ≤ 1000000) :
    Calls Tryz.prog 55 #[.string s, .string ⟨#[48]⟩] w fun e w' => e = .returned (.bool (decide ((tl s)[0]? = some 48))) ∧ w' = w := by
  have h1 : Calls Tryz.prog 86 #[.string s, .string ⟨#[48]⟩] w fun e w' => e = .returned (.bool (decide ((tl s)[0]? = some 48))) ∧ w' = w := by
    go_enter Tryz.func86, Tryz.ntmps86
    by_cases h : 1 ≤ s.size
    · go_wp2
      go_ret
      refine ⟨ret_bool ?_, rfl⟩
      rw [Lib.toList_data]
      show (tl (s.extract 0 1) == [48]) = _
      rw [tl_upto]
      cases tl s with
      | nil => rfl
      | cons b t => rw [Bool.eq_iff_iff]; simp
    · go_wp2
      go_ret
      refine ⟨ret_bool ?_, rfl⟩
      have : tl s = [] := List.eq_nil_of_length_eq_zero (by rw [tl_len]; omega)
      simp [this]
  go_enter Tryz.func55, Tryz.ntmps55
  go_wp2_with fail
  refine h1.mono ?_
  rintro e w' ⟨rfl, rfl⟩
  go_wp2
  go_ret
  exact ⟨rfl, rfl⟩

theorem headB_cases (l : List UInt8) : headB l = (10, 0) ∨ headB l = (8, 0) ∨ (headB l = (16, 2) ∧ 2 < l.length) := by
  unfold headB
  split
  · split
    · rename_i x d h1 h2
      split
      · have := (List.getElem?_eq_some_iff.1 h2).1
        exact .inr (.inr ⟨rfl, this⟩)
      · exact .inr (.inl rfl)
    · exact .inr (.inl rfl)
  · exact .inl rfl

set_option maxHeartbeats 4000000 in
set_option maxRecDepth 100000 in
theorem digits_any (s : ByteArray) (w : World) (hs : s.size ≤ 1000000) :
    Calls Tryz.prog 27 #[.string s] w fun e w' => e = .returned (.tuple #[.int .u64 ((min (digitsP (tl s)).1 tooBig : Nat) : Int), .int .i64 ((digitsP (tl s)).2 : Int)]) ∧ w' = w := by
  have hz := hasZero_any s w hs
  obtain ⟨B, N0, hH⟩ : ∃ B N0, headB (tl s) = (B, N0) := ⟨_, _, rfl⟩
  have hB : (B = 8 ∨ B = 10 ∨ B = 16) ∧ N0 ≤ s.size := by
    have hl := tl_len s
    rcases headB_cases (tl s) with h | h | ⟨h, h2⟩
    all_goals
      rw [hH] at h
      injection h with h1 h2'
      omega
  obtain ⟨V, N, hP⟩ : ∃ V N, digitsP (tl s) = (V, N) := ⟨_, _, rfl⟩
  rw [hP]
  have hP2 : V = valB B (digRun B ((tl s).drop N0)) ∧ N = N0 + (digRun B ((tl s).drop N0)).length := by
    unfold digitsP at hP
    rw [hH] at hP
    injection hP with h1 h2
    exact ⟨h1.symm, h2.symm⟩
  obtain ⟨M, hM⟩ : ∃ M, min V tooBig = M := ⟨_, rfl⟩
  rw [hM]
  have hP3 : Hid (M = min (valB B (digRun B ((tl s).drop N0))) tooBig ∧ N = N0 + (digRun B ((tl s).drop N0)).length) := ⟨by rw [← hM, hP2.1], hP2.2⟩
  have hH2 := Lib.hid hH
  clear hP hP2 hH hM
  go_enter Tryz.func27, Tryz.ntmps27
  obtain ⟨b0, hb0⟩ : ∃ b0, decide ((tl s)[0]? = some 48) = b0 := ⟨_, rfl⟩
  rw [hb0] at hz
  have hb0 := Lib.hid hb0
  go_wp2_with fail
  refine hz.mono ?_
  rintro e w1 ⟨rfl, rfl⟩
  clear hz
  go_upto_if 8 with fail
  go_cut [4, 5] from 9 to 27 (fun bv nv wx => wx = w1 ∧ bv = .int .u64 (B : Int) ∧ nv = .int .i64 (N0 : Int))
  case first =>
    by_cases h0 : (tl s)[0]? = some 48
    · obtain rfl : b0 = true := by rw [← hb0.out, decide_eq_true h0]
      by_cases h2 : 2 < s.size
      · have hh : headB (tl s) = if (s[1] = 120 ∨ s[1] = 88) ∧ digV s[2] < 16 then (16, 2) else (8, 0) := by
          unfold headB; rw [if_pos h0, tl_opt s 1 (by omega), tl_opt s 2 h2]
        rw [hH2.out] at hh
        have hdg := digit_any s[2] w1
        by_cases hx : s[1] = 120 ∨ s[1] = 88
        · by_cases hd : digV s[2] < 16
          · rw [if_pos ⟨hx, hd⟩] at hh
            obtain ⟨rfl, rfl⟩ := Prod.mk.inj hh
            clear hh h0 hb0 hH2 hP3
            rcases hx with hx | hx
            · have i1 : (s[1].toNat : Int) = 120 := by rw [hx]; rfl
              have i3 : (digV s[2] : Int) < 16 := by omega
              clear hx
              go_wp2_with fail
              refine hdg.mono ?_
              rintro e w2 ⟨rfl, rfl⟩
              go_wp2
              go_meet
              case rel => exact ⟨rfl, rfl, rfl⟩
            · have i1 : (s[1].toNat : Int) = 88 := by rw [hx]; rfl
              have i3 : (digV s[2] : Int) < 16 := by omega
              clear hx
              go_wp2_with fail
              refine hdg.mono ?_
              rintro e w2 ⟨rfl, rfl⟩
              go_wp2
              go_meet
              case rel => exact ⟨rfl, rfl, rfl⟩
          · rw [if_neg (fun h => hd h.2)] at hh
            obtain ⟨rfl, rfl⟩ := Prod.mk.inj hh
            clear hh h0 hb0 hH2 hP3
            rcases hx with hx | hx
            · have i1 : (s[1].toNat : Int) = 120 := by rw [hx]; rfl
              have i3 : ¬ (digV s[2] : Int) < 16 := by omega
              clear hx
              go_wp2_with fail
              refine hdg.mono ?_
              rintro e w2 ⟨rfl, rfl⟩
              go_wp2
              go_meet
              case rel => exact ⟨rfl, rfl, rfl⟩
            · have i1 : (s[1].toNat : Int) = 88 := by rw [hx]; rfl
              have i3 : ¬ (digV s[2] : Int) < 16 := by omega
              clear hx
              go_wp2_with fail
              refine hdg.mono ?_
              rintro e w2 ⟨rfl, rfl⟩
              go_wp2
              go_meet
              case rel => exact ⟨rfl, rfl, rfl⟩
        · rw [if_neg (fun h => hx h.1)] at hh
          obtain ⟨rfl, rfl⟩ := Prod.mk.inj hh
          have i1 : ¬ (s[1].toNat : Int) = 120 := fun h => hx (.inl (UInt8.toNat_inj.1 (by show s[1].toNat = 120; omega)))
          have i2 : ¬ (s[1].toNat : Int) = 88 := fun h => hx (.inr (UInt8.toNat_inj.1 (by show s[1].toNat = 88; omega)))
          clear hh h0 hb0 hH2 hP3 hdg hx
          go_wp2
          go_meet
          case rel => exact ⟨rfl, rfl, rfl⟩
      · have hh : headB (tl s) = (8, 0) := by
          have e2 : (tl s)[2]? = none := List.getElem?_eq_none (by rw [tl_len]; omega)
          unfold headB; rw [if_pos h0, e2]
          split
          · rename_i h9; cases h9
          · rfl
        rw [hH2.out] at hh
        obtain ⟨rfl, rfl⟩ := Prod.mk.inj hh
        clear hh h0 hb0 hH2 hP3
        go_wp2
        go_meet
        case rel => exact ⟨rfl, rfl, rfl⟩
    · obtain rfl : b0 = false := by rw [← hb0.out, decide_eq_false h0]
      have hh : headB (tl s) = (10, 0) := by unfold headB; rw [if_neg h0]
      rw [hH2.out] at hh
      obtain ⟨rfl, rfl⟩ := Prod.mk.inj hh
      clear hh h0 hb0 hH2 hP3
      go_wp2
      go_meet
      case rel => exact ⟨rfl, rfl, rfl⟩
  case rest =>
    obtain ⟨rfl, rfl, rfl⟩ := hcut
    clear hH2 hb0
    obtain ⟨L, hL⟩ : ∃ L, (tl s).drop N0 = L := ⟨_, rfl⟩
    rw [hL] at hP3
    have hLl : L.length = s.size - N0 := by rw [← hL, List.length_drop, tl_len]
    have hLg : ∀ k (h : N0 + k < s.size) (h2 : k < L.length), L[k] = s[N0 + k] := fun k h h2 => by subst hL; rw [List.getElem_drop]; exact tl_get s _ h
    have hLg := Lib.hid hLg
    have hLl := Lib.hid hLl
    clear hL
    go_wp2
    go_loopw [5, 6] (fun nv vv wr => ∃ n v : Nat, n ≤ s.size ∧ nv = .int .i64 (n : Int) ∧ vv = .int .u64 (v : Int) ∧ v ≤ 9223372036854775809 ∧ wr = wc ∧ Hid (∃ k, N0 + k = n ∧ v = min (valB B (L.take k)) tooBig ∧ ∀ j (hj : j < L.length), j < k → digV L[j] < B)) (fun nv _ _ => s.size - (intOf nv).toNat)
    case atStart => exact ⟨N0, 0, by omega, rfl, rfl, by omega, rfl, 0, rfl, rfl, fun j _ h => absurd h (by omega)⟩
    case round =>
      obtain ⟨n, v, hn, rfl, rfl, hv, rfl, hinv⟩ := hrel
      by_cases hlt : n < s.size
      · have hdg := fun W => digit_any s[n] W
        have hdv := digV_le s[n]
        have hnext : Hid (digV s[n] < B → (∃ k, N0 + k = n + 1 ∧ (if tooBig / B < v then tooBig else min (v * B + digV s[n]) tooBig) = min (valB B (L.take k)) tooBig ∧ ∀ j (hj : j < L.length), j < k → digV L[j] < B)) := fun hd => by
          obtain ⟨k, hk, hval, hall⟩ := hinv.out
          have hkL : k < L.length := by have := hLl.out; omega
          have hc := hLg.out k (by omega) hkL
          have hc2 : L[k] = s[n] := by rw [hc]; congr 1
          have hst := sat_step B (valB B (L.take k)) (digV s[n]) (by omega)
          rw [← hc2, ← valB_take B L k hkL, hc2, ← hval] at hst
          refine ⟨k + 1, by omega, hst.symm, fun j hj hjk => ?_⟩
          by_cases e : j = k
          · subst e; rw [hc2]; exact hd
          · exact hall j hj (by omega)
        have hstop : Hid (¬ digV s[n] < B → M = v ∧ N = n) := fun hd => by
          obtain ⟨k, hk, hval, hall⟩ := hinv.out
          have hkL : k < L.length := by have := hLl.out; omega
          have hc := hLg.out k (by omega) hkL
          have hc2 : L[k] = s[n] := by rw [hc]; congr 1
          have hr := run_stop hkL hall (by rw [hc2]; exact hd)
          exact ⟨by rw [hP3.out.1, hval, hr], by rw [hP3.out.2, hr, List.length_take]; omega⟩
        clear hinv hP3
        generalize hdd : digV s[n] = dd at hdg hdv hnext hstop
        clear hdd
        by_cases hd : dd < B
        · have i1 : (dd : Int) < (B : Int) := by omega
          have hnext := Lib.hid (hnext.out hd)
          clear hstop hd
          by_cases hq : tooBig / B < v
          · rw [if_pos hq] at hnext
            have i2 : (9223372036854775809 : Int) / (B : Int) < (v : Int) := by
              have h9 : ((9223372036854775809 / B : Nat) : Int) < (v : Int) := by have : 9223372036854775809 / B < v := hq; omega
              rwa [Int.natCast_ediv] at h9
            clear hq hB
            go_wp2_with fail
            refine (hdg _).mono ?_
            rintro e w2 ⟨rfl, rfl⟩
            clear hdg
            go_wp2
            go_roundw
            case rel => exact ⟨n + 1, 9223372036854775809, by omega, by go_num, rfl, by omega, trivial, hnext⟩
            case measure => simp [intOf]; omega
          · rw [if_neg hq] at hnext
            have i2 : ¬ (9223372036854775809 : Int) / (B : Int) < (v : Int) := by
              have h9 : ¬ ((9223372036854775809 / B : Nat) : Int) < (v : Int) := by have : ¬ 9223372036854775809 / B < v := hq; omega
              rwa [Int.natCast_ediv] at h9
            have hP : v * B ≤ 9223372036854775809 := by
              have h9 : v ≤ 9223372036854775809 / B := by have : ¬ 9223372036854775809 / B < v := hq; omega
              exact Nat.le_trans (Nat.mul_le_mul_right B h9) (Nat.div_mul_le_self _ _)
            obtain ⟨P, hPP⟩ : ∃ P, v * B = P := ⟨_, rfl⟩
            rw [hPP] at hP hnext
            have k5 : IntKind.u64.wrap ((v : Int) * (B : Int)) = (P : Int) := by
              have h9 : (v : Int) * (B : Int) = (P : Int) := by rw [← hPP, Int.natCast_mul]
              rw [h9]
              exact IntWalk.u64_in _ (by omega)
            clear hq hB hPP
            by_cases h9 : 9223372036854775809 < P + dd
            · have hnext : Hid (∃ k, N0 + k = n + 1 ∧ 9223372036854775809 = min (valB B (L.take k)) tooBig ∧ ∀ j (hj : j < L.length), j < k → digV L[j] < B) := by
                have h8 : min (P + dd) tooBig = 9223372036854775809 := by unfold tooBig; omega
                rw [h8] at hnext; exact hnext
              have k6 : IntKind.u64.wrap ((P : Int) + (dd : Int)) = ((P + dd : Nat) : Int) := by rw [Int.natCast_add]; exact IntWalk.u64_in _ (by omega)
              go_wp2_with fail
              refine (hdg _).mono ?_
              rintro e w2 ⟨rfl, rfl⟩
              go_wp2_with fail
              refine (hdg _).mono ?_
              rintro e w2 ⟨rfl, rfl⟩
              clear hdg
              go_wp2
              go_roundw
              case rel => exact ⟨n + 1, 9223372036854775809, by omega, by go_num, rfl, by omega, trivial, hnext⟩
              case measure => simp [intOf]; omega
            · have hnext : Hid (∃ k, N0 + k = n + 1 ∧ P + dd = min (valB B (L.take k)) tooBig ∧ ∀ j (hj : j < L.length), j < k → digV L[j] < B) := by
                have h8 : min (P + dd) tooBig = P + dd := by unfold tooBig; omega
                rw [h8] at hnext; exact hnext
              have k6 : IntKind.u64.wrap ((P : Int) + (dd : Int)) = ((P + dd : Nat) : Int) := by rw [Int.natCast_add]; exact IntWalk.u64_in _ (by omega)
              go_wp2_with fail
              refine (hdg _).mono ?_
              rintro e w2 ⟨rfl, rfl⟩
              go_wp2_with fail
              refine (hdg _).mono ?_
              rintro e w2 ⟨rfl, rfl⟩
              clear hdg
              go_wp2
              go_roundw
              case rel => exact ⟨n + 1, P + dd, by omega, by go_num, by go_num, by omega, trivial, hnext⟩
              case measure => simp [intOf]; omega
        · obtain ⟨rfl, rfl⟩ := hstop.out hd
          have i1 : ¬ (dd : Int) < (B : Int) := by omega
          clear hstop hnext hd
          go_wp2_with fail
          refine (hdg _).mono ?_
          rintro e w2 ⟨rfl, rfl⟩
          go_wp2
          go_ret2
          exact ⟨rfl, rfl⟩
      · obtain rfl : n = s.size := by omega
        obtain ⟨rfl, rfl⟩ : M = v ∧ N = s.size := by
          obtain ⟨k, hk, hval, hall⟩ := hinv.out
          have hr : digRun B L = L := run_all (fun j hj => hall j hj (by have := hLl.out; omega))
          have hk2 : k = L.length := by have := hLl.out; omega
          exact ⟨by rw [hP3.out.1, hval, hr, hk2, List.take_length], by rw [hP3.out.2, hr]; omega⟩
        clear hP3 hinv
        go_wp2
        go_ret2
        exact ⟨rfl, rfl⟩
end Go.Proofs.YtlijlgbaikijnaaGreatDoor
