/-
  The document's answer to Arg. Conditions: at most a million arguments and bytes.
-/
import Derived.Test.YtmoihdddmeienaaDoorPaArg
namespace Go.Proofs.YtmoihdddmeienaaDoor
open Go Go.RowKit

set_option maxHeartbeats 1000000 in
theorem rDigit_any (b : UInt8) (w : World) : Calls Tryd.prog 21 #[.int .u8 (b.toNat : Int)] w fun e w' => e = .returned (.bool (digB b)) ∧ w = w' := by
  by_cases h1 : 48 ≤ b.toNat
  · by_cases h2 : b.toNat ≤ 57
    · have hd : digB b = true := (digB_iff b).2 ⟨h1, h2⟩
      have i1 : (48 : Int) ≤ (b.toNat : Int) := by omega
      have i2 : (b.toNat : Int) ≤ 57 := by omega
      rw [hd]
      go_enter Tryd.func21, Tryd.ntmps21
      go_wp2
      go_ret
      exact ⟨rfl, rfl⟩
    · have hd : digB b = false := by unfold digB; simp [h2]
      have i1 : (48 : Int) ≤ (b.toNat : Int) := by omega
      have i2 : ¬ (b.toNat : Int) ≤ 57 := by omega
      have i3 : decide ((b.toNat : Int) ≤ 57) = false := by simpa using i2
      rw [hd]
      go_enter Tryd.func21, Tryd.ntmps21
      go_wp2
      go_ret
      exact ⟨rfl, rfl⟩
  · have hd : digB b = false := by unfold digB; simp [h1]
    have i1 : ¬ (48 : Int) ≤ (b.toNat : Int) := by omega
    have i3 : decide ((48 : Int) ≤ (b.toNat : Int)) = false := by simpa using i1
    rw [hd]
    go_enter Tryd.func21, Tryd.ntmps21
    go_wp2
    go_ret
    exact ⟨rfl, rfl⟩

/-- What the digits so far may have come to: their number, or one that is too great already. -/
def CountR (len n : Nat) (l : List UInt8) : Prop := n ≤ 10 * len + 9 ∧ (n = valF 0 l ∨ (len < n ∧ n ≤ valF 0 l))
theorem countR_step {len n : Nat} {l : List UInt8} {c : UInt8} (h : CountR len n l) (hc : digB c = true) (hle : n ≤ len) : CountR len (10 * n + (c.toNat - 48)) (l ++ [c]) := by
  have h2 := (digB_iff c).1 hc
  obtain ⟨h3, h4⟩ := h
  refine ⟨by omega, ?_⟩
  rw [valF_append]
  rcases h4 with rfl | h4
  · exact .inl (by omega)
  · omega
theorem countR_stay {len n : Nat} {l : List UInt8} {c : UInt8} (h : CountR len n l) (hle : ¬ n ≤ len) : CountR len n (l ++ [c]) := by
  obtain ⟨h3, h4⟩ := h
  refine ⟨h3, .inr ⟨by omega, ?_⟩⟩
  rw [valF_append]
  rcases h4 with rfl | ⟨_, h4⟩ <;> omega
theorem numB_bad {s : List UInt8} {i : Nat} {c : UInt8} (h : s[i]? = some c) (hc : digB c = false) : numB s = false := by
  cases s with
  | nil => rfl
  | cons b r =>
    have : (b :: r).all digB = false := by
      rw [List.all_eq_false]
      exact ⟨c, List.mem_of_getElem? h, by simp [hc]⟩
    simp only [numB, this, Bool.and_false]
theorem numB_zero {s : List UInt8} (h : s[0]? = some 48) : numB s = false := by
  cases s with
  | nil => rfl
  | cons b r =>
    have : b = 48 := by simpa using h
    subst this; rfl

set_option maxHeartbeats 2000000 in
set_option maxRecDepth 100000 in
theorem rArg_any (l : List ByteArray) (s : ByteArray) (v : Value) (B : Nat) (w : World) (ht : Ls w B v l) (hs : s.size ≤ 1000000) (hl : l.length ≤ 1000000) :
    Calls Tryd.prog 9 #[v, .string s] w fun e w' => e = .returned (.tuple #[.string (argP l (bl s)).1, .bool (argP l (bl s)).2.1, .int .i64 (argP l (bl s)).2.2]) ∧ w = w' := by
  obtain ⟨A, c, rfl, hc, hcm⟩ := ht.form
  unfold maxLen at hcm
  obtain ⟨R, hR⟩ : ∃ R, argP l (bl s) = R := ⟨_, rfl⟩
  have hno : numB (bl s) = false → R = (⟨#[]⟩, false, 1) := by
    intro h
    rw [← hR]
    unfold argP
    rw [if_neg (by rw [h]; simp)]
  have hmany : numB (bl s) = true → l.length < valF 0 (bl s) → R = (⟨#[]⟩, false, 0) := by
    intro h h2
    rw [← hR]
    unfold argP
    rw [if_pos h, if_pos h2]
  have hyes : numB (bl s) = true → (h2 : valF 0 (bl s) ≤ l.length) → ∃ (k : Nat) (hk : k < l.length), k + 1 = valF 0 (bl s) ∧ R = (l[k], true, 0) := by
    intro h h2
    have hp := val_pos h
    refine ⟨valF 0 (bl s) - 1, by omega, by omega, ?_⟩
    rw [← hR]
    unfold argP
    rw [if_pos h, if_neg (by omega)]
    have hk : valF 0 (bl s) - 1 < l.length := by omega
    simp [hk]
  rw [hR]
  clear hR
  replace hno := Lib.hid hno
  replace hmany := Lib.hid hmany
  replace hyes := Lib.hid hyes
  replace ht := Lib.hid ht
  go_enter Tryd.func9, Tryd.ntmps9
  go_wp2
  go_loop [7, 8] (fun n i => ∃ (x k : Nat), k ≤ s.size ∧ n = .int .i64 x ∧ i = .int .i64 k ∧ x ≤ 10 * l.length + 9 ∧ Hid (CountR l.length x ((bl s).take k)) ∧ Hid (((bl s).take k).all digB = true) ∧ Hid (0 < k → ∀ h : 0 < s.size, s[0] ≠ 48)) (fun _ i => s.size - (intOf i).toNat)
  case atStart => exact ⟨0, 0, Nat.zero_le _, rfl, rfl, by omega, Lib.hid ⟨by omega, .inl rfl⟩, Lib.hid rfl, Lib.hid (fun h => absurd h (by omega))⟩
  case round =>
    obtain ⟨x, k, hk, rfl, rfl, hx, hC, hD, hZ⟩ := hrel
    by_cases hlt : k < s.size
    · have hget := bl_get s k hlt
      have hg0 := bl_get s 0 (by omega)
      have h0lt : 0 < s.size := by omega
      have hdig := rDigit_any s[k]
      have htk : (bl s).take (k + 1) = (bl s).take k ++ [s[k]] := by
        rw [List.take_add_one, hget]; rfl
      cases hdg : digB s[k] with
      | false =>
        have hr := hno.out (numB_bad hget hdg)
        rw [hdg] at hdig
        clear hget hg0 htk hdg hno hmany hyes
        go_wp2_with fail
        refine (hdig _).mono ?_
        rintro e w1 ⟨rfl, rfl⟩
        clear hdig
        go_wp2
        subst hr
        exact bodyPost_ret (v := .tuple #[.string ⟨#[]⟩, .bool false, .int .i64 1]) (by simp [results, Tryd.results9, go_sem]) rfl ⟨rfl, rfl⟩
      | true =>
        rw [hdg] at hdig
        by_cases hz : s[0] = 48
        · have hr := hno.out (numB_zero (by rw [hg0, hz]))
          have hz1 : ((s[0]'h0lt).toNat : Int) = 48 := by rw [hz]; rfl
          clear hget hg0 htk hdg hno hmany hyes hz
          go_wp2_with fail
          refine (hdig _).mono ?_
          rintro e w1 ⟨rfl, rfl⟩
          clear hdig
          go_wp2
          subst hr
          exact bodyPost_ret (v := .tuple #[.string ⟨#[]⟩, .bool false, .int .i64 1]) (by simp [results, Tryd.results9, go_sem]) rfl ⟨rfl, rfl⟩
        · have hz1 : ¬ ((s[0]'h0lt).toNat : Int) = 48 := by
            intro h
            exact hz (by rw [← UInt8.toNat_inj]; exact_mod_cast h)
          have hz2 : (((s[0]'h0lt).toNat : Int) == 48) = false := by simpa using hz1
          have hd2 := (digB_iff s[k]).1 hdg
          have hD2 : Hid (((bl s).take (k + 1)).all digB = true) := Lib.hid (by rw [htk, List.all_append, hD.out]; simp [hdg])
          have hZ2 : Hid (0 < k + 1 → ∀ h : 0 < s.size, s[0] ≠ 48) := Lib.hid (fun _ _ => hz)
          have hcs : x ≤ l.length → Hid (CountR l.length (10 * x + ((s[k]).toNat - 48)) ((bl s).take (k + 1))) := fun h => Lib.hid (by rw [htk]; exact countR_step hC.out hdg h)
          have hcn : ¬ x ≤ l.length → Hid (CountR l.length x ((bl s).take (k + 1))) := fun h => Lib.hid (by rw [htk]; exact countR_stay hC.out h)
          clear hget hg0 htk hdg hz hC hD hZ
          by_cases hxl : x ≤ l.length
          · have hcs2 := hcs hxl
            obtain ⟨d, hd⟩ : ∃ d : Nat, (s[k]).toNat - 48 = d := ⟨_, rfl⟩
            have hd4 : d ≤ 9 := by omega
            have hd3 : IntKind.u8.wrap (((s[k]).toNat : Int) - 48) = (d : Int) := by
              have : ((s[k]).toNat : Int) - 48 = (d : Int) := by omega
              rw [this]
              have e : IntKind.u8.wrap (d : Int) = (d : Int) % 256 := rfl
              rw [e]; omega
            rw [hd] at hcs2
            clear hcs hcn hd
            go_wp2_with fail
            refine (hdig _).mono ?_
            rintro e w1 ⟨rfl, rfl⟩
            clear hdig
            go_wp2
            go_round
            case rel => exact ⟨10 * x + d, k + 1, by omega, by go_num, by go_num, by omega, hcs2, hD2, hZ2⟩
            case measure => simp [intOf]; omega
          · have hcn2 := hcn hxl
            clear hcs hcn
            go_wp2_with fail
            refine (hdig _).mono ?_
            rintro e w1 ⟨rfl, rfl⟩
            clear hdig
            go_wp2
            go_round
            case rel => exact ⟨x, k + 1, by omega, rfl, by go_num, hx, hcn2, hD2, hZ2⟩
            case measure => simp [intOf]; omega
    · obtain rfl : k = s.size := by omega
      by_cases h0 : s.size = 0
      · obtain rfl : s = ⟨#[]⟩ := ByteArray.ext (Array.eq_empty_of_size_eq_zero h0)
        have hr := hno.out rfl
        clear h0 hno hmany hyes hC hD hZ hlt
        go_wp2
        subst hr
        exact bodyPost_ret (v := .tuple #[.string ⟨#[]⟩, .bool false, .int .i64 1]) (by simp [results, Tryd.results9, go_sem]) rfl ⟨rfl, rfl⟩
      · have hD2 := hD.out
        have hC2 := hC.out
        rw [List.take_of_length_le (by rw [bl_len]; exact Nat.le_refl _)] at hD2 hC2
        have hN : numB (bl s) = true := by
          have hz := hZ.out (by omega) (by omega)
          have hg := bl_get s 0 (by omega)
          generalize s[0]'(by omega) = c0 at hz hg
          generalize bl s = L at hg hD2
          cases L with
          | nil => cases hg
          | cons b r =>
            have : b = c0 := by simpa using hg
            subst this
            simp only [numB, hD2, Bool.and_true, bne_iff_ne]
            exact hz
        have hne : s.toList.isEmpty = false := by
          rw [Lib.toList_data]
          cases h : s.data.toList with
          | nil => exact absurd (by rw [← bl_len]; show s.data.toList.length = 0; rw [h]; rfl) h0
          | cons b r => rfl
        obtain ⟨y, hy⟩ : ∃ y, valF 0 (bl s) = y := ⟨_, rfl⟩
        have hm := hmany.out hN
        have hy2 := hyes.out hN
        unfold CountR at hC2
        rw [hy] at hm hy2 hC2
        clear hno hmany hyes hC hD hZ hlt hD2 hN hy h0
        replace hy2 := Lib.hid hy2
        by_cases hxl : x ≤ l.length
        · have hxy : x = y := by omega
          have hyl : y ≤ l.length := by omega
          obtain ⟨j, hj, hj1, hr⟩ := hy2.out hyl
          have hxj : x = j + 1 := by omega
          clear hC2 hm hxy hj1 hy2 hyl
          subst hxj
          have hl0 : 0 < l.length := by omega
          obtain ⟨b, off, rfl, hbB, hcell⟩ := ht.out.at_ hl0
          have hck := hcell j hj
          generalize l[j] = X at hck hr
          clear hcell hl0 hk
          go_wp2
          subst hr
          exact bodyPost_ret (v := .tuple #[.string X, .bool true, .int .i64 0]) (by simp [results, Tryd.results9, go_sem]) rfl ⟨rfl, rfl⟩
        · have hyl : l.length < y := by omega
          have hr := hm hyl
          clear hC2 hm hy2 hyl
          have hxl2 : (l.length : Int) < (x : Int) := by omega
          go_wp2
          subst hr
          exact bodyPost_ret (v := .tuple #[.string ⟨#[]⟩, .bool false, .int .i64 0]) (by simp [results, Tryd.results9, go_sem]) rfl ⟨rfl, rfl⟩
end Go.Proofs.YtmoihdddmeienaaDoor
