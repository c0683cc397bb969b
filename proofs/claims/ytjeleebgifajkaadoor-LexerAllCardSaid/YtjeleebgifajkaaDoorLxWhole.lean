/-
  until and what it calls: each tells the place behind what counts as a whole, as the plain scan does. Conditions: texts of up to a million bytes.
-/
import Derived.Test.YtjeleebgifajkaaDoorLxFun
set_option linter.unusedSimpArgs false
set_option linter.unusedVariables false
namespace Go.Proofs.YtjeleebgifajkaaDoor
open Go Go.Shelf Go.RowKit

theorem enc_bind (k : Nat) (o : Option Nat) (f : Nat → Option Nat) : enc k (o.bind fun n => (f n).map (· + n)) = match o with | none => -1 | some n => enc (k + n) (f n) := by
  cases o with
  | none => rfl
  | some n =>
    simp only [Option.bind_some]
    cases f n with
    | none => rfl
    | some m => simp [enc]; omega
theorem partP_pos {t : UInt8} {x : List UInt8} {n : Nat} (h : partP t x = some n) : 0 < n ∧ n ≤ x.length := by
  unfold partP at h
  split at h
  · cases h
  · rename_i k ts hs
    have hk := stp_pos hs
    rw [Option.map_eq_some_iff] at h
    obtain ⟨j, hj, rfl⟩ := h
    have := scan_le hj
    simp at this
    omega
/-- t opens with a byte that stands for it. -/
def Opn (t : UInt8) : Prop := t = 39 ∨ t = 34 ∨ t = 96 ∨ t = 40 ∨ t = 123

section
set_option maxRecDepth 100000
set_option maxHeartbeats 1000000
theorem until_of {t : UInt8} (ht : Opn t) (fp : Nat) (eg : ∀ args w, (callFunc fp args).run Tryd.prog w = .ok (.enter fp args) w) (s : ByteArray) (hs : s.size ≤ 1000000) (k0 : Nat) (hk0 : k0 ≤ s.size) (w : World)
    (hpart : ∀ k (hk : k < s.size), k0 ≤ k → s[k] ≠ closeB t → Calls Tryd.prog fp #[.string s, .int .i64 (k : Int)] w fun e w' => e = .returned (.int .i64 (enc k (partP t ((bl s).drop k)))) ∧ w' = w) :
    Calls Tryd.prog 43 #[.string s, .int .i64 (k0 : Int), .int .u8 ((closeB t).toNat : Int), .func (.func fp) #[] #[]] w fun e w' => e = .returned (.int .i64 (enc k0 (scan ((bl s).drop k0) [t]))) ∧ w' = w := by
  obtain ⟨R, hR⟩ : ∃ R, enc k0 (scan ((bl s).drop k0) [t]) = R := ⟨_, rfl⟩
  rw [hR]
  have hend : scan [] [t] = none := by rw [scan_end, if_neg]; rintro ⟨rfl, _⟩; rcases ht with h | h | h | h | h <;> exact absurd h (by decide)
  have hcl : (closeB t).toNat < 256 := (closeB t).toNat_lt
  replace hR := Lib.hid hR
  replace hpart := Lib.hid hpart
  replace hend := Lib.hid hend
  replace ht := Lib.hid ht
  go_enter Tryd.func43, Tryd.ntmps43
  go_wp2
  go_loopw [1] (fun i wr => ((∃ k : Nat, k ≤ s.size ∧ i = .int .i64 (k : Int) ∧ Hid (k0 ≤ k) ∧ Hid (enc k (scan ((bl s).drop k) [t]) = R)) ∨ i = .int .i64 (-1) ∧ Hid (R = -1)) ∧ Hid (wr = w)) (fun i _ => if intOf i = -1 then 0 else s.size + 1 - (intOf i).toNat)
  case atStart => exact ⟨.inl ⟨k0, hk0, rfl, Lib.hid (Nat.le_refl _), hR⟩, Lib.hid rfl⟩
  case round =>
    obtain ⟨hrel, hw⟩ := hrel
    obtain rfl := hw.out
    clear hw
    rcases hrel with ⟨k, hk, rfl, hk0k, hsay⟩ | ⟨rfl, hm⟩
    · by_cases hlt : k < s.size
      · have hi1 : (k : Int) < (s.size : Int) := by omega
        have hi2 : ¬ ((k : Int) = -1) := by omega
        have hn : s[k].toNat < 256 := s[k].toNat_lt
        have hsay0 := hsay.out
        rw [bl_cons s k hlt, scan_step ht.out, ← bl_cons s k hlt] at hsay0
        by_cases hc : s[k] = closeB t
        · have hci : (s[k].toNat : Int) = ((closeB t).toNat : Int) := by rw [hc]
          rw [if_pos hc, enc_some] at hsay0
          replace hsay0 := Lib.hid hsay0
          clear hsay hc
          go_wp2
          go_ret
          exact ⟨by rw [← hsay0.out]; go_num, rfl⟩
        · have hci : ¬ (s[k].toNat : Int) = ((closeB t).toNat : Int) := fun e => hc (b_eq.1 e)
          rw [if_neg hc, enc_bind] at hsay0
          have hp := hpart.out k hlt hk0k.out hc
          have hpos : ∀ n, partP t ((bl s).drop k) = some n → 0 < n ∧ n ≤ s.size - k := fun n h => by have := partP_pos h; rw [List.length_drop, bl_len] at this; exact this
          have hdd : ∀ n, ((bl s).drop k).drop n = (bl s).drop (k + n) := fun n => by rw [List.drop_drop]
          generalize partP t ((bl s).drop k) = o at hp hsay0 hpos
          clear hsay hc
          replace hp := Lib.hid hp
          replace hdd := Lib.hid hdd
          cases o with
          | none =>
            simp only at hsay0
            replace hsay0 := Lib.hid hsay0
            clear hpos
            go_wp2_with (go_at_fn fp; refine hp.out.mono ?_; rintro e w' ⟨rfl, hw⟩; obtain rfl := hw.symm; rw [enc_none])
            go_roundw
            case rel => exact ⟨.inr ⟨rfl, Lib.hid hsay0.out.symm⟩, Lib.hid (by trivial)⟩
            case measure => simp [intOf]; omega
          | some n =>
            have hn2 := hpos n rfl
            clear hpos
            simp only at hsay0
            rw [hdd.out n] at hsay0
            replace hsay0 := Lib.hid hsay0
            clear hdd
            go_wp2_with (go_at_fn fp; refine hp.out.mono ?_; rintro e w' ⟨rfl, hw⟩; obtain rfl := hw.symm; rw [enc_some])
            go_roundw
            case rel => exact ⟨.inl ⟨k + n, by omega, rfl, Lib.hid (by have := hk0k.out; omega), hsay0⟩, Lib.hid (by trivial)⟩
            case measure =>
              have q : ¬ ((k : Int) + (n : Int) = -1) := by omega
              have q2 : ¬ ((k : Int) = -1) := by omega
              simp [intOf, q, q2]; omega
      · have hi1 : ¬ (k : Int) < (s.size : Int) := by omega
        have hi2 : ¬ ((k : Int) = -1) := by omega
        have hsay0 := hsay.out
        rw [bl_end s k (by omega), hend.out, enc_none] at hsay0
        replace hsay0 := Lib.hid hsay0
        clear hsay
        go_wp2
        go_ret
        exact ⟨by rw [← hsay0.out]; rfl, rfl⟩
    · go_wp2
      go_ret
      exact ⟨by rw [hm.out]; rfl, rfl⟩
end

/-- What a hole takes. -/
def holeP (x : List UInt8) : Option Nat := if x.headD 0 = 96 then (scan x.tail [96]).map (· + 1) else if x.tail.headD 0 = 40 then (scan x.tail.tail [40]).map (· + 2) else (scan x.tail.tail [123]).map (· + 2)
def hbP (x : List UInt8) : Option Nat := if holeB x = true then holeP x else some 1
def idP (x : List UInt8) : Option Nat := if x.headD 0 = 92 then escP x else hbP x
def whP (x : List UInt8) : Option Nat := if x.headD 0 = 92 then escP x else if x.headD 0 = 39 then (scan x.tail [39]).map (· + 1) else if x.headD 0 = 34 then (scan x.tail [34]).map (· + 1) else hbP x
def ibP (x : List UInt8) : Option Nat := if x.headD 0 = 40 then (scan x.tail [40]).map (· + 1) else whP x

section
variable {c : UInt8} {r : List UInt8}
theorem part_one (h : c ≠ 39) : partP 39 (c :: r) = some 1 := by simp [partP, stp, h, scan_nil]
theorem part_esc (h : c ≠ 96) : partP 96 (c :: r) = escP (c :: r) := by
  by_cases h2 : c = 92
  · subst h2
    cases r with
    | nil => simp [partP, stp, escP]
    | cons d r => simp [partP, stp, escP, scan_nil]
  · simp [partP, stp, escP, h, h2, scan_nil]
theorem part_dbl (h : c ≠ 34) : partP 34 (c :: r) = idP (c :: r) := by
  by_cases h2 : c = 92
  · subst h2
    cases r with
    | nil => simp [partP, stp, escP, idP]
    | cons d r => simp [partP, stp, escP, idP, scan_nil]
  · by_cases h3 : c = 96
    · subst h3
      simp [partP, stp, idP, hbP, holeP, holeB]
    · by_cases h4 : c = 36
      · subst h4
        cases r with
        | nil => simp [partP, stp, idP, hbP, holeP, holeB, scan_nil]
        | cons d r =>
          by_cases h5 : d = 40
          · subst h5; simp [partP, stp, idP, hbP, holeP, holeB]
          · by_cases h6 : d = 123
            · subst h6; simp [partP, stp, idP, hbP, holeP, holeB]
            · simp [partP, stp, idP, hbP, holeP, holeB, h5, h6, scan_nil]
      · simp [partP, stp, idP, hbP, holeP, holeB, h, h2, h3, h4, scan_nil]
theorem part_wh {t : UInt8} (ht : t = 123 ∧ c ≠ 125 ∨ t = 119 ∨ t = 40 ∧ c ≠ 41 ∧ c ≠ 40) : partP t (c :: r) = whP (c :: r) := by
  have k1 : t ≠ 39 := by rcases ht with ⟨rfl, _⟩ | rfl | ⟨rfl, _⟩ <;> decide
  have k2 : t ≠ 96 := by rcases ht with ⟨rfl, _⟩ | rfl | ⟨rfl, _⟩ <;> decide
  have k3 : t ≠ 34 := by rcases ht with ⟨rfl, _⟩ | rfl | ⟨rfl, _⟩ <;> decide
  have k4 : ¬ (t = 40 ∧ c = 40) := by rcases ht with ⟨rfl, _⟩ | rfl | ⟨rfl, h⟩ <;> simp_all
  have k5 : ¬ (t = 40 ∧ c = 41) := by rcases ht with ⟨rfl, _⟩ | rfl | ⟨rfl, h⟩ <;> simp_all
  have k6 : ¬ (t = 123 ∧ c = 125) := by rcases ht with ⟨rfl, _⟩ | rfl | ⟨rfl, h⟩ <;> simp_all
  by_cases h2 : c = 92
  · subst h2
    cases r with
    | nil => simp [partP, stp, escP, whP, k1]
    | cons d r => simp [partP, stp, escP, whP, k1, scan_nil]
  · by_cases h3 : c = 96
    · subst h3
      simp [partP, stp, whP, hbP, holeP, holeB, k1, k2, k3]
    · by_cases h4 : c = 36
      · subst h4
        cases r with
        | nil => simp [partP, stp, whP, hbP, holeP, holeB, k1, k2, k3, scan_nil]
        | cons d r =>
          by_cases h5 : d = 40
          · subst h5; simp [partP, stp, whP, hbP, holeP, holeB, k1, k2, k3]
          · by_cases h6 : d = 123
            · subst h6; simp [partP, stp, whP, hbP, holeP, holeB, k1, k2, k3]
            · simp [partP, stp, whP, hbP, holeP, holeB, h5, h6, k1, k2, k3, scan_nil]
      · by_cases h7 : c = 39
        · subst h7; simp [partP, stp, whP, k1, k2, k3]
        · by_cases h8 : c = 34
          · subst h8; simp [partP, stp, whP, k1, k2, k3]
          · simp only [partP, stp, whP, hbP, holeB, List.headD_cons, h2, h3, h4, h7, h8, k1, k2, k3, k4, k5, k6, if_false, false_and, and_false, or_self, List.dropLast_singleton, scan_nil]
            simp [h3, h4]
theorem part_br (h : c ≠ 41) : partP 40 (c :: r) = ibP (c :: r) := by
  by_cases h2 : c = 40
  · subst h2; simp [partP, stp, ibP]
  · rw [part_wh (.inr (.inr ⟨rfl, h, h2⟩))]
    simp [ibP, h2]
end
theorem enc_map (k j : Nat) (o : Option Nat) : enc k (o.map (· + j)) = enc (k + j) o := by
  cases o with
  | none => rfl
  | some n => simp [enc]; omega

theorem entersOne : ∀ args w, (callFunc 59 args).run Tryd.prog w = .ok (.enter 59 args) w := enters_of Tryd.func59 (by kernel_rfl) rfl
theorem entersDbl : ∀ args w, (callFunc 60 args).run Tryd.prog w = .ok (.enter 60 args) w := enters_of Tryd.func60 (by kernel_rfl) rfl
theorem entersEsc : ∀ args w, (callFunc 44 args).run Tryd.prog w = .ok (.enter 44 args) w := enters_of Tryd.func44 (by kernel_rfl) rfl
theorem entersBr : ∀ args w, (callFunc 45 args).run Tryd.prog w = .ok (.enter 45 args) w := enters_of Tryd.func45 (by kernel_rfl) rfl
theorem entersWh : ∀ args w, (callFunc 46 args).run Tryd.prog w = .ok (.enter 46 args) w := enters_of Tryd.func46 (by kernel_rfl) rfl

/-- What until tells from a place on. -/
def UH (s : ByteArray) (k : Nat) (c t : UInt8) (fp : Nat) (w : World) : Prop :=
  Calls Tryd.prog 43 #[.string s, .int .i64 (k : Int), .int .u8 (c.toNat : Int), .func (.func fp) #[] #[]] w fun e w' => e = .returned (.int .i64 (enc k (scan ((bl s).drop k) [t]))) ∧ w' = w
/-- The same at all places behind one, for all that there is. -/
structure UHs (s : ByteArray) (k : Nat) (w : World) : Prop where
  one : ∀ j, k ≤ j → j ≤ s.size → UH s j 39 39 59 w
  dbl : ∀ j, k ≤ j → j ≤ s.size → UH s j 34 34 60 w
  esc : ∀ j, k ≤ j → j ≤ s.size → UH s j 96 96 44 w
  br : ∀ j, k ≤ j → j ≤ s.size → UH s j 41 40 45 w
  wh : ∀ j, k ≤ j → j ≤ s.size → UH s j 125 123 46 w

section
set_option maxRecDepth 100000
set_option maxHeartbeats 1000000
theorem hole_of (s : ByteArray) (k : Nat) (hk : k < s.size) (hs : s.size ≤ 1000000) (w : World) (hb : holeB ((bl s).drop k) = true) (H : UHs s (k + 1) w) :
    Calls Tryd.prog 29 #[.string s, .int .i64 (k : Int)] w fun e w' => e = .returned (.int .i64 (enc k (holeP ((bl s).drop k)))) ∧ w' = w := by
  have hk1 : (k : Int) < (s.size : Int) := by omega
  have hn : s[k].toNat < 256 := s[k].toNat_lt
  rw [bl_cons s k hk] at hb ⊢
  by_cases h : s[k] = 96
  · have h1 : (s[k].toNat : Int) = 96 := by rw [h]; rfl
    have hu := H.esc (k + 1) (Nat.le_refl _) hk
    have e : holeP (s[k] :: (bl s).drop (k + 1)) = (scan ((bl s).drop (k + 1)) [96]).map (· + 1) := by simp [holeP, h]
    rw [e, enc_map]
    unfold UH at hu
    replace hu := Lib.hid hu
    clear e hb H h
    go_enter Tryd.func29, Tryd.ntmps29
    go_wp2_with fail
    refine hu.out.mono ?_
    rintro e w' ⟨rfl, hw⟩
    obtain rfl := hw.symm
    go_wp2
    go_ret
    exact ⟨rfl, rfl⟩
  · have h1 : ¬ (s[k].toNat : Int) = 96 := fun e => h (UInt8.toNat_inj.1 (by rw [show (96 : UInt8).toNat = 96 from rfl]; omega))
    by_cases hk2 : k + 1 < s.size
    · rw [bl_cons s (k + 1) hk2] at hb ⊢
      have hk3 : (k : Int) + 1 < (s.size : Int) := by omega
      have hn2 : s[k + 1].toNat < 256 := s[k + 1].toNat_lt
      by_cases h2 : s[k + 1] = 40
      · have h3 : (s[k + 1].toNat : Int) = 40 := by rw [h2]; rfl
        have hu := H.br (k + 2) (by omega) hk2
        have e : holeP (s[k] :: s[k + 1] :: (bl s).drop (k + 1 + 1)) = (scan ((bl s).drop (k + 2)) [40]).map (· + 2) := by simp [holeP, h, h2]
        rw [e, enc_map]
        unfold UH at hu
        replace hu := Lib.hid hu
        clear e hb H h
        go_enter Tryd.func29, Tryd.ntmps29
        go_wp2_with fail
        refine hu.out.mono ?_
        rintro e w' ⟨rfl, hw⟩
        obtain rfl := hw.symm
        go_wp2
        go_ret
        exact ⟨rfl, rfl⟩
      · have h3 : ¬ (s[k + 1].toNat : Int) = 40 := fun e => h2 (UInt8.toNat_inj.1 (by rw [show (40 : UInt8).toNat = 40 from rfl]; omega))
        have hu := H.wh (k + 2) (by omega) hk2
        have e : holeP (s[k] :: s[k + 1] :: (bl s).drop (k + 1 + 1)) = (scan ((bl s).drop (k + 2)) [123]).map (· + 2) := by simp [holeP, h, h2]
        rw [e, enc_map]
        unfold UH at hu
        replace hu := Lib.hid hu
        clear e hb H h
        go_enter Tryd.func29, Tryd.ntmps29
        go_wp2_with fail
        refine hu.out.mono ?_
        rintro e w' ⟨rfl, hw⟩
        obtain rfl := hw.symm
        go_wp2
        go_ret
        exact ⟨rfl, rfl⟩
    · rw [bl_end s (k + 1) (by omega)] at hb
      simp [holeB, h] at hb

theorem holeOrByte_of (s : ByteArray) (k : Nat) (hk : k < s.size) (hs : s.size ≤ 1000000) (w : World) (H : UHs s (k + 1) w) :
    Calls Tryd.prog 61 #[.string s, .int .i64 (k : Int)] w fun e w' => e = .returned (.int .i64 (enc k (hbP ((bl s).drop k)))) ∧ w' = w := by
  have hk1 : (k : Int) < (s.size : Int) := by omega
  have hi := isHole_any s k (by omega) hs w
  by_cases h : holeB ((bl s).drop k) = true
  · have hh := hole_of s k hk hs w h H
    have e : hbP ((bl s).drop k) = holeP ((bl s).drop k) := by unfold hbP; rw [if_pos h]
    rw [e]
    rw [h] at hi
    generalize enc k (holeP ((bl s).drop k)) = R at hh ⊢
    replace hi := Lib.hid hi
    replace hh := Lib.hid hh
    clear e h H
    go_enter Tryd.func61, Tryd.ntmps61
    go_wp2_with fail
    refine hi.out.mono ?_
    rintro e w' ⟨rfl, hw⟩
    obtain rfl := hw.symm
    go_wp2_with fail
    refine hh.out.mono ?_
    rintro e w' ⟨rfl, hw⟩
    obtain rfl := hw.symm
    go_wp2
    go_ret
    exact ⟨rfl, rfl⟩
  · have e : hbP ((bl s).drop k) = some 1 := by unfold hbP; rw [if_neg h]
    rw [e, enc_some]
    rw [Bool.not_eq_true] at h
    rw [h] at hi
    replace hi := Lib.hid hi
    clear e h H
    go_enter Tryd.func61, Tryd.ntmps61
    go_wp2_with fail
    refine hi.out.mono ?_
    rintro e w' ⟨rfl, hw⟩
    obtain rfl := hw.symm
    go_wp2
    go_ret
    exact ⟨by go_num, rfl⟩

theorem inDouble_of (s : ByteArray) (k : Nat) (hk : k < s.size) (hs : s.size ≤ 1000000) (w : World) (H : UHs s (k + 1) w) :
    Calls Tryd.prog 60 #[.string s, .int .i64 (k : Int)] w fun e w' => e = .returned (.int .i64 (enc k (idP ((bl s).drop k)))) ∧ w' = w := by
  have hk1 : (k : Int) < (s.size : Int) := by omega
  have hn : s[k].toNat < 256 := s[k].toNat_lt
  have h1 := escaped_any s k hk hs w
  have h2 := holeOrByte_of s k hk hs w H
  have ec : ((bl s).drop k).headD 0 = s[k] := by rw [bl_cons s k hk]; rfl
  unfold idP
  rw [ec]
  by_cases h : s[k] = 92
  · have hi : (s[k].toNat : Int) = 92 := by rw [h]; rfl
    rw [if_pos h]
    generalize enc k (escP ((bl s).drop k)) = R at h1 ⊢
    replace h1 := Lib.hid h1
    clear H h h2 ec
    go_enter Tryd.func60, Tryd.ntmps60
    go_wp2_with fail
    refine h1.out.mono ?_
    rintro e w' ⟨rfl, hw⟩
    obtain rfl := hw.symm
    go_wp2
    go_ret
    exact ⟨rfl, rfl⟩
  · have hi : ¬ (s[k].toNat : Int) = 92 := fun e => h (UInt8.toNat_inj.1 (by rw [show (92 : UInt8).toNat = 92 from rfl]; omega))
    rw [if_neg h]
    generalize enc k (hbP ((bl s).drop k)) = R at h2 ⊢
    replace h2 := Lib.hid h2
    clear H h h1 ec
    go_enter Tryd.func60, Tryd.ntmps60
    go_wp2_with fail
    refine h2.out.mono ?_
    rintro e w' ⟨rfl, hw⟩
    obtain rfl := hw.symm
    go_wp2
    go_ret
    exact ⟨rfl, rfl⟩

theorem whole_of (s : ByteArray) (k : Nat) (hk : k < s.size) (hs : s.size ≤ 1000000) (w : World) (H : UHs s (k + 1) w) :
    Calls Tryd.prog 46 #[.string s, .int .i64 (k : Int)] w fun e w' => e = .returned (.int .i64 (enc k (whP ((bl s).drop k)))) ∧ w' = w := by
  have hk1 : (k : Int) < (s.size : Int) := by omega
  have hn : s[k].toNat < 256 := s[k].toNat_lt
  have h1 := escaped_any s k hk hs w
  have h2 := holeOrByte_of s k hk hs w H
  have h3 := H.one (k + 1) (Nat.le_refl _) hk
  have h4 := H.dbl (k + 1) (Nat.le_refl _) hk
  unfold UH at h3 h4
  have ec : ((bl s).drop k).headD 0 = s[k] := by rw [bl_cons s k hk]; rfl
  have et : ((bl s).drop k).tail = (bl s).drop (k + 1) := by rw [bl_cons s k hk]; rfl
  unfold whP
  rw [ec, et]
  clear H ec et
  by_cases h : s[k] = 92
  · have hi : (s[k].toNat : Int) = 92 := by rw [h]; rfl
    rw [if_pos h]
    generalize enc k (escP ((bl s).drop k)) = R at h1 ⊢
    replace h1 := Lib.hid h1
    clear h h2 h3 h4
    go_enter Tryd.func46, Tryd.ntmps46
    go_wp2_with fail
    refine h1.out.mono ?_
    rintro e w' ⟨rfl, hw⟩
    obtain rfl := hw.symm
    go_wp2
    go_ret
    exact ⟨rfl, rfl⟩
  · have hi : ¬ (s[k].toNat : Int) = 92 := fun e => h (UInt8.toNat_inj.1 (by rw [show (92 : UInt8).toNat = 92 from rfl]; omega))
    rw [if_neg h]
    clear h h1
    by_cases h : s[k] = 39
    · have hi3 : (s[k].toNat : Int) = 39 := by rw [h]; rfl
      rw [if_pos h, enc_map]
      generalize enc (k + 1) (scan ((bl s).drop (k + 1)) [39]) = R at h3 ⊢
      replace h3 := Lib.hid h3
      clear h h2 h4
      go_enter Tryd.func46, Tryd.ntmps46
      go_wp2_with fail
      refine h3.out.mono ?_
      rintro e w' ⟨rfl, hw⟩
      obtain rfl := hw.symm
      go_wp2
      go_ret
      exact ⟨rfl, rfl⟩
    · have hi3 : ¬ (s[k].toNat : Int) = 39 := fun e => h (UInt8.toNat_inj.1 (by rw [show (39 : UInt8).toNat = 39 from rfl]; omega))
      rw [if_neg h]
      clear h h3
      by_cases h : s[k] = 34
      · have hi4 : (s[k].toNat : Int) = 34 := by rw [h]; rfl
        rw [if_pos h, enc_map]
        generalize enc (k + 1) (scan ((bl s).drop (k + 1)) [34]) = R at h4 ⊢
        replace h4 := Lib.hid h4
        clear h h2
        go_enter Tryd.func46, Tryd.ntmps46
        go_wp2_with fail
        refine h4.out.mono ?_
        rintro e w' ⟨rfl, hw⟩
        obtain rfl := hw.symm
        go_wp2
        go_ret
        exact ⟨rfl, rfl⟩
      · have hi4 : ¬ (s[k].toNat : Int) = 34 := fun e => h (UInt8.toNat_inj.1 (by rw [show (34 : UInt8).toNat = 34 from rfl]; omega))
        rw [if_neg h]
        generalize enc k (hbP ((bl s).drop k)) = R at h2 ⊢
        replace h2 := Lib.hid h2
        clear h h4
        go_enter Tryd.func46, Tryd.ntmps46
        go_wp2_with fail
        refine h2.out.mono ?_
        rintro e w' ⟨rfl, hw⟩
        obtain rfl := hw.symm
        go_wp2
        go_ret
        exact ⟨rfl, rfl⟩

theorem inBrackets_of (s : ByteArray) (k : Nat) (hk : k < s.size) (hs : s.size ≤ 1000000) (w : World) (H : UHs s (k + 1) w) :
    Calls Tryd.prog 45 #[.string s, .int .i64 (k : Int)] w fun e w' => e = .returned (.int .i64 (enc k (ibP ((bl s).drop k)))) ∧ w' = w := by
  have hk1 : (k : Int) < (s.size : Int) := by omega
  have hn : s[k].toNat < 256 := s[k].toNat_lt
  have h1 := H.br (k + 1) (Nat.le_refl _) hk
  have h2 := whole_of s k hk hs w H
  unfold UH at h1
  have ec : ((bl s).drop k).headD 0 = s[k] := by rw [bl_cons s k hk]; rfl
  have et : ((bl s).drop k).tail = (bl s).drop (k + 1) := by rw [bl_cons s k hk]; rfl
  unfold ibP
  rw [ec, et]
  clear H ec et
  by_cases h : s[k] = 40
  · have hi : (s[k].toNat : Int) = 40 := by rw [h]; rfl
    rw [if_pos h, enc_map]
    generalize enc (k + 1) (scan ((bl s).drop (k + 1)) [40]) = R at h1 ⊢
    replace h1 := Lib.hid h1
    clear h h2
    go_enter Tryd.func45, Tryd.ntmps45
    go_wp2_with fail
    refine h1.out.mono ?_
    rintro e w' ⟨rfl, hw⟩
    obtain rfl := hw.symm
    go_wp2
    go_ret
    exact ⟨rfl, rfl⟩
  · have hi : ¬ (s[k].toNat : Int) = 40 := fun e => h (UInt8.toNat_inj.1 (by rw [show (40 : UInt8).toNat = 40 from rfl]; omega))
    rw [if_neg h]
    generalize enc k (whP ((bl s).drop k)) = R at h2 ⊢
    replace h2 := Lib.hid h2
    clear h h1
    go_enter Tryd.func45, Tryd.ntmps45
    go_wp2_with fail
    refine h2.out.mono ?_
    rintro e w' ⟨rfl, hw⟩
    obtain rfl := hw.symm
    go_wp2
    go_ret
    exact ⟨rfl, rfl⟩

theorem all_UH (s : ByteArray) (hs : s.size ≤ 1000000) (w : World) (k : Nat) : UHs s k w := by
  obtain ⟨m, hm⟩ : ∃ m, s.size + 1 - k = m := ⟨_, rfl⟩
  induction m using Nat.strongRecOn generalizing k with
  | _ m ih =>
    have H : ∀ j, k ≤ j → j < s.size → UHs s (j + 1) w := fun j h1 h2 => ih (s.size + 1 - (j + 1)) (by omega) (j + 1) rfl
    refine ⟨fun j h1 h2 => until_of (.inl rfl) _ entersOne s hs j h2 w (fun p hp h3 hc => ?_), fun j h1 h2 => until_of (.inr (.inl rfl)) _ entersDbl s hs j h2 w (fun p hp h3 hc => ?_),
      fun j h1 h2 => until_of (.inr (.inr (.inl rfl))) _ entersEsc s hs j h2 w (fun p hp h3 hc => ?_), fun j h1 h2 => until_of (t := 40) (.inr (.inr (.inr (.inl rfl)))) _ entersBr s hs j h2 w (fun p hp h3 hc => ?_),
      fun j h1 h2 => until_of (t := 123) (.inr (.inr (.inr (.inr rfl)))) _ entersWh s hs j h2 w (fun p hp h3 hc => ?_)⟩
    · rw [bl_cons s p hp, part_one hc]; exact one_any s p (by omega) w
    · rw [bl_cons s p hp, part_dbl hc, ← bl_cons s p hp]; exact inDouble_of s p hp hs w (H p (by omega) hp)
    · rw [bl_cons s p hp, part_esc hc, ← bl_cons s p hp]; exact escaped_any s p hp hs w
    · rw [bl_cons s p hp, part_br hc, ← bl_cons s p hp]; exact inBrackets_of s p hp hs w (H p (by omega) hp)
    · rw [bl_cons s p hp, part_wh (.inl ⟨rfl, hc⟩), ← bl_cons s p hp]; exact whole_of s p hp hs w (H p (by omega) hp)
theorem whole_any (s : ByteArray) (k : Nat) (hk : k < s.size) (hs : s.size ≤ 1000000) (w : World) :
    Calls Tryd.prog 46 #[.string s, .int .i64 (k : Int)] w fun e w' => e = .returned (.int .i64 (enc k (partP 119 ((bl s).drop k)))) ∧ w' = w := by
  have := whole_of s k hk hs w (all_UH s hs w _)
  rw [bl_cons s k hk, ← part_wh (.inr (.inl rfl)), ← bl_cons s k hk] at this
  exact this
theorem hole_any (s : ByteArray) (k : Nat) (hk : k < s.size) (hs : s.size ≤ 1000000) (w : World) (hb : holeB ((bl s).drop k) = true) :
    Calls Tryd.prog 29 #[.string s, .int .i64 (k : Int)] w fun e w' => e = .returned (.int .i64 (enc k (holeP ((bl s).drop k)))) ∧ w' = w :=
  hole_of s k hk hs w hb (all_UH s hs w _)
end
end Go.Proofs.YtjeleebgifajkaaDoor
