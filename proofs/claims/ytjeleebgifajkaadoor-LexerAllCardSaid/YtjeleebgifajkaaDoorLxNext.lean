/-
  begin, opLength, wordStop, thing, next, check, Next, Hole: each told plainly. Conditions: texts of up to a million bytes.
-/
import Derived.WalkMore
import Derived.Test.YtjeleebgifajkaaDoorLxFun2
set_option linter.unusedSimpArgs false
set_option linter.unusedVariables false
namespace Go.Proofs.YtjeleebgifajkaaDoor
open Go Go.Shelf Go.RowKit

theorem opN_le (x : List UInt8) : opN x ≤ x.length ∧ opN x ≤ 3 := by
  unfold opN
  split
  · rename_i h
    have := congrArg List.length h
    simp at this
    omega
  · split
    · rename_i h
      have : (x.take 2).length = 2 := by
        rw [List.contains_iff_mem] at h
        simp only [ops2, List.mem_cons, List.not_mem_nil, or_false] at h
        rcases h with h | h | h | h | h | h | h | h | h <;> rw [h] <;> rfl
      simp at this
      omega
    · split
      · rename_i h
        have : (x.take 1).length = 1 := by
          rw [List.contains_iff_mem] at h
          simp only [ops1, List.mem_cons, List.not_mem_nil, or_false] at h
          rcases h with h | h | h | h | h | h | h <;> rw [h] <;> rfl
        simp at this
        omega
      · omega
theorem op_len3 {x : List UInt8} (h : x.length = 3) : opB x = (x == [60, 60, 45]) := by
  match x, h with
  | [a, b, c], _ => simp [opB, ops2, ops1]
theorem op_len2 {x : List UInt8} (h : x.length = 2) : opB x = ops2.contains x := by
  match x, h with
  | [a, b], _ => simp [opB, ops1]
theorem op_len1 {x : List UInt8} (h : x.length = 1) : opB x = ops1.contains x := by
  match x, h with
  | [a], _ => simp [opB, ops2]
/-- As the loop over 3, 2, 1 goes. -/
def opF (x : List UInt8) : Nat → Nat
  | 0 => 0
  | n + 1 => if opB (x.take (n + 1)) = true then n + 1 else opF x n
theorem opF_opN (x : List UInt8) : opF x (min 3 x.length) = opN x := by
  match x with
  | [] => rfl
  | [a] =>
    show (if opB [a] = true then 1 else 0) = _
    rw [op_len1 rfl]; simp [opN, ops2]
  | [a, b] =>
    show (if opB [a, b] = true then 2 else if opB [a] = true then 1 else 0) = _
    rw [op_len1 (x := [a]) rfl, op_len2 (x := [a, b]) rfl]; simp [opN]
  | a :: b :: c :: r =>
    have : min 3 (a :: b :: c :: r).length = 3 := by simp only [List.length_cons]; omega
    rw [this]
    show (if opB [a, b, c] = true then 3 else if opB [a, b] = true then 2 else if opB [a] = true then 1 else 0) = _
    rw [op_len1 (x := [a]) rfl, op_len2 (x := [a, b]) rfl, op_len3 (x := [a, b, c]) rfl]; simp [opN]

section
set_option maxRecDepth 100000
set_option maxHeartbeats 2000000
theorem opLength_any (s : ByteArray) (hs : s.size ≤ 1000000) (w : World) :
    Calls Tryd.prog 38 #[.string s] w fun e w' => e = .returned (.int .i64 (opN (bl s) : Int)) ∧ w' = w := by
  obtain ⟨R, hR⟩ : ∃ R, opN (bl s) = R := ⟨_, rfl⟩
  rw [hR]
  rw [← opF_opN] at hR
  obtain ⟨m, hm⟩ : ∃ m, min 3 (bl s).length = m := ⟨_, rfl⟩
  rw [hm] at hR
  rw [bl_len] at hm
  have hmi : min (3 : Int) (s.size : Int) = (m : Int) := by omega
  have hm3 : m ≤ 3 ∧ m ≤ s.size := by omega
  replace hR := Lib.hid hR
  clear hm
  replace hmi := Lib.hid hmi
  go_enter Tryd.func38, Tryd.ntmps38
  go_wp2
  go_loopw [3] (fun i wr => ∃ n : Nat, n ≤ 3 ∧ n ≤ s.size ∧ i = .int .i64 (n : Int) ∧ Hid (opF (bl s) n = R) ∧ Hid (wr = w)) (fun i _ => (intOf i).toNat)
  case atStart => exact ⟨m, hm3.1, hm3.2, by rw [hmi.out], hR, Lib.hid rfl⟩
  case round =>
    obtain ⟨n, hn3, hns, rfl, hsay, hw⟩ := hrel
    obtain rfl := hw.out
    clear hw
    cases n with
    | zero =>
      have h0 : R = 0 := by rw [← hsay.out]; rfl
      replace h0 := Lib.hid h0
      go_wp2
      go_ret
      exact ⟨by rw [h0.out]; rfl, rfl⟩
    | succ n =>
      have hop := isOp_any (s.extract 0 (n + 1)) wr
      simp only [bl] at hop
      rw [bl_extract, List.drop_zero] at hop
      have hi1 : (0 : Int) < ((n + 1 : Nat) : Int) := by omega
      have hi2 : ((n + 1 : Nat) : Int) ≤ (s.size : Int) := by omega
      have hsay0 := hsay.out
      unfold opF at hsay0
      obtain ⟨q, hq⟩ : ∃ q : Nat, n + 1 = q := ⟨_, rfl⟩
      by_cases h : opB ((bl s).take (n + 1)) = true
      · rw [if_pos h] at hsay0
        rw [h] at hop
        rw [hq] at hop hi1 hi2 ⊢ hsay0
        replace hsay0 := Lib.hid hsay0
        replace hop := Lib.hid hop
        clear hsay h hq hR
        go_wp2_with fail
        refine hop.out.mono ?_
        rintro e w' ⟨rfl, hw⟩
        obtain rfl := hw.symm
        go_wp2
        go_ret
        exact ⟨by rw [← hsay0.out]; rfl, rfl⟩
      · rw [if_neg h] at hsay0
        rw [Bool.not_eq_true] at h
        rw [h] at hop
        have hq2 : (q : Int) - 1 = (n : Int) := by omega
        rw [hq] at hop hi1 hi2 ⊢
        replace hsay0 := Lib.hid hsay0
        replace hop := Lib.hid hop
        replace hq2 := Lib.hid hq2
        replace hq := Lib.hid hq
        clear hsay h hR
        go_wp2_with fail
        refine hop.out.mono ?_
        rintro e w' ⟨rfl, hw⟩
        obtain rfl := hw.symm
        go_wp2
        go_roundw
        case rel => exact ⟨n, by omega, by omega, by rw [hq2.out], hsay0, Lib.hid (by trivial)⟩
        case measure => have := hq2.out; have := hq.out; simp [intOf]; omega

theorem begin_any (s : ByteArray) (k0 : Nat) (hk0 : k0 ≤ s.size) (hs : s.size ≤ 1000000) (w : World) :
    Calls Tryd.prog 36 #[.string s, .int .i64 (k0 : Int)] w fun e w' => e = .returned (.int .i64 ((k0 + skip ((bl s).drop k0) : Nat) : Int)) ∧ w' = w := by
  obtain ⟨R, hR⟩ : ∃ R, k0 + skip ((bl s).drop k0) = R := ⟨_, rfl⟩
  rw [hR]
  replace hR := Lib.hid hR
  go_enter Tryd.func36, Tryd.ntmps36
  go_wp2
  go_step3
  go_wp2
  go_step3
  go_wp2
  go_loopw [1] (fun i wr => ∃ k : Nat, k ≤ s.size ∧ i = .int .i64 (k : Int) ∧ Hid (k + skip ((bl s).drop k) = R) ∧ Hid (wr = w)) (fun i _ => s.size - (intOf i).toNat)
  case atStart => exact ⟨k0, hk0, rfl, hR, Lib.hid rfl⟩
  case round =>
    obtain ⟨k, hk, rfl, hsay, hw⟩ := hrel
    obtain rfl := hw.out
    clear hw hR
    by_cases hlt : k < s.size
    · have hi1 : (k : Int) < (s.size : Int) := by omega
      have hn : s[k].toNat < 256 := s[k].toNat_lt
      have hsay0 := hsay.out
      have hx := bl_cons s k hlt
      by_cases h32 : s[k] = 32
      · have hi : (s[k].toNat : Int) = 32 := by rw [h32]; rfl
        rw [hx, h32, skip_blank _ (.inl rfl)] at hsay0
        have hsay1 : Hid (k + 1 + skip ((bl s).drop (k + 1)) = R) := Lib.hid (by omega)
        clear hsay0 hsay hx h32
        go_wp2
        go_roundw
        case rel => exact ⟨k + 1, by omega, by go_num, hsay1, Lib.hid (by trivial)⟩
        case measure => simp [intOf]; omega
      · have hi : ¬ (s[k].toNat : Int) = 32 := fun e => h32 (UInt8.toNat_inj.1 (by rw [show (32 : UInt8).toNat = 32 from rfl]; omega))
        by_cases h9 : s[k] = 9
        · have hi2 : (s[k].toNat : Int) = 9 := by rw [h9]; rfl
          rw [hx, h9, skip_blank _ (.inr rfl)] at hsay0
          have hsay1 : Hid (k + 1 + skip ((bl s).drop (k + 1)) = R) := Lib.hid (by omega)
          clear hsay0 hsay hx h32 h9
          go_wp2
          go_roundw
          case rel => exact ⟨k + 1, by omega, by go_num, hsay1, Lib.hid (by trivial)⟩
          case measure => simp [intOf]; omega
        · have hi2 : ¬ (s[k].toNat : Int) = 9 := fun e => h9 (UInt8.toNat_inj.1 (by rw [show (9 : UInt8).toNat = 9 from rfl]; omega))
          by_cases h92 : s[k] = 92
          · have hi3 : (s[k].toNat : Int) = 92 := by rw [h92]; rfl
            have p1 := Tryd.strings_HasPrefix (s.extract k s.size) ⟨#[92, 10]⟩ wr
            rw [bl_from] at p1
            have ep : Lib.hasPrefix ((bl s).drop k) [92, 10] = (((bl s).drop (k + 1)).headD 0 == 10) := by
              rw [hp_two, hx]
              cases (bl s).drop (k + 1) with
              | nil => rfl
              | cons d r => simp [h92]
            simp only [ep] at p1
            have hlen : ((bl s).drop (k + 1)).length = s.size - (k + 1) := by rw [List.length_drop, bl_len]
            by_cases h10 : ((bl s).drop (k + 1)).headD 0 = 10
            · have hle : k + 2 ≤ s.size := by
                cases hd : (bl s).drop (k + 1) with
                | nil => rw [hd] at h10; exact absurd h10 (by decide)
                | cons d r => rw [hd] at hlen; simp at hlen; omega
              have ed : (bl s).drop (k + 1) = 10 :: (bl s).drop (k + 2) := by
                have := bl_cons s (k + 1) (by omega)
                rw [this] at h10
                simp only [List.headD_cons] at h10
                rw [this, h10]
              rw [hx, h92, ed, skip_join] at hsay0
              have hsay1 : Hid (k + 2 + skip ((bl s).drop (k + 2)) = R) := Lib.hid (by omega)
              rw [h10] at p1
              replace p1 := Lib.hid p1
              clear hsay0 hsay hx h32 h9 h92 ep hlen h10 ed
              go_wp2_with fail
              refine p1.out.mono ?_
              rintro e w' ⟨rfl, hw⟩
              obtain rfl := hw.symm
              go_wp2
              go_roundw
              case rel => exact ⟨k + 2, by omega, by go_num, hsay1, Lib.hid (by trivial)⟩
              case measure => simp [intOf]; omega
            · rw [hx, skip_none _ (by rw [h92]; decide) (by rw [h92]; decide) (fun h => h10 h.2)] at hsay0
              rw [show (((bl s).drop (k + 1)).headD 0 == 10) = false from beq_eq_false_iff_ne.2 h10] at p1
              replace p1 := Lib.hid p1
              replace hsay0 := Lib.hid hsay0
              clear hsay hx h32 h9 h92 ep hlen h10
              go_wp2_with fail
              refine p1.out.mono ?_
              rintro e w' ⟨rfl, hw⟩
              obtain rfl := hw.symm
              go_wp2
              (try rw [Exit.noGoto_ret])
              go_ret
              exact ⟨by rw [← hsay0.out]; rfl, rfl⟩
          · have hi3 : ¬ (s[k].toNat : Int) = 92 := fun e => h92 (UInt8.toNat_inj.1 (by rw [show (92 : UInt8).toNat = 92 from rfl]; omega))
            by_cases h35 : s[k] = 35
            · have hi4 : (s[k].toNat : Int) = 35 := by rw [h35]; rfl
              have p1 := lineStop_any s k hk hs wr
              have hl1 := lineN_le ((bl s).drop k)
              rw [List.length_drop, bl_len] at hl1
              have hl2 : 0 < lineN ((bl s).drop k) := by rw [hx, h35]; simp [lineN]
              have hl3 := skip_line ((bl s).drop k)
              rw [List.drop_drop] at hl3
              have hs2 : skip ((bl s).drop k) = lineN ((bl s).drop k) := by rw [hx, h35, skip_hash]
              rw [hs2] at hsay0
              generalize lineN ((bl s).drop k) = n at p1 hl1 hl2 hl3 hsay0
              have hsay1 : Hid (k + n + skip ((bl s).drop (k + n)) = R) := Lib.hid (by rw [hl3]; omega)
              replace p1 := Lib.hid p1
              clear hsay0 hsay hx h32 h9 h92 h35 hl3 hs2
              go_wp2_with fail
              refine p1.out.mono ?_
              rintro e w' ⟨rfl, hw⟩
              obtain rfl := hw.symm
              go_wp2
              go_roundw
              case rel => exact ⟨k + n, by omega, rfl, hsay1, Lib.hid (by trivial)⟩
              case measure => simp [intOf]; omega
            · have hi4 : ¬ (s[k].toNat : Int) = 35 := fun e => h35 (UInt8.toNat_inj.1 (by rw [show (35 : UInt8).toNat = 35 from rfl]; omega))
              rw [hx, skip_none _ (fun h => h.elim h32 h9) h35 (fun h => h92 h.1)] at hsay0
              replace hsay0 := Lib.hid hsay0
              clear hsay hx h32 h9 h92 h35
              go_wp2
              (try rw [Exit.noGoto_ret])
              go_ret
              exact ⟨by rw [← hsay0.out]; rfl, rfl⟩
    · have hi1 : ¬ (k : Int) < (s.size : Int) := by omega
      have hsay0 := hsay.out
      rw [bl_end s k (by omega), skip_nil] at hsay0
      replace hsay0 := Lib.hid hsay0
      clear hsay
      go_wp2
      (try rw [Exit.noGoto_ret])
      go_ret
      exact ⟨by rw [← hsay0.out]; rfl, rfl⟩

theorem wordStop_any (s : ByteArray) (k0 : Nat) (hk0 : k0 ≤ s.size) (hs : s.size ≤ 1000000) (w : World) :
    Calls Tryd.prog 39 #[.string s, .int .i64 (k0 : Int)] w fun e w' => e = .returned (.int .i64 (enc k0 (scan ((bl s).drop k0) [119]))) ∧ w' = w := by
  obtain ⟨R, hR⟩ : ∃ R, enc k0 (scan ((bl s).drop k0) [119]) = R := ⟨_, rfl⟩
  rw [hR]
  replace hR := Lib.hid hR
  go_enter Tryd.func39, Tryd.ntmps39
  go_wp2
  go_loopw [1] (fun i wr => ((∃ k : Nat, k ≤ s.size ∧ i = .int .i64 (k : Int) ∧ Hid (enc k (scan ((bl s).drop k) [119]) = R)) ∨ i = .int .i64 (-1) ∧ Hid (R = -1)) ∧ Hid (wr = w)) (fun i _ => if intOf i = -1 then 0 else s.size + 1 - (intOf i).toNat)
  case atStart => exact ⟨.inl ⟨k0, hk0, rfl, hR⟩, Lib.hid rfl⟩
  case round =>
    obtain ⟨hrel, hw⟩ := hrel
    obtain rfl := hw.out
    clear hw hR
    rcases hrel with ⟨k, hk, rfl, hsay⟩ | ⟨rfl, hm⟩
    · by_cases hlt : k < s.size
      · have hi1 : (k : Int) < (s.size : Int) := by omega
        have hi2 : ¬ ((k : Int) = -1) := by omega
        have hn : s[k].toNat < 256 := s[k].toNat_lt
        have he := endsWord_any s[k] wr
        have hp := whole_any s k hlt hs wr
        have hsay0 := hsay.out
        rw [bl_cons s k hlt, scan_word, ← bl_cons s k hlt] at hsay0
        by_cases hc : endsB s[k] = true
        · rw [if_pos hc, enc_some] at hsay0
          rw [hc] at he
          replace hsay0 := Lib.hid hsay0
          replace he := Lib.hid he
          clear hsay hc hp
          go_wp2_with fail
          refine he.out.mono ?_
          rintro e w' ⟨rfl, hw⟩
          obtain rfl := hw.symm
          go_wp2
          go_ret
          exact ⟨by rw [← hsay0.out]; rfl, rfl⟩
        · rw [if_neg hc, enc_bind] at hsay0
          rw [Bool.not_eq_true] at hc
          rw [hc] at he
          have hpos : ∀ n, partP 119 ((bl s).drop k) = some n → 0 < n ∧ n ≤ s.size - k := fun n h => by have := partP_pos h; rw [List.length_drop, bl_len] at this; exact this
          have hdd : ∀ n, ((bl s).drop k).drop n = (bl s).drop (k + n) := fun n => by rw [List.drop_drop]
          generalize partP 119 ((bl s).drop k) = o at hp hsay0 hpos
          clear hsay hc
          replace hp := Lib.hid hp
          replace he := Lib.hid he
          replace hdd := Lib.hid hdd
          cases o with
          | none =>
            simp only at hsay0
            replace hsay0 := Lib.hid hsay0
            clear hpos
            go_wp2_with fail
            refine he.out.mono ?_
            rintro e w' ⟨rfl, hw⟩
            obtain rfl := hw.symm
            go_wp2_with fail
            refine hp.out.mono ?_
            rintro e w' ⟨rfl, hw⟩
            obtain rfl := hw.symm
            rw [enc_none]
            go_wp2
            go_roundw
            case rel => exact ⟨.inr ⟨rfl, Lib.hid hsay0.out.symm⟩, Lib.hid (by trivial)⟩
            case measure => simp [intOf]; omega
          | some n =>
            have hn2 := hpos n rfl
            clear hpos
            simp only at hsay0
            rw [hdd.out n] at hsay0
            replace hsay0 := Lib.hid hsay0
            clear hdd
            go_wp2_with fail
            refine he.out.mono ?_
            rintro e w' ⟨rfl, hw⟩
            obtain rfl := hw.symm
            go_wp2_with fail
            refine hp.out.mono ?_
            rintro e w' ⟨rfl, hw⟩
            obtain rfl := hw.symm
            rw [enc_some]
            go_wp2
            go_roundw
            case rel => exact ⟨.inl ⟨k + n, by omega, rfl, hsay0⟩, Lib.hid (by trivial)⟩
            case measure =>
              have q : ¬ ((k : Int) + (n : Int) = -1) := by omega
              have q2 : ¬ ((k : Int) = -1) := by omega
              simp [intOf, q, q2]; omega
      · have hi1 : ¬ (k : Int) < (s.size : Int) := by omega
        have hi2 : ¬ ((k : Int) = -1) := by omega
        have hsay0 := hsay.out
        rw [bl_end s k (by omega), scan_end, if_pos ⟨rfl, rfl⟩, enc_some] at hsay0
        replace hsay0 := Lib.hid hsay0
        clear hsay
        go_wp2
        go_ret
        exact ⟨by rw [← hsay0.out]; rfl, rfl⟩
    · go_wp2
      go_ret
      exact ⟨by rw [hm.out]; rfl, rfl⟩

/-- What is wrong with a text, or a place in it. -/
def chk (s : ByteArray) (at_ : Int) : Int := if 4096 < s.size then 21 else if at_ < 0 ∨ (s.size : Int) < at_ then 1 else 0
theorem check_any (s : ByteArray) (at_ : Int) (w : World) :
    Calls Tryd.prog 22 #[.string s, .int .i64 at_] w fun e w' => e = .returned (.int .i64 (chk s at_)) ∧ w' = w := by
  unfold chk
  by_cases h1 : 4096 < s.size
  · rw [if_pos h1]
    have hi : (4096 : Int) < (s.size : Int) := by omega
    go_enter Tryd.func22, Tryd.ntmps22
    go_wp2
    go_ret
    exact ⟨rfl, rfl⟩
  · rw [if_neg h1]
    have hi : ¬ (4096 : Int) < (s.size : Int) := by omega
    by_cases h2 : at_ < 0
    · rw [if_pos (.inl h2)]
      go_enter Tryd.func22, Tryd.ntmps22
      go_wp2
      go_ret
      exact ⟨rfl, rfl⟩
    · by_cases h3 : (s.size : Int) < at_
      · rw [if_pos (.inr h3)]
        go_enter Tryd.func22, Tryd.ntmps22
        go_wp2
        go_ret
        exact ⟨rfl, rfl⟩
      · rw [if_neg (fun h => h.elim h2 h3)]
        go_enter Tryd.func22, Tryd.ntmps22
        go_wp2
        go_ret
        exact ⟨rfl, rfl⟩

/-- A thing in a text, as a value. -/
def tokV (s : ByteArray) (t : Nat × Nat × Nat) : Value := .agg #[.int .i64 (t.1 : Int), .string (s.extract t.2.1 t.2.2), .int .i64 (t.2.1 : Int), .int .i64 (t.2.2 : Int)]
theorem thing_any (s : ByteArray) (q : Int) (i j : Nat) (jv : Int) (hjv : jv = (j : Int)) (hij : i ≤ j) (hj : j ≤ s.size) (hs : s.size ≤ 1000000) (w : World) :
    Calls Tryd.prog 37 #[.string s, .int .i64 q, .int .i64 (i : Int), .int .i64 jv] w fun e w' => e = .returned (.agg #[.int .i64 q, .string (s.extract i j), .int .i64 (i : Int), .int .i64 (j : Int)]) ∧ Below w.heap.size w w' := by
  subst hjv
  have h1 : (i : Int) ≤ (j : Int) := by omega
  have h2 : (j : Int) ≤ (s.size : Int) := by omega
  go_enter Tryd.func37, Tryd.ntmps37
  go_wp2
  exact bodyPost_ret (v := .agg #[.int .i64 q, .string (s.extract i j), .int .i64 (i : Int), .int .i64 (j : Int)]) (by simp [results, Tryd.results37, go_sem]) rfl ⟨rfl, (Below.refl _ _).alloc (Nat.le_refl _) _⟩
end
end Go.Proofs.YtjeleebgifajkaaDoor
