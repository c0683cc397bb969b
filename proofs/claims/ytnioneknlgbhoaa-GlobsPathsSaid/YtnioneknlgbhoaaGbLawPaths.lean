/-
  The walk of GlobsPaths: it answers true and leaves what was there. Conditions: the pattern lies in memory that was there.
-/
import Derived.Test.YtnioneknlgbhoaaGbFew
namespace Go.Proofs.Ytnioneknlgbhoaa
open Go Go.RowKit

/-- Whether one of the first k bytes is a stroke, or a point at the beginning. -/
def hardQ (s : List UInt8) (k : Nat) : Bool := (List.range k).any fun i => s[i]? == some 47 || (s[i]? == some 46 && i == 0)
theorem hardQ_succ (s : List UInt8) (k : Nat) : hardQ s (k + 1) = (hardQ s k || (s[k]? == some 47 || (s[k]? == some 46 && k == 0))) := by
  unfold hardQ; rw [List.range_succ, List.any_append]; simp
theorem hardQ_facts {s : List UInt8} (h : hardQ s s.length = false) : (∀ c ∈ s, c ≠ 47) ∧ ¬ s.head? = some 46 := by
  unfold hardQ at h
  rw [List.any_eq_false] at h
  constructor
  · intro c hc e
    obtain ⟨i, hi, rfl⟩ := List.mem_iff_getElem.1 hc
    have := h i (List.mem_range.2 hi)
    rw [List.getElem?_eq_getElem hi, e] at this
    simp at this
  · intro e
    cases s with
    | nil => cases e
    | cons b t =>
      have := h 0 (List.mem_range.2 (by simp))
      simp only [List.head?_cons, Option.some.injEq] at e
      simp [e] at this
def strQ (p : List It) (k : Nat) : Bool := (p.take k).any isSl
theorem strQ_succ (p : List It) (k : Nat) (h : k < p.length) : strQ p (k + 1) = (strQ p k || isSl p[k]) := by
  unfold strQ; rw [List.take_succ_eq_append_getElem h]; simp only [List.any_append, List.any_cons, List.any_nil, Bool.or_false]

set_option maxHeartbeats 8000000 in
set_option maxRecDepth 100000 in
theorem lawPaths_any (p : List It) (s : ByteArray) (v : Value) (w : World) (htp : Its w w.heap.size v p) :
    Calls Try.prog 9 #[v, .string s] w fun e w' => e = .returned (.bool true) ∧ Below w.heap.size w w' := by
  have hfp := few_any p v _ w htp
  obtain ⟨A, c, rfl, hc, hcm⟩ := htp.form
  unfold maxLen at hcm
  cases hf : fewP p with
  | false =>
    rw [hf] at hfp
    clear hf
    go_enter Try.func9, Try.ntmps9
    go_wp2_with fail
    refine hfp.mono ?_
    rintro e w1 ⟨rfl, rfl⟩
    go_wp2_with fail
    refine (awake_any _).mono ?_
    rintro e w6 ⟨rfl, hb6⟩
    go_wp2
    go_ret
    exact ⟨rfl, hb6⟩
  | true =>
    rw [hf] at hfp
    have hlp : p.length ≤ 60 := by
      unfold fewP at hf
      rw [Bool.and_eq_true] at hf
      simpa using hf.1
    clear hf
    by_cases hls : s.size ≤ 100
    · have hF1 : Hid (pathM p (bl s) = true → mt p (bl s) = true) := path_mt p (bl s)
      have hF2 : Hid (hardQ (bl s) s.size = false → pathM p (bl s) = mt p (bl s)) := fun h => by
        rw [← bl_len] at h
        exact path_plain p _ (hardQ_facts h).1 (hardQ_facts h).2
      have hF3 : Hid (strQ p p.length = false → pathM p (bl s) = true → ∀ k (h : k < s.size), s[k] ≠ 47) := fun h1 h2 k hk e => by
        unfold strQ at h1
        rw [List.take_length, List.any_eq_false] at h1
        have hm : (47 : UInt8) ∈ bl s := by
          have := bl_get s k hk
          rw [e] at this
          exact List.mem_of_getElem? this
        rw [path_less p _ (fun y hy => by simpa using h1 y hy) hm] at h2
        cases h2
      go_enter Try.func9, Try.ntmps9
      go_wp2_with fail
      refine hfp.mono ?_
      rintro e w1 ⟨rfl, rfl⟩
      clear hfp
      go_wp2_with fail
      go_loop [5, 6] (fun hd i => ∃ (k : Nat) (b : Bool), k ≤ s.size ∧ hd = .bool b ∧ i = .int .i64 k ∧ Hid (b = hardQ (bl s) k)) (fun _ i => s.size - (intOf i).toNat)
      case atStart => exact ⟨0, false, Nat.zero_le _, rfl, rfl, rfl⟩
      case round =>
        obtain ⟨k, b, hk, rfl, rfl, hq⟩ := hrel
        by_cases hlt : k < s.size
        · have hs := hardQ_succ (bl s) k
          rw [← hq.out, bl_get s k hlt] at hs
          have hs := Lib.hid hs
          have hcase : b = true ∨ (b = false ∧ s[k] = 47) ∨ (b = false ∧ ¬ s[k] = 47 ∧ s[k] = 46 ∧ k = 0) ∨ (b = false ∧ ¬ s[k] = 47 ∧ s[k] = 46 ∧ ¬ k = 0) ∨ (b = false ∧ ¬ s[k] = 47 ∧ ¬ s[k] = 46) := by
            generalize s[k] = x
            cases b <;> by_cases h1 : x = 47 <;> by_cases h2 : x = 46 <;> by_cases h3 : k = 0 <;> simp [h1, h2, h3]
          clear hq hF1 hF2 hF3
          rcases hcase with rfl | ⟨rfl, h1⟩ | ⟨rfl, h1, h2, h3⟩ | ⟨rfl, h1, h2, h3⟩ | ⟨rfl, h1, h2⟩
          · go_wp2
            go_round
            case rel => exact ⟨k + 1, true, by omega, rfl, by go_num, by rw [Hid, hs.out]; simp⟩
            case measure => simp [intOf]; omega
          · have i1 : (s[k].toNat : Int) = 47 := by rw [h1]; rfl
            have hn : Hid (true = hardQ (bl s) (k + 1)) := by rw [Hid, hs.out, h1]; simp
            clear h1 hs
            go_wp2
            go_round
            case rel => exact ⟨k + 1, true, by omega, rfl, by go_num, hn⟩
            case measure => simp [intOf]; omega
          · have i1 : (s[k].toNat : Int) = 46 := by rw [h2]; rfl
            have hn : Hid (true = hardQ (bl s) (k + 1)) := by rw [Hid, hs.out, h2, h3]; simp
            have i3 : (k : Int) = 0 := by omega
            clear h1 h2 hs
            subst h3
            go_wp2
            go_round
            case rel => exact ⟨0 + 1, true, by omega, rfl, by go_num, hn⟩
            case measure => simp [intOf]; omega
          · have i1 : (s[k].toNat : Int) = 46 := by rw [h2]; rfl
            have hn : Hid (false = hardQ (bl s) (k + 1)) := by rw [Hid, hs.out, h2]; simp [h3]
            have i3 : ((k : Int) == 0) = false := by rw [beq_eq_false_iff_ne]; omega
            clear h1 h2 hs h3
            go_wp2
            go_round
            case rel => exact ⟨k + 1, false, by omega, rfl, by go_num, hn⟩
            case measure => simp [intOf]; omega
          · have i1 : ¬ (s[k].toNat : Int) = 47 := fun e => h1 (UInt8.toNat.inj (by have : ((47 : UInt8).toNat : Int) = 47 := rfl; omega))
            have i2 : ¬ (s[k].toNat : Int) = 46 := fun e => h2 (UInt8.toNat.inj (by have : ((46 : UInt8).toNat : Int) = 46 := rfl; omega))
            have j1 : ((s[k].toNat : Int) == 47) = false := beq_eq_false_iff_ne.2 i1
            have j2 : ((s[k].toNat : Int) == 46) = false := beq_eq_false_iff_ne.2 i2
            have hn : Hid (false = hardQ (bl s) (k + 1)) := by rw [Hid, hs.out]; simp [h1, h2]
            clear h1 h2 hs
            go_wp2
            go_round
            case rel => exact ⟨k + 1, false, by omega, rfl, by go_num, hn⟩
            case measure => simp [intOf]; omega
        · have hH : Hid (b = hardQ (bl s) s.size) := by have := hq.out; rwa [show k = s.size by omega] at this
          clear hq
          go_wp2_with fail
          go_loop [7, 8] (fun st i => ∃ (k : Nat) (d : Bool), k ≤ p.length ∧ st = .bool d ∧ i = .int .i64 k ∧ Hid (d = strQ p k)) (fun _ i => p.length - (intOf i).toNat)
          case atStart => exact ⟨0, false, Nat.zero_le _, rfl, rfl, rfl⟩
          case round =>
            obtain ⟨k2, d, hk2, rfl, rfl, hq⟩ := hrel
            by_cases hlt2 : k2 < p.length
            · obtain ⟨blk, off, u, rfl, hblk, g0, g1, g2, g3, hrg⟩ := htp.at_ hlt2
              have hs := strQ_succ p k2 hlt2
              rw [← hq.out] at hs
              generalize p[k2] = z at g0 g1 g2 g3 hrg hs
              have hs := Lib.hid hs
              clear hq hF1 hF2 hF3 g2 g3 hrg hH hlt hk
              have hcase : d = true ∨ (d = false ∧ ¬ z.1 = 1) ∨ (d = false ∧ z.1 = 1 ∧ z.2.1 = 47) ∨ (d = false ∧ z.1 = 1 ∧ ¬ z.2.1 = 47) := by
                cases d <;> by_cases h1 : z.1 = 1 <;> by_cases h2 : z.2.1 = 47 <;> simp [h1, h2]
              rcases hcase with rfl | ⟨rfl, h1⟩ | ⟨rfl, h1, h2⟩ | ⟨rfl, h1, h2⟩
              · go_wp2
                go_round
                case rel => exact ⟨k2 + 1, true, by omega, rfl, by go_num, by rw [Hid, hs.out]; simp⟩
                case measure => simp [intOf]; omega
              · have hn : Hid (false = strQ p (k2 + 1)) := by rw [Hid, hs.out]; simp [isSl, h1]
                have j1 : (z.1 == 1) = false := beq_eq_false_iff_ne.2 h1
                clear hs
                go_wp2
                go_round
                case rel => exact ⟨k2 + 1, false, by omega, rfl, by go_num, hn⟩
                case measure => simp [intOf]; omega
              · have hn : Hid (true = strQ p (k2 + 1)) := by rw [Hid, hs.out]; simp [isSl, h1, h2]
                have i2 : (z.2.1.toNat : Int) = 47 := by rw [h2]; rfl
                clear hs h2
                go_wp2
                go_round
                case rel => exact ⟨k2 + 1, true, by omega, rfl, by go_num, hn⟩
                case measure => simp [intOf]; omega
              · have hn : Hid (false = strQ p (k2 + 1)) := by rw [Hid, hs.out]; simp [isSl, h2]
                have i2 : ¬ (z.2.1.toNat : Int) = 47 := fun e => h2 (UInt8.toNat.inj (by have : ((47 : UInt8).toNat : Int) = 47 := rfl; omega))
                have j2 : ((z.2.1.toNat : Int) == 47) = false := beq_eq_false_iff_ne.2 i2
                clear hs h2
                go_wp2
                go_round
                case rel => exact ⟨k2 + 1, false, by omega, rfl, by go_num, hn⟩
                case measure => simp [intOf]; omega
            · have hS : Hid (d = strQ p p.length) := by have := hq.out; rwa [show k2 = p.length by omega] at this
              have hG2 := Lib.hid (hH.out ▸ hF2.out)
              have hG3 := Lib.hid (hS.out ▸ hF3.out)
              clear hq hH hS hF2 hF3
              have hpath := path_any p _ s w1 htp (by omega) (by omega)
              have hmat : ∀ W, Below w1.heap.size w1 W → Calls Try.prog 21 #[.slice A p.length c, .string s] W fun e w' => e = .returned (.bool (mt p (bl s))) ∧ Below W.heap.size W w' := fun W hW => match_any p _ s _ W (htp.below hW) hW.size (by omega) (by omega)
              generalize pathM p (bl s) = a at hpath hF1 hG2 hG3
              generalize mt p (bl s) = m at hmat hF1 hG2
              go_wp2_with fail
              refine hpath.mono ?_
              rintro e w2 ⟨rfl, hbA⟩
              clear hpath
              go_wp2_with fail
              refine (hmat _ hbA).mono ?_
              rintro e w3 ⟨rfl, hb3⟩
              have hbB : Below w1.heap.size w1 w3 := hbA.trans (hb3.mono hbA.size)
              clear hmat hbA hb3 htp
              have hcase : (a = true ∧ m = true) ∨ (a = false ∧ m = true ∧ b = true) ∨ (a = false ∧ m = false) := by
                cases a <;> cases m
                · simp
                · cases b
                  · exact absurd (hG2.out rfl) (by simp)
                  · simp
                · exact absurd (hF1.out rfl) (by simp)
                · simp
              clear hF1 hG2
              rcases hcase with ⟨rfl, rfl⟩ | ⟨rfl, rfl, rfl⟩ | ⟨rfl, rfl⟩
              · have hG4 : d = false → Hid (∀ k (h : k < s.size), s[k] ≠ 47) := fun h => hG3.out h rfl
                clear hG3
                cases d
                · have hG5 := hG4 rfl
                  clear hG4
                  cases b
                  · go_wp2_with fail
                    go_loop [11] (fun i => ∃ k : Nat, k ≤ s.size ∧ i = .int .i64 k) (fun i => s.size - (intOf i).toNat)
                    case atStart => exact ⟨0, Nat.zero_le _, rfl⟩
                    case round =>
                      obtain ⟨k, hk, rfl⟩ := hrel
                      by_cases hlt : k < s.size
                      · by_cases h47 : s[k] = 47
                        · exact absurd h47 (hG5.out k hlt)
                        · have i47 : ¬ (s[k].toNat : Int) = 47 := fun e => h47 (UInt8.toNat.inj (by have : ((47 : UInt8).toNat : Int) = 47 := rfl; omega))
                          have j47 : ((s[k].toNat : Int) == 47) = false := beq_eq_false_iff_ne.2 i47
                          clear h47
                          go_wp2
                          go_round
                          case rel => exact ⟨k + 1, by omega, by go_num⟩
                          case measure => simp [intOf]; omega
                      · go_wp2_with fail
                        refine (awake_any _).mono ?_
                        rintro e w7 ⟨rfl, hb7⟩
                        go_wp2
                        go_ret
                        exact ⟨rfl, hbB.trans (hb7.mono hbB.size)⟩
                  · go_wp2_with fail
                    go_loop [11] (fun i => ∃ k : Nat, k ≤ s.size ∧ i = .int .i64 k) (fun i => s.size - (intOf i).toNat)
                    case atStart => exact ⟨0, Nat.zero_le _, rfl⟩
                    case round =>
                      obtain ⟨k, hk, rfl⟩ := hrel
                      by_cases hlt : k < s.size
                      · by_cases h47 : s[k] = 47
                        · exact absurd h47 (hG5.out k hlt)
                        · have i47 : ¬ (s[k].toNat : Int) = 47 := fun e => h47 (UInt8.toNat.inj (by have : ((47 : UInt8).toNat : Int) = 47 := rfl; omega))
                          have j47 : ((s[k].toNat : Int) == 47) = false := beq_eq_false_iff_ne.2 i47
                          clear h47
                          go_wp2
                          go_round
                          case rel => exact ⟨k + 1, by omega, by go_num⟩
                          case measure => simp [intOf]; omega
                      · go_wp2_with fail
                        refine (awake_any _).mono ?_
                        rintro e w7 ⟨rfl, hb7⟩
                        go_wp2
                        go_ret
                        exact ⟨rfl, hbB.trans (hb7.mono hbB.size)⟩
                · clear hG4
                  cases b
                  · go_wp2_with fail
                    go_loop [11] (fun i => ∃ k : Nat, k ≤ s.size ∧ i = .int .i64 k) (fun i => s.size - (intOf i).toNat)
                    case atStart => exact ⟨0, Nat.zero_le _, rfl⟩
                    case round =>
                      obtain ⟨k, hk, rfl⟩ := hrel
                      by_cases hlt : k < s.size
                      · by_cases h47 : s[k] = 47
                        · have i47 : (s[k].toNat : Int) = 47 := by rw [h47]; rfl
                          clear h47
                          go_wp2
                          go_round
                          case rel => exact ⟨k + 1, by omega, by go_num⟩
                          case measure => simp [intOf]; omega
                        · have i47 : ¬ (s[k].toNat : Int) = 47 := fun e => h47 (UInt8.toNat.inj (by have : ((47 : UInt8).toNat : Int) = 47 := rfl; omega))
                          have j47 : ((s[k].toNat : Int) == 47) = false := beq_eq_false_iff_ne.2 i47
                          clear h47
                          go_wp2
                          go_round
                          case rel => exact ⟨k + 1, by omega, by go_num⟩
                          case measure => simp [intOf]; omega
                      · go_wp2_with fail
                        refine (awake_any _).mono ?_
                        rintro e w7 ⟨rfl, hb7⟩
                        go_wp2
                        go_ret
                        exact ⟨rfl, hbB.trans (hb7.mono hbB.size)⟩
                  · go_wp2_with fail
                    go_loop [11] (fun i => ∃ k : Nat, k ≤ s.size ∧ i = .int .i64 k) (fun i => s.size - (intOf i).toNat)
                    case atStart => exact ⟨0, Nat.zero_le _, rfl⟩
                    case round =>
                      obtain ⟨k, hk, rfl⟩ := hrel
                      by_cases hlt : k < s.size
                      · by_cases h47 : s[k] = 47
                        · have i47 : (s[k].toNat : Int) = 47 := by rw [h47]; rfl
                          clear h47
                          go_wp2
                          go_round
                          case rel => exact ⟨k + 1, by omega, by go_num⟩
                          case measure => simp [intOf]; omega
                        · have i47 : ¬ (s[k].toNat : Int) = 47 := fun e => h47 (UInt8.toNat.inj (by have : ((47 : UInt8).toNat : Int) = 47 := rfl; omega))
                          have j47 : ((s[k].toNat : Int) == 47) = false := beq_eq_false_iff_ne.2 i47
                          clear h47
                          go_wp2
                          go_round
                          case rel => exact ⟨k + 1, by omega, by go_num⟩
                          case measure => simp [intOf]; omega
                      · go_wp2_with fail
                        refine (awake_any _).mono ?_
                        rintro e w7 ⟨rfl, hb7⟩
                        go_wp2
                        go_ret
                        exact ⟨rfl, hbB.trans (hb7.mono hbB.size)⟩
              · clear hG3
                cases d
                · go_wp2_with fail
                  go_loop [11] (fun i => ∃ k : Nat, k ≤ s.size ∧ i = .int .i64 k) (fun i => s.size - (intOf i).toNat)
                  case atStart => exact ⟨0, Nat.zero_le _, rfl⟩
                  case round =>
                    obtain ⟨k, hk, rfl⟩ := hrel
                    by_cases hlt : k < s.size
                    · by_cases h47 : s[k] = 47
                      · have i47 : (s[k].toNat : Int) = 47 := by rw [h47]; rfl
                        clear h47
                        go_wp2
                        go_round
                        case rel => exact ⟨k + 1, by omega, by go_num⟩
                        case measure => simp [intOf]; omega
                      · have i47 : ¬ (s[k].toNat : Int) = 47 := fun e => h47 (UInt8.toNat.inj (by have : ((47 : UInt8).toNat : Int) = 47 := rfl; omega))
                        have j47 : ((s[k].toNat : Int) == 47) = false := beq_eq_false_iff_ne.2 i47
                        clear h47
                        go_wp2
                        go_round
                        case rel => exact ⟨k + 1, by omega, by go_num⟩
                        case measure => simp [intOf]; omega
                    · go_wp2_with fail
                      refine (awake_any _).mono ?_
                      rintro e w7 ⟨rfl, hb7⟩
                      go_wp2
                      go_ret
                      exact ⟨rfl, hbB.trans (hb7.mono hbB.size)⟩
                · go_wp2_with fail
                  go_loop [11] (fun i => ∃ k : Nat, k ≤ s.size ∧ i = .int .i64 k) (fun i => s.size - (intOf i).toNat)
                  case atStart => exact ⟨0, Nat.zero_le _, rfl⟩
                  case round =>
                    obtain ⟨k, hk, rfl⟩ := hrel
                    by_cases hlt : k < s.size
                    · by_cases h47 : s[k] = 47
                      · have i47 : (s[k].toNat : Int) = 47 := by rw [h47]; rfl
                        clear h47
                        go_wp2
                        go_round
                        case rel => exact ⟨k + 1, by omega, by go_num⟩
                        case measure => simp [intOf]; omega
                      · have i47 : ¬ (s[k].toNat : Int) = 47 := fun e => h47 (UInt8.toNat.inj (by have : ((47 : UInt8).toNat : Int) = 47 := rfl; omega))
                        have j47 : ((s[k].toNat : Int) == 47) = false := beq_eq_false_iff_ne.2 i47
                        clear h47
                        go_wp2
                        go_round
                        case rel => exact ⟨k + 1, by omega, by go_num⟩
                        case measure => simp [intOf]; omega
                    · go_wp2_with fail
                      refine (awake_any _).mono ?_
                      rintro e w7 ⟨rfl, hb7⟩
                      go_wp2
                      go_ret
                      exact ⟨rfl, hbB.trans (hb7.mono hbB.size)⟩
              · clear hG3
                cases b <;> cases d
                · go_wp2_with fail
                  go_loop [11] (fun i => ∃ k : Nat, k ≤ s.size ∧ i = .int .i64 k) (fun i => s.size - (intOf i).toNat)
                  case atStart => exact ⟨0, Nat.zero_le _, rfl⟩
                  case round =>
                    obtain ⟨k, hk, rfl⟩ := hrel
                    by_cases hlt : k < s.size
                    · by_cases h47 : s[k] = 47
                      · have i47 : (s[k].toNat : Int) = 47 := by rw [h47]; rfl
                        clear h47
                        go_wp2
                        go_round
                        case rel => exact ⟨k + 1, by omega, by go_num⟩
                        case measure => simp [intOf]; omega
                      · have i47 : ¬ (s[k].toNat : Int) = 47 := fun e => h47 (UInt8.toNat.inj (by have : ((47 : UInt8).toNat : Int) = 47 := rfl; omega))
                        have j47 : ((s[k].toNat : Int) == 47) = false := beq_eq_false_iff_ne.2 i47
                        clear h47
                        go_wp2
                        go_round
                        case rel => exact ⟨k + 1, by omega, by go_num⟩
                        case measure => simp [intOf]; omega
                    · go_wp2_with fail
                      refine (awake_any _).mono ?_
                      rintro e w7 ⟨rfl, hb7⟩
                      go_wp2
                      go_ret
                      exact ⟨rfl, hbB.trans (hb7.mono hbB.size)⟩
                · go_wp2_with fail
                  go_loop [11] (fun i => ∃ k : Nat, k ≤ s.size ∧ i = .int .i64 k) (fun i => s.size - (intOf i).toNat)
                  case atStart => exact ⟨0, Nat.zero_le _, rfl⟩
                  case round =>
                    obtain ⟨k, hk, rfl⟩ := hrel
                    by_cases hlt : k < s.size
                    · by_cases h47 : s[k] = 47
                      · have i47 : (s[k].toNat : Int) = 47 := by rw [h47]; rfl
                        clear h47
                        go_wp2
                        go_round
                        case rel => exact ⟨k + 1, by omega, by go_num⟩
                        case measure => simp [intOf]; omega
                      · have i47 : ¬ (s[k].toNat : Int) = 47 := fun e => h47 (UInt8.toNat.inj (by have : ((47 : UInt8).toNat : Int) = 47 := rfl; omega))
                        have j47 : ((s[k].toNat : Int) == 47) = false := beq_eq_false_iff_ne.2 i47
                        clear h47
                        go_wp2
                        go_round
                        case rel => exact ⟨k + 1, by omega, by go_num⟩
                        case measure => simp [intOf]; omega
                    · go_wp2_with fail
                      refine (awake_any _).mono ?_
                      rintro e w7 ⟨rfl, hb7⟩
                      go_wp2
                      go_ret
                      exact ⟨rfl, hbB.trans (hb7.mono hbB.size)⟩
                · go_wp2_with fail
                  go_loop [11] (fun i => ∃ k : Nat, k ≤ s.size ∧ i = .int .i64 k) (fun i => s.size - (intOf i).toNat)
                  case atStart => exact ⟨0, Nat.zero_le _, rfl⟩
                  case round =>
                    obtain ⟨k, hk, rfl⟩ := hrel
                    by_cases hlt : k < s.size
                    · by_cases h47 : s[k] = 47
                      · have i47 : (s[k].toNat : Int) = 47 := by rw [h47]; rfl
                        clear h47
                        go_wp2
                        go_round
                        case rel => exact ⟨k + 1, by omega, by go_num⟩
                        case measure => simp [intOf]; omega
                      · have i47 : ¬ (s[k].toNat : Int) = 47 := fun e => h47 (UInt8.toNat.inj (by have : ((47 : UInt8).toNat : Int) = 47 := rfl; omega))
                        have j47 : ((s[k].toNat : Int) == 47) = false := beq_eq_false_iff_ne.2 i47
                        clear h47
                        go_wp2
                        go_round
                        case rel => exact ⟨k + 1, by omega, by go_num⟩
                        case measure => simp [intOf]; omega
                    · go_wp2_with fail
                      refine (awake_any _).mono ?_
                      rintro e w7 ⟨rfl, hb7⟩
                      go_wp2
                      go_ret
                      exact ⟨rfl, hbB.trans (hb7.mono hbB.size)⟩
                · go_wp2_with fail
                  go_loop [11] (fun i => ∃ k : Nat, k ≤ s.size ∧ i = .int .i64 k) (fun i => s.size - (intOf i).toNat)
                  case atStart => exact ⟨0, Nat.zero_le _, rfl⟩
                  case round =>
                    obtain ⟨k, hk, rfl⟩ := hrel
                    by_cases hlt : k < s.size
                    · by_cases h47 : s[k] = 47
                      · have i47 : (s[k].toNat : Int) = 47 := by rw [h47]; rfl
                        clear h47
                        go_wp2
                        go_round
                        case rel => exact ⟨k + 1, by omega, by go_num⟩
                        case measure => simp [intOf]; omega
                      · have i47 : ¬ (s[k].toNat : Int) = 47 := fun e => h47 (UInt8.toNat.inj (by have : ((47 : UInt8).toNat : Int) = 47 := rfl; omega))
                        have j47 : ((s[k].toNat : Int) == 47) = false := beq_eq_false_iff_ne.2 i47
                        clear h47
                        go_wp2
                        go_round
                        case rel => exact ⟨k + 1, by omega, by go_num⟩
                        case measure => simp [intOf]; omega
                    · go_wp2_with fail
                      refine (awake_any _).mono ?_
                      rintro e w7 ⟨rfl, hb7⟩
                      go_wp2
                      go_ret
                      exact ⟨rfl, hbB.trans (hb7.mono hbB.size)⟩
    · go_enter Try.func9, Try.ntmps9
      go_wp2_with fail
      refine hfp.mono ?_
      rintro e w1 ⟨rfl, rfl⟩
      go_wp2_with fail
      refine (awake_any _).mono ?_
      rintro e w6 ⟨rfl, hb6⟩
      go_wp2
      go_ret
      exact ⟨rfl, hb6⟩
end Go.Proofs.Ytnioneknlgbhoaa
