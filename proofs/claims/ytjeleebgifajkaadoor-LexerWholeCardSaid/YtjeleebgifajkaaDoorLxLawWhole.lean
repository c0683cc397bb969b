/-
  The walk of LexerWhole: it answers true and leaves what was there. Conditions: none.
-/
import Derived.Laws.Concat
import Derived.Test.YtjeleebgifajkaaDoorLxInto
import Derived.Test.YtjeleebgifajkaaDoorLxAwake
set_option linter.unusedSimpArgs false
set_option linter.unusedVariables false
namespace Go.Proofs.YtjeleebgifajkaaDoor
open Go Go.RowKit

theorem bl_append (s t : ByteArray) : bl (s ++ t) = bl s ++ bl t := by
  simp [bl, ByteArray.data_append]
theorem seqF_end {l : List UInt8} {k m : Nat} (h : (nextP l k).1 = 0) : seqF m l k = [] := by
  cases m with
  | zero => rfl
  | succ m => unfold seqF; rw [if_neg (by rw [h]; decide), if_pos h]
theorem seqL_one {s : ByteArray} (hs : 0 < s.size) (h : nextP (bl s) 0 = (4, 0, s.size)) : seqL s = [(4, 0, s.size)] := by
  have h2 : (nextP (bl s) s.size).1 = 0 := by
    unfold nextP
    have e : (bl s).drop s.size = [] := bl_end s _ (Nat.le_refl _)
    rw [e, skip_nil]
    dsimp only
    rw [Nat.add_zero, e]
    simp
  unfold seqL seqF
  rw [h]
  simp only [show ¬ ((4 : Nat) = 5) by decide, show ¬ ((4 : Nat) = 0) by decide, if_false]
  rw [seqF_end h2]
theorem allP_one {s : ByteArray} (hs : 0 < s.size) (h4 : s.size ≤ 4096) (h : nextP (bl s) 0 = (4, 0, s.size)) : allP s = ([(4, 0, s.size)], 0, 0) :=
  all_ok h4 (seqL_one hs h) (by simp)
def sB (l : List UInt8) : Bool := l.all fun c => c != 39
def dB (l : List UInt8) : Bool := l.all fun c => c != 34 && c != 92 && c != 36 && c != 96
theorem sB_mem {l : List UInt8} (h : sB l = true) : ∀ c ∈ l, c ≠ 39 := fun c hc => by
  unfold sB at h; rw [List.all_eq_true] at h; simpa using h c hc
theorem dB_mem {l : List UInt8} (h : dB l = true) : ∀ c ∈ l, c ≠ 34 ∧ c ≠ 92 ∧ c ≠ 36 ∧ c ≠ 96 := fun c hc => by
  unfold dB at h; rw [List.all_eq_true] at h
  have := h c hc
  simp at this
  exact ⟨this.1.1.1, this.1.1.2, this.1.2, this.2⟩
theorem sB_snoc (s : ByteArray) (i : Nat) (h : i < s.size) : sB ((bl s).take (i + 1)) = (sB ((bl s).take i) && s[i] != 39) := by
  rw [List.take_add_one, List.getElem?_eq_getElem (by rw [bl_len]; exact h)]
  simp [sB, bl_get]
  rfl
theorem dB_snoc (s : ByteArray) (i : Nat) (h : i < s.size) : dB ((bl s).take (i + 1)) = (dB ((bl s).take i) && (s[i] != 34 && s[i] != 92 && s[i] != 36 && s[i] != 96)) := by
  rw [List.take_add_one, List.getElem?_eq_getElem (by rw [bl_len]; exact h)]
  simp [dB, bl_get]
  rfl
theorem quoted_all {q : UInt8} {s Q : ByteArray} (hq : q = 39 ∨ q = 34) (hs : s.size ≤ 200) (hQ : bl Q = 120 :: q :: (bl s ++ [q, 121])) (h : scan (bl s ++ [q, 121]) [q] = some ((bl s).length + 1)) :
    allP Q = ([(4, 0, Q.size)], 0, 0) ∧ Q.extract 0 Q.size = Q := by
  have hl : Q.size = s.size + 4 := by
    rw [← bl_len, hQ]; simp [bl]
  have hsc := scan_quoted hq h
  rw [← hQ] at hsc
  rw [bl_len, ← hl] at hsc
  refine ⟨allP_one (by omega) (by omega) ?_, ?_⟩
  · have := nextP_whole hQ (by decide) (by simp) (by decide) (by rw [hsc, bl_len])
    rw [bl_len] at this
    exact this
  · apply ByteArray.ext
    apply Array.toList_inj.1
    rw [bl_extract, List.drop_zero, List.take_of_length_le (by rw [bl_len]; exact Nat.le_refl _)]
theorem word_scan {s : ByteArray} {t : Tk} (hs : s.size ≤ 4096) (h : allP s = ([t], 0, 0)) (h4 : t.1 = 4) (hx : s.extract t.2.1 t.2.2 = s) : scan (bl s) [119] = some (bl s).length := by
  have hseq : seqL s = [t] := by
    unfold allP at h
    rw [if_neg (by omega)] at h
    split at h
    · injection h
    · injection h with _ h2
      injection h2 with _ h3
      cases h3
  have hn : nextP (bl s) 0 = t := by
    unfold seqL seqF at hseq
    split at hseq
    · rename_i h5
      exact (List.cons.inj hseq).1
    · split at hseq
      · cases hseq
      · exact (List.cons.inj hseq).1
  have hsz := congrArg ByteArray.size hx
  rw [ByteArray.size_extract] at hsz
  have hle := nextP_le (bl s) 0 (Nat.zero_le _)
  rw [hn, bl_len] at hle
  have hpos := hle.2.2.2.1 (by rw [h4]; decide) (by rw [h4]; decide)
  have h0 : t.2.1 = 0 := by omega
  have hb : t.2.2 = s.size := by omega
  unfold nextP at hn
  dsimp only at hn
  rw [List.drop_zero, Nat.zero_add] at hn
  split at hn
  · rw [← hn] at h4; cases h4
  · split at hn
    · rw [← hn] at h4; cases h4
    · split at hn
      · rw [← hn] at h4; cases h4
      · split at hn
        · rw [← hn] at h4; cases h4
        · rename_i n hs2
          rw [← hn] at h0 hb
          simp only at h0 hb
          rw [h0, List.drop_zero] at hs2
          rw [hs2, bl_len]
          congr 1
          omega
theorem bl_of {s : ByteArray} {l : List UInt8} (h : s = ⟨l.toArray⟩) : bl s = l := by rw [h]

set_option maxHeartbeats 8000000 in
set_option maxRecDepth 100000 in
theorem lawWhole_any (s : ByteArray) (w : World) :
    Calls Tryd.prog 8 #[.string s] w fun e w' => e = .returned (.bool true) ∧ Below w.heap.size w w' := by
  have haw := fun W => awake_any W
  replace haw := Lib.hid haw
  by_cases g1 : (200 : Int) < (s.size : Int)
  · go_enter Tryd.func8, Tryd.ntmps8
    go_wp2_with fail
    refine (haw.out _).mono ?_
    rintro e w' ⟨rfl, hb⟩
    go_wp2
    go_ret
    exact ⟨rfl, hb⟩
  · have hs : s.size ≤ 200 := by omega
    -- the texts that are made
    have c1 : ∀ W, (Op.stringOp .add ⟨#[120, 39]⟩ s).run Tryd.prog W = .ok (.string (⟨#[120, 39]⟩ ++ s)) W := fun W => run_string_add_sum W _ _ (by show 2 + s.size ≤ _; omega)
    have c2 : ∀ W, (Op.stringOp .add (⟨#[120, 39]⟩ ++ s) ⟨#[39, 121]⟩).run Tryd.prog W = .ok (.string (⟨#[120, 39]⟩ ++ s ++ ⟨#[39, 121]⟩)) W := fun W => run_string_add_sum W _ _ (by rw [ByteArray.size_append]; show 2 + s.size + 2 ≤ _; omega)
    have c3 : ∀ W, (Op.stringOp .add ⟨#[120, 34]⟩ s).run Tryd.prog W = .ok (.string (⟨#[120, 34]⟩ ++ s)) W := fun W => run_string_add_sum W _ _ (by show 2 + s.size ≤ _; omega)
    have c4 : ∀ W, (Op.stringOp .add (⟨#[120, 34]⟩ ++ s) ⟨#[34, 121]⟩).run Tryd.prog W = .ok (.string (⟨#[120, 34]⟩ ++ s ++ ⟨#[34, 121]⟩)) W := fun W => run_string_add_sum W _ _ (by rw [ByteArray.size_append]; show 2 + s.size + 2 ≤ _; omega)
    have c5 : ∀ W, (Op.stringOp .add ⟨#[36, 40]⟩ s).run Tryd.prog W = .ok (.string (⟨#[36, 40]⟩ ++ s)) W := fun W => run_string_add_sum W _ _ (by show 2 + s.size ≤ _; omega)
    have c6 : ∀ W, (Op.stringOp .add (⟨#[36, 40]⟩ ++ s) ⟨#[41]⟩).run Tryd.prog W = .ok (.string (⟨#[36, 40]⟩ ++ s ++ ⟨#[41]⟩)) W := fun W => run_string_add_sum W _ _ (by rw [ByteArray.size_append]; show 2 + s.size + 1 ≤ _; omega)
    have c7 : ∀ W, (Op.stringOp .add ⟨#[36, 40, 40]⟩ s).run Tryd.prog W = .ok (.string (⟨#[36, 40, 40]⟩ ++ s)) W := fun W => run_string_add_sum W _ _ (by show 3 + s.size ≤ _; omega)
    have c8 : ∀ W, (Op.stringOp .add (⟨#[36, 40, 40]⟩ ++ s) ⟨#[41, 32]⟩).run Tryd.prog W = .ok (.string (⟨#[36, 40, 40]⟩ ++ s ++ ⟨#[41, 32]⟩)) W := fun W => run_string_add_sum W _ _ (by rw [ByteArray.size_append]; show 3 + s.size + 2 ≤ _; omega)
    have c9 : ∀ W, (Op.stringOp .add (⟨#[36, 40, 40]⟩ ++ s ++ ⟨#[41, 32]⟩) s).run Tryd.prog W = .ok (.string (⟨#[36, 40, 40]⟩ ++ s ++ ⟨#[41, 32]⟩ ++ s)) W := fun W => run_string_add_sum W _ _ (by rw [ByteArray.size_append, ByteArray.size_append]; show 3 + s.size + 2 + s.size ≤ _; omega)
    have cA : ∀ W, (Op.stringOp .add (⟨#[36, 40, 40]⟩ ++ s ++ ⟨#[41, 32]⟩ ++ s) ⟨#[41, 122]⟩).run Tryd.prog W = .ok (.string (⟨#[36, 40, 40]⟩ ++ s ++ ⟨#[41, 32]⟩ ++ s ++ ⟨#[41, 122]⟩)) W := fun W => run_string_add_sum W _ _ (by rw [ByteArray.size_append, ByteArray.size_append, ByteArray.size_append]; show 3 + s.size + 2 + s.size + 2 ≤ _; omega)
    have b1 : bl (⟨#[120, 39]⟩ ++ s ++ ⟨#[39, 121]⟩) = 120 :: 39 :: (bl s ++ [39, 121]) := by rw [bl_append, bl_append]; rfl
    have b2 : bl (⟨#[120, 34]⟩ ++ s ++ ⟨#[34, 121]⟩) = 120 :: 34 :: (bl s ++ [34, 121]) := by rw [bl_append, bl_append]; rfl
    have b3 : bl (⟨#[36, 40]⟩ ++ s ++ ⟨#[41]⟩) = 36 :: 40 :: (bl s ++ [41]) := by rw [bl_append, bl_append]; rfl
    have b4 : bl (⟨#[36, 40, 40]⟩ ++ s ++ ⟨#[41, 32]⟩ ++ s ++ ⟨#[41, 122]⟩) = 36 :: 40 :: 40 :: (bl s ++ 41 :: 32 :: (bl s ++ [41, 122])) := by
      rw [bl_append, bl_append, bl_append, bl_append]; simp [bl]
    generalize hQ3 : (⟨#[36, 40]⟩ : ByteArray) ++ s = q3 at c5 c6 b3
    generalize hQ1 : (⟨#[120, 39]⟩ : ByteArray) ++ s = q1 at c1 c2 b1
    generalize hQ2 : (⟨#[120, 34]⟩ : ByteArray) ++ s = q2 at c3 c4 b2
    generalize hQ4 : (⟨#[36, 40, 40]⟩ : ByteArray) ++ s = q4 at c7 c8 c9 cA b4
    generalize hQ5 : q4 ++ (⟨#[41, 32]⟩ : ByteArray) = q5 at c8 c9 cA b4
    generalize hQ6 : q5 ++ s = q6 at c9 cA b4
    generalize hT1 : q1 ++ (⟨#[39, 121]⟩ : ByteArray) = T1 at c2 b1
    generalize hT2 : q2 ++ (⟨#[34, 121]⟩ : ByteArray) = T2 at c4 b2
    generalize hT3 : q3 ++ (⟨#[41]⟩ : ByteArray) = T3 at c6 b3
    generalize hT4 : q6 ++ (⟨#[41, 122]⟩ : ByteArray) = T4 at cA b4
    clear hQ1 hQ2 hQ3 hQ4 hQ5 hQ6 hT1 hT2 hT3 hT4
    have f1 : sB (bl s) = true → allP T1 = ([(4, 0, T1.size)], 0, 0) ∧ T1.extract 0 T1.size = T1 := fun h => quoted_all (.inl rfl) hs b1 (scan_single (sB_mem h))
    have f2 : dB (bl s) = true → allP T2 = ([(4, 0, T2.size)], 0, 0) ∧ T2.extract 0 T2.size = T2 := fun h => quoted_all (.inr rfl) hs b2 (scan_double (dB_mem h))
    have l3 : T3.size = s.size + 3 := by rw [← bl_len, b3]; simp [bl]
    have l4 : T4.size = 2 * s.size + 7 := by rw [← bl_len, b4]; simp [bl]; omega
    have f3 : scan (bl s) [119] = some (bl s).length → holeV T3 0 = (((s.size + 3 : Nat) : Int), 0) := by
      intro h
      unfold holeV
      have hc : chk T3 0 = 0 := by unfold chk; rw [if_neg (by omega), if_neg (by omega)]
      rw [if_neg (fun hh => hh hc)]
      show (if holeB (bl T3) = false then ((0 : Int), (1 : Int)) else match holeP (bl T3) with | none => (0, 30) | some n => (((0 + n : Nat) : Int), 0)) = _
      rw [b3, if_neg (by simp [holeB]), hole_one h, bl_len]
      simp
    have f4 : scan (bl s) [119] = some (bl s).length → holeV T4 0 = (((2 * s.size + 6 : Nat) : Int), 0) := by
      intro h
      unfold holeV
      have hc : chk T4 0 = 0 := by unfold chk; rw [if_neg (by omega), if_neg (by omega)]
      rw [if_neg (fun hh => hh hc)]
      show (if holeB (bl T4) = false then ((0 : Int), (1 : Int)) else match holeP (bl T4) with | none => (0, 30) | some n => (((0 + n : Nat) : Int), 0)) = _
      rw [b4, if_neg (by simp [holeB]), hole_two h, bl_len]
      simp
    have r1 := fun W => All_any T1 W
    have r2 := fun W => All_any T2 W
    have r3 := fun W => All_any s W
    have r4 := fun W => Hole_any T3 0 W
    have r5 := fun W => Hole_any T4 0 W
    replace f1 := Lib.hid f1
    replace f2 := Lib.hid f2
    replace f3 := Lib.hid f3
    replace f4 := Lib.hid f4
    replace r1 := Lib.hid r1
    replace r2 := Lib.hid r2
    replace r3 := Lib.hid r3
    replace r4 := Lib.hid r4
    replace r5 := Lib.hid r5
    replace c1 := Lib.hid c1
    replace c2 := Lib.hid c2
    replace c3 := Lib.hid c3
    replace c4 := Lib.hid c4
    replace c5 := Lib.hid c5
    replace c6 := Lib.hid c6
    replace c7 := Lib.hid c7
    replace c8 := Lib.hid c8
    replace c9 := Lib.hid c9
    replace cA := Lib.hid cA
    clear b1 b2 b3 b4 l3 l4
    go_enter Tryd.func8, Tryd.ntmps8
    go_wp2
    go_loopw [3, 4, 5] (fun pv qv iv wr => ∃ (i : Nat) (p q : Bool), i ≤ s.size ∧ iv = .int .i64 (i : Int) ∧ pv = .bool p ∧ qv = .bool q ∧ Hid (p = sB ((bl s).take i)) ∧ Hid (q = dB ((bl s).take i)) ∧ Hid (wr = w)) (fun _ _ iv _ => s.size - (intOf iv).toNat)
    case atStart => exact ⟨0, true, true, Nat.zero_le _, rfl, rfl, rfl, Lib.hid rfl, Lib.hid rfl, Lib.hid rfl⟩
    case round =>
      obtain ⟨i, p, q, hi, rfl, rfl, rfl, hp, hq, hw⟩ := hrel
      obtain rfl := hw.out
      clear hw
      by_cases hlt : i < s.size
      · have hli : (i : Int) < (s.size : Int) := by omega
        have hn := s[i].toNat_lt
        have hp2 := sB_snoc s i hlt
        have hq2 := dB_snoc s i hlt
        rw [← hp.out] at hp2
        rw [← hq.out] at hq2
        clear hp hq f1 f2 f3 f4 r1 r2 r3 r4 r5 c1 c2 c3 c4 c5 c6 c7 c8 c9 cA
        by_cases h39 : s[i] = 39
        · have i39 : (s[i].toNat : Int) = 39 := by rw [h39]; rfl
          rw [h39] at hp2 hq2
          replace hp2 := Lib.hid hp2
          replace hq2 := Lib.hid hq2
          clear h39
          cases p <;> cases q
          all_goals (
            go_wp2
            go_roundw
            case rel => exact ⟨i + 1, _, _, by omega, by go_num, rfl, rfl, Lib.hid (by rw [hp2.out]; decide), Lib.hid (by rw [hq2.out]; decide), Lib.hid (by trivial)⟩
            case measure => simp [intOf]; omega)
        · have i39 : ¬ (s[i].toNat : Int) = 39 := fun e => h39 (UInt8.toNat_inj.1 (by rw [show (39 : UInt8).toNat = 39 from rfl]; omega))
          by_cases h34 : s[i] = 34
          · have i34 : (s[i].toNat : Int) = 34 := by rw [h34]; rfl
            rw [h34] at hp2 hq2
            replace hp2 := Lib.hid hp2
            replace hq2 := Lib.hid hq2
            clear h39 h34
            cases p <;> cases q
            all_goals (
              go_wp2
              go_roundw
              case rel => exact ⟨i + 1, _, _, by omega, by go_num, rfl, rfl, Lib.hid (by rw [hp2.out]; decide), Lib.hid (by rw [hq2.out]; decide), Lib.hid (by trivial)⟩
              case measure => simp [intOf]; omega)
          · have i34 : ¬ (s[i].toNat : Int) = 34 := fun e => h34 (UInt8.toNat_inj.1 (by rw [show (34 : UInt8).toNat = 34 from rfl]; omega))
            by_cases h92 : s[i] = 92
            · have i92 : (s[i].toNat : Int) = 92 := by rw [h92]; rfl
              rw [h92] at hp2 hq2
              replace hp2 := Lib.hid hp2
              replace hq2 := Lib.hid hq2
              clear h39 h34 h92
              cases p <;> cases q
              all_goals (
                go_wp2
                go_roundw
                case rel => exact ⟨i + 1, _, _, by omega, by go_num, rfl, rfl, Lib.hid (by rw [hp2.out]; decide), Lib.hid (by rw [hq2.out]; decide), Lib.hid (by trivial)⟩
                case measure => simp [intOf]; omega)
            · have i92 : ¬ (s[i].toNat : Int) = 92 := fun e => h92 (UInt8.toNat_inj.1 (by rw [show (92 : UInt8).toNat = 92 from rfl]; omega))
              by_cases h36 : s[i] = 36
              · have i36 : (s[i].toNat : Int) = 36 := by rw [h36]; rfl
                rw [h36] at hp2 hq2
                replace hp2 := Lib.hid hp2
                replace hq2 := Lib.hid hq2
                clear h39 h34 h92 h36
                cases p <;> cases q
                all_goals (
                  go_wp2
                  go_roundw
                  case rel => exact ⟨i + 1, _, _, by omega, by go_num, rfl, rfl, Lib.hid (by rw [hp2.out]; decide), Lib.hid (by rw [hq2.out]; decide), Lib.hid (by trivial)⟩
                  case measure => simp [intOf]; omega)
              · have i36 : ¬ (s[i].toNat : Int) = 36 := fun e => h36 (UInt8.toNat_inj.1 (by rw [show (36 : UInt8).toNat = 36 from rfl]; omega))
                by_cases h96 : s[i] = 96
                · have i96 : (s[i].toNat : Int) = 96 := by rw [h96]; rfl
                  rw [h96] at hp2 hq2
                  replace hp2 := Lib.hid hp2
                  replace hq2 := Lib.hid hq2
                  clear h39 h34 h92 h36 h96
                  cases p <;> cases q
                  all_goals (
                    go_wp2
                    go_roundw
                    case rel => exact ⟨i + 1, _, _, by omega, by go_num, rfl, rfl, Lib.hid (by rw [hp2.out]; decide), Lib.hid (by rw [hq2.out]; decide), Lib.hid (by trivial)⟩
                    case measure => simp [intOf]; omega)
                · have i96 : ¬ (s[i].toNat : Int) = 96 := fun e => h96 (UInt8.toNat_inj.1 (by rw [show (96 : UInt8).toNat = 96 from rfl]; omega))
                  have j39 : ((s[i].toNat : Int) != 39) = true := bne_iff_ne.2 i39
                  have j34 : ((s[i].toNat : Int) != 34) = true := bne_iff_ne.2 i34
                  have j92 : ((s[i].toNat : Int) != 92) = true := bne_iff_ne.2 i92
                  have j36 : ((s[i].toNat : Int) != 36) = true := bne_iff_ne.2 i36
                  have j96 : ((s[i].toNat : Int) != 96) = true := bne_iff_ne.2 i96
                  have hx : (s[i] != 39) = true ∧ (s[i] != 34 && s[i] != 92 && s[i] != 36 && s[i] != 96) = true := by simp [h39, h34, h92, h36, h96]
                  rw [hx.1] at hp2
                  rw [hx.2] at hq2
                  replace hp2 := Lib.hid hp2
                  replace hq2 := Lib.hid hq2
                  clear hx h39 h34 h92 h36 h96
                  cases p <;> cases q
                  all_goals (
                    go_wp2
                    go_roundw
                    case rel => exact ⟨i + 1, _, _, by omega, by go_num, rfl, rfl, Lib.hid (by rw [hp2.out]; decide), Lib.hid (by rw [hq2.out]; decide), Lib.hid (by trivial)⟩
                    case measure => simp [intOf]; omega)
      · obtain rfl : s.size = i := by omega
        have hp3 := hp.out
        have hq3 := hq.out
        have htk : (bl s).take s.size = bl s := List.take_of_length_le (by rw [bl_len]; exact Nat.le_refl _)
        rw [htk] at hp3 hq3
        replace hp3 := Lib.hid hp3
        replace hq3 := Lib.hid hq3
        clear hp hq htk
        have hli : ¬ (s.size : Int) < (s.size : Int) := by omega
        have c1 := c1.out
        have c2 := c2.out
        have c3 := c3.out
        have c4 := c4.out
        go_wp2_with fail
        refine (r1.out _).mono ?_
        rintro e w1 ⟨v1, rfl, hb1, row1⟩
        have hf1 : Hid (p = true → v1 = v1 ∧ (∃ g c, v1 = .slice (some ⟨g, 0, none⟩) 1 c ∧ w1.cell? ⟨g, 1, none⟩ = some (.string T1) ∧ g < w1.heap.size) ∧ (allP T1).2.2 = 0) := Lib.hid (fun hp => by
          obtain ⟨k1, k2⟩ := f1.out (hp3.out ▸ hp)
          rw [k1] at row1
          obtain ⟨g, c, rfl⟩ := ownsRow_succ (k := 0) row1
          refine ⟨rfl, ⟨g, c, rfl, ?_, (row1.lt g rfl).2⟩, by rw [k1]⟩
          have := row1.cells (g := g) rfl 1 (.string T1) (by simp [cellsTk, cellTk, k2])
          rwa [add_plain0, Nat.zero_add] at this)
        clear row1 r1 f1 hp3
        generalize (allP T1).2.1 = n1 at *
        generalize (allP T1).2.2 = e1 at *
        go_wp2_with fail
        refine (r2.out _).mono ?_
        rintro e w2 ⟨v2, rfl, hb2, row2⟩
        have hf2 : Hid (q = true → v2 = v2 ∧ (∃ g c, v2 = .slice (some ⟨g, 0, none⟩) 1 c ∧ w2.cell? ⟨g, 1, none⟩ = some (.string T2)) ∧ (allP T2).2.2 = 0) := Lib.hid (fun hq => by
          obtain ⟨k1, k2⟩ := f2.out (hq3.out ▸ hq)
          rw [k1] at row2
          obtain ⟨g, c, rfl⟩ := ownsRow_succ (k := 0) row2
          refine ⟨rfl, ⟨g, c, rfl, ?_⟩, by rw [k1]⟩
          have := row2.cells (g := g) rfl 1 (.string T2) (by simp [cellsTk, cellTk, k2])
          rwa [add_plain0, Nat.zero_add] at this)
        have hf3 : Hid (p = true → (∃ g c, v1 = .slice (some ⟨g, 0, none⟩) 1 c ∧ w2.cell? ⟨g, 1, none⟩ = some (.string T1)) ∧ e1 = 0) := Lib.hid (fun hp => by
          obtain ⟨_, ⟨g, c, k1, k2, k3⟩, k4⟩ := hf1.out hp
          exact ⟨⟨g, c, k1, (hb2.cell (p := ⟨g, 1, none⟩) k3).trans k2⟩, k4⟩)
        have hbA : Hid (Below wr.heap.size wr w2) := Lib.hid (hb1.trans (hb2.mono hb1.size))
        clear row2 r2 f2 hq3 hf1 hb1 hb2
        generalize (allP T2).2.1 = n2 at *
        generalize (allP T2).2.2 = e2 at *
        go_upto_region 12 with fail
        go_cut [118] from 77 to 117 (fun cv wx => cv = .bool false ∧ wx = w2)
        case first =>
          clear c5 c6 c7 c8 c9 cA f3 f4 r3 r4 r5 haw hbA
          cases p with
          | false =>
            cases q with
            | false =>
              go_wp2
              go_meet
              exact ⟨rfl, rfl⟩
            | true =>
              obtain ⟨_, ⟨g2, cc2, rfl, hc2⟩, rfl⟩ := hf2.out rfl
              go_wp2
              go_meet
              exact ⟨rfl, rfl⟩
          | true =>
            obtain ⟨⟨g1, cc1, rfl, hc1⟩, rfl⟩ := hf3.out rfl
            cases q with
            | false =>
              go_wp2
              go_meet
              exact ⟨rfl, rfl⟩
            | true =>
              obtain ⟨_, ⟨g2, cc2, rfl, hc2⟩, rfl⟩ := hf2.out rfl
              go_wp2
              go_meet
              exact ⟨rfl, rfl⟩
        case rest =>
          obtain ⟨rfl, hwx⟩ := hcut
          obtain rfl := hwx.symm
          clear hf2 hf3 c1 c2 c3 c4 hwx
          have hh4 : scan (bl s) [119] = some (bl s).length → ∀ W, Calls Tryd.prog 12 #[.string T3, .int .i64 0] W fun e w' => e = .returned (.tuple #[.int .i64 ((s.size : Int) + 3), .int .i64 0]) ∧ w' = W := fun h W => by
            have := r4.out W
            rw [f3.out h] at this
            exact this
          have hh5 : scan (bl s) [119] = some (bl s).length → ∀ W, Calls Tryd.prog 12 #[.string T4, .int .i64 0] W fun e w' => e = .returned (.tuple #[.int .i64 (2 * (s.size : Int) + 6), .int .i64 0]) ∧ w' = W := fun h W => by
            have := r5.out W
            rw [f4.out h, show ((2 * s.size + 6 : Nat) : Int) = 2 * (s.size : Int) + 6 by omega] at this
            exact this
          have hwd := fun t h1 h2 h3 => word_scan (s := s) (t := t) (by omega) h1 h2 h3
          replace hh4 := Lib.hid hh4
          replace hh5 := Lib.hid hh5
          replace hwd := Lib.hid hwd
          clear r4 r5 f3 f4
          go_wp2_with fail
          refine (r3.out _).mono ?_
          rintro e w3 ⟨v3, rfl, hb3, row3⟩
          have hbB : Hid (Below w2.heap.size w2 w3) := Lib.hid hb3
          have hbC : Hid (Below wr.heap.size wr w3) := Lib.hid (hbA.out.trans (hb3.mono hbA.out.size))
          clear r3 hb3 hbA
          generalize hP : allP s = P at row3 hwd ⊢
          obtain ⟨L, n3, e3⟩ := P
          dsimp only at row3 ⊢
          have hend : ∀ W, Hid (Below wr.heap.size wr W) → Calls Tryd.prog 9 #[] W fun e w' => e = .returned (.bool true) ∧ Below wr.heap.size wr w' := fun W h => (haw.out W).mono fun e w' ⟨he, hb⟩ => ⟨he, h.out.trans (hb.mono h.out.size)⟩
          replace hend := Lib.hid hend
          by_cases he : e3 = 0
          · subst he
            by_cases hL : L.length = 1
            · obtain ⟨t, rfl⟩ : ∃ t, L = [t] := by
                match L, hL with
                | [t], _ => exact ⟨t, rfl⟩
              obtain ⟨g3, c3, rfl⟩ := ownsRow_succ (k := 0) row3
              have k0 := row3.cells (g := g3) rfl 0 (.int .i64 (t.1 : Int)) rfl
              have k1 := row3.cells (g := g3) rfl 1 (.string (s.extract t.2.1 t.2.2)) rfl
              rw [add_plain0, Nat.zero_add] at k0 k1
              by_cases h4 : t.1 = 4
              · rw [h4] at k0
                by_cases hx : s.extract t.2.1 t.2.2 = s
                · by_cases hn3 : n3 = 0
                  · subst hn3
                    rw [hx] at k1
                    have hsc := hwd.out t rfl h4 hx
                    have p4 := hh4.out hsc
                    have p5 := hh5.out hsc
                    have c5 := c5.out
                    have c6 := c6.out
                    have c7 := c7.out
                    have c8 := c8.out
                    have c9 := c9.out
                    have cA := cA.out
                    replace p4 := Lib.hid p4
                    replace p5 := Lib.hid p5
                    clear hh4 hh5 hwd row3 hP hsc h4 hx
                    go_wp2_with fail
                    refine (p4.out _).mono ?_
                    rintro e w' ⟨rfl, hwq⟩
                    obtain rfl := hwq.symm
                    clear p4 hwq
                    dsimp only
                    go_wp2_with fail
                    refine (p5.out _).mono ?_
                    rintro e w' ⟨rfl, hwq⟩
                    obtain rfl := hwq.symm
                    clear p5 hwq
                    dsimp only
                    go_wp2_with fail
                    refine (hend.out _ hbC).mono ?_
                    rintro e w4 ⟨rfl, hb⟩
                    replace hb := Lib.hid hb
                    go_wp2
                    go_ret
                    exact ⟨rfl, hb.out⟩
                  · exfalso
                    unfold allP at hP
                    split at hP
                    · injection hP with hP _; cases hP
                    · split at hP
                      · injection hP with _ hP; injection hP with hP _; exact hn3 hP.symm
                      · injection hP with _ hP; injection hP with _ hP; cases hP
                · have hcmp : ((s.extract t.2.1 t.2.2).toList == s.toList) = false := by
                    rw [ByteArray.toList_eq, ByteArray.toList_eq]
                    exact beq_eq_false_iff_ne.2 (fun e => hx (ByteArray.ext (Array.toList_inj.1 e)))
                  generalize s.extract t.2.1 t.2.2 = y at k1 hcmp
                  clear hh4 hh5 hwd row3 hP h4 hx c5 c6 c7 c8 c9 cA
                  go_wp2_with fail
                  refine (hend.out _ hbC).mono ?_
                  rintro e w4 ⟨rfl, hb⟩
                  replace hb := Lib.hid hb
                  go_wp2
                  go_ret
                  exact ⟨rfl, hb.out⟩
              · have h4i : ¬ (t.1 : Int) = 4 := by omega
                clear hh4 hh5 hwd row3 hP h4 c5 c6 c7 c8 c9 cA
                go_wp2_with fail
                refine (hend.out _ hbC).mono ?_
                rintro e w4 ⟨rfl, hb⟩
                replace hb := Lib.hid hb
                go_wp2
                go_ret
                exact ⟨rfl, hb.out⟩
            · obtain ⟨A, c3, rfl⟩ : ∃ A c, v3 = .slice A L.length c := by
                rcases row3.2 with ⟨rfl, h0⟩ | ⟨g, cap, _, rfl, _⟩
                · exact ⟨_, _, by rw [h0]⟩
                · exact ⟨_, _, rfl⟩
              have hLi : ¬ ((L.length : Nat) : Int) = 1 := by omega
              generalize L.length = KL at *
              clear hh4 hh5 hwd row3 hP c5 c6 c7 c8 c9 cA
              go_wp2_with fail
              refine (hend.out _ hbC).mono ?_
              rintro e w4 ⟨rfl, hb⟩
              replace hb := Lib.hid hb
              go_wp2
              go_ret
              exact ⟨rfl, hb.out⟩
          · clear hh4 hh5 hwd row3 hP c5 c6 c7 c8 c9 cA
            go_wp2_with fail
            refine (hend.out _ hbC).mono ?_
            rintro e w4 ⟨rfl, hb⟩
            replace hb := Lib.hid hb
            go_wp2
            go_ret
            exact ⟨rfl, hb.out⟩
end Go.Proofs.YtjeleebgifajkaaDoor
