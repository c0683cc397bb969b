/-
  The small functions of things: what stands between, what a line is, ops, what ends a word, digits. Conditions: texts of up to a million bytes.
-/
import Derived.Test.YtjeleebgifajkaaDoorLxWhole
set_option linter.unusedSimpArgs false
set_option linter.unusedVariables false
namespace Go.Proofs.YtjeleebgifajkaaDoor
open Go Go.Shelf Go.RowKit

/-- How many bytes there are ahead of the next line feed. -/
def lineN : List UInt8 → Nat
  | [] => 0
  | c :: r => if c = 10 then 0 else lineN r + 1
theorem lineN_le (x : List UInt8) : lineN x ≤ x.length := by
  induction x with
  | nil => simp [lineN]
  | cons c r ih => unfold lineN; split <;> simp <;> omega
theorem lineN_drop (x : List UInt8) : x.drop (lineN x) = [] ∨ ∃ r, x.drop (lineN x) = 10 :: r := by
  induction x with
  | nil => exact .inl rfl
  | cons c r ih =>
    unfold lineN
    split
    · rename_i h; subst h; exact .inr ⟨r, rfl⟩
    · simpa using ih
theorem lineN_at (x : List UInt8) (h : lineN x < x.length) : x[lineN x]? = some 10 := by
  rcases lineN_drop x with e | ⟨r, e⟩
  · have := congrArg List.length e; simp at this; omega
  · have : (x.drop (lineN x))[0]? = some 10 := by rw [e]; rfl
    rwa [List.getElem?_drop, Nat.add_zero] at this
theorem index_line (x : List UInt8) : Lib.indexByte x 10 = if lineN x < x.length then (lineN x : Int) else -1 := by
  induction x with
  | nil => rfl
  | cons c r ih =>
    unfold Lib.indexByte lineN
    by_cases h : c = 10
    · subst h; simp
    · have h2 : (c == 10) = false := beq_eq_false_iff_ne.2 h
      rw [h2, if_neg h]
      simp only [Bool.false_eq_true, if_false]
      rw [ih]
      by_cases h3 : lineN r < r.length
      · rw [if_pos h3, if_pos (show lineN r + 1 < (c :: r).length by simp; omega)]
        have : ((lineN r : Int) == -1) = false := beq_eq_false_iff_ne.2 (by omega)
        rw [this]; simp
      · rw [if_neg h3, if_neg (show ¬ lineN r + 1 < (c :: r).length by simp; omega)]
        rfl
/-- What stands between things. -/
def skip : List UInt8 → Nat
  | [] => 0
  | c :: r => if c = 32 ∨ c = 9 then skip r + 1 else if c = 35 then lineN (c :: r) else match r with
    | [] => 0
    | d :: r' => if c = 92 ∧ d = 10 then skip r' + 2 else 0
theorem skip_nil : skip [] = 0 := by unfold skip; rfl
theorem skip_blank {c : UInt8} (r : List UInt8) (h : c = 32 ∨ c = 9) : skip (c :: r) = skip r + 1 := by rw [skip.eq_def]; simp only; rw [if_pos h]
theorem skip_hash (r : List UInt8) : skip (35 :: r) = lineN (35 :: r) := by rw [skip.eq_def]; simp
theorem skip_join (r : List UInt8) : skip (92 :: 10 :: r) = skip r + 2 := by rw [skip.eq_def]; simp
theorem skip_none {c : UInt8} (r : List UInt8) (h1 : ¬ (c = 32 ∨ c = 9)) (h2 : c ≠ 35) (h3 : ¬ (c = 92 ∧ r.headD 0 = 10)) : skip (c :: r) = 0 := by
  rw [skip.eq_def]
  simp only
  rw [if_neg h1, if_neg h2]
  cases r with
  | nil => rfl
  | cons d r => simp only [List.headD_cons] at h3; simp only; rw [if_neg h3]
theorem skip_line (x : List UInt8) : skip (x.drop (lineN x)) = 0 := by
  rcases lineN_drop x with e | ⟨r, e⟩
  · rw [e, skip_nil]
  · rw [e]; exact skip_none r (by decide) (by decide) (fun h => absurd h.1 (by decide))
theorem skip_le (x : List UInt8) : skip x ≤ x.length := by
  obtain ⟨m, hm⟩ : ∃ m, x.length = m := ⟨_, rfl⟩
  induction m using Nat.strongRecOn generalizing x with
  | _ m ih =>
    match x, hm with
    | [], _ => simp [skip_nil]
    | c :: r, hm =>
      by_cases h1 : c = 32 ∨ c = 9
      · rw [skip_blank r h1]
        have := ih r.length (by simp at hm; omega) r rfl
        simp; omega
      · by_cases h2 : c = 35
        · subst h2; rw [skip_hash]; exact lineN_le _
        · by_cases h3 : c = 92 ∧ r.headD 0 = 10
          · obtain ⟨rfl, h3⟩ := h3
            cases r with
            | nil => exact absurd h3 (by decide)
            | cons d r =>
              simp only [List.headD_cons] at h3
              subst h3
              rw [skip_join]
              have := ih r.length (by simp at hm; omega) r rfl
              simp; omega
          · rw [skip_none r h1 h2 h3]; simp

theorem index_mem (l : List UInt8) (c : UInt8) : decide (0 ≤ Lib.indexByte l c) = l.contains c := by
  induction l with
  | nil => rfl
  | cons b r ih =>
    unfold Lib.indexByte
    by_cases h : b = c
    · subst h; simp
    · have h2 : (b == c) = false := beq_eq_false_iff_ne.2 h
      have h3 : (c == b) = false := beq_eq_false_iff_ne.2 (Ne.symm h)
      rw [h2]
      simp only [Bool.false_eq_true, if_false, List.contains_cons, h3, Bool.false_or]
      rw [← ih]
      split
      · rename_i e; rw [beq_iff_eq] at e; rw [e]
      · rename_i e
        rw [beq_iff_eq] at e
        rw [decide_eq_decide]
        have : ∀ x, -1 ≤ Lib.indexByte x c := by
          intro x
          induction x with
          | nil => exact Int.le_refl _
          | cons a y ihy =>
            unfold Lib.indexByte
            split
            · omega
            · split
              · omega
              · omega
        have := this r
        omega
def digitB (c : UInt8) : Bool := [48, 49, 50, 51, 52, 53, 54, 55, 56, 57].contains c
theorem trim_digits (x : List UInt8) : (Lib.trimS x [48, 49, 50, 51, 52, 53, 54, 55, 56, 57]).isEmpty = x.all digitB := by
  unfold Lib.trimS Lib.trimLeftS Lib.trimRightS
  show (((x.reverse.dropWhile digitB).reverse).dropWhile digitB).isEmpty = x.all digitB
  have key : ∀ y : List UInt8, (y.dropWhile digitB).isEmpty = y.all digitB := by
    intro y
    induction y with
    | nil => rfl
    | cons a y ih =>
      by_cases h : digitB a = true
      · rw [List.dropWhile_cons_of_pos h, ih]; simp [h]
      · rw [List.dropWhile_cons_of_neg h]; simp [h]
  rw [key]
  by_cases h : x.reverse.all digitB = true
  · have h2 := key x.reverse
    rw [h, List.isEmpty_iff] at h2
    rw [h2]
    rw [List.all_reverse] at h
    simp [h]
  · rw [Bool.not_eq_true] at h
    have h2 := key x.reverse
    rw [h] at h2
    rw [List.all_reverse] at h
    rw [h]
    cases hd : x.reverse.dropWhile digitB with
    | nil => rw [hd] at h2; cases h2
    | cons a y =>
      have ha : digitB a = false := by
        have := List.head?_dropWhile_not (p := digitB) (l := x.reverse)
        rw [hd] at this
        simpa using this
      simp [ha]
theorem bytesNe {s : ByteArray} {l : List UInt8} (h : ¬ s = ⟨l.toArray⟩) : (s.toList == l) = false := by
  rw [beq_eq_false_iff_ne]
  intro e
  rw [ByteArray.toList_eq] at e
  exact h (by cases s with | mk d => exact congrArg ByteArray.mk (by rw [← e]))
/-- Whether a row is an op. -/
def opB (x : List UInt8) : Bool := x == [60, 60, 45] || ops2.contains x || ops1.contains x
def redir (x : List UInt8) : Bool := x.headD 0 == 60 || x.headD 0 == 62
theorem ends_mem (c : UInt8) : ([32, 9, 10, 38, 124, 59, 60, 62, 40, 41] : List UInt8).contains c = endsB c := by
  simp only [endsB, List.contains_cons, List.contains_nil, Bool.or_false, Bool.or_assoc]

section
set_option maxRecDepth 100000
set_option maxHeartbeats 2000000
theorem lineStop_any (s : ByteArray) (k : Nat) (hk : k ≤ s.size) (hs : s.size ≤ 1000000) (w : World) :
    Calls Tryd.prog 31 #[.string s, .int .i64 (k : Int)] w fun e w' => e = .returned (.int .i64 ((k + lineN ((bl s).drop k) : Nat) : Int)) ∧ w' = w := by
  have hk1 : (k : Int) ≤ (s.size : Int) := by omega
  have p1 := Tryd.strings_IndexByte (s.extract k s.size) 10 w
  rw [bl_from, show ((10 : Int).toNat.toUInt8) = 10 from rfl, index_line] at p1
  have hl := lineN_le ((bl s).drop k)
  rw [List.length_drop, bl_len] at hl p1
  generalize lineN ((bl s).drop k) = n at hl p1 ⊢
  by_cases h : n < s.size - k
  · rw [if_pos h] at p1
    replace p1 := Lib.hid p1
    go_enter Tryd.func31, Tryd.ntmps31
    go_wp2_with fail
    refine p1.out.mono ?_
    rintro e w' ⟨rfl, hw⟩
    obtain rfl := hw.symm
    go_wp2
    go_ret
    exact ⟨by go_num, rfl⟩
  · rw [if_neg h] at p1
    have e : k + n = s.size := by omega
    rw [e]
    replace p1 := Lib.hid p1
    go_enter Tryd.func31, Tryd.ntmps31
    go_wp2_with fail
    refine p1.out.mono ?_
    rintro e w' ⟨rfl, hw⟩
    obtain rfl := hw.symm
    go_wp2
    go_ret
    exact ⟨rfl, rfl⟩
theorem endsWord_any (b : UInt8) (w : World) :
    Calls Tryd.prog 56 #[.int .u8 (b.toNat : Int)] w fun e w' => e = .returned (.bool (endsB b)) ∧ w' = w := by
  have p1 := Tryd.strings_IndexByte ⟨#[32, 9, 10, 38, 124, 59, 60, 62, 40, 41]⟩ (b.toNat : Int) w
  rw [show (((b.toNat : Int)).toNat.toUInt8) = b by simp] at p1
  rw [← ends_mem, ← index_mem]
  simp only at p1
  generalize Lib.indexByte [32, 9, 10, 38, 124, 59, 60, 62, 40, 41] b = n at p1 ⊢
  have hn := b.toNat_lt
  replace p1 := Lib.hid p1
  go_enter Tryd.func56, Tryd.ntmps56
  go_wp2_with fail
  refine p1.out.mono ?_
  rintro e w' ⟨rfl, hw⟩
  obtain rfl := hw.symm
  go_wp2
  go_ret
  exact ⟨rfl, rfl⟩
theorem digits_any (s : ByteArray) (hs : s.size ≤ 1000000) (w : World) :
    Calls Tryd.prog 40 #[.string s] w fun e w' => e = .returned (.bool ((bl s).all digitB)) ∧ Below w.heap.size w w' := by
  have p1 := Tryd.trimDigits s w (by omega)
  rw [← trim_digits]
  have hE : ∀ l : List UInt8, (⟨l.toArray⟩ : ByteArray).toList.isEmpty = l.isEmpty := fun l => by rw [ByteArray.toList_eq]
  have hE2 := hE (Lib.trimS (bl s) [48, 49, 50, 51, 52, 53, 54, 55, 56, 57])
  generalize Lib.trimS (bl s) [48, 49, 50, 51, 52, 53, 54, 55, 56, 57] = l at p1 hE2 ⊢
  generalize l.isEmpty = R at hE2 ⊢
  generalize (⟨l.toArray⟩ : ByteArray) = y at p1 hE2
  replace p1 := Lib.hid p1
  clear hE
  cases R with
  | true =>
    go_enter Tryd.func40, Tryd.ntmps40
    go_wp2_with fail
    refine p1.out.mono ?_
    rintro e w' ⟨rfl, hb⟩
    replace hb := Lib.hid hb
    go_wp2
    go_ret
    exact ⟨rfl, hb.out⟩
  | false =>
    go_enter Tryd.func40, Tryd.ntmps40
    go_wp2_with fail
    refine p1.out.mono ?_
    rintro e w' ⟨rfl, hb⟩
    replace hb := Lib.hid hb
    go_wp2
    go_ret
    exact ⟨rfl, hb.out⟩
theorem redirected_any (s : ByteArray) (k : Nat) (hk : k ≤ s.size) (hs : s.size ≤ 1000000) (w : World) :
    Calls Tryd.prog 41 #[.string s, .int .i64 (k : Int)] w fun e w' => e = .returned (.bool (redir ((bl s).drop k))) ∧ w' = w := by
  by_cases hlt : k < s.size
  · have hk1 : (k : Int) < (s.size : Int) := by omega
    have hn := s[k].toNat_lt
    have ec : redir ((bl s).drop k) = (s[k] == 60 || s[k] == 62) := by rw [bl_cons s k hlt]; rfl
    rw [ec]
    by_cases h : s[k] = 60
    · have hi : (s[k].toNat : Int) = 60 := by rw [h]; rfl
      rw [h]
      clear h ec
      go_enter Tryd.func41, Tryd.ntmps41
      go_wp2
      go_ret
      exact ⟨rfl, rfl⟩
    · have hi : ¬ (s[k].toNat : Int) = 60 := fun e => h (UInt8.toNat_inj.1 (by rw [show (60 : UInt8).toNat = 60 from rfl]; omega))
      by_cases h2 : s[k] = 62
      · have hi2 : (s[k].toNat : Int) = 62 := by rw [h2]; rfl
        rw [h2]
        clear h h2 ec
        go_enter Tryd.func41, Tryd.ntmps41
        go_wp2
        go_ret
        exact ⟨rfl, rfl⟩
      · have hi2 : ¬ (s[k].toNat : Int) = 62 := fun e => h2 (UInt8.toNat_inj.1 (by rw [show (62 : UInt8).toNat = 62 from rfl]; omega))
        have e : (s[k] == 60 || s[k] == 62) = false := by simp [h, h2]
        rw [e]
        clear h h2 ec e
        have j1 : ((s[k].toNat : Int) == 60) = false := beq_eq_false_iff_ne.2 hi
        have j2 : ((s[k].toNat : Int) == 62) = false := beq_eq_false_iff_ne.2 hi2
        go_enter Tryd.func41, Tryd.ntmps41
        go_wp2
        go_ret
        exact ⟨rfl, rfl⟩
  · have hk1 : ¬ (k : Int) < (s.size : Int) := by omega
    rw [bl_end s k (by omega)]
    go_enter Tryd.func41, Tryd.ntmps41
    go_wp2
    go_ret
    exact ⟨rfl, rfl⟩
theorem isOp_any (s : ByteArray) (w : World) :
    Calls Tryd.prog 55 #[.string s] w fun e w' => e = .returned (.bool (opB (bl s))) ∧ w' = w := by
  by_cases h0 : s = ⟨#[38, 38]⟩
  · have g : (s.toList == [38, 38]) = true := by rw [h0, ByteArray.toList_eq]; rfl
    have e : opB (bl s) = true := by rw [h0]; rfl
    rw [e]
    clear e h0
    go_enter Tryd.func55, Tryd.ntmps55
    go_wp2
    go_ret
    exact ⟨rfl, rfl⟩
  by_cases h1 : s = ⟨#[124, 124]⟩
  · have g : (s.toList == [124, 124]) = true := by rw [h1, ByteArray.toList_eq]; rfl
    have g0 : (s.toList == [38, 38]) = false := bytesNe h0
    have e : opB (bl s) = true := by rw [h1]; rfl
    rw [e]
    clear e h0 h1
    go_enter Tryd.func55, Tryd.ntmps55
    go_wp2
    go_ret
    exact ⟨rfl, rfl⟩
  by_cases h2 : s = ⟨#[59, 59]⟩
  · have g : (s.toList == [59, 59]) = true := by rw [h2, ByteArray.toList_eq]; rfl
    have g0 : (s.toList == [38, 38]) = false := bytesNe h0
    have g1 : (s.toList == [124, 124]) = false := bytesNe h1
    have e : opB (bl s) = true := by rw [h2]; rfl
    rw [e]
    clear e h0 h1 h2
    go_enter Tryd.func55, Tryd.ntmps55
    go_wp2
    go_ret
    exact ⟨rfl, rfl⟩
  by_cases h3 : s = ⟨#[60, 60, 45]⟩
  · have g : (s.toList == [60, 60, 45]) = true := by rw [h3, ByteArray.toList_eq]; rfl
    have g0 : (s.toList == [38, 38]) = false := bytesNe h0
    have g1 : (s.toList == [124, 124]) = false := bytesNe h1
    have g2 : (s.toList == [59, 59]) = false := bytesNe h2
    have e : opB (bl s) = true := by rw [h3]; rfl
    rw [e]
    clear e h0 h1 h2 h3
    go_enter Tryd.func55, Tryd.ntmps55
    go_wp2
    go_ret
    exact ⟨rfl, rfl⟩
  by_cases h4 : s = ⟨#[60, 60]⟩
  · have g : (s.toList == [60, 60]) = true := by rw [h4, ByteArray.toList_eq]; rfl
    have g0 : (s.toList == [38, 38]) = false := bytesNe h0
    have g1 : (s.toList == [124, 124]) = false := bytesNe h1
    have g2 : (s.toList == [59, 59]) = false := bytesNe h2
    have g3 : (s.toList == [60, 60, 45]) = false := bytesNe h3
    have e : opB (bl s) = true := by rw [h4]; rfl
    rw [e]
    clear e h0 h1 h2 h3 h4
    go_enter Tryd.func55, Tryd.ntmps55
    go_wp2
    go_ret
    exact ⟨rfl, rfl⟩
  by_cases h5 : s = ⟨#[60, 38]⟩
  · have g : (s.toList == [60, 38]) = true := by rw [h5, ByteArray.toList_eq]; rfl
    have g0 : (s.toList == [38, 38]) = false := bytesNe h0
    have g1 : (s.toList == [124, 124]) = false := bytesNe h1
    have g2 : (s.toList == [59, 59]) = false := bytesNe h2
    have g3 : (s.toList == [60, 60, 45]) = false := bytesNe h3
    have g4 : (s.toList == [60, 60]) = false := bytesNe h4
    have e : opB (bl s) = true := by rw [h5]; rfl
    rw [e]
    clear e h0 h1 h2 h3 h4 h5
    go_enter Tryd.func55, Tryd.ntmps55
    go_wp2
    go_ret
    exact ⟨rfl, rfl⟩
  by_cases h6 : s = ⟨#[60, 62]⟩
  · have g : (s.toList == [60, 62]) = true := by rw [h6, ByteArray.toList_eq]; rfl
    have g0 : (s.toList == [38, 38]) = false := bytesNe h0
    have g1 : (s.toList == [124, 124]) = false := bytesNe h1
    have g2 : (s.toList == [59, 59]) = false := bytesNe h2
    have g3 : (s.toList == [60, 60, 45]) = false := bytesNe h3
    have g4 : (s.toList == [60, 60]) = false := bytesNe h4
    have g5 : (s.toList == [60, 38]) = false := bytesNe h5
    have e : opB (bl s) = true := by rw [h6]; rfl
    rw [e]
    clear e h0 h1 h2 h3 h4 h5 h6
    go_enter Tryd.func55, Tryd.ntmps55
    go_wp2
    go_ret
    exact ⟨rfl, rfl⟩
  by_cases h7 : s = ⟨#[62, 62]⟩
  · have g : (s.toList == [62, 62]) = true := by rw [h7, ByteArray.toList_eq]; rfl
    have g0 : (s.toList == [38, 38]) = false := bytesNe h0
    have g1 : (s.toList == [124, 124]) = false := bytesNe h1
    have g2 : (s.toList == [59, 59]) = false := bytesNe h2
    have g3 : (s.toList == [60, 60, 45]) = false := bytesNe h3
    have g4 : (s.toList == [60, 60]) = false := bytesNe h4
    have g5 : (s.toList == [60, 38]) = false := bytesNe h5
    have g6 : (s.toList == [60, 62]) = false := bytesNe h6
    have e : opB (bl s) = true := by rw [h7]; rfl
    rw [e]
    clear e h0 h1 h2 h3 h4 h5 h6 h7
    go_enter Tryd.func55, Tryd.ntmps55
    go_wp2
    go_ret
    exact ⟨rfl, rfl⟩
  by_cases h8 : s = ⟨#[62, 38]⟩
  · have g : (s.toList == [62, 38]) = true := by rw [h8, ByteArray.toList_eq]; rfl
    have g0 : (s.toList == [38, 38]) = false := bytesNe h0
    have g1 : (s.toList == [124, 124]) = false := bytesNe h1
    have g2 : (s.toList == [59, 59]) = false := bytesNe h2
    have g3 : (s.toList == [60, 60, 45]) = false := bytesNe h3
    have g4 : (s.toList == [60, 60]) = false := bytesNe h4
    have g5 : (s.toList == [60, 38]) = false := bytesNe h5
    have g6 : (s.toList == [60, 62]) = false := bytesNe h6
    have g7 : (s.toList == [62, 62]) = false := bytesNe h7
    have e : opB (bl s) = true := by rw [h8]; rfl
    rw [e]
    clear e h0 h1 h2 h3 h4 h5 h6 h7 h8
    go_enter Tryd.func55, Tryd.ntmps55
    go_wp2
    go_ret
    exact ⟨rfl, rfl⟩
  by_cases h9 : s = ⟨#[62, 124]⟩
  · have g : (s.toList == [62, 124]) = true := by rw [h9, ByteArray.toList_eq]; rfl
    have g0 : (s.toList == [38, 38]) = false := bytesNe h0
    have g1 : (s.toList == [124, 124]) = false := bytesNe h1
    have g2 : (s.toList == [59, 59]) = false := bytesNe h2
    have g3 : (s.toList == [60, 60, 45]) = false := bytesNe h3
    have g4 : (s.toList == [60, 60]) = false := bytesNe h4
    have g5 : (s.toList == [60, 38]) = false := bytesNe h5
    have g6 : (s.toList == [60, 62]) = false := bytesNe h6
    have g7 : (s.toList == [62, 62]) = false := bytesNe h7
    have g8 : (s.toList == [62, 38]) = false := bytesNe h8
    have e : opB (bl s) = true := by rw [h9]; rfl
    rw [e]
    clear e h0 h1 h2 h3 h4 h5 h6 h7 h8 h9
    go_enter Tryd.func55, Tryd.ntmps55
    go_wp2
    go_ret
    exact ⟨rfl, rfl⟩
  by_cases h10 : s = ⟨#[38]⟩
  · have g : (s.toList == [38]) = true := by rw [h10, ByteArray.toList_eq]; rfl
    have g0 : (s.toList == [38, 38]) = false := bytesNe h0
    have g1 : (s.toList == [124, 124]) = false := bytesNe h1
    have g2 : (s.toList == [59, 59]) = false := bytesNe h2
    have g3 : (s.toList == [60, 60, 45]) = false := bytesNe h3
    have g4 : (s.toList == [60, 60]) = false := bytesNe h4
    have g5 : (s.toList == [60, 38]) = false := bytesNe h5
    have g6 : (s.toList == [60, 62]) = false := bytesNe h6
    have g7 : (s.toList == [62, 62]) = false := bytesNe h7
    have g8 : (s.toList == [62, 38]) = false := bytesNe h8
    have g9 : (s.toList == [62, 124]) = false := bytesNe h9
    have e : opB (bl s) = true := by rw [h10]; rfl
    rw [e]
    clear e h0 h1 h2 h3 h4 h5 h6 h7 h8 h9 h10
    go_enter Tryd.func55, Tryd.ntmps55
    go_wp2
    go_ret
    exact ⟨rfl, rfl⟩
  by_cases h11 : s = ⟨#[124]⟩
  · have g : (s.toList == [124]) = true := by rw [h11, ByteArray.toList_eq]; rfl
    have g0 : (s.toList == [38, 38]) = false := bytesNe h0
    have g1 : (s.toList == [124, 124]) = false := bytesNe h1
    have g2 : (s.toList == [59, 59]) = false := bytesNe h2
    have g3 : (s.toList == [60, 60, 45]) = false := bytesNe h3
    have g4 : (s.toList == [60, 60]) = false := bytesNe h4
    have g5 : (s.toList == [60, 38]) = false := bytesNe h5
    have g6 : (s.toList == [60, 62]) = false := bytesNe h6
    have g7 : (s.toList == [62, 62]) = false := bytesNe h7
    have g8 : (s.toList == [62, 38]) = false := bytesNe h8
    have g9 : (s.toList == [62, 124]) = false := bytesNe h9
    have g10 : (s.toList == [38]) = false := bytesNe h10
    have e : opB (bl s) = true := by rw [h11]; rfl
    rw [e]
    clear e h0 h1 h2 h3 h4 h5 h6 h7 h8 h9 h10 h11
    go_enter Tryd.func55, Tryd.ntmps55
    go_wp2
    go_ret
    exact ⟨rfl, rfl⟩
  by_cases h12 : s = ⟨#[59]⟩
  · have g : (s.toList == [59]) = true := by rw [h12, ByteArray.toList_eq]; rfl
    have g0 : (s.toList == [38, 38]) = false := bytesNe h0
    have g1 : (s.toList == [124, 124]) = false := bytesNe h1
    have g2 : (s.toList == [59, 59]) = false := bytesNe h2
    have g3 : (s.toList == [60, 60, 45]) = false := bytesNe h3
    have g4 : (s.toList == [60, 60]) = false := bytesNe h4
    have g5 : (s.toList == [60, 38]) = false := bytesNe h5
    have g6 : (s.toList == [60, 62]) = false := bytesNe h6
    have g7 : (s.toList == [62, 62]) = false := bytesNe h7
    have g8 : (s.toList == [62, 38]) = false := bytesNe h8
    have g9 : (s.toList == [62, 124]) = false := bytesNe h9
    have g10 : (s.toList == [38]) = false := bytesNe h10
    have g11 : (s.toList == [124]) = false := bytesNe h11
    have e : opB (bl s) = true := by rw [h12]; rfl
    rw [e]
    clear e h0 h1 h2 h3 h4 h5 h6 h7 h8 h9 h10 h11 h12
    go_enter Tryd.func55, Tryd.ntmps55
    go_wp2
    go_ret
    exact ⟨rfl, rfl⟩
  by_cases h13 : s = ⟨#[60]⟩
  · have g : (s.toList == [60]) = true := by rw [h13, ByteArray.toList_eq]; rfl
    have g0 : (s.toList == [38, 38]) = false := bytesNe h0
    have g1 : (s.toList == [124, 124]) = false := bytesNe h1
    have g2 : (s.toList == [59, 59]) = false := bytesNe h2
    have g3 : (s.toList == [60, 60, 45]) = false := bytesNe h3
    have g4 : (s.toList == [60, 60]) = false := bytesNe h4
    have g5 : (s.toList == [60, 38]) = false := bytesNe h5
    have g6 : (s.toList == [60, 62]) = false := bytesNe h6
    have g7 : (s.toList == [62, 62]) = false := bytesNe h7
    have g8 : (s.toList == [62, 38]) = false := bytesNe h8
    have g9 : (s.toList == [62, 124]) = false := bytesNe h9
    have g10 : (s.toList == [38]) = false := bytesNe h10
    have g11 : (s.toList == [124]) = false := bytesNe h11
    have g12 : (s.toList == [59]) = false := bytesNe h12
    have e : opB (bl s) = true := by rw [h13]; rfl
    rw [e]
    clear e h0 h1 h2 h3 h4 h5 h6 h7 h8 h9 h10 h11 h12 h13
    go_enter Tryd.func55, Tryd.ntmps55
    go_wp2
    go_ret
    exact ⟨rfl, rfl⟩
  by_cases h14 : s = ⟨#[62]⟩
  · have g : (s.toList == [62]) = true := by rw [h14, ByteArray.toList_eq]; rfl
    have g0 : (s.toList == [38, 38]) = false := bytesNe h0
    have g1 : (s.toList == [124, 124]) = false := bytesNe h1
    have g2 : (s.toList == [59, 59]) = false := bytesNe h2
    have g3 : (s.toList == [60, 60, 45]) = false := bytesNe h3
    have g4 : (s.toList == [60, 60]) = false := bytesNe h4
    have g5 : (s.toList == [60, 38]) = false := bytesNe h5
    have g6 : (s.toList == [60, 62]) = false := bytesNe h6
    have g7 : (s.toList == [62, 62]) = false := bytesNe h7
    have g8 : (s.toList == [62, 38]) = false := bytesNe h8
    have g9 : (s.toList == [62, 124]) = false := bytesNe h9
    have g10 : (s.toList == [38]) = false := bytesNe h10
    have g11 : (s.toList == [124]) = false := bytesNe h11
    have g12 : (s.toList == [59]) = false := bytesNe h12
    have g13 : (s.toList == [60]) = false := bytesNe h13
    have e : opB (bl s) = true := by rw [h14]; rfl
    rw [e]
    clear e h0 h1 h2 h3 h4 h5 h6 h7 h8 h9 h10 h11 h12 h13 h14
    go_enter Tryd.func55, Tryd.ntmps55
    go_wp2
    go_ret
    exact ⟨rfl, rfl⟩
  by_cases h15 : s = ⟨#[40]⟩
  · have g : (s.toList == [40]) = true := by rw [h15, ByteArray.toList_eq]; rfl
    have g0 : (s.toList == [38, 38]) = false := bytesNe h0
    have g1 : (s.toList == [124, 124]) = false := bytesNe h1
    have g2 : (s.toList == [59, 59]) = false := bytesNe h2
    have g3 : (s.toList == [60, 60, 45]) = false := bytesNe h3
    have g4 : (s.toList == [60, 60]) = false := bytesNe h4
    have g5 : (s.toList == [60, 38]) = false := bytesNe h5
    have g6 : (s.toList == [60, 62]) = false := bytesNe h6
    have g7 : (s.toList == [62, 62]) = false := bytesNe h7
    have g8 : (s.toList == [62, 38]) = false := bytesNe h8
    have g9 : (s.toList == [62, 124]) = false := bytesNe h9
    have g10 : (s.toList == [38]) = false := bytesNe h10
    have g11 : (s.toList == [124]) = false := bytesNe h11
    have g12 : (s.toList == [59]) = false := bytesNe h12
    have g13 : (s.toList == [60]) = false := bytesNe h13
    have g14 : (s.toList == [62]) = false := bytesNe h14
    have e : opB (bl s) = true := by rw [h15]; rfl
    rw [e]
    clear e h0 h1 h2 h3 h4 h5 h6 h7 h8 h9 h10 h11 h12 h13 h14 h15
    go_enter Tryd.func55, Tryd.ntmps55
    go_wp2
    go_ret
    exact ⟨rfl, rfl⟩
  by_cases h16 : s = ⟨#[41]⟩
  · have g : (s.toList == [41]) = true := by rw [h16, ByteArray.toList_eq]; rfl
    have g0 : (s.toList == [38, 38]) = false := bytesNe h0
    have g1 : (s.toList == [124, 124]) = false := bytesNe h1
    have g2 : (s.toList == [59, 59]) = false := bytesNe h2
    have g3 : (s.toList == [60, 60, 45]) = false := bytesNe h3
    have g4 : (s.toList == [60, 60]) = false := bytesNe h4
    have g5 : (s.toList == [60, 38]) = false := bytesNe h5
    have g6 : (s.toList == [60, 62]) = false := bytesNe h6
    have g7 : (s.toList == [62, 62]) = false := bytesNe h7
    have g8 : (s.toList == [62, 38]) = false := bytesNe h8
    have g9 : (s.toList == [62, 124]) = false := bytesNe h9
    have g10 : (s.toList == [38]) = false := bytesNe h10
    have g11 : (s.toList == [124]) = false := bytesNe h11
    have g12 : (s.toList == [59]) = false := bytesNe h12
    have g13 : (s.toList == [60]) = false := bytesNe h13
    have g14 : (s.toList == [62]) = false := bytesNe h14
    have g15 : (s.toList == [40]) = false := bytesNe h15
    have e : opB (bl s) = true := by rw [h16]; rfl
    rw [e]
    clear e h0 h1 h2 h3 h4 h5 h6 h7 h8 h9 h10 h11 h12 h13 h14 h15 h16
    go_enter Tryd.func55, Tryd.ntmps55
    go_wp2
    go_ret
    exact ⟨rfl, rfl⟩
  have g0 : (s.toList == [38, 38]) = false := bytesNe h0
  have g1 : (s.toList == [124, 124]) = false := bytesNe h1
  have g2 : (s.toList == [59, 59]) = false := bytesNe h2
  have g3 : (s.toList == [60, 60, 45]) = false := bytesNe h3
  have g4 : (s.toList == [60, 60]) = false := bytesNe h4
  have g5 : (s.toList == [60, 38]) = false := bytesNe h5
  have g6 : (s.toList == [60, 62]) = false := bytesNe h6
  have g7 : (s.toList == [62, 62]) = false := bytesNe h7
  have g8 : (s.toList == [62, 38]) = false := bytesNe h8
  have g9 : (s.toList == [62, 124]) = false := bytesNe h9
  have g10 : (s.toList == [38]) = false := bytesNe h10
  have g11 : (s.toList == [124]) = false := bytesNe h11
  have g12 : (s.toList == [59]) = false := bytesNe h12
  have g13 : (s.toList == [60]) = false := bytesNe h13
  have g14 : (s.toList == [62]) = false := bytesNe h14
  have g15 : (s.toList == [40]) = false := bytesNe h15
  have g16 : (s.toList == [41]) = false := bytesNe h16
  have e : opB (bl s) = false := by
    rw [ByteArray.toList_eq] at g0 g1 g2 g3 g4 g5 g6 g7 g8 g9 g10 g11 g12 g13 g14 g15 g16
    rw [beq_eq_false_iff_ne] at g0 g1 g2 g3 g4 g5 g6 g7 g8 g9 g10 g11 g12 g13 g14 g15 g16
    unfold opB
    rw [Bool.eq_false_iff]
    intro hh
    simp only [ops2, ops1, Bool.or_eq_true, List.contains_iff_mem, List.mem_cons, List.not_mem_nil, or_false, beq_iff_eq] at hh
    simp only [bl] at hh
    simp_all
  rw [e]
  clear e h0 h1 h2 h3 h4 h5 h6 h7 h8 h9 h10 h11 h12 h13 h14 h15 h16
  go_enter Tryd.func55, Tryd.ntmps55
  go_wp2
  go_ret
  exact ⟨rfl, rfl⟩
end
end Go.Proofs.YtjeleebgifajkaaDoor
