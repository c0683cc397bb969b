/-
  What an expression is told as is parsed as that expression again, in plain words; and what is parsed may be shown. No walk in it.
-/
import Derived.Test.YtlijlgbaikijnaaGreatDoorSmArith
namespace Go.Proofs.YtlijlgbaikijnaaGreatDoor
open Go Go.RowKit

/-- Whether the name of an Op with so many Kids counts. -/
def nmdB (op : List UInt8) (n : Nat) : Bool := op == [110, 97, 109, 101] || (decide (n = 1) && !(op == [110, 101, 103]) && !(op == [112, 111, 115]) && !(op == [110, 111, 116]) && !(op == [99, 111, 109]))
mutual
/-- An expression without what its Op does not have. -/
def stripE : E → E
  | .mk op num name kids => .mk op (if op = [110, 117, 109] then num else 0) (if nmdB op kids.length = true then name else []) (stripL kids)
def stripL : List E → List E
  | [] => []
  | e :: es => stripE e :: stripL es
end
/-- No byte of a name goes on. -/
def stopB : List UInt8 → Bool
  | [] => true
  | b :: _ => !nameB b

theorem byte_all {p : UInt8 → Bool} (h : ∀ n : Fin 256, p (UInt8.ofNat n.val) = true) (b : UInt8) : p b = true := by
  have := h ⟨b.toNat, b.toNat_lt⟩
  simpa using this
theorem name_no_blank (b : UInt8) (h : nameB b = true) : blankB b = false := by
  have := byte_all (p := fun b => !nameB b || !blankB b) (by decide +kernel) b
  rw [h] at this
  simpa using this
theorem name_no_dig {b : UInt8} (h : nameB b = false) : ¬ digV b < 16 := by
  have := byte_all (p := fun b => nameB b || decide (16 ≤ digV b)) (by decide +kernel) b
  rw [h] at this
  have : 16 ≤ digV b := by simpa using this
  omega
theorem dig_name {b : UInt8} (h : digB b = true) : nameB b = true := by
  have := byte_all (p := fun b => !digB b || nameB b) (by decide +kernel) b
  rw [h] at this
  simpa using this

/-- What is looked up where a byte that is no blank begins. -/
theorem look_here {s : List UInt8} {a : Nat} {b : UInt8} {l : List UInt8} (h : s.drop a = b :: l) (hb : blankB b = false) : lookP s a = thingP (b :: l) a := by
  have h0 : blanks (s.drop a) = 0 := by rw [h]; unfold blanks; simp [hb]
  unfold lookP
  rw [h0, Nat.add_zero, h]
theorem look_end {s : List UInt8} {a : Nat} (h : s.drop a = []) : lookP s a = some ⟨0, [], 0, a⟩ := by
  have h0 : blanks (s.drop a) = 0 := by rw [h]; rfl
  unfold lookP
  rw [h0, Nat.add_zero, h]
  rfl
theorem tw_append {p : UInt8 → Bool} : ∀ (l r : List UInt8), (∀ b ∈ l, p b = true) → (match r with | [] => true | b :: _ => !p b) = true → (l ++ r).takeWhile p = l
  | [], [], _, _ => rfl
  | [], b :: r, _, h => by simp at h; simp [h]
  | x :: l, r, h1, h2 => by
    rw [List.cons_append, List.takeWhile_cons, if_pos (h1 x (by simp)), tw_append l r (fun b hb => h1 b (by simp [hb])) h2]
theorem isName_all {l : List UInt8} (h : isNameV l) : (∀ b ∈ l, nameB b = true) ∧ l.head?.map digB ≠ some true := by
  obtain ⟨h0, h1⟩ := h
  unfold nameLen at h1
  split at h1
  · exact absurd (List.eq_nil_of_length_eq_zero h1.symm) h0
  · rename_i hd
    refine ⟨fun b hb => ?_, hd⟩
    have h2 : l.takeWhile nameB = l := (List.takeWhile_prefix nameB).eq_of_length h1
    rw [← h2] at hb
    exact List.all_eq_true.1 (List.all_takeWhile (p := nameB) (l := l)) b hb
theorem look_name {s nm rest : List UInt8} {a : Nat} (h : s.drop a = nm ++ rest) (hn : isNameV nm) (hr : stopB rest = true) : lookP s a = some ⟨2, nm, 0, a⟩ := by
  obtain ⟨hall, hd⟩ := isName_all hn
  have hl : nameLen (nm ++ rest) = nm.length := by
    have : (nm ++ rest).head?.map digB ≠ some true := by
      cases nm with
      | nil => exact absurd rfl hn.1
      | cons b l => simpa using hd
    unfold nameLen
    rw [if_neg this, tw_append nm rest hall (by cases rest with | nil => rfl | cons b r => exact hr)]
  cases nm with
  | nil => exact absurd rfl hn.1
  | cons b l =>
    rw [look_here (by simpa using h) (name_no_blank b (hall b (by simp)))]
    show thingP (b :: l ++ rest) a = _
    unfold thingP
    rw [if_neg (by simp), hl, if_pos (by simp), List.take_left']
    rfl
theorem stop_no_x {rest : List UInt8} (hr : stopB rest = true) : rest[0]? ≠ some 120 ∧ rest[0]? ≠ some 88 := by
  cases rest with
  | nil => simp
  | cons b l =>
    simp only [stopB, Bool.not_eq_true'] at hr
    simp only [List.getElem?_cons_zero, ne_eq, Option.some.injEq]
    exact ⟨fun e => by subst e; exact absurd hr (by decide), fun e => by subst e; exact absurd hr (by decide)⟩
theorem digits_app {u : Nat} {rest : List UInt8} (hr : stopB rest = true) : digitsP (Lib.decDigits u ++ rest) = (u, (Lib.decDigits u).length) := by
  have hst : ∀ base, base ≤ 16 → (match rest with | [] => true | b :: _ => !decide (digV b < base)) = true := by
    intro base hb
    cases rest with
    | nil => rfl
    | cons b l =>
      simp only [stopB, Bool.not_eq_true'] at hr
      have := name_no_dig hr
      simp only [Bool.not_eq_true', decide_eq_false_iff_not]
      omega
  by_cases h0 : u = 0
  · subst h0
    rw [dd_small (by omega)]
    have hh : headB ([UInt8.ofNat (48 + 0)] ++ rest) = (8, 0) := by
      unfold headB
      rw [if_pos (show ([UInt8.ofNat (48 + 0)] ++ rest)[0]? = some 48 from rfl)]
      have h2 := stop_no_x hr
      cases rest with
      | nil => rfl
      | cons b l =>
        show (match some b, l[0]? with | some x, some d => if (x = 120 ∨ x = 88) ∧ digV d < 16 then (16, 2) else (8, 0) | _, _ => (8, 0)) = _
        simp only [List.getElem?_cons_zero, ne_eq, Option.some.injEq] at h2
        cases l[0]? with
        | none => rfl
        | some d => simp [h2.1, h2.2]
    unfold digitsP
    rw [hh]
    have hd : digRun 8 (([UInt8.ofNat (48 + 0)] ++ rest).drop 0) = [UInt8.ofNat (48 + 0)] := tw_append _ _ (by simp; decide) (hst 8 (by omega))
    simp only
    rw [hd]
    rfl
  · have hne := dd_ne u
    have hh : headB (Lib.decDigits u ++ rest) = (10, 0) := by
      unfold headB
      rw [if_neg]
      rw [List.getElem?_append_left (List.length_pos_iff.2 hne)]
      exact dd_head u u (Nat.le_refl _) (by omega)
    have hd : digRun 10 ((Lib.decDigits u ++ rest).drop 0) = Lib.decDigits u := tw_append _ _ (fun b hb => by
      have := dd_all u u (Nat.le_refl _) b hb
      unfold digV
      rw [if_pos this]
      simp; omega) (hst 10 (by omega))
    unfold digitsP
    rw [hh]
    simp only
    rw [hd, dd_val u u (Nat.le_refl _), Nat.zero_add]
theorem look_num {s rest : List UInt8} {u a : Nat} (h : s.drop a = Lib.decDigits u ++ rest) (hu : u ≤ 9223372036854775807) (hr : stopB rest = true) : lookP s a = some ⟨1, Lib.decDigits u, u, a⟩ := by
  have hdg := digits_app (u := u) hr
  have hall := dd_all u u (Nat.le_refl _)
  have hne := dd_ne u
  have hch : ((Lib.decDigits u ++ rest)[(Lib.decDigits u).length]?.map nameB) ≠ some true := by
    rw [List.getElem?_append_right (Nat.le_refl _), Nat.sub_self]
    cases rest with
    | nil => simp
    | cons b l => simp only [stopB, Bool.not_eq_true'] at hr; simp [hr]
  have htk : (Lib.decDigits u ++ rest).take (Lib.decDigits u).length = Lib.decDigits u := List.take_left' rfl
  generalize Lib.decDigits u = D at h hdg hall hne hch htk
  cases D with
  | nil => exact absurd rfl hne
  | cons b l =>
    have hb := hall b (by simp)
    have hdb : digB b = true := by unfold digB; simpa using hb
    rw [look_here (by simpa using h) (name_no_blank b (dig_name hdb))]
    show thingP (b :: l ++ rest) a = _
    unfold thingP
    have hn0 : nameLen (b :: l ++ rest) = 0 := nameLen_first (by simp) (by simpa using hdb)
    rw [if_neg (by simp), hn0, if_neg (by omega), hdg, if_pos (by simp), if_neg (by
      simp only [not_or]
      exact ⟨by omega, hch⟩), htk]

theorem mark_mem {l : List UInt8} (h : isMarkV l = true) : l ∈ allM := by
  unfold isMarkV at h
  simp only [Bool.or_eq_true, decide_eq_true_eq, beq_iff_eq] at h
  rcases h with ((((((h | h) | h) | h) | h) | h) | h)
  · subst h; decide
  · subst h; decide
  · subst h; decide
  · subst h; decide
  · exact op_mem (by simpa using h)
  · exact row_mem (by omega)
  · exact asg_mem (by rw [h]; decide)
/-- Bytes with which no mark goes on. -/
def farB : List UInt8 → Bool
  | [] => true
  | b :: _ => b == 40 || b == 41 || nameB b
theorem marks_far : ∀ m ∈ allM, ∀ i, i < m.length → 1 ≤ i → ∀ b, m[i]? = some b → (b == 40 || b == 41 || nameB b) = false := by
  intro m hm i hi h1 b hb
  have h : ∀ m ∈ allM, (m.drop 1).all (fun b => !(b == 40 || b == 41 || nameB b)) = true := by decide +kernel
  have h2 := List.all_eq_true.1 (h m hm) b (by
    rw [List.mem_iff_getElem?]
    exact ⟨i - 1, by rw [List.getElem?_drop]; rw [show 1 + (i - 1) = i by omega]; exact hb⟩)
  simpa using h2
theorem marks_len : ∀ m ∈ allM, 1 ≤ m.length ∧ m.length ≤ 3 := by decide
theorem long_stop {m : List UInt8} {R : List UInt8} (hm : isMarkV m = true) (hp : R.take m.length = m) (hno : ∀ k, m.length < k → k ≤ 3 → k ≤ R.length → isMarkV (R.take k) = false) : longV R = m := by
  obtain ⟨l1, l2⟩ := marks_len m (mark_mem hm)
  have hRl : m.length ≤ R.length := by
    have := congrArg List.length hp
    rw [List.length_take] at this
    omega
  have key : ∀ n, m.length ≤ n → n ≤ 3 → n ≤ R.length → longFrom n R = m := by
    intro n
    induction n with
    | zero => intro h; omega
    | succ n ih =>
      intro h h3 hR
      cases n with
      | zero =>
        have : m.length = 1 := by omega
        rw [longFrom, ← this]; exact hp
      | succ n =>
        rw [longFrom]
        by_cases e : m.length = n + 2
        · rw [← e, hp, if_pos hm]
        · rw [hno (n + 2) (by omega) h3 hR]
          exact ih (by omega) (by omega) (by omega)
  unfold longV
  exact key _ (by omega) (by omega) (by omega)
theorem long_far {m rest : List UInt8} (hm : isMarkV m = true) (hf : farB rest = true) : longV (m ++ rest) = m := by
  refine long_stop hm (List.take_left' rfl) fun k h1 h2 h3 => ?_
  rw [← Bool.not_eq_true]
  intro hk
  have hmem := mark_mem hk
  have l1 := (marks_len m (mark_mem hm)).1
  have hlen : ((m ++ rest).take k).length = k := by rw [List.length_take]; omega
  cases rest with
  | nil => simp at h3; omega
  | cons b r =>
    have hb : ((m ++ b :: r).take k)[m.length]? = some b := by
      rw [List.getElem?_take_of_lt (by omega), List.getElem?_append_right (Nat.le_refl _), Nat.sub_self]; rfl
    have := marks_far _ hmem m.length (by omega) l1 b hb
    simp only [farB] at hf
    rw [this] at hf
    cases hf
/-- Nothing goes on behind a mark that is a bracket, a ? or a colon. -/
theorem long_alone {c : UInt8} {rest : List UInt8} (hc : [c] = [40] ∨ [c] = [41] ∨ [c] = [63] ∨ [c] = [58]) : longV (c :: rest) = [c] := by
  have hm : isMarkV [c] = true := by rcases hc with h | h | h | h <;> (rw [h]; decide)
  refine long_stop hm rfl fun k h1 h2 h3 => ?_
  rw [← Bool.not_eq_true]
  intro hk
  have hmem := mark_mem hk
  have h : ∀ m ∈ allM, m.length = 1 ∨ (m.head? == some 40 || m.head? == some 41 || m.head? == some 63 || m.head? == some 58) = false := by decide +kernel
  have h4 := h _ hmem
  have hlen : ((c :: rest).take k).length = k := by rw [List.length_take]; omega
  have hk1 : 1 < k := by simpa using h1
  obtain ⟨j, rfl⟩ : ∃ j, k = j + 1 := ⟨k - 1, by omega⟩
  rw [hlen] at h4
  simp only [List.take_succ_cons, List.head?_cons, Option.some_beq_some] at h4
  rcases h4 with h4 | h4
  · omega
  · rcases hc with h | h | h | h <;> (injection h with h _; subst h; simp at h4)
theorem marks_head : ∀ m ∈ allM, ∃ b l, m = b :: l ∧ blankB b = false ∧ nameB b = false := by
  intro m hm
  have h : ∀ m ∈ allM, (match m with | [] => false | b :: _ => !blankB b && !nameB b) = true := by decide +kernel
  have := h m hm
  cases m with
  | nil => cases this
  | cons b l => exact ⟨b, l, rfl, by simpa using this⟩
theorem look_mark_ {s m R : List UInt8} {a : Nat} (h : s.drop a = R) (hm : isMarkV m = true) (hR : ∃ r, R = m ++ r) (hl : longV R = m) : lookP s a = some ⟨3, m, 0, a⟩ := by
  obtain ⟨b, l, rfl, hb, hn⟩ := marks_head m (mark_mem hm)
  obtain ⟨r, rfl⟩ := hR
  rw [look_here (by simpa using h) hb]
  show thingP (b :: l ++ r) a = _
  have hdb : digB b = false := by
    rw [← Bool.not_eq_true]
    intro e
    rw [dig_name e] at hn
    cases hn
  have hn0 : nameLen (b :: l ++ r) = 0 := by
    unfold nameLen
    rw [if_neg (by simp [hdb])]
    simp [hn]
  have hd0 : (digitsP (b :: l ++ r)).2 = 0 := by
    have hh : headB (b :: l ++ r) = (10, 0) := by
      unfold headB
      rw [if_neg]
      simp only [List.cons_append, List.getElem?_cons_zero, Option.some.injEq]
      intro e; subst e; exact absurd hdb (by decide)
    unfold digitsP
    rw [hh]
    have : digRun 10 ((b :: l ++ r).drop 0) = [] := by
      unfold digRun
      have := name_no_dig hn
      rw [List.drop_zero, List.cons_append, List.takeWhile_cons, if_neg]
      simp only [decide_eq_true_eq]
      omega
    simp only
    rw [this]
    rfl
  unfold thingP
  rw [if_neg (by simp), hn0, if_neg (by omega), hd0, if_neg (by omega), hl]
theorem look_far {s m rest : List UInt8} {a : Nat} (h : s.drop a = m ++ rest) (hm : isMarkV m = true) (hf : farB rest = true) : lookP s a = some ⟨3, m, 0, a⟩ :=
  look_mark_ h hm ⟨rest, rfl⟩ (long_far hm hf)
theorem look_alone {s rest : List UInt8} {a : Nat} {c : UInt8} (h : s.drop a = c :: rest) (hc : [c] = [40] ∨ [c] = [41] ∨ [c] = [63] ∨ [c] = [58]) : lookP s a = some ⟨3, [c], 0, a⟩ :=
  look_mark_ h (by rcases hc with h | h | h | h <;> (rw [h]; decide)) ⟨rest, rfl⟩ (long_alone hc)
end Go.Proofs.YtlijlgbaikijnaaGreatDoor
