/-
  What an expression is told as is parsed as that expression, in plain words (the parser's part); what is parsed may be shown. No walk in it.
-/
import Derived.Test.YtlijlgbaikijnaaGreatDoorSmBack
namespace Go.Proofs.YtlijlgbaikijnaaGreatDoor
open Go Go.RowKit

theorem kidsV_n2 {op : List UInt8} (h : kidsV op = 2) : 0 < rowV op ∧ isMarkV op = true := by
  unfold kidsV at h
  split at h
  · omega
  · split at h
    · omega
    · split at h
      · rename_i hr
        refine ⟨hr, ?_⟩
        unfold isMarkV
        simp [hr]
      · split at h <;> omega
theorem kidsV_n1 {op : List UInt8} (h : kidsV op = 1) : markV op ≠ [] ∨ asgV op = true := by
  unfold kidsV at h
  split at h
  · omega
  · split at h
    · rename_i hc
      simp only [Bool.or_eq_true, Bool.not_eq_true', List.isEmpty_eq_false_iff] at hc
      exact hc
    · split at h
      · omega
      · split at h <;> omega
theorem asg_facts {m : List UInt8} (h : asgV m = true) : rowV m = 0 ∧ m ≠ [63] ∧ isMarkV m = true ∧ markV m = [] ∧ m ≠ [110, 117, 109] ∧ m ≠ [110, 97, 109, 101] := by
  have hm := asg_mem (l := m) (by rw [h]; decide)
  have : ∀ m ∈ allM, asgV m = true → rowV m = 0 ∧ m ≠ [63] ∧ isMarkV m = true ∧ markV m = [] ∧ m ≠ [110, 117, 109] ∧ m ≠ [110, 97, 109, 101] := by decide +kernel
  exact this m hm h
theorem row_facts {m : List UInt8} (h : 0 < rowV m) : m ≠ [63] ∧ asgV m = false ∧ m ≠ [110, 117, 109] ∧ m ≠ [110, 97, 109, 101] := by
  have hm := row_mem (l := m) (by omega)
  have : ∀ m ∈ allM, 0 < rowV m → m ≠ [63] ∧ asgV m = false ∧ m ≠ [110, 117, 109] ∧ m ≠ [110, 97, 109, 101] := by decide +kernel
  exact this m hm h
theorem markV_facts {op : List UInt8} (h : markV op ≠ []) : ∃ c, markV op = [c] ∧ isMarkV [c] = true ∧ opV [c] = op ∧ [c] ≠ [40] ∧ asgV op = false ∧ op ≠ [110, 117, 109] ∧ op ≠ [110, 97, 109, 101] ∧ nmdB op 1 = false := by
  unfold markV at h ⊢
  by_cases h1 : op == [110, 101, 103]
  · have := eq_of_beq h1; subst this; exact ⟨45, by decide, by decide, by decide, by decide, by decide, by decide, by decide, by decide⟩
  rw [if_neg h1] at h ⊢
  by_cases h1 : op == [112, 111, 115]
  · have := eq_of_beq h1; subst this; exact ⟨43, by decide, by decide, by decide, by decide, by decide, by decide, by decide, by decide⟩
  rw [if_neg h1] at h ⊢
  by_cases h1 : op == [110, 111, 116]
  · have := eq_of_beq h1; subst this; exact ⟨33, by decide, by decide, by decide, by decide, by decide, by decide, by decide, by decide⟩
  rw [if_neg h1] at h ⊢
  by_cases h1 : op == [99, 111, 109]
  · have := eq_of_beq h1; subst this; exact ⟨126, by decide, by decide, by decide, by decide, by decide, by decide, by decide, by decide⟩
  rw [if_neg h1] at h
  exact absurd rfl h
theorem asg_nmd {m : List UInt8} (h : asgV m = true) : nmdB m 1 = true := by
  have hm := asg_mem (l := m) (by rw [h]; decide)
  have : ∀ m ∈ allM, nmdB m 1 = true := by decide +kernel
  exact this m hm
theorem nmd_many {op : List UInt8} (h : op ≠ [110, 97, 109, 101]) {n : Nat} (hn : n ≠ 1) : nmdB op n = false := by
  unfold nmdB
  simp [h, hn]

theorem isNm_V {l : List UInt8} (h : isNmB l = true) : isNameV l := by
  unfold isNmB at h
  simp only [Bool.and_eq_true, Bool.not_eq_true', List.isEmpty_eq_false_iff, decide_eq_true_eq] at h
  exact h
theorem stop_mark {m r : List UInt8} (h : isMarkV m = true) : stopB (m ++ r) = true := by
  obtain ⟨b, l, rfl, _, hn⟩ := marks_head m (mark_mem h)
  show (!nameB b) = true
  rw [hn]; rfl

/-- The first thing of what is told. -/
def tokE : E → Nat → Th
  | .mk op num name _, a => if op = [110, 117, 109] then ⟨1, Lib.decDigits num.toNat, num.toNat, a⟩ else if op = [110, 97, 109, 101] then ⟨2, name, 0, a⟩ else ⟨3, [40], 0, a⟩
theorem itoa_nat {n : Int} (h : ¬ n < 0) : Lib.itoa n = Lib.decDigits n.toNat := by unfold Lib.itoa; rw [if_neg h]
theorem right_parts {op name : List UInt8} {num : Int} {kids : List E} (h : rightE (.mk op num name kids) = true) :
    (kids.length : Int) = kidsV op ∧ (op = [110, 117, 109] → ¬ num < 0) ∧ (op = [110, 97, 109, 101] ∨ asgV op = true → isNameV name) ∧ ∀ k ∈ kids, rightE k = true := by
  rw [rightE] at h
  simp only [Bool.and_eq_true, decide_eq_true_eq] at h
  obtain ⟨⟨⟨h1, h2⟩, h3⟩, h4⟩ := h
  refine ⟨h1, fun e => ?_, fun e => ?_, rightL_iff.1 h4⟩
  · subst e; simpa using h2
  · refine isNm_V ?_
    have h5 : (op == [110, 97, 109, 101] || asgV op) = true := by simpa using e
    rw [h5] at h3
    simpa using h3
theorem far_show {x : E} {rest : List UInt8} (h : rightE x = true) : farB (showE x ++ rest) = true := by
  obtain ⟨op, num, name, kids⟩ := x
  obtain ⟨_, h2, h3, _⟩ := right_parts h
  rw [showE]
  by_cases e1 : op = [110, 117, 109]
  · rw [if_pos e1, itoa_nat (h2 e1)]
    have hall := dd_all num.toNat _ (Nat.le_refl _)
    have hne := dd_ne num.toNat
    generalize Lib.decDigits num.toNat = D at hall hne
    cases D with
    | nil => exact absurd rfl hne
    | cons b l =>
      have hb : nameB b = true := dig_name (by unfold digB; simpa using hall b (by simp))
      simp [farB, hb]
  rw [if_neg e1]
  by_cases e2 : op = [110, 97, 109, 101]
  · rw [if_pos e2]
    have hn := h3 (.inl e2)
    have hall := (isName_all hn).1
    cases name with
    | nil => exact absurd rfl hn.1
    | cons b l => simp [farB, hall b (by simp)]
  rw [if_neg e2]
  rfl
theorem look_tok {x : E} {s rest : List UInt8} {a : Nat} (h : rightE x = true) (hn : NumE x) (hs : s.drop a = showE x ++ rest) (hr : stopB rest = true) : lookP s a = some (tokE x a) := by
  obtain ⟨op, num, name, kids⟩ := x
  obtain ⟨_, h2, h3, _⟩ := right_parts h
  unfold NumE InR at hn
  rw [showE] at hs
  simp only [tokE]
  by_cases e1 : op = [110, 117, 109]
  · rw [if_pos e1, itoa_nat (h2 e1)] at hs
    rw [if_pos e1]
    exact look_num hs (by omega) hr
  rw [if_neg e1] at hs ⊢
  by_cases e2 : op = [110, 97, 109, 101]
  · rw [if_pos e2] at hs ⊢
    exact look_name hs (h3 (.inl e2)) hr
  rw [if_neg e2] at hs ⊢
  exact look_alone (c := 40) (by simpa using hs) (.inl rfl)

/-! ### Ways through the parser -/
section
variable {s : List UInt8} {n d : Nat} {t t1 : Th} {e : E}
theorem btw_of {l : Nat} (h : operandP n s t d = .ok e t1) (hr : rowV t1.text < l) : betweenP (n + 1) s l t d = .ok e t1 := by
  cases n with
  | zero => rw [operandP] at h; cases h
  | succ n =>
    rw [betweenP, h]
    show loopP (n + 1) s l e t1 d = _
    rw [loopP, if_pos hr]
theorem cho_of_btw (h : betweenP n s 1 t d = .ok e t1) (hq : t1.text ≠ [63]) : choiceP (n + 1) s t d = .ok e t1 := by
  rw [choiceP, h]
  show (if t1.text ≠ [63] then _ else _) = _
  rw [if_pos hq]
theorem cho_of (h : operandP n s t d = .ok e t1) (hr : rowV t1.text = 0) (hq : t1.text ≠ [63]) : choiceP (n + 2) s t d = .ok e t1 := by
  rw [choiceP, btw_of h (by omega)]
  show (if t1.text ≠ [63] then _ else _) = _
  rw [if_pos hq]
theorem asg_of_cho (h : choiceP n s t d = .ok e t1) (ha : asgV t1.text = false) : assignP (n + 1) s t d = .ok e t1 := by
  rw [assignP, h]
  show (if asgV t1.text = false then _ else _) = _
  rw [if_pos ha]
theorem asg_of (h : operandP n s t d = .ok e t1) (hr : rowV t1.text = 0) (hq : t1.text ≠ [63]) (ha : asgV t1.text = false) : assignP (n + 3) s t d = .ok e t1 := asg_of_cho (cho_of h hr hq) ha
theorem goT_of {a : Nat} {k : Th → Res} (h : lookP s a = some t) : goT s a k = k t := by unfold goT; rw [h]
theorem stepT_of {k : Th → Res} (h : lookP s (t.place + t.text.length) = some t1) : stepT s t k = k t1 := goT_of h
theorem enterT_of {k : Th → Res} (hd : d ≠ 40) (h : lookP s (t.place + t.text.length) = some t1) : enterT s t d k = k t1 := by unfold enterT; rw [if_neg hd]; exact goT_of h
theorem needT_of {m : List UInt8} {k : Th → Res} (hm : t.text = m) (h : lookP s (t.place + t.text.length) = some t1) : needT m s t k = k t1 := by unfold needT; rw [if_pos hm]; exact goT_of h
end
theorem cho_q {s : List UInt8} {n d : Nat} {e y o : E} {t t1 t2 t3 t4 t5 : Th} (h1 : betweenP n s 1 t d = .ok e t1) (hq : t1.text = [63]) (hd : d ≠ 40) (hl : lookP s (t1.place + t1.text.length) = some t2) (h2 : assignP n s t2 (d + 1) = .ok y t3)
    (h3 : t3.text = [58]) (hl2 : lookP s (t3.place + t3.text.length) = some t4) (h4 : choiceP n s t4 (d + 1) = .ok o t5) : choiceP (n + 1) s t d = .ok (.mk [63] 0 [] [e, y, o]) t5 := by
  rw [choiceP, h1]
  show (if t1.text ≠ [63] then _ else enterT s t1 d _) = _
  rw [if_neg (fun h => h hq), enterT_of hd hl]
  show (assignP n s t2 (d + 1)).next _ = _
  rw [h2]
  show needT [58] s t3 _ = _
  rw [needT_of h3 hl2]
  show (choiceP n s t4 (d + 1)).next _ = _
  rw [h4]
  rfl
theorem drop_app {s l r : List UInt8} {a : Nat} (h : s.drop a = l ++ r) : s.drop (a + l.length) = r := by
  rw [← List.drop_drop, h, List.drop_left']
  rfl
theorem dpLe_kids {k : Nat} {op name : List UInt8} {num : Int} {kids : List E} (h : dpLe k (.mk op num name kids) = true) : ∃ j, k = j + 1 ∧ ∀ x ∈ kids, dpLe j x = true := by
  cases k with
  | zero => cases h
  | succ j => exact ⟨j, rfl, by rw [dpLe, List.all_eq_true] at h; exact h⟩
theorem dpLe_pos {k : Nat} {x : E} (h : dpLe k x = true) : 1 ≤ k := by
  cases k with
  | zero => obtain ⟨o, n, m, l⟩ := x; cases h
  | succ j => omega
theorem numL_mem {op name : List UInt8} {num : Int} {kids : List E} (h : NumE (.mk op num name kids)) : ∀ x ∈ kids, NumE x := by
  unfold NumE at h
  exact h.2.mem

/-- What an operand's parser makes of what is told. -/
def Opnd (x : E) : Prop := ∀ (n : Nat) (s : List UInt8) (a : Nat) (rest : List UInt8) (t1 : Th) (d k : Nat), 6 * sizeE x ≤ n → s.drop a = showE x ++ rest → stopB rest = true →
  lookP s (a + (showE x).length) = some t1 → dpLe k x = true → d + 2 * k ≤ 42 → operandP n s (tokE x a) d = .ok (stripE x) t1
theorem close_facts (p : Nat) : rowV (Th.text ⟨3, [41], 0, p⟩) = 0 ∧ (Th.text ⟨3, [41], 0, p⟩) ≠ [63] ∧ asgV (Th.text ⟨3, [41], 0, p⟩) = false := by
  show rowV [41] = 0 ∧ ([41] : List UInt8) ≠ [63] ∧ asgV [41] = false
  decide
theorem stop_close {r : List UInt8} : stopB (41 :: r) = true := by show (!nameB 41) = true; decide

theorem opnd_leaf {op name : List UInt8} {num : Int} (hr : rightE (.mk op num name []) = true) : Opnd (.mk op num name []) := by
  intro n s a rest t1 d k hn hs hst hl hk hd
  have h0 : kidsV op = 0 := by
    have := (right_parts hr).1
    simpa using this.symm
  obtain ⟨m, rfl⟩ : ∃ m, n = m + 1 := ⟨n - 1, by unfold sizeE at hn; omega⟩
  have hnn := (right_parts hr).2.1
  rw [showE] at hl
  simp only [tokE, stripE]
  by_cases e1 : op = [110, 117, 109]
  · rw [if_pos e1, itoa_nat (hnn e1)] at hl
    rw [if_pos e1, if_pos e1, operandP, if_pos rfl, stepT_of hl]
    subst e1
    have hne := hnn rfl
    have : ((num.toNat : Nat) : Int) = num := by omega
    show Res.ok (.mk [110, 117, 109] ((num.toNat : Nat) : Int) [] []) t1 = _
    rw [this]
    rfl
  · have e2 : op = [110, 97, 109, 101] := (kidsV_0 h0).resolve_left e1
    rw [if_neg e1, if_pos e2] at hl
    rw [if_neg e1, if_pos e2, if_neg e1, operandP, if_neg (show ¬ (2 : Nat) = 1 by decide), if_pos rfl, stepT_of hl]
    subst e2
    rfl
theorem opnd_open {op name : List UInt8} {num : Int} {kids : List E} {body : List UInt8} (e1 : op ≠ [110, 117, 109]) (e2 : op ≠ [110, 97, 109, 101])
    (hb : showE (.mk op num name kids) = [40] ++ body ++ [41])
    (h : ∀ (n : Nat) (s : List UInt8) (a : Nat) (r : List UInt8) (d k : Nat), 6 * sizeL kids + 5 ≤ n → s.drop a = body ++ 41 :: r → (∀ x ∈ kids, dpLe k x = true) → d + 1 + 2 * k ≤ 42 → d ≤ 39 →
      ∃ t, lookP s a = some t ∧ assignP n s t d = .ok (stripE (.mk op num name kids)) ⟨3, [41], 0, a + body.length⟩) (hne : kids ≠ []) : Opnd (.mk op num name kids) := by
  intro n s a rest t1 d k hn hs hst hl hk hd
  obtain ⟨j, rfl, hkk⟩ := dpLe_kids hk
  have hj : 1 ≤ j := by
    cases kids with
    | nil => exact absurd rfl hne
    | cons x l => exact dpLe_pos (hkk x (by simp))
  obtain ⟨m, rfl⟩ : ∃ m, n = m + 1 := ⟨n - 1, by unfold sizeE at hn; omega⟩
  unfold sizeE at hn
  rw [hb] at hs hl
  have hs1 : s.drop (a + 1) = body ++ 41 :: rest := by
    have := drop_app (l := [40]) (r := body ++ 41 :: rest) (by rw [hs]; simp)
    exact this
  obtain ⟨t, ht, hp⟩ := h m s (a + 1) rest (d + 1) j (by omega) hs1 hkk (by omega) (by omega)
  have hs2 : s.drop (a + 1 + body.length) = 41 :: rest := drop_app hs1
  simp only [tokE]
  rw [if_neg e1, if_neg e2, operandP, if_neg (show ¬ (3 : Nat) = 1 by decide), if_neg (show ¬ (3 : Nat) = 2 by decide), if_pos rfl, enterT_of (by omega) ht, hp]
  show needT [41] s ⟨3, [41], 0, a + 1 + body.length⟩ _ = _
  rw [needT_of (m := [41]) (t := ⟨3, [41], 0, a + 1 + body.length⟩) (t1 := t1) rfl]
  show lookP s (a + 1 + body.length + 1) = some t1
  rw [← hl]
  congr 1
  simp only [List.length_append, List.length_cons, List.length_nil]
  omega

theorem opnd_all : ∀ (N : Nat) (x : E), sizeE x ≤ N → rightE x = true → NumE x → Opnd x
  | 0, .mk _ _ _ _, h, _, _ => by unfold sizeE at h; omega
  | N + 1, .mk op num name kids, h, hr, hnum => by
    unfold sizeE at h
    have ih : ∀ x ∈ kids, Opnd x := fun x hx => opnd_all N x (by have := sizeL.mem x hx; omega) ((right_parts hr).2.2.2 x hx) (numL_mem hnum x hx)
    have hrk := (right_parts hr).2.2.2
    have hnk := numL_mem hnum
    have hK := (right_parts hr).1
    have hnm := (right_parts hr).2.2.1
    match kids, hK, hr, ih, hrk, hnk with
    | [], _, hr, _, _, _ => exact opnd_leaf hr
    | [x], hK, hr, ih, hrk, hnk =>
      have h1 : kidsV op = 1 := by simpa using hK.symm
      have hxr := hrk x (by simp)
      have hxn := hnk x (by simp)
      have ihx := ih x (by simp)
      by_cases hA : asgV op = true
      · obtain ⟨f1, f2, f3, _, f5, f6⟩ := asg_facts hA
        have hname := hnm (.inr hA)
        refine opnd_open (body := name ++ (op ++ showE x)) f5 f6 (by rw [showE, if_neg f5, if_neg f6]; simp [showL, bodyS, hA]) ?_ (by simp)
        intro n s a r d k hn hs hk hd hd38
        simp only [sizeL] at hn
        obtain ⟨m, rfl⟩ : ∃ m, n = m + 4 := ⟨n - 4, by omega⟩
        have hs1 : s.drop a = name ++ (op ++ (showE x ++ 41 :: r)) := by rw [hs]; simp
        have hl1 := look_name hs1 hname (stop_mark f3)
        have hs2 := drop_app hs1
        have hl2 := look_far hs2 f3 (far_show hxr)
        have hs3 := drop_app hs2
        have hl3 := look_tok hxr hxn hs3 stop_close
        have hs4 := drop_app hs3
        have hl4 := look_alone (c := 41) hs4 (.inr (.inl rfl))
        refine ⟨_, hl1, ?_⟩
        have o1 : operandP (m + 1) s ⟨2, name, 0, a⟩ d = .ok (.mk [110, 97, 109, 101] 0 name []) ⟨3, op, 0, a + name.length⟩ := by
          rw [operandP, if_neg (show ¬ (2 : Nat) = 1 by decide), if_pos rfl, stepT_of hl2]
        have o2 := cho_of o1 f1 f2
        have o3 := ihx m s _ _ _ (d + 1) k (by omega) hs3 stop_close hl4 (hk x (by simp)) (by omega)
        rw [assignP, o2]
        show (if asgV op = false then _ else if (2 : Nat) ≠ 2 ∨ ([110, 97, 109, 101] : List UInt8) ≠ [110, 97, 109, 101] then _ else _) = _
        rw [if_neg (by rw [hA]; decide), if_neg (by simp), enterT_of (by omega) hl3, asg_of o3 (close_facts _).1 (close_facts _).2.1 (close_facts _).2.2]
        show Res.ok (.mk op 0 name [stripE x]) _ = _
        rw [stripE, if_neg f5]
        simp only [List.length_cons, List.length_nil, Nat.zero_add, asg_nmd hA, stripL, List.length_append, if_true, Nat.add_assoc]
      · have hM := (kidsV_n1 h1).resolve_right hA
        obtain ⟨c, g1, g2, g3, g4, g5, g6, g7, g8⟩ := markV_facts hM
        refine opnd_open (body := [c] ++ showE x) g6 g7 (by rw [showE, if_neg g6, if_neg g7]; simp [showL, bodyS, g5, g1]) ?_ (by simp)
        intro n s a r d k hn hs hk hd hd38
        simp only [sizeL] at hn
        obtain ⟨m, rfl⟩ : ∃ m, n = m + 4 := ⟨n - 4, by omega⟩
        have hs1 : s.drop a = [c] ++ (showE x ++ 41 :: r) := by rw [hs]; simp
        have hl1 := look_far hs1 g2 (far_show hxr)
        have hs3 := drop_app hs1
        have hl3 := look_tok hxr hxn hs3 stop_close
        have hs4 := drop_app hs3
        have hl4 := look_alone (c := 41) hs4 (.inr (.inl rfl))
        refine ⟨_, hl1, ?_⟩
        have o3 := ihx m s _ _ _ (d + 1) k (by omega) hs3 stop_close hl4 (hk x (by simp)) (by omega)
        have o1 : operandP (m + 1) s ⟨3, [c], 0, a⟩ d = .ok (.mk op 0 [] [stripE x]) ⟨3, [41], 0, a + [c].length + (showE x).length⟩ := by
          rw [operandP, if_neg (show ¬ (3 : Nat) = 1 by decide), if_neg (show ¬ (3 : Nat) = 2 by decide), if_neg g4, if_pos (by show opV [c] ≠ []; rw [g3]; intro e; rw [e] at h1; exact absurd h1 (by decide)), enterT_of (by omega) hl3, o3]
          show Res.ok (.mk (opV [c]) 0 [] [stripE x]) _ = _
          rw [g3]
        rw [asg_of o1 (close_facts _).1 (close_facts _).2.1 (close_facts _).2.2, stripE, if_neg g6]
        simp only [List.length_cons, List.length_nil, Nat.zero_add, g8]
        simp only [stripL, List.length_append, List.length_cons, List.length_nil, Nat.add_assoc, Nat.zero_add]
        rfl
    | [x, y], hK, hr, ih, hrk, hnk =>
      have h2 : kidsV op = 2 := by simpa using hK.symm
      obtain ⟨hrow, hmk⟩ := kidsV_n2 h2
      obtain ⟨f2, f3, f5, f6⟩ := row_facts hrow
      have hxr := hrk x (by simp)
      have hxn := hnk x (by simp)
      have ihx := ih x (by simp)
      have hyr := hrk y (by simp)
      have hyn := hnk y (by simp)
      have ihy := ih y (by simp)
      refine opnd_open (body := showE x ++ (op ++ showE y)) f5 f6 (by rw [showE, if_neg f5, if_neg f6]; simp [showL, bodyS]) ?_ (by simp)
      intro n s a r d k hn hs hk hd hd38
      simp only [sizeL] at hn
      have hx1 : 1 ≤ sizeE x := by obtain ⟨o, n, m, l⟩ := x; unfold sizeE; omega
      have hy1 : 1 ≤ sizeE y := by obtain ⟨o, n, m, l⟩ := y; unfold sizeE; omega
      obtain ⟨m, rfl⟩ : ∃ m, n = m + 5 := ⟨n - 5, by omega⟩
      have hs1 : s.drop a = showE x ++ (op ++ (showE y ++ 41 :: r)) := by rw [hs]; simp
      have hl1 := look_tok hxr hxn hs1 (stop_mark hmk)
      have hs2 := drop_app hs1
      have hl2 := look_far hs2 hmk (far_show hyr)
      have hs3 := drop_app hs2
      have hl3 := look_tok hyr hyn hs3 stop_close
      have hs4 := drop_app hs3
      have hl4 := look_alone (c := 41) hs4 (.inr (.inl rfl))
      refine ⟨_, hl1, ?_⟩
      have o1 := ihx (m + 2) s a _ _ d k (by omega) hs1 (stop_mark hmk) hl2 (hk x (by simp)) (by omega)
      have o3 := ihy m s _ _ _ d k (by omega) hs3 stop_close hl4 (hk y (by simp)) (by omega)
      have o4 : betweenP (m + 1) s (rowV op + 1) (tokE y (a + (showE x).length + op.length)) d = .ok (stripE y) _ := btw_of o3 (by rw [(close_facts _).1]; omega)
      have o5 : betweenP (m + 3) s 1 (tokE x a) d = .ok (.mk op 0 [] [stripE x, stripE y]) ⟨3, [41], 0, a + (showE x).length + op.length + (showE y).length⟩ := by
        rw [betweenP, o1]
        show loopP (m + 2) s 1 (stripE x) ⟨3, op, 0, a + (showE x).length⟩ d = _
        rw [loopP, if_neg (by show ¬ rowV op < 1; omega), stepT_of hl3]
        show (betweenP (m + 1) s (rowV op + 1) (tokE y (a + (showE x).length + op.length)) d).next _ = _
        rw [o4]
        show loopP (m + 1) s 1 (.mk op 0 [] [stripE x, stripE y]) _ d = _
        rw [loopP, if_pos (by rw [(close_facts _).1]; omega)]
      have o6 : choiceP (m + 4) s (tokE x a) d = .ok (.mk op 0 [] [stripE x, stripE y]) ⟨3, [41], 0, a + (showE x).length + op.length + (showE y).length⟩ := cho_of_btw o5 (close_facts _).2.1
      rw [asg_of_cho o6 (close_facts _).2.2, stripE, if_neg f5, nmd_many f6 (by simp)]
      simp only [stripL, List.length_append, Nat.add_assoc]
      rfl
    | [x, y, z], hK, hr, ih, hrk, hnk =>
      have h3 : kidsV op = 3 := by simpa using hK.symm
      obtain rfl := kidsV_3 h3
      have hxr := hrk x (by simp)
      have hxn := hnk x (by simp)
      have ihx := ih x (by simp)
      have hyr := hrk y (by simp)
      have hyn := hnk y (by simp)
      have ihy := ih y (by simp)
      have hzr := hrk z (by simp)
      have hzn := hnk z (by simp)
      have ihz := ih z (by simp)
      refine opnd_open (body := showE x ++ ([63] ++ (showE y ++ ([58] ++ showE z)))) (by decide) (by decide) (by rw [showE, if_neg (by decide), if_neg (by decide)]; simp [showL, bodyS]) ?_ (by simp)
      intro n s a r d k hn hs hk hd hd38
      simp only [sizeL] at hn
      have hx1 : 1 ≤ sizeE x := by obtain ⟨o, n, m, l⟩ := x; unfold sizeE; omega
      have hy1 : 1 ≤ sizeE y := by obtain ⟨o, n, m, l⟩ := y; unfold sizeE; omega
      have hz1 : 1 ≤ sizeE z := by obtain ⟨o, n, m, l⟩ := z; unfold sizeE; omega
      obtain ⟨m, rfl⟩ : ∃ m, n = m + 6 := ⟨n - 6, by omega⟩
      have hs1 : s.drop a = showE x ++ ([63] ++ (showE y ++ ([58] ++ (showE z ++ 41 :: r)))) := by rw [hs]; simp
      have q1 : ∀ l, stopB (([63] : List UInt8) ++ l) = true := fun l => stop_mark (by decide)
      have q2 : ∀ l, stopB (([58] : List UInt8) ++ l) = true := fun l => stop_mark (by decide)
      have hl1 := look_tok hxr hxn hs1 (q1 _)
      have hs2 := drop_app hs1
      have hl2 := look_alone (c := 63) hs2 (.inr (.inr (.inl rfl)))
      have hs3 := drop_app hs2
      have hl3 := look_tok hyr hyn hs3 (q2 _)
      have hs4 := drop_app hs3
      have hl4 := look_alone (c := 58) hs4 (.inr (.inr (.inr rfl)))
      have hs5 := drop_app hs4
      have hl5 := look_tok hzr hzn hs5 stop_close
      have hs6 := drop_app hs5
      have hl6 := look_alone (c := 41) hs6 (.inr (.inl rfl))
      refine ⟨_, hl1, ?_⟩
      have o1 := ihx (m + 3) s a _ _ d k (by omega) hs1 (q1 _) hl2 (hk x (by simp)) (by omega)
      have o2 : betweenP (m + 4) s 1 (tokE x a) d = .ok (stripE x) ⟨3, [63], 0, a + (showE x).length⟩ := btw_of o1 (by show rowV [63] < 1; decide)
      have o3 := ihy (m + 1) s _ _ _ (d + 1) k (by omega) hs3 (q2 _) hl4 (hk y (by simp)) (by omega)
      have o4 := asg_of o3 (by show rowV [58] = 0; decide) (by show ([58] : List UInt8) ≠ [63]; decide) (by show asgV [58] = false; decide)
      have o5 := ihz (m + 2) s _ _ _ (d + 1) k (by omega) hs5 stop_close hl6 (hk z (by simp)) (by omega)
      have o6 := cho_of o5 (close_facts _).1 (close_facts _).2.1
      have o7 : choiceP (m + 5) s (tokE x a) d = .ok (.mk [63] 0 [] [stripE x, stripE y, stripE z]) ⟨3, [41], 0, a + (showE x).length + 1 + (showE y).length + 1 + (showE z).length⟩ := cho_q o2 rfl (by omega) hl3 o4 rfl hl5 o6
      rw [asg_of_cho o7 (close_facts _).2.2, stripE, if_neg (by decide), nmd_many (by decide) (by simp)]
      simp only [stripL, List.length_append, List.length_cons, List.length_nil, Nat.zero_add, Nat.add_assoc]
      rfl
    | x :: y :: z :: u :: l, hK, _, _, _, _ =>
      exfalso
      simp only [List.length_cons] at hK
      have := kidsV_cases op
      omega

/-- What is told is parsed as what was told. -/
theorem parse_show {x : E} (hr : rightE x = true) (hn : NumE x) (hd : dpLe 20 x = true) : parseP (6 * sizeE x + 3) (showE x) = .ok (stripE x) ⟨0, [], 0, (showE x).length⟩ := by
  have hs : (showE x).drop 0 = showE x ++ [] := by simp
  have hl := look_tok hr hn hs rfl
  have hle : lookP (showE x) (0 + (showE x).length) = some ⟨0, [], 0, (showE x).length⟩ := by
    rw [Nat.zero_add]
    exact look_end (by simp)
  have o := opnd_all _ x (Nat.le_refl _) hr hn (6 * sizeE x) (showE x) 0 [] _ 0 20 (Nat.le_refl _) hs rfl hle hd (by omega)
  have o2 := asg_of o (by show rowV [] = 0; decide) (by show ([] : List UInt8) ≠ [63]; decide) (by show asgV [] = false; decide)
  unfold parseP
  rw [goT_of hl]
  have hk : (tokE x 0).kind ≠ 0 := by
    obtain ⟨op, num, name, kids⟩ := x
    simp only [tokE]
    split
    · show (1 : Nat) ≠ 0; omega
    · split
      · show (2 : Nat) ≠ 0; omega
      · show (3 : Nat) ≠ 0; omega
  rw [if_neg hk, o2]
  rfl

/-! ### What is parsed may be shown -/
theorem right_of {op name : List UInt8} {num : Int} {kids : List E} (h1 : (kids.length : Int) = kidsV op) (h2 : op = [110, 117, 109] → ¬ num < 0) (h3 : op = [110, 97, 109, 101] ∨ asgV op = true → isNameV name) (h4 : ∀ k ∈ kids, rightE k = true) :
    rightE (.mk op num name kids) = true := by
  rw [rightE]
  simp only [Bool.and_eq_true, decide_eq_true_eq]
  refine ⟨⟨⟨h1, ?_⟩, ?_⟩, rightL_iff.2 h4⟩
  · by_cases e : op = [110, 117, 109]
    · simp [h2 e]
    · have : (op == [110, 117, 109]) = false := by simpa using e
      simp [this]
  · cases hb : (op == [110, 97, 109, 101] || asgV op) with
    | false => rfl
    | true =>
      have := h3 (by simpa using hb)
      unfold isNmB
      simp [this.1, this.2]
theorem op_facts {m : List UInt8} (h : opV m ≠ []) : kidsV (opV m) = 1 ∧ asgV (opV m) = false ∧ opV m ≠ [110, 117, 109] ∧ opV m ≠ [110, 97, 109, 101] ∧ nmdB (opV m) 1 = false := by
  have : ∀ m ∈ allM, opV m ≠ [] → kidsV (opV m) = 1 ∧ asgV (opV m) = false ∧ opV m ≠ [110, 117, 109] ∧ opV m ≠ [110, 97, 109, 101] ∧ nmdB (opV m) 1 = false := by decide +kernel
  exact this m (op_mem h) h
theorem row_kids {m : List UInt8} (h : 0 < rowV m) : kidsV m = 2 := by
  have : ∀ m ∈ allM, 0 < rowV m → kidsV m = 2 := by decide +kernel
  exact this m (row_mem (by omega)) h
theorem clean_facts {N : Nat} {x : E} (h : Clean N x) : rightE x = true ∧ NumE x ∧ stripE x = x := by
  induction h with
  | num n hn =>
    refine ⟨right_of rfl (fun _ => by omega) (fun h => by rcases h with h | h <;> exact absurd h (by decide)) (by simp), ?_, ?_⟩
    · unfold NumE InR; exact ⟨by omega, trivial⟩
    · rfl
  | name l h1 h2 =>
    refine ⟨right_of rfl (fun h => absurd h (by decide)) (fun _ => h1) (by simp), ?_, ?_⟩
    · unfold NumE InR; exact ⟨by omega, trivial⟩
    · rfl
  | one m k hm _ ih =>
    obtain ⟨f1, f2, f3, f4, f5⟩ := op_facts hm
    refine ⟨right_of (by rw [f1]; rfl) (fun h => absurd h f3) (fun h => by rcases h with h | h; exact absurd h f4; rw [f2] at h; cases h) (by simpa using ih.1), ?_, ?_⟩
    · unfold NumE InR NumL; exact ⟨by omega, ih.2.1, trivial⟩
    · rw [stripE, if_neg f3]
      simp only [List.length_cons, List.length_nil, Nat.zero_add, f5, stripL, ih.2.2]
      rfl
  | set m l k hm hl _ _ ih =>
    obtain ⟨f1, f2, f3, _, f5, f6⟩ := asg_facts hm
    refine ⟨right_of (by rw [kidsV_asg f5 f6 hm]; rfl) (fun h => absurd h f5) (fun _ => hl) (by simpa using ih.1), ?_, ?_⟩
    · unfold NumE InR NumL; exact ⟨by omega, ih.2.1, trivial⟩
    · rw [stripE, if_neg f5]
      simp only [List.length_cons, List.length_nil, Nat.zero_add, asg_nmd hm, stripL, ih.2.2, if_true]
  | two m a b hm _ _ iha ihb =>
    obtain ⟨f2, f3, f5, f6⟩ := row_facts hm
    refine ⟨right_of (by rw [row_kids hm]; rfl) (fun h => absurd h f5) (fun h => by rcases h with h | h; exact absurd h f6; rw [f3] at h; cases h) (by simp [iha.1, ihb.1]), ?_, ?_⟩
    · unfold NumE InR NumL NumL NumL; exact ⟨by omega, iha.2.1, ihb.2.1, trivial⟩
    · rw [stripE, if_neg f5, nmd_many f6 (by simp)]
      simp only [stripL, iha.2.2, ihb.2.2]
      rfl
  | three a b c _ _ _ iha ihb ihc =>
    refine ⟨right_of rfl (fun h => absurd h (by decide)) (fun h => by rcases h with h | h <;> exact absurd h (by decide)) (by simp [iha.1, ihb.1, ihc.1]), ?_, ?_⟩
    · unfold NumE InR NumL NumL NumL NumL; exact ⟨by omega, iha.2.1, ihb.2.1, ihc.2.1, trivial⟩
    · rw [stripE, if_neg (by decide), nmd_many (by decide) (by simp)]
      simp only [stripL, iha.2.2, ihb.2.2, ihc.2.2]
      rfl
end Go.Proofs.YtlijlgbaikijnaaGreatDoor
