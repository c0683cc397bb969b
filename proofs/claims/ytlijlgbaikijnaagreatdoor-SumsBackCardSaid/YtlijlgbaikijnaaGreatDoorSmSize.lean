/-
  What a text is parsed as has no more Ops than the text has bytes, and what is wrong is told by a number that is not 0. No walk in it.
-/
import Derived.Test.YtlijlgbaikijnaaGreatDoorSmBack2
namespace Go.Proofs.YtlijlgbaikijnaaGreatDoor
open Go Go.RowKit

/-- An answer that is not too great, from a place on. -/
def SzR (s : List UInt8) (p : Nat) (r : Res) : Prop := (∀ c n, r = .no c n → c ≠ 0) ∧ ∀ e t, r = .ok e t → OkT s t ∧ sizeE e + p ≤ t.place
theorem sz_out (s : List UInt8) (p : Nat) : SzR s p .out := ⟨by simp, by simp⟩
theorem sz_no (s : List UInt8) (p : Nat) {c : Int} (h : c ≠ 0) (n : Nat) : SzR s p (.no c n) := ⟨fun _ _ e => by cases e; exact h, by simp⟩
theorem sz_ok {s : List UInt8} {p : Nat} {e : E} {t : Th} (h : OkT s t) (hp : sizeE e + p ≤ t.place) : SzR s p (.ok e t) :=
  ⟨by simp, fun e' t' h' => by cases h'; exact ⟨h, hp⟩⟩
theorem SzR.weak {s : List UInt8} {p q : Nat} {r : Res} (h : SzR s p r) (hq : q ≤ p) : SzR s q r := ⟨h.1, fun e t h' => ⟨(h.2 e t h').1, by have := (h.2 e t h').2; omega⟩⟩
theorem sz_go {s : List UInt8} {p a : Nat} {k : Th → Res} (ha : a ≤ s.length) (h : ∀ t, OkT s t → a ≤ t.place → SzR s p (k t)) : SzR s p (goT s a k) := by
  unfold goT
  cases hl : lookP s a with
  | none => exact sz_no _ _ (by decide) _
  | some t => exact h t (lookP_okT hl ha).1 (lookP_okT hl ha).2
theorem sz_step {s : List UInt8} {p : Nat} {t : Th} {k : Th → Res} (ht : OkT s t) (hne : t.text ≠ []) (h : ∀ t', OkT s t' → t.place + 1 ≤ t'.place → SzR s p (k t')) : SzR s p (stepT s t k) := by
  have := List.length_pos_iff.2 hne
  exact sz_go ht.1 fun t' h1 h2 => h t' h1 (by omega)
theorem sz_need {s m : List UInt8} {p : Nat} {t : Th} {k : Th → Res} (ht : OkT s t) (hm : m ≠ []) (h : ∀ t', OkT s t' → t.place + 1 ≤ t'.place → SzR s p (k t')) : SzR s p (needT m s t k) := by
  unfold needT
  split
  · rename_i he; exact sz_step ht (by rw [he]; exact hm) h
  · exact sz_no _ _ (by decide) _
theorem sz_enter {s : List UInt8} {p d : Nat} {t : Th} {k : Th → Res} (ht : OkT s t) (hne : t.text ≠ []) (h : ∀ t', OkT s t' → t.place + 1 ≤ t'.place → SzR s p (k t')) : SzR s p (enterT s t d k) := by
  unfold enterT
  split
  · exact sz_no _ _ (by decide) _
  · exact sz_step ht hne h
theorem sz_next {s : List UInt8} {p q : Nat} {r : Res} {k : E → Th → Res} (hr : SzR s q r) (h : ∀ e t, OkT s t → sizeE e + q ≤ t.place → SzR s p (k e t)) : SzR s p (r.next k) := by
  cases r with
  | out => exact sz_out _ _
  | no c n => exact sz_no _ _ (hr.1 c n rfl) _
  | ok e t => obtain ⟨h1, h2⟩ := hr.2 e t rfl; exact h e t h1 h2
theorem size_pos (e : E) : 1 ≤ sizeE e := by obtain ⟨o, n, m, l⟩ := e; unfold sizeE; omega

set_option maxHeartbeats 1000000 in
theorem siz_all (s : List UInt8) : ∀ n : Nat,
    (∀ t d, OkT s t → SzR s t.place (assignP n s t d)) ∧ (∀ t d, OkT s t → SzR s t.place (choiceP n s t d)) ∧ (∀ l t d, 1 ≤ l → OkT s t → SzR s t.place (betweenP n s l t d)) ∧
    (∀ l e t d p, 1 ≤ l → OkT s t → sizeE e + p ≤ t.place → SzR s p (loopP n s l e t d)) ∧ (∀ t d, OkT s t → SzR s t.place (operandP n s t d))
  | 0 => ⟨fun _ _ _ => by rw [assignP]; exact sz_out _ _, fun _ _ _ => by rw [choiceP]; exact sz_out _ _, fun _ _ _ _ _ => by rw [betweenP]; exact sz_out _ _, fun _ _ _ _ _ _ _ _ => by rw [loopP]; exact sz_out _ _, fun _ _ _ => by rw [operandP]; exact sz_out _ _⟩
  | n + 1 => by
    obtain ⟨iha, ihc, ihb, ihl, iho⟩ := siz_all s n
    refine ⟨fun t d ht => ?_, fun t d ht => ?_, fun l t d hl ht => ?_, fun l e t d p hl ht he => ?_, fun t d ht => ?_⟩
    · rw [assignP]
      refine sz_next (ihc t d ht) fun e t1 h1 p1 => ?_
      split
      · exact sz_ok h1 p1
      · rename_i ha
        split
        · exact sz_no _ _ (by decide) _
        · refine sz_enter h1 (asg_ne ha) fun t2 h2 p2 => ?_
          refine sz_next (iha t2 (d + 1) h2) fun k t3 h3 p3 => ?_
          have := size_pos e
          exact sz_ok h3 (by simp only [sizeE, sizeL]; omega)
    · rw [choiceP]
      refine sz_next (ihb 1 t d (Nat.le_refl _) ht) fun e t1 h1 p1 => ?_
      split
      · exact sz_ok h1 p1
      · rename_i hq
        have hq : t1.text = [63] := Classical.byContradiction hq
        refine sz_enter h1 (by rw [hq]; simp) fun t2 h2 p2 => ?_
        refine sz_next (iha t2 (d + 1) h2) fun y t3 h3 p3 => ?_
        refine sz_need h3 (by simp) fun t4 h4 p4 => ?_
        refine sz_next (ihc t4 (d + 1) h4) fun o t5 h5 p5 => ?_
        exact sz_ok h5 (by simp only [sizeE, sizeL]; omega)
    · rw [betweenP]
      exact sz_next (iho t d ht) fun e t1 h1 p1 => ihl l e t1 d _ hl h1 p1
    · rw [loopP]
      split
      · exact sz_ok ht he
      · rename_i hr
        have hr : 0 < rowV t.text := by omega
        refine sz_step ht (row_ne hr) fun t1 h1 p1 => ?_
        refine sz_next (ihb (rowV t.text + 1) t1 d (by omega) h1) fun k t2 h2 p2 => ?_
        exact ihl l _ t2 d p hl h2 (by simp only [sizeE, sizeL]; omega)
    · rw [operandP]
      split
      · rename_i hk
        exact sz_step ht (ht.2.1 hk).1 fun t1 h1 p1 => sz_ok h1 (by simp only [sizeE, sizeL]; omega)
      · split
        · rename_i _ hk
          exact sz_step ht (ht.2.2 hk).1 fun t1 h1 p1 => sz_ok h1 (by simp only [sizeE, sizeL]; omega)
        · split
          · rename_i _ _ hb
            refine sz_enter ht (by rw [hb]; simp) fun t1 h1 p1 => ?_
            refine sz_next (iha t1 (d + 1) h1) fun e t2 h2 p2 => ?_
            exact sz_need h2 (by simp) fun t3 h3 p3 => sz_ok h3 (by omega)
          · split
            · rename_i _ _ _ hop
              refine sz_enter ht (op_ne hop) fun t1 h1 p1 => ?_
              refine sz_next (iho t1 (d + 1) h1) fun e t2 h2 p2 => ?_
              exact sz_ok h2 (by simp only [sizeE, sizeL]; omega)
            · exact sz_no _ _ (by decide) _
theorem clean_short {N : Nat} (hN : N ≤ 1000000) {x : E} (h : Clean N x) : ShortE x := by
  induction h with
  | num n _ => unfold ShortE ShortL; exact ⟨by simp, trivial⟩
  | name l _ h2 => unfold ShortE ShortL; exact ⟨by omega, trivial⟩
  | one m k _ _ ih => unfold ShortE ShortL ShortL; exact ⟨by simp, ih, trivial⟩
  | set m l k _ _ h2 _ ih => unfold ShortE ShortL ShortL; exact ⟨by omega, ih, trivial⟩
  | two m a b _ _ _ iha ihb => unfold ShortE ShortL ShortL ShortL; exact ⟨by simp, iha, ihb, trivial⟩
  | three a b c _ _ _ iha ihb ihc => unfold ShortE ShortL ShortL ShortL ShortL; exact ⟨by simp, iha, ihb, ihc, trivial⟩
/-- What a text is parsed as. -/
theorem parse_cases (s : List UInt8) (hs : s.length ≤ 1000000) : (∃ c n, parseP (5 * s.length + 5) s = .no c n ∧ c ≠ 0) ∨
    ∃ e t, parseP (5 * s.length + 5) s = .ok e t ∧ rightE e = true ∧ NumE e ∧ ShortE e ∧ stripE e = e ∧ sizeE e ≤ s.length + 1 := by
  have hf := parse_fuel s
  have hz : (∀ c n, parseP (5 * s.length + 5) s = .no c n → c ≠ 0) ∧ ∀ e t, parseP (5 * s.length + 5) s = .ok e t → sizeE e ≤ s.length + 1 := by
    unfold parseP goT
    cases hl : lookP s 0 with
    | none => exact ⟨fun c n e => by cases e; decide, by simp⟩
    | some t =>
      have ht := (lookP_okT hl (Nat.zero_le _)).1
      have ha := (siz_all s (5 * s.length + 5)).1 t 0 ht
      by_cases h0 : t.kind = 0
      · simp only [h0, if_true]
        exact ⟨by simp, fun e t' h => by cases h; simp [sizeE, sizeL]⟩
      · simp only [h0, if_false]
        generalize assignP (5 * s.length + 5) s t 0 = r at ha
        cases r with
        | out => exact ⟨by simp [Res.next], by simp [Res.next]⟩
        | no c n => exact ⟨fun c' n' e => by simp only [Res.next, Res.no.injEq] at e; rw [← e.1]; exact ha.1 c n rfl, by simp [Res.next]⟩
        | ok e1 t1 =>
          obtain ⟨h1, h2⟩ := ha.2 e1 t1 rfl
          simp only [Res.next]
          split
          · exact ⟨fun c n e => by cases e; decide, by simp⟩
          · exact ⟨by simp, fun e t' h => by cases h; have := h1.1; omega⟩
  cases hr : parseP (5 * s.length + 5) s with
  | out => exact absurd hr hf.1
  | no c n => exact .inl ⟨c, n, rfl, hz.1 c n hr⟩
  | ok e t =>
    obtain ⟨_, _, hc⟩ := hf.2 e t hr
    obtain ⟨f1, f2, f3⟩ := clean_facts hc
    exact .inr ⟨e, t, rfl, f1, f2, clean_short hs hc, f3, hz.2 e t hr⟩
/-- What is told of an expression that may be shown is parsed as it, without what its Ops do not have. -/
theorem show_ok {x : E} (h : (showF x).2 = 0) : rightE x = true ∧ dpLe 20 x = true ∧ (showE x).length ≤ 4096 ∧ (showF x).1 = showE x := by
  unfold showF at h ⊢
  cases hr : rightE x with
  | false => rw [hr, if_pos rfl] at h; exact absurd h (show ¬ (1 : Int) = 0 by decide)
  | true =>
    rw [hr] at h
    rw [if_neg (by simp)] at h ⊢
    cases hd : dpLe 20 x with
    | false => rw [hd, if_pos rfl] at h; exact absurd h (show ¬ (32 : Int) = 0 by decide)
    | true =>
      rw [hd] at h
      rw [if_neg (by simp)] at h ⊢
      by_cases hl : (showE x).length ≤ 4096
      · rw [if_pos hl]; exact ⟨rfl, rfl, hl, rfl⟩
      · rw [if_neg hl] at h; exact absurd h (show ¬ (21 : Int) = 0 by decide)
theorem show_right {x : E} (hr : rightE x = true) : (showF x).2 = 0 ∨ (showF x).2 = 32 ∨ (showF x).2 = 21 := by
  unfold showF
  rw [hr, if_neg (by simp)]
  split
  · exact .inr (.inl rfl)
  · split
    · exact .inl rfl
    · exact .inr (.inr rfl)
mutual
theorem stripE_twice : ∀ x : E, stripE (stripE x) = stripE x
  | .mk op num name kids => by
    have hl : ∀ l : List E, (stripL l).length = l.length := by
      intro l
      induction l with
      | nil => rfl
      | cons x l ih => simp only [stripL, List.length_cons, ih]
    rw [stripE, stripE, stripL_twice kids, hl]
    congr 1
    · split <;> rfl
    · split <;> rfl
theorem stripL_twice : ∀ l : List E, stripL (stripL l) = stripL l
  | [] => rfl
  | x :: l => by rw [stripL, stripL, stripE_twice x, stripL_twice l]
end
mutual
theorem sizeE_strip : ∀ x : E, sizeE (stripE x) = sizeE x
  | .mk op num name kids => by rw [stripE, sizeE, sizeE, sizeL_strip kids]
theorem sizeL_strip : ∀ l : List E, sizeL (stripL l) = sizeL l
  | [] => rfl
  | x :: l => by rw [stripL, sizeL, sizeL, sizeE_strip x, sizeL_strip l]
end
/-- The clean one of a num has the number alone. -/
theorem strip_num {num : Int} {name : List UInt8} {kids : List E} (h : rightE (.mk [110, 117, 109] num name kids) = true) : stripE (.mk [110, 117, 109] num name kids) = .mk [110, 117, 109] num [] [] := by
  have h1 := (right_parts h).1
  have h2 : kidsV [110, 117, 109] = 0 := by decide
  obtain rfl : kids = [] := List.eq_nil_of_length_eq_zero (by omega)
  rfl
end Go.Proofs.YtlijlgbaikijnaaGreatDoor
