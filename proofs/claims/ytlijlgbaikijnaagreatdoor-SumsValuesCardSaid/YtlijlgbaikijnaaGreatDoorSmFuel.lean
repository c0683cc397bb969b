/-
  For every text there is fuel enough to parse it; and what a text is parsed as is an expression as it should be. No program in it.
-/
import Derived.Test.YtlijlgbaikijnaaGreatDoorSmTree
namespace Go.Proofs.YtlijlgbaikijnaaGreatDoor
open Go Go.RowKit

/-- A text that is a name. -/
def isNameV (l : List UInt8) : Prop := l ≠ [] ∧ nameLen l = l.length
/-- An expression as a text is parsed as: its names of at most N bytes. -/
inductive Clean (N : Nat) : E → Prop
  | num (n : Nat) : n ≤ 9223372036854775807 → Clean N (.mk [110, 117, 109] (n : Int) [] [])
  | name (l : List UInt8) : isNameV l → l.length ≤ N → Clean N (.mk [110, 97, 109, 101] 0 l [])
  | one (m : List UInt8) (k : E) : opV m ≠ [] → Clean N k → Clean N (.mk (opV m) 0 [] [k])
  | set (m l : List UInt8) (k : E) : asgV m = true → isNameV l → l.length ≤ N → Clean N k → Clean N (.mk m 0 l [k])
  | two (m : List UInt8) (a b : E) : 0 < rowV m → Clean N a → Clean N b → Clean N (.mk m 0 [] [a, b])
  | three (a b c : E) : Clean N a → Clean N b → Clean N c → Clean N (.mk [63] 0 [] [a, b, c])

/-- A thing lies in a text. -/
def OkT (s : List UInt8) (t : Th) : Prop :=
  t.place + t.text.length ≤ s.length ∧ (t.kind = 1 → t.text ≠ [] ∧ t.num ≤ 9223372036854775807) ∧ (t.kind = 2 → isNameV t.text)
theorem takeWhile_twice {p : UInt8 → Bool} (l : List UInt8) : (l.takeWhile p).takeWhile p = l.takeWhile p := by
  induction l with
  | nil => rfl
  | cons x l ih =>
    cases h : p x with
    | true => simp only [List.takeWhile_cons, h, if_true, ih]
    | false => simp [h]
theorem takeWhile_take {p : UInt8 → Bool} (l : List UInt8) : (l.take (l.takeWhile p).length).takeWhile p = l.take (l.takeWhile p).length := by
  have h := List.prefix_iff_eq_take.1 (List.takeWhile_prefix (l := l) p)
  rw [← h]
  exact takeWhile_twice l
theorem nameLen_take (l : List UInt8) : nameLen (l.take (nameLen l)) = (l.take (nameLen l)).length := by
  cases l with
  | nil => rfl
  | cons x l =>
    by_cases hd : digB x = true
    · have h0 : nameLen (x :: l) = 0 := nameLen_first (by simp) hd
      rw [h0]; rfl
    · have hn : nameLen (x :: l) = ((x :: l).takeWhile nameB).length := by unfold nameLen; rw [if_neg (by simpa using hd)]
      rw [hn]
      cases hk : ((x :: l).takeWhile nameB).length with
      | zero => rfl
      | succ k =>
        have hh := takeWhile_take (p := nameB) (x :: l)
        rw [hk] at hh
        unfold nameLen
        rw [if_neg (by simpa using hd), hh]
theorem lookP_okT {s : List UInt8} {a : Nat} {t : Th} (h : lookP s a = some t) (ha : a ≤ s.length) : OkT s t ∧ a ≤ t.place := by
  have hp := lookP_place h ha
  refine ⟨⟨hp.2, ?_, ?_⟩, hp.1⟩
  all_goals
    intro hk
    unfold lookP thingP at h
    obtain ⟨R, hR⟩ : ∃ R, s.drop (a + blanks (s.drop a)) = R := ⟨_, rfl⟩
    rw [hR] at h
    split at h
    · obtain rfl := Option.some.inj h; cases hk
    · split at h
      · first
        | (obtain rfl := Option.some.inj h; cases hk; done)
        | (rename_i h0 h1
           obtain rfl := Option.some.inj h
           refine ⟨fun e => ?_, nameLen_take R⟩
           have h2 := congrArg List.length e
           have h3 := nameLen_le R
           simp only [List.length_take, List.length_nil] at h2
           omega)
      · split at h
        · split at h
          · cases h
          · first
            | (rename_i h0 h1 h2 h3
               obtain rfl := Option.some.inj h
               refine ⟨fun e => ?_, by simp only; omega⟩
               have h4 := congrArg List.length e
               have h5 := digitsP_le R
               simp only [List.length_take, List.length_nil] at h4
               omega)
            | (obtain rfl := Option.some.inj h; cases hk; done)
        · obtain rfl := Option.some.inj h; cases hk

/-- An answer that is one, from a place on. -/
def FineR (s : List UInt8) (p : Nat) (r : Res) : Prop := r ≠ .out ∧ ∀ e t, r = .ok e t → OkT s t ∧ p ≤ t.place ∧ Clean s.length e
theorem fine_no (s : List UInt8) (p : Nat) (c : Int) (n : Nat) : FineR s p (.no c n) := ⟨by simp, by simp⟩
theorem fine_ok {s : List UInt8} {p : Nat} {e : E} {t : Th} (h : OkT s t) (hp : p ≤ t.place) (he : Clean s.length e) : FineR s p (.ok e t) :=
  ⟨by simp, fun e' t' h' => by cases h'; exact ⟨h, hp, he⟩⟩
theorem FineR.weak {s : List UInt8} {p q : Nat} {r : Res} (h : FineR s p r) (hq : q ≤ p) : FineR s q r := ⟨h.1, fun e t h' => ⟨(h.2 e t h').1, Nat.le_trans hq (h.2 e t h').2.1, (h.2 e t h').2.2⟩⟩
theorem fine_go {s : List UInt8} {p a : Nat} {k : Th → Res} (ha : a ≤ s.length) (h : ∀ t, OkT s t → a ≤ t.place → FineR s p (k t)) : FineR s p (goT s a k) := by
  unfold goT
  cases hl : lookP s a with
  | none => exact fine_no _ _ _ _
  | some t => exact h t (lookP_okT hl ha).1 (lookP_okT hl ha).2
theorem fine_step {s : List UInt8} {p : Nat} {t : Th} {k : Th → Res} (ht : OkT s t) (hne : t.text ≠ []) (h : ∀ t', OkT s t' → t.place + 1 ≤ t'.place → FineR s p (k t')) : FineR s p (stepT s t k) := by
  have := List.length_pos_iff.2 hne
  exact fine_go ht.1 fun t' h1 h2 => h t' h1 (by omega)
theorem fine_need {s m : List UInt8} {p : Nat} {t : Th} {k : Th → Res} (ht : OkT s t) (hm : m ≠ []) (h : ∀ t', OkT s t' → t.place + 1 ≤ t'.place → FineR s p (k t')) : FineR s p (needT m s t k) := by
  unfold needT
  split
  · rename_i he; exact fine_step ht (by rw [he]; exact hm) h
  · exact fine_no _ _ _ _
theorem fine_enter {s : List UInt8} {p d : Nat} {t : Th} {k : Th → Res} (ht : OkT s t) (hne : t.text ≠ []) (h : ∀ t', OkT s t' → t.place + 1 ≤ t'.place → FineR s p (k t')) : FineR s p (enterT s t d k) := by
  unfold enterT
  split
  · exact fine_no _ _ _ _
  · exact fine_step ht hne h
theorem fine_next {s : List UInt8} {p q : Nat} {r : Res} {k : E → Th → Res} (hr : FineR s q r) (h : ∀ e t, OkT s t → q ≤ t.place → Clean s.length e → FineR s p (k e t)) : FineR s p (r.next k) := by
  cases r with
  | out => exact absurd rfl hr.1
  | no c n => exact fine_no _ _ _ _
  | ok e t => obtain ⟨h1, h2, h3⟩ := hr.2 e t rfl; exact h e t h1 h2 h3

theorem clean_named {N : Nat} {e : E} (h : Clean N e) (hn : e.op = [110, 97, 109, 101]) : isNameV e.name ∧ e.name.length ≤ N := by
  cases h with
  | num => cases hn
  | name l h1 h2 => exact ⟨h1, h2⟩
  | one m k h1 =>
    exfalso
    have h3 : opV m = [110, 97, 109, 101] := hn
    revert h3
    unfold opV
    split
    · decide
    · split
      · decide
      · split
        · decide
        · split <;> decide
  | set m l k h1 =>
    have h3 : m = [110, 97, 109, 101] := hn
    subst h3
    exact absurd h1 (by decide)
  | two m a b h1 =>
    have h3 : m = [110, 97, 109, 101] := hn
    subst h3
    exact absurd h1 (by decide)
  | three => cases hn
theorem asg_ne {m : List UInt8} (h : asgV m ≠ false) : m ≠ [] := by rintro rfl; exact h (by decide)
theorem row_ne {m : List UInt8} (h : 0 < rowV m) : m ≠ [] := by rintro rfl; exact absurd h (by decide)
theorem op_ne {m : List UInt8} (h : opV m ≠ []) : m ≠ [] := by rintro rfl; exact h (by decide)

set_option maxHeartbeats 1000000 in
/-- With fuel enough no call runs out of it. -/
theorem fuel_all (s : List UInt8) : ∀ n : Nat,
    (∀ t d, OkT s t → 5 * (s.length - t.place) + 5 ≤ n → FineR s t.place (assignP n s t d)) ∧
    (∀ t d, OkT s t → 5 * (s.length - t.place) + 4 ≤ n → FineR s t.place (choiceP n s t d)) ∧
    (∀ l t d, 1 ≤ l → OkT s t → 5 * (s.length - t.place) + 3 ≤ n → FineR s (t.place + 1) (betweenP n s l t d)) ∧
    (∀ l e t d, 1 ≤ l → Clean s.length e → OkT s t → 5 * (s.length - t.place) + 2 ≤ n → FineR s t.place (loopP n s l e t d)) ∧
    (∀ t d, OkT s t → 5 * (s.length - t.place) + 2 ≤ n → FineR s (t.place + 1) (operandP n s t d))
  | 0 => ⟨fun _ _ _ h => by omega, fun _ _ _ h => by omega, fun _ _ _ _ _ h => by omega, fun _ _ _ _ _ _ _ h => by omega, fun _ _ _ h => by omega⟩
  | n + 1 => by
    obtain ⟨iha, ihc, ihb, ihl, iho⟩ := fuel_all s n
    refine ⟨fun t d ht hn => ?_, fun t d ht hn => ?_, fun l t d hl ht hn => ?_, fun l e t d hl he ht hn => ?_, fun t d ht hn => ?_⟩
    · rw [assignP]
      refine fine_next (ihc t d ht (by omega)) fun e t1 h1 p1 c1 => ?_
      have l1 := h1.1
      split
      · exact fine_ok h1 p1 c1
      · rename_i ha
        split
        · exact fine_no _ _ _ _
        · rename_i hk
          have hop : e.op = [110, 97, 109, 101] := Classical.byContradiction fun h => hk (.inr h)
          have hnm := clean_named c1 hop
          have := List.length_pos_iff.2 (asg_ne ha)
          refine fine_enter h1 (asg_ne ha) fun t2 h2 p2 => ?_
          refine fine_next (iha t2 (d + 1) h2 (by omega)) fun k t3 h3 p3 c3 => ?_
          exact fine_ok h3 (by omega) (.set _ _ _ (by simpa using ha) hnm.1 hnm.2 c3)
    · rw [choiceP]
      refine fine_next (ihb 1 t d (Nat.le_refl _) ht (by omega)) fun e t1 h1 p1 c1 => ?_
      have l1 := h1.1
      split
      · exact fine_ok h1 (by omega) c1
      · rename_i hq
        have hq : t1.text = [63] := Classical.byContradiction hq
        have hne : t1.text ≠ [] := by rw [hq]; simp
        have := List.length_pos_iff.2 hne
        refine fine_enter h1 hne fun t2 h2 p2 => ?_
        refine fine_next (iha t2 (d + 1) h2 (by omega)) fun y t3 h3 p3 c3 => ?_
        refine fine_need h3 (by simp) fun t4 h4 p4 => ?_
        refine fine_next (ihc t4 (d + 1) h4 (by omega)) fun o t5 h5 p5 c5 => ?_
        exact fine_ok h5 (by omega) (.three _ _ _ c1 c3 c5)
    · rw [betweenP]
      refine fine_next (iho t d ht (by omega)) fun e t1 h1 p1 c1 => ?_
      by_cases hlt : t.place < s.length
      · exact (ihl l e t1 d hl c1 h1 (by omega)).weak p1
      · have := h1.1; omega
    · rw [loopP]
      split
      · exact fine_ok ht (Nat.le_refl _) he
      · rename_i hr
        have hr : 0 < rowV t.text := by omega
        have := List.length_pos_iff.2 (row_ne hr)
        have l0 := ht.1
        refine fine_step ht (row_ne hr) fun t1 h1 p1 => ?_
        refine fine_next (ihb (rowV t.text + 1) t1 d (by omega) h1 (by omega)) fun k t2 h2 p2 c2 => ?_
        exact (ihl l _ t2 d hl (.two _ _ _ hr he c2) h2 (by omega)).weak (by omega)
    · rw [operandP]
      have l0 := ht.1
      split
      · rename_i hk
        exact fine_step ht (ht.2.1 hk).1 fun t1 h1 p1 => fine_ok h1 p1 (.num _ (ht.2.1 hk).2)
      · split
        · rename_i _ hk
          exact fine_step ht (ht.2.2 hk).1 fun t1 h1 p1 => fine_ok h1 p1 (.name _ (ht.2.2 hk) (by omega))
        · split
          · rename_i _ _ hb
            have hne : t.text ≠ [] := by rw [hb]; simp
            have := List.length_pos_iff.2 hne
            refine fine_enter ht hne fun t1 h1 p1 => ?_
            refine fine_next (iha t1 (d + 1) h1 (by omega)) fun e t2 h2 p2 c2 => ?_
            exact fine_need h2 (by simp) fun t3 h3 p3 => fine_ok h3 (by omega) c2
          · split
            · rename_i _ _ _ hop
              have := List.length_pos_iff.2 (op_ne hop)
              refine fine_enter ht (op_ne hop) fun t1 h1 p1 => ?_
              refine fine_next (iho t1 (d + 1) h1 (by omega)) fun e t2 h2 p2 c2 => ?_
              exact fine_ok h2 (by omega) (.one _ _ hop c2)
            · exact fine_no _ _ _ _
/-- A text is parsed with this much fuel. -/
theorem parse_fuel (s : List UInt8) : FineR s 0 (parseP (5 * s.length + 5) s) := by
  unfold parseP
  refine fine_go (Nat.zero_le _) fun t ht _ => ?_
  split
  · exact fine_ok ht (Nat.zero_le _) (.num 0 (by omega))
  · refine fine_next ((fuel_all s (5 * s.length + 5)).1 t 0 ht (by omega)) fun e t1 h1 _ c1 => ?_
    split
    · exact fine_no _ _ _ _
    · exact fine_ok h1 (Nat.zero_le _) c1
end Go.Proofs.YtlijlgbaikijnaaGreatDoor
