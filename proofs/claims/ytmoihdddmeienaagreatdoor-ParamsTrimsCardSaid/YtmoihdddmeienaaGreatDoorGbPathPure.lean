/-
  Paths in plain words: a stroke, and a point at a beginning, are fitted by One alone; that names between strokes are fitted each by itself. No program in it.
-/
import Derived.Test.YtmoihdddmeienaaGreatDoorGbPure
namespace Go.Proofs.YtmoihdddmeienaaGreatDoor

/-- Bytes of a path, with a mark at each that One alone fits. -/
def pm : Bool → List UInt8 → List Ch
  | _, [] => []
  | st, c :: s => (c, c == 47 || (c == 46 && st)) :: pm (c == 47) s
def pathM (p : List It) (s : List UInt8) : Bool := mtM p (pm true s)
def isSl (x : It) : Bool := decide (x.1 = 1) && x.2.1 == 47
def headOne (s : List UInt8) : List It → Bool
  | [] => false
  | x :: q => decide (x.1 = 1) && mt (x :: q) s
def nameP (p : List It) (s : List UInt8) : Bool :=
  if s.head? = some 46 then headOne s (p.dropWhile isStar) else mt p s

theorem pm_append (st : Bool) (u v : List UInt8) : pm st (u ++ 47 :: v) = pm st u ++ (47, true) :: pm true v := by
  induction u generalizing st with
  | nil => simp [pm]
  | cons c u ih => simp only [List.cons_append, pm, ih]
theorem pm_map (st : Bool) (s : List UInt8) : (pm st s).map (·.1) = s := by
  induction s generalizing st with
  | nil => rfl
  | cons c s ih => simp only [pm, List.map_cons, ih]
theorem pm_mark (st : Bool) (s : List UInt8) : ∀ c ∈ pm st s, c.1 = 47 → c.2 = true := by
  induction s generalizing st with
  | nil => intro c hc; cases hc
  | cons b s ih =>
    intro c hc h47
    rcases List.mem_cons.1 hc with rfl | hc
    · simp only at h47; simp [h47]
    · exact ih _ c hc h47
theorem pm_no (st : Bool) (s : List UInt8) (h : ∀ c ∈ s, c ≠ 47) : ∀ c ∈ pm st s, c.1 ≠ 47 := by
  intro c hc
  have : c.1 ∈ (pm st s).map (·.1) := List.mem_map_of_mem hc
  rw [pm_map] at this
  exact h _ this
theorem fitM_sl {x : It} (h : fitM x (47, true) = true) : isSl x = true := by
  simp only [fitM, Bool.not_true, Bool.or_false, Bool.and_eq_true, decide_eq_true_eq] at h
  obtain ⟨h1, h2⟩ := h
  simp only [fit, h2, if_true] at h1
  simp [isSl, h2, h1]
theorem isSl_byte {x : It} (h : isSl x = true) {c : Ch} (hf : fitM x c = true) : c.1 = 47 := by
  simp only [isSl, Bool.and_eq_true, decide_eq_true_eq, beq_iff_eq] at h
  simp only [fitM, fit, h.1, if_true, Bool.and_eq_true, beq_iff_eq] at hf
  rw [← hf.1, h.2]
theorem isSl_kind {x : It} (h : isSl x = true) : ¬ x.1 = 3 := by
  simp only [isSl, Bool.and_eq_true, decide_eq_true_eq] at h
  omega
theorem noSl_fit (p : List It) (hp : ∀ x ∈ p, isSl x = false) (t : List Ch) (ht : ∀ c ∈ t, c.1 = 47 → c.2 = true) (h : Fit p t) : ∀ c ∈ t, c.1 ≠ 47 := by
  induction p generalizing t with
  | nil => simp only [Fit] at h; subst h; simp
  | cons x p ih =>
    obtain ⟨a, b, rfl, ho, hb⟩ := h
    intro c hc
    rcases List.mem_append.1 hc with hc | hc
    · intro e
      have hm := ht c (List.mem_append_left _ hc) e
      unfold one at ho
      split at ho
      · rw [ho c hc] at hm; cases hm
      · obtain ⟨d, rfl, hf⟩ := ho
        rw [List.mem_singleton.1 hc] at e hm
        have : d = (47, true) := Prod.ext e hm
        rw [this] at hf
        have := fitM_sl hf
        rw [hp x (by simp)] at this; cases this
    · exact ih (fun y hy => hp y (by simp [hy])) b (fun d hd => ht d (List.mem_append_right _ hd)) hb c hc
theorem sl_fit (p : List It) (t : List Ch) (h : Fit p t) (x : It) (hx : x ∈ p) (hs : isSl x = true) : ∃ c ∈ t, c.1 = 47 := by
  induction p generalizing t with
  | nil => cases hx
  | cons y p ih =>
    obtain ⟨a, b, rfl, ho, hb⟩ := h
    rcases List.mem_cons.1 hx with rfl | hx
    · unfold one at ho
      rw [if_neg (isSl_kind hs)] at ho
      obtain ⟨c, rfl, hf⟩ := ho
      exact ⟨c, by simp, isSl_byte hs hf⟩
    · obtain ⟨c, hc, e⟩ := ih b hb hx
      exact ⟨c, List.mem_append_right _ hc, e⟩
theorem split_same {a a2 b b2 : List Ch} {c d : Ch} (h : a ++ c :: b = a2 ++ d :: b2) (ha : ∀ e ∈ a, e.1 ≠ 47) (ha2 : ∀ e ∈ a2, e.1 ≠ 47) (hc : c.1 = 47) (hd : d.1 = 47) : a = a2 ∧ b = b2 := by
  induction a generalizing a2 with
  | nil =>
    cases a2 with
    | nil => simp at h; exact ⟨rfl, h.2⟩
    | cons e a2 => simp at h; rw [h.1] at hc; exact absurd hc (ha2 e (by simp))
  | cons e a ih =>
    cases a2 with
    | nil => simp at h; rw [← h.1] at hd; exact absurd hd (ha e (by simp))
    | cons f a2 =>
      simp only [List.cons_append, List.cons.injEq] at h
      obtain ⟨h1, h2⟩ := ih h.2 (fun x hx => ha x (by simp [hx])) (fun x hx => ha2 x (by simp [hx]))
      exact ⟨by rw [h.1, h1], h2⟩
theorem pm_bare {s : List UInt8} (h : ∀ c ∈ s, c ≠ 47) : pm false s = bareCh s := by
  induction s with
  | nil => rfl
  | cons c s ih =>
    have hc : (c == 47) = false := by simpa using h c (by simp)
    simp only [pm, bareCh, List.map_cons, hc, Bool.and_false, Bool.or_self]
    rw [ih (fun x hx => h x (by simp [hx]))]
    rfl
theorem pm_start {s : List UInt8} (h : ∀ c ∈ s, c ≠ 47) (hd : ¬ s.head? = some 46) : pm true s = bareCh s := by
  cases s with
  | nil => rfl
  | cons c s =>
    have hc : (c == 47) = false := by simpa using h c (by simp)
    have h6 : (c == 46) = false := by simpa using hd
    simp only [pm, bareCh, List.map_cons, hc, h6, Bool.false_and, Bool.or_self]
    rw [pm_bare (fun x hx => h x (by simp [hx]))]
    rfl
theorem fit_hard (p : List It) (c : UInt8) (t : List Ch) : Fit p ((c, true) :: t) ↔ Fit (p.dropWhile isStar) ((c, true) :: t) := by
  induction p with
  | nil => rfl
  | cons x p ih =>
    by_cases hx : x.1 = 3
    · rw [List.dropWhile_cons, if_pos (by simp [isStar, hx]), ← ih]
      simp only [Fit, one, hx, if_true]
      constructor
      · rintro ⟨a, b, h, ha, hb⟩
        cases a with
        | nil => simp at h; rw [h]; exact hb
        | cons d a =>
          simp only [List.cons_append, List.cons.injEq] at h
          have := ha d (by simp)
          rw [← h.1] at this; cases this
      · intro h; exact ⟨[], _, rfl, by simp, h⟩
    · rw [List.dropWhile_cons, if_neg (by simp [isStar, hx])]
theorem name_fit (p : List It) (s : List UInt8) (h : ∀ c ∈ s, c ≠ 47) : Fit p (pm true s) ↔ nameP p s = true := by
  unfold nameP
  by_cases hd : s.head? = some 46
  · rw [if_pos hd]
    cases s with
    | nil => cases hd
    | cons c s =>
      simp only [List.head?_cons, Option.some.injEq] at hd
      subst hd
      have e : pm true (46 :: s) = (46, true) :: bareCh s := by
        simp only [pm]
        rw [show ((46 : UInt8) == 47) = false from rfl, pm_bare (fun x hx => h x (by simp [hx]))]
        rfl
      rw [e, fit_hard]
      cases hq : p.dropWhile isStar with
      | nil => simp [Fit, headOne]
      | cons x q =>
        have hx : ¬ x.1 = 3 := by
          intro hx
          have := List.head?_dropWhile_not isStar p
          rw [hq] at this
          simp [isStar, hx] at this
        simp only [headOne, Bool.and_eq_true, decide_eq_true_eq, mt_iff]
        have e2 : bareCh (46 :: s) = (46, false) :: bareCh s := rfl
        rw [e2]
        simp only [Fit, one, if_neg hx]
        constructor
        · rintro ⟨a, b, h1, ⟨d, rfl, hf⟩, hb⟩
          simp only [List.cons_append, List.nil_append, List.cons.injEq] at h1
          obtain ⟨rfl, rfl⟩ := h1
          simp only [fitM, Bool.not_true, Bool.or_false, Bool.and_eq_true, decide_eq_true_eq] at hf
          exact ⟨hf.2, [(46, false)], _, rfl, ⟨_, rfl, by simp [fitM, hf.1]⟩, hb⟩
        · rintro ⟨hk, a, b, h1, ⟨d, rfl, hf⟩, hb⟩
          simp only [List.cons_append, List.nil_append, List.cons.injEq] at h1
          obtain ⟨rfl, rfl⟩ := h1
          simp only [fitM, Bool.not_false, Bool.or_true, Bool.and_true] at hf
          exact ⟨[(46, true)], _, rfl, ⟨_, rfl, by simp [fitM, hf, hk]⟩, hb⟩
  · rw [if_neg hd, pm_start h hd, mt_iff]
theorem path_name (p : List It) (s : List UInt8) (h : ∀ c ∈ s, c ≠ 47) : pathM p s = nameP p s := by
  rw [Bool.eq_iff_iff, pathM, mtM_iff, name_fit p s h]
theorem path_step (p1 p2 : List It) (x : It) (u v : List UInt8) (hp : ∀ y ∈ p1, isSl y = false) (hx : isSl x = true) (hu : ∀ c ∈ u, c ≠ 47) : pathM (p1 ++ x :: p2) (u ++ 47 :: v) = (nameP p1 u && pathM p2 v) := by
  rw [Bool.eq_iff_iff, Bool.and_eq_true, ← name_fit p1 u hu]
  unfold pathM
  rw [mtM_iff, mtM_iff, pm_append, fit_append]
  constructor
  · rintro ⟨a, b, h, ha, a2, b2, rfl, ho, hb⟩
    unfold one at ho
    rw [if_neg (isSl_kind hx)] at ho
    obtain ⟨c, rfl, hf⟩ := ho
    have hc := isSl_byte hx hf
    have hmark : ∀ d ∈ a, d.1 = 47 → d.2 = true := fun d hd => by
      have : d ∈ pm true u ++ (47, true) :: pm true v := by rw [h]; exact List.mem_append_left _ hd
      rcases List.mem_append.1 this with h1 | h1
      · exact pm_mark _ _ d h1
      · rcases List.mem_cons.1 h1 with rfl | h1
        · intro _; rfl
        · exact pm_mark _ _ d h1
    have hno := noSl_fit p1 hp a hmark ha
    obtain ⟨h1, h2⟩ := split_same h.symm hno (pm_no true u hu) hc rfl
    rw [← h1, ← h2]
    exact ⟨ha, hb⟩
  · rintro ⟨ha, hb⟩
    refine ⟨_, _, rfl, ha, [(47, true)], _, rfl, ?_, hb⟩
    unfold one
    rw [if_neg (isSl_kind hx)]
    simp only [isSl, Bool.and_eq_true, decide_eq_true_eq, beq_iff_eq] at hx
    exact ⟨_, rfl, by simp [fitM, fit, hx.1, hx.2]⟩
theorem path_more (p : List It) (s : List UInt8) (x : It) (hx : x ∈ p) (hs : isSl x = true) (hu : ∀ c ∈ s, c ≠ 47) : pathM p s = false := by
  rw [Bool.eq_false_iff]
  intro h
  unfold pathM at h
  rw [mtM_iff] at h
  obtain ⟨c, hc, e⟩ := sl_fit p _ h x hx hs
  exact pm_no true s hu c hc e
theorem path_less (p : List It) (s : List UInt8) (hp : ∀ y ∈ p, isSl y = false) (hu : (47 : UInt8) ∈ s) : pathM p s = false := by
  rw [Bool.eq_false_iff]
  intro h
  unfold pathM at h
  rw [mtM_iff] at h
  have hno := noSl_fit p hp _ (pm_mark true s) h
  rw [← pm_map true s] at hu
  obtain ⟨c, hc, e⟩ := List.mem_map.1 hu
  exact hno c hc e
theorem fit_unmark (p : List It) (t : List Ch) (h : Fit p t) : Fit p (t.map fun c => (c.1, false)) := by
  induction p generalizing t with
  | nil => simp only [Fit] at h ⊢; rw [h]; rfl
  | cons x p ih =>
    obtain ⟨a, b, rfl, ho, hb⟩ := h
    refine ⟨_, _, by rw [List.map_append], ?_, ih b hb⟩
    unfold one at ho ⊢
    split
    · simp
    · rename_i hx
      rw [if_neg hx] at ho
      obtain ⟨c, rfl, hf⟩ := ho
      refine ⟨_, rfl, ?_⟩
      simp only [fitM, Bool.and_eq_true] at hf ⊢
      exact ⟨hf.1, by simp⟩
theorem path_mt (p : List It) (s : List UInt8) (h : pathM p s = true) : mt p s = true := by
  unfold pathM at h
  rw [mtM_iff] at h
  rw [mt_iff]
  have := fit_unmark p _ h
  have e : (pm true s).map (fun c => (c.1, false)) = bareCh s := by
    conv => rhs; rw [← pm_map true s]
    simp [bareCh]
  rwa [e] at this
theorem path_plain (p : List It) (s : List UInt8) (h : ∀ c ∈ s, c ≠ 47) (hd : ¬ s.head? = some 46) : pathM p s = mt p s := by
  rw [path_name p s h, nameP, if_neg hd]
end Go.Proofs.YtmoihdddmeienaaGreatDoor
