/-
  Patterns in plain words: what a list of items fits, by places and by rows between stars; that the quick search is the plain one. No program in it.
-/
import Derived.Test.YtmoihdddmeienaaDoorMkWords
namespace Go.Proofs.YtmoihdddmeienaaDoor

/-- An item: its kind, its byte, Not, its ranges. -/
abbrev It := Int × UInt8 × Bool × List (UInt8 × UInt8)
def inR (l : List (UInt8 × UInt8)) (c : UInt8) : Bool := l.any fun r => decide (r.1.toNat ≤ c.toNat) && decide (c.toNat ≤ r.2.toNat)
/-- Whether an item that is no star fits a byte. -/
def fit (x : It) (c : UInt8) : Bool := if x.1 = 1 then x.2.1 == c else if x.1 = 2 then true else if x.1 = 4 then inR x.2.2.2 c != x.2.2.1 else false
/-- The same of a byte with a mark: a marked one is fitted by One alone. -/
def fitM (x : It) (c : Ch) : Bool := fit x c.1 && (decide (x.1 = 1) || !c.2)
def isStar (x : It) : Bool := decide (x.1 = 3)
def one (x : It) (a : List Ch) : Prop := if x.1 = 3 then ∀ c ∈ a, c.2 = false else ∃ c, a = [c] ∧ fitM x c = true
/-- Items, one behind the other, fit the bytes, one behind the other. -/
def Fit : List It → List Ch → Prop
  | [], t => t = []
  | x :: p, t => ∃ a b, t = a ++ b ∧ one x a ∧ Fit p b
def bareCh (s : List UInt8) : List Ch := s.map fun b => (b, false)

theorem fit_append (p q : List It) (t : List Ch) : Fit (p ++ q) t ↔ ∃ a b, t = a ++ b ∧ Fit p a ∧ Fit q b := by
  induction p generalizing t with
  | nil => constructor
           · intro h; exact ⟨[], t, rfl, rfl, h⟩
           · rintro ⟨a, b, rfl, ha, hb⟩; simp only [Fit] at ha; subst ha; exact hb
  | cons x p ih =>
    simp only [List.cons_append, Fit]
    constructor
    · rintro ⟨a, b, rfl, ho, hf⟩
      obtain ⟨c, d, rfl, hc, hd⟩ := (ih b).1 hf
      exact ⟨a ++ c, d, by simp, ⟨a, c, rfl, ho, hc⟩, hd⟩
    · rintro ⟨_, b, rfl, ⟨a, c, rfl, ho, hc⟩, hb⟩
      exact ⟨a, c ++ b, by simp, ho, (ih _).2 ⟨c, b, rfl, hc, hb⟩⟩
theorem fit_one (x : It) (t : List Ch) : Fit [x] t ↔ one x t := by
  simp only [Fit]
  constructor
  · rintro ⟨a, b, rfl, ho, rfl⟩; simpa using ho
  · intro h; exact ⟨t, [], by simp, h, rfl⟩
theorem one_reverse (x : It) (a : List Ch) : one x a.reverse ↔ one x a := by
  unfold one
  split
  · simp
  · constructor
    · rintro ⟨c, h, hf⟩
      refine ⟨c, ?_, hf⟩
      have := congrArg List.reverse h
      simpa using this
    · rintro ⟨c, rfl, hf⟩; exact ⟨c, rfl, hf⟩
theorem fit_reverse (p : List It) (t : List Ch) : Fit p.reverse t.reverse ↔ Fit p t := by
  induction p generalizing t with
  | nil => simp [Fit]
  | cons x p ih =>
    rw [List.reverse_cons, fit_append]
    simp only [fit_one]
    show _ ↔ ∃ a b, t = a ++ b ∧ one x a ∧ Fit p b
    constructor
    · rintro ⟨a, b, h, ha, hb⟩
      have e : t = b.reverse ++ a.reverse := by
        have := congrArg List.reverse h
        simpa using this
      refine ⟨b.reverse, a.reverse, e, (one_reverse _ _).2 hb, ?_⟩
      rw [← ih]; simpa using ha
    · rintro ⟨a, b, rfl, ha, hb⟩
      exact ⟨b.reverse, a.reverse, by simp, (ih b).2 hb, (one_reverse _ _).2 ha⟩

/- By places: which beginnings are fitted. -/
def starQ (t : List Ch) (S : Nat → Bool) : Nat → Bool
  | 0 => S 0
  | i + 1 => S (i + 1) || (starQ t S i && (match t[i]? with | some c => !c.2 | none => false))
def oneQ (t : List Ch) (x : It) (S : Nat → Bool) : Nat → Bool
  | 0 => false
  | i + 1 => S i && (match t[i]? with | some c => fitM x c | none => false)
def stepQ (t : List Ch) (S : Nat → Bool) (x : It) : Nat → Bool := if x.1 = 3 then starQ t S else oneQ t x S
def endQ (t : List Ch) (p : List It) : Nat → Bool := p.foldl (stepQ t) (fun i => i == 0)
/-- Whether a pattern fits marked bytes. -/
def mtM (p : List It) (t : List Ch) : Bool := endQ t p t.length
/-- Whether a pattern fits bytes. -/
def mt (p : List It) (s : List UInt8) : Bool := mtM p (bareCh s)
def seg' (t : List Ch) (j n : Nat) : List Ch := (t.take n).drop j

theorem seg_split {t : List Ch} {j k n : Nat} (h1 : j ≤ k) (h2 : k ≤ n) : seg' t j n = seg' t j k ++ seg' t k n := by
  unfold seg'
  have e : t.take k = (t.take n).take k := by rw [List.take_take, Nat.min_eq_left h2]
  rw [e]
  generalize t.take n = u
  rw [List.drop_take]
  have : List.drop k u = List.drop (k - j) (List.drop j u) := by rw [List.drop_drop]; congr 1; omega
  rw [this, List.take_append_drop]
theorem seg_len {t : List Ch} {j n : Nat} (h2 : n ≤ t.length) : (seg' t j n).length = n - j := by unfold seg'; simp; omega
theorem seg_app {t : List Ch} {j n : Nat} {a b : List Ch} (h1 : j ≤ n) (h2 : n ≤ t.length) (h : seg' t j n = a ++ b) : a = seg' t j (j + a.length) ∧ b = seg' t (j + a.length) n ∧ j + a.length ≤ n := by
  have hl := congrArg List.length h
  rw [seg_len h2, List.length_append] at hl
  have hk : j + a.length ≤ n := by omega
  have hs := seg_split (t := t) (j := j) (k := j + a.length) (n := n) (by omega) hk
  rw [h] at hs
  have hlen : (seg' t j (j + a.length)).length = a.length := by rw [seg_len (by omega)]; omega
  have := List.append_inj hs hlen.symm
  exact ⟨this.1, this.2, hk⟩
theorem seg_self (t : List Ch) (j : Nat) : seg' t j j = [] := by unfold seg'; apply List.eq_nil_of_length_eq_zero; simp; try omega
theorem seg_one {t : List Ch} {j : Nat} {c : Ch} (h : t[j]? = some c) : seg' t j (j + 1) = [c] := by
  obtain ⟨hj, e⟩ := List.getElem?_eq_some_iff.1 h
  unfold seg'
  rw [List.take_succ_eq_append_getElem hj, List.drop_append_of_le_length (by simp; omega), e, List.drop_eq_nil_of_le (by simp; omega)]
  rfl

theorem starQ_iff (t : List Ch) (S : Nat → Bool) (k : Nat) (hk : k ≤ t.length) : starQ t S k = true ↔ ∃ j ≤ k, S j = true ∧ ∀ c ∈ seg' t j k, c.2 = false := by
  induction k with
  | zero =>
    simp only [starQ]
    constructor
    · intro h; exact ⟨0, Nat.le_refl _, h, by simp [seg_self]⟩
    · rintro ⟨j, hj, h, _⟩; obtain rfl : j = 0 := by omega
      exact h
  | succ k ih =>
    have hlt : k < t.length := by omega
    have hg : t[k]? = some t[k] := List.getElem?_eq_getElem hlt
    simp only [starQ, hg, Bool.or_eq_true, Bool.and_eq_true, ih (by omega)]
    constructor
    · rintro (h | ⟨⟨j, hj, hS, hc⟩, hm⟩)
      · exact ⟨k + 1, Nat.le_refl _, h, by simp [seg_self]⟩
      · refine ⟨j, by omega, hS, fun c hc' => ?_⟩
        rw [seg_split hj (Nat.le_succ k), seg_one hg, List.mem_append] at hc'
        rcases hc' with h | h
        · exact hc c h
        · rw [List.mem_singleton.1 h]; simpa using hm
    · rintro ⟨j, hj, hS, hc⟩
      rcases Nat.lt_or_ge k j with h | h
      · obtain rfl : j = k + 1 := by omega
        exact .inl hS
      · right
        rw [seg_split h (Nat.le_succ k), seg_one hg] at hc
        refine ⟨⟨j, h, hS, fun c hc' => hc c (List.mem_append_left _ hc')⟩, ?_⟩
        have := hc t[k] (by simp)
        simp [this]

theorem stepQ_iff (t : List Ch) (S : Nat → Bool) (x : It) (k : Nat) (hk : k ≤ t.length) : stepQ t S x k = true ↔ ∃ j ≤ k, S j = true ∧ one x (seg' t j k) := by
  unfold stepQ one
  split
  · exact starQ_iff t S k hk
  · cases k with
    | zero =>
      simp only [oneQ]
      constructor
      · intro h; cases h
      · rintro ⟨j, hj, _, c, h, _⟩; obtain rfl : j = 0 := by omega
        rw [seg_self] at h; cases h
    | succ k =>
      have hlt : k < t.length := by omega
      have hg : t[k]? = some t[k] := List.getElem?_eq_getElem hlt
      simp only [oneQ, hg, Bool.and_eq_true]
      constructor
      · rintro ⟨h, hf⟩; exact ⟨k, Nat.le_succ _, h, _, seg_one hg, hf⟩
      · rintro ⟨j, hj, hS, c, h, hf⟩
        have hl := congrArg List.length h
        rw [seg_len (by omega)] at hl
        simp only [List.length_cons, List.length_nil] at hl
        obtain rfl : j = k := by omega
        rw [seg_one hg] at h
        injection h with h
        subst h
        exact ⟨hS, hf⟩
theorem foldQ_iff (t : List Ch) (p : List It) (S : Nat → Bool) (n : Nat) (hn : n ≤ t.length) : p.foldl (stepQ t) S n = true ↔ ∃ k ≤ n, S k = true ∧ Fit p (seg' t k n) := by
  induction p generalizing S with
  | nil =>
    simp only [List.foldl_nil, Fit]
    constructor
    · intro h; exact ⟨n, Nat.le_refl _, h, seg_self _ _⟩
    · rintro ⟨k, hk, hS, h⟩
      have hl := congrArg List.length h
      rw [seg_len hn] at hl
      simp only [List.length_nil] at hl
      obtain rfl : k = n := by omega
      exact hS
  | cons x p ih =>
    rw [List.foldl_cons, ih]
    simp only [Fit]
    constructor
    · rintro ⟨k, hk, hS, hf⟩
      obtain ⟨j, hj, hS, ho⟩ := (stepQ_iff t S x k (by omega)).1 hS
      exact ⟨j, by omega, hS, _, _, seg_split hj hk, ho, hf⟩
    · rintro ⟨j, hj, hS, a, b, h, ho, hf⟩
      obtain ⟨ha, hb, hk⟩ := seg_app hj hn h
      refine ⟨j + a.length, hk, (stepQ_iff t S x _ (by omega)).2 ⟨j, by omega, hS, by rw [← ha]; exact ho⟩, by rw [← hb]; exact hf⟩
theorem endQ_iff (t : List Ch) (p : List It) (n : Nat) (hn : n ≤ t.length) : endQ t p n = true ↔ Fit p (t.take n) := by
  unfold endQ
  rw [foldQ_iff t p _ n hn]
  constructor
  · rintro ⟨k, hk, h0, hf⟩
    obtain rfl : k = 0 := by simpa using h0
    simpa [seg'] using hf
  · intro h; exact ⟨0, Nat.zero_le _, rfl, by simpa [seg'] using h⟩
theorem mtM_iff (p : List It) (t : List Ch) : mtM p t = true ↔ Fit p t := by
  unfold mtM
  rw [endQ_iff t p _ (Nat.le_refl _), List.take_length]
theorem mt_iff (p : List It) (s : List UInt8) : mt p s = true ↔ Fit p (bareCh s) := mtM_iff _ _
theorem bareCh_length (s : List UInt8) : (bareCh s).length = s.length := by simp [bareCh]
theorem bareCh_take (s : List UInt8) (n : Nat) : (bareCh s).take n = bareCh (s.take n) := by simp [bareCh, List.map_take]
theorem bareCh_append (s t : List UInt8) : bareCh (s ++ t) = bareCh s ++ bareCh t := by simp [bareCh]
theorem bareCh_split {s : List UInt8} {a b : List Ch} (h : bareCh s = a ++ b) : ∃ u v, s = u ++ v ∧ a = bareCh u ∧ b = bareCh v := by
  unfold bareCh at h
  obtain ⟨u, v, rfl, hu, hv⟩ := List.map_eq_append_iff.1 h
  exact ⟨u, v, rfl, hu.symm, hv.symm⟩
theorem endQ_bare (p : List It) (s : List UInt8) (n : Nat) (hn : n ≤ s.length) : endQ (bareCh s) p n = mt p (s.take n) := by
  rw [Bool.eq_iff_iff, endQ_iff _ _ _ (by rw [bareCh_length]; exact hn), mt_iff, bareCh_take]
theorem mt_reverse (p : List It) (s : List UInt8) : mt p.reverse s.reverse = mt p s := by
  rw [Bool.eq_iff_iff, mt_iff, mt_iff, show bareCh s.reverse = (bareCh s).reverse by simp [bareCh], fit_reverse]
theorem mt_append (p q : List It) (s : List UInt8) : mt (p ++ q) s = true ↔ ∃ n ≤ s.length, mt p (s.take n) = true ∧ mt q (s.drop n) = true := by
  rw [mt_iff, fit_append]
  constructor
  · rintro ⟨a, b, h, ha, hb⟩
    obtain ⟨u, v, rfl, rfl, rfl⟩ := bareCh_split h
    exact ⟨u.length, by simp, by rw [mt_iff]; simpa using ha, by rw [mt_iff]; simpa using hb⟩
  · rintro ⟨n, hn, ha, hb⟩
    exact ⟨_, _, by rw [← bareCh_append, List.take_append_drop], (mt_iff _ _).1 ha, (mt_iff _ _).1 hb⟩

/- By rows: what stands between two stars. -/
abbrev Rw := List (UInt8 → Bool)
def fitsAt : Rw → List UInt8 → Bool
  | [], _ => true
  | _ :: _, [] => false
  | f :: r, c :: s => f c && fitsAt r s
def addTo (f : UInt8 → Bool) : List Rw → List Rw
  | [] => [[f]]
  | r :: rs => (f :: r) :: rs
def rowsP : List It → List Rw
  | [] => [[]]
  | x :: p => if x.1 = 3 then [] :: rowsP p else addTo (fit x) (rowsP p)
def RowFit (r : Rw) (a : List UInt8) : Prop := a.length = r.length ∧ fitsAt r a = true
/-- Rows that float, any bytes ahead of each. -/
def LgF : List Rw → List UInt8 → Prop
  | [], a => a = []
  | r :: rs, a => ∃ v u w, a = v ++ u ++ w ∧ RowFit r u ∧ LgF rs w
def Lg : List Rw → List UInt8 → Prop
  | [], _ => False
  | r :: rs, a => ∃ u w, a = u ++ w ∧ RowFit r u ∧ LgF rs w

theorem rowsP_ne (p : List It) : rowsP p ≠ [] := by
  cases p with
  | nil => simp [rowsP]
  | cons x p =>
    simp only [rowsP]
    split
    · simp
    · cases rowsP p <;> simp [addTo]
theorem fitsAt_append (r : Rw) (u w : List UInt8) (h : u.length = r.length) : fitsAt r (u ++ w) = fitsAt r u := by
  induction r generalizing u with
  | nil => cases u <;> simp [fitsAt]
  | cons f r ih =>
    cases u with
    | nil => simp at h
    | cons c u => simp only [List.cons_append, fitsAt]; rw [ih u (by simpa using h)]
theorem rowFit_cons (f : UInt8 → Bool) (r : Rw) (a : List UInt8) : RowFit (f :: r) a ↔ ∃ c u, a = c :: u ∧ f c = true ∧ RowFit r u := by
  unfold RowFit
  constructor
  · rintro ⟨hl, hf⟩
    cases a with
    | nil => simp at hl
    | cons c u => simp only [fitsAt, Bool.and_eq_true] at hf; exact ⟨c, u, rfl, hf.1, by simpa using hl, hf.2⟩
  · rintro ⟨c, u, rfl, hc, hl, hf⟩
    exact ⟨by simp [hl], by simp [fitsAt, hc, hf]⟩
theorem fitM_bare (x : It) (c : UInt8) : fitM x (c, false) = fit x c := by simp [fitM]
theorem lg_rows (p : List It) (s : List UInt8) : Lg (rowsP p) s ↔ Fit p (bareCh s) := by
  induction p generalizing s with
  | nil =>
    simp only [rowsP, Lg, LgF, Fit, RowFit]
    constructor
    · rintro ⟨u, w, rfl, ⟨hl, _⟩, rfl⟩
      have : u = [] := List.eq_nil_of_length_eq_zero (by simpa using hl)
      subst this; rfl
    · intro h
      have : s = [] := by simpa [bareCh] using h
      subst this; exact ⟨[], [], rfl, ⟨rfl, rfl⟩, rfl⟩
  | cons x p ih =>
    simp only [rowsP, Fit, one]
    split
    · rename_i hx
      constructor
      · rintro ⟨u, w, rfl, ⟨hl, _⟩, hw⟩
        have : u = [] := List.eq_nil_of_length_eq_zero (by simpa using hl)
        subst this
        cases hp : rowsP p with
        | nil => exact absurd hp (rowsP_ne p)
        | cons r rs =>
          rw [hp] at hw
          obtain ⟨v, u, w', rfl, hr, hw⟩ := hw
          refine ⟨bareCh v, bareCh (u ++ w'), by simp [bareCh], by simp [bareCh], (ih _).1 ?_⟩
          rw [hp]; exact ⟨u, w', rfl, hr, hw⟩
      · rintro ⟨a, b, h, _, hb⟩
        obtain ⟨u, v, rfl, rfl, rfl⟩ := bareCh_split h
        refine ⟨[], u ++ v, rfl, ⟨rfl, rfl⟩, ?_⟩
        have := (ih v).2 hb
        cases hp : rowsP p with
        | nil => exact absurd hp (rowsP_ne p)
        | cons r rs =>
          rw [hp] at this
          obtain ⟨u', w', rfl, hr, hw⟩ := this
          exact ⟨u, u', w', by simp, hr, hw⟩
    · rename_i hx
      cases hp : rowsP p with
      | nil => exact absurd hp (rowsP_ne p)
      | cons r rs =>
        rw [hp] at ih
        simp only [addTo, Lg]
        constructor
        · rintro ⟨u, w, rfl, hr, hw⟩
          obtain ⟨c, u, rfl, hc, hr⟩ := (rowFit_cons _ _ _).1 hr
          exact ⟨[(c, false)], bareCh (u ++ w), by simp [bareCh], ⟨_, rfl, by rw [fitM_bare]; exact hc⟩, (ih _).1 ⟨u, w, rfl, hr, hw⟩⟩
        · rintro ⟨a, b, h, ⟨c, rfl, hc⟩, hb⟩
          obtain ⟨u, v, rfl, hu, rfl⟩ := bareCh_split h
          obtain ⟨u', w', rfl, hr, hw⟩ := (ih v).2 hb
          match u, hu with
          | [d], hu =>
            simp only [bareCh, List.map_cons, List.map_nil, List.cons.injEq, and_true] at hu
            subst hu
            rw [fitM_bare] at hc
            exact ⟨d :: u', w', by simp, (rowFit_cons _ _ _).2 ⟨d, u', rfl, hc, hr⟩, hw⟩
theorem addTo_append (f : UInt8 → Bool) (a b : List Rw) (h : a ≠ []) : addTo f (a ++ b) = addTo f a ++ b := by
  cases a with
  | nil => exact absurd rfl h
  | cons r rs => rfl
theorem rowsP_star (p : List It) (x : It) (hx : x.1 = 3) : rowsP (p ++ [x]) = rowsP p ++ [[]] := by
  induction p with
  | nil => simp [rowsP, hx]
  | cons y p ih =>
    simp only [List.cons_append, rowsP, ih]
    split
    · rfl
    · rw [addTo_append _ _ _ (rowsP_ne p)]
/-- The last row, longer by one. -/
def growLast (f : UInt8 → Bool) : List Rw → List Rw
  | [] => []
  | [r] => [r ++ [f]]
  | r :: r' :: rs => r :: growLast f (r' :: rs)
theorem growLast_cons (f : UInt8 → Bool) (r : Rw) (rs : List Rw) (h : rs ≠ []) : growLast f (r :: rs) = r :: growLast f rs := by
  cases rs with
  | nil => exact absurd rfl h
  | cons a l => rfl
theorem growLast_snoc (f : UInt8 → Bool) (l : List Rw) (r : Rw) : growLast f (l ++ [r]) = l ++ [r ++ [f]] := by
  induction l with
  | nil => rfl
  | cons a l ih => rw [List.cons_append, growLast_cons _ _ _ (by simp), ih]; rfl
theorem growLast_addTo (f g : UInt8 → Bool) (l : List Rw) (h : l ≠ []) : growLast f (addTo g l) = addTo g (growLast f l) := by
  match l, h with
  | [r], _ => rfl
  | r :: r' :: rs, _ => rfl
theorem growLast_ne (f : UInt8 → Bool) (l : List Rw) (h : l ≠ []) : growLast f l ≠ [] := by
  match l, h with
  | [r], _ => simp [growLast]
  | r :: r' :: rs, _ => simp [growLast]
theorem rowsP_item (p : List It) (x : It) (hx : ¬ x.1 = 3) : rowsP (p ++ [x]) = growLast (fit x) (rowsP p) := by
  induction p with
  | nil => simp [rowsP, hx, addTo, growLast]
  | cons y p ih =>
    simp only [List.cons_append, rowsP, ih]
    split
    · rw [growLast_cons _ _ _ (rowsP_ne p)]
    · rw [growLast_addTo _ _ _ (rowsP_ne p)]

/- The quick search. -/
/-- The first place of s, from k on, at which a row fits (fuel: how many places). -/
def firstP (r : Rw) (s : List UInt8) : Nat → Nat → Option Nat
  | 0, _ => none
  | f + 1, k => if fitsAt r (s.drop k) then some k else firstP r s f (k + 1)
def lastP (r : Rw) (s : List UInt8) : Nat → Option Nat
  | 0 => none
  | f + 1 => if fitsAt r (s.drop f) then some f else lastP r s f
def placeP (r : Rw) (s : List UInt8) (last : Bool) : Option Nat :=
  if s.length < r.length then none else if last then lastP r s (s.length - r.length + 1) else firstP r s (s.length - r.length + 1) 0
def greed : List Rw → List UInt8 → Bool → Option Nat
  | [], _, _ => some 0
  | r :: rs, s, lg => match placeP r s (lg && rs.isEmpty) with
    | none => none
    | some m => (greed rs (s.drop (m + r.length)) lg).map (· + (m + r.length))
def headP (l : List Rw) (s : List UInt8) (lg : Bool) : Option Nat :=
  match l with
  | [] => none
  | r :: rs => if r.length ≤ s.length ∧ fitsAt r s = true then (greed rs (s.drop r.length) lg).map (· + r.length) else none

theorem fitsAt_len (r : Rw) (s : List UInt8) (h : fitsAt r s = true) : r.length ≤ s.length := by
  induction r generalizing s with
  | nil => simp
  | cons f r ih =>
    cases s with
    | nil => simp [fitsAt] at h
    | cons c s => simp only [fitsAt, Bool.and_eq_true] at h; have := ih s h.2; simp; omega
theorem fitsAt_take (r : Rw) (s : List UInt8) : fitsAt r (s.take r.length) = fitsAt r s := by
  by_cases h : r.length ≤ s.length
  · conv => rhs; rw [← List.take_append_drop r.length s]
    rw [fitsAt_append _ _ _ (by simp; omega)]
  · rw [List.take_of_length_le (by omega)]
theorem rowFit_take (r : Rw) (s : List UInt8) (h : fitsAt r s = true) : RowFit r (s.take r.length) :=
  ⟨by have := fitsAt_len r s h; simp; omega, by rw [fitsAt_take]; exact h⟩
theorem firstP_some {r : Rw} {s : List UInt8} {f k m : Nat} (h : firstP r s f k = some m) : k ≤ m ∧ m < k + f ∧ fitsAt r (s.drop m) = true ∧ ∀ j, k ≤ j → j < m → fitsAt r (s.drop j) = false := by
  induction f generalizing k with
  | zero => cases h
  | succ f ih =>
    simp only [firstP] at h
    split at h
    · injection h with h; subst h; rename_i hf; exact ⟨Nat.le_refl _, by omega, hf, fun j h1 h2 => absurd h2 (by omega)⟩
    · obtain ⟨h1, h2, h3, h4⟩ := ih h
      rename_i hf
      refine ⟨by omega, by omega, h3, fun j hj hm => ?_⟩
      rcases Nat.lt_or_ge k j with h' | h'
      · exact h4 j (by omega) hm
      · obtain rfl : j = k := by omega
        simpa using hf
theorem firstP_none {r : Rw} {s : List UInt8} {f k : Nat} (h : firstP r s f k = none) : ∀ j, k ≤ j → j < k + f → fitsAt r (s.drop j) = false := by
  induction f generalizing k with
  | zero => intro j h1 h2; omega
  | succ f ih =>
    simp only [firstP] at h
    split at h
    · cases h
    · rename_i hf
      intro j h1 h2
      rcases Nat.lt_or_ge k j with h' | h'
      · exact ih h j (by omega) (by omega)
      · obtain rfl : j = k := by omega
        simpa using hf
theorem lastP_some {r : Rw} {s : List UInt8} {f m : Nat} (h : lastP r s f = some m) : m < f ∧ fitsAt r (s.drop m) = true ∧ ∀ j, m < j → j < f → fitsAt r (s.drop j) = false := by
  induction f with
  | zero => cases h
  | succ f ih =>
    simp only [lastP] at h
    split at h
    · injection h with h; subst h; rename_i hf; exact ⟨by omega, hf, fun j h1 h2 => absurd h2 (by omega)⟩
    · obtain ⟨h1, h2, h3⟩ := ih h
      rename_i hf
      refine ⟨by omega, h2, fun j hj hm => ?_⟩
      rcases Nat.lt_or_ge j f with h' | h'
      · exact h3 j hj h'
      · obtain rfl : j = f := by omega
        simpa using hf
theorem lastP_none {r : Rw} {s : List UInt8} {f : Nat} (h : lastP r s f = none) : ∀ j, j < f → fitsAt r (s.drop j) = false := by
  induction f with
  | zero => intro j h2; omega
  | succ f ih =>
    simp only [lastP] at h
    split at h
    · cases h
    · rename_i hf
      intro j h2
      rcases Nat.lt_or_ge j f with h' | h'
      · exact ih h j h'
      · obtain rfl : j = f := by omega
        simpa using hf
theorem fits_room {r : Rw} {s : List UInt8} {j : Nat} (hj : j ≤ s.length) (h : fitsAt r (s.drop j) = true) : r.length ≤ s.length ∧ j < s.length - r.length + 1 := by
  have := fitsAt_len _ _ h
  simp at this
  omega
theorem placeP_some {r : Rw} {s : List UInt8} {last : Bool} {m : Nat} (h : placeP r s last = some m) : m + r.length ≤ s.length ∧ fitsAt r (s.drop m) = true ∧ (∀ j, j ≤ s.length → fitsAt r (s.drop j) = true → if last then j ≤ m else m ≤ j) := by
  unfold placeP at h
  split at h
  · cases h
  · rename_i hl
    cases last with
    | true =>
      simp only [if_true] at h
      obtain ⟨h1, h2, h3⟩ := lastP_some h
      refine ⟨by omega, h2, fun j hj hf => ?_⟩
      simp only [if_true]
      have := fits_room hj hf
      rcases Nat.lt_or_ge m j with h' | h'
      · have := h3 j h' (by omega); rw [hf] at this; cases this
      · exact h'
    | false =>
      simp only [Bool.false_eq_true, if_false] at h
      obtain ⟨h1, h2, h3, h4⟩ := firstP_some h
      refine ⟨by omega, h3, fun j hj hf => ?_⟩
      simp only [Bool.false_eq_true, if_false]
      rcases Nat.lt_or_ge j m with h' | h'
      · have := h4 j (by omega) h'; rw [hf] at this; cases this
      · exact h'
theorem placeP_none {r : Rw} {s : List UInt8} {last : Bool} (h : placeP r s last = none) : ∀ j, j ≤ s.length → fitsAt r (s.drop j) = false := by
  intro j hj
  rw [Bool.eq_false_iff]
  intro hf
  have := fits_room hj hf
  unfold placeP at h
  rw [if_neg (by omega)] at h
  cases last with
  | true => have := lastP_none (by simpa using h) j (by omega); rw [hf] at this; cases this
  | false => have := firstP_none (by simpa using h) j (by omega) (by omega); rw [hf] at this; cases this
theorem lgF_absorb (rs : List Rw) (h : rs ≠ []) (x w : List UInt8) (hw : LgF rs w) : LgF rs (x ++ w) := by
  cases rs with
  | nil => exact absurd rfl h
  | cons r rs =>
    obtain ⟨v, u, w', rfl, hr, hw⟩ := hw
    exact ⟨x ++ v, u, w', by simp, hr, hw⟩
theorem lgF_take {r : Rw} {rs : List Rw} {s : List UInt8} {k : Nat} (hk : k ≤ s.length) (h : LgF (r :: rs) (s.take k)) : ∃ m, m + r.length ≤ k ∧ fitsAt r (s.drop m) = true ∧ LgF rs ((s.drop (m + r.length)).take (k - (m + r.length))) := by
  obtain ⟨v, u, w, h, hr, hw⟩ := h
  have hl := congrArg List.length h
  simp only [List.length_take, List.length_append] at hl
  have hul := hr.1
  have hs : s = v ++ (u ++ (w ++ s.drop k)) := by
    conv => lhs; rw [← List.take_append_drop k s, h]
    simp
  refine ⟨v.length, by omega, ?_, ?_⟩
  · rw [hs, List.drop_left, fitsAt_append _ _ _ hul]
    exact hr.2
  · have e : s.drop (v.length + r.length) = w ++ s.drop k := by
      conv => lhs; rw [hs, ← List.append_assoc]
      rw [List.drop_left' (by simp [hul])]
    rw [e, List.take_left' (by omega)]
    exact hw
theorem lgF_mk {r : Rw} {rs : List Rw} {s : List UInt8} {k m : Nat} (_hk : k ≤ s.length) (hm : m + r.length ≤ k) (hf : fitsAt r (s.drop m) = true) (hw : LgF rs ((s.drop (m + r.length)).take (k - (m + r.length)))) : LgF (r :: rs) (s.take k) := by
  refine ⟨s.take m, (s.drop m).take r.length, _, ?_, rowFit_take _ _ hf, hw⟩
  rw [← List.take_add, ← List.take_add]
  congr 1; omega
/-- What the quick search answers: a beginning that is fitted, and the shortest (longest) one; none, if none is. -/
theorem greed_spec (rs : List Rw) (s : List UInt8) (lg : Bool) :
    (∀ n, greed rs s lg = some n → n ≤ s.length ∧ LgF rs (s.take n) ∧ ∀ k, k ≤ s.length → LgF rs (s.take k) → if lg then k ≤ n else n ≤ k) ∧
    (greed rs s lg = none → ∀ k, k ≤ s.length → ¬ LgF rs (s.take k)) := by
  induction rs generalizing s with
  | nil =>
    constructor
    · intro n h
      injection h with h; subst h
      refine ⟨Nat.zero_le _, by simp [LgF], fun k hk h => ?_⟩
      have : k = 0 := by
        have := congrArg List.length (show s.take k = [] from h)
        simp at this
        rcases this with h | h
        · exact h
        · subst h; simpa using hk
      subst this; split <;> omega
    · intro h; cases h
  | cons r rs ih =>
    simp only [greed]
    constructor
    · intro n h
      cases hp : placeP r s (lg && rs.isEmpty) with
      | none => rw [hp] at h; cases h
      | some m =>
        rw [hp] at h
        simp only [Option.map_eq_some_iff] at h
        obtain ⟨n', hg, rfl⟩ := h
        obtain ⟨h1, h2, h3⟩ := placeP_some hp
        obtain ⟨g1, g2, g3⟩ := (ih (s.drop (m + r.length))).1 n' hg
        simp only [List.length_drop] at g1 g3
        refine ⟨by omega, lgF_mk (m := m) (by omega) (by omega) h2 (by rw [show n' + (m + r.length) - (m + r.length) = n' by omega]; exact g2), fun k hk hf => ?_⟩
        obtain ⟨m', hm', hf', hw⟩ := lgF_take hk hf
        have hmm := h3 m' (by omega) hf'
        cases rs with
        | nil =>
          have hz : k = m' + r.length := by
            have := congrArg List.length (show _ = [] from hw)
            simp at this
            omega
          have hn' : n' = 0 := by simp only [greed] at hg; injection hg with hg; exact hg.symm
          subst hn' hz
          cases lg <;> simp at hmm ⊢ <;> omega
        | cons r2 rs =>
          have hmm' : m ≤ m' := by cases lg <;> simpa using hmm
          have hw2 : LgF (r2 :: rs) ((s.drop (m + r.length)).take (k - (m + r.length))) := by
            have := lgF_absorb (r2 :: rs) (by simp) ((s.drop (m + r.length)).take (m' - m)) _ hw
            have e : s.drop (m' + r.length) = (s.drop (m + r.length)).drop (m' - m) := by rw [List.drop_drop]; congr 1; omega
            rw [e, ← List.take_add, show m' - m + (k - (m' + r.length)) = k - (m + r.length) by omega] at this
            exact this
          have := g3 (k - (m + r.length)) (by omega) hw2
          cases lg <;> simp at this ⊢ <;> omega
    · intro h k hk hf
      obtain ⟨m', hm', hf', hw⟩ := lgF_take hk hf
      cases hp : placeP r s (lg && rs.isEmpty) with
      | none =>
        have := placeP_none hp m' (by omega)
        rw [hf'] at this; cases this
      | some m =>
        rw [hp] at h
        simp only [Option.map_eq_none_iff] at h
        obtain ⟨h1, h2, h3⟩ := placeP_some hp
        have hmm := h3 m' (by omega) hf'
        cases rs with
        | nil => simp [greed] at h
        | cons r2 rs =>
          have hmm' : m ≤ m' := by cases lg <;> simpa using hmm
          have hw2 : LgF (r2 :: rs) ((s.drop (m + r.length)).take (k - (m + r.length))) := by
            have := lgF_absorb (r2 :: rs) (by simp) ((s.drop (m + r.length)).take (m' - m)) _ hw
            have e : s.drop (m' + r.length) = (s.drop (m + r.length)).drop (m' - m) := by rw [List.drop_drop]; congr 1; omega
            rw [e, ← List.take_add, show m' - m + (k - (m' + r.length)) = k - (m + r.length) by omega] at this
            exact this
          exact (ih (s.drop (m + r.length))).2 h (k - (m + r.length)) (by simp; omega) hw2
theorem lg_take {r : Rw} {rs : List Rw} {s : List UInt8} {k : Nat} (hk : k ≤ s.length) : Lg (r :: rs) (s.take k) ↔ r.length ≤ k ∧ fitsAt r s = true ∧ LgF rs ((s.drop r.length).take (k - r.length)) := by
  constructor
  · rintro ⟨u, w, h, hr, hw⟩
    have h' : LgF (r :: rs) (s.take k) := ⟨[], u, w, by simpa using h, hr, hw⟩
    have hl := congrArg List.length h
    simp only [List.length_take, List.length_append] at hl
    have hul := hr.1
    have hs : s = u ++ (w ++ s.drop k) := by
      conv => lhs; rw [← List.take_append_drop k s, h]
      simp
    refine ⟨by omega, ?_, ?_⟩
    · rw [hs, fitsAt_append _ _ _ hul]; exact hr.2
    · have e : s.drop r.length = w ++ s.drop k := by
        conv => lhs; rw [hs]
        rw [List.drop_left' hul]
      rw [e, List.take_left' (by omega)]
      exact hw
  · rintro ⟨h1, h2, h3⟩
    refine ⟨s.take r.length, _, ?_, rowFit_take _ _ h2, h3⟩
    rw [← List.take_add]
    congr 1; omega
theorem headP_spec (l : List Rw) (hl : l ≠ []) (s : List UInt8) (lg : Bool) :
    (∀ n, headP l s lg = some n → n ≤ s.length ∧ Lg l (s.take n) ∧ ∀ k, k ≤ s.length → Lg l (s.take k) → if lg then k ≤ n else n ≤ k) ∧
    (headP l s lg = none → ∀ k, k ≤ s.length → ¬ Lg l (s.take k)) := by
  cases l with
  | nil => exact absurd rfl hl
  | cons r rs =>
    obtain ⟨G1, G2⟩ := greed_spec rs (s.drop r.length) lg
    simp only [headP]
    constructor
    · intro n h
      split at h
      · rename_i hc
        simp only [Option.map_eq_some_iff] at h
        obtain ⟨n', hg, rfl⟩ := h
        obtain ⟨g1, g2, g3⟩ := G1 n' hg
        simp only [List.length_drop] at g1 g3
        refine ⟨by omega, (lg_take (by omega)).2 ⟨by omega, hc.2, by rw [Nat.add_sub_cancel]; exact g2⟩, fun k hk hf => ?_⟩
        obtain ⟨h1, h2, h3⟩ := (lg_take hk).1 hf
        have := g3 (k - r.length) (by omega) h3
        cases lg <;> simp at this ⊢ <;> omega
      · cases h
    · intro h k hk hf
      obtain ⟨h1, h2, h3⟩ := (lg_take hk).1 hf
      rw [if_pos ⟨fitsAt_len _ _ h2, h2⟩] at h
      simp only [Option.map_eq_none_iff] at h
      exact G2 h (k - r.length) (by simp; omega) h3
theorem lgF_snoc (rs : List Rw) (r : Rw) (a : List UInt8) : LgF (rs ++ [r]) a ↔ ∃ w v u, a = w ++ v ++ u ∧ LgF rs w ∧ RowFit r u := by
  induction rs generalizing a with
  | nil =>
    simp only [List.nil_append, LgF]
    constructor
    · rintro ⟨v, u, w, rfl, hr, rfl⟩; exact ⟨[], v, u, by simp, rfl, hr⟩
    · rintro ⟨w, v, u, rfl, rfl, hr⟩; exact ⟨v, u, [], by simp, hr, rfl⟩
  | cons r0 rs ih =>
    simp only [List.cons_append, LgF]
    constructor
    · rintro ⟨v, u, w, rfl, hr, hw⟩
      obtain ⟨w', v', u', rfl, hw', hr'⟩ := (ih w).1 hw
      exact ⟨v ++ u ++ w', v', u', by simp, ⟨v, u, w', rfl, hr, hw'⟩, hr'⟩
    · rintro ⟨_, v', u', rfl, ⟨v, u, w', rfl, hr, hw'⟩, hr'⟩
      exact ⟨v, u, w' ++ v' ++ u', by simp, hr, (ih _).2 ⟨w', v', u', rfl, hw', hr'⟩⟩
theorem lg_snoc (l : List Rw) (hl : l ≠ []) (r : Rw) (a : List UInt8) : Lg (l ++ [r]) a ↔ ∃ w v u, a = w ++ v ++ u ∧ Lg l w ∧ RowFit r u := by
  cases l with
  | nil => exact absurd rfl hl
  | cons r0 rs =>
    simp only [List.cons_append, Lg, lgF_snoc]
    constructor
    · rintro ⟨u, w, rfl, hr, w', v', u', rfl, hw', hr'⟩
      exact ⟨u ++ w', v', u', by simp, ⟨u, w', rfl, hr, hw'⟩, hr'⟩
    · rintro ⟨_, v', u', rfl, ⟨u, w', rfl, hr, hw'⟩, hr'⟩
      exact ⟨u, w' ++ v' ++ u', by simp, hr, w', v', u', rfl, hw', hr'⟩
/-- What whole answers. -/
def wholeP (l : List Rw) (s : List UInt8) : Bool :=
  match l.getLast? with
  | none => false
  | some r => decide (r.length ≤ s.length) && fitsAt r (s.drop (s.length - r.length)) && (if l.length = 1 then decide (s.length = r.length) else (headP l.dropLast (s.take (s.length - r.length)) false).isSome)
theorem wholeP_iff (l : List Rw) (s : List UInt8) : wholeP l s = true ↔ Lg l s := by
  rcases List.eq_nil_or_concat l with rfl | ⟨l, r, rfl⟩
  · simp [wholeP, Lg]
  · simp only [List.concat_eq_append, wholeP, List.getLast?_append, List.getLast?_singleton, Option.some_or, List.dropLast_concat, List.length_append, List.length_singleton, Bool.and_eq_true, decide_eq_true_eq]
    by_cases hl : l = []
    · subst hl
      simp only [List.length_nil, Nat.zero_add, if_true, decide_eq_true_eq, List.nil_append, Lg, LgF]
      constructor
      · rintro ⟨⟨h1, h2⟩, h3⟩
        rw [h3, Nat.sub_self, List.drop_zero] at h2
        exact ⟨s, [], by simp, ⟨h3, h2⟩, rfl⟩
      · rintro ⟨u, w, rfl, ⟨h1, h2⟩, rfl⟩
        simp [h1, h2]
    · have hn : ¬ l.length + 1 = 1 := fun h => hl (List.eq_nil_of_length_eq_zero (by omega))
      rw [if_neg hn, lg_snoc l hl]
      obtain ⟨H1, H2⟩ := headP_spec l hl (s.take (s.length - r.length)) false
      constructor
      · rintro ⟨⟨h1, h2⟩, h3⟩
        obtain ⟨n, hn⟩ := Option.isSome_iff_exists.1 h3
        obtain ⟨g1, g2, _⟩ := H1 n hn
        refine ⟨_, (s.take (s.length - r.length)).drop n, s.drop (s.length - r.length), ?_, g2, ?_, h2⟩
        · rw [List.take_append_drop, List.take_append_drop]
        · simp; omega
      · rintro ⟨w, v, u, rfl, hw, hu, hr⟩
        have e1 : (w ++ v ++ u).length - r.length = (w ++ v).length := by simp; omega
        rw [e1, List.drop_left]
        rw [e1, List.take_left] at H1 H2
        rw [List.take_left]
        refine ⟨⟨by simp; omega, hr⟩, ?_⟩
        cases hnone : headP l (w ++ v) false with
        | some _ => rfl
        | none => exact absurd (by rw [List.take_left]; exact hw) (H2 hnone w.length (by simp))
theorem wholeP_mt (p : List It) (s : List UInt8) : wholeP (rowsP p) s = mt p s := by
  rw [Bool.eq_iff_iff, wholeP_iff, lg_rows, mt_iff]

/- Heads and tails as numbers. -/
def optI : Option Nat → Int
  | none => -1
  | some n => n
/-- The last (or first) number below n that holds; -1, if none does. -/
def pickI (f : Nat → Bool) (lg : Bool) : Nat → Int
  | 0 => -1
  | n + 1 => if f n && (lg || decide (pickI f lg n < 0)) then (n : Int) else pickI f lg n
theorem pickI_lt (f : Nat → Bool) (lg : Bool) (n : Nat) : pickI f lg n < n := by
  induction n with
  | zero => simp [pickI]
  | succ n ih => simp only [pickI]; split <;> omega
theorem pickI_spec (f : Nat → Bool) (lg : Bool) (n : Nat) : (pickI f lg n = -1 ∧ ∀ k < n, f k = false) ∨ ∃ m < n, pickI f lg n = (m : Int) ∧ f m = true ∧ ∀ k < n, f k = true → if lg then k ≤ m else m ≤ k := by
  induction n with
  | zero => exact .inl ⟨rfl, fun k h => absurd h (Nat.not_lt_zero _)⟩
  | succ n ih =>
    simp only [pickI]
    rcases ih with ⟨h1, h2⟩ | ⟨m, hm, h1, h2, h3⟩
    · rw [h1]
      cases hf : f n with
      | true =>
        right
        refine ⟨n, by omega, by simp, hf, fun k hk hfk => ?_⟩
        rcases Nat.lt_or_ge k n with h | h
        · rw [h2 k h] at hfk; cases hfk
        · obtain rfl : k = n := by omega
          split <;> omega
      | false =>
        left
        refine ⟨by simp, fun k hk => ?_⟩
        rcases Nat.lt_or_ge k n with h | h
        · exact h2 k h
        · obtain rfl : k = n := by omega
          exact hf
    · rw [h1]
      right
      have hneg : ¬ ((m : Int) < 0) := by omega
      cases hf : f n with
      | false =>
        refine ⟨m, by omega, by simp, h2, fun k hk hfk => ?_⟩
        rcases Nat.lt_or_ge k n with h | h
        · exact h3 k h hfk
        · obtain rfl : k = n := by omega
          rw [hf] at hfk; cases hfk
      | true =>
        cases lg with
        | true =>
          refine ⟨n, by omega, by simp, hf, fun k hk hfk => ?_⟩
          simp only [if_true]; omega
        | false =>
          refine ⟨m, by omega, by simp [hneg], h2, fun k hk hfk => ?_⟩
          rcases Nat.lt_or_ge k n with h | h
          · exact h3 k h hfk
          · simp only [Bool.false_eq_true, if_false]; omega
/-- How long the shortest (longest) beginning is that a pattern fits; -1, if none. -/
def headI (p : List It) (s : List UInt8) (lg : Bool) : Int := pickI (fun n => mt p (s.take n)) lg (s.length + 1)
def tailI (p : List It) (s : List UInt8) (lg : Bool) : Int := pickI (fun n => mt p (s.drop (s.length - n))) lg (s.length + 1)
theorem headP_headI (p : List It) (s : List UInt8) (lg : Bool) : optI (headP (rowsP p) s lg) = headI p s lg := by
  obtain ⟨H1, H2⟩ := headP_spec (rowsP p) (rowsP_ne p) s lg
  have hm : ∀ k, mt p (s.take k) = true ↔ Lg (rowsP p) (s.take k) := fun k => by rw [lg_rows, mt_iff]
  unfold headI
  rcases pickI_spec (fun n => mt p (s.take n)) lg (s.length + 1) with ⟨h1, h2⟩ | ⟨m, hm1, h1, h2, h3⟩
  · rw [h1]
    cases hh : headP (rowsP p) s lg with
    | none => rfl
    | some n =>
      obtain ⟨g1, g2, _⟩ := H1 n hh
      have h4 : mt p (s.take n) = false := h2 n (by omega)
      rw [(hm n).2 g2] at h4; cases h4
  · rw [h1]
    cases hh : headP (rowsP p) s lg with
    | none => exact absurd ((hm m).1 h2) (H2 hh m (by omega))
    | some n =>
      obtain ⟨g1, g2, g3⟩ := H1 n hh
      have a1 := g3 m (by omega) ((hm m).1 h2)
      have a2 := h3 n (by omega) ((hm n).2 g2)
      simp only [optI]
      cases lg <;> simp at a1 a2 <;> omega
theorem tail_head (p : List It) (s : List UInt8) (lg : Bool) : headI p.reverse s.reverse lg = tailI p s lg := by
  unfold headI tailI
  rw [List.length_reverse]
  congr 1
  funext n
  rw [← mt_reverse p.reverse, List.reverse_reverse]
  congr 1
  rw [List.reverse_take, List.reverse_reverse, List.length_reverse]
end Go.Proofs.YtmoihdddmeienaaDoor
