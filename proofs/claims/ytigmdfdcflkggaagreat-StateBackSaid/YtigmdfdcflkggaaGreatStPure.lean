/-
  What a state knows, without memory: its maps, options and arguments; notes, and what goes back by them; marks. Conditions: none.
-/
import Derived.Test.YtigmdfdcflkggaaGreatStMem
namespace Go.Proofs.YtigmdfdcflkggaaGreat
open Go Go.RowKit

/-- What is given: a slice, the cursor, and which texts the slice has. -/
structure Gv where
  A : Option Addr
  n : Nat
  c : Nat
  a : Int
  i : Int
  l : List ByteArray
/-- What a state knows. -/
structure Sta where
  v : ByteArray → Option Vr
  f : ByteArray → Option Nd
  a : ByteArray → Option ByteArray
  t : ByteArray → Option ByteArray
  o : ByteArray
  g : Gv
/-- What is to be done. -/
inductive Nt where
  | v (k : ByteArray) (x : Option Vr)
  | f (k : ByteArray) (x : Option Nd)
  | a (k : ByteArray) (x : Option ByteArray)
  | t (k : ByteArray) (x : Option ByteArray)
  | o (s : ByteArray)
  | g (x : Gv)
def updF {α : Type} (f : ByteArray → Option α) (k : ByteArray) (x : Option α) : ByteArray → Option α := fun j => if j = k then x else f j
theorem updF_back {α : Type} (f : ByteArray → Option α) (k : ByteArray) (y : Option α) : updF (updF f k y) k (f k) = f := by
  funext j
  unfold updF
  by_cases h : j = k
  · rw [if_pos h, h]
  · rw [if_neg h, if_neg h]
def apN : Nt → Sta → Sta
  | .v k x, s => { s with v := updF s.v k x }
  | .f k x, s => { s with f := updF s.f k x }
  | .a k x, s => { s with a := updF s.a k x }
  | .t k x, s => { s with t := updF s.t k x }
  | .o x, s => { s with o := x }
  | .g x, s => { s with g := x }
theorem ap_v (s : Sta) (k : ByteArray) (y : Option Vr) : apN (.v k (s.v k)) { s with v := updF s.v k y } = s := by
  show { s with v := updF (updF s.v k y) k (s.v k) } = s
  rw [updF_back]
theorem ap_f (s : Sta) (k : ByteArray) (y : Option Nd) : apN (.f k (s.f k)) { s with f := updF s.f k y } = s := by
  show { s with f := updF (updF s.f k y) k (s.f k) } = s
  rw [updF_back]
theorem ap_a (s : Sta) (k : ByteArray) (y : Option ByteArray) : apN (.a k (s.a k)) { s with a := updF s.a k y } = s := by
  show { s with a := updF (updF s.a k y) k (s.a k) } = s
  rw [updF_back]
theorem ap_t (s : Sta) (k : ByteArray) (y : Option ByteArray) : apN (.t k (s.t k)) { s with t := updF s.t k y } = s := by
  show { s with t := updF (updF s.t k y) k (s.t k) } = s
  rw [updF_back]
theorem ap_o (s : Sta) (x : ByteArray) : apN (.o s.o) { s with o := x } = s := rfl
theorem ap_g (s : Sta) (x : Gv) : apN (.g s.g) { s with g := x } = s := rfl
/-- Notes are done from the last one on. -/
def back (ns : List Nt) (st : Sta) : Sta := ns.foldr apN st
theorem back_app (a b : List Nt) (st : Sta) : back (a ++ b) st = back a (back b st) := by unfold back; exact List.foldr_append
theorem back_one (n : Nt) (st : Sta) : back [n] st = apN n st := rfl
def KF {α : Type} (P : α → Prop) (f : ByteArray → Option α) : Prop := ∀ k x, f k = some x → k.size ≤ 200 ∧ P x
theorem KF.upd {α : Type} {P : α → Prop} {f : ByteArray → Option α} (h : KF P f) {k : ByteArray} {x : Option α} (hk : ∀ y, x = some y → k.size ≤ 200 ∧ P y) : KF P (updF f k x) := by
  intro j y hj
  unfold updF at hj
  split at hj
  · rename_i e; rw [e]; exact hk y hj
  · exact h j y hj
/-- Keys are short. -/
structure KB (s : Sta) : Prop where
  v : KF (fun x : Vr => x.v.size ≤ 5000) s.v
  f : KF (fun _ => True) s.f
  a : KF (fun _ => True) s.a
  t : KF (fun _ => True) s.t
def NB : Nt → Prop
  | .v k x => ∀ y, x = some y → k.size ≤ 200 ∧ y.v.size ≤ 5000
  | .f k x => ∀ y, x = some y → k.size ≤ 200 ∧ True
  | .a k x => ∀ y, x = some y → k.size ≤ 200 ∧ True
  | .t k x => ∀ y, x = some y → k.size ≤ 200 ∧ True
  | _ => True
theorem KB.ap {st : Sta} (h : KB st) {n : Nt} (hn : NB n) : KB (apN n st) := by
  cases n with
  | v k x => exact ⟨h.v.upd hn, h.f, h.a, h.t⟩
  | f k x => exact ⟨h.v, h.f.upd hn, h.a, h.t⟩
  | a k x => exact ⟨h.v, h.f, h.a.upd hn, h.t⟩
  | t k x => exact ⟨h.v, h.f, h.a, h.t.upd hn⟩
  | o s => exact ⟨h.v, h.f, h.a, h.t⟩
  | g s => exact ⟨h.v, h.f, h.a, h.t⟩
theorem KB.back {st : Sta} (h : KB st) {ns : List Nt} (hn : ∀ n ∈ ns, NB n) : KB (back ns st) := by
  induction ns with
  | nil => exact h
  | cons n ns ih => exact (ih fun m hm => hn m (List.mem_cons_of_mem _ hm)).ap (hn n (List.mem_cons_self ..))
/-- What there is, what is noted, and what there was at each mark. -/
structure Tg where
  most : Nat
  nest : Nat
  cur : Sta
  ns : List Nt
  was : List (Nat × Sta)
structure Tg.Good (t : Tg) : Prop where
  pos : ∀ p ∈ t.was, p.1 ≤ t.ns.length
  bk : ∀ p ∈ t.was, back (t.ns.drop p.1) t.cur = p.2
  mono : t.was.Pairwise (fun a b => a.1 ≤ b.1)
  none : t.was = [] → t.ns = []
  first : ∀ p, t.was.head? = some p → p.1 = 0
  nest1 : t.was.length ≤ t.nest
  most1 : t.ns.length ≤ t.most
  kb : KB t.cur
  nb : ∀ n ∈ t.ns, NB n
def Tg.full (t : Tg) : Prop := t.was ≠ [] ∧ t.ns.length = t.most
instance (t : Tg) : Decidable t.full := by unfold Tg.full; infer_instance
/-- One note more, and what there is behind it. -/
def Tg.noted (t : Tg) (n : Nt) (st : Sta) : Tg := { t with cur := st, ns := if t.was = [] then t.ns else t.ns ++ [n] }
theorem Tg.Good.noted {t : Tg} (h : t.Good) (hf : ¬ t.full) {n : Nt} {st : Sta} (hn : apN n st = t.cur) (hk : KB st) (hb : NB n) : (t.noted n st).Good := by
  by_cases hw : t.was = []
  · have e : t.noted n st = { t with cur := st } := by unfold Tg.noted; rw [if_pos hw]
    rw [e]
    exact ⟨h.pos, fun p hp => (by simp only [hw] at hp; cases hp), h.mono, h.none, h.first, h.nest1, h.most1, hk, h.nb⟩
  · have e : t.noted n st = { t with cur := st, ns := t.ns ++ [n] } := by unfold Tg.noted; rw [if_neg hw]
    rw [e]
    refine ⟨fun p hp => ?_, fun p hp => ?_, h.mono, fun e => absurd e hw, h.first, h.nest1, ?_, hk, fun m hm => ?_⟩
    · have := h.pos p hp
      simp only [List.length_append]; omega
    · show back ((t.ns ++ [n]).drop p.1) st = p.2
      rw [List.drop_append_of_le_length (h.pos p hp), back_app, back_one, hn]
      exact h.bk p hp
    · have h1 := h.most1
      have : t.ns.length ≠ t.most := fun e => hf ⟨hw, e⟩
      simp only [List.length_append, List.length_cons, List.length_nil]; omega
    · rcases List.mem_append.1 hm with hm | hm
      · exact h.nb m hm
      · rw [List.mem_singleton.1 hm]; exact hb
def Tg.marked (t : Tg) : Tg := { t with was := t.was ++ [(t.ns.length, t.cur)] }
theorem Tg.Good.marked {t : Tg} (h : t.Good) (hf : t.was.length < t.nest) : t.marked.Good := by
  refine ⟨fun p hp => ?_, fun p hp => ?_, ?_, fun e => ?_, fun p hp => ?_, ?_, h.most1, h.kb, h.nb⟩
  · rcases List.mem_append.1 hp with hp | hp
    · exact h.pos p hp
    · rw [List.mem_singleton.1 hp]; exact Nat.le_refl _
  · rcases List.mem_append.1 hp with hp | hp
    · exact h.bk p hp
    · rw [List.mem_singleton.1 hp]
      show back (t.ns.drop t.ns.length) t.cur = t.cur
      rw [List.drop_length]; rfl
  · refine List.pairwise_append.2 ⟨h.mono, List.pairwise_singleton _ _, fun a ha b hb => ?_⟩
    rw [List.mem_singleton.1 hb]
    exact h.pos a ha
  · exact absurd (congrArg List.length e) (by simp [Tg.marked])
  · replace hp : (t.was ++ [(t.ns.length, t.cur)]).head? = some p := hp
    cases hw : t.was with
    | nil =>
      rw [hw] at hp
      cases hp
      rw [h.none hw]; rfl
    | cons q w =>
      rw [hw] at hp
      exact h.first p (by rw [hw]; exact hp)
  · show (t.was ++ [(t.ns.length, t.cur)]).length ≤ t.nest
    rw [List.length_append, List.length_singleton]; exact hf
/-- Back to the last mark. -/
def Tg.undone (t : Tg) (w : List (Nat × Sta)) (p : Nat × Sta) : Tg := { t with cur := p.2, ns := t.ns.take p.1, was := w }
theorem Tg.Good.undone {t : Tg} (h : t.Good) {w : List (Nat × Sta)} {p : Nat × Sta} (hw : t.was = w ++ [p]) : (t.undone w p).Good := by
  have hp : p ∈ t.was := by rw [hw]; simp
  have hm := h.mono
  rw [hw, List.pairwise_append] at hm
  have hle : ∀ q ∈ w, q.1 ≤ p.1 := fun q hq => hm.2.2 q hq p (List.mem_singleton.2 rfl)
  have hpl := h.pos p hp
  have hl : (t.ns.take p.1).length = p.1 := by rw [List.length_take]; omega
  refine ⟨fun q hq => ?_, fun q hq => ?_, hm.1, fun e => ?_, fun q hq => ?_, ?_, ?_, ?_, fun n hn => h.nb n (List.mem_of_mem_take hn)⟩
  · show q.1 ≤ (t.ns.take p.1).length
    rw [hl]; exact hle q hq
  · show back ((t.ns.take p.1).drop q.1) p.2 = q.2
    have hq2 : q ∈ t.was := by rw [hw]; exact List.mem_append_left _ hq
    rw [← h.bk p hp, ← back_app]
    have : (t.ns.take p.1).drop q.1 ++ t.ns.drop p.1 = t.ns.drop q.1 := by
      rw [← List.drop_append_of_le_length (by rw [hl]; exact hle q hq), List.take_append_drop]
    rw [this]
    exact h.bk q hq2
  · have e : w = [] := e
    have h0 := h.first p (by rw [hw, e]; rfl)
    show t.ns.take p.1 = []
    rw [h0]; rfl
  · replace hq : w.head? = some q := hq
    cases w with
    | nil => cases hq
    | cons a w => exact h.first q (by rw [hw]; exact hq)
  · have := h.nest1
    rw [hw, List.length_append] at this
    show w.length ≤ t.nest
    omega
  · show (t.ns.take p.1).length ≤ t.most
    have := h.most1
    rw [hl]; omega
  · show KB p.2
    rw [← h.bk p hp]
    exact h.kb.back fun n hn => h.nb n (List.mem_of_mem_drop hn)

def Tg.putv (t : Tg) (k : ByteArray) (x : Vr) : Int × Tg := if t.full then (43, t) else (0, t.noted (.v k (t.cur.v k)) { t.cur with v := updF t.cur.v k (some x) })
def Tg.delv (t : Tg) (k : ByteArray) : Int × Tg := match t.cur.v k with | none => (0, t) | some _ => if t.full then (43, t) else (0, t.noted (.v k (t.cur.v k)) { t.cur with v := updF t.cur.v k none })
def Tg.putf (t : Tg) (k : ByteArray) (x : Nd) : Int × Tg := if t.full then (43, t) else (0, t.noted (.f k (t.cur.f k)) { t.cur with f := updF t.cur.f k (some x) })
def Tg.delf (t : Tg) (k : ByteArray) : Int × Tg := match t.cur.f k with | none => (0, t) | some _ => if t.full then (43, t) else (0, t.noted (.f k (t.cur.f k)) { t.cur with f := updF t.cur.f k none })
def Tg.puta (t : Tg) (k : ByteArray) (x : ByteArray) : Int × Tg := if t.full then (43, t) else (0, t.noted (.a k (t.cur.a k)) { t.cur with a := updF t.cur.a k (some x) })
def Tg.dela (t : Tg) (k : ByteArray) : Int × Tg := match t.cur.a k with | none => (0, t) | some _ => if t.full then (43, t) else (0, t.noted (.a k (t.cur.a k)) { t.cur with a := updF t.cur.a k none })
def Tg.putt (t : Tg) (k : ByteArray) (x : ByteArray) : Int × Tg := if t.full then (43, t) else (0, t.noted (.t k (t.cur.t k)) { t.cur with t := updF t.cur.t k (some x) })
def Tg.delt (t : Tg) (k : ByteArray) : Int × Tg := match t.cur.t k with | none => (0, t) | some _ => if t.full then (43, t) else (0, t.noted (.t k (t.cur.t k)) { t.cur with t := updF t.cur.t k none })
def Tg.seto (t : Tg) (x : ByteArray) : Int × Tg := if t.full then (43, t) else (0, t.noted (.o t.cur.o) { t.cur with o := x })
def Tg.setg (t : Tg) (x : Gv) : Int × Tg := if t.full then (43, t) else (0, t.noted (.g t.cur.g) { t.cur with g := x })
def Tg.mark (t : Tg) : Int × Int × Tg := if t.was.length = t.nest then (0, 42, t) else ((t.was.length : Int) + 1, 0, t.marked)
def Tg.undo (t : Tg) : Int × Tg := match t.was.getLast? with | none => (1, t) | some p => (0, t.undone t.was.dropLast p)
end Go.Proofs.YtigmdfdcflkggaaGreat
