/-
  What stays so whatever a table does: each node is held as often as there are files of it (and by whom else, as told), each pipe has as many ends as handles, its buffer is open while it has one. Conditions: none.
  Each call of a table, whatever is asked: it answers, and what stays so stays. Conditions: up to a thousand calls, of up to a hundred bytes.
  Counts of handles, one by one: by their numbers in any order, by nodes and by pipes; one Unref told whole. Conditions: each theorem's own.
-/
import Derived.Test.YtbjakhiflgjflaaGreatDoorHnRef
import Derived.Test.YtbjakhiflgjflaaGreatDoorNdDrop
import Derived.Test.YtbjakhiflgjflaaGreatDoorHnTake
import Derived.Test.YtbjakhiflgjflaaGreatDoorHnLast
import Derived.Test.YtbjakhiflgjflaaGreatDoorHnAdd
import Derived.Test.YtbjakhiflgjflaaGreatDoorHnErr
import Derived.Test.YtbjakhiflgjflaaGreatDoorHnMore
import Derived.Test.YtbjakhiflgjflaaGreatDoorHnText
import Derived.Test.YtbjakhiflgjflaaGreatDoorHnStat2
namespace Go.Proofs.YtbjakhiflgjflaaGreatDoor
open Go Go.RowKit Go.ChangeMaps

def nF (n : Int) (x : Hd) : Nat := match x.kd with | .file m .. => if m = n then 1 else 0 | _ => 0
def nR (p : Nat) (x : Hd) : Nat := match x.kd with | .rd q => if q = p then 1 else 0 | _ => 0
def nW (p : Nat) (x : Hd) : Nat := match x.kd with | .wr q => if q = p then 1 else 0 | _ => 0
/-- Who else holds nodes, and up to which number there are any. -/
structure Ext where
  h : Int → Nat
  N : Nat
instance : CoeFun Ext (fun _ => Int → Nat) := ⟨Ext.h⟩
structure Good (ext : Ext) (s : St) : Prop where
  file : ∀ k x, look s.hs k = some x → ∀ n a r w m, x.kd = .file n a r w m → (∃ y, look s.nds n = some y ∧ y.kind = 2) ∧ a ≤ 4096
  refs : ∀ k x, look s.hs k = some x → 1 ≤ x.refs
  holds : ∀ n y, look s.nds n = some y → y.holds = total (nF n) s.hs + ext n
  ends : ∀ (p pb bb e : Nat), s.pp[p]? = some (pb, bb, e) → e = total (nR p) s.hs + total (nW p) s.hs ∧ total (nR p) s.hs ≤ 1 ∧ total (nW p) s.hs ≤ 1 ∧ ∃ o, s.es[p]? = some (bb, o) ∧ (o.isSome = true ↔ 0 < e)
  len : s.es.length = s.pp.length
  pipe : ∀ k x, look s.hs k = some x → ∀ p, x.kd = .rd p ∨ x.kd = .wr p → p < s.pp.length
  nms : ∀ n y, look s.nds n = some y → nmsLen y ≤ 100000 ∧ (y.kind = 2 → y.nms = none)
  num : ∀ n y, look s.nds n = some y → 1 ≤ n ∧ n ≤ (ext.N : Int)
structure Bnd (s : St) (B : Nat) : Prop where
  tot : s.tot ≤ 100 * B
  top : s.top ≤ 2 * B
  es : s.es.length ≤ B
  refs : ∀ k x, look s.hs k = some x → x.refs ≤ B
theorem Bnd.le {s : St} {B B' : Nat} (h : Bnd s B) (hB : B ≤ B') : Bnd s B' := ⟨by have := h.tot; omega, by have := h.top; omega, Nat.le_trans h.es hB, fun k x hx => Nat.le_trans (h.refs k x hx) hB⟩
section
variable {ext : Ext} {s : St} {k : Int} {x : Hd} {B : Nat}
theorem look_snoc {α : Type} {l : List (Int × α)} {k : Int} {v : α} (hk : look l k = none) (j : Int) : look (l ++ [(k, v)]) j = if j = k then some v else look l j := by
  rw [look_app]
  by_cases hj : j = k
  · subst hj
    rw [hk, if_pos rfl]
    show none.or (if j = j then some v else none) = some v
    rw [if_pos rfl]
    rfl
  · rw [if_neg hj]
    have : look [(k, v)] j = none := by show (if k = j then some v else none) = none; rw [if_neg fun e => hj e.symm]
    rw [this, Option.or_none]
theorem total_one (f : Hd → Nat) (p : Int × Hd) : total f [p] = f p.2 := rfl
theorem total_eq {f : Hd → Nat} {hs : Hs} {k : Int} {x y : Hd} (hd : hs.Pairwise (fun p q => p.1 ≠ q.1)) (hx : look hs k = some x) (hf : f y = f x) : total f (upd hs k y) = total f hs := by
  have := total_upd (f := f) hd hx y
  omega
/-- A handle changes, but not what it is a handle of. -/
theorem Good.kd (h : Good ext s) (hd : s.hs.Pairwise (fun p q => p.1 ≠ q.1)) (hx : look s.hs k = some x) {y : Hd} (hr : 1 ≤ y.refs) (h1 : ∀ n, nF n y = nF n x) (h2 : ∀ p, nR p y = nR p x) (h3 : ∀ p, nW p y = nW p x)
    (hf : ∀ n a r w m, y.kd = .file n a r w m → a ≤ 4096 ∧ ∃ a', x.kd = .file n a' r w m) (hp : ∀ p, y.kd = .rd p ∨ y.kd = .wr p → p < s.pp.length) : Good ext { s with hs := upd s.hs k y } where
  file := fun j z hz n a r w m e => by
    rw [show ({ s with hs := upd s.hs k y } : St).hs = upd s.hs k y from rfl, look_upd] at hz
    split at hz
    · rw [hx] at hz
      obtain rfl : y = z := Option.some.inj hz
      obtain ⟨q1, a', q2⟩ := hf n a r w m e
      exact ⟨(h.file k x hx n a' r w m q2).1, q1⟩
    · exact h.file j z hz n a r w m e
  refs := fun j z hz => by
    rw [show ({ s with hs := upd s.hs k y } : St).hs = upd s.hs k y from rfl, look_upd] at hz
    split at hz
    · rw [hx] at hz
      obtain rfl : y = z := Option.some.inj hz
      exact hr
    · exact h.refs j z hz
  holds := fun n z hz => by rw [show total (nF n) ({ s with hs := upd s.hs k y } : St).hs = total (nF n) s.hs from total_eq hd hx (h1 n)]; exact h.holds n z hz
  ends := fun p pb bb e he => by rw [show total (nR p) ({ s with hs := upd s.hs k y } : St).hs = total (nR p) s.hs from total_eq hd hx (h2 p), show total (nW p) ({ s with hs := upd s.hs k y } : St).hs = total (nW p) s.hs from total_eq hd hx (h3 p)]; exact h.ends p pb bb e he
  len := h.len
  pipe := fun j z hz p e => by
    rw [show ({ s with hs := upd s.hs k y } : St).hs = upd s.hs k y from rfl, look_upd] at hz
    split at hz
    · rw [hx] at hz
      obtain rfl : y = z := Option.some.inj hz
      exact hp p e
    · exact h.pipe j z hz p e
  nms := h.nms
  num := h.num
theorem Bnd.kd (h : Bnd s B) (hx : look s.hs k = some x) {y : Hd} (hy : y.refs ≤ B + 1) : Bnd { s with hs := upd s.hs k y } (B + 1) where
  tot := by have := h.tot; show s.tot ≤ _; omega
  top := by have := h.top; show s.top ≤ _; omega
  es := by have := h.es; show s.es.length ≤ _; omega
  refs := fun j z hz => by
    rw [show ({ s with hs := upd s.hs k y } : St).hs = upd s.hs k y from rfl, look_upd] at hz
    split at hz
    · rw [hx] at hz
      obtain rfl : y = z := Option.some.inj hz
      exact hy
    · exact Nat.le_trans (h.refs j z hz) (Nat.le_succ _)
theorem Good.ref (h : Good ext s) (hd : s.hs.Pairwise (fun p q => p.1 ≠ q.1)) (hx : look s.hs k = some x) {r : Nat} (hr : 1 ≤ r) : Good ext { s with hs := upd s.hs k { x with refs := r } } :=
  h.kd hd hx hr (fun _ => rfl) (fun _ => rfl) (fun _ => rfl) (fun n a r w m e => ⟨(h.file k x hx n a r w m e).2, a, e⟩) (fun p e => h.pipe k x hx p e)
/-- A node's bytes change. -/
theorem Good.bytes (h : Good ext s) {n : Int} {y : Pn} (hy : look s.nds n = some y) (d : List UInt8) : Good ext { s with nds := upd s.nds n { y with data := d } } where
  file := fun j z hz m a r w q e => by
    obtain ⟨⟨v, h1, h2⟩, h3⟩ := h.file j z hz m a r w q e
    refine ⟨?_, h3⟩
    show ∃ y', look (upd s.nds n _) m = some y' ∧ _
    rw [look_upd]
    split
    · rename_i e
      subst e
      rw [hy]
      rw [hy] at h1
      obtain rfl : y = v := Option.some.inj h1
      exact ⟨_, rfl, h2⟩
    · exact ⟨v, h1, h2⟩
  refs := h.refs
  holds := fun m z hz => by
    rw [show ({ s with nds := upd s.nds n { y with data := d } } : St).nds = upd s.nds n { y with data := d } from rfl, look_upd] at hz
    split at hz
    · rename_i e
      subst e
      rw [hy] at hz
      obtain rfl := Option.some.inj hz
      exact h.holds m y hy
    · exact h.holds m z hz
  ends := h.ends
  len := h.len
  pipe := h.pipe
  nms := fun m z hz => by
    rw [show ({ s with nds := upd s.nds n { y with data := d } } : St).nds = upd s.nds n { y with data := d } from rfl, look_upd] at hz
    split at hz
    · rename_i e
      subst e
      rw [hy] at hz
      obtain rfl := Option.some.inj hz
      exact h.nms m y hy
    · exact h.nms m z hz
  num := fun m z hz => by
    rw [show ({ s with nds := upd s.nds n { y with data := d } } : St).nds = upd s.nds n { y with data := d } from rfl, look_upd] at hz
    split at hz
    · rename_i e
      subst e
      exact h.num m y hy
    · exact h.num m z hz
/-- What waits in a buffer changes. -/
theorem Good.buf (h : Good ext s) {p bb : Nat} {b b' : Bs} (he : s.es[p]? = some (bb, some b)) (t : Nat) : Good ext { s with es := s.es.set p (bb, some b'), tot := t } where
  file := h.file
  refs := h.refs
  holds := h.holds
  ends := fun q pb bb' e hq => by
    obtain ⟨h1, h2, h3, o, h4, h5⟩ := h.ends q pb bb' e hq
    refine ⟨h1, h2, h3, ?_⟩
    show ∃ o, (s.es.set p (bb, some b'))[q]? = some (bb', o) ∧ _
    rw [List.getElem?_set]
    split
    · rename_i e
      subst e
      rw [he] at h4
      simp only [Option.some.injEq, Prod.mk.injEq] at h4
      obtain ⟨rfl, rfl⟩ := h4
      have hl : p < s.es.length := (List.getElem?_eq_some_iff.1 he).1
      rw [if_pos hl]
      exact ⟨_, rfl, h5⟩
    · exact ⟨o, h4, h5⟩
  len := by show (s.es.set p _).length = _; rw [List.length_set]; exact h.len
  pipe := h.pipe
  nms := h.nms
  num := h.num
theorem not_mem_hs (hk : Least (ids s.hs) k) : look s.hs k = none := look_none.2 fun p hp e => hk.2.1 (by rw [← e]; exact List.mem_map.2 ⟨p, hp, rfl⟩)
/-- A text or a sink is new. -/
theorem Good.new (h : Good ext s) (hk : look s.hs k = none) {y : Hd} (hr : 1 ≤ y.refs) (h1 : ∀ n, nF n y = 0) (h2 : ∀ p, nR p y = 0) (h3 : ∀ p, nW p y = 0) (top : Nat) (xs : List Int) : Good ext { s with hs := s.hs ++ [(k, y)], top := top, xs := xs } where
  file := fun j z hz n a r w m e => by
    rw [show ({ s with hs := s.hs ++ [(k, y)], top := top, xs := xs } : St).hs = s.hs ++ [(k, y)] from rfl, look_snoc hk] at hz
    split at hz
    · obtain rfl := Option.some.inj hz
      have := h1 n
      unfold nF at this
      rw [e] at this
      simp at this
    · exact h.file j z hz n a r w m e
  refs := fun j z hz => by
    rw [show ({ s with hs := s.hs ++ [(k, y)], top := top, xs := xs } : St).hs = s.hs ++ [(k, y)] from rfl, look_snoc hk] at hz
    split at hz
    · obtain rfl := Option.some.inj hz
      exact hr
    · exact h.refs j z hz
  holds := fun n z hz => by
    have := h.holds n z hz
    rw [show total (nF n) ({ s with hs := s.hs ++ [(k, y)], top := top, xs := xs } : St).hs = total (nF n) s.hs + 0 from (total_app _ _ _).trans (congrArg _ (h1 n))]
    exact this
  ends := fun p pb bb e he => by
    rw [show total (nR p) ({ s with hs := s.hs ++ [(k, y)], top := top, xs := xs } : St).hs = total (nR p) s.hs + 0 from (total_app _ _ _).trans (congrArg _ (h2 p)), show total (nW p) ({ s with hs := s.hs ++ [(k, y)], top := top, xs := xs } : St).hs = total (nW p) s.hs + 0 from (total_app _ _ _).trans (congrArg _ (h3 p))]
    exact h.ends p pb bb e he
  len := h.len
  pipe := fun j z hz p e => by
    rw [show ({ s with hs := s.hs ++ [(k, y)], top := top, xs := xs } : St).hs = s.hs ++ [(k, y)] from rfl, look_snoc hk] at hz
    split at hz
    · obtain rfl := Option.some.inj hz
      have h2' := h2 p
      have h3' := h3 p
      unfold nR at h2'
      unfold nW at h3'
      rcases e with e | e
      · rw [e] at h2'; simp at h2'
      · rw [e] at h3'; simp at h3'
    · exact h.pipe j z hz p e
  nms := h.nms
  num := h.num
/-- A file is new. -/
theorem Good.newFile (h : Good ext s) (hk : look s.hs k = none) {n : Int} {y : Pn} (hy : look s.nds n = some y) (hyk : y.kind = 2) (r w m : Bool) (top : Nat) (xs : List Int) : Good ext { s with nds := upd s.nds n { y with holds := y.holds + 1 }, hs := s.hs ++ [(k, ⟨1, .file n 0 r w m⟩)], top := top, xs := xs } where
  file := fun j z hz m' a r' w' q e => by
    rw [show ({ s with nds := upd s.nds n { y with holds := y.holds + 1 }, hs := s.hs ++ [(k, ⟨1, .file n 0 r w m⟩)], top := top, xs := xs } : St).hs = s.hs ++ [(k, ⟨1, .file n 0 r w m⟩)] from rfl, look_snoc hk] at hz
    show (∃ y', look (upd s.nds n _) m' = some y' ∧ _) ∧ _
    rw [look_upd]
    split at hz
    · obtain rfl := Option.some.inj hz
      simp only [Kd.file.injEq] at e
      obtain ⟨rfl, rfl, _⟩ := e
      rw [if_pos rfl, hy]
      exact ⟨⟨_, rfl, hyk⟩, Nat.zero_le _⟩
    · obtain ⟨⟨v, h1, h2⟩, h3⟩ := h.file j z hz m' a r' w' q e
      refine ⟨?_, h3⟩
      split
      · rename_i e
        subst e
        rw [hy]
        exact ⟨_, rfl, hyk⟩
      · exact ⟨v, h1, h2⟩
  refs := fun j z hz => by
    rw [show ({ s with nds := upd s.nds n { y with holds := y.holds + 1 }, hs := s.hs ++ [(k, ⟨1, .file n 0 r w m⟩)], top := top, xs := xs } : St).hs = s.hs ++ [(k, ⟨1, .file n 0 r w m⟩)] from rfl, look_snoc hk] at hz
    split at hz
    · obtain rfl := Option.some.inj hz
      exact Nat.le_refl _
    · exact h.refs j z hz
  holds := fun m' z hz => by
    rw [show ({ s with nds := upd s.nds n { y with holds := y.holds + 1 }, hs := s.hs ++ [(k, ⟨1, .file n 0 r w m⟩)], top := top, xs := xs } : St).nds = upd s.nds n { y with holds := y.holds + 1 } from rfl, look_upd] at hz
    rw [show total (nF m') ({ s with nds := upd s.nds n { y with holds := y.holds + 1 }, hs := s.hs ++ [(k, ⟨1, .file n 0 r w m⟩)], top := top, xs := xs } : St).hs = total (nF m') s.hs + (if n = m' then 1 else 0) from total_app _ _ _]
    split at hz
    · rename_i e
      subst e
      rw [hy] at hz
      obtain rfl := Option.some.inj hz
      rw [if_pos rfl]
      have := h.holds m' y hy
      show y.holds + 1 = _
      omega
    · rename_i e
      rw [if_neg fun q => e q.symm]
      exact h.holds m' z hz
  ends := fun p pb bb e he => by
    rw [show total (nR p) ({ s with nds := upd s.nds n { y with holds := y.holds + 1 }, hs := s.hs ++ [(k, ⟨1, .file n 0 r w m⟩)], top := top, xs := xs } : St).hs = total (nR p) s.hs + 0 from total_app _ _ _, show total (nW p) ({ s with nds := upd s.nds n { y with holds := y.holds + 1 }, hs := s.hs ++ [(k, ⟨1, .file n 0 r w m⟩)], top := top, xs := xs } : St).hs = total (nW p) s.hs + 0 from total_app _ _ _]
    exact h.ends p pb bb e he
  len := h.len
  pipe := fun j z hz p e => by
    rw [show ({ s with nds := upd s.nds n { y with holds := y.holds + 1 }, hs := s.hs ++ [(k, ⟨1, .file n 0 r w m⟩)], top := top, xs := xs } : St).hs = s.hs ++ [(k, ⟨1, .file n 0 r w m⟩)] from rfl, look_snoc hk] at hz
    split at hz
    · obtain rfl := Option.some.inj hz
      rcases e with e | e <;> cases e
    · exact h.pipe j z hz p e
  nms := fun m' z hz => by
    rw [show ({ s with nds := upd s.nds n { y with holds := y.holds + 1 }, hs := s.hs ++ [(k, ⟨1, .file n 0 r w m⟩)], top := top, xs := xs } : St).nds = upd s.nds n { y with holds := y.holds + 1 } from rfl, look_upd] at hz
    split at hz
    · rename_i e
      subst e
      rw [hy] at hz
      obtain rfl := Option.some.inj hz
      exact h.nms m' y hy
    · exact h.nms m' z hz
  num := fun m' z hz => by
    rw [show ({ s with nds := upd s.nds n { y with holds := y.holds + 1 }, hs := s.hs ++ [(k, ⟨1, .file n 0 r w m⟩)], top := top, xs := xs } : St).nds = upd s.nds n { y with holds := y.holds + 1 } from rfl, look_upd] at hz
    split at hz
    · rename_i e
      subst e
      exact h.num m' y hy
    · exact h.num m' z hz
theorem Bnd.new (h : Bnd s B) (hk : look s.hs k = none) (nds : Nds) (kd : Kd) {top : Nat} (ht : top ≤ s.top + 1) (xs : List Int) : Bnd { s with nds := nds, hs := s.hs ++ [(k, ⟨1, kd⟩)], top := top, xs := xs } (B + 1) where
  tot := by have := h.tot; show s.tot ≤ _; omega
  top := by have := h.top; show top ≤ _; omega
  es := by have := h.es; show s.es.length ≤ _; omega
  refs := fun j z hz => by
    rw [show ({ s with nds := nds, hs := s.hs ++ [(k, ⟨1, kd⟩)], top := top, xs := xs } : St).hs = s.hs ++ [(k, ⟨1, kd⟩)] from rfl, look_snoc hk] at hz
    split at hz
    · obtain rfl := Option.some.inj hz
      show 1 ≤ B + 1
      omega
    · exact Nat.le_trans (h.refs j z hz) (Nat.le_succ _)
theorem total_zero {f : Hd → Nat} {hs : Hs} (h : ∀ q ∈ hs, f q.2 = 0) : total f hs = 0 := by
  induction hs with
  | nil => rfl
  | cons p l ih =>
    show f p.2 + total f l = 0
    rw [h p (List.mem_cons_self ..), ih fun q hq => h q (List.mem_cons_of_mem _ hq)]
theorem Good.fresh (h : Good ext s) (hd : s.hs.Pairwise (fun p q => p.1 ≠ q.1)) : total (nR s.pp.length) s.hs = 0 ∧ total (nW s.pp.length) s.hs = 0 := by
  refine ⟨total_zero fun q hq => ?_, total_zero fun q hq => ?_⟩
  · have hl := look_of_mem hd (show (q.1, q.2) ∈ s.hs from hq)
    unfold nR
    split
    · rename_i p hp
      have := h.pipe _ _ hl p (.inl hp)
      rw [if_neg (by omega)]
    · rfl
  · have hl := look_of_mem hd (show (q.1, q.2) ∈ s.hs from hq)
    unfold nW
    split
    · rename_i p hp
      have := h.pipe _ _ hl p (.inr hp)
      rw [if_neg (by omega)]
    · rfl
/-- A pipe is new. -/
theorem Good.newPipe (h : Good ext s) (hd : s.hs.Pairwise (fun p q => p.1 ≠ q.1)) {k1 k2 : Int} (hk1 : look s.hs k1 = none) (hk2 : look (s.hs ++ [(k1, (⟨1, .rd s.pp.length⟩ : Hd))]) k2 = none) (pb bb : Nat) (b : Bs) (top : Nat) (xs : List Int) :
    Good ext { s with es := s.es ++ [(bb, some b)], pp := s.pp ++ [(pb, bb, 2)], hs := s.hs ++ [(k1, ⟨1, .rd s.pp.length⟩)] ++ [(k2, ⟨1, .wr s.pp.length⟩)], top := top, xs := xs } := by
  have hlk : ∀ j, look (s.hs ++ [(k1, (⟨1, .rd s.pp.length⟩ : Hd))] ++ [(k2, ⟨1, .wr s.pp.length⟩)]) j = if j = k2 then some ⟨1, .wr s.pp.length⟩ else if j = k1 then some ⟨1, .rd s.pp.length⟩ else look s.hs j := fun j => by rw [look_snoc hk2, look_snoc hk1]
  have htt : ∀ f : Hd → Nat, total f (s.hs ++ [(k1, (⟨1, .rd s.pp.length⟩ : Hd))] ++ [(k2, ⟨1, .wr s.pp.length⟩)]) = total f s.hs + f ⟨1, .rd s.pp.length⟩ + f ⟨1, .wr s.pp.length⟩ := fun f => by rw [total_app, total_app]; rfl
  refine ⟨fun j z hz n a r w m e => ?_, fun j z hz => ?_, fun n z hz => ?_, fun p pb' bb' e he => ?_, ?_, fun j z hz p e => ?_, h.nms, h.num⟩
  · simp only [hlk] at hz
    split at hz
    · obtain rfl := Option.some.inj hz; cases e
    · split at hz
      · obtain rfl := Option.some.inj hz; cases e
      · exact h.file j z hz n a r w m e
  · simp only [hlk] at hz
    split at hz
    · obtain rfl := Option.some.inj hz; exact Nat.le_refl _
    · split at hz
      · obtain rfl := Option.some.inj hz; exact Nat.le_refl _
      · exact h.refs j z hz
  · show _ = total (nF n) (_ ++ _ ++ _) + _
    rw [htt]
    exact h.holds n z hz
  · show e = total (nR p) (_ ++ _ ++ _) + total (nW p) (_ ++ _ ++ _) ∧ total (nR p) (_ ++ _ ++ _) ≤ 1 ∧ total (nW p) (_ ++ _ ++ _) ≤ 1 ∧ _
    rw [htt, htt]
    have e1 : nR p ⟨1, .rd s.pp.length⟩ = if s.pp.length = p then 1 else 0 := rfl
    have e2 : nW p ⟨1, .rd s.pp.length⟩ = 0 := rfl
    have e3 : nR p ⟨1, .wr s.pp.length⟩ = 0 := rfl
    have e4 : nW p ⟨1, .wr s.pp.length⟩ = if s.pp.length = p then 1 else 0 := rfl
    rw [e1, e2, e3, e4]
    replace he : (s.pp ++ [(pb, bb, 2)])[p]? = some (pb', bb', e) := he
    show _ ∧ _ ∧ _ ∧ ∃ o, (s.es ++ [(bb, some b)])[p]? = some (bb', o) ∧ _
    rw [List.getElem?_append] at he
    have hl := h.len
    split at he
    · rename_i hlt
      obtain ⟨q1, q2, q3, o, q4, q5⟩ := h.ends p pb' bb' e he
      rw [if_neg (by omega), List.getElem?_append_left (by omega)]
      exact ⟨by omega, by omega, by omega, o, q4, q5⟩
    · rename_i hge
      obtain ⟨hp1, he⟩ := List.getElem?_eq_some_iff.1 he
      have hp2 : p = s.pp.length := by simp at hp1; omega
      subst hp2
      simp at he
      obtain ⟨rfl, rfl, rfl⟩ := he
      obtain ⟨z1, z2⟩ := h.fresh hd
      rw [if_pos rfl, z1, z2]
      refine ⟨rfl, Nat.le_refl _, Nat.le_refl _, some b, ?_, ?_⟩
      · rw [← hl, List.getElem?_append_right (Nat.le_refl _)]; simp
      · simp
  · show (s.es ++ _).length = (s.pp ++ _).length
    rw [List.length_append, List.length_append, h.len]
    rfl
  · show p < (s.pp ++ _).length
    rw [List.length_append]
    simp only [hlk] at hz
    split at hz
    · obtain rfl := Option.some.inj hz
      rcases e with e | e
      · cases e
      · simp only [Kd.wr.injEq] at e; subst e; simp
    · split at hz
      · obtain rfl := Option.some.inj hz
        rcases e with e | e
        · simp only [Kd.rd.injEq] at e; subst e; simp
        · cases e
      · exact Nat.lt_of_lt_of_le (h.pipe j z hz p e) (Nat.le_add_right _ _)
theorem Bnd.newPipe (h : Bnd s B) {k1 k2 : Int} (hk1 : look s.hs k1 = none) (hk2 : look (s.hs ++ [(k1, (⟨1, .rd s.pp.length⟩ : Hd))]) k2 = none) (pb bb : Nat) (b : Bs) {top : Nat} (ht : top ≤ s.top + 2) (xs : List Int) :
    Bnd { s with es := s.es ++ [(bb, some b)], pp := s.pp ++ [(pb, bb, 2)], hs := s.hs ++ [(k1, ⟨1, .rd s.pp.length⟩)] ++ [(k2, ⟨1, .wr s.pp.length⟩)], top := top, xs := xs } (B + 1) where
  tot := by have := h.tot; show s.tot ≤ _; omega
  top := by have := h.top; show top ≤ _; omega
  es := by have := h.es; show (s.es ++ _).length ≤ _; rw [List.length_append]; simp only [List.length_cons, List.length_nil]; omega
  refs := fun j z hz => by
    replace hz : look (s.hs ++ [(k1, (⟨1, .rd s.pp.length⟩ : Hd))] ++ [(k2, ⟨1, .wr s.pp.length⟩)]) j = some z := hz
    rw [look_snoc hk2, look_snoc hk1] at hz
    split at hz
    · obtain rfl := Option.some.inj hz
      show 1 ≤ B + 1
      omega
    · split at hz
      · obtain rfl := Option.some.inj hz
        show 1 ≤ B + 1
        omega
      · exact Nat.le_trans (h.refs j z hz) (Nat.le_succ _)
/-- A text or a sink goes. -/
theorem look_gone {j : Int} {z : Hd} (hz : look (dropH s.hs k) j = some z) : look s.hs j = some z ∧ j ≠ k := by
  replace hz : look (away s.hs k) j = some z := hz
  rw [look_away] at hz
  split at hz
  · cases hz
  · exact ⟨hz, by assumption⟩
theorem Good.gone (h : Good ext s) (hd : s.hs.Pairwise (fun p q => p.1 ≠ q.1)) (hx : look s.hs k = some x) (h1 : ∀ n, nF n x = 0) (h2 : ∀ p, nR p x = 0) (h3 : ∀ p, nW p x = 0) (top : Nat) (xs : List Int) : Good ext { s with hs := dropH s.hs k, top := top, xs := xs } where
  file := fun j z hz => h.file j z (look_gone hz).1
  refs := fun j z hz => h.refs j z (look_gone hz).1
  holds := fun n z hz => by
    have q := total_away (f := nF n) hd hx
    have := h.holds n z hz
    have e := h1 n
    show _ = total (nF n) (away s.hs k) + _
    omega
  ends := fun p pb bb e he => by
    have q1 := total_away (f := nR p) hd hx
    have q2 := total_away (f := nW p) hd hx
    have e1 := h2 p
    have e2 := h3 p
    show _ = total (nR p) (away s.hs k) + total (nW p) (away s.hs k) ∧ total (nR p) (away s.hs k) ≤ 1 ∧ total (nW p) (away s.hs k) ≤ 1 ∧ _
    rw [show total (nR p) (away s.hs k) = total (nR p) s.hs by omega, show total (nW p) (away s.hs k) = total (nW p) s.hs by omega]
    exact h.ends p pb bb e he
  len := h.len
  pipe := fun j z hz => h.pipe j z (look_gone hz).1
  nms := h.nms
  num := h.num
theorem Bnd.gone (h : Bnd s B) (nds : Nds) (es : List Ent) (pp : Pps) (hes : es.length = s.es.length) {top : Nat} (ht : top ≤ s.top) (xs : List Int) : Bnd { s with nds := nds, es := es, pp := pp, hs := dropH s.hs k, top := top, xs := xs } (B + 1) where
  tot := by have := h.tot; show s.tot ≤ _; omega
  top := by have := h.top; show top ≤ _; omega
  es := by have := h.es; show es.length ≤ _; omega
  refs := fun j z hz => Nat.le_trans (h.refs j z (look_gone hz).1) (Nat.le_succ _)
theorem look_dropped (nds : Nds) (n : Int) (y : Pn) (hy : look nds n = some y) (m : Int) : (m ≠ n → look (droppedN nds n y) m = look nds m) ∧ (∀ z, look (droppedN nds n y) n = some z → z = { y with holds := y.holds - 1 }) ∧ (1 < y.holds → look (droppedN nds n y) n = some { y with holds := y.holds - 1 }) := by
  unfold droppedN
  split
  · refine ⟨fun hm => by rw [look_upd, if_neg hm], fun z hz => ?_, fun _ => by rw [look_upd, if_pos rfl, hy]; rfl⟩
    rw [look_upd, if_pos rfl, hy] at hz
    exact (Option.some.inj hz).symm
  · rename_i hn
    refine ⟨fun hm => by rw [look_away, if_neg hm], fun z hz => ?_, fun h1 => absurd (.inr (.inr h1)) hn⟩
    rw [look_away, if_pos rfl] at hz
    cases hz
/-- A file goes. -/
theorem Good.goneFile (h : Good ext s) (hd : s.hs.Pairwise (fun p q => p.1 ≠ q.1)) (hx : look s.hs k = some x) {n : Int} {a : Nat} {r w m : Bool} (hk : x.kd = .file n a r w m) {y : Pn} (hy : look s.nds n = some y) (top : Nat) (xs : List Int) : Good ext { s with nds := droppedN s.nds n y, hs := dropH s.hs k, top := top, xs := xs } := by
  have e1 : ∀ j, nF j x = if n = j then 1 else 0 := fun j => by unfold nF; rw [hk]
  have e2 : ∀ p, nR p x = 0 := fun p => by unfold nR; rw [hk]
  have e3 : ∀ p, nW p x = 0 := fun p => by unfold nW; rw [hk]
  have hge : ∀ j z, look (dropH s.hs k) j = some z → ∀ a r w m, z.kd = .file n a r w m → 1 < y.holds := fun j z hz a r w m e => by
    have q := total_away (f := nF n) hd hx
    have q2 := total_ge (f := nF n) (l := away s.hs k) hz
    have q3 : nF n z = 1 := by unfold nF; rw [e]; simp
    have q4 := e1 n
    rw [if_pos rfl] at q4
    have := h.holds n y hy
    omega
  refine ⟨fun j z hz n' a' r' w' m' e => ?_, fun j z hz => h.refs j z (look_gone hz).1, fun n' z hz => ?_, fun p pb bb e he => ?_, h.len, fun j z hz => h.pipe j z (look_gone hz).1, fun n' z hz => ?_, fun n' z hz => ?_⟩
  · obtain ⟨⟨v, h1, h2⟩, h3⟩ := h.file j z (look_gone hz).1 n' a' r' w' m' e
    refine ⟨?_, h3⟩
    show ∃ y', look (droppedN s.nds n y) n' = some y' ∧ _
    by_cases hn : n' = n
    · subst hn
      rw [hy] at h1
      obtain rfl := Option.some.inj h1
      exact ⟨_, (look_dropped s.nds n' y hy 0).2.2 (hge j z hz a' r' w' m' e), h2⟩
    · exact ⟨v, ((look_dropped s.nds n y hy n').1 hn).trans h1, h2⟩
  · have q := total_away (f := nF n') hd hx
    show _ = total (nF n') (away s.hs k) + _
    replace hz : look (droppedN s.nds n y) n' = some z := hz
    rw [e1] at q
    by_cases hn : n' = n
    · subst hn
      rw [if_pos rfl] at q
      obtain rfl := (look_dropped s.nds n' y hy 0).2.1 z hz
      have := h.holds n' y hy
      show y.holds - 1 = _
      omega
    · rw [if_neg fun q => hn q.symm] at q
      rw [(look_dropped s.nds n y hy n').1 hn] at hz
      have := h.holds n' z hz
      omega
  · have q1 := total_away (f := nR p) hd hx
    have q2 := total_away (f := nW p) hd hx
    rw [e2] at q1
    rw [e3] at q2
    show _ = total (nR p) (away s.hs k) + total (nW p) (away s.hs k) ∧ total (nR p) (away s.hs k) ≤ 1 ∧ total (nW p) (away s.hs k) ≤ 1 ∧ _
    rw [show total (nR p) (away s.hs k) = total (nR p) s.hs by omega, show total (nW p) (away s.hs k) = total (nW p) s.hs by omega]
    exact h.ends p pb bb e he
  · replace hz : look (droppedN s.nds n y) n' = some z := hz
    by_cases hn : n' = n
    · subst hn
      obtain rfl := (look_dropped s.nds n' y hy 0).2.1 z hz
      exact h.nms n' y hy
    · rw [(look_dropped s.nds n y hy n').1 hn] at hz
      exact h.nms n' z hz
  · replace hz : look (droppedN s.nds n y) n' = some z := hz
    by_cases hn : n' = n
    · subst hn
      exact h.num n' y hy
    · rw [(look_dropped s.nds n y hy n').1 hn] at hz
      exact h.num n' z hz
/-- An end of a pipe goes. -/
theorem Good.goneEnd (h : Good ext s) (hd : s.hs.Pairwise (fun p q => p.1 ≠ q.1)) (hx : look s.hs k = some x) {p pb bb e : Nat} (hk : x.kd = .rd p ∨ x.kd = .wr p) (hp : s.pp[p]? = some (pb, bb, e + 1)) {o' : Option Bs} (ho : o'.isSome = true ↔ 0 < e) {es' : List Ent} (hes : es' = s.es.set p (bb, o')) (top : Nat) (xs : List Int) :
    Good ext { s with es := es', pp := s.pp.set p (pb, bb, e), hs := dropH s.hs k, top := top, xs := xs } := by
  subst hes
  have e1 : ∀ j, nF j x = 0 := fun j => by unfold nF; rcases hk with hk | hk <;> rw [hk]
  have e2 : ∀ q, nR q x + nW q x = if p = q then 1 else 0 := fun q => by unfold nR nW; rcases hk with hk | hk <;> simp [hk]
  have hpl := (List.getElem?_eq_some_iff.1 hp).1
  refine ⟨fun j z hz => h.file j z (look_gone hz).1, fun j z hz => h.refs j z (look_gone hz).1, fun n' z hz => ?_, fun q pb' bb' f hq => ?_, ?_, fun j z hz q hq => ?_, h.nms, h.num⟩
  · have q := total_away (f := nF n') hd hx
    have := h.holds n' z hz
    have := e1 n'
    show _ = total (nF n') (away s.hs k) + _
    omega
  · have q1 := total_away (f := nR q) hd hx
    have q2 := total_away (f := nW q) hd hx
    have q3 := e2 q
    replace hq : (s.pp.set p (pb, bb, e))[q]? = some (pb', bb', f) := hq
    show _ = total (nR q) (away s.hs k) + total (nW q) (away s.hs k) ∧ total (nR q) (away s.hs k) ≤ 1 ∧ total (nW q) (away s.hs k) ≤ 1 ∧ ∃ o, (s.es.set p (bb, o'))[q]? = some (bb', o) ∧ _
    rw [List.getElem?_set] at hq ⊢
    by_cases hpq : p = q
    · subst hpq
      rw [if_pos rfl, if_pos hpl] at hq
      obtain ⟨h1, h2, h3, o, h4, h5⟩ := h.ends p pb bb (e + 1) hp
      simp only [Option.some.injEq, Prod.mk.injEq] at hq
      obtain ⟨rfl, rfl, rfl⟩ := hq
      rw [if_pos rfl] at q3
      have hel := (List.getElem?_eq_some_iff.1 h4).1
      rw [if_pos rfl, if_pos hel]
      exact ⟨by omega, by omega, by omega, o', rfl, ho⟩
    · rw [if_neg hpq] at hq
      obtain ⟨h1, h2, h3, o, h4, h5⟩ := h.ends q pb' bb' f hq
      rw [if_neg hpq] at q3
      rw [if_neg hpq]
      exact ⟨by omega, by omega, by omega, o, h4, h5⟩
  · show (s.es.set p _).length = (s.pp.set p _).length
    rw [List.length_set, List.length_set]
    exact h.len
  · show q < (s.pp.set p _).length
    rw [List.length_set]
    exact h.pipe j z (look_gone hz).1 q hq
end
end Go.Proofs.YtbjakhiflgjflaaGreatDoor

namespace Go.Proofs.YtbjakhiflgjflaaGreatDoor
open Go Go.RowKit Go.ChangeMaps

def Nx (ext : Ext) (c : Sy) (B : Nat) (F : Nat → Prop) (w w' : World) : Prop := ∃ F' s', Sys w' F' c s' ∧ Good ext s' ∧ Bnd s' B ∧ Chg F F' w w'
section
variable {w : World} {F : Nat → Prop} {c : Sy} {s : St} {ext : Ext} {B : Nat} {k : Int}
theorem Nx.same (h : Sys w F c s) (g : Good ext s) (b : Bnd s B) {w' : World} (hg : w.grownBy w' none) : Nx ext c (B + 1) F w w' := ⟨F, s, h.grown hg, g, b.le (Nat.le_succ _), Chg.of_grown hg F⟩
theorem Sys.hsd (h : Sys w F c s) : s.hs.Pairwise (fun p q => p.1 ≠ q.1) := by
  obtain ⟨Ft, Fp, Fh, h, hF⟩ := h
  obtain ⟨lab, mb, mem, v, ht, hFh⟩ := h.tab
  exact ht.apart
theorem Sys.ndd (h : Sys w F c s) : s.nds.Pairwise (fun p q => p.1 ≠ q.1) := by
  obtain ⟨Ft, Fp, Fh, h, hF⟩ := h
  obtain ⟨lab, mb, mem, ht, hFt⟩ := h.tree
  exact ht.apart
theorem Sys.data (h : Sys w F c s) {n : Int} {y : Pn} (hy : look s.nds n = some y) : y.data.length ≤ 4096 := by
  obtain ⟨Ft, Fp, Fh, h, hF⟩ := h
  obtain ⟨lab, mb, mem, ht, hFt⟩ := h.tree
  exact (ht.nd n y hy).few
theorem Sys.hsl (h : Sys w F c s) : s.hs.length ≤ s.top := by
  obtain ⟨Ft, Fp, Fh, h, hF⟩ := h
  obtain ⟨lab, mb, mem, v, ht, hFh⟩ := h.tab
  have := ht.num.cnt
  unfold ids at this
  rw [List.length_map] at this
  omega
theorem nF_le (n : Int) (x : Hd) : nF n x ≤ 1 := by
  unfold nF
  split
  · split <;> omega
  · omega
theorem Good.few (g : Good ext s) (h : Sys w F c s) (b : Bnd s B) (hB : B ≤ 1000) (hx : ∀ n, ext n ≤ 100000) {n : Int} {y : Pn} (hy : look s.nds n = some y) : y.holds ≤ 1000000 := by
  have h1 := g.holds n y hy
  have h2 : total (nF n) s.hs ≤ s.hs.length * 1 := total_le_const fun p _ => nF_le n p.2
  have h3 := h.hsl
  have h4 := b.top
  have h5 := hx n
  omega
theorem text_back (T : List UInt8) : T = tl ⟨T.toArray⟩ := rfl

theorem op_Ref (h : Sys w F c s) (g : Good ext s) (b : Bnd s B) (hB : B ≤ 1000) (k : Int) :
    Calls Tryz.prog 39 #[ptrV c.tb, .int .i64 k] w fun e w' => (∃ er, e = .returned (.int .i64 er)) ∧ Nx ext c (B + 1) F w w' := by
  cases hx : look s.hs k with
  | none =>
    refine (sys_Ref_none h hx).mono ?_
    rintro e w' ⟨rfl, hw⟩
    obtain rfl := hw.symm
    exact ⟨⟨_, rfl⟩, Nx.same h g b (grownBy_re w)⟩
  | some x =>
    have hr := b.refs k x hx
    refine (sys_Ref h hx (by omega)).mono ?_
    rintro e w' ⟨rfl, F', h1, h2⟩
    exact ⟨⟨_, rfl⟩, F', _, h1, g.ref h.hsd hx (Nat.succ_pos _), b.kd hx (by show x.refs + 1 ≤ _; omega), h2⟩
theorem set_here {α : Type} {l : List α} {p : Nat} {x : α} (h : l[p]? = some x) : l = l.set p x := by
  obtain ⟨hl, hx⟩ := List.getElem?_eq_some_iff.1 h
  rw [← hx, List.set_getElem_self]
theorem op_Unref (h : Sys w F c s) (g : Good ext s) (b : Bnd s B) (hB : B ≤ 1000) (hx : ∀ n, ext n ≤ 100000) (k : Int) :
    Calls Tryz.prog 20 #[ptrV c.tb, .int .i64 k] w fun e w' => (∃ er, e = .returned (.int .i64 er) ∧ ((look s.hs k).isSome = true → er = 0)) ∧ Nx ext c (B + 1) F w w' := by
  cases hk : look s.hs k with
  | none =>
    refine (sys_Unref_none h hk).mono ?_
    rintro e w' ⟨rfl, hw⟩
    obtain rfl := hw.symm
    exact ⟨⟨_, rfl, nofun⟩, Nx.same h g b (grownBy_re w)⟩
  | some x =>
    have hr := b.refs k x hk
    have hr1 := g.refs k x hk
    have htot := b.tot
    have hes := b.es
    have hpl := g.len
    by_cases h2 : 2 ≤ x.refs
    · obtain ⟨r, hrr⟩ : ∃ r, x.refs = r + 2 := ⟨x.refs - 2, by omega⟩
      refine (sys_Unref h hk hrr (by omega)).mono ?_
      rintro e w' ⟨rfl, F', h1, h2⟩
      exact ⟨⟨_, rfl, fun _ => rfl⟩, F', _, h1, g.ref h.hsd hk (Nat.succ_pos _), b.kd hk (by show r + 1 ≤ _; omega), h2⟩
    · have h1 : x.refs = 1 := by omega
      obtain ⟨refs, kd⟩ := x
      cases kd with
      | file n a r wr m =>
        obtain ⟨⟨y, hy, hyk⟩, ha⟩ := g.file k _ hk n a r wr m rfl
        have hge := total_ge (f := nF n) hk
        have e1 : nF n (⟨refs, .file n a r wr m⟩ : Hd) = 1 := by unfold nF; simp
        have hho := g.holds n y hy
        refine (sys_last_fileG h hk h1 rfl hy (by omega) (g.few h b hB hx hy)).mono ?_
        rintro e w' ⟨rfl, F', top', xs', htp, h3, h4⟩
        exact ⟨⟨_, rfl, fun _ => rfl⟩, F', _, h3, g.goneFile h.hsd hk rfl hy top' xs', b.gone _ s.es s.pp rfl htp xs', h4⟩
      | text T a =>
        refine (sys_last_text h hk h1 rfl).mono ?_
        rintro e w' ⟨rfl, F', top', xs', htp, h3, h4⟩
        exact ⟨⟨_, rfl, fun _ => rfl⟩, F', _, h3, g.gone h.hsd hk (fun _ => rfl) (fun _ => rfl) (fun _ => rfl) top' xs', b.gone s.nds s.es s.pp rfl htp xs', h4⟩
      | sink l m =>
        refine (sys_last_sink h hk h1 rfl).mono ?_
        rintro e w' ⟨rfl, F', top', xs', htp, h3, h4⟩
        exact ⟨⟨_, rfl, fun _ => rfl⟩, F', _, h3, g.gone h.hsd hk (fun _ => rfl) (fun _ => rfl) (fun _ => rfl) top' xs', b.gone s.nds s.es s.pp rfl htp xs', h4⟩
      | rd p =>
        have hp := g.pipe k _ hk p (.inl rfl)
        obtain ⟨⟨pb, bb, ends⟩, hpp⟩ : ∃ q, s.pp[p]? = some q := ⟨_, List.getElem?_eq_getElem hp⟩
        obtain ⟨q1, q2, q3, o, q4, q5⟩ := g.ends p pb bb ends hpp
        have hge := total_ge (f := nR p) hk
        have e1 : nR p (⟨refs, .rd p⟩ : Hd) = 1 := by unfold nR; simp
        by_cases h2 : ends = 2
        · subst h2
          refine (sys_last_rd1T h hk h1 rfl hpp).mono ?_
          rintro e w' ⟨rfl, F', top', xs', htp, h3, h4⟩
          exact ⟨⟨_, rfl, fun _ => rfl⟩, F', _, h3, g.goneEnd h.hsd hk (.inl rfl) hpp (o' := o) (q5.trans (by simp)) (set_here q4) top' xs', b.gone s.nds s.es _ rfl htp xs', h4⟩
        · obtain rfl : ends = 1 := by omega
          obtain ⟨bf, rfl⟩ := Option.isSome_iff_exists.1 (q5.2 (Nat.one_pos))
          refine (sys_last_rd0T h hk h1 rfl hpp q4 (by omega) (by omega)).mono ?_
          rintro e w' ⟨rfl, F', top', xs', htp, h3, h4⟩
          exact ⟨⟨_, rfl, fun _ => rfl⟩, F', _, h3, g.goneEnd h.hsd hk (.inl rfl) hpp (o' := none) (by simp) rfl top' xs', b.gone s.nds _ _ (List.length_set ..) htp xs', h4⟩
      | wr p =>
        have hp := g.pipe k _ hk p (.inr rfl)
        obtain ⟨⟨pb, bb, ends⟩, hpp⟩ : ∃ q, s.pp[p]? = some q := ⟨_, List.getElem?_eq_getElem hp⟩
        obtain ⟨q1, q2, q3, o, q4, q5⟩ := g.ends p pb bb ends hpp
        have hge := total_ge (f := nW p) hk
        have e1 : nW p (⟨refs, .wr p⟩ : Hd) = 1 := by unfold nW; simp
        by_cases h2 : ends = 2
        · subst h2
          refine (sys_last_wr1T h hk h1 rfl hpp).mono ?_
          rintro e w' ⟨rfl, F', top', xs', htp, h3, h4⟩
          exact ⟨⟨_, rfl, fun _ => rfl⟩, F', _, h3, g.goneEnd h.hsd hk (.inr rfl) hpp (o' := o) (q5.trans (by simp)) (set_here q4) top' xs', b.gone s.nds s.es _ rfl htp xs', h4⟩
        · obtain rfl : ends = 1 := by omega
          obtain ⟨bf, rfl⟩ := Option.isSome_iff_exists.1 (q5.2 (Nat.one_pos))
          refine (sys_last_wr0T h hk h1 rfl hpp q4 (by omega) (by omega)).mono ?_
          rintro e w' ⟨rfl, F', top', xs', htp, h3, h4⟩
          exact ⟨⟨_, rfl, fun _ => rfl⟩, F', _, h3, g.goneEnd h.hsd hk (.inr rfl) hpp (o' := none) (by simp) rfl top' xs', b.gone s.nds _ _ (List.length_set ..) htp xs', h4⟩
theorem Good.pipeEnd (g : Good ext s) {x : Hd} (hk : look s.hs k = some x) {p : Nat} (hp : x.kd = .rd p ∨ x.kd = .wr p) : ∃ pb bb ends bf, s.pp[p]? = some (pb, bb, ends) ∧ s.es[p]? = some (bb, some bf) := by
  have hpl := g.pipe k x hk p hp
  obtain ⟨⟨pb, bb, ends⟩, hpp⟩ : ∃ q, s.pp[p]? = some q := ⟨_, List.getElem?_eq_getElem hpl⟩
  obtain ⟨q1, q2, q3, o, q4, q5⟩ := g.ends p pb bb ends hpp
  have hg1 := total_ge (f := nR p) hk
  have hg2 := total_ge (f := nW p) hk
  have : 1 ≤ nR p x + nW p x := by
    unfold nR nW
    rcases hp with hp | hp <;> simp [hp]
  obtain ⟨bf, rfl⟩ := Option.isSome_iff_exists.1 (q5.2 (by omega))
  exact ⟨pb, bb, ends, bf, hpp, q4⟩
theorem Bnd.same (b : Bnd s B) {es : List Ent} (hl : es.length = s.es.length) {t : Nat} (ht : t ≤ s.tot + 100) : Bnd { s with es := es, tot := t } (B + 1) where
  tot := by have := b.tot; show t ≤ _; omega
  top := by have := b.top; show s.top ≤ _; omega
  es := by have := b.es; show es.length ≤ _; omega
  refs := fun j z hz => Nat.le_trans (b.refs j z hz) (Nat.le_succ _)
theorem Bnd.nds (b : Bnd s B) (nds : Nds) : Bnd { s with nds := nds } B := ⟨b.tot, b.top, b.es, b.refs⟩
theorem take_drop_le (d : List UInt8) (a j : Nat) (hd : d.length ≤ 4096) (ha : a ≤ 4096) : a + ((d.drop a).take j).length ≤ 4096 := by
  rw [List.length_take, List.length_drop]
  omega
theorem op_Read (h : Sys w F c s) (g : Good ext s) (b : Bnd s B) (hB : B ≤ 1000) (k j : Int) (hj : j ≤ 9223372036854775807) :
    Calls Tryz.prog 40 #[ptrV c.tb, .int .i64 k, .int .i64 j] w fun e w' => (∃ S er, e = .returned (.tuple #[.string S, .int .i64 er])) ∧ Nx ext c (B + 1) F w w' := by
  cases hk : look s.hs k with
  | none =>
    refine (sys_Read_none h hk j).mono ?_
    rintro e w' ⟨rfl, hw⟩
    obtain rfl := hw.symm
    exact ⟨⟨_, _, rfl⟩, Nx.same h g b (grownBy_re w)⟩
  | some x =>
    have hr := b.refs k x hk
    have hr1 := g.refs k x hk
    have htot := b.tot
    obtain ⟨refs, kd⟩ := x
    cases kd with
    | file n a r wr m =>
      obtain ⟨⟨y, hy, hyk⟩, ha⟩ := g.file k _ hk n a r wr m rfl
      cases r with
      | false =>
        refine (sys_Read_file_no (r := true) h hk rfl j).mono ?_
        rintro e w' ⟨rfl, hw⟩
        exact ⟨⟨_, _, rfl⟩, Nx.same h g b hw⟩
      | true =>
        by_cases hj0 : j < 0
        · refine (sys_Read_file_neg (r := true) h hk rfl j hj0).mono ?_
          rintro e w' ⟨rfl, hw⟩
          exact ⟨⟨_, _, rfl⟩, Nx.same h g b hw⟩
        · obtain ⟨i, rfl⟩ : ∃ i : Nat, j = (i : Int) := ⟨j.toNat, by omega⟩
          have hd := h.data hy
          refine (sys_read_file h hk rfl hy (by omega) (by omega) i (by omega) (by omega)).mono ?_
          rintro e w' ⟨rfl, F', h1, h2⟩
          refine ⟨⟨_, _, rfl⟩, F', _, h1, g.kd h.hsd hk hr1 (fun _ => rfl) (fun _ => rfl) (fun _ => rfl) (fun n' a' r' w' m' e => ?_) (fun p e => by rcases e with e | e <;> cases e), b.kd hk (Nat.le_succ_of_le hr), h2⟩
          simp only [Kd.file.injEq] at e
          obtain ⟨rfl, rfl, rfl, rfl, rfl⟩ := e
          exact ⟨take_drop_le _ _ _ hd ha, a, rfl⟩
    | text T a =>
      by_cases hj0 : j < 0
      · refine (sys_Read_text_neg h hk (T := ⟨T.toArray⟩) rfl j hj0).mono ?_
        rintro e w' ⟨rfl, hw⟩
        exact ⟨⟨_, _, rfl⟩, Nx.same h g b hw⟩
      · obtain ⟨i, rfl⟩ : ∃ i : Nat, j = (i : Int) := ⟨j.toNat, by omega⟩
        refine (sys_read_text h hk (S := ⟨T.toArray⟩) rfl i).mono ?_
        rintro e w' ⟨rfl, F', h1, h2⟩
        exact ⟨⟨_, _, rfl⟩, F', _, h1, g.kd h.hsd hk hr1 (fun _ => rfl) (fun _ => rfl) (fun _ => rfl) (fun n' a' r' w' m' e => by cases e) (fun p e => by rcases e with e | e <;> cases e), b.kd hk (Nat.le_succ_of_le hr), h2⟩
    | sink l m =>
      refine (sys_Read_sink h hk rfl j).mono ?_
      rintro e w' ⟨rfl, hw⟩
      exact ⟨⟨_, _, rfl⟩, Nx.same h g b hw⟩
    | rd p =>
      obtain ⟨pb, bb, ends, bf, hpp, he⟩ := g.pipeEnd hk (.inl rfl)
      by_cases hj0 : j < 0
      · refine (sys_Read_rd_neg h hk rfl hpp he j hj0).mono ?_
        rintro e w' ⟨rfl, hw⟩
        exact ⟨⟨_, _, rfl⟩, Nx.same h g b hw⟩
      · obtain ⟨i, rfl⟩ : ∃ i : Nat, j = (i : Int) := ⟨j.toNat, by omega⟩
        refine (sys_read_rd h hk rfl hpp he i (by omega)).mono ?_
        rintro e w' ⟨rfl, F', b', h1, h2, _, _⟩
        exact ⟨⟨_, _, rfl⟩, F', _, h1, g.buf he s.tot, b.same (List.length_set ..) (by omega), h2⟩
    | wr p =>
      obtain ⟨pb, bb, ends, bf, hpp, he⟩ := g.pipeEnd hk (.inr rfl)
      refine (sys_Read_wr h hk rfl hpp j).mono ?_
      rintro e w' ⟨rfl, hw⟩
      exact ⟨⟨_, _, rfl⟩, Nx.same h g b hw⟩
/-- A node's bytes and the place of one handle of it change. -/
theorem Good.wrote (g : Good ext s) (h : Sys w F c s) {x : Hd} (hk : look s.hs k = some x) {n : Int} {a : Nat} {r wr m : Bool} (hx : x.kd = .file n a r wr m) {y : Pn} (hy : look s.nds n = some y) (d : List UInt8) {a' : Nat} (ha : a' ≤ 4096) :
    Good ext { s with nds := upd s.nds n { y with data := d }, hs := upd s.hs k { x with kd := .file n a' r wr m } } :=
  (g.bytes hy d).kd (s := { s with nds := upd s.nds n { y with data := d } }) (y := { x with kd := .file n a' r wr m }) h.hsd hk (g.refs k x hk) (fun j => by unfold nF; rw [hx]) (fun j => by unfold nR; rw [hx]) (fun j => by unfold nW; rw [hx]) (fun n' b r' w' m' e => by
    simp only [Kd.file.injEq] at e
    obtain ⟨rfl, rfl, rfl, rfl, rfl⟩ := e
    exact ⟨ha, a, hx⟩) (fun p e => by rcases e with e | e <;> cases e)
theorem Sys.used (h : Sys w F c s) : usedN s.nds ≤ c.room := by
  obtain ⟨Ft, Fp, Fh, h, hF⟩ := h
  obtain ⟨lab, mb, mem, hT, hFt⟩ := h.tree
  exact hT.lim.2.2
theorem Good.place (g : Good ext s) (h : Sys w F c s) {x : Hd} (hk : look s.hs k = some x) {n : Int} {a : Nat} {r wr m : Bool} (hx : x.kd = .file n a r wr m) {a' : Nat} (ha : a' ≤ 4096) :
    Good ext { s with hs := upd s.hs k { x with kd := .file n a' r wr m } } :=
  g.kd (y := { x with kd := .file n a' r wr m }) h.hsd hk (g.refs k x hk) (fun j => by unfold nF; rw [hx]) (fun j => by unfold nR; rw [hx]) (fun j => by unfold nW; rw [hx]) (fun n' b r' w' m' e => by
    simp only [Kd.file.injEq] at e
    obtain ⟨rfl, rfl, rfl, rfl, rfl⟩ := e
    exact ⟨ha, a, hx⟩) (fun p e => by rcases e with e | e <;> cases e)
theorem op_Write (h : Sys w F c s) (g : Good ext s) (b : Bnd s B) (hB : B ≤ 1000) (k : Int) (t : ByteArray) (ht : t.size ≤ 100) :
    Calls Tryz.prog 42 #[ptrV c.tb, .int .i64 k, .string t] w fun e w' => (∃ er, e = .returned (.int .i64 er)) ∧ Nx ext c (B + 1) F w w' := by
  cases hk : look s.hs k with
  | none =>
    refine (sys_Write_none h hk t).mono ?_
    rintro e w' ⟨rfl, hw⟩
    obtain rfl := hw.symm
    exact ⟨⟨_, rfl⟩, Nx.same h g b (grownBy_re w)⟩
  | some x =>
    have hr := b.refs k x hk
    have hr1 := g.refs k x hk
    have htot := b.tot
    obtain ⟨refs, kd⟩ := x
    cases kd with
    | file n a r wr m =>
      obtain ⟨⟨y, hy, hyk⟩, ha⟩ := g.file k _ hk n a r wr m rfl
      have hd := h.data hy
      have hnl : nmsLen y = 0 := by unfold nmsLen; rw [(g.nms n y hy).2 hyk]
      cases wr with
      | false =>
        refine (sys_Write_file_no (wr := true) h hk rfl t).mono ?_
        rintro e w' ⟨rfl, hw⟩
        exact ⟨⟨_, rfl⟩, Nx.same h g b hw⟩
      | true =>
        cases m with
        | false =>
          by_cases hbig : 4096 < a + t.size
          · refine (sys_write_file_err h hk rfl t (fun Ft => refuses_big hy hyk a t (by omega) (by omega) hbig) (by decide)).mono ?_
            rintro e w' ⟨rfl, F', h1, h2⟩
            exact ⟨⟨_, rfl⟩, F', _, h1, g, b.le (Nat.le_succ _), h2⟩
          · by_cases hroom : t.size = 0 ∨ usedN s.nds + (a + t.size - y.data.length) ≤ c.room
            · refine (sys_write_file h hk rfl hy hyk t (by omega) hroom).mono ?_
              rintro e w' ⟨rfl, F', h1, h2⟩
              exact ⟨⟨_, rfl⟩, F', _, h1, g.wrote h hk rfl hy _ (by omega), (b.kd (y := ⟨refs, .file n (a + t.size) r true false⟩) hk (Nat.le_succ_of_le hr)).nds _, h2⟩
            · have hu := h.used
              refine (sys_write_file_err h hk rfl t (fun Ft => refuses_room hy hyk a t (by omega) (by omega) (by omega) (by omega)) (by decide)).mono ?_
              rintro e w' ⟨rfl, F', h1, h2⟩
              exact ⟨⟨_, rfl⟩, F', _, h1, g, b.le (Nat.le_succ _), h2⟩
        | true =>
          have hu := h.used
          by_cases hbig : 4096 < y.data.length + t.size
          · refine (sys_write_more_err h hk rfl hy hyk hnl hd t (fun Ft => refuses_big hy hyk _ t (by omega) (by omega) hbig) (by decide)).mono ?_
            rintro e w' ⟨rfl, F', h1, h2⟩
            exact ⟨⟨_, rfl⟩, F', _, h1, g.place h hk rfl hd, b.kd hk (Nat.le_succ_of_le hr), h2⟩
          · by_cases hroom : usedN s.nds + t.size ≤ c.room
            · refine (sys_write_more h hk rfl hy hyk hnl t (by omega) hroom).mono ?_
              rintro e w' ⟨rfl, F', h1, h2⟩
              exact ⟨⟨_, rfl⟩, F', _, h1, g.wrote h hk rfl hy _ (by omega), (b.kd (y := ⟨refs, .file n (y.data.length + t.size) r true true⟩) hk (Nat.le_succ_of_le hr)).nds _, h2⟩
            · refine (sys_write_more_err h hk rfl hy hyk hnl hd t (fun Ft => refuses_room hy hyk _ t (by omega) (by omega) (by omega) (by omega)) (by decide)).mono ?_
              rintro e w' ⟨rfl, F', h1, h2⟩
              exact ⟨⟨_, rfl⟩, F', _, h1, g.place h hk rfl hd, b.kd hk (Nat.le_succ_of_le hr), h2⟩
    | text T a =>
      refine (sys_Write_text h hk (T := ⟨T.toArray⟩) rfl t).mono ?_
      rintro e w' ⟨rfl, hw⟩
      exact ⟨⟨_, rfl⟩, Nx.same h g b hw⟩
    | sink l m =>
      refine (sys_write_sink h hk rfl t (by omega)).mono ?_
      rintro e w' (⟨_, rfl, F', h1, h2⟩ | ⟨_, rfl, h1, h2⟩)
      · exact ⟨⟨_, rfl⟩, F', _, h1, g.kd h.hsd hk hr1 (fun _ => rfl) (fun _ => rfl) (fun _ => rfl) (fun n' a' r' w' m' e => by cases e) (fun p e => by rcases e with e | e <;> cases e), b.kd hk (Nat.le_succ_of_le hr), h2⟩
      · exact ⟨⟨_, rfl⟩, F, s, h1, g, b.le (Nat.le_succ _), h2⟩
    | rd p =>
      obtain ⟨pb, bb, ends, bf, hpp, he⟩ := g.pipeEnd hk (.inl rfl)
      refine (sys_Write_rd h hk rfl hpp t).mono ?_
      rintro e w' ⟨rfl, hw⟩
      exact ⟨⟨_, rfl⟩, Nx.same h g b hw⟩
    | wr p =>
      obtain ⟨pb, bb, ends, bf, hpp, he⟩ := g.pipeEnd hk (.inr rfl)
      refine (sys_write_wr h hk rfl hpp he t (by omega)).mono ?_
      rintro e w' (⟨_, rfl, F', b', h1, h2, _, _⟩ | ⟨_, rfl, F', h1, h2⟩)
      · exact ⟨⟨_, rfl⟩, F', _, h1, g.buf he _, b.same (List.length_set ..) (by omega), h2⟩
      · exact ⟨⟨_, rfl⟩, F', s, h1, g, b.le (Nat.le_succ _), h2⟩
theorem op_File (h : Sys w F c s) (g : Good ext s) (b : Bnd s B) (hB : B ≤ 1000) (hx : ∀ n, ext n ≤ 100000) (n : Int) (r wr m : Bool) :
    Calls Tryz.prog 38 #[ptrV c.tb, .int .i64 n, .agg #[.bool r, .bool wr, .bool m]] w fun e w' => (∃ id er, e = .returned (.tuple #[.int .i64 id, .int .i64 er])) ∧ Nx ext c (B + 1) F w w' := by
  have htop := b.top
  cases hy : look s.nds n with
  | none =>
    refine (sys_File_none h hy r wr m).mono ?_
    rintro e w' ⟨rfl, hw⟩
    exact ⟨⟨_, _, rfl⟩, Nx.same h g b hw⟩
  | some y =>
    have hnl := (g.nms n y hy).1
    by_cases h2 : y.kind = 2
    · by_cases hm : r = false ∧ wr = false
      · refine (sys_File_kind h hy (by omega) r wr m 1 (.inr (.inr ⟨h2, hm.1, hm.2, rfl⟩))).mono ?_
        rintro e w' ⟨rfl, hw⟩
        exact ⟨⟨_, _, rfl⟩, Nx.same h g b hw⟩
      · have hho := g.few h b hB hx hy
        have fin : ∀ e w', (∃ kk, e = Ending.returned (.tuple #[.int .i64 kk, .int .i64 0]) ∧ Least (ids s.hs) kk ∧ ∃ F' top' xs', top' ≤ s.top + 1 ∧ Sys w' F' c { s with nds := upd s.nds n { y with holds := y.holds + 1 }, hs := s.hs ++ [(kk, ⟨1, .file n 0 r wr m⟩)], top := top', xs := xs' } ∧ Chg F F' w w') → (∃ id er, e = .returned (.tuple #[.int .i64 id, .int .i64 er])) ∧ Nx ext c (B + 1) F w w' := by
          rintro e w' ⟨kk, rfl, hle, F', top', xs', htp, h3, h4⟩
          exact ⟨⟨_, _, rfl⟩, F', _, h3, g.newFile (not_mem_hs hle) hy h2 r wr m top' xs', b.new (not_mem_hs hle) _ _ htp xs', h4⟩
        cases r <;> cases wr
        · exact absurd ⟨rfl, rfl⟩ hm
        · exact (sys_File_wG h (by omega) hy h2 hho (by omega) m).mono fin
        · exact (sys_File_rG h (by omega) hy h2 hho (by omega) m).mono fin
        · exact (sys_File_rwG h (by omega) hy h2 hho (by omega) m).mono fin
    · by_cases h1 : y.kind = 1
      · refine (sys_File_kind h hy (by omega) r wr m 13 (.inl ⟨h1, rfl⟩)).mono ?_
        rintro e w' ⟨rfl, hw⟩
        exact ⟨⟨_, _, rfl⟩, Nx.same h g b hw⟩
      · refine (sys_File_kind h hy (by omega) r wr m 1 (.inr (.inl ⟨h1, h2, rfl⟩))).mono ?_
        rintro e w' ⟨rfl, hw⟩
        exact ⟨⟨_, _, rfl⟩, Nx.same h g b hw⟩
theorem op_Text (h : Sys w F c s) (g : Good ext s) (b : Bnd s B) (hB : B ≤ 1000) (t : ByteArray) (ht : t.size ≤ 100) :
    Calls Tryz.prog 51 #[ptrV c.tb, .string t] w fun e w' => (∃ id er, e = .returned (.tuple #[.int .i64 id, .int .i64 er])) ∧ Nx ext c (B + 1) F w w' := by
  have htop := b.top
  refine (sys_TextG h (by omega) t (by omega)).mono ?_
  rintro e w' ⟨kk, rfl, hle, F', top', xs', htp, h3, h4⟩
  exact ⟨⟨_, _, rfl⟩, F', _, h3, g.new (not_mem_hs hle) (Nat.le_refl _) (fun _ => rfl) (fun _ => rfl) (fun _ => rfl) top' xs', b.new (not_mem_hs hle) s.nds _ htp xs', h4⟩
theorem op_Sink (h : Sys w F c s) (g : Good ext s) (b : Bnd s B) (hB : B ≤ 1000) (n : Int) :
    Calls Tryz.prog 52 #[ptrV c.tb, .int .i64 n] w fun e w' => (∃ id er, e = .returned (.tuple #[.int .i64 id, .int .i64 er])) ∧ Nx ext c (B + 1) F w w' := by
  have htop := b.top
  by_cases hn : n < 0 ∨ 1048576 < n
  · refine (sys_Sink_bad h n hn).mono ?_
    rintro e w' ⟨rfl, hw⟩
    exact ⟨⟨_, _, rfl⟩, Nx.same h g b hw⟩
  · obtain ⟨i, rfl⟩ : ∃ i : Nat, n = (i : Int) := ⟨n.toNat, by omega⟩
    refine (sys_SinkG h (by omega) i (by omega)).mono ?_
    rintro e w' ⟨kk, rfl, hle, F', top', xs', htp, h3, h4⟩
    exact ⟨⟨_, _, rfl⟩, F', _, h3, g.new (not_mem_hs hle) (Nat.le_refl _) (fun _ => rfl) (fun _ => rfl) (fun _ => rfl) top' xs', b.new (not_mem_hs hle) s.nds _ htp xs', h4⟩
theorem op_Pipe (h : Sys w F c s) (g : Good ext s) (b : Bnd s B) (hB : B ≤ 1000) :
    Calls Tryz.prog 41 #[ptrV c.tb] w fun e w' => (∃ i j, e = .returned (.tuple #[.int .i64 i, .int .i64 j, .int .i64 0]) ∧ 1 ≤ i ∧ i ≤ 3000 ∧ 1 ≤ j ∧ j ≤ 3000) ∧ Nx ext c (B + 1) F w w' := by
  have htop := b.top
  have hes := b.es
  refine (sys_PipeG h (by omega) (by omega)).mono ?_
  rintro e w' ⟨k1, k2, rfl, hle1, hle2, F', pb, bb, top', xs', htp, h3, h4⟩
  have hn1 := not_mem_hs hle1
  have hn2 : look (s.hs ++ [(k1, (⟨1, .rd s.pp.length⟩ : Hd))]) k2 = none := look_none.2 fun p hp e => hle2.2.1 (by
    rcases List.mem_append.1 hp with hp | hp
    · exact List.mem_append_left _ (by rw [← e]; exact List.mem_map.2 ⟨p, hp, rfl⟩)
    · rw [List.mem_singleton] at hp
      subst hp
      exact List.mem_append_right _ (by rw [← e]; exact List.mem_singleton.2 rfl))
  have hb : ∀ i : Int, i ∈ ids (s.hs ++ [(k1, (⟨1, .rd s.pp.length⟩ : Hd))] ++ [(k2, ⟨1, .wr s.pp.length⟩)]) → 1 ≤ i ∧ i ≤ 3000 := fun i hi => by
    have h3' := h3
    obtain ⟨Ft, Fp, Fh, h3', hF⟩ := h3'
    obtain ⟨lab, mb, mem, v, hT, hFh⟩ := h3'.tab
    have := (hT.num.all i).2 (.inl hi)
    have q : top' ≤ s.top + 2 := htp
    have q2 : (top' : Int) ≤ 3000 := by omega
    exact ⟨this.1, Int.le_trans this.2 q2⟩
  refine ⟨⟨k1, k2, rfl, (hb k1 (by simp [ids])).1, (hb k1 (by simp [ids])).2, (hb k2 (by simp [ids])).1, (hb k2 (by simp [ids])).2⟩, F', _, h3, g.newPipe h.hsd hn1 hn2 pb bb _ top' xs', b.newPipe hn1 hn2 pb bb _ htp xs', h4⟩
end
end Go.Proofs.YtbjakhiflgjflaaGreatDoor

namespace Go.Proofs.YtbjakhiflgjflaaGreatDoor
open Go Go.RowKit Go.ChangeMaps

def val (f : Hd → Nat) (hs : Hs) (i : Int) : Nat := match look hs i with | some x => f x | none => 0
def sumI (f : Hd → Nat) (hs : Hs) : List Int → Nat
  | [] => 0
  | i :: l => val f hs i + sumI f hs l
theorem sumI_perm {f : Hd → Nat} {hs : Hs} {l l' : List Int} (h : l.Perm l') : sumI f hs l = sumI f hs l' := by
  induction h with
  | nil => rfl
  | cons x _ ih => simp only [sumI, ih]
  | swap x y l => simp only [sumI]; omega
  | trans _ _ h1 h2 => exact h1.trans h2
theorem sumI_map {f : Hd → Nat} {hs : Hs} : ∀ m : Hs, (∀ p ∈ m, look hs p.1 = some p.2) → sumI f hs (m.map (·.1)) = total f m
  | [], _ => rfl
  | p :: m, h => by
    have h1 := h p (List.mem_cons_self ..)
    have h2 := sumI_map (f := f) m fun q hq => h q (List.mem_cons_of_mem _ hq)
    show val f hs p.1 + sumI f hs (m.map (·.1)) = f p.2 + total f m
    unfold val
    rw [h1, h2]
theorem sumI_ids {f : Hd → Nat} {hs : Hs} (hd : hs.Pairwise (fun p q => p.1 ≠ q.1)) : sumI f hs (ids hs) = total f hs :=
  sumI_map hs fun p hp => look_of_mem hd hp
theorem sumI_app {f : Hd → Nat} {hs : Hs} (l m : List Int) : sumI f hs (l ++ m) = sumI f hs l + sumI f hs m := by
  induction l with
  | nil => simp [sumI]
  | cons a l ih => simp only [List.cons_append, sumI, ih]; omega
theorem sumI_succ {f : Hd → Nat} {hs : Hs} {l : List Int} {k : Nat} (hk : k < l.length) : sumI f hs (l.take (k + 1)) = sumI f hs (l.take k) + val f hs l[k] := by
  rw [List.take_succ_eq_append_getElem hk, sumI_app]
  rfl
theorem sumI_le {f : Hd → Nat} {hs : Hs} {l : List Int} (k : Nat) : sumI f hs (l.take k) ≤ sumI f hs l := by
  have := sumI_app (f := f) (hs := hs) (l.take k) (l.drop k)
  rw [List.take_append_drop] at this
  omega
def sumN : Nat → (Nat → Nat) → Nat
  | 0, _ => 0
  | n + 1, f => sumN n f + f n
theorem sumN_add (n : Nat) (f g : Nat → Nat) : sumN n (fun p => f p + g p) = sumN n f + sumN n g := by
  induction n with
  | zero => rfl
  | succ n ih => simp only [sumN, ih]; omega
theorem sumN_le {n : Nat} {f g : Nat → Nat} (h : ∀ p, p < n → f p ≤ g p) : sumN n f ≤ sumN n g := by
  induction n with
  | zero => exact Nat.le_refl _
  | succ n ih =>
    have h1 := ih fun p hp => h p (by omega)
    have h2 := h n (by omega)
    simp only [sumN]
    omega
theorem sumN_eq {n : Nat} {f g : Nat → Nat} (h : ∀ p, p < n → f p = g p) : sumN n f = sumN n g :=
  Nat.le_antisymm (sumN_le fun p hp => Nat.le_of_eq (h p hp)) (sumN_le fun p hp => Nat.le_of_eq (h p hp).symm)
theorem sumN_zero (n : Nat) : sumN n (fun _ => 0) = 0 := by
  induction n with
  | zero => rfl
  | succ n ih => simp only [sumN, ih]
theorem sumN_one (n q : Nat) : sumN n (fun p => if q = p then 1 else 0) = if q < n then 1 else 0 := by
  induction n with
  | zero => rfl
  | succ n ih =>
    simp only [sumN, ih]
    split <;> split <;> split <;> omega
def isRd (x : Hd) : Nat := match x.kd with | .rd _ => 1 | _ => 0
def isWr (x : Hd) : Nat := match x.kd with | .wr _ => 1 | _ => 0
theorem rd_sum (x : Hd) (N : Nat) (h : ∀ p, x.kd = .rd p → p < N) : isRd x = sumN N fun p => nR p x := by
  obtain ⟨refs, kd⟩ := x
  cases kd with
  | rd q =>
    show 1 = sumN N fun p => if q = p then 1 else 0
    rw [sumN_one, if_pos (h q rfl)]
  | file _ _ _ _ _ => exact (sumN_zero N).symm
  | text _ _ => exact (sumN_zero N).symm
  | sink _ _ => exact (sumN_zero N).symm
  | wr q => exact (sumN_zero N).symm
theorem wr_sum (x : Hd) (N : Nat) (h : ∀ p, x.kd = .wr p → p < N) : isWr x = sumN N fun p => nW p x := by
  obtain ⟨refs, kd⟩ := x
  cases kd with
  | wr q =>
    show 1 = sumN N fun p => if q = p then 1 else 0
    rw [sumN_one, if_pos (h q rfl)]
  | file _ _ _ _ _ => exact (sumN_zero N).symm
  | text _ _ => exact (sumN_zero N).symm
  | sink _ _ => exact (sumN_zero N).symm
  | rd q => exact (sumN_zero N).symm
theorem total_sum {f : Hd → Nat} {g : Nat → Hd → Nat} (N : Nat) : ∀ hs : Hs, (∀ q ∈ hs, f q.2 = sumN N fun p => g p q.2) → total f hs = sumN N fun p => total (g p) hs
  | [], _ => (sumN_zero N).symm
  | q :: hs, h => by
    have h1 := h q (List.mem_cons_self ..)
    have h2 := total_sum N hs fun r hr => h r (List.mem_cons_of_mem _ hr)
    show f q.2 + total f hs = sumN N fun p => g p q.2 + total (g p) hs
    rw [h1, h2, sumN_add]
theorem tally_sum {α : Type} (f : α → Nat) (l : List α) : ∀ n, n ≤ l.length → tally f (l.take n) = sumN n fun p => (l[p]?.map f).getD 0
  | 0, _ => rfl
  | n + 1, h => by
    rw [List.take_succ_eq_append_getElem (by omega), tally_app, tally_sum f l n (by omega)]
    show _ + f l[n] = sumN n _ + (l[n]?.map f).getD 0
    rw [List.getElem?_eq_getElem (show n < l.length by omega)]
    rfl
section
variable {w : World} {F : Nat → Prop} {c : Sy} {s : St} {ext : Ext} {B : Nat} {k : Int}
theorem Good.opens (g : Good ext s) (hd : s.hs.Pairwise (fun p q => p.1 ≠ q.1)) : total isRd s.hs ≤ tally openOf s.es ∧ total isWr s.hs ≤ tally openOf s.es ∧ tally openOf s.es ≤ total isRd s.hs + total isWr s.hs := by
  have h1 := total_sum (f := isRd) (g := nR) s.pp.length s.hs fun q hq => rd_sum q.2 _ fun p hp => g.pipe q.1 q.2 (look_of_mem hd hq) p (.inl hp)
  have h2 := total_sum (f := isWr) (g := nW) s.pp.length s.hs fun q hq => wr_sum q.2 _ fun p hp => g.pipe q.1 q.2 (look_of_mem hd hq) p (.inr hp)
  have h3 := tally_sum openOf s.es s.es.length (Nat.le_refl _)
  rw [List.take_length, g.len] at h3
  have hp : ∀ p, p < s.pp.length → total (nR p) s.hs ≤ (s.es[p]?.map openOf).getD 0 ∧ total (nW p) s.hs ≤ (s.es[p]?.map openOf).getD 0 ∧ (s.es[p]?.map openOf).getD 0 ≤ total (nR p) s.hs + total (nW p) s.hs := fun p hp => by
    obtain ⟨⟨pb, bb, e⟩, hpp⟩ : ∃ q, s.pp[p]? = some q := ⟨_, List.getElem?_eq_getElem hp⟩
    obtain ⟨q1, q2, q3, o, q4, q5⟩ := g.ends p pb bb e hpp
    rw [q4]
    cases o with
    | none =>
      have : ¬ 0 < e := fun h => by simpa using q5.2 h
      show _ ≤ 0 ∧ _ ≤ 0 ∧ 0 ≤ _
      omega
    | some b =>
      have : 0 < e := q5.1 rfl
      show _ ≤ 1 ∧ _ ≤ 1 ∧ 1 ≤ _
      omega
  rw [h1, h2, h3]
  refine ⟨sumN_le fun p h => (hp p h).1, sumN_le fun p h => (hp p h).2.1, ?_⟩
  rw [← sumN_add]
  exact sumN_le fun p h => (hp p h).2.2
theorem held_none {es : List Ent} (h : tally openOf es = 0) : tally heldOf es = 0 := by
  induction es with
  | nil => rfl
  | cons e l ih =>
    obtain ⟨bb, o⟩ := e
    have h' : openOf (bb, o) + tally openOf l = 0 := h
    cases o with
    | none =>
      show 0 + tally heldOf l = 0
      rw [ih (by omega)]
    | some b => exact absurd h' (by show 1 + _ ≠ 0; omega)
theorem Bnd.less (b : Bnd s B) (nds : Nds) (es : List Ent) (pp : Pps) (hes : es.length = s.es.length) {top : Nat} (ht : top ≤ s.top) (xs : List Int) : Bnd { s with nds := nds, es := es, pp := pp, hs := dropH s.hs k, top := top, xs := xs } B where
  tot := b.tot
  top := Nat.le_trans ht b.top
  es := by show es.length ≤ _; rw [hes]; exact b.es
  refs := fun j z hz => b.refs j z (look_gone hz).1
/-- What Unref leaves of the handles. -/
def unrefd (hs : Hs) (k : Int) (x : Hd) : Hs := if x.refs = 1 then dropH hs k else upd hs k { x with refs := x.refs - 1 }
theorem op_UnrefX (h : Sys w F c s) (g : Good ext s) (b : Bnd s B) (hB : B ≤ 1000) (hx : ∀ n, ext n ≤ 100000) {x : Hd} (hk : look s.hs k = some x) :
    Calls Tryz.prog 20 #[ptrV c.tb, .int .i64 k] w fun e w' => e = .returned (.int .i64 0) ∧ ∃ F' s', Sys w' F' c s' ∧ Good ext s' ∧ Bnd s' B ∧ Chg F F' w w' ∧ s'.hs = unrefd s.hs k x := by
  have hr := b.refs k x hk
  have hr1 := g.refs k x hk
  have htot := b.tot
  have hes := b.es
  have hpl := g.len
  unfold unrefd
  by_cases h2 : 2 ≤ x.refs
  · obtain ⟨r, hrr⟩ : ∃ r, x.refs = r + 2 := ⟨x.refs - 2, by omega⟩
    rw [if_neg (by omega)]
    refine (sys_Unref h hk hrr (by omega)).mono ?_
    rintro e w' ⟨rfl, F', h1, h2⟩
    have b' : Bnd { s with hs := upd s.hs k { x with refs := r + 1 } } B := ⟨b.tot, b.top, b.es, fun j z hz => by
      replace hz : look (upd s.hs k { x with refs := r + 1 }) j = some z := hz
      rw [look_upd] at hz
      split at hz
      · rw [hk] at hz
        obtain rfl := Option.some.inj hz
        show r + 1 ≤ B
        omega
      · exact b.refs j z hz⟩
    exact ⟨rfl, F', _, h1, g.ref h.hsd hk (Nat.succ_pos _), b', h2, by rw [hrr]; rfl⟩
  · have h1 : x.refs = 1 := by omega
    rw [if_pos h1]
    obtain ⟨refs, kd⟩ := x
    cases kd with
    | file n a r wr m =>
      obtain ⟨⟨y, hy, hyk⟩, ha⟩ := g.file k _ hk n a r wr m rfl
      have hge := total_ge (f := nF n) hk
      have e1 : nF n (⟨refs, .file n a r wr m⟩ : Hd) = 1 := by unfold nF; simp
      have hho := g.holds n y hy
      refine (sys_last_fileG h hk h1 rfl hy (by omega) (g.few h b hB hx hy)).mono ?_
      rintro e w' ⟨rfl, F', top', xs', htp, h3, h4⟩
      exact ⟨rfl, F', _, h3, g.goneFile h.hsd hk rfl hy top' xs', b.less _ s.es s.pp rfl htp xs', h4, rfl⟩
    | text T a =>
      refine (sys_last_text h hk h1 rfl).mono ?_
      rintro e w' ⟨rfl, F', top', xs', htp, h3, h4⟩
      exact ⟨rfl, F', _, h3, g.gone h.hsd hk (fun _ => rfl) (fun _ => rfl) (fun _ => rfl) top' xs', b.less s.nds s.es s.pp rfl htp xs', h4, rfl⟩
    | sink l m =>
      refine (sys_last_sink h hk h1 rfl).mono ?_
      rintro e w' ⟨rfl, F', top', xs', htp, h3, h4⟩
      exact ⟨rfl, F', _, h3, g.gone h.hsd hk (fun _ => rfl) (fun _ => rfl) (fun _ => rfl) top' xs', b.less s.nds s.es s.pp rfl htp xs', h4, rfl⟩
    | rd p =>
      have hp := g.pipe k _ hk p (.inl rfl)
      obtain ⟨⟨pb, bb, ends⟩, hpp⟩ : ∃ q, s.pp[p]? = some q := ⟨_, List.getElem?_eq_getElem hp⟩
      obtain ⟨q1, q2, q3, o, q4, q5⟩ := g.ends p pb bb ends hpp
      have hge := total_ge (f := nR p) hk
      have e1 : nR p (⟨refs, .rd p⟩ : Hd) = 1 := by unfold nR; simp
      by_cases h2 : ends = 2
      · subst h2
        refine (sys_last_rd1T h hk h1 rfl hpp).mono ?_
        rintro e w' ⟨rfl, F', top', xs', htp, h3, h4⟩
        exact ⟨rfl, F', _, h3, g.goneEnd h.hsd hk (.inl rfl) hpp (o' := o) (q5.trans (by simp)) (set_here q4) top' xs', b.less s.nds s.es _ rfl htp xs', h4, rfl⟩
      · obtain rfl : ends = 1 := by omega
        obtain ⟨bf, rfl⟩ := Option.isSome_iff_exists.1 (q5.2 (Nat.one_pos))
        refine (sys_last_rd0T h hk h1 rfl hpp q4 (by omega) (by omega)).mono ?_
        rintro e w' ⟨rfl, F', top', xs', htp, h3, h4⟩
        exact ⟨rfl, F', _, h3, g.goneEnd h.hsd hk (.inl rfl) hpp (o' := none) (by simp) rfl top' xs', b.less s.nds _ _ (List.length_set ..) htp xs', h4, rfl⟩
    | wr p =>
      have hp := g.pipe k _ hk p (.inr rfl)
      obtain ⟨⟨pb, bb, ends⟩, hpp⟩ : ∃ q, s.pp[p]? = some q := ⟨_, List.getElem?_eq_getElem hp⟩
      obtain ⟨q1, q2, q3, o, q4, q5⟩ := g.ends p pb bb ends hpp
      have hge := total_ge (f := nW p) hk
      have e1 : nW p (⟨refs, .wr p⟩ : Hd) = 1 := by unfold nW; simp
      by_cases h2 : ends = 2
      · subst h2
        refine (sys_last_wr1T h hk h1 rfl hpp).mono ?_
        rintro e w' ⟨rfl, F', top', xs', htp, h3, h4⟩
        exact ⟨rfl, F', _, h3, g.goneEnd h.hsd hk (.inr rfl) hpp (o' := o) (q5.trans (by simp)) (set_here q4) top' xs', b.less s.nds s.es _ rfl htp xs', h4, rfl⟩
      · obtain rfl : ends = 1 := by omega
        obtain ⟨bf, rfl⟩ := Option.isSome_iff_exists.1 (q5.2 (Nat.one_pos))
        refine (sys_last_wr0T h hk h1 rfl hpp q4 (by omega) (by omega)).mono ?_
        rintro e w' ⟨rfl, F', top', xs', htp, h3, h4⟩
        exact ⟨rfl, F', _, h3, g.goneEnd h.hsd hk (.inr rfl) hpp (o' := none) (by simp) rfl top' xs', b.less s.nds _ _ (List.length_set ..) htp xs', h4, rfl⟩
/-- Stat of a handle, told by what it is. -/
def kindOf (x : Hd) : Int := match x.kd with | .file .. => 1 | .text .. => 2 | .sink .. => 3 | .rd _ => 4 | .wr _ => 5
def nodeOf (x : Hd) : Int := match x.kd with | .file n .. => n | _ => 0
theorem op_Stat (h : Sys w F c s) (g : Good ext s) (b : Bnd s B) (hB : B ≤ 1000) {x : Hd} (hk : look s.hs k = some x) :
    Calls Tryz.prog 17 #[ptrV c.tb, .int .i64 k] w fun e w' => ∃ (a : Nat) (r wr m : Bool), e = .returned (.tuple #[info7 (kindOf x) (x.refs : Int) (a : Int) (nodeOf x) r wr m, .int .i64 0]) ∧ w.grownBy w' none := by
  have htot := b.tot
  obtain ⟨refs, kd⟩ := x
  cases kd with
  | file n a r wr m =>
    refine (sys_stat_file h hk rfl).mono ?_
    rintro e w' ⟨rfl, hg⟩
    exact ⟨_, _, _, _, rfl, hg⟩
  | text T a =>
    refine (sys_stat_text h hk (T := ⟨T.toArray⟩) rfl).mono ?_
    rintro e w' ⟨rfl, hg⟩
    exact ⟨_, _, _, _, rfl, hg⟩
  | sink l m =>
    refine (sys_stat_sink h hk rfl).mono ?_
    rintro e w' ⟨rfl, hg⟩
    exact ⟨_, _, _, _, rfl, hg⟩
  | rd p =>
    obtain ⟨pb, bb, ends, bf, hpp, he⟩ := g.pipeEnd hk (.inl rfl)
    refine (sys_stat_rd h hk rfl hpp he (by omega)).mono ?_
    rintro e w' ⟨rfl, hg⟩
    exact ⟨_, _, _, _, rfl, hg⟩
  | wr p =>
    obtain ⟨pb, bb, ends, bf, hpp, he⟩ := g.pipeEnd hk (.inr rfl)
    refine (sys_stat_wr h hk rfl hpp he (by omega)).mono ?_
    rintro e w' ⟨rfl, hg⟩
    exact ⟨_, _, _, _, rfl, hg⟩
theorem sys_nstat (h : Sys w F c s) (g : Good ext s) (n : Int) :
    Calls Tryz.prog 18 #[ptrV c.fb, .int .i64 n] w fun e w' => ∃ (a b d er : Int), e = .returned (.tuple #[.agg #[.int .i64 a, .int .i64 b, .int .i64 d, .int .i64 ((total (nF n) s.hs + (if (look s.nds n).isSome then ext n else 0) : Nat) : Int)], .int .i64 er]) ∧ w.grownBy w' none := by
  obtain ⟨Ft, Fp, Fh, h0, hF⟩ := h
  have hh : Sys w F c s := ⟨Ft, Fp, Fh, h0, hF⟩
  obtain ⟨lab, mb, mem, hT, hFt⟩ := h0.tree
  cases hy : look s.nds n with
  | none =>
    refine (stat_none hT hy).mono ?_
    rintro e w' ⟨rfl, hg⟩
    have hz : total (nF n) s.hs = 0 := total_zero fun q hq => by
      have hl := look_of_mem hh.hsd (show (q.1, q.2) ∈ s.hs from hq)
      unfold nF
      split
      · rename_i m a r w' m' hkd
        by_cases e : m = n
        · subst e
          obtain ⟨⟨y, hy', _⟩, _⟩ := g.file _ _ hl m a r w' m' hkd
          rw [hy] at hy'
          cases hy'
        · rw [if_neg e]
      · rfl
    rw [hz]
    exact ⟨0, 0, 0, 10, rfl, hg⟩
  | some y =>
    have hn := (g.nms n y hy).1
    refine (stat_some hT hy (by omega)).mono ?_
    rintro e w' ⟨rfl, hg⟩
    have := g.holds n y hy
    refine ⟨(y.kind : Int), ((y.data.length + nmsLen y : Nat) : Int), (y.named : Int), 0, ?_, hg⟩
    unfold infoOf
    rw [this]
    rfl
theorem sys_Buffers (h : Sys w F c s) : Calls Tryz.prog 19 #[ptrV c.plb] w fun e w' => e = .returned (.int .i64 (tally openOf s.es : Int)) ∧ w' = w := by
  obtain ⟨Ft, Fp, Fh, h0, hF⟩ := h
  obtain ⟨Bb, hA⟩ := h0.pool.all
  exact all_buffers hA
theorem sys_Held (h : Sys w F c s) : Calls Tryz.prog 21 #[ptrV c.plb] w fun e w' => e = .returned (.int .i64 (tally heldOf s.es : Int)) ∧ w' = w := by
  obtain ⟨Ft, Fp, Fh, h0, hF⟩ := h
  obtain ⟨Bb, hA⟩ := h0.pool.all
  exact all_held hA
end
end Go.Proofs.YtbjakhiflgjflaaGreatDoor
