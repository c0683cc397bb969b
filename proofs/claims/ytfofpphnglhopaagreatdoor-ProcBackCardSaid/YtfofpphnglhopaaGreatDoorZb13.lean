/-
  A part. Conditions: each theorem's own.
-/
import Derived.Handy
import Derived.Test.YtfofpphnglhopaaGreatDoorZb7
import Derived.Test.YtfofpphnglhopaaGreatDoorZb8
import Derived.Test.YtfofpphnglhopaaGreatDoorZb9
import Derived.Test.YtfofpphnglhopaaGreatDoorZb10
import Derived.Test.YtfofpphnglhopaaGreatDoorZb11
import Derived.Test.YtfofpphnglhopaaGreatDoorZb12
set_option maxHeartbeats 8000000
set_option maxRecDepth 100000
namespace Go.Proofs.YtfofpphnglhopaaGreatDoor
open Go Go.RowKit Go.ChangeMaps
def nF (n : Int) (x : Hd) : Nat := match x.kd with | .file m .. => if m = n then 1 else 0 | _ => 0
def nR (p : Nat) (x : Hd) : Nat := match x.kd with | .rd q => if q = p then 1 else 0 | _ => 0
def nW (p : Nat) (x : Hd) : Nat := match x.kd with | .wr q => if q = p then 1 else 0 | _ => 0
structure Ext where
  h : Int → Nat
  N : Nat
instance : CoeFun Ext (fun _ => Int → Nat) := ⟨Ext.h⟩
structure Good (ext : Ext) (s : St) : Prop where
  file : ∀ k x, look s.hs k = some x → ∀ n a r w m, x.kd = .file n a r w m → (∃ y, look s.nds n = some y ∧ y.kind = 2) ∧ a ≤ 4096
  refs : ∀ k x, look s.hs k = some x → 1 ≤ x.refs
  holds : ∀ n y, look s.nds n = some y → y.holds = total (nF n) s.hs + ext n
  ends : ∀ (p pb bb e : Nat), s.pp[p]? = some (pb, bb, e) → e = total (nR p) s.hs + total (nW p) s.hs ∧ total (nR p) s.hs ≤ 1 ∧ total (nW p) s.hs ≤ 1 ∧ ∃ o, s.es[p]? = some (bb, o) ∧ (o.isSome = true ↔ 0 < e)
  len : s.es.length = s.pp.length
  pipe : ∀ k x, look s.hs k = some x → ∀ p, x.kd = .rd p ∨ x.kd = .wr p → p < s.pp.length
  nms : ∀ n y, look s.nds n = some y → nmsLen y ≤ 100000 ∧ (y.kind = 2 → y.nms = none)
  num : ∀ n y, look s.nds n = some y → 1 ≤ n ∧ n ≤ (ext.N : Int)
structure Bnd (s : St) (B : Nat) : Prop where
  tot : s.tot ≤ 100 * B
  top : s.top ≤ 2 * B
  es : s.es.length ≤ B
  refs : ∀ k x, look s.hs k = some x → x.refs ≤ B
theorem Bnd.le {s : St} {B B' : Nat} (h : Bnd s B) (hB : B ≤ B') : Bnd s B' := ⟨by have := h.tot; omega, by have := h.top; omega, Nat.le_trans h.es hB, fun k x hx => Nat.le_trans (h.refs k x hx) hB⟩
section
variable {ext : Ext} {s : St} {k : Int} {x : Hd} {B : Nat}
theorem look_snoc {α : Type} {l : List (Int × α)} {k : Int} {v : α} (hk : look l k = none) (j : Int) : look (l ++ [(k, v)]) j = if j = k then some v else look l j := by
  rw [look_app]
  by_cases hj : j = k
  · subst hj
    rw [hk, if_pos rfl]
    show none.or (if j = j then some v else none) = some v
    rw [if_pos rfl]
    rfl
  · rw [if_neg hj]
    have : look [(k, v)] j = none := by show (if k = j then some v else none) = none; rw [if_neg fun e => hj e.symm]
    rw [this, Option.or_none]
theorem total_eq {f : Hd → Nat} {hs : Hs} {k : Int} {x y : Hd} (hd : hs.Pairwise (fun p q => p.1 ≠ q.1)) (hx : look hs k = some x) (hf : f y = f x) : total f (upd hs k y) = total f hs := by
  have := total_upd (f := f) hd hx y
  omega
theorem Good.kd (h : Good ext s) (hd : s.hs.Pairwise (fun p q => p.1 ≠ q.1)) (hx : look s.hs k = some x) {y : Hd} (hr : 1 ≤ y.refs) (h1 : ∀ n, nF n y = nF n x) (h2 : ∀ p, nR p y = nR p x) (h3 : ∀ p, nW p y = nW p x)
    (hf : ∀ n a r w m, y.kd = .file n a r w m → a ≤ 4096 ∧ ∃ a', x.kd = .file n a' r w m) (hp : ∀ p, y.kd = .rd p ∨ y.kd = .wr p → p < s.pp.length) : Good ext { s with hs := upd s.hs k y } where
  file := fun j z hz n a r w m e => by
    rw [show ({ s with hs := upd s.hs k y } : St).hs = upd s.hs k y from rfl, look_upd] at hz
    split at hz
    · rw [hx] at hz
      obtain rfl : y = z := Option.some.inj hz
      obtain ⟨q1, a', q2⟩ := hf n a r w m e
      exact ⟨(h.file k x hx n a' r w m q2).1, q1⟩
    · exact h.file j z hz n a r w m e
  refs := fun j z hz => by
    rw [show ({ s with hs := upd s.hs k y } : St).hs = upd s.hs k y from rfl, look_upd] at hz
    split at hz
    · rw [hx] at hz
      obtain rfl : y = z := Option.some.inj hz
      exact hr
    · exact h.refs j z hz
  holds := fun n z hz => by rw [show total (nF n) ({ s with hs := upd s.hs k y } : St).hs = total (nF n) s.hs from total_eq hd hx (h1 n)]; exact h.holds n z hz
  ends := fun p pb bb e he => by rw [show total (nR p) ({ s with hs := upd s.hs k y } : St).hs = total (nR p) s.hs from total_eq hd hx (h2 p), show total (nW p) ({ s with hs := upd s.hs k y } : St).hs = total (nW p) s.hs from total_eq hd hx (h3 p)]; exact h.ends p pb bb e he
  len := h.len
  pipe := fun j z hz p e => by
    rw [show ({ s with hs := upd s.hs k y } : St).hs = upd s.hs k y from rfl, look_upd] at hz
    split at hz
    · rw [hx] at hz
      obtain rfl : y = z := Option.some.inj hz
      exact hp p e
    · exact h.pipe j z hz p e
  nms := h.nms
  num := h.num
theorem Bnd.kd (h : Bnd s B) (hx : look s.hs k = some x) {y : Hd} (hy : y.refs ≤ B + 1) : Bnd { s with hs := upd s.hs k y } (B + 1) where
  tot := by have := h.tot; show s.tot ≤ _; omega
  top := by have := h.top; show s.top ≤ _; omega
  es := by have := h.es; show s.es.length ≤ _; omega
  refs := fun j z hz => by
    rw [show ({ s with hs := upd s.hs k y } : St).hs = upd s.hs k y from rfl, look_upd] at hz
    split at hz
    · rw [hx] at hz
      obtain rfl : y = z := Option.some.inj hz
      exact hy
    · exact Nat.le_trans (h.refs j z hz) (Nat.le_succ _)
theorem Good.ref (h : Good ext s) (hd : s.hs.Pairwise (fun p q => p.1 ≠ q.1)) (hx : look s.hs k = some x) {r : Nat} (hr : 1 ≤ r) : Good ext { s with hs := upd s.hs k { x with refs := r } } :=
  h.kd hd hx hr (fun _ => rfl) (fun _ => rfl) (fun _ => rfl) (fun n a r w m e => ⟨(h.file k x hx n a r w m e).2, a, e⟩) (fun p e => h.pipe k x hx p e)
theorem Good.bytes (h : Good ext s) {n : Int} {y : Pn} (hy : look s.nds n = some y) (d : List UInt8) : Good ext { s with nds := upd s.nds n { y with data := d } } where
  file := fun j z hz m a r w q e => by
    obtain ⟨⟨v, h1, h2⟩, h3⟩ := h.file j z hz m a r w q e
    refine ⟨?_, h3⟩
    show ∃ y', look (upd s.nds n _) m = some y' ∧ _
    rw [look_upd]
    split
    · rename_i e
      subst e
      rw [hy]
      rw [hy] at h1
      obtain rfl : y = v := Option.some.inj h1
      exact ⟨_, rfl, h2⟩
    · exact ⟨v, h1, h2⟩
  refs := h.refs
  holds := fun m z hz => by
    rw [show ({ s with nds := upd s.nds n { y with data := d } } : St).nds = upd s.nds n { y with data := d } from rfl, look_upd] at hz
    split at hz
    · rename_i e
      subst e
      rw [hy] at hz
      obtain rfl := Option.some.inj hz
      exact h.holds m y hy
    · exact h.holds m z hz
  ends := h.ends
  len := h.len
  pipe := h.pipe
  nms := fun m z hz => by
    rw [show ({ s with nds := upd s.nds n { y with data := d } } : St).nds = upd s.nds n { y with data := d } from rfl, look_upd] at hz
    split at hz
    · rename_i e
      subst e
      rw [hy] at hz
      obtain rfl := Option.some.inj hz
      exact h.nms m y hy
    · exact h.nms m z hz
  num := fun m z hz => by
    rw [show ({ s with nds := upd s.nds n { y with data := d } } : St).nds = upd s.nds n { y with data := d } from rfl, look_upd] at hz
    split at hz
    · rename_i e
      subst e
      exact h.num m y hy
    · exact h.num m z hz
theorem Good.buf (h : Good ext s) {p bb : Nat} {b b' : Bs} (he : s.es[p]? = some (bb, some b)) (t : Nat) : Good ext { s with es := s.es.set p (bb, some b'), tot := t } where
  file := h.file
  refs := h.refs
  holds := h.holds
  ends := fun q pb bb' e hq => by
    obtain ⟨h1, h2, h3, o, h4, h5⟩ := h.ends q pb bb' e hq
    refine ⟨h1, h2, h3, ?_⟩
    show ∃ o, (s.es.set p (bb, some b'))[q]? = some (bb', o) ∧ _
    rw [List.getElem?_set]
    split
    · rename_i e
      subst e
      rw [he] at h4
      simp only [Option.some.injEq, Prod.mk.injEq] at h4
      obtain ⟨rfl, rfl⟩ := h4
      have hl : p < s.es.length := (List.getElem?_eq_some_iff.1 he).1
      rw [if_pos hl]
      exact ⟨_, rfl, h5⟩
    · exact ⟨o, h4, h5⟩
  len := by show (s.es.set p _).length = _; rw [List.length_set]; exact h.len
  pipe := h.pipe
  nms := h.nms
  num := h.num
theorem not_mem_hs (hk : Least (ids s.hs) k) : look s.hs k = none := look_none.2 fun p hp e => hk.2.1 (by rw [← e]; exact List.mem_map.2 ⟨p, hp, rfl⟩)
theorem Good.newFile (h : Good ext s) (hk : look s.hs k = none) {n : Int} {y : Pn} (hy : look s.nds n = some y) (hyk : y.kind = 2) (r w m : Bool) (top : Nat) (xs : List Int) : Good ext { s with nds := upd s.nds n { y with holds := y.holds + 1 }, hs := s.hs ++ [(k, ⟨1, .file n 0 r w m⟩)], top := top, xs := xs } where
  file := fun j z hz m' a r' w' q e => by
    rw [show ({ s with nds := upd s.nds n { y with holds := y.holds + 1 }, hs := s.hs ++ [(k, ⟨1, .file n 0 r w m⟩)], top := top, xs := xs } : St).hs = s.hs ++ [(k, ⟨1, .file n 0 r w m⟩)] from rfl, look_snoc hk] at hz
    show (∃ y', look (upd s.nds n _) m' = some y' ∧ _) ∧ _
    rw [look_upd]
    split at hz
    · obtain rfl := Option.some.inj hz
      simp only [Kd.file.injEq] at e
      obtain ⟨rfl, rfl, _⟩ := e
      rw [if_pos rfl, hy]
      exact ⟨⟨_, rfl, hyk⟩, Nat.zero_le _⟩
    · obtain ⟨⟨v, h1, h2⟩, h3⟩ := h.file j z hz m' a r' w' q e
      refine ⟨?_, h3⟩
      split
      · rename_i e
        subst e
        rw [hy]
        exact ⟨_, rfl, hyk⟩
      · exact ⟨v, h1, h2⟩
  refs := fun j z hz => by
    rw [show ({ s with nds := upd s.nds n { y with holds := y.holds + 1 }, hs := s.hs ++ [(k, ⟨1, .file n 0 r w m⟩)], top := top, xs := xs } : St).hs = s.hs ++ [(k, ⟨1, .file n 0 r w m⟩)] from rfl, look_snoc hk] at hz
    split at hz
    · obtain rfl := Option.some.inj hz
      exact Nat.le_refl _
    · exact h.refs j z hz
  holds := fun m' z hz => by
    rw [show ({ s with nds := upd s.nds n { y with holds := y.holds + 1 }, hs := s.hs ++ [(k, ⟨1, .file n 0 r w m⟩)], top := top, xs := xs } : St).nds = upd s.nds n { y with holds := y.holds + 1 } from rfl, look_upd] at hz
    rw [show total (nF m') ({ s with nds := upd s.nds n { y with holds := y.holds + 1 }, hs := s.hs ++ [(k, ⟨1, .file n 0 r w m⟩)], top := top, xs := xs } : St).hs = total (nF m') s.hs + (if n = m' then 1 else 0) from total_app _ _ _]
    split at hz
    · rename_i e
      subst e
      rw [hy] at hz
      obtain rfl := Option.some.inj hz
      rw [if_pos rfl]
      have := h.holds m' y hy
      show y.holds + 1 = _
      omega
    · rename_i e
      rw [if_neg fun q => e q.symm]
      exact h.holds m' z hz
  ends := fun p pb bb e he => by
    rw [show total (nR p) ({ s with nds := upd s.nds n { y with holds := y.holds + 1 }, hs := s.hs ++ [(k, ⟨1, .file n 0 r w m⟩)], top := top, xs := xs } : St).hs = total (nR p) s.hs + 0 from total_app _ _ _, show total (nW p) ({ s with nds := upd s.nds n { y with holds := y.holds + 1 }, hs := s.hs ++ [(k, ⟨1, .file n 0 r w m⟩)], top := top, xs := xs } : St).hs = total (nW p) s.hs + 0 from total_app _ _ _]
    exact h.ends p pb bb e he
  len := h.len
  pipe := fun j z hz p e => by
    rw [show ({ s with nds := upd s.nds n { y with holds := y.holds + 1 }, hs := s.hs ++ [(k, ⟨1, .file n 0 r w m⟩)], top := top, xs := xs } : St).hs = s.hs ++ [(k, ⟨1, .file n 0 r w m⟩)] from rfl, look_snoc hk] at hz
    split at hz
    · obtain rfl := Option.some.inj hz
      rcases e with e | e <;> cases e
    · exact h.pipe j z hz p e
  nms := fun m' z hz => by
    rw [show ({ s with nds := upd s.nds n { y with holds := y.holds + 1 }, hs := s.hs ++ [(k, ⟨1, .file n 0 r w m⟩)], top := top, xs := xs } : St).nds = upd s.nds n { y with holds := y.holds + 1 } from rfl, look_upd] at hz
    split at hz
    · rename_i e
      subst e
      rw [hy] at hz
      obtain rfl := Option.some.inj hz
      exact h.nms m' y hy
    · exact h.nms m' z hz
  num := fun m' z hz => by
    rw [show ({ s with nds := upd s.nds n { y with holds := y.holds + 1 }, hs := s.hs ++ [(k, ⟨1, .file n 0 r w m⟩)], top := top, xs := xs } : St).nds = upd s.nds n { y with holds := y.holds + 1 } from rfl, look_upd] at hz
    split at hz
    · rename_i e
      subst e
      exact h.num m' y hy
    · exact h.num m' z hz
theorem Bnd.new (h : Bnd s B) (hk : look s.hs k = none) (nds : Nds) (kd : Kd) {top : Nat} (ht : top ≤ s.top + 1) (xs : List Int) : Bnd { s with nds := nds, hs := s.hs ++ [(k, ⟨1, kd⟩)], top := top, xs := xs } (B + 1) where
  tot := by have := h.tot; show s.tot ≤ _; omega
  top := by have := h.top; show top ≤ _; omega
  es := by have := h.es; show s.es.length ≤ _; omega
  refs := fun j z hz => by
    rw [show ({ s with nds := nds, hs := s.hs ++ [(k, ⟨1, kd⟩)], top := top, xs := xs } : St).hs = s.hs ++ [(k, ⟨1, kd⟩)] from rfl, look_snoc hk] at hz
    split at hz
    · obtain rfl := Option.some.inj hz
      show 1 ≤ B + 1
      omega
    · exact Nat.le_trans (h.refs j z hz) (Nat.le_succ _)
theorem look_gone {j : Int} {z : Hd} (hz : look (dropH s.hs k) j = some z) : look s.hs j = some z ∧ j ≠ k := by
  replace hz : look (away s.hs k) j = some z := hz
  rw [look_away] at hz
  split at hz
  · cases hz
  · exact ⟨hz, by assumption⟩
theorem Good.gone (h : Good ext s) (hd : s.hs.Pairwise (fun p q => p.1 ≠ q.1)) (hx : look s.hs k = some x) (h1 : ∀ n, nF n x = 0) (h2 : ∀ p, nR p x = 0) (h3 : ∀ p, nW p x = 0) (top : Nat) (xs : List Int) : Good ext { s with hs := dropH s.hs k, top := top, xs := xs } where
  file := fun j z hz => h.file j z (look_gone hz).1
  refs := fun j z hz => h.refs j z (look_gone hz).1
  holds := fun n z hz => by
    have q := total_away (f := nF n) hd hx
    have := h.holds n z hz
    have e := h1 n
    show _ = total (nF n) (away s.hs k) + _
    omega
  ends := fun p pb bb e he => by
    have q1 := total_away (f := nR p) hd hx
    have q2 := total_away (f := nW p) hd hx
    have e1 := h2 p
    have e2 := h3 p
    show _ = total (nR p) (away s.hs k) + total (nW p) (away s.hs k) ∧ total (nR p) (away s.hs k) ≤ 1 ∧ total (nW p) (away s.hs k) ≤ 1 ∧ _
    rw [show total (nR p) (away s.hs k) = total (nR p) s.hs by omega, show total (nW p) (away s.hs k) = total (nW p) s.hs by omega]
    exact h.ends p pb bb e he
  len := h.len
  pipe := fun j z hz => h.pipe j z (look_gone hz).1
  nms := h.nms
  num := h.num
theorem look_dropped (nds : Nds) (n : Int) (y : Pn) (hy : look nds n = some y) (m : Int) : (m ≠ n → look (droppedN nds n y) m = look nds m) ∧ (∀ z, look (droppedN nds n y) n = some z → z = { y with holds := y.holds - 1 }) ∧ (1 < y.holds → look (droppedN nds n y) n = some { y with holds := y.holds - 1 }) := by
  unfold droppedN
  split
  · refine ⟨fun hm => by rw [look_upd, if_neg hm], fun z hz => ?_, fun _ => by rw [look_upd, if_pos rfl, hy]; rfl⟩
    rw [look_upd, if_pos rfl, hy] at hz
    exact (Option.some.inj hz).symm
  · rename_i hn
    refine ⟨fun hm => by rw [look_away, if_neg hm], fun z hz => ?_, fun h1 => absurd (.inr (.inr h1)) hn⟩
    rw [look_away, if_pos rfl] at hz
    cases hz
theorem Good.goneFile (h : Good ext s) (hd : s.hs.Pairwise (fun p q => p.1 ≠ q.1)) (hx : look s.hs k = some x) {n : Int} {a : Nat} {r w m : Bool} (hk : x.kd = .file n a r w m) {y : Pn} (hy : look s.nds n = some y) (top : Nat) (xs : List Int) : Good ext { s with nds := droppedN s.nds n y, hs := dropH s.hs k, top := top, xs := xs } := by
  have e1 : ∀ j, nF j x = if n = j then 1 else 0 := fun j => by unfold nF; rw [hk]
  have e2 : ∀ p, nR p x = 0 := fun p => by unfold nR; rw [hk]
  have e3 : ∀ p, nW p x = 0 := fun p => by unfold nW; rw [hk]
  have hge : ∀ j z, look (dropH s.hs k) j = some z → ∀ a r w m, z.kd = .file n a r w m → 1 < y.holds := fun j z hz a r w m e => by
    have q := total_away (f := nF n) hd hx
    have q2 := total_ge (f := nF n) (l := away s.hs k) hz
    have q3 : nF n z = 1 := by unfold nF; rw [e]; simp
    have q4 := e1 n
    rw [if_pos rfl] at q4
    have := h.holds n y hy
    omega
  refine ⟨fun j z hz n' a' r' w' m' e => ?_, fun j z hz => h.refs j z (look_gone hz).1, fun n' z hz => ?_, fun p pb bb e he => ?_, h.len, fun j z hz => h.pipe j z (look_gone hz).1, fun n' z hz => ?_, fun n' z hz => ?_⟩
  · obtain ⟨⟨v, h1, h2⟩, h3⟩ := h.file j z (look_gone hz).1 n' a' r' w' m' e
    refine ⟨?_, h3⟩
    show ∃ y', look (droppedN s.nds n y) n' = some y' ∧ _
    by_cases hn : n' = n
    · subst hn
      rw [hy] at h1
      obtain rfl := Option.some.inj h1
      exact ⟨_, (look_dropped s.nds n' y hy 0).2.2 (hge j z hz a' r' w' m' e), h2⟩
    · exact ⟨v, ((look_dropped s.nds n y hy n').1 hn).trans h1, h2⟩
  · have q := total_away (f := nF n') hd hx
    show _ = total (nF n') (away s.hs k) + _
    replace hz : look (droppedN s.nds n y) n' = some z := hz
    rw [e1] at q
    by_cases hn : n' = n
    · subst hn
      rw [if_pos rfl] at q
      obtain rfl := (look_dropped s.nds n' y hy 0).2.1 z hz
      have := h.holds n' y hy
      show y.holds - 1 = _
      omega
    · rw [if_neg fun q => hn q.symm] at q
      rw [(look_dropped s.nds n y hy n').1 hn] at hz
      have := h.holds n' z hz
      omega
  · have q1 := total_away (f := nR p) hd hx
    have q2 := total_away (f := nW p) hd hx
    rw [e2] at q1
    rw [e3] at q2
    show _ = total (nR p) (away s.hs k) + total (nW p) (away s.hs k) ∧ total (nR p) (away s.hs k) ≤ 1 ∧ total (nW p) (away s.hs k) ≤ 1 ∧ _
    rw [show total (nR p) (away s.hs k) = total (nR p) s.hs by omega, show total (nW p) (away s.hs k) = total (nW p) s.hs by omega]
    exact h.ends p pb bb e he
  · replace hz : look (droppedN s.nds n y) n' = some z := hz
    by_cases hn : n' = n
    · subst hn
      obtain rfl := (look_dropped s.nds n' y hy 0).2.1 z hz
      exact h.nms n' y hy
    · rw [(look_dropped s.nds n y hy n').1 hn] at hz
      exact h.nms n' z hz
  · replace hz : look (droppedN s.nds n y) n' = some z := hz
    by_cases hn : n' = n
    · subst hn
      exact h.num n' y hy
    · rw [(look_dropped s.nds n y hy n').1 hn] at hz
      exact h.num n' z hz
theorem Good.goneEnd (h : Good ext s) (hd : s.hs.Pairwise (fun p q => p.1 ≠ q.1)) (hx : look s.hs k = some x) {p pb bb e : Nat} (hk : x.kd = .rd p ∨ x.kd = .wr p) (hp : s.pp[p]? = some (pb, bb, e + 1)) {o' : Option Bs} (ho : o'.isSome = true ↔ 0 < e) {es' : List Ent} (hes : es' = s.es.set p (bb, o')) (top : Nat) (xs : List Int) :
    Good ext { s with es := es', pp := s.pp.set p (pb, bb, e), hs := dropH s.hs k, top := top, xs := xs } := by
  subst hes
  have e1 : ∀ j, nF j x = 0 := fun j => by unfold nF; rcases hk with hk | hk <;> rw [hk]
  have e2 : ∀ q, nR q x + nW q x = if p = q then 1 else 0 := fun q => by unfold nR nW; rcases hk with hk | hk <;> simp [hk]
  have hpl := (List.getElem?_eq_some_iff.1 hp).1
  refine ⟨fun j z hz => h.file j z (look_gone hz).1, fun j z hz => h.refs j z (look_gone hz).1, fun n' z hz => ?_, fun q pb' bb' f hq => ?_, ?_, fun j z hz q hq => ?_, h.nms, h.num⟩
  · have q := total_away (f := nF n') hd hx
    have := h.holds n' z hz
    have := e1 n'
    show _ = total (nF n') (away s.hs k) + _
    omega
  · have q1 := total_away (f := nR q) hd hx
    have q2 := total_away (f := nW q) hd hx
    have q3 := e2 q
    replace hq : (s.pp.set p (pb, bb, e))[q]? = some (pb', bb', f) := hq
    show _ = total (nR q) (away s.hs k) + total (nW q) (away s.hs k) ∧ total (nR q) (away s.hs k) ≤ 1 ∧ total (nW q) (away s.hs k) ≤ 1 ∧ ∃ o, (s.es.set p (bb, o'))[q]? = some (bb', o) ∧ _
    rw [List.getElem?_set] at hq ⊢
    by_cases hpq : p = q
    · subst hpq
      rw [if_pos rfl, if_pos hpl] at hq
      obtain ⟨h1, h2, h3, o, h4, h5⟩ := h.ends p pb bb (e + 1) hp
      simp only [Option.some.injEq, Prod.mk.injEq] at hq
      obtain ⟨rfl, rfl, rfl⟩ := hq
      rw [if_pos rfl] at q3
      have hel := (List.getElem?_eq_some_iff.1 h4).1
      rw [if_pos rfl, if_pos hel]
      exact ⟨by omega, by omega, by omega, o', rfl, ho⟩
    · rw [if_neg hpq] at hq
      obtain ⟨h1, h2, h3, o, h4, h5⟩ := h.ends q pb' bb' f hq
      rw [if_neg hpq] at q3
      rw [if_neg hpq]
      exact ⟨by omega, by omega, by omega, o, h4, h5⟩
  · show (s.es.set p _).length = (s.pp.set p _).length
    rw [List.length_set, List.length_set]
    exact h.len
  · show q < (s.pp.set p _).length
    rw [List.length_set]
    exact h.pipe j z (look_gone hz).1 q hq
end
section
variable {w : World} {F : Nat → Prop} {c : Sy} {s : St} {ext : Ext} {B : Nat} {k : Int}
theorem Sys.hsd (h : Sys w F c s) : s.hs.Pairwise (fun p q => p.1 ≠ q.1) := by
  obtain ⟨Ft, Fp, Fh, h, hF⟩ := h
  obtain ⟨lab, mb, mem, v, ht, hFh⟩ := h.tab
  exact ht.apart
theorem Sys.ndd (h : Sys w F c s) : s.nds.Pairwise (fun p q => p.1 ≠ q.1) := by
  obtain ⟨Ft, Fp, Fh, h, hF⟩ := h
  obtain ⟨lab, mb, mem, ht, hFt⟩ := h.tree
  exact ht.apart
theorem Sys.data (h : Sys w F c s) {n : Int} {y : Pn} (hy : look s.nds n = some y) : y.data.length ≤ 4096 := by
  obtain ⟨Ft, Fp, Fh, h, hF⟩ := h
  obtain ⟨lab, mb, mem, ht, hFt⟩ := h.tree
  exact (ht.nd n y hy).few
theorem Sys.hsl (h : Sys w F c s) : s.hs.length ≤ s.top := by
  obtain ⟨Ft, Fp, Fh, h, hF⟩ := h
  obtain ⟨lab, mb, mem, v, ht, hFh⟩ := h.tab
  have := ht.num.cnt
  unfold ids at this
  rw [List.length_map] at this
  omega
theorem nF_le (n : Int) (x : Hd) : nF n x ≤ 1 := by
  unfold nF
  split
  · split <;> omega
  · omega
theorem Good.few (g : Good ext s) (h : Sys w F c s) (b : Bnd s B) (hB : B ≤ 1000) (hx : ∀ n, ext n ≤ 100000) {n : Int} {y : Pn} (hy : look s.nds n = some y) : y.holds ≤ 1000000 := by
  have h1 := g.holds n y hy
  have h2 : total (nF n) s.hs ≤ s.hs.length * 1 := total_le_const fun p _ => nF_le n p.2
  have h3 := h.hsl
  have h4 := b.top
  have h5 := hx n
  omega
theorem set_here {α : Type} {l : List α} {p : Nat} {x : α} (h : l[p]? = some x) : l = l.set p x := by
  obtain ⟨hl, hx⟩ := List.getElem?_eq_some_iff.1 h
  rw [← hx, List.set_getElem_self]
theorem Good.pipeEnd (g : Good ext s) {x : Hd} (hk : look s.hs k = some x) {p : Nat} (hp : x.kd = .rd p ∨ x.kd = .wr p) : ∃ pb bb ends bf, s.pp[p]? = some (pb, bb, ends) ∧ s.es[p]? = some (bb, some bf) := by
  have hpl := g.pipe k x hk p hp
  obtain ⟨⟨pb, bb, ends⟩, hpp⟩ : ∃ q, s.pp[p]? = some q := ⟨_, List.getElem?_eq_getElem hpl⟩
  obtain ⟨q1, q2, q3, o, q4, q5⟩ := g.ends p pb bb ends hpp
  have hg1 := total_ge (f := nR p) hk
  have hg2 := total_ge (f := nW p) hk
  have : 1 ≤ nR p x + nW p x := by
    unfold nR nW
    rcases hp with hp | hp <;> simp [hp]
  obtain ⟨bf, rfl⟩ := Option.isSome_iff_exists.1 (q5.2 (by omega))
  exact ⟨pb, bb, ends, bf, hpp, q4⟩
theorem Bnd.same (b : Bnd s B) {es : List Ent} (hl : es.length = s.es.length) {t : Nat} (ht : t ≤ s.tot + 100) : Bnd { s with es := es, tot := t } (B + 1) where
  tot := by have := b.tot; show t ≤ _; omega
  top := by have := b.top; show s.top ≤ _; omega
  es := by have := b.es; show es.length ≤ _; omega
  refs := fun j z hz => Nat.le_trans (b.refs j z hz) (Nat.le_succ _)
theorem Bnd.nds (b : Bnd s B) (nds : Nds) : Bnd { s with nds := nds } B := ⟨b.tot, b.top, b.es, b.refs⟩
theorem take_drop_le (d : List UInt8) (a j : Nat) (hd : d.length ≤ 4096) (ha : a ≤ 4096) : a + ((d.drop a).take j).length ≤ 4096 := by
  rw [List.length_take, List.length_drop]
  omega
theorem Good.wrote (g : Good ext s) (h : Sys w F c s) {x : Hd} (hk : look s.hs k = some x) {n : Int} {a : Nat} {r wr m : Bool} (hx : x.kd = .file n a r wr m) {y : Pn} (hy : look s.nds n = some y) (d : List UInt8) {a' : Nat} (ha : a' ≤ 4096) :
    Good ext { s with nds := upd s.nds n { y with data := d }, hs := upd s.hs k { x with kd := .file n a' r wr m } } :=
  (g.bytes hy d).kd (s := { s with nds := upd s.nds n { y with data := d } }) (y := { x with kd := .file n a' r wr m }) h.hsd hk (g.refs k x hk) (fun j => by unfold nF; rw [hx]) (fun j => by unfold nR; rw [hx]) (fun j => by unfold nW; rw [hx]) (fun n' b r' w' m' e => by
    simp only [Kd.file.injEq] at e
    obtain ⟨rfl, rfl, rfl, rfl, rfl⟩ := e
    exact ⟨ha, a, hx⟩) (fun p e => by rcases e with e | e <;> cases e)
theorem Sys.used (h : Sys w F c s) : usedN s.nds ≤ c.room := by
  obtain ⟨Ft, Fp, Fh, h, hF⟩ := h
  obtain ⟨lab, mb, mem, hT, hFt⟩ := h.tree
  exact hT.lim.2.2
theorem Good.place (g : Good ext s) (h : Sys w F c s) {x : Hd} (hk : look s.hs k = some x) {n : Int} {a : Nat} {r wr m : Bool} (hx : x.kd = .file n a r wr m) {a' : Nat} (ha : a' ≤ 4096) :
    Good ext { s with hs := upd s.hs k { x with kd := .file n a' r wr m } } :=
  g.kd (y := { x with kd := .file n a' r wr m }) h.hsd hk (g.refs k x hk) (fun j => by unfold nF; rw [hx]) (fun j => by unfold nR; rw [hx]) (fun j => by unfold nW; rw [hx]) (fun n' b r' w' m' e => by
    simp only [Kd.file.injEq] at e
    obtain ⟨rfl, rfl, rfl, rfl, rfl⟩ := e
    exact ⟨ha, a, hx⟩) (fun p e => by rcases e with e | e <;> cases e)
end
def val (f : Hd → Nat) (hs : Hs) (i : Int) : Nat := match look hs i with | some x => f x | none => 0
section
variable {w : World} {F : Nat → Prop} {c : Sy} {s : St} {ext : Ext} {B : Nat} {k : Int}
theorem Bnd.less (b : Bnd s B) (nds : Nds) (es : List Ent) (pp : Pps) (hes : es.length = s.es.length) {top : Nat} (ht : top ≤ s.top) (xs : List Int) : Bnd { s with nds := nds, es := es, pp := pp, hs := dropH s.hs k, top := top, xs := xs } B where
  tot := b.tot
  top := Nat.le_trans ht b.top
  es := by show es.length ≤ _; rw [hes]; exact b.es
  refs := fun j z hz => b.refs j z (look_gone hz).1
def unrefd (hs : Hs) (k : Int) (x : Hd) : Hs := if x.refs = 1 then dropH hs k else upd hs k { x with refs := x.refs - 1 }
def kindOf (x : Hd) : Int := match x.kd with | .file .. => 1 | .text .. => 2 | .sink .. => 3 | .rd _ => 4 | .wr _ => 5
def nodeOf (x : Hd) : Int := match x.kd with | .file n .. => n | _ => 0
theorem op_Stat (h : Sys w F c s) (g : Good ext s) (b : Bnd s B) (hB : B ≤ 1000) {x : Hd} (hk : look s.hs k = some x) :
    Calls Tryz.prog 26 #[ptrV c.tb, .int .i64 k] w fun e w' => ∃ (a : Nat) (r wr m : Bool), e = .returned (.tuple #[info7 (kindOf x) (x.refs : Int) (a : Int) (nodeOf x) r wr m, .int .i64 0]) ∧ w.grownBy w' none := by
  have htot := b.tot
  obtain ⟨refs, kd⟩ := x
  cases kd with
  | file n a r wr m =>
    refine (sys_stat_file h hk rfl).mono ?_
    rintro e w' ⟨rfl, hg⟩
    exact ⟨_, _, _, _, rfl, hg⟩
  | text T a =>
    refine (sys_stat_text h hk (T := ⟨T.toArray⟩) rfl).mono ?_
    rintro e w' ⟨rfl, hg⟩
    exact ⟨_, _, _, _, rfl, hg⟩
  | sink l m =>
    refine (sys_stat_sink h hk rfl).mono ?_
    rintro e w' ⟨rfl, hg⟩
    exact ⟨_, _, _, _, rfl, hg⟩
  | rd p =>
    obtain ⟨pb, bb, ends, bf, hpp, he⟩ := g.pipeEnd hk (.inl rfl)
    refine (sys_stat_rd h hk rfl hpp he (by omega)).mono ?_
    rintro e w' ⟨rfl, hg⟩
    exact ⟨_, _, _, _, rfl, hg⟩
  | wr p =>
    obtain ⟨pb, bb, ends, bf, hpp, he⟩ := g.pipeEnd hk (.inr rfl)
    refine (sys_stat_wr h hk rfl hpp he (by omega)).mono ?_
    rintro e w' ⟨rfl, hg⟩
    exact ⟨_, _, _, _, rfl, hg⟩
end
theorem procC_setn {fb tb lb : Nat} {ps : List Pt} {i : Nat} {p : Pt} (h : ps[i]? = some p) (v : Int) (n : Nat) : (procC fb tb lb (ps.set i ⟨v, p.n⟩)).set (3 + i * 2 + 1) (.int .i64 (n : Int)) = procC fb tb lb (ps.set i ⟨v, n⟩) := by
  rw [← procC_set h v n, ← procC_setv h v]
section
variable {w : World} {pb fb tb lb : Nat} {ps : List Pt}
abbrev PB (w : World) (pb fb tb lb : Nat) (ps : List Pt) : Prop := Blk w pb (procC fb tb lb ps) 126
theorem pisNil_no (h : PB w pb fb tb lb ps) : Calls Tryz.prog 79 #[ptrV pb] w fun e w' => e = .returned (.bool false) ∧ w' = w := by
  have c2 : w.cell? ⟨pb, 2, none⟩ = some (.pointer (some ⟨lb, 0, none⟩)) := h.cell (i := 2) rfl
  have hlt := h.lt
  unfold ptrV
  clear h
  go_enter Tryz.func79, Tryz.ntmps79
  go_wp2
  go_ret
  exact ⟨rfl, rfl⟩
def fdE (fd : Int) : Int := if fd < 0 ∨ 16 ≤ fd then 18 else 0
theorem checkFd_any (h : PB w pb fb tb lb ps) (fd : Int) : Calls Tryz.prog 82 #[ptrV pb, .int .i64 fd] w fun e w' => e = .returned (.int .i64 (fdE fd)) ∧ w' = w := by
  have hi := pisNil_no h
  unfold ptrV at hi ⊢
  clear h
  by_cases h1 : fd < 0
  · rw [show fdE fd = 18 from if_pos (.inl h1)]
    go_enter Tryz.func82, Tryz.ntmps82
    go_wp2_with fail
    refine hi.mono ?_
    rintro e w' ⟨rfl, hw⟩
    obtain rfl := hw.symm
    go_wp2
    go_ret
    exact ⟨rfl, rfl⟩
  by_cases h2 : 16 ≤ fd
  · rw [show fdE fd = 18 from if_pos (.inr h2)]
    go_enter Tryz.func82, Tryz.ntmps82
    go_wp2_with fail
    refine hi.mono ?_
    rintro e w' ⟨rfl, hw⟩
    obtain rfl := hw.symm
    go_wp2
    go_ret
    exact ⟨rfl, rfl⟩
  rw [show fdE fd = 0 from if_neg (by omega)]
  go_enter Tryz.func82, Tryz.ntmps82
  go_wp2_with fail
  refine hi.mono ?_
  rintro e w' ⟨rfl, hw⟩
  obtain rfl := hw.symm
  go_wp2
  go_ret
  exact ⟨rfl, rfl⟩
theorem pfind_bad (fd : Int) (v : Value) (er : Int) (her : er ≠ 0) (hc : Calls Tryz.prog 82 #[v, .int .i64 fd] w fun e w' => e = .returned (.int .i64 er) ∧ w' = w) :
    Calls Tryz.prog 91 #[v, .int .i64 fd] w fun e w' => e = .returned (.tuple #[.int .i64 0, .int .i64 er]) ∧ w' = w := by
  have e1 : (er == 0) = false := by rw [beq_eq_false_iff_ne]; exact her
  clear her
  go_enter Tryz.func91, Tryz.ntmps91
  go_wp2_with fail
  refine hc.mono ?_
  rintro e w' ⟨rfl, hw⟩
  obtain rfl := hw.symm
  go_wp2
  go_ret2
  exact ⟨rfl, rfl⟩
theorem pfind_in (h : PB w pb fb tb lb ps) {i : Nat} (hi : i < 16) {p : Pt} (hp : ps[i]? = some p) :
    Calls Tryz.prog 91 #[ptrV pb, .int .i64 (i : Int)] w fun e w' => e = .returned (.tuple #[.int .i64 p.v, .int .i64 (if p.v = 0 then 18 else 0)]) ∧ w' = w := by
  have hc := checkFd_any h (i : Int)
  rw [show fdE (i : Int) = 0 from if_neg (by omega)] at hc
  have cv := h.cell (procC_v (fb := fb) (tb := tb) (lb := lb) hp)
  have hlt := h.lt
  unfold ptrV at hc ⊢
  obtain ⟨v, n⟩ := p
  simp only at cv ⊢
  clear h hp
  by_cases h0 : v = 0
  · subst h0
    rw [if_pos rfl]
    go_enter Tryz.func91, Tryz.ntmps91
    go_wp2_with fail
    refine hc.mono ?_
    rintro e w' ⟨rfl, hw⟩
    obtain rfl := hw.symm
    go_wp2
    go_ret2
    exact ⟨rfl, rfl⟩
  · rw [if_neg h0]
    have e0 : (v == 0) = false := by rw [beq_eq_false_iff_ne]; exact h0
    go_enter Tryz.func91, Tryz.ntmps91
    go_wp2_with fail
    refine hc.mono ?_
    rintro e w' ⟨rfl, hw⟩
    obtain rfl := hw.symm
    go_wp2
    go_ret2
    exact ⟨rfl, rfl⟩
theorem unref_zero (v : Value) (w : World) : Calls Tryz.prog 84 #[v, .int .i64 0] w fun e w' => e = .returned (.tuple #[]) ∧ w' = w := by
  go_enter Tryz.func84, Tryz.ntmps84
  go_wp2
  go_end0
  exact ⟨rfl, rfl⟩
theorem unref_call (h : PB w pb fb tb lb ps) (v : Int) (hv : v ≠ 0) (R : World → Prop) (hc : Calls Tryz.prog 37 #[ptrV tb, .int .i64 v] w fun e w' => (∃ er, e = .returned (.int .i64 er)) ∧ R w') :
    Calls Tryz.prog 84 #[ptrV pb, .int .i64 v] w fun e w' => e = .returned (.tuple #[]) ∧ R w' := by
  have c1 : w.cell? ⟨pb, 1, none⟩ = some (.pointer (some ⟨tb, 0, none⟩)) := h.cell (i := 1) rfl
  have hlt := h.lt
  have e0 : (v == 0) = false := by rw [beq_eq_false_iff_ne]; exact hv
  unfold ptrV at hc ⊢
  clear h hv
  go_enter Tryz.func84, Tryz.ntmps84
  go_wp2_with fail
  refine hc.mono ?_
  rintro e w' ⟨⟨er, rfl⟩, hR⟩
  replace hR := Lib.hid hR
  clear c1
  go_wp2
  go_end0
  exact ⟨rfl, hR.out⟩
theorem pdrop_call (h : PB w pb fb tb lb ps) (v : Int) (R : World → Prop) (hc : Calls Tryz.prog 151 #[ptrV fb, .int .i64 v] w fun e w' => (∃ er, e = .returned (.int .i64 er)) ∧ R w') :
    Calls Tryz.prog 121 #[ptrV pb, .int .i64 v] w fun e w' => e = .returned (.tuple #[]) ∧ R w' := by
  have c1 : w.cell? ⟨pb, 0, none⟩ = some (.pointer (some ⟨fb, 0, none⟩)) := h.cell (i := 0) rfl
  have hlt := h.lt
  unfold ptrV at hc ⊢
  clear h
  go_enter Tryz.func121, Tryz.ntmps121
  go_wp2_with fail
  refine hc.mono ?_
  rintro e w' ⟨⟨er, rfl⟩, hR⟩
  replace hR := Lib.hid hR
  clear c1
  go_wp2
  go_end0
  exact ⟨rfl, hR.out⟩
theorem mask1_call (v : Int) (w : World) : Calls Tryz.prog 122 #[.int .i64 v] w fun e w' => e = .returned (.tuple #[]) ∧ w' = w := by
  go_enter Tryz.func122, Tryz.ntmps122
  go_wp2
  go_end0
  exact ⟨rfl, rfl⟩
end
end Go.Proofs.YtfofpphnglhopaaGreatDoor
