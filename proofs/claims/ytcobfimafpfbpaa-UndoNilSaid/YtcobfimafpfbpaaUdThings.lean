/-
  A log, a map and a cell of it together, by what there is and what goes back; what a mark, a note and an Undo make of it. Conditions: none.
-/
import Derived.Test.YtcobfimafpfbpaaUdDel
namespace Go.Proofs.Ytcobfimafpfbpaa
open Go Go.RowKit Go.ChangeMaps

/-- What a map and a cell have. -/
structure St where
  f : ByteArray → Option Int
  s : ByteArray
theorem St.eq {a b : St} (h1 : ∀ k, a.f k = b.f k) (h2 : a.s = b.s) : a = b := by
  cases a; cases b
  simp only [St.mk.injEq]
  exact ⟨funext h1, h2⟩
def apN : Nt → St → St
  | .put k v, st => ⟨fun j => if j = k then some v else st.f j, st.s⟩
  | .del k, st => ⟨fun j => if j = k then none else st.f j, st.s⟩
  | .cell x, st => ⟨st.f, x⟩
/-- Notes are done from the last one on. -/
def back (ns : List Nt) (st : St) : St := ns.foldr apN st
theorem back_app (a b : List Nt) (st : St) : back (a ++ b) st = back a (back b st) := by unfold back; exact List.foldr_append
theorem back_one (n : Nt) (st : St) : back [n] st = apN n st := rfl
def ntF (f : ByteArray → Option Int) (k : ByteArray) : Nt := match f k with | some v => .put k v | none => .del k
def putF (st : St) (k : ByteArray) (v : Option Int) : St := ⟨fun j => if j = k then v else st.f j, st.s⟩
theorem ap_put (st : St) (k : ByteArray) (v : Option Int) : apN (ntF st.f k) (putF st k v) = st := by
  unfold ntF
  cases h : st.f k with
  | none => exact St.eq (fun j => by
      simp only [apN, putF]
      by_cases hj : j = k
      · rw [if_pos hj, hj, h]
      · rw [if_neg hj, if_neg hj]) rfl
  | some x => exact St.eq (fun j => by
      simp only [apN, putF]
      by_cases hj : j = k
      · rw [if_pos hj, hj, h]
      · rw [if_neg hj, if_neg hj]) rfl
theorem ap_cell (st : St) (x : ByteArray) : apN (.cell st.s) ⟨st.f, x⟩ = st := rfl

/-- Keys are short. -/
def KB (st : St) : Prop := ∀ k v, st.f k = some v → k.size ≤ 100
def NB : Nt → Prop
  | .put k _ => k.size ≤ 100
  | _ => True
theorem KB.ap {st : St} (h : KB st) {n : Nt} (hn : NB n) : KB (apN n st) := by
  intro k v hk
  cases n with
  | put j x =>
    simp only [apN] at hk
    split at hk
    · rename_i e; rw [e]; exact hn
    · exact h k v hk
  | del j =>
    simp only [apN] at hk
    split at hk
    · cases hk
    · exact h k v hk
  | cell x => exact h k v hk
theorem KB.back {st : St} (h : KB st) {ns : List Nt} (hn : ∀ n ∈ ns, NB n) : KB (back ns st) := by
  induction ns with
  | nil => exact h
  | cons n ns ih => exact (ih fun m hm => hn m (List.mem_cons_of_mem _ hm)).ap (hn n (List.mem_cons_self ..))
theorem KB.nt {st : St} (h : KB st) (k : ByteArray) : NB (ntF st.f k) := by
  unfold ntF
  cases hk : st.f k with
  | none => trivial
  | some v => exact h k v hk
theorem KB.put {st : St} (h : KB st) {k : ByteArray} (hk : k.size ≤ 100) (v : Option Int) : KB (putF st k v) := by
  intro j x hj
  simp only [putF] at hj
  split at hj
  · rename_i e; rw [e]; exact hk
  · exact h j x hj

/-- What there is, what is noted, and what there was at each mark. -/
structure Tg where
  most : Nat
  nest : Nat
  cur : St
  ns : List Nt
  was : List (Nat × St)
structure Tg.Good (t : Tg) : Prop where
  pos : ∀ p ∈ t.was, p.1 ≤ t.ns.length
  bk : ∀ p ∈ t.was, back (t.ns.drop p.1) t.cur = p.2
  mono : t.was.Pairwise (fun a b => a.1 ≤ b.1)
  none : t.was = [] → t.ns = []
  first : ∀ p, t.was.head? = some p → p.1 = 0
  nest1 : t.was.length ≤ t.nest
  most1 : t.ns.length ≤ t.most
  kb : KB t.cur
  nb : ∀ n ∈ t.ns, NB n
def Tg.full (t : Tg) : Prop := t.was ≠ [] ∧ t.ns.length = t.most
instance (t : Tg) : Decidable t.full := by unfold Tg.full; infer_instance
/-- One note more, and what there is behind it. -/
def Tg.noted (t : Tg) (n : Nt) (st : St) : Tg := { t with cur := st, ns := if t.was = [] then t.ns else t.ns ++ [n] }
theorem Tg.Good.noted {t : Tg} (h : t.Good) (hf : ¬ t.full) {n : Nt} {st : St} (hn : apN n st = t.cur) (hk : KB st) (hb : NB n) : (t.noted n st).Good := by
  by_cases hw : t.was = []
  · have e : t.noted n st = { t with cur := st } := by unfold Tg.noted; rw [if_pos hw]
    rw [e]
    exact ⟨h.pos, fun p hp => (by simp only [hw] at hp; cases hp), h.mono, h.none, h.first, h.nest1, h.most1, hk, h.nb⟩
  · have e : t.noted n st = { t with cur := st, ns := t.ns ++ [n] } := by unfold Tg.noted; rw [if_neg hw]
    rw [e]
    refine ⟨fun p hp => ?_, fun p hp => ?_, h.mono, fun e => absurd e hw, h.first, h.nest1, ?_, hk, fun m hm => ?_⟩
    · have := h.pos p hp
      simp only [List.length_append]; omega
    · show back ((t.ns ++ [n]).drop p.1) st = p.2
      rw [List.drop_append_of_le_length (h.pos p hp), back_app, back_one, hn]
      exact h.bk p hp
    · have h1 := h.most1
      have : t.ns.length ≠ t.most := fun e => hf ⟨hw, e⟩
      simp only [List.length_append, List.length_cons, List.length_nil]; omega
    · rcases List.mem_append.1 hm with hm | hm
      · exact h.nb m hm
      · rw [List.mem_singleton.1 hm]; exact hb
def Tg.marked (t : Tg) : Tg := { t with was := t.was ++ [(t.ns.length, t.cur)] }
theorem Tg.Good.marked {t : Tg} (h : t.Good) (hf : t.was.length < t.nest) : t.marked.Good := by
  refine ⟨fun p hp => ?_, fun p hp => ?_, ?_, fun e => ?_, fun p hp => ?_, ?_, h.most1, h.kb, h.nb⟩
  · rcases List.mem_append.1 hp with hp | hp
    · exact h.pos p hp
    · rw [List.mem_singleton.1 hp]; exact Nat.le_refl _
  · rcases List.mem_append.1 hp with hp | hp
    · exact h.bk p hp
    · rw [List.mem_singleton.1 hp]
      show back (t.ns.drop t.ns.length) t.cur = t.cur
      rw [List.drop_length]; rfl
  · refine List.pairwise_append.2 ⟨h.mono, List.pairwise_singleton _ _, fun a ha b hb => ?_⟩
    rw [List.mem_singleton.1 hb]
    exact h.pos a ha
  · exact absurd (congrArg List.length e) (by simp [Tg.marked])
  · replace hp : (t.was ++ [(t.ns.length, t.cur)]).head? = some p := hp
    cases hw : t.was with
    | nil =>
      rw [hw] at hp
      cases hp
      rw [h.none hw]; rfl
    | cons q w =>
      rw [hw] at hp
      exact h.first p (by rw [hw]; exact hp)
  · show (t.was ++ [(t.ns.length, t.cur)]).length ≤ t.nest
    rw [List.length_append, List.length_singleton]; exact hf
/-- Back to the last mark. -/
def Tg.undone (t : Tg) (w : List (Nat × St)) (p : Nat × St) : Tg := { t with cur := p.2, ns := t.ns.take p.1, was := w }
theorem Tg.Good.undone {t : Tg} (h : t.Good) {w : List (Nat × St)} {p : Nat × St} (hw : t.was = w ++ [p]) : (t.undone w p).Good := by
  have hp : p ∈ t.was := by rw [hw]; simp
  have hm := h.mono
  rw [hw, List.pairwise_append] at hm
  have hle : ∀ q ∈ w, q.1 ≤ p.1 := fun q hq => hm.2.2 q hq p (List.mem_singleton.2 rfl)
  have hpl := h.pos p hp
  have hl : (t.ns.take p.1).length = p.1 := by rw [List.length_take]; omega
  refine ⟨fun q hq => ?_, fun q hq => ?_, hm.1, fun e => ?_, fun q hq => ?_, ?_, ?_, ?_, fun n hn => h.nb n (List.mem_of_mem_take hn)⟩
  · show q.1 ≤ (t.ns.take p.1).length
    rw [hl]; exact hle q hq
  · show back ((t.ns.take p.1).drop q.1) p.2 = q.2
    have hq2 : q ∈ t.was := by rw [hw]; exact List.mem_append_left _ hq
    rw [← h.bk p hp, ← back_app]
    have : (t.ns.take p.1).drop q.1 ++ t.ns.drop p.1 = t.ns.drop q.1 := by
      rw [← List.drop_append_of_le_length (by rw [hl]; exact hle q hq), List.take_append_drop]
    rw [this]
    exact h.bk q hq2
  · have e : w = [] := e
    have h0 := h.first p (by rw [hw, e]; rfl)
    show t.ns.take p.1 = []
    rw [h0]; rfl
  · replace hq : w.head? = some q := hq
    cases w with
    | nil => cases hq
    | cons a w => exact h.first q (by rw [hw]; exact hq)
  · have := h.nest1
    rw [hw, List.length_append] at this
    show w.length ≤ t.nest
    omega
  · show (t.ns.take p.1).length ≤ t.most
    have := h.most1
    rw [hl]; omega
  · show KB p.2
    rw [← h.bk p hp]
    exact h.kb.back fun n hn => h.nb n (List.mem_of_mem_drop hn)

def Tg.put (t : Tg) (k : ByteArray) (v : Int) : Int × Tg := if t.full then (43, t) else (0, t.noted (ntF t.cur.f k) (putF t.cur k (some v)))
def Tg.del (t : Tg) (k : ByteArray) : Int × Tg := if t.cur.f k = none then (0, t) else if t.full then (43, t) else (0, t.noted (ntF t.cur.f k) (putF t.cur k none))
def Tg.cellS (t : Tg) (x : ByteArray) : Int × Tg := if t.full then (43, t) else (0, t.noted (.cell t.cur.s) ⟨t.cur.f, x⟩)
def Tg.mark (t : Tg) : Int × Int × Tg := if t.was.length = t.nest then (0, 42, t) else ((t.was.length : Int) + 1, 0, t.marked)
def Tg.undo (t : Tg) : Int × Tg := match t.was.getLast? with | none => (1, t) | some p => (0, t.undone t.was.dropLast p)

/-- Where things lie. -/
structure Ad where
  l : Nat
  m : Nat
  c : Nat
  o : Nat
def Ad.lo (a : Ad) : Option Addr := some ⟨a.l, 0, none⟩
/-- The types of blocks that a call of things may change, besides the map's own. -/
def ThT (t : TypeId) : Prop := LogT t ∨ t = 85 ∨ t = 93
def ThAt (w : World) (B : Nat) (Q : Nat → Prop) (a : Ad) (pot : Nat) (t : Tg) : Prop :=
  ∃ ms fs es, LogAt w B a.l t.most t.nest ms fs t.ns.length ∧ MapAt w B a.m a.lo a.o es ∧ CellAt w B a.c a.lo t.cur.s ∧ (∀ k, look es k = t.cur.f k) ∧ fs.length = t.ns.length ∧
    (∀ (i : Nat) (n : Nt), t.ns[i]? = some n → ∃ v, fs[i]? = some v ∧ NoteAt w Q a.m a.c v n) ∧ ms.map (fun m => (m.notes, m.count)) = t.was.map (fun p => (p.1, p.1)) ∧ t.Good ∧ es.length + t.ns.length ≤ pot

section
variable {w w' w'' : World} {B mb cb ob : Nat} {lo : Option Addr} {es : Es} {s : ByteArray}
theorem KeepN.trans (h : KeepN w w') (k : KeepN w' w'') : KeepN w w'' := ⟨fun b cur t f hb ht => by
  have e := h.keep b cur t f hb ht
  exact (k.keep b cur t f (e.trans hb) ht).trans e⟩
theorem KeepL.trans (h : KeepL w w') (k : KeepL w' w'') : KeepL w w'' := ⟨Nat.le_trans h.size k.size, fun b cur t f hb ht => by
  have e := h.keep b cur t f hb ht
  exact (k.keep b cur t f (e.trans hb) ht).trans e⟩
theorem KeepN.of_fr' {B' : Nat} (h : Fr B' LogT (fun _ => False) w w') : KeepN w w' := KeepN.of_fr h (fun t ht hl => by
  rcases ht with rfl | rfl | rfl | rfl | rfl <;> rcases hl with hl | hl | hl | hl <;> exact absurd hl (by decide)) (fun _ h => h.elim)
theorem KeepN.of_map {es' : List (ByteArray × Value)} (h : Stp (fun b => b = ob) w w') (k : KMap w ob .string encS es') : KeepN w w' :=
  ⟨fun b _ _ _ hb _ => h.block b (Array.getElem?_eq_some_iff.1 hb).1 (fun e => by subst e; exact k.no_cells hb)⟩
theorem KeepL.of_map {es' : List (ByteArray × Value)} (h : Stp (fun b => b = ob) w w') (k : KMap w ob .string encS es') : KeepL w w' :=
  ⟨h.size, fun b _ _ _ hb _ => h.block b (Array.getElem?_eq_some_iff.1 hb).1 (fun e => by subst e; exact k.no_cells hb)⟩
theorem KeepN.of_cell (h : Stp (fun b => b = cb) w w') (k : CellAt w B cb lo s) : KeepN w w' :=
  ⟨fun b _ _ _ hb ht => h.block b (Array.getElem?_eq_some_iff.1 hb).1 (fun e => by
    subst e
    have := k.blk.symm.trans hb
    simp only [Option.some.injEq, Obj.cells.injEq] at this
    rw [← this.2.1] at ht
    rcases ht with ht | ht | ht | ht | ht <;> exact absurd ht (by decide))⟩
theorem KeepL.of_cell (h : Stp (fun b => b = cb) w w') (k : CellAt w B cb lo s) : KeepL w w' :=
  ⟨h.size, fun b _ _ _ hb ht => h.block b (Array.getElem?_eq_some_iff.1 hb).1 (fun e => by
    subst e
    have := k.blk.symm.trans hb
    simp only [Option.some.injEq, Obj.cells.injEq] at this
    rw [← this.2.1] at ht
    rcases ht with ht | ht | ht | ht <;> exact absurd ht (by decide))⟩
theorem MapAt.below (h : MapAt w B mb lo ob es) (k : Below w.heap.size w w') : MapAt w' B mb lo ob es := h.keep (k.block _ h.blk.lt) (k.block _ h.map.lt)
theorem CellAt.below (h : CellAt w B cb lo s) (k : Below w.heap.size w w') : CellAt w' B cb lo s := ⟨h.hB, (k.block _ h.blk.lt).trans h.blk⟩
theorem MapAt.log {B' : Nat} (h : MapAt w B mb lo ob es) (k : Fr B' LogT (fun _ => False) w w') : MapAt w' B mb lo ob es := h.fr k (fun hl => by rcases hl with hl | hl | hl | hl <;> exact absurd hl (by decide)) (fun _ h => h.elim)
theorem CellAt.log {B' : Nat} (h : CellAt w B cb lo s) (k : Fr B' LogT (fun _ => False) w w') : CellAt w' B cb lo s := h.fr k (fun hl => by rcases hl with hl | hl | hl | hl <;> exact absurd hl (by decide)) (fun h => h)
theorem MapAt.ne_cell (h : MapAt w B mb lo ob es) (k : CellAt w B cb lo s) : cb ≠ mb ∧ cb ≠ ob := ⟨fun e => h.blk.ne k.blk (by decide) e.symm, fun e => h.map.no_cells (e ▸ k.blk)⟩
theorem MapAt.ne_obj (h : MapAt w B mb lo ob es) : mb ≠ ob := fun e => h.map.no_cells (e ▸ h.blk)
/-- What a call of things may change. -/
abbrev FrT (B ob : Nat) (w w' : World) : Prop := Fr B ThT (fun b => b = ob) w w'
theorem FrT.log (h : Fr B LogT (fun _ => False) w w') : FrT B ob w w' := h.mono (Nat.le_refl _) (fun _ h => .inl h) (fun _ _ h => h.elim)
theorem FrT.map (h : Stp (fun b => b = ob) w w') (k : MapAt w B mb lo ob es) : FrT B ob w w' := Fr.of_stp h fun b _ hb => by subst hb; exact ⟨k.hO, .inl rfl⟩
theorem FrT.cell (h : Stp (fun b => b = cb) w w') (k : CellAt w B cb lo s) : FrT B ob w w' := Fr.of_stp h fun b _ hb => by subst hb; exact ⟨k.hB, .inr ⟨_, _, _, k.blk, .inr (.inr rfl)⟩⟩
end

section
variable {w w' : World} {B : Nat} {Q Q' : Nat → Prop} {a : Ad} {pot : Nat} {t : Tg}
theorem ThAt.mono (h : ThAt w B Q a pot t) {pot' : Nat} (hp : pot ≤ pot') (hq : ∀ b, b < w.heap.size → Q b → Q' b) : ThAt w B Q' a pot' t := by
  obtain ⟨ms, fs, es, h1, h2, h3, h4, h5, h6, h7, h8, h9⟩ := h
  refine ⟨ms, fs, es, h1, h2, h3, h4, h5, fun i n hi => ?_, h7, h8, by omega⟩
  obtain ⟨v, hv, hn⟩ := h6 i n hi
  exact ⟨v, hv, hn.mono hq⟩
theorem ThAt.below (h : ThAt w B Q a pot t) (k : Below w.heap.size w w') : ThAt w' B Q a pot t := by
  obtain ⟨ms, fs, es, h1, h2, h3, h4, h5, h6, h7, h8, h9⟩ := h
  refine ⟨ms, fs, es, h1.keep (KeepL.of_below k), h2.below k, h3.below k, h4, h5, fun i n hi => ?_, h7, h8, h9⟩
  obtain ⟨v, hv, hn⟩ := h6 i n hi
  exact ⟨v, hv, hn.keep (KeepN.of_below k)⟩
theorem ThAt.good (h : ThAt w B Q a pot t) : t.Good := by obtain ⟨_, _, _, _, _, _, _, _, _, _, h, _⟩ := h; exact h
theorem ThAt.hB (h : ThAt w B Q a pot t) : B ≤ w.heap.size := by
  obtain ⟨_, _, _, h, _⟩ := h
  have := h.lt
  obtain ⟨_, _, h⟩ := h
  have := h.hB
  omega
theorem th_len {ms : List Mk} {l : List (Nat × St)} (h : ms.map (fun m => (m.notes, m.count)) = l.map (fun p => (p.1, p.1))) : ms.length = l.length := by
  have := congrArg List.length h
  simpa using this
theorem drewN_below (w : World) (n : Nat) : Below w.heap.size w (w.drewN n) := ⟨rfl, rfl, rfl, Nat.le_refl _, fun _ _ => rfl⟩
end
end Go.Proofs.Ytcobfimafpfbpaa
