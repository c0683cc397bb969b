/-
  A map in memory, as the list of its entries in the order in which they came: look-up, length, a new entry, a delete, as run equations and as laws at the operation. Conditions: fewer entries than a length may count.
-/
import Derived.Maps.OwnSet
import Derived.Maps.OwnOps
import Derived.WalkKit
namespace Go.Proofs.YtigmdfdcflkggaaGreat
open Go Go.RowKit Go.ChangeMaps Go.MapKept

/-- How keys of one kind lie in memory. -/
structure KeyEnc {κ : Type} (d : TypeDesc) (enc : κ → Value) : Prop where
  is : ∀ k, IsKey d (enc k)
  inj : ∀ a b, enc a = enc b → a = b
def encI (i : Int) : Value := .int .i64 i
def encS (s : ByteArray) : Value := .string s
theorem keyI : KeyEnc (.int .i64) encI := ⟨fun _ => rfl, fun a b h => by simpa [encI] using h⟩
theorem keyS : KeyEnc .string encS := ⟨fun _ => trivial, fun a b h => by simpa [encS] using h⟩

section
variable {κ : Type}
section
variable [DecidableEq κ]
/-- What a key has. -/
def look {α : Type} : List (κ × α) → κ → Option α
  | [], _ => none
  | p :: l, k => if p.1 = k then some p.2 else look l k
theorem look_none {α : Type} {l : List (κ × α)} {k : κ} : look l k = none ↔ ∀ p ∈ l, p.1 ≠ k := by
  induction l with
  | nil => simp [look]
  | cons a l ih =>
    unfold look
    split
    · rename_i h; simp [h]
    · rename_i h; simp [ih, h]
theorem look_mem {α : Type} {l : List (κ × α)} {k : κ} {v : α} (h : look l k = some v) : (k, v) ∈ l := by
  induction l with
  | nil => simp [look] at h
  | cons a l ih =>
    unfold look at h
    split at h
    · rename_i he; cases h; subst he; exact .head _
    · exact .tail _ (ih h)
theorem look_of_mem {α : Type} {l : List (κ × α)} {k : κ} {v : α} (hd : l.Pairwise (fun p q => p.1 ≠ q.1)) (h : (k, v) ∈ l) : look l k = some v := by
  induction l with
  | nil => cases h
  | cons a l ih =>
    unfold look
    rw [List.pairwise_cons] at hd
    cases h with
    | head => simp
    | tail _ h => rw [if_neg (fun e => hd.1 _ h e)]; exact ih hd.2 h
theorem look_map {α β : Type} (f : α → β) (l : List (κ × α)) (k : κ) : look (l.map fun p => (p.1, f p.2)) k = (look l k).map f := by
  induction l with
  | nil => rfl
  | cons a l ih =>
    simp only [List.map_cons, look]
    split
    · rfl
    · exact ih
theorem look_app {α : Type} {l m : List (κ × α)} {k : κ} : look (l ++ m) k = (look l k).or (look m k) := by
  induction l with
  | nil => rfl
  | cons a l ih =>
    simp only [List.cons_append, look]
    split
    · rfl
    · exact ih

end
/-- Block b of w is a map that has the entries l. -/
def KMap (w : World) (b : Nat) (_d : TypeDesc) (enc : κ → Value) (l : List (κ × Value)) : Prop :=
  ∃ es clock, w.heap[b]? = some (.map es clock) ∧ Stamped es clock ∧ es.toList.map (fun x => (x.key, x.val)) = l.map (fun p => (enc p.1, p.2))

variable {w : World} {b : Nat} {d : TypeDesc} {enc : κ → Value} {l : List (κ × Value)}
theorem KMap.lt (h : KMap w b d enc l) : b < w.heap.size := by
  obtain ⟨es, clock, hb, _⟩ := h
  exact (Array.getElem?_eq_some_iff.1 hb).1
theorem KMap.keep {w' : World} (h : KMap w b d enc l) (hk : w'.heap[b]? = w.heap[b]?) : KMap w' b d enc l := by
  obtain ⟨es, clock, hb, h⟩ := h
  exact ⟨es, clock, hk.trans hb, h⟩
theorem KMap.new (w : World) (d : TypeDesc) (enc : κ → Value) : KMap (w.alloc (.map #[] 0)) w.heap.size d enc [] := ⟨#[], 0, (MapKept.heap_alloc w _).1, stamped_empty 0, rfl⟩
theorem KMap.no_cells (h : KMap w b d enc l) {cs : Array Value} {t : TypeId} {f : Nat × Nat} : w.heap[b]? ≠ some (.cells cs t f) := by
  obtain ⟨es, clock, hb, _⟩ := h
  rw [hb]; simp

theorem kmap_keys {es : Array MapEntry} (K : KeyEnc d enc) (he : es.toList.map (fun x => (x.key, x.val)) = l.map (fun p => (enc p.1, p.2))) : ∀ x ∈ es.toList, IsKey d x.key := by
  intro x hx
  have : (x.key, x.val) ∈ l.map (fun p => (enc p.1, p.2)) := by rw [← he]; exact List.mem_map_of_mem hx
  obtain ⟨p, _, e⟩ := List.mem_map.1 this
  have e1 : x.key = enc p.1 := (congrArg Prod.fst e).symm
  rw [e1]
  exact K.is _
theorem KMap.apart (h : KMap w b d enc l) : l.Pairwise (fun p q => p.1 ≠ q.1) := by
  obtain ⟨es, clock, hb, hs, he⟩ := h
  have h3 := ((stamped_iff es clock).1 hs).2.2
  have h4 : (es.toList.map (fun x => (x.key, x.val))).Pairwise (fun p q => p.1 ≠ q.1) := by rw [List.pairwise_map]; exact h3
  rw [he, List.pairwise_map] at h4
  exact h4.imp fun h e => h (by rw [e])
variable [DecidableEq κ]
/-- Where a key is found. -/
theorem kmap_find {es : Array MapEntry} {clock : Nat} (K : KeyEnc d enc) (hs : Stamped es clock) (he : es.toList.map (fun x => (x.key, x.val)) = l.map (fun p => (enc p.1, p.2))) (k : κ) :
    (look l k = none ∧ Instr.findNow d (enc k) es.toList 0 = some none ∧ ∀ x ∈ es.toList, x.key ≠ enc k) ∨
      ∃ j e, look l k = some e.val ∧ Instr.findNow d (enc k) es.toList 0 = some (some (j, e.val)) ∧ es.toList[j]? = some e ∧ e.key = enc k := by
  have hap : l.Pairwise (fun p q => p.1 ≠ q.1) := by
    have h3 := ((stamped_iff es clock).1 hs).2.2
    have h4 : (es.toList.map (fun x => (x.key, x.val))).Pairwise (fun p q => p.1 ≠ q.1) := by rw [List.pairwise_map]; exact h3
    rw [he, List.pairwise_map] at h4
    exact h4.imp fun h e => h (by rw [e])
  rcases findNow_spec (K.is k) es.toList 0 (kmap_keys K he) with ⟨h1, h2⟩ | ⟨j, e, h1, h2, h3⟩
  · refine .inl ⟨look_none.2 fun p hp e => ?_, h1, h2⟩
    have : (enc p.1, p.2) ∈ es.toList.map (fun x => (x.key, x.val)) := by rw [he]; exact List.mem_map_of_mem (f := fun p : κ × Value => (enc p.1, p.2)) hp
    obtain ⟨x, hx, ex⟩ := List.mem_map.1 this
    exact h2 x hx ((congrArg Prod.fst ex).trans (by rw [e]))
  · refine .inr ⟨j, e, look_of_mem hap ?_, by simpa using h1, h2, h3⟩
    have : (e.key, e.val) ∈ l.map (fun p => (enc p.1, p.2)) := by
      rw [← he]
      exact List.mem_map_of_mem (f := fun x : MapEntry => (x.key, x.val)) (List.mem_of_getElem? h2)
    obtain ⟨p, hp, ep⟩ := List.mem_map.1 this
    cases p with
    | mk p1 p2 =>
      simp only [Prod.mk.injEq] at ep
      obtain ⟨e1, e2⟩ := ep
      rw [h3] at e1
      rw [← K.inj _ _ e1, ← e2]
      exact hp

variable {P : Program} {t kt e : TypeId}
theorem KMap.find (h : KMap w b d enc l) (K : KeyEnc d enc) (ht : P.underlying t = some (.map kt e)) (hd : P.underlying kt = some d) {z : Value} (hz : (zeroValue e).run P w = .ok z w) (c : Bool) (k : κ) :
    (Instr.lookup t (.map (some b)) (enc k) c).run P w = .ok (if c then .tuple #[(look l k).getD z, .bool (look l k).isSome] else (look l k).getD z) w := by
  obtain ⟨es, clock, hb, hs, he⟩ := h
  rcases kmap_find K hs he k with ⟨h0, h1, h2⟩ | ⟨j, x, h0, h1, h2, h3⟩
  · rw [h0]
    simp [Instr.lookup, run_underlying ht, MapKept.run_getObj_map hb, MapKept.run_checkKey hd (K.is k), MapKept.run_findKey hd h1, hz, Result.andThen]
  · rw [h0]
    simp [Instr.lookup, run_underlying ht, MapKept.run_getObj_map hb, MapKept.run_checkKey hd (K.is k), MapKept.run_findKey hd h1, Result.andThen]
omit [DecidableEq κ] in
theorem KMap.count (h : KMap w b d enc l) (ht : P.underlying t = some (.map kt e)) (ty : TypeId) : (Builtin.len_ #[t] ty #[.map (some b)]).run P w = .ok (.int .i64 (l.length : Int)) w := by
  obtain ⟨es, clock, hb, hs, he⟩ := h
  have : es.size = l.length := by
    have := congrArg List.length he
    simpa using this
  simp [Builtin.len_, run_underlying ht, MapKept.run_getObj_map hb, Result.andThen, this, goInt]
theorem KMap.push (h : KMap w b d enc l) (K : KeyEnc d enc) (ht : P.underlying t = some (.map kt e)) (hd : P.underlying kt = some d) {k : κ} (hk : look l k = none) (v : Value) :
    ∃ o, (Instr.mapUpdate t (.map (some b)) (enc k) v).run P w = .ok () (setBlock w b o) ∧ KMap (setBlock w b o) b d enc (l ++ [(k, v)]) := by
  obtain ⟨es, clock, hb, hs, he⟩ := h
  rcases kmap_find K hs he k with ⟨h0, h1, h2⟩ | ⟨j, x, h0, h1, h2, h3⟩
  · refine ⟨.map (es.push ⟨enc k, v, clock⟩) (clock + 1), ?_, es.push ⟨enc k, v, clock⟩, clock + 1, heap_setBlock_same hb _, stamped_push hs h2, by simp [he]⟩
    simp [Instr.mapUpdate, run_underlying ht, MapKept.run_getObj_map hb, MapKept.run_checkKey hd (K.is k), MapKept.run_findKey hd h1, MapKept.run_setObj_map _ hb, Result.andThen, setBlock]
  · rw [hk] at h0; cases h0
omit [DecidableEq κ] in
theorem erase_map {α β : Type} (g : α → β) (m : List α) (j : Nat) : (m.eraseIdx j).map g = (m.map g).eraseIdx j := by
  induction m generalizing j with
  | nil => rfl
  | cons a m ih =>
    cases j with
    | zero => rfl
    | succ j => simp [ih]
theorem erase_look {α : Type} {l : List (κ × α)} {k : κ} {v : α} (hd : l.Pairwise (fun p q => p.1 ≠ q.1)) {j : Nat} (h : l[j]? = some (k, v)) : l.eraseIdx j = l.filter (fun p => p.1 ≠ k) := by
  induction l generalizing j with
  | nil => simp at h
  | cons a l ih =>
    rw [List.pairwise_cons] at hd
    cases j with
    | zero =>
      simp only [List.getElem?_cons_zero, Option.some.injEq] at h
      subst h
      rw [List.filter_cons_of_neg (by simp), List.eraseIdx_cons_zero]
      exact (List.filter_eq_self.2 fun p hp => by simpa using fun e => hd.1 p hp e.symm).symm
    | succ j =>
      simp only [List.getElem?_cons_succ] at h
      rw [List.filter_cons_of_pos (by simpa using fun e => hd.1 _ (List.mem_of_getElem? h) e), List.eraseIdx_cons_succ, ih hd.2 h]
theorem KMap.drop (h : KMap w b d enc l) (K : KeyEnc d enc) (ht : P.underlying t = some (.map kt e)) (hd : P.underlying kt = some d) (k : κ) (ty : TypeId) :
    ∃ o, (Builtin.delete_ #[t, kt] ty #[.map (some b), enc k]).run P w = .ok (.tuple #[]) (setBlock w b o) ∧ KMap (setBlock w b o) b d enc (l.filter fun p => p.1 ≠ k) := by
  have hap := h.apart
  obtain ⟨es, clock, hb, hs, he⟩ := h
  rcases kmap_find K hs he k with ⟨h0, h1, h2⟩ | ⟨j, x, h0, h1, h2, h3⟩
  · refine ⟨.map es clock, ?_, es, clock, heap_setBlock_same hb _, hs, ?_⟩
    · simp [Builtin.delete_, run_underlying ht, MapKept.run_getObj_map hb, MapKept.run_checkKey hd (K.is k), MapKept.run_findKey hd h1, MapKept.run_setObj_map _ hb, Result.andThen, setBlock]
    · rw [List.filter_eq_self.2 fun p hp => by simpa using look_none.1 h0 p hp]
      exact he
  · have hjs : j < es.size := by simpa using (List.getElem?_eq_some_iff.1 h2).1
    have hsub : (es.eraseIdxIfInBounds j).toList = es.toList.eraseIdx j := by
      unfold Array.eraseIdxIfInBounds
      rw [dif_pos hjs]
      simp
    refine ⟨.map (es.eraseIdxIfInBounds j) clock, ?_, es.eraseIdxIfInBounds j, clock, heap_setBlock_same hb _, stamped_erase hs j, ?_⟩
    · simp [Builtin.delete_, run_underlying ht, MapKept.run_getObj_map hb, MapKept.run_checkKey hd (K.is k), MapKept.run_findKey hd h1, MapKept.run_setObj_map _ hb, Result.andThen, setBlock]
    · have hj : (l.map (fun p => (enc p.1, p.2)))[j]? = some (x.key, x.val) := by rw [← he]; simp [h2]
      simp only [List.getElem?_map, Option.map_eq_some_iff, Prod.mk.injEq] at hj
      obtain ⟨p, hp, e1, e2⟩ := hj
      rw [h3] at e1
      obtain ⟨p1, p2⟩ := p
      have e3 := K.inj _ _ e1
      simp only at e3
      subst e3
      rw [hsub, ← erase_look hap hp]
      rw [erase_map, he, erase_map]

/-! At the operation. -/
variable {ops : Array Oper} {rest : List Oper} {o : Oper} {a : Act} {Q : Exit → Act → World → Prop}
theorem wpList_look_k (hg : o.guard = none) (m x : Operand) (t : TypeId) (c : Bool) (hop : o.op = Op.lookup t m x c)
    (kt e : TypeId) (K : KeyEnc d enc) (ht : P.underlying t = some (.map kt e)) (hd : P.underlying kt = some d) {z : Value} (hz : (zeroValue e).run P w = .ok z w)
    (hm : a.eval m = .map (some b)) (h : KMap w b d enc l) (k : κ) (hx : a.eval x = enc k)
    (hK : wpList P ops Q rest (a.put o.dst (if c then .tuple #[(look l k).getD z, .bool (look l k).isSome] else (look l k).getD z)) w) :
    wpList P ops Q (o :: rest) a w := by
  refine wpList_plain hg fun K' hK' => ?_
  unfold Oper.wp
  simp only [execOp, hop, hm, hx, Sem.run_bind, h.find K ht hd hz c k, Result.andThen]
  exact hK' _ _ hK
theorem wpList_put_k (hg : o.guard = none) (m x v : Operand) (t : TypeId) (hop : o.op = Op.mapUpdate t m x v)
    (kt e : TypeId) (K : KeyEnc d enc) (ht : P.underlying t = some (.map kt e)) (hd : P.underlying kt = some d)
    (hm : a.eval m = .map (some b)) (h : KMap w b d enc l) (k : κ) (hx : a.eval x = enc k) (hk : look l k = none) (val : Value) (hv : a.eval v = val)
    (hK : ∀ ob, KMap (setBlock w b ob) b d enc (l ++ [(k, val)]) → wpList P ops Q rest (a.put o.dst undef) (setBlock w b ob)) :
    wpList P ops Q (o :: rest) a w := by
  refine wpList_plain hg fun K' hK' => ?_
  obtain ⟨ob, hrun, h1⟩ := h.push K ht hd hk val
  unfold Oper.wp
  simp [execOp, hop, hm, hx, hv, hrun, Result.andThen]
  exact hK' _ _ (hK ob h1)
theorem wpList_del_k (hg : o.guard = none) (m x : Operand) (t kt : TypeId) (hop : o.op = Op.call { callee := Callee.builtin Builtin.delete, args := #[m, x], argTypes := #[t, kt] })
    (e : TypeId) (K : KeyEnc d enc) (ht : P.underlying t = some (.map kt e)) (hd : P.underlying kt = some d)
    (hm : a.eval m = .map (some b)) (h : KMap w b d enc l) (k : κ) (hx : a.eval x = enc k)
    (hK : ∀ ob, KMap (setBlock w b ob) b d enc (l.filter fun p => p.1 ≠ k) → wpList P ops Q rest (a.put o.dst (.tuple #[])) (setBlock w b ob)) :
    wpList P ops Q (o :: rest) a w := by
  refine wpList_plain hg fun K' hK' => ?_
  obtain ⟨ob, hrun, h1⟩ := h.drop K ht hd k o.type
  unfold Oper.wp
  simp [execOp, hop, resolve, invoke, builtin, hm, hx, hrun, Result.andThen]
  exact hK' _ _ (hK ob h1)
omit [DecidableEq κ] in
theorem wpList_len_k (hg : o.guard = none) (m : Operand) (t : TypeId) (hop : o.op = Op.call { callee := Callee.builtin Builtin.len, args := #[m], argTypes := #[t] })
    (kt e : TypeId) (ht : P.underlying t = some (.map kt e)) (hm : a.eval m = .map (some b)) (h : KMap w b d enc l)
    (hK : wpList P ops Q rest (a.put o.dst (.int .i64 (l.length : Int))) w) :
    wpList P ops Q (o :: rest) a w := by
  refine wpList_plain hg fun K' hK' => ?_
  unfold Oper.wp
  simp [execOp, hop, resolve, invoke, builtin, hm, h.count ht o.type, Result.andThen]
  exact hK' _ _ hK
end
end Go.Proofs.YtigmdfdcflkggaaGreat
