/-
  A map of a log in memory: what is put under a key, at the operation; NewMap, NewCell, Get, Cell's Get. Conditions: none.
-/
import Derived.Test.YtigmdfdcflkggaaGreatUdUndo
namespace Go.Proofs.YtigmdfdcflkggaaGreat
open Go Go.RowKit Go.ChangeMaps Go.MapKept

section
variable {κ : Type} [DecidableEq κ]
/-- k has v. -/
def putK {α : Type} (l : List (κ × α)) (k : κ) (v : α) : List (κ × α) := if (look l k).isSome then l.map (fun p => if p.1 = k then (k, v) else p) else l ++ [(k, v)]
theorem look_putK {α : Type} (l : List (κ × α)) (k : κ) (v : α) (j : κ) : look (putK l k v) j = if j = k then some v else look l j := by
  unfold putK
  split
  · rename_i h
    have aux : ∀ l : List (κ × α), look (l.map (fun p => if p.1 = k then (k, v) else p)) j = if j = k then (look l k).map (fun _ => v) else look l j := by
      intro l
      induction l with
      | nil => simp [look]
      | cons a l ih =>
        simp only [List.map_cons, look]
        by_cases ha : a.1 = k
        · simp only [ha, if_true]
          by_cases hj : j = k
          · subst hj; simp
          · rw [if_neg (Ne.symm hj), ih, if_neg hj, if_neg (Ne.symm hj), if_neg hj]
        · simp only [ha, if_false]
          by_cases hj : j = k
          · subst hj; rw [if_neg ha, if_pos rfl, ih, if_pos rfl]
          · rw [if_neg hj, ih, if_neg hj]
    rw [aux]
    by_cases hj : j = k
    · rw [if_pos hj, if_pos hj]
      cases hl : look l k with
      | none => rw [hl] at h; cases h
      | some x => rfl
    · rw [if_neg hj, if_neg hj]
  · rename_i h
    rw [look_app]
    simp only [look]
    by_cases hj : j = k
    · subst hj
      cases hl : look l j with
      | none => simp
      | some x => rw [hl] at h; exact absurd rfl h
    · rw [if_neg (Ne.symm hj), if_neg hj]
      cases look l j <;> rfl
theorem putK_map {α β : Type} (f : α → β) (l : List (κ × α)) (k : κ) (v : α) : putK (l.map fun p => (p.1, f p.2)) k (f v) = (putK l k v).map fun p => (p.1, f p.2) := by
  unfold putK
  rw [look_map]
  cases hl : look l k with
  | none => simp
  | some x =>
    simp only [Option.map_some, Option.isSome_some, if_true, List.map_map]
    refine List.map_congr_left fun p _ => ?_
    simp only [Function.comp]
    split <;> rfl
def dropK {α : Type} (l : List (κ × α)) (k : κ) : List (κ × α) := l.filter fun p => p.1 ≠ k
theorem look_dropK {α : Type} (l : List (κ × α)) (k j : κ) : look (dropK l k) j = if j = k then none else look l j := by
  unfold dropK
  induction l with
  | nil => simp [look]
  | cons a l ih =>
    by_cases ha : a.1 = k
    · rw [List.filter_cons_of_neg (by simpa using ha), ih]
      simp only [look]
      by_cases hj : j = k
      · rw [if_pos hj, if_pos hj]
      · rw [if_neg hj, if_neg hj, if_neg (fun e => hj (e.symm.trans ha))]
    · rw [List.filter_cons_of_pos (by simpa using ha)]
      simp only [look]
      by_cases hj : j = k
      · subst hj; rw [if_neg ha, ih, if_pos rfl, if_pos rfl]
      · rw [ih, if_neg hj, if_neg hj]
theorem dropK_map {α β : Type} (f : α → β) (l : List (κ × α)) (k : κ) : (l.map fun p => (p.1, f p.2)).filter (fun p => p.1 ≠ k) = (dropK l k).map fun p => (p.1, f p.2) := by
  unfold dropK
  rw [List.filter_map]
  rfl
variable {w : World} {b : Nat} {d : TypeDesc} {enc : κ → Value} {l : List (κ × Value)} {P : Program} {t kt e : TypeId}
theorem KMap.put (h : KMap w b d enc l) (K : KeyEnc d enc) (ht : P.underlying t = some (.map kt e)) (hd : P.underlying kt = some d) (k : κ) (v : Value) :
    ∃ o, (Instr.mapUpdate t (.map (some b)) (enc k) v).run P w = .ok () (setBlock w b o) ∧ KMap (setBlock w b o) b d enc (putK l k v) := by
  cases hk : look l k with
  | none =>
    obtain ⟨o, h1, h2⟩ := h.push K ht hd hk v
    exact ⟨o, h1, by unfold putK; rw [hk]; exact h2⟩
  | some u =>
    have hap := h.apart
    obtain ⟨es, clock, hb, hs, he⟩ := h
    rcases kmap_find K hs he k with ⟨h0, h1, h2⟩ | ⟨j, x, h0, h1, h2, h3⟩
    · rw [hk] at h0; cases h0
    have hj : es[j]? = some x := by simpa using h2
    refine ⟨.map (es.modify j fun e => { e with key := enc k, val := v }) clock, ?_, es.modify j fun e => { e with key := enc k, val := v }, clock, heap_setBlock_same hb _, ?_, ?_⟩
    · simp [Instr.mapUpdate, run_underlying ht, MapKept.run_getObj_map hb, MapKept.run_checkKey hd (K.is k), MapKept.run_findKey hd h1, hj, h3, MapKept.run_keyThatStays (K.is k), MapKept.run_setObj_map _ hb, Result.andThen, setBlock]
    · exact stamped_modify hs _ _ (fun _ _ => rfl) (fun e' _ he' => by rw [hj] at he'; cases he'; exact h3.symm)
    · have hjl : es.toList[j]? = some x := h2
      have hlj : (l.map fun p => (enc p.1, p.2))[j]? = some (enc k, x.val) := by rw [← he, List.getElem?_map, hjl]; simp [h3]
      rw [List.getElem?_map] at hlj
      cases hlj2 : l[j]? with
      | none => rw [hlj2] at hlj; cases hlj
      | some p =>
        rw [hlj2] at hlj
        obtain ⟨p1, p2⟩ := p
        simp only [Option.map_some, Option.some.injEq, Prod.mk.injEq] at hlj
        obtain ⟨e1, e2⟩ := hlj
        obtain rfl := K.inj _ _ e1
        unfold putK
        rw [hk]
        simp only [Option.isSome_some, if_true, List.map_map]
        apply List.ext_getElem?
        intro i
        have hei : (es.toList.map fun x => (x.key, x.val))[i]? = (l.map fun p => (enc p.1, p.2))[i]? := by rw [he]
        rw [List.getElem?_map, List.getElem?_map] at hei
        rw [Array.toList_modify, List.getElem?_map, List.getElem?_modify, List.getElem?_map]
        by_cases hij : j = i
        · subst hij
          rw [hjl, hlj2]
          simp
        · simp only [if_neg hij]
          cases hi : l[i]? with
          | none =>
            rw [hi] at hei
            cases hie : es.toList[i]? with
            | none => rfl
            | some y => rw [hie] at hei; cases hei
          | some q =>
            rw [hi] at hei
            cases hie : es.toList[i]? with
            | none => rw [hie] at hei; cases hei
            | some y =>
              rw [hie] at hei
              simp only [Option.map_some, Option.some.injEq] at hei ⊢
              have hei2 : Option.map (fun x : MapEntry => (x.key, x.val)) ((fun a => a) <$> some y) = some (y.key, y.val) := rfl
              rw [hei2, hei]
              have hq : q.1 ≠ p1 := fun e => by
                have hil := (List.getElem?_eq_some_iff.1 hi)
                have hjl2 := (List.getElem?_eq_some_iff.1 hlj2)
                obtain ⟨ha, hb1⟩ := hil
                obtain ⟨hc, hd1⟩ := hjl2
                rcases Nat.lt_or_gt_of_ne hij with hlt | hlt
                · have := List.pairwise_iff_getElem.1 hap j i hc ha hlt
                  rw [hb1, hd1] at this
                  exact this e.symm
                · have := List.pairwise_iff_getElem.1 hap i j ha hc hlt
                  rw [hb1, hd1] at this
                  exact this e
              simp [Function.comp, hq]
variable {ops : Array Oper} {rest : List Oper} {o : Oper} {a : Act} {Q : Exit → Act → World → Prop}
theorem wpList_set_k (hg : o.guard = none) (m x v : Operand) (t : TypeId) (hop : o.op = Op.mapUpdate t m x v)
    (kt e : TypeId) (K : KeyEnc d enc) (ht : P.underlying t = some (.map kt e)) (hd : P.underlying kt = some d)
    (hm : a.eval m = .map (some b)) (h : KMap w b d enc l) (k : κ) (hx : a.eval x = enc k) (val : Value) (hv : a.eval v = val)
    (hK : ∀ ob, KMap (setBlock w b ob) b d enc (putK l k val) → wpList P ops Q rest (a.put o.dst undef) (setBlock w b ob)) :
    wpList P ops Q (o :: rest) a w := by
  obtain ⟨ob, hrun, hk'⟩ := h.put K ht hd k val
  refine wpList_plain hg fun next hnext => ?_
  unfold Oper.wp execOp
  simp only [hop, Sem.run_bind, Sem.run_pure, Result.andThen_ok, hm, hx, hv, hrun]
  exact hnext _ _ (hK ob hk')
end
end Go.Proofs.YtigmdfdcflkggaaGreat
