/-
  A queue of texts: a slice, wherever in its row it begins, whose room behind it is its own; a text is put behind it, its head is taken away. Conditions: lengths that fit.
-/
import Derived.Test.YtnioneknlgbhoaaGbAllPure
import Derived.Deep.AppendSrc
namespace Go.Proofs.Ytnioneknlgbhoaa
open Go Go.RowKit

theorem heap_cells_other (w : World) (g o : Nat) (vs : List Value) {i : Nat} (hi : i < w.heap.size) (hne : i ≠ g) : (w.setCells g o vs).heap[i]? = w.heap[i]? :=
  (World.keptBut_setCells g (may := fun p => p.block = g) vs o w (fun _ _ => rfl)).block hi (fun _ hp e => hne (e.symm.trans hp))

/-- A queue's value, in block b: its room is there and may be written. -/
def QRow (w : World) (b : Nat) (v : Value) (q : List ByteArray) : Prop :=
  ∃ off c, v = .slice (some ⟨b, off, none⟩) q.length c ∧ q.length ≤ c ∧ c ≤ maxLen ∧ b < w.heap.size ∧
    (∀ j, j < c → (w.cell? ⟨b, off + j, none⟩).isSome = true ∧ w.frozen? ⟨b, off + j, none⟩ = false) ∧ ∀ j (h : j < q.length), w.cell? ⟨b, off + j, none⟩ = some (.string q[j])

theorem QRow.keep {w w' : World} {b : Nat} {v : Value} {q : List ByteArray} (h : QRow w b v q) (hs : w.heap.size ≤ w'.heap.size) (hb : w'.heap[b]? = w.heap[b]?) : QRow w' b v q := by
  obtain ⟨off, c, hv, hc, hm, hlt, hr, hq⟩ := h
  exact ⟨off, c, hv, hc, hm, by omega, fun j hj => by rw [World.cell?_of_block (a := ⟨b, off + j, none⟩) hb, World.frozen?_of_block (a := ⟨b, off + j, none⟩) hb]; exact hr j hj, fun j hj => by rw [World.cell?_of_block (a := ⟨b, off + j, none⟩) hb]; exact hq j hj⟩
theorem QRow.form {w : World} {b : Nat} {v : Value} {q : List ByteArray} (h : QRow w b v q) : ∃ off c, v = .slice (some ⟨b, off, none⟩) q.length c ∧ q.length ≤ c ∧ c ≤ maxLen ∧ ∀ j (h : j < q.length), w.cell? ⟨b, off + j, none⟩ = some (.string q[j]) := by
  obtain ⟨off, c, hv, hc, hm, hlt, hr, hq⟩ := h
  exact ⟨off, c, hv, hc, hm, hq⟩
theorem QRow.first (w : World) (t : ByteArray) : QRow (w.alloc (.cells #[.string t] 9)) w.heap.size (.slice (some ⟨w.heap.size, 0, none⟩) 1 1) [t] := by
  refine ⟨0, 1, rfl, Nat.le_refl _, by unfold maxLen; omega, by simp, fun j hj => ?_, fun j hj => ?_⟩
  · obtain rfl : j = 0 := by omega
    exact ⟨by simp, World.frozen?_alloc_new w _ _ _⟩
  · have : j = 0 := by simp at hj; omega
    subst this
    simp
/-- The head is taken away. -/
theorem QRow.tail {w : World} {b off c : Nat} {t : ByteArray} {q : List ByteArray} (h : QRow w b (.slice (some ⟨b, off, none⟩) (q.length + 1) c) (t :: q)) : QRow w b (sliced (some ⟨b, off, none⟩) 1 (q.length + 1) c 1) q := by
  obtain ⟨off', c', hv, hc, hm, hlt, hr, hq⟩ := h
  injection hv with h1 h2 h3
  injection h1 with h1
  injection h1 with h1 h4 h5
  subst h3; subst h4
  simp only [List.length_cons] at hc hq
  unfold sliced
  by_cases e : c = 1
  · subst e
    have hq0 : q = [] := List.eq_nil_of_length_eq_zero (by omega)
    subst hq0
    exact ⟨off, 0, by simp, Nat.le_refl _, Nat.zero_le _, hlt, fun j hj => absurd hj (by omega), fun j hj => absurd hj (by simp)⟩
  · refine ⟨off + 1, c - 1, by rw [if_neg e]; simp [add_plain0], by omega, by omega, hlt, fun j hj => ?_, fun j hj => ?_⟩
    · rw [show off + 1 + j = off + (j + 1) by omega]; exact hr (j + 1) (by omega)
    · rw [show off + 1 + j = off + (j + 1) by omega]; exact hq (j + 1) (by simpa using hj)

theorem infoStr : (Try.prog.info? 9).map (fun i => (i.zero, i.size, i.bytes)) = some (some (.string ⟨#[]⟩), 1, 16) := by kernel_rfl

/-- A text is put behind a queue: in its own row, or in a new one. -/
theorem run_append_q (w : World) (ty : TypeId) {b : Nat} {v : Value} {q : List ByteArray} (h : QRow w b v q) (ad : Addr) (s : ByteArray) (hx : w.cell? ad = some (.string s)) (hl : q.length + 1 ≤ 1000000) :
    ∃ v' b' w', (Builtin.append_ #[39, 39] ty #[v, .slice (some ad) 1 1]).run Try.prog w = .ok v' w' ∧ QRow w' b' v' (q ++ [s]) ∧ w.grownBy w' (some b) ∧ (b' = b ∨ b' = w.heap.size) ∧ ∀ off c, v = .slice (some ⟨b, off, none⟩) q.length c → ∀ j, j < q.length → w'.cell? ⟨b, off + j, none⟩ = w.cell? ⟨b, off + j, none⟩ := by
  obtain ⟨i, hi, hz, hsz, hby⟩ := info_parts infoStr
  obtain ⟨off, c, rfl, hc, hm, hlt, hr, hq⟩ := h
  have hsrc : Src Try.prog i.size 39 (.slice (some ad) 1 1) 1 [.string s] w := by
    refine Src.ofSlice w Try.underlying39 ad 1 1 [.string s] (by rw [hsz]; rfl) (fun j u hu => ?_) (fun u hu => ?_)
    · cases j with
      | zero =>
        have : u = .string s := by simpa using hu.symm
        subst this
        have e : ad.add 0 = ad := by cases ad with | mk a b c => cases c <;> simp [Addr.add]
        rw [e]; exact hx
      | succ j => simp at hu
    · have : u = .string s := by simpa using hu
      subst this; rfl
  by_cases hroom : q.length + 1 ≤ c
  · have hrun := run_append_room_src (P := Try.prog) w 39 39 ty 9 i Try.underlying39 hi b off q.length c (.slice (some ad) 1 1) 1 [.string s] hsrc hroom
      (fun j hj => by
        obtain rfl : j = 0 := by simp at hj; omega
        rw [hsz]; simpa using (hr q.length (by omega)).1)
      (fun j hj => by
        obtain rfl : j = 0 := by simp at hj; omega
        rw [hsz]; simpa using (hr q.length (by omega)).2)
    rw [hsz, Nat.mul_one] at hrun
    have hsome : ∀ j, j < [Value.string s].length → (w.cell? ⟨b, off + q.length + j, none⟩).isSome = true := fun j hj => by
      obtain rfl : j = 0 := by simp at hj; omega
      exact (hr q.length (by omega)).1
    have hin := World.cell?_setCells_in b [.string s] (off + q.length) w hsome 0 (by simp)
    have hout : ∀ j, j ≠ q.length → (w.setCells b (off + q.length) [.string s]).cell? ⟨b, off + j, none⟩ = w.cell? ⟨b, off + j, none⟩ := fun j hj =>
      World.cell?_setCells_out b _ _ _ _ (fun _ _ => by simp; omega)
    have hgr : w.grownBy (w.setCells b (off + q.length) [.string s]) (some b) := by
      have hk := World.keptBut_setCells b (may := fun p => p.block = b) [.string s] (off + q.length) w (fun _ _ => rfl)
      exact ⟨hk.1, rfl, hk.2.1, hk.size, fun k hk2 hne => heap_cells_other w b _ _ hk2 (fun e => hne (by rw [e]))⟩
    refine ⟨_, b, _, hrun, ⟨off, c, by rw [List.length_append]; rfl, by rw [List.length_append]; exact hroom, hm, by have := hgr.size; omega, fun j hj => ⟨?_, ?_⟩, fun j hj => ?_⟩, hgr, .inl rfl, fun off' c' he j hj => ?_⟩
    · by_cases e : j = q.length
      · subst e; rw [Nat.add_zero] at hin; rw [hin]; rfl
      · rw [hout j e]; exact (hr j hj).1
    · rw [World.frozen?_setCells]; exact (hr j hj).2
    · rw [List.length_append, List.length_singleton] at hj
      by_cases e : j = q.length
      · subst e; rw [Nat.add_zero] at hin; rw [hin]; simp
      · rw [hout j e, hq j (by omega), List.getElem_append_left (by omega)]
    · have h4 := (Addr.mk.inj (Option.some.inj (Value.slice.inj he).1)).2.1
      subst h4
      exact hout j (by omega)
  · have hold : (Builtin.firstCells i.size q.length (.slice (some ⟨b, off, none⟩) q.length c)).run Try.prog w.drew = .ok (cellsT q).toArray w.drew := by
      rw [hsz]
      refine run_firstCells_some (P := Try.prog) w.drew 1 q.length ⟨b, off, none⟩ q.length c (cellsT q) (by rw [cellsT_length, Nat.mul_one]) (fun j u hu => ?_)
      have hj : j < q.length := by have := (List.getElem?_eq_some_iff.1 hu).1; rwa [cellsT_length] at this
      rw [cellsT_get hj] at hu
      have hu := Option.some.inj hu
      subst hu
      rw [add_plain0]
      exact hq j hj
    have hfit : Builtin.nextslicecap (q.length + 1) c * i.bytes ≤ 281474976710656 := growslice_fits (by omega) (by rw [hby]; omega)
    have hrun := run_append_grow_src (P := Try.prog) w 39 39 ty 9 i _ Try.underlying39 hi hz (some ⟨b, off, none⟩) q.length c (cellsT q) hold (.slice (some ad) 1 1) 1 [.string s] hsrc (by omega) (by omega) hfit
    have hge := grownCap_ge w (q.length + 1) c 9
    have hcm := grownCap_le_maxLen w (q.length + 1) c 9 (by unfold maxLen; omega)
    refine ⟨_, _, _, hrun, ⟨0, _, by rw [List.length_append]; rfl, by rw [List.length_append]; exact hge, hcm, by simp, fun j hj => ⟨?_, ?_⟩, fun j hj => ?_⟩, ⟨rfl, rfl, rfl, by simp, fun k hk _ => Below.heap_alloc w.drew _ k hk⟩, .inr rfl, fun off' c' _ j _ => World.cell?_of_block (a := ⟨b, off' + j, none⟩) (Below.heap_alloc w.drew _ b hlt)⟩
    · have e1 : ∀ (cs : Array Value), (w.drew.alloc (.cells cs 9)).cell? ⟨w.heap.size, j, none⟩ = cs[j]? := fun cs => World.cell?_alloc_new w.drew _ _ j
      rw [Nat.zero_add, e1, Array.getElem?_eq_getElem (by simp [cellsT_length, size_zeroCells, Value.cells]; omega)]
      rfl
    · exact World.frozen?_alloc_new w.drew _ _ _
    · have e1 : ∀ (cs : Array Value), (w.drew.alloc (.cells cs 9)).cell? ⟨w.heap.size, j, none⟩ = cs[j]? := fun cs => World.cell?_alloc_new w.drew _ _ j
      have hj2 : j < (cellsT q ++ [Value.string s]).length := by rw [List.length_append, cellsT_length]; simpa using hj
      have e2 : cellsT q ++ [Value.string s] = cellsT (q ++ [s]) := by rw [cellsT_append]; rfl
      rw [Nat.zero_add, e1, Array.getElem?_append_left (by simpa using hj2), List.getElem?_toArray, e2, cellsT_get hj]

theorem wpList_append_q {w : World} {ops : Array Oper} {rest : List Oper} {o : Oper} {a : Act} {Q : Exit → Act → World → Prop} (hgd : o.guard = none) (s x : Operand)
    (ho : o.op = .call { callee := .builtin .append, args := #[s, x], argTypes := #[39, 39] })
    {b : Nat} {v : Value} {q : List ByteArray} (hs : a.eval s = v) (hown : QRow w b v q) (ad : Addr) (t : ByteArray) (hx : a.eval x = .slice (some ad) 1 1) (hc : w.cell? ad = some (.string t)) (hl : q.length + 1 ≤ 1000000)
    (h : ∀ v' b' w', QRow w' b' v' (q ++ [t]) → w.grownBy w' (some b) → (b' = b ∨ b' = w.heap.size) → (∀ off c, v = .slice (some ⟨b, off, none⟩) q.length c → ∀ j, j < q.length → w'.cell? ⟨b, off + j, none⟩ = w.cell? ⟨b, off + j, none⟩) → wpList Try.prog ops Q rest (a.put o.dst v') w') : wpList Try.prog ops Q (o :: rest) a w := by
  refine wpList_plain hgd fun _ hK => ?_
  obtain ⟨v', b', w', hrun, h2, h3, h4, h5⟩ := run_append_q w o.type hown ad t hc hl
  unfold Oper.wp execOp
  simp only [ho, resolve, invoke, builtin, Sem.run_bind, Sem.run_pure, Result.andThen_ok, List.map_toArray, List.map_cons, List.map_nil, hs, hx, hrun]
  exact hK _ _ (h v' b' w' h2 h3 h4 h5)

theorem step_append_q {w : World} {ops : Array Oper} {o : Oper} {a : Act} {K : Act → World → Prop} {Q : Exit → Act → World → Prop} {E : Prop} (hgd : o.guard = none) (s x : Operand)
    (ho : o.op = .call { callee := .builtin .append, args := #[s, x], argTypes := #[39, 39] })
    {b : Nat} {v : Value} {q : List ByteArray} (hs : a.eval s = v) (hown : QRow w b v q) (ad : Addr) (t : ByteArray) (hx : a.eval x = .slice (some ad) 1 1) (hc : w.cell? ad = some (.string t)) (hl : q.length + 1 ≤ 1000000)
    (h : ∀ v' b' w', QRow w' b' v' (q ++ [t]) → w.grownBy w' (some b) → (b' = b ∨ b' = w.heap.size) → (∀ off c, v = .slice (some ⟨b, off, none⟩) q.length c → ∀ j, j < q.length → w'.cell? ⟨b, off + j, none⟩ = w.cell? ⟨b, off + j, none⟩) → K (a.put o.dst v') w') :
    if Region.wanted o (yielded ops a.tmps) = true then Oper.wp Try.prog o a w K Q else E := by
  have hw : Region.wanted o (yielded ops a.tmps) = true := by simp [Region.wanted, hgd]
  rw [if_pos hw]
  obtain ⟨v', b', w', hrun, h2, h3, h4, h5⟩ := run_append_q w o.type hown ad t hc hl
  unfold Oper.wp execOp
  simp only [ho, resolve, invoke, builtin, Sem.run_bind, Sem.run_pure, Result.andThen_ok, List.map_toArray, List.map_cons, List.map_nil, hs, hx, hrun]
  exact h v' b' w' h2 h3 h4 h5
end Go.Proofs.Ytnioneknlgbhoaa
