/-
  What a map has, as pairs by rising keys: there is one such row, and keys, sorted, are its keys. Conditions: none.
-/
import Derived.Test.YtcobfimafpfbpaaUdSort
namespace Go.Proofs.Ytcobfimafpfbpaa
open Go Go.Proofs Go.RowKit Go.ChangeMaps Go.Sort

/-- Pairs by rising keys, as f has them. -/
structure Canon (f : ByteArray → Option Int) (L : Es) : Prop where
  rising : L.Pairwise (fun p q => bytesOf p.1 < bytesOf q.1)
  has : ∀ k, look L k = f k
theorem bytesOf_inj {a b : ByteArray} (h : bytesOf a = bytesOf b) : a = b := by
  cases a; cases b
  unfold bytesOf at h
  rw [ByteArray.mk.injEq]
  exact Array.toList_inj.1 h
def ofBytes (k : List UInt8) : ByteArray := ⟨k.toArray⟩
theorem bytes_of (k : List UInt8) : bytesOf (ofBytes k) = k := rfl
theorem of_bytes (k : ByteArray) : ofBytes (bytesOf k) = k := bytesOf_inj rfl
theorem blt_irrefl (a : List UInt8) : ¬ a < a := List.lt_irrefl a
theorem blt_trans {a b c : List UInt8} (h : a < b) (k : b < c) : a < c := List.lt_trans h k
theorem blt_asymm {a b : List UInt8} (h : a < b) : ¬ b < a := fun k => blt_irrefl a (blt_trans h k)
theorem blt_ne {a b : ByteArray} (h : bytesOf a < bytesOf b) : a ≠ b := by
  rintro rfl
  exact blt_irrefl _ h
theorem Canon.apart {f : ByteArray → Option Int} {L : Es} (h : Canon f L) : L.Pairwise (fun p q => p.1 ≠ q.1) := h.rising.imp fun hlt => blt_ne hlt
theorem Canon.mem {f : ByteArray → Option Int} {L : Es} (h : Canon f L) (p : ByteArray × Int) : p ∈ L ↔ f p.1 = some p.2 := by
  rw [← h.has p.1]
  exact ⟨fun hp => look_of_mem h.apart hp, fun hp => look_mem hp⟩
theorem Canon.unique {f : ByteArray → Option Int} {L L' : Es} (h : Canon f L) (k : Canon f L') : L = L' := by
  have nd : ∀ {M : Es}, Canon f M → M.Nodup := fun {M} hM => by
    have := hM.apart
    exact this.imp fun h e => h (by rw [e])
  have hp : L.Perm L' := (List.perm_ext_iff_of_nodup (nd h) (nd k)).2 fun p => by rw [h.mem, k.mem]
  exact List.Perm.eq_of_pairwise (le := fun p q => bytesOf p.1 < bytesOf q.1) (fun a b _ _ h1 h2 => absurd h2 (blt_asymm h1)) h.rising k.rising hp
theorem ble_of_lt {a b : List UInt8} (h : a < b) : decide (a ≤ b) = true := by
  rw [decide_eq_true_eq]
  exact List.le_of_lt h
theorem Canon.keys {es L : Es} (h : Canon (look es) L) (ha : es.Pairwise (fun p q => p.1 ≠ q.1)) : keysL es = L.map (fun p => bytesOf p.1) ∧ es.length = L.length := by
  have hp : es.Perm L := by
    refine (List.perm_ext_iff_of_nodup (ha.imp fun h e => h (by rw [e])) (h.apart.imp fun h e => h (by rw [e]))).2 fun p => ?_
    rw [h.mem]
    exact ⟨fun hp => look_of_mem ha hp, fun hp => look_mem hp⟩
  refine ⟨?_, hp.length_eq⟩
  unfold keysL
  rw [mergeSort_of_perm (hp.map fun p => bytesOf p.1)]
  refine List.mergeSort_of_pairwise ?_
  exact List.pairwise_map.2 (h.rising.imp fun hlt => ble_of_lt hlt)
/-- There is such a row. -/
def insL (k : ByteArray) (v : Int) : Es → Es
  | [] => [(k, v)]
  | p :: l => if bytesOf p.1 > bytesOf k then (k, v) :: p :: l else p :: insL k v l
theorem insL_mem {k : ByteArray} {v : Int} {l : Es} {p : ByteArray × Int} : p ∈ insL k v l ↔ p = (k, v) ∨ p ∈ l := by
  induction l with
  | nil => simp [insL]
  | cons q l ih =>
    unfold insL
    split
    · simp
    · simp only [List.mem_cons, ih]
      constructor
      · rintro (h | h | h)
        · exact .inr (.inl h)
        · exact .inl h
        · exact .inr (.inr h)
      · rintro (h | h | h)
        · exact .inr (.inl h)
        · exact .inl h
        · exact .inr (.inr h)
theorem insL_length (k : ByteArray) (v : Int) (l : Es) : (insL k v l).length = l.length + 1 := by
  induction l with
  | nil => rfl
  | cons q l ih =>
    unfold insL
    split
    · rfl
    · simp [ih]
theorem insL_rising {k : ByteArray} {v : Int} {l : Es} (h : l.Pairwise (fun p q => bytesOf p.1 < bytesOf q.1)) (hk : ∀ p ∈ l, p.1 ≠ k) : (insL k v l).Pairwise (fun p q => bytesOf p.1 < bytesOf q.1) := by
  induction l with
  | nil => exact List.pairwise_singleton _ _
  | cons q l ih =>
    rw [List.pairwise_cons] at h
    unfold insL
    by_cases hc : bytesOf q.1 > bytesOf k
    · rw [if_pos hc, List.pairwise_cons, List.pairwise_cons]
      refine ⟨fun p hp => ?_, h.1, h.2⟩
      rcases List.mem_cons.1 hp with rfl | hp
      · exact hc
      · exact blt_trans hc (h.1 p hp)
    · rw [if_neg hc, List.pairwise_cons]
      refine ⟨fun p hp => ?_, ih h.2 fun p hp => hk p (List.mem_cons_of_mem _ hp)⟩
      rcases insL_mem.1 hp with rfl | hp
      · have hne : bytesOf q.1 ≠ bytesOf k := fun e => hk q (List.mem_cons_self ..) (bytesOf_inj e)
        have hle : bytesOf q.1 ≤ bytesOf k := List.not_lt.1 hc
        exact Classical.byContradiction fun hn => hne (List.le_antisymm hle (List.not_lt.1 hn))
      · exact h.1 p hp
theorem look_insL {k : ByteArray} {v : Int} {l : Es} (hk : ∀ p ∈ l, p.1 ≠ k) (j : ByteArray) : look (insL k v l) j = if j = k then some v else look l j := by
  induction l with
  | nil =>
    simp only [insL, look]
    by_cases hj : j = k
    · rw [if_pos hj, if_pos hj.symm]
    · rw [if_neg hj, if_neg (Ne.symm hj)]
  | cons q l ih =>
    have hq := hk q (List.mem_cons_self ..)
    unfold insL
    split
    · simp only [look]
      by_cases hj : j = k
      · rw [if_pos hj, if_pos hj.symm]
      · rw [if_neg hj, if_neg (Ne.symm hj)]
    · simp only [look]
      rw [ih fun p hp => hk p (List.mem_cons_of_mem _ hp)]
      by_cases hj : j = k
      · subst hj; rw [if_neg hq]; simp
      · rw [if_neg hj, if_neg hj]
theorem dropK_none {l : Es} {k : ByteArray} : ∀ p ∈ dropK l k, p.1 ≠ k := fun p hp => by
  have := (List.mem_filter.1 hp).2
  simpa using this
theorem Canon.put {f : ByteArray → Option Int} {L : Es} (h : Canon f L) (k : ByteArray) (v : Int) : Canon (fun j => if j = k then some v else f j) (insL k v (dropK L k)) := by
  refine ⟨insL_rising (h.rising.filter _) dropK_none, fun j => ?_⟩
  rw [look_insL dropK_none, look_dropK, h.has]
  by_cases hj : j = k
  · rw [if_pos hj, if_pos hj]
  · rw [if_neg hj, if_neg hj, if_neg hj]
theorem Canon.del {f : ByteArray → Option Int} {L : Es} (h : Canon f L) (k : ByteArray) : Canon (fun j => if j = k then none else f j) (dropK L k) := by
  refine ⟨h.rising.filter _, fun j => ?_⟩
  rw [look_dropK, h.has]
theorem Canon.nil : Canon (fun _ => none) [] := ⟨List.Pairwise.nil, fun _ => rfl⟩
theorem canon_of (es : Es) (h : es.Pairwise (fun p q => p.1 ≠ q.1)) : ∃ L, Canon (look es) L := by
  induction es with
  | nil => exact ⟨[], List.Pairwise.nil, fun _ => rfl⟩
  | cons p es ih =>
    rw [List.pairwise_cons] at h
    obtain ⟨L, hL⟩ := ih h.2
    have := hL.put p.1 p.2
    refine ⟨_, this.rising, fun j => ?_⟩
    rw [this.has]
    simp only [look]
    by_cases hj : j = p.1
    · rw [if_pos hj, if_pos hj.symm]
    · rw [if_neg hj, if_neg (Ne.symm hj)]
theorem th_canon {w : World} {B : Nat} {Q : Nat → Prop} {a : Ad} {pot : Nat} {t : Tg} (h : ThAt w B Q a pot t) : ∃ L, Canon t.cur.f L ∧ L.length ≤ pot := by
  obtain ⟨ms, fs, es, h1, h2, h3, h4, h5, h6, h7, h8, h9⟩ := h
  have hap : es.Pairwise (fun p q => p.1 ≠ q.1) := by
    have := h2.map.apart
    unfold encE at this
    rw [List.pairwise_map] at this
    exact this
  obtain ⟨L, hL⟩ := canon_of es hap
  have hf : look es = t.cur.f := funext h4
  have := (hL.keys hap).2
  exact ⟨L, hf ▸ hL, by omega⟩
end Go.Proofs.Ytcobfimafpfbpaa
