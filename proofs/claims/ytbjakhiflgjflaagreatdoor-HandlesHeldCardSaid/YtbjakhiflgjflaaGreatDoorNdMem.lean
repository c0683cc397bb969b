/-
  A row of bytes is made longer by bytes 0, and a string is copied over a part of it. Conditions: fewer than a hundred million bytes.
-/
import Derived.Test.YtbjakhiflgjflaaGreatDoorSpGrow
import Derived.Test.YtbjakhiflgjflaaGreatDoorHnChg
namespace Go.Proofs.YtbjakhiflgjflaaGreatDoor
open Go Go.RowKit

theorem zeroCells_u8 (k : Nat) : Builtin.zeroCells #[Value.int .u8 0] k = (List.replicate k (Value.int .u8 0)).toArray := by
  apply Array.ext
  · simp [Builtin.zeroCells]
  · intro i h1 h2
    simp [Builtin.zeroCells, Nat.mod_one]

/-- A block of cells that may be written, but for what is marked behind its end. -/
def BlkM (w : World) (b : Nat) (cur : List Value) (t : TypeId) : Prop := ∃ f : Nat × Nat, (f.2 = 0 ∨ cur.length ≤ f.1) ∧ w.heap[b]? = some (.cells cur.toArray t f)
section
variable {w w' : World} {b : Nat} {cur : List Value} {t : TypeId}
theorem Blk.m (h : Blk w b cur t) : BlkM w b cur t := ⟨(0, 0), .inl rfl, h⟩
theorem BlkM.lt (h : BlkM w b cur t) : b < w.heap.size := by
  obtain ⟨f, _, h⟩ := h
  exact (Array.getElem?_eq_some_iff.1 h).1
theorem BlkM.keep (h : BlkM w b cur t) (hk : w'.heap[b]? = w.heap[b]?) : BlkM w' b cur t := by
  obtain ⟨f, hf, h⟩ := h
  exact ⟨f, hf, hk.trans h⟩
theorem BlkM.cell (h : BlkM w b cur t) {i : Nat} {v : Value} (hi : cur[i]? = some v) : w.cell? ⟨b, i, none⟩ = some v := by
  obtain ⟨f, _, h⟩ := h
  rw [cell_of_row w b i _ t _ h]; simpa using hi
theorem BlkM.row (h : BlkM w b cur t) (c : List Value) (hc : c.length = cur.length) : BlkM (w.setRow b c.toArray) b c t := by
  obtain ⟨f, hf, h⟩ := h
  exact ⟨f, by rw [hc]; exact hf, setRow_heap w b _ _ t _ h⟩
end
theorem run_storeCells_m {P : Program} (g o : Nat) (t : TypeId) (f : Nat × Nat) : ∀ (vs : List Value) (i : Nat) (cur : Array Value) (w : World), (f.2 = 0 ∨ cur.size ≤ f.1) → w.heap[g]? = some (.cells cur t f) → o + i + vs.length ≤ cur.size → (∀ v ∈ vs, v.oneCell' = true) →
    (storeCells ⟨g, o, none⟩ vs i).run P w = .ok () (w.setRow g (cur.toList.take (o + i) ++ vs ++ cur.toList.drop (o + i + vs.length)).toArray)
  | [], i, cur, w, _, hg, _, _ => by
    simp only [storeCells, List.append_nil, List.length_nil, Nat.add_zero, List.take_append_drop, Array.toArray_toList]
    rw [setRow_self w g cur t f hg]
    rfl
  | v :: rest, i, cur, w, hf, hg, hl, h1 => by
    have hi : o + i < cur.size := by simp at hl; omega
    have hadd : (⟨g, o, none⟩ : Addr).add i = ⟨g, o + i, none⟩ := by unfold Addr.add; split <;> simp_all
    have hcell : w.cell? ⟨g, o + i, none⟩ = some cur[o + i] := by simp [World.cell?, hg, hi]
    have hfro : w.frozen? ⟨g, o + i, none⟩ = false := by
      obtain ⟨f1, f2⟩ := f
      simp only [World.frozen?, hg, Bool.and_eq_false_iff, decide_eq_false_iff_not]
      simp only at hf
      omega
    have hst : (store ((⟨g, o, none⟩ : Addr).add i) v).run P w = .ok () (w.setRow g (cur.setIfInBounds (o + i) v)) := by
      rw [hadd, run_store P w _ v _ (h1 v (by simp)), hcell]
      simp [hfro, setCell_eq_setRow w g (o + i) cur t f v hg]
    have ih := run_storeCells_m (P := P) g o t f rest (i + 1) (cur.setIfInBounds (o + i) v) (w.setRow g (cur.setIfInBounds (o + i) v)) (by simpa using hf) (setRow_heap w g cur _ t _ hg) (by simp at hl ⊢; omega) (fun x hx => h1 x (by simp [hx]))
    simp only [storeCells, Sem.run_bind, hst, Result.andThen_ok, ih, setRow_setRow]
    congr 3
    have e := list_seg_step cur.toList (o + i) v rest (by simp at hl ⊢; omega)
    simpa [Array.toList_setIfInBounds, Nat.add_assoc] using e

/-- A slice of n elements of one cell each, in such a block. -/
def RowM (w : World) (e : TypeId) (v : Value) (n : Nat) (xs : List Value) : Prop :=
  (v = .slice none 0 0 ∧ n = 0 ∧ xs = []) ∨
  ∃ g off cap cur, v = .slice (some ⟨g, off, none⟩) n cap ∧ BlkM w g cur e ∧ n ≤ cap ∧ cap ≤ maxLen ∧ off + cap ≤ cur.length ∧ (cur.drop off).take n = xs
section
variable {w w' : World} {e : TypeId} {v : Value} {n : Nat} {xs : List Value}
theorem Row.m {B : Nat} (h : Row w B e v n xs) : RowM w e v n xs := by
  rcases h with h | ⟨g, off, cap, cur, rfl, _, h1, h2⟩
  · exact .inl h
  · exact .inr ⟨g, off, cap, cur, rfl, h1.m, h2⟩
theorem RowM.len (h : RowM w e v n xs) : xs.length = n := by
  rcases h with ⟨_, rfl, rfl⟩ | ⟨g, off, cap, cur, _, _, h1, _, h2, rfl⟩
  · rfl
  · rw [List.length_take, List.length_drop]; omega
theorem RowM.keep (h : RowM w e v n xs) (hk : ∀ g, v.ownBlock = some g → w'.heap[g]? = w.heap[g]?) : RowM w' e v n xs := by
  rcases h with h | ⟨g, off, cap, cur, rfl, h1, h2⟩
  · exact .inl h
  · exact .inr ⟨g, off, cap, cur, rfl, h1.keep (hk g rfl), h2⟩
theorem RowM.lt (h : RowM w e v n xs) {g : Nat} (hg : v.ownBlock = some g) : g < w.heap.size := by
  rcases h with ⟨rfl, _⟩ | ⟨g', off, cap, cur, rfl, h1, _⟩
  · cases hg
  · cases hg
    exact h1.lt
theorem RowM.form (h : RowM w e v n xs) : ∃ A c, v = .slice A n c ∧ n ≤ c ∧ c ≤ maxLen := by
  rcases h with ⟨rfl, rfl, _⟩ | ⟨g, off, cap, cur, rfl, _, h1, h2, _⟩
  · exact ⟨none, 0, rfl, Nat.le_refl _, Nat.zero_le _⟩
  · exact ⟨_, cap, rfl, h1, h2⟩
theorem RowM.form1 (h : RowM w e v n xs) (hn : 0 < n) : ∃ g off cap, v = .slice (some ⟨g, off, none⟩) n cap ∧ n ≤ cap ∧ cap ≤ maxLen := by
  rcases h with ⟨rfl, rfl, _⟩ | ⟨g, off, cap, cur, rfl, _, h1, h2, _⟩
  · omega
  · exact ⟨g, off, cap, rfl, h1, h2⟩
theorem RowM.formA {A : Option Addr} {c : Nat} (h : RowM w e (.slice A n c) n xs) (hc : 0 < c) : ∃ g off, A = some ⟨g, off, none⟩ := by
  rcases h with ⟨h, _⟩ | ⟨g, off, cap, cur, hv, _⟩
  · cases h; omega
  · cases hv; exact ⟨g, off, rfl⟩
theorem RowM.cell {g off c : Nat} (h : RowM w e (.slice (some ⟨g, off, none⟩) n c) n xs) {j : Nat} {u : Value} (hu : xs[j]? = some u) : w.cell? ⟨g, off + j, none⟩ = some u := by
  rcases h with ⟨h, _⟩ | ⟨g', off', cap, cur, hv, h1, h2, _, h3, rfl⟩
  · cases h
  · cases hv
    rw [List.getElem?_take] at hu
    split at hu
    · rw [List.getElem?_drop] at hu
      exact h1.cell hu
    · cases hu
theorem RowM.head {A : Option Addr} {c : Nat} (h : RowM w e (.slice A n c) n xs) (k : Nat) (hk : k ≤ n) : RowM w e (.slice A k c) k (xs.take k) := by
  rcases h with ⟨h, rfl, rfl⟩ | ⟨g', off', cap, cur, hv, h1, h2, h4, h3, rfl⟩
  · cases h
    obtain rfl : k = 0 := by omega
    exact .inl ⟨rfl, rfl, rfl⟩
  · cases hv
    exact .inr ⟨g', off', c, cur, rfl, h1, by omega, h4, h3, by rw [List.take_take, Nat.min_eq_left hk]⟩
theorem RowM.tail {A : Option Addr} {c : Nat} (h : RowM w e (.slice A n c) n xs) (k : Nat) (hk : k ≤ n) : RowM w e (.slice (if c = k then A else A.map (·.add k)) (n - k) (c - k)) (n - k) (xs.drop k) := by
  rcases h with ⟨h, rfl, rfl⟩ | ⟨g', off', cap, cur, hv, h1, h2, h4, h3, rfl⟩
  · cases h
    obtain rfl : k = 0 := by omega
    exact .inl ⟨rfl, rfl, rfl⟩
  · cases hv
    by_cases hck : c = k
    · rw [if_pos hck]
      exact .inr ⟨g', off', c - k, cur, rfl, h1, by omega, by omega, by omega, by rw [show n - k = 0 by omega, List.take_zero, List.drop_eq_nil_of_le (by rw [List.length_take]; omega)]⟩
    · rw [if_neg hck]
      refine .inr ⟨g', off' + k, c - k, cur, by simp [add_plain0], h1, by omega, by omega, by omega, ?_⟩
      rw [List.drop_take, List.drop_drop]
end
theorem Chg.row_of {w : World} {F : Nat → Prop} {b : Nat} (h : F b) (cs : Array Value) : Chg F F w (w.setRow b cs) := Chg.row h cs

section
variable {P : Program} (w : World)
theorem run_append_more (t tn ty e : TypeId) (i : TypeInfo) (kn : IntKind) (ht : P.underlying t = some (.slice e)) (htn : P.underlying tn = some (.int kn)) (hi : P.info? e = some i) (hz : i.zero = some (.int .u8 0)) (hs1 : i.size = 1) (hby : i.bytes = 1) 
    (v : Value) (n : Nat) (xs : List Value) (hr : RowM w e v n xs) (kq : IntKind) (k : Nat) (hk : 0 < k) (hm : n + k ≤ 100000000) :
    ∃ v' w', (Builtin.append_ #[t, tn] ty #[v, .int kq k]).run P w = .ok v' w' ∧ RowM w' e v' (n + k) (xs ++ List.replicate k (Value.int .u8 0)) ∧ Chg (fun b => v.ownBlock = some b) (fun b => v'.ownBlock = some b ∨ v.ownBlock = some b) w w' ∧ (v'.ownBlock = v.ownBlock ∨ v'.ownBlock = some w.heap.size) := by
  have hxl := hr.len
  have hw : IntKind.i64.wrap (k : Int) = k := by rw [IntKind.wrap_i64]; omega
  have hzv : (zeroValue e).run P w = .ok (.int .u8 0) w := by simp [zeroValue, typeInfo, hi, hz]
  have h48i : ¬ (281474976710656 < (k : Int) * (i.bytes : Int)) := by rw [hby]; omega
  have hneg : ¬ ((k : Int) < 0) := by omega
  have hk0 : k ≠ 0 := by omega
  have grown : ∀ (base : Option Addr) (cap : Nat), v = .slice base n cap → cap < n + k → (Builtin.firstCells i.size n (.slice base n cap)).run P w.drew = .ok xs.toArray w.drew →
      ∃ v' w', (Builtin.append_ #[t, tn] ty #[v, .int kq k]).run P w = .ok v' w' ∧ RowM w' e v' (n + k) (xs ++ List.replicate k (Value.int .u8 0)) ∧ Chg (fun b => v.ownBlock = some b) (fun b => v'.ownBlock = some b ∨ v.ownBlock = some b) w w' ∧ (v'.ownBlock = v.ownBlock ∨ v'.ownBlock = some w.heap.size) := by
    intro base cap hv hlt hold
    subst hv
    have h63 : n + k ≤ maxLen := by simp only [maxLen]; omega
    have hge := grownCap_ge w (n + k) cap e
    have hcm := grownCap_le_maxLen w (n + k) cap e h63
    refine ⟨_, _, Lib.run_append_grow_zeros w t tn ty e i (.int .u8 0) kq kn ht htn hi hz base n cap xs hold k hk (by omega) hlt (by omega) (by rw [hby]; omega) (growslice_fits hlt (by rw [hby]; omega)),
      .inr ⟨w.heap.size, 0, _, (xs ++ List.replicate k (Value.int .u8 0)) ++ List.replicate (grownCap w (n + k) cap e - (n + k)) (Value.int .u8 0), rfl, ?_, hge, hcm, ?_, ?_⟩, ((Chg.drewN (fun b => (Value.slice base n cap).ownBlock = some b) w 1).trans (Chg.alloc_other (fun b => (Value.slice base n cap).ownBlock = some b) (w.drewN 1) _)).mono (fun _ h => h) (fun b hb h => h.elim (fun h => absurd hb (by cases h; exact Nat.lt_irrefl _)) .inr), .inr rfl⟩
    · have e1 : (xs.toArray ++ Builtin.zeroCells (Value.int .u8 0).cells k ++ Builtin.zeroCells (Value.int .u8 0).cells (grownCap w (n + k) cap e - (n + k))) = ((xs ++ List.replicate k (Value.int .u8 0)) ++ List.replicate (grownCap w (n + k) cap e - (n + k)) (Value.int .u8 0)).toArray := by
        show (xs.toArray ++ Builtin.zeroCells #[Value.int .u8 0] k ++ Builtin.zeroCells #[Value.int .u8 0] (grownCap w (n + k) cap e - (n + k))) = _
        rw [zeroCells_u8, zeroCells_u8]; simp
      rw [e1]
      exact (Blk.new w.drew _ e).m
    · simp only [List.length_append, List.length_replicate]
      omega
    · rw [List.drop_zero]
      exact List.take_left' (by simp only [List.length_append, List.length_replicate]; omega)
  rcases hr with ⟨rfl, rfl, rfl⟩ | ⟨g, off, cap, cur, rfl, ⟨f, hf, h1⟩, h2, h3, h4, rfl⟩
  · exact grown none 0 rfl (by omega) (run_firstCells_none w.drew i.size 0 0 0)
  · by_cases hroom : n + k ≤ cap
    · have hrep : (List.replicate k (Value.int .u8 0)).length = k := List.length_replicate
      have hst := run_storeCells_m (P := P) g (off + n) e f (List.replicate k (Value.int .u8 0)) 0 cur.toArray w (by simpa using hf) h1 (by simp; omega) (fun u hu => by rw [List.eq_of_mem_replicate hu]; rfl)
      simp only [Nat.add_zero] at hst
      have hzc : Builtin.zeroCells (Value.int .u8 0).cells k = (List.replicate k (Value.int .u8 0)).toArray := zeroCells_u8 k
      refine ⟨.slice (some ⟨g, off, none⟩) (n + k) cap, w.setRow g (cur.take (off + n) ++ List.replicate k (Value.int .u8 0) ++ cur.drop (off + n + (List.replicate k (Value.int .u8 0)).length)).toArray, ?_, .inr ⟨g, off, cap, _, rfl, BlkM.row ⟨f, hf, h1⟩ _ (by simp only [List.length_append, List.length_take, List.length_drop, hrep]; omega), hroom, h3, ?_, ?_⟩, (Chg.row (F := fun b => (Value.slice (some ⟨g, off, none⟩) n cap).ownBlock = some b) rfl _).mono (fun _ h => h) (fun b _ h => h.elim .inr .inl), .inl rfl⟩
      · simp [Builtin.append_, run_underlying ht, run_underlying htn, sizeOf, typeInfo, hi, hs1, asInt, asIntOf, hw, hneg, h48i, hk0, hroom, hzv, hzc, Addr.add_lit, hst]
      · simp only [List.length_append, List.length_take, List.length_drop, hrep]; omega
      · have e1 : (cur.take (off + n) ++ List.replicate k (Value.int .u8 0) ++ cur.drop (off + n + (List.replicate k (Value.int .u8 0)).length)).drop off = (cur.drop off).take n ++ List.replicate k (Value.int .u8 0) ++ cur.drop (off + n + (List.replicate k (Value.int .u8 0)).length) := by
          rw [List.append_assoc, List.drop_append_of_le_length (by rw [List.length_take]; omega), List.drop_take, Nat.add_sub_cancel_left, List.append_assoc]
        rw [e1]
        exact List.take_left' (by simp only [List.length_append, List.length_take, List.length_drop, hrep]; omega)
    · refine grown (some ⟨g, off, none⟩) cap rfl (by omega) ?_
      refine run_firstCells_some w.drew i.size n ⟨g, off, none⟩ n cap _ (by rw [hs1, hxl, Nat.mul_one]) fun j u hu => ?_
      rw [add_plain0]
      exact RowM.cell (w := w) (.inr ⟨g, off, cap, cur, rfl, ⟨f, hf, h1⟩, h2, h3, h4, rfl⟩) hu

/-- A string's bytes are copied over a part of a row, from place 'at' on. -/
theorem run_copy_part (dT sT ty elem : TypeId) (hu : P.underlying dT = some (.slice elem)) (hs : (P.info? elem).map (·.size) = some 1) (g off n c k : Nat) (xs : List Value) (hr : RowM w elem (.slice (some ⟨g, off, none⟩) n c) n xs) (s : ByteArray) (hd : k + s.size ≤ n) (dCap : Nat) :
    ∃ w', (Builtin.copy_ #[dT, sT] ty #[.slice (some ⟨g, off + k, none⟩) (n - k) dCap, .string s]).run P w = .ok (.int .i64 (s.size : Int)) w' ∧ RowM w' elem (.slice (some ⟨g, off, none⟩) n c) n (xs.take k ++ byteCells s ++ xs.drop (k + s.size)) ∧ Chg (fun b => b = g) (fun b => b = g) w w' := by
  rcases hr with ⟨h, _⟩ | ⟨g', off', cap, cur, hv, ⟨f, hf, h1⟩, h2, h3, h4, rfl⟩
  · cases h
  cases hv
  have hl : (byteCells s).length = s.size := byteCells_length s
  have hst := run_storeCells_m (P := P) g (off + k) elem f (byteCells s) 0 cur.toArray w (by simpa using hf) h1 (by simp only [Nat.add_zero, hl]; simp; omega) (fun u hu => by
    obtain ⟨_, _, rfl⟩ := List.mem_map.1 hu
    rfl)
  rw [hl] at hst
  simp only [Nat.add_zero] at hst
  have hfc : (Builtin.firstCells 1 s.size (.string s)).run P w = .ok (byteCells s).toArray w := by
    have : s.extract 0 s.size = s := by simp
    simp [Builtin.firstCells, byteCells, this]
    apply Array.ext'
    simp
  refine ⟨w.setRow g (cur.take (off + k) ++ byteCells s ++ cur.drop (off + k + s.size)).toArray, ?_, .inr ⟨g, off, c, _, rfl, BlkM.row ⟨f, hf, h1⟩ _ (by simp only [List.length_append, List.length_take, List.length_drop, hl]; omega), h2, h3, ?_, ?_⟩, Chg.row (F := fun b => b = g) rfl _⟩
  · cases hq : P.info? elem with
    | none => simp [hq] at hs
    | some i =>
      have hi : i.size = 1 := by simpa [hq] using hs
      have hmin : Nat.min s.size (n - k) = s.size := by show min _ _ = _; omega
      have hmin2 : Nat.min (n - k) s.size = s.size := by show min _ _ = _; omega
      simp [Builtin.copy_, run_underlying hu, Builtin.lenOf, sizeOf, typeInfo, hq, hi, hmin, hmin2, hfc, hst, goInt]
  · simp only [List.length_append, List.length_take, List.length_drop, hl]; omega
  · have e1 : (cur.take (off + k) ++ byteCells s ++ cur.drop (off + k + s.size)).drop off = (cur.drop off).take k ++ byteCells s ++ cur.drop (off + k + s.size) := by
      rw [List.append_assoc, List.drop_append_of_le_length (by rw [List.length_take]; omega), List.drop_take, Nat.add_sub_cancel_left, List.append_assoc]
    rw [e1]
    have e2 : ((cur.drop off).take n).take k = (cur.drop off).take k := by rw [List.take_take, Nat.min_eq_left (by omega)]
    have e3 : ((cur.drop off).take n).drop (k + s.size) = (cur.drop (off + k + s.size)).take (n - (k + s.size)) := by
      rw [List.drop_take, List.drop_drop, Nat.add_assoc]
    rw [e2, e3, List.take_append, List.take_append]
    have l1 : ((cur.drop off).take k).length = k := by rw [List.length_take, List.length_drop]; omega
    rw [List.length_append, l1, hl]
    congr 1
    · congr 1
      · exact List.take_of_length_le (by omega)
      · exact List.take_of_length_le (by rw [hl]; omega)
end
section
variable {P : Program}
theorem run_append_m (w : World) (t tx ty e : TypeId) (i : TypeInfo) (z : Value) (ht : P.underlying t = some (.slice e)) (hi : P.info? e = some i) (hz : i.zero = some z) (hs1 : i.size = 1) (hzs : z.cells.size = 1)
    (v : Value) (n : Nat) (xs : List Value) (hr : RowM w e v n xs) (x : Value) (m : Nat) (news : List Value) (hs : Src P 1 tx x m news w) (hb : (n + m) * i.bytes ≤ 140737488355328) (hm : n + m ≤ 100000000) :
    ∃ v' w', (Builtin.append_ #[t, tx] ty #[v, x]).run P w = .ok v' w' ∧ RowM w' e v' (n + m) (xs ++ news) ∧ Chg (fun b => v.ownBlock = some b) (fun b => v'.ownBlock = some b ∨ v.ownBlock = some b) w w' ∧ (v'.ownBlock = v.ownBlock ∨ v'.ownBlock = some w.heap.size) := by
  have hs0 := hs
  rw [← hs1] at hs0
  have hnl : news.length = m := by simpa using hs.newsLen
  have hxl := hr.len
  have h63 : n + m ≤ maxLen := by simp only [maxLen]; omega
  have grown : ∀ (base : Option Addr) (cap : Nat) (hv : v = .slice base n cap) (hlt : cap < n + m) (hold : (Builtin.firstCells i.size n (.slice base n cap)).run P w.drew = .ok xs.toArray w.drew),
      ∃ v' w', (Builtin.append_ #[t, tx] ty #[v, x]).run P w = .ok v' w' ∧ RowM w' e v' (n + m) (xs ++ news) ∧ Chg (fun b => v.ownBlock = some b) (fun b => v'.ownBlock = some b ∨ v.ownBlock = some b) w w' ∧ (v'.ownBlock = v.ownBlock ∨ v'.ownBlock = some w.heap.size) := by
    intro base cap hv hlt hold
    subst hv
    have hge := grownCap_ge w (n + m) cap e
    have hcm := grownCap_le_maxLen w (n + m) cap e h63
    refine ⟨_, _, run_append_grow_src w t tx ty e i z ht hi hz base n cap xs hold x m news hs0 hlt (by omega) (growslice_fits hlt hb), .inr ⟨w.heap.size, 0, _, (xs ++ news) ++ (Builtin.zeroCells z.cells (grownCap w (n + m) cap e - (n + m))).toList, rfl, ?_, hge, hcm, ?_, ?_⟩, ((Chg.drewN (fun b => (Value.slice base n cap).ownBlock = some b) w 1).trans (Chg.alloc_other (fun b => (Value.slice base n cap).ownBlock = some b) (w.drewN 1) _)).mono (fun _ h => h) (fun b hb h => h.elim (fun h => absurd hb (by cases h; exact Nat.lt_irrefl _)) .inr), .inr rfl⟩
    · have e1 : ((xs ++ news).toArray ++ Builtin.zeroCells z.cells (grownCap w (n + m) cap e - (n + m))) = ((xs ++ news) ++ (Builtin.zeroCells z.cells (grownCap w (n + m) cap e - (n + m))).toList).toArray := by apply Array.ext'; simp
      rw [e1]
      exact (Blk.new w.drew _ e).m
    · simp only [List.length_append, Array.length_toList, size_zeroCells, hzs]
      omega
    · rw [List.drop_zero]
      exact List.take_left' (by rw [List.length_append]; omega)
  rcases hr with ⟨rfl, rfl, rfl⟩ | ⟨g, off, cap, cur, rfl, ⟨f, hf, h1⟩, h2, h3, h4, rfl⟩
  · by_cases hm0 : m = 0
    · subst hm0
      obtain rfl : news = [] := List.eq_nil_of_length_eq_zero hnl
      refine ⟨.slice none 0 0, w, ?_, .inl ⟨rfl, rfl, rfl⟩, (Chg.refl (fun b => (Value.slice none 0 0).ownBlock = some b) w).mono (fun _ h => h) (fun _ _ h => h.elim .inl .inl), .inl rfl⟩
      rcases hs.kind with ⟨e', hk⟩ | hk <;> simp [Builtin.append_, run_underlying ht, run_underlying hk, sizeOf, typeInfo, hi, hs0.len, hs0.cells]
    · exact grown none 0 rfl (by omega) (run_firstCells_none w.drew i.size 0 0 0)
  · by_cases hroom : n + m ≤ cap
    · have hst := run_storeCells_m (P := P) g (off + n) e f news 0 cur.toArray w (by simpa using hf) h1 (by simp; omega) hs.one
      simp only [Nat.add_zero] at hst
      refine ⟨.slice (some ⟨g, off, none⟩) (n + m) cap, w.setRow g (cur.take (off + n) ++ news ++ cur.drop (off + n + news.length)).toArray, ?_, .inr ⟨g, off, cap, _, rfl, BlkM.row ⟨f, hf, h1⟩ _ (by simp only [List.length_append, List.length_take, List.length_drop]; omega), hroom, h3, ?_, ?_⟩, (Chg.row (F := fun b => (Value.slice (some ⟨g, off, none⟩) n cap).ownBlock = some b) rfl _).mono (fun _ h => h) (fun b _ h => h.elim .inr .inl), .inl rfl⟩
      · rcases hs.kind with ⟨e', hk⟩ | hk <;> simp [Builtin.append_, run_underlying ht, run_underlying hk, sizeOf, typeInfo, hi, hs1, hs.len, hroom, hs.cells, Addr.add_lit, hst]
      · simp only [List.length_append, List.length_take, List.length_drop]; omega
      · have e1 : (cur.take (off + n) ++ news ++ cur.drop (off + n + news.length)).drop off = (cur.drop off).take n ++ news ++ cur.drop (off + n + news.length) := by
          rw [List.append_assoc, List.drop_append_of_le_length (by rw [List.length_take]; omega), List.drop_take, Nat.add_sub_cancel_left, List.append_assoc]
        rw [e1]
        exact List.take_left' (by simp only [List.length_append, List.length_take, List.length_drop]; omega)
    · refine grown (some ⟨g, off, none⟩) cap rfl (by omega) ?_
      refine run_firstCells_some w.drew i.size n ⟨g, off, none⟩ n cap _ (by rw [hs1, hxl, Nat.mul_one]) fun j u hu => ?_
      rw [add_plain0]
      exact RowM.cell (w := w) (.inr ⟨g, off, cap, cur, rfl, ⟨f, hf, h1⟩, h2, h3, h4, rfl⟩) hu
end
end Go.Proofs.YtbjakhiflgjflaaGreatDoor
