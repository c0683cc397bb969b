/-
  The package's Head and Tail tell how long the shortest, or longest, beginning (end) is that a pattern fits. Conditions: at most a million items and bytes.
-/
import Derived.Test.YtmoihdddmeienaaDoorGbHead
import Derived.Test.YtmoihdddmeienaaDoorGbCompile
import Derived.Shelf.SlicesE.Reverse
import Derived.Shelf.SlicesQ.Reverse
import Derived.Lib.ConvBytes
import Derived.Lib.AtoiErrMem
import Derived.Lib.SliceRun
import Derived.Laws.BytesString
namespace Go.Proofs.YtmoihdddmeienaaDoor
open Go Go.RowKit Go.Shelf Go.Sort

theorem says_ne {ls : List (List St)} {p : List It} (h : SaysRows ls (rowsP p)) : ls ≠ [] := by
  intro e
  have := h.2
  rw [e] at this
  exact rowsP_ne p this.symm
theorem says_short {ls : List (List St)} {p : List It} (h : SaysRows ls (rowsP p)) (hl : p.length ≤ 999999) : ls.length ≤ 1000000 ∧ ∀ l ∈ ls, l.length ≤ 1000000 := by
  have h1 := rowsP_len p
  refine ⟨by have := says_len h; omega, fun l hl => ?_⟩
  have : l.map hasS ∈ rowsP p := by rw [← h.2]; exact List.mem_map_of_mem hl
  have := h1.2 _ this
  rw [List.length_map] at this
  omega
theorem cellsIt_one {w : World} {B : Nat} {p : List It} {us : List Value} (h : RgsOf w B p us) : ∀ u ∈ cellsIt p us, u.oneCell' = true := by
  obtain ⟨h1, h2⟩ := h
  induction p generalizing us with
  | nil => intro u hu; simp [cellsIt] at hu
  | cons x p ih =>
    cases us with
    | nil => simp at h1
    | cons v us =>
      intro u hu
      simp only [cellsIt, List.zipWith_cons_cons, List.flatten_cons, List.mem_append] at hu
      rcases hu with hu | hu
      · obtain ⟨v', hv, hr⟩ := h2 0 x rfl
        obtain rfl : v = v' := by simpa using hv
        obtain ⟨A, c, rfl, _, _⟩ := hr.form
        simp only [ci, List.mem_cons, List.mem_nil_iff, or_false] at hu
        rcases hu with rfl | rfl | rfl | rfl <;> rfl
      · exact ih (by simpa using h1) (fun k y hy => h2 (k + 1) y (by simpa using hy)) u hu

set_option maxHeartbeats 400000 in
set_option maxRecDepth 100000 in
theorem headG_any (p : List It) (v : Value) (s : ByteArray) (lg : Bool) (B : Nat) (w : World) (ht : Its w B v p) (hB : B ≤ w.heap.size) (hl : p.length ≤ 999999) (hs : s.size ≤ 1000000) :
    Calls Tryd.prog 37 #[v, .string s, .bool lg] w fun e w' => e = .returned (.int .i64 (headI p (bl s) lg)) ∧ Below w.heap.size w w' := by
  obtain ⟨m, hm⟩ : ∃ m, headI p (bl s) lg = m := ⟨_, rfl⟩
  rw [hm]
  go_enter Tryd.func37, Tryd.ntmps37
  go_wp2_with fail
  refine (rows_any p v B w ht hB (by omega)).mono ?_
  rintro e w1 ⟨v1, ls, rfl, hr, hsay, hb1⟩
  have hsh := says_short hsay hl
  have hh : optI (headP (rw_ ls) (bl s) lg) = m := by rw [← hm, ← headP_headI, ← hsay.2]
  have hwh := head_any ls hsay.1 (says_ne hsay) v1 s lg _ w1 hr hsh.1 hsh.2 hs
  rw [hh] at hwh
  clear hm hh hsh hsay hr
  go_wp2_with fail
  refine hwh.mono ?_
  rintro e w2 ⟨rfl, d, rfl⟩
  go_wp2
  go_ret
  exact ⟨rfl, below_drewN hb1 _⟩

def revRenI : Ren := ⟨fun | 35 => 58 | n => n, fun | 0 => 0 | 3 => 3 | 4 => 4 | 22 => 52 | 23 => 72 | n => n, fun n => n⟩
def revRenB : Ren := ⟨fun | 35 => 59 | n => n, fun | 0 => 0 | 3 => 3 | 4 => 4 | 22 => 38 | 23 => 5 | n => n, fun n => n⟩
theorem revI : SlLaysE0.n35 Tryd.prog revRenI := {
  mixed := by kernel_rfl
  f35 := ⟨ "slices.Reverse[[]whelk/globs.Item,whelk/globs.Item]", by decide, Tryd.func58.trans (congrArg some (by kernel_rfl))⟩
  t0 := Tryd.underlying0
  a0 := Tryd.isAgg0
  z0 := Tryd.sizeOf0
  v0 := Tryd.zeroValue0
  t3 := Tryd.underlying3
  a3 := Tryd.isAgg3
  z3 := Tryd.sizeOf3
  v3 := Tryd.zeroValue3
  t4 := Tryd.underlying4
  a4 := Tryd.isAgg4
  z4 := Tryd.sizeOf4
  v4 := Tryd.zeroValue4
  t22 := Tryd.underlying52
  a22 := Tryd.isAgg52
  z22 := Tryd.sizeOf52
  v22 := Tryd.zeroValue52 }
theorem revB : SlLaysE.n35 Tryd.prog revRenB := {
  mixed := by kernel_rfl
  f35 := ⟨ "slices.Reverse[[]byte,byte]", by decide, Tryd.func59.trans (congrArg some (by kernel_rfl))⟩
  t0 := Tryd.underlying0
  a0 := Tryd.isAgg0
  z0 := Tryd.sizeOf0
  v0 := Tryd.zeroValue0
  t3 := Tryd.underlying3
  a3 := Tryd.isAgg3
  z3 := Tryd.sizeOf3
  v3 := Tryd.zeroValue3
  t4 := Tryd.underlying4
  a4 := Tryd.isAgg4
  z4 := Tryd.sizeOf4
  v4 := Tryd.zeroValue4
  t22 := Tryd.underlying38
  a22 := Tryd.isAgg38
  z22 := Tryd.sizeOf38
  v22 := Tryd.zeroValue38
  a23 := Tryd.isAgg5
  z23 := Tryd.sizeOf5 }

/-- An item and its ranges' slice. -/
abbrev ItS := It × (Option Addr × Nat × Nat)
def encI (x : ItS) : List Value := ci x.1 (.slice x.2.1 x.2.2.1 x.2.2.2)
theorem encI_one (x : ItS) : ∀ v ∈ encI x, v.oneCell' = true := by
  intro v hv
  simp only [encI, ci, List.mem_cons, List.mem_nil_iff, or_false] at hv
  rcases hv with rfl | rfl | rfl | rfl <;> rfl
/-- Items whose ranges are slices, as one list. -/
theorem rgs_slices {w : World} {B : Nat} {p : List It} {us : List Value} (h : RgsOf w B p us) : ∃ L : List ItS, L.map (·.1) = p ∧ L.map (fun x => Value.slice x.2.1 x.2.2.1 x.2.2.2) = us := by
  obtain ⟨h1, h2⟩ := h
  induction p generalizing us with
  | nil => exact ⟨[], rfl, (List.eq_nil_of_length_eq_zero (by simpa using h1)).symm⟩
  | cons x p ih =>
    cases us with
    | nil => simp at h1
    | cons u us =>
      obtain ⟨u', hu', hr⟩ := h2 0 x rfl
      obtain rfl : u = u' := by simpa using hu'
      obtain ⟨A, c, rfl, _, _⟩ := hr.form
      obtain ⟨L, hL1, hL2⟩ := ih (us := us) (by simpa using h1) (fun k y hy => h2 (k + 1) y (by simpa using hy))
      exact ⟨(x, A, x.2.2.2.length, c) :: L, by simp [hL1], by simp [hL2]⟩
theorem cellsIt_enc (L : List ItS) : cellsIt (L.map (·.1)) (L.map (fun x => Value.slice x.2.1 x.2.2.1 x.2.2.2)) = L.flatMap encI := by
  induction L with
  | nil => rfl
  | cons x L ih =>
    simp only [cellsIt, List.map_cons, List.zipWith_cons_cons, List.flatten_cons, List.flatMap_cons] at ih ⊢
    rw [ih]; rfl
theorem flat_get (L : List ItS) (i c : Nat) (hi : i < L.length) (hc : c < 4) : (L.flatMap encI)[i * 4 + c]? = (encI L[i])[c]? := by
  induction L generalizing i with
  | nil => simp at hi
  | cons x L ih =>
    have hx : (encI x).length = 4 := rfl
    rw [List.flatMap_cons]
    cases i with
    | zero => rw [List.getElem?_append_left (by omega), Nat.zero_mul, Nat.zero_add]; rfl
    | succ i =>
      rw [List.getElem?_append_right (by omega), hx, show (i + 1) * 4 + c - 4 = i * 4 + c by omega, ih i (by simpa using hi)]
      rfl
theorem flat_len (L : List ItS) : (L.flatMap encI).length = L.length * 4 := by
  induction L with
  | nil => rfl
  | cons x L ih => rw [List.flatMap_cons, List.length_append, ih]; show 4 + _ = _; rw [List.length_cons]; omega
theorem flatK_get (L : List ItS) (j : Nat) (hj : j < L.length * 4) : (L.flatMap encI)[j]? = some (flatK encI 4 L.toArray)[j]! := by
  rw [get_flatK _ _ _ _ (by simpa using hj)]
  have hi : j / 4 < L.length := by omega
  have := flat_get L (j / 4) (j % 4) hi (Nat.mod_lt _ (by decide))
  rw [show j / 4 * 4 + j % 4 = j by omega] at this
  rw [this]
  have e : L.toArray[j / 4]! = L[j / 4] := by simp [hi]
  rw [e, getElem!_pos (encI L[j / 4]) (j % 4) (by show j % 4 < 4; omega)]
  exact List.getElem?_eq_getElem (by show j % 4 < 4; omega)
theorem below_putRow {α : Type} [Inhabited α] (enc : α → Value) (w : World) (n blk off : Nat) (d : Array α) (B : Nat) (hB : B ≤ blk) : Below B w (putRow enc (Sort.ahead w n) blk off d) := by
  refine ⟨rfl, rfl, rfl, ?_, fun j hj => ?_⟩
  · show w.heap.size ≤ (w.heap.modify blk _).size; simp
  · show (w.heap.modify blk _)[j]? = w.heap[j]?
    rw [Array.getElem?_modify, if_neg (by omega)]
theorem rgsOf_reverse {w : World} {B : Nat} {p : List It} {us : List Value} (h : RgsOf w B p us) : RgsOf w B p.reverse us.reverse := by
  obtain ⟨h1, h2⟩ := h
  refine ⟨by simp [h1], fun k x hx => ?_⟩
  have hk : k < p.length := by
    rcases Nat.lt_or_ge k p.length with h | h
    · exact h
    · rw [List.getElem?_eq_none (by simpa using h)] at hx; cases hx
  rw [List.getElem?_reverse hk] at hx
  obtain ⟨u, hu, hr⟩ := h2 _ x hx
  exact ⟨u, by rw [List.getElem?_reverse (by omega), h1]; exact hu, hr⟩

set_option maxHeartbeats 1000000 in
/-- slices.Reverse turns about a row of items that the caller owns. -/
theorem revItems_any (p : List It) (us : List Value) (v : Value) (w : World) (base B : Nat) (hown : w.ownsRow base 72 4 v p.length (cellsIt p us)) (hr : RgsOf w B p us) (hB : B ≤ base) (hl : p.length ≤ 1000000) :
    Calls Tryd.prog 58 #[v] w fun e w' => e = .returned (.tuple #[]) ∧ Its w' w'.heap.size v p.reverse ∧ Below base w w' := by
  obtain ⟨A, cap, rfl⟩ := own_formN hown
  by_cases h0 : p.length = 0
  · rw [h0]
    refine (AnyQ.slices_Reverse_empty revI A cap w).mono ?_
    rintro e w' ⟨rfl, rfl⟩
    obtain rfl := List.eq_nil_of_length_eq_zero h0
    exact ⟨rfl, ⟨[], ⟨A, cap, rfl, Nat.zero_le _, (by rcases hown.2 with ⟨h, _⟩ | ⟨g, c, cur, h, _, _, _, hm, _⟩ <;> (injection h with _ _ h; subst h; first | exact Nat.zero_le _ | exact hm)), by simp [cellsIt], fun h => absurd h (by simp)⟩, rfl, by simp⟩, Below.refl _ _⟩
  · obtain ⟨m, hm⟩ : ∃ m, p.length = m + 1 := ⟨p.length - 1, by omega⟩
    obtain ⟨L, hL1, hL2⟩ := rgs_slices hr
    have hLn : L.length = p.length := by rw [← hL1]; simp
    have hcells : cellsIt p us = L.flatMap encI := by rw [← hL1, ← hL2, cellsIt_enc]
    have hg : ∃ g, A = some ⟨g, 0, none⟩ := by
      have h' := hown
      rw [hm] at h'
      obtain ⟨g, cap', hv⟩ := own_succ' h'
      injection hv with h1 _ _
      exact ⟨g, h1⟩
    obtain ⟨g, rfl⟩ := hg
    obtain ⟨cur, hgo⟩ := own_heap hown
    have hH : HoldsK encI 4 w g 0 L.toArray := by
      intro j hj
      rw [size_flatK] at hj
      have hj4 : j < L.length * 4 := by simpa using hj
      refine ⟨?_, frozen_of_row w _ _ _ _ hgo⟩
      rw [Nat.zero_add, hown.cellAt j (by omega), hcells]
      exact flatK_get L j hj4
    have hbg := (hown.lt g rfl).1
    have hcap : p.length ≤ cap ∧ cap ≤ maxLen := by
      rcases hown.2 with ⟨h, _⟩ | ⟨g', c', cur', h, _, _, hn, hm', _⟩
      · cases h
      · injection h with _ _ h; subst h; exact ⟨hn, hm'⟩
    have hrev := AnyQ.slices_Reverse revI 4 Tryd.isAgg72 Tryd.sizeOf72 encI (fun _ => rfl) encI_one g 0 cap L.toArray w hH (by simp; omega)
    have hsz : L.toArray.size = p.length := by simp [hLn]
    rw [hsz] at hrev
    refine hrev.mono ?_
    rintro e w' ⟨rfl, n, rfl⟩
    have hb : Below base w (putRowK encI 4 (Sort.ahead w n) g 0 L.toArray.reverse) := below_putRow id w n g 0 _ base hbg
    refine ⟨rfl, ?_, hb⟩
    have h2 := holdsK_putRowK encI 4 (Sort.ahead w n) g 0 L.toArray L.toArray.reverse (holdsK_ahead encI 4 w n g 0 _ hH) (by simp)
    have hgl : g < w.heap.size := (hown.lt g rfl).2
    have hcells2 : cellsIt p.reverse us.reverse = L.reverse.flatMap encI := by rw [← hL1, ← hL2, ← List.map_reverse, ← List.map_reverse, cellsIt_enc]
    generalize putRowK encI 4 (Sort.ahead w n) g 0 L.toArray.reverse = w' at hb h2 ⊢
    have hr2 := (rgsOf_reverse (hr.below (hb.mono hB))).more (show B ≤ w'.heap.size by have := hb.size; have := (hown.lt g rfl); omega)
    refine ⟨us.reverse, ⟨some ⟨g, 0, none⟩, cap, by rw [List.length_reverse], by rw [List.length_reverse]; exact hcap.1, hcap.2, ?_, fun _ => ⟨g, 0, rfl, by have := hb.size; omega, fun j u hu => ?_⟩⟩, hr2⟩
    · rw [hcells2, flat_len, List.length_reverse, List.length_reverse, hLn]
    · rw [hcells2] at hu
      have hj : j < L.reverse.length * 4 := by
        have := (List.getElem?_eq_some_iff.1 hu).1
        rwa [flat_len] at this
      rw [flatK_get L.reverse j hj] at hu
      injection hu with hu
      subst hu
      have e : L.toArray.reverse = L.reverse.toArray := by simp
      have := (h2 j (by rw [size_flatK]; simpa using hj)).1
      rw [e] at this
      exact this

set_option maxHeartbeats 1000000 in
set_option maxRecDepth 100000 in
/-- slices.Clone makes a row of its own. -/
theorem cloneItems_any (p : List It) (v : Value) (B : Nat) (w : World) (ht : Its w B v p) (hB : B ≤ w.heap.size) (hl : p.length ≤ 1000000) :
    Calls Tryd.prog 57 #[v] w fun e w' => ∃ v' us, e = .returned v' ∧ w'.ownsRow w.heap.size 72 4 v' p.length (cellsIt p us) ∧ RgsOf w' B p us ∧ Below w.heap.size w w' := by
  obtain ⟨us, hsl, hr⟩ := ht
  obtain ⟨A, c, rfl, hc, hcm, hlen, hcell⟩ := hsl
  unfold maxLen at hcm
  obtain ⟨i0, hi, hz0, hz1, hz2⟩ := info_parts infoItem
  have q22 : ∀ (w : World) (a : Option Addr) (n c n' c' : Nat), (binOp .eql 52 (.slice a n c) (.slice none n' c')).run Tryd.prog w = .ok (.bool a.isNone) w := fun w a n c n' c' => Lib.run_eql_slice_nil w _ _ a n c n' c' Tryd.underlying52
  cases A with
  | none =>
    have h0 : p.length = 0 := by
      rcases Nat.eq_zero_or_pos p.length with h | h
      · exact h
      · obtain ⟨b, off, h', _⟩ := hcell h
        cases h'
    obtain rfl := List.eq_nil_of_length_eq_zero h0
    clear hi hz0 hz1 hz2
    go_enter Tryd.func57, Tryd.ntmps57
    go_wp2
    go_ret
    exact ⟨_, [], rfl, World.ownsRow_nil _ _ _ _, ⟨rfl, by simp⟩, Below.refl _ _⟩
  | some ad =>
    have hnews : ∀ j u, (cellsIt p us)[j]? = some u → w.cell? (ad.add j) = some u := by
      intro j u hu
      have hpos : 0 < p.length := by
        rcases Nat.eq_zero_or_pos p.length with h | h
        · rw [List.getElem?_eq_none (by rw [hlen, h]; omega)] at hu; cases hu
        · exact h
      obtain ⟨b, off, h', _, hcc⟩ := hcell hpos
      injection h' with h'
      subst h'
      rw [add_plain0]
      exact hcc j u hu
    have hnews := Lib.hid hnews
    have hone := cellsIt_one hr
    clear hcell
    go_enter Tryd.func57, Tryd.ntmps57
    go_wp2_with (at_builtin; refine wpList_append_own _ rfl _ _ 52 rfl w.heap.size 72 i0 _ 4 40 Tryd.underlying52 hi hz0 hz1 hz2 rfl (by decide) _ _ _ rfl (World.ownsRow_made w #[] 0 (Nat.le_refl _) (Nat.zero_le _) (by simp)) ad p.length c (cellsIt p us) rfl ?qc1 ?qc2 ?qc3 ?qc4 ?qc5 ?qc6 ?_)
    case qc1 => exact hlen
    case qc2 =>
      intro j u hj
      exact Lib.cell?_alloc_some _ (hnews.out j u hj)
    case qc3 => exact hone
    case qc4 => rw [Nat.zero_add]; simp only [maxLen]; omega
    case qc5 => rw [Nat.zero_add]; omega
    case qc6 => simp
    intro v' w1 hown hgrow _
    have hb : Below w.heap.size w w1 := ((Below.refl _ w).alloc (Nat.le_refl _) _).grown hgrow (by simp) (by intro k hk; simp [Value.ownBlock] at hk; omega)
    have hr1 := hr.below (hb.mono hB)
    go_wp2
    go_ret
    exact ⟨v', us, rfl, by simpa using hown, hr1, hb⟩

def encB (b : UInt8) : Value := .int .u8 (b.toNat : Int)
theorem push_all (l : List UInt8) (a : Array UInt8) : (l.map fun b => (b.toNat : Int)).foldl (fun (r : ByteArray) n => r.push (UInt8.ofNat n.toNat)) ⟨a⟩ = ⟨a ++ l.toArray⟩ := by
  induction l generalizing a with
  | nil => simp
  | cons b l ih =>
    simp only [List.map_cons, List.foldl_cons]
    have e : (⟨a⟩ : ByteArray).push (UInt8.ofNat ((b.toNat : Int)).toNat) = ⟨a.push b⟩ := by simp [ByteArray.push]
    rw [e, ih]
    simp
theorem bytes_back (W : World) (g cap : Nat) (l : List UInt8) (h : ∀ j, j < l.length → W.cell? ⟨g, j, none⟩ = some (encB l[j]!)) :
    (convert 38 9 (.slice (some ⟨g, 0, none⟩) l.length cap)).run Tryd.prog W = .ok (.string ⟨l.toArray⟩) W := by
  rw [run_convert_bytes_string W 38 9 5 _ _ _ Tryd.underlying38 Tryd.underlying5 Tryd.underlying9]
  have hl : (loadCells ⟨g, 0, none⟩ l.length).run Tryd.prog W = .ok ((l.map fun b => (b.toNat : Int)).map (Value.int .u8)).toArray W := by
    have := run_loadCells_list (P := Tryd.prog) (w := W) ⟨g, 0, none⟩ ((l.map fun b => (b.toNat : Int)).map (Value.int .u8)) (fun j v hv => by
      rw [add_plain0, Nat.zero_add]
      rw [List.getElem?_map, List.getElem?_map] at hv
      cases hj : l[j]? with
      | none => rw [hj] at hv; cases hv
      | some b =>
        obtain ⟨hjl, e⟩ := List.getElem?_eq_some_iff.1 hj
        rw [hj] at hv
        injection hv with hv
        rw [h j hjl, ← hv]
        simp [encB, hjl, e])
    simpa using this
  rw [run_bytesToString W ⟨g, 0, none⟩ l.length cap _ hl]
  rw [show ByteArray.empty = ⟨#[]⟩ from rfl, push_all]
  simp

set_option maxHeartbeats 1000000 in
set_option maxRecDepth 100000 in
theorem tailG_any (p : List It) (v : Value) (s : ByteArray) (lg : Bool) (w : World) (ht : Its w w.heap.size v p) (hl : p.length ≤ 999999) (hs : s.size ≤ 1000000) :
    Calls Tryd.prog 38 #[v, .string s, .bool lg] w fun e w' => e = .returned (.int .i64 (tailI p (bl s) lg)) ∧ Below w.heap.size w w' := by
  obtain ⟨m, hm⟩ : ∃ m, tailI p (bl s) lg = m := ⟨_, rfl⟩
  rw [hm]
  have hconv : ∀ W : World, (convert 9 38 (.string s)).run Tryd.prog W = .ok (.slice (some ⟨W.heap.size, 0, none⟩) s.size (grownCap W s.size 0 5)) (Lib.bytesWorld W 5 s) := fun W =>
    Lib.run_convert_string_bytes W 9 38 5 s Tryd.underlying9 Tryd.underlying38 Tryd.underlying5
  obtain ⟨A0, c0, rfl, _, _⟩ := ht.form
  go_enter Tryd.func38, Tryd.ntmps38
  go_wp2_with fail
  refine (cloneItems_any p _ _ w ht (Nat.le_refl _) (by omega)).mono ?_
  rintro e w1 ⟨v1, us, rfl, hown, hr, hb1⟩
  obtain ⟨A1, c1, rfl⟩ := own_formN hown
  go_wp2_with fail
  refine (revItems_any p us _ w1 _ _ hown hr (Nat.le_refl _) (by omega)).mono ?_
  rintro e w2 ⟨rfl, hits, hb2⟩
  have hbA := hb1.trans hb2
  clear hown hr hb1 hb2 ht
  go_wp2_with fail
  have hHold : Holds encB (Lib.bytesWorld w2 5 s) w2.heap.size 0 (bl s).toArray := by
    intro j hj
    have hj' : j < s.size := by simpa [bl_len] using hj
    rw [Nat.zero_add]
    refine ⟨?_, ?_⟩
    · rw [Lib.bytesWorld_cell w2 5 s j hj']
      have : (bl s).toArray[j]! = (bl s).getD j 0 := by
        have hjl : j < (bl s).length := by rw [bl_len]; exact hj'
        rw [getElem!_pos (bl s).toArray j hj, List.getElem_toArray, List.getD, List.getElem?_eq_getElem hjl]; rfl
      rw [this]; rfl
    · simp only [World.frozen?, Lib.bytesWorld_at_new, Lib.bytesCells, Array.size_append, Array.size_map]
      have : s.data.size = s.size := rfl
      rw [Bool.and_eq_false_iff]
      left
      simp only [decide_eq_false_iff_not]
      omega
  have hbB : RowKit.Below w2.heap.size w2 (Lib.bytesWorld w2 5 s) := Lib.bytesWorld_below w2 5 s
  have hszB : (Lib.bytesWorld w2 5 s).heap.size = w2.heap.size + 1 := Lib.bytesWorld_size w2 5 s
  have hrevB := AnyE.slices_Reverse revB encB (fun _ => rfl) w2.heap.size 0 (grownCap w2 s.size 0 5) (bl s) (Lib.bytesWorld w2 5 s) hHold (by rw [bl_len]; omega)
  rw [bl_len] at hrevB
  generalize grownCap w2 s.size 0 5 = cp at hrevB ⊢
  refine hrevB.mono ?_
  rintro e w3 ⟨rfl, n, rfl⟩
  have hb3 : RowKit.Below w2.heap.size (Lib.bytesWorld w2 5 s) (putRow encB (Sort.ahead (Lib.bytesWorld w2 5 s) n) w2.heap.size 0 (bl s).reverse.toArray) := below_putRow encB _ n _ 0 _ _ (Nat.le_refl _)
  have hH3 := holds_putRow encB (Sort.ahead (Lib.bytesWorld w2 5 s) n) w2.heap.size 0 (bl s).toArray (bl s).reverse.toArray hHold (by simp)
  have hback := bytes_back (putRow encB (Sort.ahead (Lib.bytesWorld w2 5 s) n) w2.heap.size 0 (bl s).reverse.toArray) w2.heap.size cp (bl s).reverse (fun j hj => by
    have := (hH3 j (by simpa using hj)).1
    rw [Nat.zero_add] at this
    rw [this]
    simp)
  rw [List.length_reverse, bl_len] at hback
  have hbC : RowKit.Below w2.heap.size w2 (putRow encB (Sort.ahead (Lib.bytesWorld w2 5 s) n) w2.heap.size 0 (bl s).reverse.toArray) := hbB.trans hb3
  have hits3 := (hits.below hbC).more hbC.size
  have hbD := hbA.trans (hbC.mono hbA.size)
  clear hHold hbB hszB hrevB hb3 hH3 hbC hits hbA hconv
  generalize putRow encB (Sort.ahead (Lib.bytesWorld w2 5 s) n) w2.heap.size 0 (bl s).reverse.toArray = w3 at *
  have hhead := headG_any p.reverse _ ⟨(bl s).reverse.toArray⟩ lg _ w3 hits3 (Nat.le_refl _) (by rw [List.length_reverse]; omega) (by show ((bl s).reverse.toArray).size ≤ _; simp; omega)
  have hbl : bl ⟨(bl s).reverse.toArray⟩ = (bl s).reverse := by simp [bl]
  rw [hbl, tail_head, hm] at hhead
  clear hm hbl
  go_wp2_with fail
  refine hhead.mono ?_
  rintro e w4 ⟨rfl, hb4⟩
  go_wp2
  go_ret
  exact ⟨rfl, hbD.trans (hb4.mono hbD.size)⟩
end Go.Proofs.YtmoihdddmeienaaDoor
