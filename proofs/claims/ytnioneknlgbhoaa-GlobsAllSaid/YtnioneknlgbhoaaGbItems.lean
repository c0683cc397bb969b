/-
  Items makes the reference's pattern out of the package's. Conditions: the pattern lies in memory; at most a million items, and ranges of each.
-/
import Derived.Test.YtnioneknlgbhoaaGbEndsPure
namespace Go.Proofs.Ytnioneknlgbhoaa
open Go Go.RowKit

theorem infoRItem : (Try.prog.info? 62).map (fun i => (i.zero, i.size, i.bytes)) = some (some (.agg zit), 4, 40) := by kernel_rfl
theorem infoRRange : (Try.prog.info? 69).map (fun i => (i.zero, i.size, i.bytes)) = some (some (.agg #[.int .u8 0, .int .u8 0]), 2, 2) := by kernel_rfl

/-- A pattern of the reference's that the call has made. -/
def OwnRI (w : World) (base : Nat) (v : Value) (p : List It) (us : List Value) : Prop :=
  us.length = p.length ∧ w.ownsRow base 62 4 v p.length (cellsIt p us) ∧ ∀ (i : Nat) (x : It), p[i]? = some x → ∃ u, us[i]? = some u ∧ w.ownsRow base 69 2 u x.2.2.2.length (cellsRg x.2.2.2)
theorem OwnRI.read {w : World} {base : Nat} {v : Value} {p : List It} {us : List Value} (h : OwnRI w base v p us) : Its w w.heap.size v p := by
  obtain ⟨h1, h2, h3⟩ := h
  refine ⟨us, Sl.of_own h2, h1, fun k x hx => ?_⟩
  obtain ⟨u, hu, hr⟩ := h3 k x hx
  exact ⟨u, hu, Sl.of_own hr⟩
theorem OwnRI.below {w w' : World} {base : Nat} {v : Value} {p : List It} {us : List Value} (h : OwnRI w base v p us) (hb : Below w.heap.size w w') : OwnRI w' base v p us := by
  obtain ⟨h1, h2, h3⟩ := h
  refine ⟨h1, own_below h2 hb, fun i x hx => ?_⟩
  obtain ⟨u, hu, hr⟩ := h3 i x hx
  exact ⟨u, hu, own_below hr hb⟩
theorem ownRI_snoc {w w' : World} {base : Nat} {v v' u : Value} {p : List It} {us : List Value} {x : It} (h : OwnRI w base v p us) (hu : w.ownsRow base 69 2 u x.2.2.2.length (cellsRg x.2.2.2))
    (hown : w'.ownsRow base 62 4 v' (p.length + 1) (cellsIt p us ++ ci x u)) (hg : w.grownBy w' v.ownBlock) : OwnRI w' base v' (p ++ [x]) (us ++ [u]) := by
  obtain ⟨h1, h2, h3⟩ := h
  refine ⟨by simp [h1], ?_, fun i y hy => ?_⟩
  · rw [List.length_append, cellsIt_append _ _ _ _ h1]
    have e : cellsIt [x] [u] = ci x u := by simp [cellsIt]
    rw [e]
    exact hown
  · rcases Nat.lt_or_ge i p.length with hi | hi
    · rw [List.getElem?_append_left hi] at hy
      obtain ⟨u', hu', hr⟩ := h3 i y hy
      exact ⟨u', by rw [List.getElem?_append_left (by omega)]; exact hu', hr.kept hg (own_own_ne hr h2 (by decide))⟩
    · rw [List.getElem?_append_right hi] at hy
      rcases Nat.eq_zero_or_pos (i - p.length) with h0 | h0
      · rw [h0] at hy
        injection hy with hy
        subst hy
        exact ⟨u, by rw [List.getElem?_append_right (by omega), show i - us.length = 0 by omega]; rfl, hu.kept hg (own_own_ne hu h2 (by decide))⟩
      · rw [List.getElem?_eq_none (by simp; omega)] at hy; cases hy

/-- The copy that is being made: its block, and its ranges so far, above it. -/
structure XW (W : World) (gx : Nat) (kind : Int) (b : UInt8) (no : Bool) (rv : Value) (l : List Rg) : Prop where
  item : W.heap[gx]? = some (.cells #[.int .i64 kind, .int .u8 (b.toNat : Int), .bool no, rv] 62 (0, 0))
  rgs : W.ownsRow (gx + 1) 69 2 rv l.length (cellsRg l)
theorem XW.below {W W' : World} {gx : Nat} {kind : Int} {b : UInt8} {no : Bool} {rv : Value} {l : List Rg} (h : XW W gx kind b no rv l) (hb : Below W.heap.size W W') : XW W' gx kind b no rv l :=
  ⟨(hb.block gx (Array.getElem?_eq_some_iff.1 h.item).1).trans h.item, own_below h.rgs hb⟩
theorem xw_next {W w3 : World} {gx : Nat} {kind : Int} {b : UInt8} {no : Bool} {rv v3 : Value} {l : List Rg} {r : Rg} (h : XW W gx kind b no rv l) (hs : gx < W.heap.size)
    (hown : w3.ownsRow (gx + 1) 69 2 v3 (l.length + 1) (cellsRg l ++ cr r)) (hg : W.grownBy w3 rv.ownBlock) : XW (w3.setCell ⟨gx, 3, none⟩ v3) gx kind b no v3 (l ++ [r]) := by
  have hgx : rv.ownBlock ≠ some gx := fun e => by have := (h.rgs.lt gx e).1; omega
  have hi : w3.heap[gx]? = some (.cells #[.int .i64 kind, .int .u8 (b.toNat : Int), .bool no, rv] 62 (0, 0)) := (hg.block gx hs hgx.symm).trans h.item
  have hset := heap_setCell_same w3 gx 3 _ _ v3 hi
  refine ⟨hset, ?_⟩
  have e : cellsRg (l ++ [r]) = cellsRg l ++ cr r := by rw [cellsRg_append]; simp [cellsRg]
  rw [List.length_append, e]
  refine hown.kept (row := some gx) ⟨rfl, rfl, rfl, by simp [World.setCell], fun j _ hj => heap_setCell_other w3 ⟨gx, 3, none⟩ j _ (fun e => hj (by rw [e]))⟩ (.inr ?_)
  intro e
  have := (hown.lt gx e).1
  omega
theorem rg_snoc (l : List Rg) (k : Nat) (h : k < l.length) : l.take (k + 1) = l.take k ++ [l[k]] := List.take_succ_eq_append_getElem h

set_option maxHeartbeats 8000000 in
set_option maxRecDepth 100000 in
theorem items_any (p : List It) (v : Value) (w : World) (ht : Its w w.heap.size v p) (hl : p.length ≤ 1000000) (hr60 : ∀ x ∈ p, x.2.2.2.length ≤ 1000000) :
    Calls Try.prog 17 #[v] w fun e w' => ∃ v', e = .returned v' ∧ Its w' w'.heap.size v' p ∧ Below w.heap.size w w' := by
  obtain ⟨A, c, rfl, hc, hcm⟩ := ht.form
  unfold maxLen at hcm
  obtain ⟨i0, hi, hz0, hz1, hz2⟩ := info_parts infoRItem
  obtain ⟨j0, hj, hy0, hy1, hy2⟩ := info_parts infoRRange
  go_enter Try.func17, Try.ntmps17
  go_wp2
  go_loopw [3, 4] (fun o iv wr => ∃ (i : Nat) (us : List Value), i ≤ p.length ∧ iv = .int .i64 i ∧ Below w.heap.size w wr ∧ OwnRI wr w.heap.size o (p.take i) us) (fun _ iv _ => p.length - (intOf iv).toNat)
  case atStart => exact ⟨0, [], Nat.zero_le _, rfl, Below.refl _ _, rfl, World.ownsRow_nil _ _ _ _, by simp⟩
  case round =>
    obtain ⟨i, us, hil, rfl, hb, hown⟩ := hrel
    have hsz := hb.size
    by_cases hlt : i < p.length
    · obtain ⟨blk, off, u, rfl, hblk, g0, g1, g2, g3, hrg⟩ := (ht.below hb).at_ hlt
      have hsn := List.take_succ_eq_append_getElem hlt
      have hr := hr60 p[i] (List.getElem_mem hlt)
      generalize p[i] = x at g0 g1 g2 g3 hrg hsn hr
      obtain ⟨kind, b, no, rs⟩ := x
      simp only at g0 g1 g2 g3 hrg hr
      obtain ⟨A2, c2, rfl, hc2, hcm2⟩ := hrg.form
      unfold maxLen at hcm2
      obtain ⟨A9, c9, rfl⟩ := own_formN hown.2.1
      have hsn := Lib.hid hsn
      have hbk : blk < wr.heap.size := by omega
      have hpl : (p.take i).length = i := by rw [List.length_take]; omega
      rw [hpl] at hown
      have hpl := Lib.hid hpl
      go_wp2_with fail
      refine wp_region_last (L := 17) (S := (fun w' : World => w'.cell? ⟨blk, off + i * 4, none⟩ = some (.int .i64 kind) ∧ w'.cell? ⟨blk, off + i * 4 + 1, none⟩ = some (.int .u8 (b.toNat : Int)) ∧ w'.cell? ⟨blk, off + i * 4 + 2, none⟩ = some (.bool no))) (by kernel_rfl) ?_
      have hS0 : (fun w' : World => w'.cell? ⟨blk, off + i * 4, none⟩ = some (.int .i64 kind) ∧ w'.cell? ⟨blk, off + i * 4 + 1, none⟩ = some (.int .u8 (b.toNat : Int)) ∧ w'.cell? ⟨blk, off + i * 4 + 2, none⟩ = some (.bool no)) wr.drew := ⟨g0, g1, g2⟩
      refine wpAnyT_take (i := 0) (v := .slice (some ⟨blk, off, none⟩) p.length c) rfl (by kernel_rfl) (by kernel_rfl) (by kernel_rfl) (by kernel_rfl) (fun _ _ _ h => h) (Or.inl ⟨by rfl, ?_⟩) hS0 ?_
      · intro W hW
        obtain ⟨k0, k1, k2⟩ := hW
        clear hi hz0 hz1 hz2 hj hy0 hy1 hy2 hS0
        go_simp
        try (intro hx; exfalso; omega)
      try simp only [Act.put, List.setIfInBounds_toArray]
      refine wpAnyT_take (i := 1) (v := .int .i64 (i : Int)) rfl (by kernel_rfl) (by kernel_rfl) (by kernel_rfl) (by kernel_rfl) (fun _ _ _ h => h) (Or.inl ⟨by rfl, ?_⟩) hS0 ?_
      · intro W hW
        obtain ⟨k0, k1, k2⟩ := hW
        clear hi hz0 hz1 hz2 hj hy0 hy1 hy2 hS0
        go_simp
        try (intro hx; exfalso; omega)
      try simp only [Act.put]
      refine wpAnyT_take (i := 2) (v := .pointer (some ⟨blk, off + i * 4, none⟩)) rfl (by kernel_rfl) (by kernel_rfl) (by kernel_rfl) (by kernel_rfl) (fun _ _ _ h => h) (Or.inl ⟨by rfl, ?_⟩) hS0 ?_
      · intro W hW
        obtain ⟨k0, k1, k2⟩ := hW
        clear hi hz0 hz1 hz2 hj hy0 hy1 hy2 hS0
        go_simp
        try (intro hx; exfalso; omega)
      try simp only [Act.put]
      refine wpAnyT_take (i := 3) (v := .pointer (some ⟨blk, off + i * 4, none⟩)) rfl (by kernel_rfl) (by kernel_rfl) (by kernel_rfl) (by kernel_rfl) (fun _ _ _ h => h) (Or.inl ⟨by rfl, ?_⟩) hS0 ?_
      · intro W hW
        obtain ⟨k0, k1, k2⟩ := hW
        clear hi hz0 hz1 hz2 hj hy0 hy1 hy2 hS0
        go_simp
        try (intro hx; exfalso; omega)
      try simp only [Act.put]
      refine wpAnyT_take (i := 4) (v := .int .i64 kind) rfl (by kernel_rfl) (by kernel_rfl) (by kernel_rfl) (by kernel_rfl) (fun _ _ _ h => h) (Or.inl ⟨by rfl, ?_⟩) hS0 ?_
      · intro W hW
        obtain ⟨k0, k1, k2⟩ := hW
        clear hi hz0 hz1 hz2 hj hy0 hy1 hy2 hS0
        go_simp
        try (intro hx; exfalso; omega)
      try simp only [Act.put]
      refine wpAnyT_take (i := 5) (v := .slice (some ⟨blk, off, none⟩) p.length c) rfl (by kernel_rfl) (by kernel_rfl) (by kernel_rfl) (by kernel_rfl) (fun _ _ _ h => h) (Or.inl ⟨by rfl, ?_⟩) hS0 ?_
      · intro W hW
        obtain ⟨k0, k1, k2⟩ := hW
        clear hi hz0 hz1 hz2 hj hy0 hy1 hy2 hS0
        go_simp
        try (intro hx; exfalso; omega)
      try simp only [Act.put]
      refine wpAnyT_take (i := 6) (v := .int .i64 (i : Int)) rfl (by kernel_rfl) (by kernel_rfl) (by kernel_rfl) (by kernel_rfl) (fun _ _ _ h => h) (Or.inl ⟨by rfl, ?_⟩) hS0 ?_
      · intro W hW
        obtain ⟨k0, k1, k2⟩ := hW
        clear hi hz0 hz1 hz2 hj hy0 hy1 hy2 hS0
        go_simp
        try (intro hx; exfalso; omega)
      try simp only [Act.put]
      refine wpAnyT_take (i := 7) (v := .pointer (some ⟨blk, off + i * 4, none⟩)) rfl (by kernel_rfl) (by kernel_rfl) (by kernel_rfl) (by kernel_rfl) (fun _ _ _ h => h) (Or.inl ⟨by rfl, ?_⟩) hS0 ?_
      · intro W hW
        obtain ⟨k0, k1, k2⟩ := hW
        clear hi hz0 hz1 hz2 hj hy0 hy1 hy2 hS0
        go_simp
        try (intro hx; exfalso; omega)
      try simp only [Act.put]
      refine wpAnyT_take (i := 8) (v := .pointer (some ⟨blk, off + i * 4 + 1, none⟩)) rfl (by kernel_rfl) (by kernel_rfl) (by kernel_rfl) (by kernel_rfl) (fun _ _ _ h => h) (Or.inl ⟨by rfl, ?_⟩) hS0 ?_
      · intro W hW
        obtain ⟨k0, k1, k2⟩ := hW
        clear hi hz0 hz1 hz2 hj hy0 hy1 hy2 hS0
        go_simp
        try (intro hx; exfalso; omega)
      try simp only [Act.put]
      refine wpAnyT_take (i := 9) (v := .int .u8 (b.toNat : Int)) rfl (by kernel_rfl) (by kernel_rfl) (by kernel_rfl) (by kernel_rfl) (fun _ _ _ h => h) (Or.inl ⟨by rfl, ?_⟩) hS0 ?_
      · intro W hW
        obtain ⟨k0, k1, k2⟩ := hW
        clear hi hz0 hz1 hz2 hj hy0 hy1 hy2 hS0
        go_simp
        try (intro hx; exfalso; omega)
      try simp only [Act.put]
      refine wpAnyT_take (i := 10) (v := .slice (some ⟨blk, off, none⟩) p.length c) rfl (by kernel_rfl) (by kernel_rfl) (by kernel_rfl) (by kernel_rfl) (fun _ _ _ h => h) (Or.inl ⟨by rfl, ?_⟩) hS0 ?_
      · intro W hW
        obtain ⟨k0, k1, k2⟩ := hW
        clear hi hz0 hz1 hz2 hj hy0 hy1 hy2 hS0
        go_simp
        try (intro hx; exfalso; omega)
      try simp only [Act.put]
      refine wpAnyT_take (i := 11) (v := .int .i64 (i : Int)) rfl (by kernel_rfl) (by kernel_rfl) (by kernel_rfl) (by kernel_rfl) (fun _ _ _ h => h) (Or.inl ⟨by rfl, ?_⟩) hS0 ?_
      · intro W hW
        obtain ⟨k0, k1, k2⟩ := hW
        clear hi hz0 hz1 hz2 hj hy0 hy1 hy2 hS0
        go_simp
        try (intro hx; exfalso; omega)
      try simp only [Act.put]
      refine wpAnyT_take (i := 12) (v := .pointer (some ⟨blk, off + i * 4, none⟩)) rfl (by kernel_rfl) (by kernel_rfl) (by kernel_rfl) (by kernel_rfl) (fun _ _ _ h => h) (Or.inl ⟨by rfl, ?_⟩) hS0 ?_
      · intro W hW
        obtain ⟨k0, k1, k2⟩ := hW
        clear hi hz0 hz1 hz2 hj hy0 hy1 hy2 hS0
        go_simp
        try (intro hx; exfalso; omega)
      try simp only [Act.put]
      refine wpAnyT_take (i := 13) (v := .pointer (some ⟨blk, off + i * 4 + 2, none⟩)) rfl (by kernel_rfl) (by kernel_rfl) (by kernel_rfl) (by kernel_rfl) (fun _ _ _ h => h) (Or.inl ⟨by rfl, ?_⟩) hS0 ?_
      · intro W hW
        obtain ⟨k0, k1, k2⟩ := hW
        clear hi hz0 hz1 hz2 hj hy0 hy1 hy2 hS0
        go_simp
        try (intro hx; exfalso; omega)
      try simp only [Act.put]
      refine wpAnyT_take (i := 14) (v := .bool no) rfl (by kernel_rfl) (by kernel_rfl) (by kernel_rfl) (by kernel_rfl) (fun _ _ _ h => h) (Or.inl ⟨by rfl, ?_⟩) hS0 ?_
      · intro W hW
        obtain ⟨k0, k1, k2⟩ := hW
        clear hi hz0 hz1 hz2 hj hy0 hy1 hy2 hS0
        go_simp
        try (intro hx; exfalso; omega)
      try simp only [Act.put]
      refine wpAnyT_take (i := 15) (v := .agg #[.int .i64 kind, .int .u8 (b.toNat : Int), .bool no, .slice none 0 0]) rfl (by kernel_rfl) (by kernel_rfl) (by kernel_rfl) (by kernel_rfl) (fun _ _ _ h => h) (Or.inl ⟨by rfl, ?_⟩) hS0 ?_
      · intro W hW
        obtain ⟨k0, k1, k2⟩ := hW
        clear hi hz0 hz1 hz2 hj hy0 hy1 hy2 hS0
        go_simp
        try (intro hx; exfalso; omega)
      try simp only [Act.put]
      clear hS0
      refine wpAnyT_one (i := 16) rfl (by kernel_rfl) rfl ?_
      go_simp
      refine wpAnyT_one (i := 17) rfl (by kernel_rfl) rfl ?_
      go_simp
      refine wpAnyT_done (by kernel_rfl) ?_ _
      have hX : XW ((wr.alloc (.cells #[.int .i64 kind, .int .u8 (b.toNat : Int), .bool no, .slice none 0 0] 62)).drew) wr.heap.size kind b no (.slice none 0 0) (rs.take 0) := by
        refine ⟨heap_alloc_new wr _, ?_⟩
        exact World.ownsRow_nil _ _ _ _
      have hbX : Below wr.heap.size wr ((wr.alloc (.cells #[.int .i64 kind, .int .u8 (b.toNat : Int), .bool no, .slice none 0 0] 62)).drew) := ((Below.refl _ wr).alloc (Nat.le_refl _) _).drew
      have hgX : wr.heap.size < ((wr.alloc (.cells #[.int .i64 kind, .int .u8 (b.toNat : Int), .bool no, .slice none 0 0] 62)).drew).heap.size := by show wr.heap.size < (wr.alloc _).heap.size; simp
      obtain ⟨w0, hw0⟩ : ∃ x, x = wr := ⟨_, rfl⟩
      subst hw0
      clear g0 g1 g2
      go_wp2
      generalize ((w0.alloc (.cells #[.int .i64 kind, .int .u8 (b.toNat : Int), .bool no, .slice none 0 0] 62)).drew) = W5 at hX hbX hgX ⊢
      obtain ⟨gx, hgx0⟩ : ∃ n, n = w0.heap.size := ⟨_, rfl⟩
      rw [← hgx0] at hX hbX hgX hbk hsz ⊢
      have hgx := Lib.hid hgx0
      clear hgx0
      go_loopw [6] (fun kv W => ∃ (k : Nat) (rv : Value), k ≤ rs.length ∧ kv = .int .i64 k ∧ Below gx w0 W ∧ gx < W.heap.size ∧ XW W gx kind b no rv (rs.take k)) (fun kv _ => rs.length - (intOf kv).toNat)
      case atStart => exact ⟨0, _, Nat.zero_le _, rfl, hbX, hgX, hX⟩
      case round =>
        clear hX hbX hgX
        obtain ⟨k, rv, hk, rfl, hbX, hgX, hX⟩ := hrel
        have g3W := (hbX.cell (p := ⟨blk, off + i * 4 + 3, none⟩) hbk).trans g3
        obtain ⟨D, cD, rfl⟩ := own_formN hX.rgs
        have htk : (rs.take k).length = k := by rw [List.length_take]; omega
        rw [htk] at hX
        have htk := Lib.hid htk
        have x0 : wr.cell? ⟨gx, 0, none⟩ = some (.int .i64 kind) ∧ wr.cell? ⟨gx, 1, none⟩ = some (.int .u8 (b.toNat : Int)) ∧ wr.cell? ⟨gx, 2, none⟩ = some (.bool no) ∧ wr.cell? ⟨gx, 3, none⟩ = some (.slice D k cD) := by
          refine ⟨?_, ?_, ?_, ?_⟩ <;> (rw [cell_of_row wr _ _ _ _ _ hX.item]; rfl)
        obtain ⟨x0, x1, x2, x3⟩ := x0
        by_cases hlt2 : k < rs.length
        · have hrgW := (hrg.below (hb := (show Below w.heap.size w0 wr from hbX.mono hsz)))
          obtain ⟨b2, off2, rfl, hb2, y0, y1⟩ := hrgW.at_ hlt2
          have hsn2 := Lib.hid (rg_snoc rs k hlt2)
          generalize rs[k] = r at y0 y1 hsn2
          obtain ⟨rx, ry⟩ := r
          simp only at y0 y1
          go_wp2_with fail
          refine wp_region_last (L := 24) (S := (fun w' : World => w'.cell? ⟨gx, 3, none⟩ = some (.slice D k cD) ∧ w'.cell? ⟨blk, off + i * 4 + 3, none⟩ = some (.slice (some ⟨b2, off2, none⟩) rs.length c2) ∧ w'.cell? ⟨b2, off2 + k * 2, none⟩ = some (.int .u8 (rx.toNat : Int)) ∧ w'.cell? ⟨b2, off2 + k * 2 + 1, none⟩ = some (.int .u8 (ry.toNat : Int)))) (by kernel_rfl) ?_
          have hS0 : (fun w' : World => w'.cell? ⟨gx, 3, none⟩ = some (.slice D k cD) ∧ w'.cell? ⟨blk, off + i * 4 + 3, none⟩ = some (.slice (some ⟨b2, off2, none⟩) rs.length c2) ∧ w'.cell? ⟨b2, off2 + k * 2, none⟩ = some (.int .u8 (rx.toNat : Int)) ∧ w'.cell? ⟨b2, off2 + k * 2 + 1, none⟩ = some (.int .u8 (ry.toNat : Int))) wr.drew := ⟨x3, g3W, y0, y1⟩
          refine wpAnyT_take (i := 0) (v := .pointer (some ⟨gx, 3, none⟩)) rfl (by kernel_rfl) (by kernel_rfl) (by kernel_rfl) (by kernel_rfl) (fun _ _ _ h => h) (Or.inl ⟨by rfl, ?_⟩) hS0 ?_
          · intro W hW
            obtain ⟨k0, k1, k2, k3⟩ := hW
            clear hi hz0 hz1 hz2 hj hy0 hy1 hy2 hS0
            go_simp
            try (intro hx; exfalso; omega)
          try simp only [Act.put, List.setIfInBounds_toArray]
          refine wpAnyT_take (i := 1) (v := .slice D k cD) rfl (by kernel_rfl) (by kernel_rfl) (by kernel_rfl) (by kernel_rfl) (fun _ _ _ h => h) (Or.inl ⟨by rfl, ?_⟩) hS0 ?_
          · intro W hW
            obtain ⟨k0, k1, k2, k3⟩ := hW
            clear hi hz0 hz1 hz2 hj hy0 hy1 hy2 hS0
            go_simp
            try (intro hx; exfalso; omega)
          try simp only [Act.put]
          refine wpAnyT_take (i := 2) (v := .slice (some ⟨blk, off, none⟩) p.length c) rfl (by kernel_rfl) (by kernel_rfl) (by kernel_rfl) (by kernel_rfl) (fun _ _ _ h => h) (Or.inl ⟨by rfl, ?_⟩) hS0 ?_
          · intro W hW
            obtain ⟨k0, k1, k2, k3⟩ := hW
            clear hi hz0 hz1 hz2 hj hy0 hy1 hy2 hS0
            go_simp
            try (intro hx; exfalso; omega)
          try simp only [Act.put]
          refine wpAnyT_take (i := 3) (v := .int .i64 (i : Int)) rfl (by kernel_rfl) (by kernel_rfl) (by kernel_rfl) (by kernel_rfl) (fun _ _ _ h => h) (Or.inl ⟨by rfl, ?_⟩) hS0 ?_
          · intro W hW
            obtain ⟨k0, k1, k2, k3⟩ := hW
            clear hi hz0 hz1 hz2 hj hy0 hy1 hy2 hS0
            go_simp
            try (intro hx; exfalso; omega)
          try simp only [Act.put]
          refine wpAnyT_take (i := 4) (v := .pointer (some ⟨blk, off + i * 4, none⟩)) rfl (by kernel_rfl) (by kernel_rfl) (by kernel_rfl) (by kernel_rfl) (fun _ _ _ h => h) (Or.inl ⟨by rfl, ?_⟩) hS0 ?_
          · intro W hW
            obtain ⟨k0, k1, k2, k3⟩ := hW
            clear hi hz0 hz1 hz2 hj hy0 hy1 hy2 hS0
            go_simp
            try (intro hx; exfalso; omega)
          try simp only [Act.put]
          refine wpAnyT_take (i := 5) (v := .pointer (some ⟨blk, off + i * 4 + 3, none⟩)) rfl (by kernel_rfl) (by kernel_rfl) (by kernel_rfl) (by kernel_rfl) (fun _ _ _ h => h) (Or.inl ⟨by rfl, ?_⟩) hS0 ?_
          · intro W hW
            obtain ⟨k0, k1, k2, k3⟩ := hW
            clear hi hz0 hz1 hz2 hj hy0 hy1 hy2 hS0
            go_simp
            try (intro hx; exfalso; omega)
          try simp only [Act.put]
          refine wpAnyT_take (i := 6) (v := .slice (some ⟨b2, off2, none⟩) rs.length c2) rfl (by kernel_rfl) (by kernel_rfl) (by kernel_rfl) (by kernel_rfl) (fun _ _ _ h => h) (Or.inl ⟨by rfl, ?_⟩) hS0 ?_
          · intro W hW
            obtain ⟨k0, k1, k2, k3⟩ := hW
            clear hi hz0 hz1 hz2 hj hy0 hy1 hy2 hS0
            go_simp
            try (intro hx; exfalso; omega)
          try simp only [Act.put]
          refine wpAnyT_take (i := 7) (v := .int .i64 (k : Int)) rfl (by kernel_rfl) (by kernel_rfl) (by kernel_rfl) (by kernel_rfl) (fun _ _ _ h => h) (Or.inl ⟨by rfl, ?_⟩) hS0 ?_
          · intro W hW
            obtain ⟨k0, k1, k2, k3⟩ := hW
            clear hi hz0 hz1 hz2 hj hy0 hy1 hy2 hS0
            go_simp
            try (intro hx; exfalso; omega)
          try simp only [Act.put]
          refine wpAnyT_take (i := 8) (v := .pointer (some ⟨b2, off2 + k * 2, none⟩)) rfl (by kernel_rfl) (by kernel_rfl) (by kernel_rfl) (by kernel_rfl) (fun _ _ _ h => h) (Or.inl ⟨by rfl, ?_⟩) hS0 ?_
          · intro W hW
            obtain ⟨k0, k1, k2, k3⟩ := hW
            clear hi hz0 hz1 hz2 hj hy0 hy1 hy2 hS0
            go_simp
            try (intro hx; exfalso; omega)
          try simp only [Act.put]
          refine wpAnyT_take (i := 9) (v := .pointer (some ⟨b2, off2 + k * 2, none⟩)) rfl (by kernel_rfl) (by kernel_rfl) (by kernel_rfl) (by kernel_rfl) (fun _ _ _ h => h) (Or.inl ⟨by rfl, ?_⟩) hS0 ?_
          · intro W hW
            obtain ⟨k0, k1, k2, k3⟩ := hW
            clear hi hz0 hz1 hz2 hj hy0 hy1 hy2 hS0
            go_simp
            try (intro hx; exfalso; omega)
          try simp only [Act.put]
          refine wpAnyT_take (i := 10) (v := .int .u8 (rx.toNat : Int)) rfl (by kernel_rfl) (by kernel_rfl) (by kernel_rfl) (by kernel_rfl) (fun _ _ _ h => h) (Or.inl ⟨by rfl, ?_⟩) hS0 ?_
          · intro W hW
            obtain ⟨k0, k1, k2, k3⟩ := hW
            clear hi hz0 hz1 hz2 hj hy0 hy1 hy2 hS0
            go_simp
            try (intro hx; exfalso; omega)
          try simp only [Act.put]
          refine wpAnyT_take (i := 11) (v := .slice (some ⟨blk, off, none⟩) p.length c) rfl (by kernel_rfl) (by kernel_rfl) (by kernel_rfl) (by kernel_rfl) (fun _ _ _ h => h) (Or.inl ⟨by rfl, ?_⟩) hS0 ?_
          · intro W hW
            obtain ⟨k0, k1, k2, k3⟩ := hW
            clear hi hz0 hz1 hz2 hj hy0 hy1 hy2 hS0
            go_simp
            try (intro hx; exfalso; omega)
          try simp only [Act.put]
          refine wpAnyT_take (i := 12) (v := .int .i64 (i : Int)) rfl (by kernel_rfl) (by kernel_rfl) (by kernel_rfl) (by kernel_rfl) (fun _ _ _ h => h) (Or.inl ⟨by rfl, ?_⟩) hS0 ?_
          · intro W hW
            obtain ⟨k0, k1, k2, k3⟩ := hW
            clear hi hz0 hz1 hz2 hj hy0 hy1 hy2 hS0
            go_simp
            try (intro hx; exfalso; omega)
          try simp only [Act.put]
          refine wpAnyT_take (i := 13) (v := .pointer (some ⟨blk, off + i * 4, none⟩)) rfl (by kernel_rfl) (by kernel_rfl) (by kernel_rfl) (by kernel_rfl) (fun _ _ _ h => h) (Or.inl ⟨by rfl, ?_⟩) hS0 ?_
          · intro W hW
            obtain ⟨k0, k1, k2, k3⟩ := hW
            clear hi hz0 hz1 hz2 hj hy0 hy1 hy2 hS0
            go_simp
            try (intro hx; exfalso; omega)
          try simp only [Act.put]
          refine wpAnyT_take (i := 14) (v := .pointer (some ⟨blk, off + i * 4 + 3, none⟩)) rfl (by kernel_rfl) (by kernel_rfl) (by kernel_rfl) (by kernel_rfl) (fun _ _ _ h => h) (Or.inl ⟨by rfl, ?_⟩) hS0 ?_
          · intro W hW
            obtain ⟨k0, k1, k2, k3⟩ := hW
            clear hi hz0 hz1 hz2 hj hy0 hy1 hy2 hS0
            go_simp
            try (intro hx; exfalso; omega)
          try simp only [Act.put]
          refine wpAnyT_take (i := 15) (v := .slice (some ⟨b2, off2, none⟩) rs.length c2) rfl (by kernel_rfl) (by kernel_rfl) (by kernel_rfl) (by kernel_rfl) (fun _ _ _ h => h) (Or.inl ⟨by rfl, ?_⟩) hS0 ?_
          · intro W hW
            obtain ⟨k0, k1, k2, k3⟩ := hW
            clear hi hz0 hz1 hz2 hj hy0 hy1 hy2 hS0
            go_simp
            try (intro hx; exfalso; omega)
          try simp only [Act.put]
          refine wpAnyT_take (i := 16) (v := .int .i64 (k : Int)) rfl (by kernel_rfl) (by kernel_rfl) (by kernel_rfl) (by kernel_rfl) (fun _ _ _ h => h) (Or.inl ⟨by rfl, ?_⟩) hS0 ?_
          · intro W hW
            obtain ⟨k0, k1, k2, k3⟩ := hW
            clear hi hz0 hz1 hz2 hj hy0 hy1 hy2 hS0
            go_simp
            try (intro hx; exfalso; omega)
          try simp only [Act.put]
          refine wpAnyT_take (i := 17) (v := .pointer (some ⟨b2, off2 + k * 2, none⟩)) rfl (by kernel_rfl) (by kernel_rfl) (by kernel_rfl) (by kernel_rfl) (fun _ _ _ h => h) (Or.inl ⟨by rfl, ?_⟩) hS0 ?_
          · intro W hW
            obtain ⟨k0, k1, k2, k3⟩ := hW
            clear hi hz0 hz1 hz2 hj hy0 hy1 hy2 hS0
            go_simp
            try (intro hx; exfalso; omega)
          try simp only [Act.put]
          refine wpAnyT_take (i := 18) (v := .pointer (some ⟨b2, off2 + k * 2 + 1, none⟩)) rfl (by kernel_rfl) (by kernel_rfl) (by kernel_rfl) (by kernel_rfl) (fun _ _ _ h => h) (Or.inl ⟨by rfl, ?_⟩) hS0 ?_
          · intro W hW
            obtain ⟨k0, k1, k2, k3⟩ := hW
            clear hi hz0 hz1 hz2 hj hy0 hy1 hy2 hS0
            go_simp
            try (intro hx; exfalso; omega)
          try simp only [Act.put]
          refine wpAnyT_take (i := 19) (v := .int .u8 (ry.toNat : Int)) rfl (by kernel_rfl) (by kernel_rfl) (by kernel_rfl) (by kernel_rfl) (fun _ _ _ h => h) (Or.inl ⟨by rfl, ?_⟩) hS0 ?_
          · intro W hW
            obtain ⟨k0, k1, k2, k3⟩ := hW
            clear hi hz0 hz1 hz2 hj hy0 hy1 hy2 hS0
            go_simp
            try (intro hx; exfalso; omega)
          try simp only [Act.put]
          refine wpAnyT_take (i := 20) (v := .agg #[.int .u8 (rx.toNat : Int), .int .u8 (ry.toNat : Int)]) rfl (by kernel_rfl) (by kernel_rfl) (by kernel_rfl) (by kernel_rfl) (fun _ _ _ h => h) (Or.inl ⟨by rfl, ?_⟩) hS0 ?_
          · intro W hW
            obtain ⟨k0, k1, k2, k3⟩ := hW
            clear hi hz0 hz1 hz2 hj hy0 hy1 hy2 hS0
            go_simp
            try (intro hx; exfalso; omega)
          try simp only [Act.put]
          clear hS0
          refine wpAnyT_one (i := 21) rfl (by kernel_rfl) rfl ?_
          go_simp
          have hbA : Below wr.heap.size wr ((wr.alloc (.cells #[.int .u8 (rx.toNat : Int), .int .u8 (ry.toNat : Int)] 69)).drew) := ((Below.refl _ wr).alloc (Nat.le_refl _) _).drew
          have hXA := hX.below hbA
          have hgA : wr.heap.size < ((wr.alloc (.cells #[.int .u8 (rx.toNat : Int), .int .u8 (ry.toNat : Int)] 69)).drew).heap.size := by show wr.heap.size < (wr.alloc _).heap.size; simp
          have hgA2 : ((wr.alloc (.cells #[.int .u8 (rx.toNat : Int), .int .u8 (ry.toNat : Int)] 69)).drew).heap.size = wr.heap.size + 1 := by show (wr.alloc _).heap.size = _; simp
          have hnewA := new_cells wr #[.int .u8 (rx.toNat : Int), .int .u8 (ry.toNat : Int)] 69
          have hlenA := hXA.rgs
          rw [htk.out] at hlenA
          refine ⟨⟨(hbA.cell (p := ⟨blk, off + i * 4 + 3, none⟩) (show blk < wr.heap.size by omega)).trans g3W, (hbA.cell (p := ⟨b2, off2 + k * 2, none⟩) (show b2 < wr.heap.size by omega)).trans y0, (hbA.cell (p := ⟨b2, off2 + k * 2 + 1, none⟩) (show b2 < wr.heap.size by omega)).trans y1⟩, ?_⟩
          refine wpAnyT_one (i := 22) rfl (by kernel_rfl) rfl ?_
          refine wp_append_lies _ (.tmp 40) (.tmp 60) 60 rfl (gx + 1) 69 j0 _ 2 2 Try.underlying60 hj hy0 hy1 hy2 rfl (by decide) (.slice D k cD) k (cellsRg (rs.take k)) rfl hlenA ⟨wr.heap.size, 0, none⟩ 1 1 (cr (rx, ry)) rfl rfl hnewA (by simp [cr, Value.oneCell']) (by decide) (by simp only [maxLen]; omega) (by omega) (by omega) (wr.heap.size + 1) hgA2 ?_
          intro gg cap3 w3 hown3 hgrow hat _
          have hX3 := xw_next (r := (rx, ry)) (v3 := .slice (some ⟨gg, 0, none⟩) (k + 1) cap3) hXA (by omega) (by rw [htk.out]; exact hown3) hgrow
          rw [← hsn2.out] at hX3
          have hbw3 : Below gx w0 w3 := (hbX.trans (hbA.mono (by omega))).grown hgrow (by omega) (fun g h => by have := (hXA.rgs.lt g h).1; omega)
          have hgw3 : gx < w3.heap.size := by have := hgrow.size; omega
          have hgx3 : (Value.slice D k cD).ownBlock ≠ some gx := fun e => by have := (hXA.rgs.lt gx e).1; omega
          have hI3 : w3.heap[gx]? = some (.cells #[.int .i64 kind, .int .u8 (b.toNat : Int), .bool no, .slice D k cD] 62 (0, 0)) := (hgrow.block gx (by omega) hgx3.symm).trans hXA.item
          have cO3 : w3.cell? ⟨gx, 3, none⟩ = some (.slice D k cD) := by rw [cell_of_row w3 _ _ _ _ _ hI3]; rfl
          have fO3 : w3.frozen? ⟨gx, 3, none⟩ = false := frozen_of_row w3 _ _ _ _ hI3
          have g33 : w3.cell? ⟨blk, off + i * 4 + 3, none⟩ = some (.slice (some ⟨b2, off2, none⟩) rs.length c2) := (hbw3.cell (p := ⟨blk, off + i * 4 + 3, none⟩) hbk).trans g3
          have hb2' : b2 < gx := by omega
          have y03 : w3.cell? ⟨b2, off2 + k * 2, none⟩ = some (.int .u8 (rx.toNat : Int)) := (hbw3.cell (p := ⟨b2, off2 + k * 2, none⟩) hb2').trans (((hbX.cell (p := ⟨b2, off2 + k * 2, none⟩) hb2').symm).trans y0)
          have y13 : w3.cell? ⟨b2, off2 + k * 2 + 1, none⟩ = some (.int .u8 (ry.toNat : Int)) := (hbw3.cell (p := ⟨b2, off2 + k * 2 + 1, none⟩) hb2').trans (((hbX.cell (p := ⟨b2, off2 + k * 2 + 1, none⟩) hb2').symm).trans y1)
          have hbf : Below gx w0 (w3.setCell ⟨gx, 3, none⟩ (.slice (some ⟨gg, 0, none⟩) (k + 1) cap3)) := hbw3.setCell (p := ⟨gx, 3, none⟩) (Nat.le_refl _) _
          have hgf : gx < (w3.setCell ⟨gx, 3, none⟩ (.slice (some ⟨gg, 0, none⟩) (k + 1) cap3)).heap.size := by simpa [World.setCell] using hgw3
          have hS3 : (fun w' : World => w'.cell? ⟨gx, 3, none⟩ = some (.slice D k cD) ∧ w'.cell? ⟨blk, off + i * 4 + 3, none⟩ = some (.slice (some ⟨b2, off2, none⟩) rs.length c2) ∧ w'.cell? ⟨b2, off2 + k * 2, none⟩ = some (.int .u8 (rx.toNat : Int)) ∧ w'.cell? ⟨b2, off2 + k * 2 + 1, none⟩ = some (.int .u8 (ry.toNat : Int))) w3 := ⟨cO3, g33, y03, y13⟩
          refine ⟨fun _ => hS3, ?_⟩
          try simp only [Act.put, List.setIfInBounds_toArray]
          clear hbA hXA hgA hgA2 hnewA hlenA hown3 hgrow hat hbw3 hgw3 hgx3 hI3 hX hbX hgX hrgW x0 x1 x2 x3 g3W y0 y1 hi hz0 hz1 hz2 hj hy0 hy1 hy2
          refine wpAnyT_take (i := 23) (v := .pointer (some ⟨gx, 3, none⟩)) rfl (by kernel_rfl) (by kernel_rfl) (by kernel_rfl) (by kernel_rfl) (fun _ _ _ h => h) (Or.inl ⟨by rfl, ?_⟩) hS3 ?_
          · intro W hW
            obtain ⟨k0, k1, k2, k3⟩ := hW
            clear hS3
            go_simp
            try (intro hx; exfalso; omega)
          try simp only [Act.put]
          clear hS3
          refine wpAnyT_one (i := 24) rfl (by kernel_rfl) rfl ?_
          go_simp
          refine wpAnyT_done (by kernel_rfl) ?_ _
          clear cO3 fO3 g33 y03 y13
          generalize w3.setCell ⟨gx, 3, none⟩ (.slice (some ⟨gg, 0, none⟩) (k + 1) cap3) = w4 at *
          go_wp2
          go_roundw
          case rel => exact ⟨k + 1, _, by omega, by go_num, hbf, hgf, hX3⟩
          case measure => simp [intOf]; omega
        · have hbK := hb.trans (hbX.mono hsz)
          rw [List.take_of_length_le (by omega)] at hX
          have hownK := hown.below (show Below w0.heap.size w0 wr by have := hbX; rwa [hgx.out] at this)
          have hm4 := hownK.below ((Below.refl _ wr).alloc (Nat.le_refl _) (.cells #[.int .i64 kind, .int .u8 (b.toNat : Int), .bool no, .slice D k cD] 62))
          have hu4 := own_base (own_below hX.rgs ((Below.refl _ wr).alloc (Nat.le_refl _) (.cells #[.int .i64 kind, .int .u8 (b.toNat : Int), .bool no, .slice D k cD] 62))) (show w.heap.size ≤ gx + 1 by omega)
          have hb4 := hbK.alloc hbK.size (.cells #[.int .i64 kind, .int .u8 (b.toNat : Int), .bool no, .slice D k cD] 62)
          have hnew : ∀ (j : Nat) (u : Value), (ci (kind, b, no, rs) (.slice D k cD))[j]? = some u → (wr.alloc (.cells #[.int .i64 kind, .int .u8 (b.toNat : Int), .bool no, .slice D k cD] 62)).cell? ((⟨wr.heap.size, 0, none⟩ : Addr).add j) = some u := new_cells wr #[.int .i64 kind, .int .u8 (b.toNat : Int), .bool no, .slice D k cD] _
          have hrow4 := hm4.2.1
          have hszK := hbK.size
          go_wp2_with (at_builtin; refine wpList_append_own _ rfl _ _ 26 rfl w.heap.size 62 i0 _ 4 40 Try.underlying26 hi hz0 hz1 hz2 rfl (by decide) _ _ _ rfl hrow4 ⟨wr.heap.size, 0, none⟩ 1 1 (ci (kind, b, no, rs) (.slice D k cD)) rfl rfl hnew ?c2 ?c3 ?c4 ?c5 ?_)
          case c2 => simp [ci, Value.oneCell']
          case c3 => simp only [maxLen, List.length_take]; omega
          case c4 => simp only [List.length_take]; omega
          case c5 => simp; omega
          intro v9 w9 hown9 hgrow9 _
          have hO9 := ownRI_snoc (x := (kind, b, no, rs)) hm4 hu4 (by rw [hpl.out]; exact hown9) hgrow9
          rw [← hsn.out] at hO9
          have hb9 : Below w.heap.size w w9 := hb4.grown hgrow9 (by simp; omega) (fun g h => (hm4.2.1.lt g h).1)
          clear hrow4 hm4 hu4 hnew hown9 hgrow9 hownK hb4 hX hbX hgX x0 x1 x2 x3 g3W g3 hrg hbK
          go_wp2
          go_roundw
          case rel => exact ⟨i + 1, _, by omega, by go_num, hb9, hO9⟩
          case measure => simp [intOf]; omega
    · rw [List.take_of_length_le (by omega)] at hown
      go_wp2
      go_ret
      exact ⟨_, rfl, hown.read, hb⟩

end Go.Proofs.Ytnioneknlgbhoaa
