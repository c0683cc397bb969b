/-
  rows cuts a pattern at its stars into rows of sets: the walk. Conditions: at most a million items.
-/
import Derived.Test.YtmoihdddmeienaaDoorGbRows
namespace Go.Proofs.YtmoihdddmeienaaDoor
open Go Go.RowKit

theorem own_succ {w : World} {base : Nat} {e : TypeId} {size k : Nat} {v : Value} {xs : List Value} (h : w.ownsRow base e size v (k + 1) xs) : ∃ g cap, v = .slice (some ⟨g, 0, none⟩) (k + 1) cap := by
  rcases h.2 with ⟨_, h0⟩ | ⟨g, cap, cur, rfl, _⟩
  · cases h0
  · exact ⟨g, cap, rfl⟩
/-- Rows of sets that have just the bytes that the rows have. -/
def SaysRows (ls : List (List St)) (rs : List Rw) : Prop := (∀ l ∈ ls, ∀ n ∈ l, okSt n) ∧ ls.map (fun l => l.map hasS) = rs
theorem says_star {p : List It} {k : Nat} (hk : k < p.length) {ls : List (List St)} (h : SaysRows ls (rowsP (p.take k))) (hx : p[k].1 = 3) : SaysRows (ls ++ [[]]) (rowsP (p.take (k + 1))) := by
  rw [List.take_succ_eq_append_getElem hk, rowsP_star _ _ hx]
  refine ⟨fun l hl => ?_, by rw [List.map_append, h.2]; rfl⟩
  rcases List.mem_append.1 hl with hl | hl
  · exact h.1 l hl
  · rw [List.mem_singleton.1 hl]; simp
theorem says_item {p : List It} {k : Nat} (hk : k < p.length) {ini : List (List St)} {last : List St} (h : SaysRows (ini ++ [last]) (rowsP (p.take k))) (hx : ¬ p[k].1 = 3) {n : St} (hn : okSt n) (hf : ∀ c, hasS n c = fit p[k] c) : SaysRows (ini ++ [last ++ [n]]) (rowsP (p.take (k + 1))) := by
  rw [List.take_succ_eq_append_getElem hk, rowsP_item _ _ hx]
  refine ⟨fun l hl => ?_, ?_⟩
  · rcases List.mem_append.1 hl with hl | hl
    · exact h.1 l (List.mem_append_left _ hl)
    · rw [List.mem_singleton.1 hl]
      intro m hm
      rcases List.mem_append.1 hm with hm | hm
      · exact h.1 last (by simp) m hm
      · rw [List.mem_singleton.1 hm]; exact hn
  · rw [← h.2, List.map_append, List.map_append, List.map_cons, List.map_nil, List.map_cons, List.map_nil, growLast_snoc, List.map_append]
    have : hasS n = fit p[k] := funext hf
    simp [this]
theorem says_first (p : List It) : SaysRows ([] ++ [[]]) (rowsP (p.take 0)) := ⟨by simp, by simp [rowsP]⟩
theorem says_len {ls : List (List St)} {rs : List Rw} (h : SaysRows ls rs) : ls.length = rs.length := by rw [← h.2, List.length_map]
theorem addTo_len (f : UInt8 → Bool) (l : List Rw) (h : l ≠ []) : (addTo f l).length = l.length := by
  cases l with
  | nil => exact absurd rfl h
  | cons a l => rfl
theorem rowsP_len (p : List It) : (rowsP p).length ≤ p.length + 1 ∧ ∀ r ∈ rowsP p, r.length ≤ p.length := by
  induction p with
  | nil => simp [rowsP]
  | cons x p ih =>
    simp only [rowsP]
    split
    · refine ⟨by simp; exact ih.1, fun r hr => ?_⟩
      rcases List.mem_cons.1 hr with rfl | hr
      · simp
      · have := ih.2 r hr; simp; omega
    · rw [addTo_len _ _ (rowsP_ne p)]
      refine ⟨by have := ih.1; simp; omega, fun r hr => ?_⟩
      cases hp : rowsP p with
      | nil => exact absurd hp (rowsP_ne p)
      | cons a l =>
        rw [hp] at hr ih
        simp only [addTo] at hr
        rcases List.mem_cons.1 hr with rfl | hr
        · have := ih.2 a (by simp); simp; omega
        · have := ih.2 r (by simp [hr]); simp; omega

theorem own_heap {w : World} {base g cap n size : Nat} {e : TypeId} {xs : List Value} (h : w.ownsRow base e size (.slice (some ⟨g, 0, none⟩) n cap) n xs) : ∃ cur, w.heap[g]? = some (.cells cur e (0, 0)) := by
  rcases h.2 with ⟨h', _⟩ | ⟨g', cap', cur, h', _, hg, _⟩
  · simp at h'
  · simp only [Value.slice.injEq, Option.some.injEq, Addr.mk.injEq, and_true, true_and] at h'
    obtain ⟨rfl, rfl⟩ := h'
    exact ⟨cur, hg⟩
theorem own_ne_block2 {w : World} {base : Nat} {e t : TypeId} {size n g : Nat} {v : Value} {xs : List Value} {cs : Array Value} {fr : Nat × Nat} (h : w.ownsRow base e size v n xs) (hg : w.heap[g]? = some (.cells cs t fr)) (hne : t ≠ e) : some g ≠ v.ownBlock := by
  rcases h.2 with ⟨rfl, _⟩ | ⟨g', cap, cur, rfl, _, hg', _⟩
  · simp [Value.ownBlock]
  · intro he
    have : g = g' := by simpa [Value.ownBlock] using he
    subst this
    rw [hg] at hg'
    injection hg' with hg'
    injection hg' with _ ht
    exact hne ht
theorem rowsMade_item {W w3 : World} {base g cap gg cap3 : Nat} {ini : List (List St)} {ivs : List Value} {last : List St} {u : Value} {n : St} (h : RowsMade W base (.slice (some ⟨g, 0, none⟩) (ini.length + 1) cap) ini ivs last u)
    (hown : w3.ownsRow base 120 4 (.slice (some ⟨gg, 0, none⟩) (last.length + 1) cap3) (last.length + 1) (cellsSets last ++ cellsSt n)) (hg : W.grownBy w3 u.ownBlock) (hat : u.ownBlock = some gg ∨ gg = W.heap.size) :
    RowsMade (w3.setCell ⟨g, ini.length, none⟩ (.slice (some ⟨gg, 0, none⟩) (last.length + 1) cap3)) base (.slice (some ⟨g, 0, none⟩) (ini.length + 1) cap) ini ivs (last ++ [n]) (.slice (some ⟨gg, 0, none⟩) (last.length + 1) cap3) := by
  obtain ⟨h1, h2, h3, h4, h5⟩ := h
  have ho := h2.kept hg (own_own_ne h2 h4 (by decide))
  obtain ⟨hst, hgr⟩ := ho.stored ini.length (.slice (some ⟨gg, 0, none⟩) (last.length + 1) cap3)
  have hset : (ivs ++ [u]).set ini.length (.slice (some ⟨gg, 0, none⟩) (last.length + 1) cap3) = ivs ++ [.slice (some ⟨gg, 0, none⟩) (last.length + 1) cap3] := by
    rw [List.set_append_right _ _ (by omega), show ini.length - ivs.length = 0 by omega, List.set_cons_zero]
  rw [hset] at hst
  refine ⟨h1, hst, fun i l hl => ?_, ?_, fun x hx => ?_⟩
  · obtain ⟨x, hx, hr, hn⟩ := h3 i l hl
    have hr3 := hr.kept hg hn
    refine ⟨x, hx, hr3.kept hgr (own_own_ne hr3 ho (by decide)), ?_⟩
    rcases hat with hat | hat
    · rcases hn with hn | hn
      · exact .inl hn
      · right; rw [hat] at hn; exact hn
    · cases hb : x.ownBlock with
      | none => exact .inl rfl
      | some j =>
        right
        have := (hr.lt j hb).2
        simp only [Value.ownBlock]
        intro e
        injection e with e
        omega
  · have e : cellsSets (last ++ [n]) = cellsSets last ++ cellsSt n := by rw [cellsSets_append]; simp [cellsSets]
    rw [List.length_append, e]
    exact hown.kept hgr (own_own_ne hown ho (by decide))
  · rcases List.mem_append.1 hx with hx | hx
    · exact h5 x (List.mem_append_left _ hx)
    · rw [List.mem_singleton.1 hx]; rfl

set_option maxHeartbeats 2000000 in
set_option maxRecDepth 100000 in
theorem rows_made (p : List It) (v : Value) (B : Nat) (w : World) (ht : Its w B v p) (hB : B ≤ w.heap.size) (hl : p.length ≤ 1000000) :
    Calls Tryd.prog 56 #[v] w fun e w' => ∃ v' ini ivs last u, e = .returned v' ∧ RowsMade w' w.heap.size v' ini ivs last u ∧ SaysRows (ini ++ [last]) (rowsP p) ∧ Below w.heap.size w w' := by
  obtain ⟨A, c, rfl, hc, hcm⟩ := ht.form
  unfold maxLen at hcm
  obtain ⟨i0, hi, hz0, hz1, hz2⟩ := info_parts infoRow
  obtain ⟨j0, hj, hy0, hy1, hy2⟩ := info_parts infoSet
  have hfirst := rowsMade_first w
  go_enter Tryd.func56, Tryd.ntmps56
  go_wp2
  go_loopw [3, 10] (fun o i wr => ∃ (k : Nat) (ini : List (List St)) (ivs : List Value) (last : List St) (u : Value), k ≤ p.length ∧ i = .int .i64 k ∧ Below w.heap.size w wr ∧ RowsMade wr w.heap.size o ini ivs last u ∧ ini.length ≤ k ∧ last.length ≤ k ∧ Hid (SaysRows (ini ++ [last]) (rowsP (p.take k)))) (fun _ i _ => p.length - (intOf i).toNat)
  case atStart => exact ⟨0, [], [], [], _, Nat.zero_le _, rfl, (Below.refl _ _).alloc (Nat.le_refl _) _, hfirst, Nat.zero_le _, Nat.zero_le _, says_first p⟩
  case round =>
    clear hfirst
    obtain ⟨k, ini, ivs, last, u, hk, rfl, hb, hmade, hil, hll, hs⟩ := hrel
    have hsz := hb.size
    by_cases hlt : k < p.length
    · obtain ⟨blk, off, rv, rfl, hblk, g0, g1, g2, g3, hrg⟩ := ((ht.more hB).below hb).at_ hlt
      have hst := Lib.hid (fun hx => says_star hlt hs.out hx)
      have hit := Lib.hid (fun hx (n : St) hn hf => says_item (n := n) hlt hs.out hx hn hf)
      clear hs
      generalize p[k] = z at g0 g1 g2 g3 hrg hst hit
      obtain ⟨kind, b, no, rs⟩ := z
      simp only at g0 g1 g2 g3 hrg
      have hbk : blk < wr.heap.size := by omega
      obtain ⟨g, cap, ho⟩ := own_succ hmade.2.1
      subst ho
      obtain ⟨A2, c2, hv2, _, _⟩ := hrg.form
      subst hv2
      by_cases h3 : kind = 3
      · subst h3
        have hst2 := Lib.hid (hst.out rfl)
        clear hst hit
        have hm2 := (hmade.below ((Below.refl _ wr).alloc (Nat.le_refl _) (.cells #[.int .i64 3, .int .u8 (b.toNat : Int), .bool no, Value.slice A2 rs.length c2] 72))).below ((Below.refl _ _).alloc (Nat.le_refl _) (.cells #[.slice none 0 0] 117))
        have hnew : ∀ (j : Nat) (u : Value), [Value.slice none 0 0][j]? = some u → ((wr.alloc (.cells #[.int .i64 3, .int .u8 (b.toNat : Int), .bool no, Value.slice A2 rs.length c2] 72)).alloc (.cells #[.slice none 0 0] 117)).cell? ((⟨wr.heap.size + 1, 0, none⟩ : Addr).add j) = some u := by
          have := new_cells (wr.alloc (.cells #[.int .i64 3, .int .u8 (b.toNat : Int), .bool no, Value.slice A2 rs.length c2] 72)) #[.slice none 0 0] 117
          rw [World.size_alloc] at this
          exact this
        go_wp2_with (at_builtin; refine wpList_append_own _ rfl _ _ 91 rfl w.heap.size 117 i0 _ 1 24 Tryd.underlying91 hi hz0 hz1 hz2 rfl (by decide) _ _ _ rfl hm2.2.1 ⟨wr.heap.size + 1, 0, none⟩ 1 1 [.slice none 0 0] rfl rfl hnew ?c2 ?c3 ?c4 ?c5 ?_)
        case c2 => simp [Value.oneCell']
        case c3 => simp only [maxLen]; omega
        case c4 => omega
        case c5 => simp; omega
        intro v' w1 hown1 hgrow _
        have hm3 := rowsMade_star hm2 (by simpa using hown1) hgrow
        have hb1 : Below w.heap.size w w1 := ((hb.alloc hsz _).alloc (by simp; omega) _).grown hgrow (by simp; omega) (fun g h => (hm2.2.1.lt g h).1)
        clear hown1 hgrow hm2 hmade hb
        go_wp2
        go_roundw
        case rel => exact ⟨k + 1, _, _, [], _, by omega, by go_num, hb1, hm3, by simp; omega, Nat.zero_le _, hst2.out⟩
        case measure => simp [intOf]; omega
      · have hit2 := Lib.hid (hit.out h3)
        clear hst hit
        have hal : (ini.length : Int) < ((ini.length + 1 : Nat) : Int) := by omega
        have hal0 : (0 : Int) ≤ (ini.length : Int) := by omega
        have hm0 := hmade.below ((Below.refl _ wr).alloc (Nat.le_refl _) (.cells #[.int .i64 kind, .int .u8 (b.toNat : Int), .bool no, .slice A2 rs.length c2] 72))
        have hb0 := hb.alloc hsz (.cells #[.int .i64 kind, .int .u8 (b.toNat : Int), .bool no, .slice A2 rs.length c2] 72)
        have hrg0 := hrg.below ((Below.refl _ wr).alloc hsz (.cells #[.int .i64 kind, .int .u8 (b.toNat : Int), .bool no, .slice A2 rs.length c2] 72))
        have hnewi := heap_alloc_new wr (.cells #[.int .i64 kind, .int .u8 (b.toNat : Int), .bool no, .slice A2 rs.length c2] 72)
        have hsz0 : wr.heap.size < (wr.alloc (.cells #[.int .i64 kind, .int .u8 (b.toNat : Int), .bool no, .slice A2 rs.length c2] 72)).heap.size := by simp
        clear hmade hb hrg
        go_wp2
        clear g0 g1 g2 g3
        generalize (wr.alloc (.cells #[.int .i64 kind, .int .u8 (b.toNat : Int), .bool no, .slice A2 rs.length c2] 72)) = w0 at hm0 hb0 hrg0 hnewi hsz0 ⊢
        have hgB : g < w0.heap.size := (hm0.2.1.lt g rfl).2
        have cO : w0.cell? ⟨g, ini.length, none⟩ = some u := by
          rw [hm0.2.1.cellAt ini.length (by omega), List.getElem?_append_right (by have := hm0.1; omega), hm0.1, Nat.sub_self]; rfl
        have cI : w0.cell? ⟨wr.heap.size, 0, none⟩ = some (.int .i64 kind) ∧ w0.cell? ⟨wr.heap.size, 1, none⟩ = some (.int .u8 (b.toNat : Int)) ∧ w0.cell? ⟨wr.heap.size, 2, none⟩ = some (.bool no) ∧ w0.cell? ⟨wr.heap.size, 3, none⟩ = some (.slice A2 rs.length c2) := by
          refine ⟨?_, ?_, ?_, ?_⟩ <;> (rw [cell_of_row w0 _ _ _ _ _ hnewi]; rfl)
        refine wp_region_last (L := 11) (S := (fun w' : World => w'.cell? ⟨g, ini.length, none⟩ = some u ∧ w'.cell? ⟨wr.heap.size, 0, none⟩ = some (.int .i64 kind) ∧ w'.cell? ⟨wr.heap.size, 1, none⟩ = some (.int .u8 (b.toNat : Int)) ∧ w'.cell? ⟨wr.heap.size, 2, none⟩ = some (.bool no) ∧ w'.cell? ⟨wr.heap.size, 3, none⟩ = some (.slice A2 rs.length c2))) (by kernel_rfl) ?_
        have hS0 : (fun w' : World => w'.cell? ⟨g, ini.length, none⟩ = some u ∧ w'.cell? ⟨wr.heap.size, 0, none⟩ = some (.int .i64 kind) ∧ w'.cell? ⟨wr.heap.size, 1, none⟩ = some (.int .u8 (b.toNat : Int)) ∧ w'.cell? ⟨wr.heap.size, 2, none⟩ = some (.bool no) ∧ w'.cell? ⟨wr.heap.size, 3, none⟩ = some (.slice A2 rs.length c2)) w0.drew := ⟨cO, cI⟩
        refine wpAnyT_take (i := 0) (v := .slice (some ⟨g, 0, none⟩) (ini.length + 1) cap) rfl (by kernel_rfl) (by kernel_rfl) (by kernel_rfl) (by kernel_rfl) (fun _ _ _ h => h) (Or.inl ⟨by rfl, ?_⟩) hS0 ?_
        · intro W hW
          obtain ⟨k0, k1, k2, k3, k4⟩ := hW
          clear hS0 hi hz0 hz1 hz2 hj hy0 hy1 hy2
          go_simp
          try (intro hx; exfalso; omega)
        simp only [Act.put, List.setIfInBounds_toArray]
        refine wpAnyT_take (i := 1) (v := .int .i64 ini.length) rfl (by kernel_rfl) (by kernel_rfl) (by kernel_rfl) (by kernel_rfl) (fun _ _ _ h => h) (Or.inl ⟨by rfl, ?_⟩) hS0 ?_
        · intro W hW
          obtain ⟨k0, k1, k2, k3, k4⟩ := hW
          clear hS0 hi hz0 hz1 hz2 hj hy0 hy1 hy2
          go_simp
          try (intro hx; exfalso; omega)
        try simp only [Act.put]
        refine wpAnyT_take (i := 2) (v := .slice (some ⟨g, 0, none⟩) (ini.length + 1) cap) rfl (by kernel_rfl) (by kernel_rfl) (by kernel_rfl) (by kernel_rfl) (fun _ _ _ h => h) (Or.inl ⟨by rfl, ?_⟩) hS0 ?_
        · intro W hW
          obtain ⟨k0, k1, k2, k3, k4⟩ := hW
          clear hS0 hi hz0 hz1 hz2 hj hy0 hy1 hy2
          go_simp
          try (intro hx; exfalso; omega)
        try simp only [Act.put]
        refine wpAnyT_take (i := 3) (v := .int .i64 ini.length) rfl (by kernel_rfl) (by kernel_rfl) (by kernel_rfl) (by kernel_rfl) (fun _ _ _ h => h) (Or.inl ⟨by rfl, ?_⟩) hS0 ?_
        · intro W hW
          obtain ⟨k0, k1, k2, k3, k4⟩ := hW
          clear hS0 hi hz0 hz1 hz2 hj hy0 hy1 hy2
          go_simp
          try (intro hx; exfalso; omega)
        try simp only [Act.put]
        refine wpAnyT_take (i := 4) (v := .pointer (some ⟨g, ini.length, none⟩)) rfl (by kernel_rfl) (by kernel_rfl) (by kernel_rfl) (by kernel_rfl) (fun _ _ _ h => h) (Or.inl ⟨by rfl, ?_⟩) hS0 ?_
        · intro W hW
          obtain ⟨k0, k1, k2, k3, k4⟩ := hW
          clear hS0 hi hz0 hz1 hz2 hj hy0 hy1 hy2
          go_simp
          try (intro hx; exfalso; omega)
        try simp only [Act.put]
        refine wpAnyT_take (i := 5) (v := u) rfl (by kernel_rfl) (by kernel_rfl) (by kernel_rfl) (by kernel_rfl) (fun _ _ _ h => h) (Or.inl ⟨by rfl, ?_⟩) hS0 ?_
        · intro W hW
          obtain ⟨k0, k1, k2, k3, k4⟩ := hW
          clear hS0 hi hz0 hz1 hz2 hj hy0 hy1 hy2
          go_simp
          try (intro hx; exfalso; omega)
        try simp only [Act.put]
        refine wpAnyT_take (i := 6) (v := .agg #[.int .i64 kind, .int .u8 (b.toNat : Int), .bool no, .slice A2 rs.length c2]) rfl (by kernel_rfl) (by kernel_rfl) (by kernel_rfl) (by kernel_rfl) (fun _ _ _ h => h) (Or.inl ⟨by rfl, ?_⟩) hS0 ?_
        · intro W hW
          obtain ⟨k0, k1, k2, k3, k4⟩ := hW
          clear hS0 hi hz0 hz1 hz2 hj hy0 hy1 hy2
          go_simp
          try (intro hx; exfalso; omega)
        try simp only [Act.put]
        refine wpAnyT_one (i := 7) rfl (by kernel_rfl) rfl ?_
        go_simp
        refine (fits_any (kind, b, no, rs) (.slice A2 rs.length c2) w.heap.size _ (show Rgs w0.drew w.heap.size _ rs from hrg0) (by show w.heap.size ≤ w0.heap.size; exact hb0.size)).mono ?_
        rintro e w1 ⟨n, hn, hf, rfl, hb1'⟩
        have hb1 : Below w0.heap.size w0 w1 := ((Below.refl _ w0).drew).trans hb1'
        have hS1 : (fun w' : World => w'.cell? ⟨g, ini.length, none⟩ = some u ∧ w'.cell? ⟨wr.heap.size, 0, none⟩ = some (.int .i64 kind) ∧ w'.cell? ⟨wr.heap.size, 1, none⟩ = some (.int .u8 (b.toNat : Int)) ∧ w'.cell? ⟨wr.heap.size, 2, none⟩ = some (.bool no) ∧ w'.cell? ⟨wr.heap.size, 3, none⟩ = some (.slice A2 rs.length c2)) w1 := ⟨(hb1.cell (p := ⟨g, ini.length, none⟩) hgB).trans cO, (hb1.cell (p := ⟨wr.heap.size, 0, none⟩) hsz0).trans cI.1, (hb1.cell (p := ⟨wr.heap.size, 1, none⟩) hsz0).trans cI.2.1, (hb1.cell (p := ⟨wr.heap.size, 2, none⟩) hsz0).trans cI.2.2.1, (hb1.cell (p := ⟨wr.heap.size, 3, none⟩) hsz0).trans cI.2.2.2⟩
        refine ⟨hS1, ?_⟩
        try simp only [Act.put, List.setIfInBounds_toArray, List.set_cons_zero, List.set_cons_succ]
        refine wpAnyT_one (i := 8) rfl (by kernel_rfl) rfl ?_
        go_simp
        have hb2 : Below w0.heap.size w0 (w1.alloc (.cells #[.int .u64 (n 0 : Int), .int .u64 (n 1 : Int), .int .u64 (n 2 : Int), .int .u64 (n 3 : Int)] 120)) := hb1.alloc hb1.size _
        have hm2 := hm0.below hb2
        refine ⟨⟨(hb2.cell (p := ⟨g, ini.length, none⟩) hgB).trans cO, (hb2.cell (p := ⟨wr.heap.size, 0, none⟩) hsz0).trans cI.1, (hb2.cell (p := ⟨wr.heap.size, 1, none⟩) hsz0).trans cI.2.1, (hb2.cell (p := ⟨wr.heap.size, 2, none⟩) hsz0).trans cI.2.2.1, (hb2.cell (p := ⟨wr.heap.size, 3, none⟩) hsz0).trans cI.2.2.2⟩, ?_⟩
        refine wpAnyT_one (i := 9) rfl (by kernel_rfl) rfl ?_
        refine wp_append_lies _ (.tmp 28) (.tmp 31) 117 rfl w.heap.size 120 j0 _ 4 32 Tryd.underlying117 hj hy0 hy1 hy2 rfl (by decide) u last.length (cellsSets last) rfl hm2.2.2.2.1 ⟨w1.heap.size, 0, none⟩ 1 1 (cellsSt n) rfl rfl (new_cells w1 #[.int .u64 (n 0 : Int), .int .u64 (n 1 : Int), .int .u64 (n 2 : Int), .int .u64 (n 3 : Int)] _) (by simp [cellsSt, Value.oneCell']) (by decide) (by simp only [maxLen]; omega) (by omega) (by have := hb2.size; have := hb0.size; omega) (w1.heap.size + 1) (by simp) ?_
        intro gg cap3 w3 hown3 hgrow hat _
        have hm3 := rowsMade_item hm2 hown3 hgrow (hat.imp id (fun h => by simpa using h))
        obtain ⟨cur, hgo⟩ := own_heap hm2.2.1
        have hgne := own_ne_block2 hm2.2.2.2.1 hgo (by decide)
        have hine := own_ne_block2 hm2.2.2.2.1 ((hb2.block _ hsz0).trans hnewi) (by decide)
        have hO3 := (hgrow.block g (Nat.lt_of_lt_of_le hgB hb2.size) hgne).trans hgo
        have hI3 := (hgrow.block wr.heap.size (Nat.lt_of_lt_of_le hsz0 hb2.size) hine).trans ((hb2.block _ hsz0).trans hnewi)
        have cO3 : w3.cell? ⟨g, ini.length, none⟩ = some u := by
          rw [cell_of_row w3 _ _ _ _ _ hO3, ← cell_of_row _ g ini.length _ _ _ hgo]
          exact (hb2.cell (p := ⟨g, ini.length, none⟩) hgB).trans cO
        have cI3 : w3.cell? ⟨wr.heap.size, 0, none⟩ = some (.int .i64 kind) ∧ w3.cell? ⟨wr.heap.size, 1, none⟩ = some (.int .u8 (b.toNat : Int)) ∧ w3.cell? ⟨wr.heap.size, 2, none⟩ = some (.bool no) ∧ w3.cell? ⟨wr.heap.size, 3, none⟩ = some (.slice A2 rs.length c2) := by
          refine ⟨?_, ?_, ?_, ?_⟩ <;> (rw [cell_of_row w3 _ _ _ _ _ hI3]; rfl)
        have fO3 : w3.frozen? ⟨g, ini.length, none⟩ = false := frozen_of_row w3 _ _ _ _ hO3
        have hb3 : Below w.heap.size w w3 := ((hb0.trans (hb2.mono hb0.size))).grown hgrow (by have := hb2.size; have := hb0.size; omega) (fun g h => (hm2.2.2.2.1.lt g h).1)
        have hgw : w.heap.size ≤ g := (hm2.2.1.lt g rfl).1
        have hb4 : Below w.heap.size w (w3.setCell ⟨g, ini.length, none⟩ (.slice (some ⟨gg, 0, none⟩) (last.length + 1) cap3)) := hb3.setCell (p := ⟨g, ini.length, none⟩) hgw _
        have hsays := Lib.hid (hit2.out n hn hf)
        have hS3 : (fun w' : World => w'.cell? ⟨g, ini.length, none⟩ = some u ∧ w'.cell? ⟨wr.heap.size, 0, none⟩ = some (.int .i64 kind) ∧ w'.cell? ⟨wr.heap.size, 1, none⟩ = some (.int .u8 (b.toNat : Int)) ∧ w'.cell? ⟨wr.heap.size, 2, none⟩ = some (.bool no) ∧ w'.cell? ⟨wr.heap.size, 3, none⟩ = some (.slice A2 rs.length c2)) w3 := ⟨cO3, cI3⟩
        refine ⟨fun _ => ⟨cO3, cI3⟩, ?_⟩
        try simp only [Act.put, List.setIfInBounds_toArray]
        clear hS0 hS1 hb1 hb1' hb2 hm2 hown3 hgrow hat hgo hgne hine hO3 hI3 hb3 cO cI hf hn hit2 hm0 hb0 hrg0 hnewi
        refine wpAnyT_take (i := 10) (v := .pointer (some ⟨g, ini.length, none⟩)) rfl (by kernel_rfl) (by kernel_rfl) (by kernel_rfl) (by kernel_rfl) (fun _ _ _ h => h) (Or.inl ⟨by rfl, ?_⟩) hS3 ?_
        · intro W hW
          obtain ⟨k0, k1, k2, k3, k4⟩ := hW
          clear hS3 hi hz0 hz1 hz2 hj hy0 hy1 hy2
          go_simp
          try (intro hx; exfalso; omega)
        try simp only [Act.put]
        refine wpAnyT_one (i := 11) rfl (by kernel_rfl) rfl ?_
        clear hS3 hi hz0 hz1 hz2 hj hy0 hy1 hy2
        go_simp
        refine wpAnyT_done (by kernel_rfl) ?_ _
        clear cO3 cI3 fO3
        generalize w3.setCell ⟨g, ini.length, none⟩ (.slice (some ⟨gg, 0, none⟩) (last.length + 1) cap3) = w4 at hm3 hb4
        go_wp2
        go_roundw
        case rel => exact ⟨k + 1, ini, ivs, last ++ [n], _, by omega, by go_num, hb4, hm3, by omega, by simp; omega, hsays⟩
        case measure => simp [intOf]; omega
    · go_wp2
      go_ret
      refine ⟨_, _, _, _, _, rfl, hmade, ?_, hb⟩
      have := hs.out
      rwa [List.take_of_length_le (by omega)] at this
theorem rows_any (p : List It) (v : Value) (B : Nat) (w : World) (ht : Its w B v p) (hB : B ≤ w.heap.size) (hl : p.length ≤ 1000000) :
    Calls Tryd.prog 56 #[v] w fun e w' => ∃ v' ls, e = .returned v' ∧ Rws w' w'.heap.size v' ls ∧ SaysRows ls (rowsP p) ∧ Below w.heap.size w w' :=
  (rows_made p v B w ht hB hl).mono fun _ _ ⟨v', _, _, _, _, he, hm, hs, hb⟩ => ⟨v', _, he, hm.read, hs, hb⟩
end Go.Proofs.YtmoihdddmeienaaDoor
