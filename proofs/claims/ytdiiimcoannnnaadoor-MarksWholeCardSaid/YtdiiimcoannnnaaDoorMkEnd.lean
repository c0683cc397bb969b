/-
  The closure of marks.Runs: one run more, and the start of the next one. Conditions: the three captured variables lie in blocks of their own; at most a million bytes.
-/
import Derived.Test.YtdiiimcoannnnaaDoorMkRunL
import Derived.Test.YtdiiimcoannnnaaDoorMkTexts
import Derived.Test.YtdiiimcoannnnaaDoorMkPart
import Derived.Test.YtdiiimcoannnnaaDoorMkLast
import Derived.Deep.RegionHeld3
namespace Go.Proofs.YtdiiimcoannnnaaDoor
open Go Go.RowKit

theorem infoRn : (Tryd.prog.info? 34).map (fun i => (i.zero, i.size, i.bytes)) = some (some (.agg #[.string ⟨#[]⟩, .bool false]), 2, 24) := by kernel_rfl

theorem own_ne_block {w : World} {base : Nat} {e t : TypeId} {size n g : Nat} {v : Value} {xs : List Value} {cs : Array Value} {fr : Nat × Nat} (h : w.ownsRow base e size v n xs) (hg : w.heap[g]? = some (.cells cs t fr)) (hne : t ≠ e) : some g ≠ v.ownBlock := by
  rcases h.2 with ⟨rfl, _⟩ | ⟨g', cap, cur, rfl, _, hg', _⟩
  · simp [Value.ownBlock]
  · intro he
    have : g = g' := by simpa [Value.ownBlock] using he
    subst this
    rw [hg] at hg'
    injection hg' with hg'
    injection hg' with _ ht
    exact hne ht
theorem block_ne {w : World} {g g' : Nat} {cs cs' : Array Value} {t t' : TypeId} {fr fr' : Nat × Nat} (h : w.heap[g]? = some (.cells cs t fr)) (h' : w.heap[g']? = some (.cells cs' t' fr')) (hne : t ≠ t') : g ≠ g' := by
  rintro rfl
  rw [h] at h'
  injection h' with h'
  injection h' with _ ht
  exact hne ht

/-- What the closure leaves. -/
def EndPost (l : List Ch) (A : Option Addr) (c : Nat) (rs : List Rn) (gO gT gS a stop base B : Nat) (w : World) (e : Ending) (w' : World) : Prop :=
  e = .returned (.tuple #[]) ∧ ∃ o', w'.heap[gO]? = some (.cells #[o'] 29 (0, 0)) ∧ w'.heap[gT]? = some (.cells #[.slice A l.length c] 22 (0, 0)) ∧ w'.heap[gS]? = some (.cells #[.int .i64 stop] 3 (0, 0)) ∧
    w'.ownsRow base 34 2 o' (rs ++ [runOf (seg l a stop)]).length (cellsRn (rs ++ [runOf (seg l a stop)])) ∧ Below B w w'

set_option maxHeartbeats 2000000 in
set_option maxRecDepth 100000 in
theorem end_any (l : List Ch) (A : Option Addr) (c : Nat) (o : Value) (rs : List Rn) (gO gT gS a stop base B : Nat) (w : World)
    (hO : w.heap[gO]? = some (.cells #[o] 29 (0, 0))) (hT : w.heap[gT]? = some (.cells #[.slice A l.length c] 22 (0, 0))) (hS : w.heap[gS]? = some (.cells #[.int .i64 a] 3 (0, 0)))
    (hown : w.ownsRow base 34 2 o rs.length (cellsRn rs)) (ht : Tx w B (.slice A l.length c) l) (has : a < stop) (hsl : stop ≤ l.length)
    (hBO : B ≤ gO) (hBS : B ≤ gS) (hBb : B ≤ base) (hbw : base ≤ w.heap.size) (hl : l.length ≤ 1000000) (hr : rs.length ≤ 1000000) :
    Calls Tryd.prog 35 #[.int .i64 stop, .pointer (some ⟨gO, 0, none⟩), .pointer (some ⟨gT, 0, none⟩), .pointer (some ⟨gS, 0, none⟩)] w (EndPost l A c rs gO gT gS a stop base B w) := by
  obtain ⟨i0, hi, hz0, hz1, hz2⟩ := info_parts infoRn
  have ltO : gO < w.heap.size := (Array.getElem?_eq_some_iff.1 hO).1
  have ltT : gT < w.heap.size := (Array.getElem?_eq_some_iff.1 hT).1
  have ltS : gS < w.heap.size := (Array.getElem?_eq_some_iff.1 hS).1
  have cO : w.cell? ⟨gO, 0, none⟩ = some o := by rw [cell_of_row w _ _ _ _ _ hO]; rfl
  have cT : w.cell? ⟨gT, 0, none⟩ = some (.slice A l.length c) := by rw [cell_of_row w _ _ _ _ _ hT]; rfl
  have cS : w.cell? ⟨gS, 0, none⟩ = some (.int .i64 a) := by rw [cell_of_row w _ _ _ _ _ hS]; rfl
  obtain ⟨blk, off, rfl, hblk, _, f1⟩ := ht.at_ (k := a) (by omega)
  obtain ⟨v1, hr1, ht1⟩ := cut_lh elemCh sizeCh ht (lo := a) (hi := stop) (by omega) hsl
  have hseg : Tx w B v1 (seg l a stop) := ht1
  have hhead := headQ_seg (l := l) has hsl
  have hal : ¬ l.length ≤ a := by omega
  have hal2 : (a : Int) < (l.length : Int) := by omega
  have hsl2 := seg_length (l := l) (a := a) hsl
  clear ht1
  generalize l[a].2 = q at f1 hhead
  have ltb : blk < w.heap.size := World.block_lt_of_cell? w _ f1
  go_enter Tryd.func35, Tryd.ntmps35
  go_wp2_with fail
  refine wp_region_last (L := 14) (S := fun w' => w'.cell? ⟨gO, 0, none⟩ = some o ∧ w'.cell? ⟨gT, 0, none⟩ = some (.slice (some ⟨blk, off, none⟩) l.length c) ∧ w'.cell? ⟨gS, 0, none⟩ = some (.int .i64 a) ∧ w'.cell? ⟨blk, off + a * 2 + 1, none⟩ = some (.bool q)) (by kernel_rfl) ?_
  have hS0 : (fun w' : World => w'.cell? ⟨gO, 0, none⟩ = some o ∧ w'.cell? ⟨gT, 0, none⟩ = some (.slice (some ⟨blk, off, none⟩) l.length c) ∧ w'.cell? ⟨gS, 0, none⟩ = some (.int .i64 a) ∧ w'.cell? ⟨blk, off + a * 2 + 1, none⟩ = some (.bool q)) w.drew := ⟨cO, cT, cS, f1⟩
  refine wpAnyT_take (i := 0) (v := o) rfl (by kernel_rfl) (by kernel_rfl) (by kernel_rfl) (by kernel_rfl) (fun _ _ _ h => h) (Or.inl ⟨by rfl, ?_⟩) hS0 ?_
  · intro W hW
    obtain ⟨k0, k1, k2, k3⟩ := hW
    clear hS0 hi hz0 hz1 hz2
    go_simp
  simp only [Act.put, List.setIfInBounds_toArray]
  refine wpAnyT_take (i := 1) (v := .slice (some ⟨blk, off, none⟩) l.length c) rfl (by kernel_rfl) (by kernel_rfl) (by kernel_rfl) (by kernel_rfl) (fun _ _ _ h => h) (Or.inl ⟨by rfl, ?_⟩) hS0 ?_
  · intro W hW
    obtain ⟨k0, k1, k2, k3⟩ := hW
    clear hS0 hi hz0 hz1 hz2
    go_simp
  simp only [Act.put]
  refine wpAnyT_take (i := 2) (v := .int .i64 a) rfl (by kernel_rfl) (by kernel_rfl) (by kernel_rfl) (by kernel_rfl) (fun _ _ _ h => h) (Or.inl ⟨by rfl, ?_⟩) hS0 ?_
  · intro W hW
    obtain ⟨k0, k1, k2, k3⟩ := hW
    clear hS0 hi hz0 hz1 hz2
    go_simp
  simp only [Act.put]
  refine wpAnyT_take (i := 3) (v := .int .i64 stop) rfl (by kernel_rfl) (by kernel_rfl) (by kernel_rfl) (by kernel_rfl) (fun _ _ _ h => h) (Or.inl ⟨by rfl, ?_⟩) hS0 ?_
  · intro W hW
    obtain ⟨k0, k1, k2, k3⟩ := hW
    clear hS0 hi hz0 hz1 hz2
    go_simp
  simp only [Act.put]
  refine wpAnyT_take (i := 4) (v := v1) rfl (by kernel_rfl) (by kernel_rfl) (by kernel_rfl) (by kernel_rfl) (fun _ _ _ h => h) (Or.inl ⟨by rfl, ?_⟩) hS0 ?_
  · intro W hW
    obtain ⟨k0, k1, k2, k3⟩ := hW
    clear hS0 hi hz0 hz1 hz2
    go_simp
  simp only [Act.put]
  refine wpAnyT_take (i := 6) (v := .slice (some ⟨blk, off, none⟩) l.length c) rfl (by kernel_rfl) (by kernel_rfl) (by kernel_rfl) (by kernel_rfl) (fun _ _ _ h => h) (Or.inl ⟨by rfl, ?_⟩) hS0 ?_
  · intro W hW
    obtain ⟨k0, k1, k2, k3⟩ := hW
    clear hS0 hi hz0 hz1 hz2
    go_simp
  simp only [Act.put]
  refine wpAnyT_take (i := 7) (v := .int .i64 a) rfl (by kernel_rfl) (by kernel_rfl) (by kernel_rfl) (by kernel_rfl) (fun _ _ _ h => h) (Or.inl ⟨by rfl, ?_⟩) hS0 ?_
  · intro W hW
    obtain ⟨k0, k1, k2, k3⟩ := hW
    clear hS0 hi hz0 hz1 hz2
    go_simp
  simp only [Act.put]
  refine wpAnyT_take (i := 8) (v := .pointer (some ⟨blk, off + a * 2, none⟩)) rfl (by kernel_rfl) (by kernel_rfl) (by kernel_rfl) (by kernel_rfl) (fun _ _ _ h => h) (Or.inl ⟨by rfl, ?_⟩) hS0 ?_
  · intro W hW
    obtain ⟨k0, k1, k2, k3⟩ := hW
    clear hS0 hi hz0 hz1 hz2
    go_simp
  simp only [Act.put]
  refine wpAnyT_take (i := 9) (v := .pointer (some ⟨blk, off + a * 2 + 1, none⟩)) rfl (by kernel_rfl) (by kernel_rfl) (by kernel_rfl) (by kernel_rfl) (fun _ _ _ h => h) (Or.inl ⟨by rfl, ?_⟩) hS0 ?_
  · intro W hW
    obtain ⟨k0, k1, k2, k3⟩ := hW
    clear hS0 hi hz0 hz1 hz2
    go_simp
  simp only [Act.put]
  refine wpAnyT_take (i := 10) (v := .bool q) rfl (by kernel_rfl) (by kernel_rfl) (by kernel_rfl) (by kernel_rfl) (fun _ _ _ h => h) (Or.inl ⟨by rfl, ?_⟩) hS0 ?_
  · intro W hW
    obtain ⟨k0, k1, k2, k3⟩ := hW
    clear hS0 hi hz0 hz1 hz2
    go_simp
  simp only [Act.put]
  refine wpAnyT_one (i := 5) rfl (by kernel_rfl) rfl ?_
  go_simp
  refine (plain_any (seg l a stop) v1 B _ (show Tx w.drew B v1 (seg l a stop) from hseg) (by show B ≤ w.heap.size; omega) (by omega)).mono ?_
  rintro e w1 ⟨rfl, hb1'⟩
  have hb1 : Below w.heap.size w w1 := ((Below.refl _ w).drew).trans hb1'
  have hS1 : (fun w' : World => w'.cell? ⟨gO, 0, none⟩ = some o ∧ w'.cell? ⟨gT, 0, none⟩ = some (.slice (some ⟨blk, off, none⟩) l.length c) ∧ w'.cell? ⟨gS, 0, none⟩ = some (.int .i64 a) ∧ w'.cell? ⟨blk, off + a * 2 + 1, none⟩ = some (.bool q)) w1 :=
    ⟨(hb1.cell (p := ⟨gO, 0, none⟩) ltO).trans cO, (hb1.cell (p := ⟨gT, 0, none⟩) ltT).trans cT, (hb1.cell (p := ⟨gS, 0, none⟩) ltS).trans cS, (hb1.cell (p := ⟨blk, off + a * 2 + 1, none⟩) ltb).trans f1⟩
  refine ⟨hS1, ?_⟩
  try simp only [Act.put, List.setIfInBounds_toArray, List.set_cons_zero, List.set_cons_succ]
  refine wpAnyT_take (i := 11) (v := .agg #[.string (plainS (seg l a stop)), .bool q]) rfl (by kernel_rfl) (by kernel_rfl) (by kernel_rfl) (by kernel_rfl) (fun _ _ _ h => h) (Or.inl ⟨by rfl, ?_⟩) hS1 ?_
  · intro W hW
    obtain ⟨k0, k1, k2, k3⟩ := hW
    clear hS1 hS0 hi hz0 hz1 hz2
    go_simp
  try simp only [Act.put, List.setIfInBounds_toArray]
  refine wpAnyT_one (i := 12) rfl (by kernel_rfl) rfl ?_
  go_simp
  have hb2 : Below w.heap.size w (w1.alloc (.cells #[.string (plainS (seg l a stop)), .bool q] 34)) := hb1.alloc hb1.size _
  have hown2 := own_below hown hb2
  have hO2 := (hb2.block gO ltO).trans hO
  have hT2 := (hb2.block gT ltT).trans hT
  have hS2 := (hb2.block gS ltS).trans hS
  refine ⟨⟨(hb2.cell (p := ⟨gO, 0, none⟩) ltO).trans cO, (hb2.cell (p := ⟨gT, 0, none⟩) ltT).trans cT, (hb2.cell (p := ⟨gS, 0, none⟩) ltS).trans cS, (hb2.cell (p := ⟨blk, off + a * 2 + 1, none⟩) ltb).trans f1⟩, ?_⟩
  refine wpAnyT_one (i := 13) rfl (by kernel_rfl) rfl ?_
  refine wp_append_lies _ (.tmp 5) (.tmp 17) 29 rfl base 34 i0 _ 2 24 Tryd.underlying29 hi hz0 hz1 hz2 rfl (by decide) o rs.length (cellsRn rs) rfl hown2 ⟨w1.heap.size, 0, none⟩ 1 1 [.string (plainS (seg l a stop)), .bool q] rfl rfl (new_cells w1 #[.string (plainS (seg l a stop)), .bool q] _) (by simp [Value.oneCell']) (by decide) (by simp only [maxLen]; omega) (by omega) (by have := hb2.size; omega) (w1.heap.size + 1) (by simp) ?_
  intro gg cap w3 hown3 hgrow _ _
  have lt2 : w.heap.size ≤ (w1.alloc (.cells #[.string (plainS (seg l a stop)), .bool q] 34)).heap.size := hb2.size
  have hO3 := (hgrow.block gO (Nat.lt_of_lt_of_le ltO lt2) (own_ne_block hown2 hO2 (by decide))).trans hO2
  have hT3 := (hgrow.block gT (Nat.lt_of_lt_of_le ltT lt2) (own_ne_block hown2 hT2 (by decide))).trans hT2
  have hS3 := (hgrow.block gS (Nat.lt_of_lt_of_le ltS lt2) (own_ne_block hown2 hS2 (by decide))).trans hS2
  have hb3 : Below B w w3 := (hb2.mono (by omega)).grown hgrow (by omega) (fun g h => Nat.le_trans hBb (hown2.lt g h).1)
  have cO3 : w3.cell? ⟨gO, 0, none⟩ = some o := by rw [cell_of_row w3 _ _ _ _ _ hO3]; rfl
  have cT3 : w3.cell? ⟨gT, 0, none⟩ = some (.slice (some ⟨blk, off, none⟩) l.length c) := by rw [cell_of_row w3 _ _ _ _ _ hT3]; rfl
  have cS3 : w3.cell? ⟨gS, 0, none⟩ = some (.int .i64 a) := by rw [cell_of_row w3 _ _ _ _ _ hS3]; rfl
  have fO3 : w3.frozen? ⟨gO, 0, none⟩ = false := frozen_of_row w3 _ _ _ _ hO3
  refine ⟨fun _ => ⟨cO3, cT3, cS3, (hb3.cell (p := ⟨blk, off + a * 2 + 1, none⟩) hblk).trans f1⟩, ?_⟩
  try simp only [Act.put, List.setIfInBounds_toArray]
  refine wpAnyT_one (i := 14) rfl (by kernel_rfl) rfl ?_
  have neOS : gO ≠ gS := block_ne hO hS (by decide)
  have neOT : gO ≠ gT := block_ne hO hT (by decide)
  have neST : gS ≠ gT := block_ne hS hT (by decide)
  clear hS0 hS1 hO2 hT2 hS2 hown2 hb2 hb1' hb1 hgrow hown lt2 cO cT cS f1 hi hz0 hz1 hz2 hr1
  go_simp
  refine wpAnyT_done (by kernel_rfl) ?_ _
  have hO4 := heap_setCell_same w3 gO 0 _ _ (.slice (some ⟨gg, 0, none⟩) (rs.length + 1) cap) hO3
  have hS4 := (heap_setCell_other w3 ⟨gO, 0, none⟩ gS (.slice (some ⟨gg, 0, none⟩) (rs.length + 1) cap) (fun h => neOS h.symm)).trans hS3
  have hT4 := (heap_setCell_other w3 ⟨gO, 0, none⟩ gT (.slice (some ⟨gg, 0, none⟩) (rs.length + 1) cap) (fun h => neOT h.symm)).trans hT3
  have hown4 : (w3.setCell ⟨gO, 0, none⟩ (.slice (some ⟨gg, 0, none⟩) (rs.length + 1) cap)).ownsRow base 34 2 (.slice (some ⟨gg, 0, none⟩) (rs.length + 1) cap) (rs.length + 1) (cellsRn rs ++ [.string (plainS (seg l a stop)), .bool q]) :=
    hown3.kept (row := some gO) ⟨rfl, rfl, rfl, by simp [World.setCell], fun k _ hk => heap_setCell_other _ _ _ _ (fun e => hk (by rw [e]))⟩ (.inr (fun h => own_ne_block hown3 hO3 (by decide) h.symm))
  have hb4 : Below B w (w3.setCell ⟨gO, 0, none⟩ (.slice (some ⟨gg, 0, none⟩) (rs.length + 1) cap)) := hb3.setCell (p := ⟨gO, 0, none⟩) hBO _
  clear hO3 hS3 hT3 hown3 hb3 cO3 cT3 cS3 fO3
  generalize w3.setCell ⟨gO, 0, none⟩ (.slice (some ⟨gg, 0, none⟩) (rs.length + 1) cap) = w4 at hO4 hS4 hT4 hown4 hb4
  have cS4 : w4.cell? ⟨gS, 0, none⟩ = some (.int .i64 a) := by rw [cell_of_row w4 _ _ _ _ _ hS4]; rfl
  have fS4 : w4.frozen? ⟨gS, 0, none⟩ = false := frozen_of_row w4 _ _ _ _ hS4
  have hO5 := (heap_setCell_other w4 ⟨gS, 0, none⟩ gO (.int .i64 stop) neOS).trans hO4
  have hT5 := (heap_setCell_other w4 ⟨gS, 0, none⟩ gT (.int .i64 stop) (fun h => neST h.symm)).trans hT4
  have hS5 := heap_setCell_same w4 gS 0 _ _ (.int .i64 stop) hS4
  have hown5 : (w4.setCell ⟨gS, 0, none⟩ (.int .i64 stop)).ownsRow base 34 2 (.slice (some ⟨gg, 0, none⟩) (rs.length + 1) cap) (rs.length + 1) (cellsRn rs ++ [.string (plainS (seg l a stop)), .bool q]) :=
    hown4.kept (row := some gS) ⟨rfl, rfl, rfl, by simp [World.setCell], fun k _ hk => heap_setCell_other _ _ _ _ (fun e => hk (by rw [e]))⟩ (.inr (fun h => own_ne_block hown4 hS4 (by decide) h.symm))
  have hb5 : Below B w (w4.setCell ⟨gS, 0, none⟩ (.int .i64 stop)) := hb4.setCell (p := ⟨gS, 0, none⟩) hBS _
  have hcells : cellsRn rs ++ [.string (plainS (seg l a stop)), .bool q] = cellsRn (rs ++ [runOf (seg l a stop)]) := by
    rw [cellsRn_append, ← hhead]; rfl
  rw [hcells] at hown5
  have hlen : rs.length + 1 = (rs ++ [runOf (seg l a stop)]).length := by simp
  go_wp2
  go_end0
  refine ⟨rfl, _, hO5, hT5, hS5, ?_, hb5⟩
  rw [← hlen]
  exact hown5
end Go.Proofs.YtdiiimcoannnnaaDoor
