/-
  fits makes the set of the bytes that an item fits. Conditions: the item's ranges lie in memory that was there.
-/
import Derived.Test.YtmoihdddmeienaaDoorGbIts
namespace Go.Proofs.YtmoihdddmeienaaDoor
open Go Go.RowKit

def zeroSt : St := fun _ => 0
theorem okSt_zero : okSt zeroSt := fun _ => by unfold zeroSt; omega
theorem hasS_zero (c : UInt8) : hasS zeroSt c = false := by simp [hasS, zeroSt]
theorem inR_snoc (l : List Rg) (k : Nat) (h : k < l.length) (c : UInt8) : inR (l.take (k + 1)) c = (inR (l.take k) c || (decide (l[k].1.toNat ≤ c.toNat) && decide (c.toNat ≤ l[k].2.toNat))) := by
  rw [List.take_succ_eq_append_getElem h]; simp only [inR, List.any_append, List.any_cons, List.any_nil, Bool.or_false]

/-- The three blocks of fits: the item's, the result's and the set's. -/
def FitW (w wr : World) (cs : Array Value) (n : St) : Prop :=
  wr.heap[w.heap.size]? = some (.cells cs 72 (0, 0)) ∧ wr.heap[w.heap.size + 1]? = some (.cells #[.int .u64 0, .int .u64 0, .int .u64 0, .int .u64 0] 120 (0, 0)) ∧ setAt wr (w.heap.size + 1 + 1) n ∧ Below w.heap.size w wr
theorem fitW_new (w : World) (cs : Array Value) : FitW w (((w.alloc (.cells cs 72)).alloc (.cells #[.int .u64 0, .int .u64 0, .int .u64 0, .int .u64 0] 120)).alloc (.cells #[.int .u64 0, .int .u64 0, .int .u64 0, .int .u64 0] 120)) cs zeroSt := by
  refine ⟨?_, ?_, ?_, ?_⟩
  · rw [Below.heap_alloc _ _ _ (by simp; omega), Below.heap_alloc _ _ _ (by simp)]
    exact heap_alloc_new w _
  · rw [Below.heap_alloc _ _ _ (by simp)]
    have := heap_alloc_new (w.alloc (.cells cs 72)) (.cells #[.int .u64 0, .int .u64 0, .int .u64 0, .int .u64 0] 120)
    rw [World.size_alloc] at this
    exact this
  · have := heap_alloc_new ((w.alloc (.cells cs 72)).alloc (.cells #[.int .u64 0, .int .u64 0, .int .u64 0, .int .u64 0] 120)) (.cells #[.int .u64 0, .int .u64 0, .int .u64 0, .int .u64 0] 120)
    rw [World.size_alloc, World.size_alloc] at this
    exact this
  · exact (((Below.refl _ w).alloc (Nat.le_refl _) _).alloc (by simp) _).alloc (by simp; omega) _
theorem fitW_next {w wr w1 : World} {cs : Array Value} {n n' : St} (h : FitW w wr cs n) (hs : setAt w1 (w.heap.size + 1 + 1) n') (hb : Below (w.heap.size + 1 + 1) wr w1) : FitW w w1 cs n' := by
  obtain ⟨h1, h2, _, h4⟩ := h
  exact ⟨(hb.block _ (by omega)).trans h1, (hb.block _ (by omega)).trans h2, hs, h4.trans (hb.mono (by omega))⟩
theorem fit_single (b : UInt8) (no : Bool) (rs : List Rg) (c : UInt8) : (hasS zeroSt c || (decide (b.toNat ≤ c.toNat) && decide (c.toNat ≤ b.toNat))) = fit (1, b, no, rs) c := by
  rw [hasS_zero, Bool.false_or]
  simp only [fit, if_true]
  rw [Bool.eq_iff_iff, Bool.and_eq_true, decide_eq_true_eq, decide_eq_true_eq, beq_iff_eq]
  constructor
  · intro h; exact UInt8.toNat.inj (by omega)
  · intro h; subst h; omega

theorem fits_end {w w1 : World} {n : St} (h : Below w.heap.size w w1) : Below w.heap.size w ((((w1.setCell ⟨w.heap.size + 1, 0, none⟩ (.int .u64 (n 0 : Int))).setCell ⟨w.heap.size + 1, 1, none⟩ (.int .u64 (n 1 : Int))).setCell ⟨w.heap.size + 1, 2, none⟩ (.int .u64 (n 2 : Int))).setCell ⟨w.heap.size + 1, 3, none⟩ (.int .u64 (n 3 : Int))) :=
  (((h.setCell (p := ⟨w.heap.size + 1, 0, none⟩) (by simp) _).setCell (p := ⟨w.heap.size + 1, 1, none⟩) (by simp) _).setCell (p := ⟨w.heap.size + 1, 2, none⟩) (by simp) _).setCell (p := ⟨w.heap.size + 1, 3, none⟩) (by simp) _

theorem fits_cells {w w1 : World} {n : St} (g2 : w1.heap[w.heap.size + 1]? = some (.cells #[.int .u64 0, .int .u64 0, .int .u64 0, .int .u64 0] 120 (0, 0))) :
    let w9 := ((((w1.setCell ⟨w.heap.size + 1, 0, none⟩ (.int .u64 (n 0 : Int))).setCell ⟨w.heap.size + 1, 1, none⟩ (.int .u64 (n 1 : Int))).setCell ⟨w.heap.size + 1, 2, none⟩ (.int .u64 (n 2 : Int))).setCell ⟨w.heap.size + 1, 3, none⟩ (.int .u64 (n 3 : Int)))
    w9.cell? ⟨w.heap.size + 1, 0, none⟩ = some (.int .u64 (n 0 : Int)) ∧ w9.cell? ⟨w.heap.size + 1, 1, none⟩ = some (.int .u64 (n 1 : Int)) ∧ w9.cell? ⟨w.heap.size + 1, 2, none⟩ = some (.int .u64 (n 2 : Int)) ∧ w9.cell? ⟨w.heap.size + 1, 3, none⟩ = some (.int .u64 (n 3 : Int)) := by
  have h1 := heap_setCell_same _ _ 0 _ _ (.int .u64 (n 0 : Int)) g2
  have h2 := heap_setCell_same _ _ 1 _ _ (.int .u64 (n 1 : Int)) h1
  have h3 := heap_setCell_same _ _ 2 _ _ (.int .u64 (n 2 : Int)) h2
  have h4 := heap_setCell_same _ _ 3 _ _ (.int .u64 (n 3 : Int)) h3
  refine ⟨?_, ?_, ?_, ?_⟩ <;> (rw [cell_of_row _ _ _ _ _ _ h4]; rfl)

set_option maxHeartbeats 1000000 in
set_option maxRecDepth 100000 in
theorem fits_any (x : It) (u : Value) (B : Nat) (w : World) (hu : Rgs w B u x.2.2.2) (hB : B ≤ w.heap.size) :
    Calls Tryd.prog 76 #[.agg #[.int .i64 x.1, .int .u8 (x.2.1.toNat : Int), .bool x.2.2.1, u]] w fun e w' => ∃ n, okSt n ∧ (∀ c, hasS n c = fit x c) ∧ e = .returned (.agg #[.int .u64 (n 0 : Int), .int .u64 (n 1 : Int), .int .u64 (n 2 : Int), .int .u64 (n 3 : Int)]) ∧ Below w.heap.size w w' := by
  obtain ⟨kind, b, no, rs⟩ := x
  obtain ⟨A, c, rfl, hc, hcm⟩ := hu.form
  unfold maxLen at hcm
  simp only at hu hc
  have hW := fitW_new w #[.int .i64 kind, .int .u8 (b.toNat : Int), .bool no, .slice A rs.length c]
  go_enter Tryd.func76, Tryd.ntmps76
  by_cases h1 : kind = 1
  · subst h1
    go_wp2_with fail
    refine (add_any zeroSt okSt_zero b b _ _ hW.2.2.1).mono ?_
    rintro e w1 ⟨rfl, n, hn, hf, hs, hb⟩
    have hW1 := fitW_next hW hs hb
    have hF := Lib.hid (fun c => (hf c).trans (fit_single b no rs c))
    clear hW hs hb hf
    obtain ⟨_, g2, g3, hbb⟩ := hW1
    have c0 := setAt_cell g3 0 (by decide)
    have c1 := setAt_cell g3 1 (by decide)
    have c2 := setAt_cell g3 2 (by decide)
    have c3 := setAt_cell g3 3 (by decide)
    have r0 : w1.cell? ⟨w.heap.size + 1, 0, none⟩ = some (.int .u64 0) := by rw [cell_of_row w1 _ _ _ _ _ g2]; rfl
    have r1 : w1.cell? ⟨w.heap.size + 1, 1, none⟩ = some (.int .u64 0) := by rw [cell_of_row w1 _ _ _ _ _ g2]; rfl
    have r2 : w1.cell? ⟨w.heap.size + 1, 2, none⟩ = some (.int .u64 0) := by rw [cell_of_row w1 _ _ _ _ _ g2]; rfl
    have r3 : w1.cell? ⟨w.heap.size + 1, 3, none⟩ = some (.int .u64 0) := by rw [cell_of_row w1 _ _ _ _ _ g2]; rfl
    have f0 : ∀ k, w1.frozen? ⟨w.heap.size + 1, k, none⟩ = false := fun k => frozen_of_row w1 _ _ _ _ g2
    have hend := fits_end (n := n) hbb
    have hcell := fits_cells (n := n) g2
    clear g2 g3 hbb
    go_wp2
    clear r0 r1 r2 r3 c0 c1 c2 c3 f0
    generalize World.setCell (World.setCell _ _ _) _ _ = w9 at hend hcell ⊢
    obtain ⟨e0, e1, e2, e3⟩ := hcell
    exact bodyPost_ret (v := .agg #[.int .u64 (n 0 : Int), .int .u64 (n 1 : Int), .int .u64 (n 2 : Int), .int .u64 (n 3 : Int)]) (by simp [results, Tryd.results76, go_sem, e0, e1, e2, e3]) rfl ⟨n, hn, hF.out, rfl, hend⟩
  · by_cases h2 : kind = 2
    · subst h2
      go_wp2_with fail
      refine (turn_any zeroSt okSt_zero _ _ hW.2.2.1).mono ?_
      rintro e w1 ⟨rfl, n, hn, hf, hs, hb⟩
      have hW1 := fitW_next hW hs hb
      have hF : Hid (∀ c, hasS n c = fit (2, b, no, rs) c) := fun c => by rw [hf c, hasS_zero]; simp [fit]
      clear hW hs hb hf
      obtain ⟨_, g2, g3, hbb⟩ := hW1
      have c0 := setAt_cell g3 0 (by decide)
      have c1 := setAt_cell g3 1 (by decide)
      have c2 := setAt_cell g3 2 (by decide)
      have c3 := setAt_cell g3 3 (by decide)
      have r0 : w1.cell? ⟨w.heap.size + 1, 0, none⟩ = some (.int .u64 0) := by rw [cell_of_row w1 _ _ _ _ _ g2]; rfl
      have r1 : w1.cell? ⟨w.heap.size + 1, 1, none⟩ = some (.int .u64 0) := by rw [cell_of_row w1 _ _ _ _ _ g2]; rfl
      have r2 : w1.cell? ⟨w.heap.size + 1, 2, none⟩ = some (.int .u64 0) := by rw [cell_of_row w1 _ _ _ _ _ g2]; rfl
      have r3 : w1.cell? ⟨w.heap.size + 1, 3, none⟩ = some (.int .u64 0) := by rw [cell_of_row w1 _ _ _ _ _ g2]; rfl
      have f0 : ∀ k, w1.frozen? ⟨w.heap.size + 1, k, none⟩ = false := fun k => frozen_of_row w1 _ _ _ _ g2
      have hend := fits_end (n := n) hbb
      have hcell := fits_cells (n := n) g2
      clear g2 g3 hbb
      go_wp2
      clear r0 r1 r2 r3 c0 c1 c2 c3 f0
      generalize World.setCell (World.setCell _ _ _) _ _ = w9 at hend hcell ⊢
      obtain ⟨e0, e1, e2, e3⟩ := hcell
      exact bodyPost_ret (v := .agg #[.int .u64 (n 0 : Int), .int .u64 (n 1 : Int), .int .u64 (n 2 : Int), .int .u64 (n 3 : Int)]) (by simp [results, Tryd.results76, go_sem, e0, e1, e2, e3]) rfl ⟨n, hn, hF.out, rfl, hend⟩
    · by_cases h4 : kind = 4
      · subst h4
        go_wp2_with fail
        go_loopw [23] (fun i wr => ∃ (k : Nat) (n : St), k ≤ rs.length ∧ i = .int .i64 k ∧ okSt n ∧ Hid (∀ c, hasS n c = inR (rs.take k) c) ∧ FitW w wr #[.int .i64 4, .int .u8 (b.toNat : Int), .bool no, .slice A rs.length c] n) (fun i _ => rs.length - (intOf i).toNat)
        case atStart => exact ⟨0, zeroSt, Nat.zero_le _, rfl, okSt_zero, fun c => by rw [hasS_zero]; rfl, hW⟩
        case round =>
          clear hW
          obtain ⟨k, n, hk, rfl, hn, hh, hW⟩ := hrel
          by_cases hlt : k < rs.length
          · obtain ⟨blk, off, rfl, hblk, g0, g1⟩ := ((hu.more hB).below hW.2.2.2).at_ hlt
            have hs := Lib.hid (inR_snoc rs k hlt)
            generalize rs[k] = z at g0 g1 hs
            obtain ⟨z0, z1⟩ := z
            simp only at g0 g1 hs
            have hsz := hW.2.2.2.size
            have hbk : blk < wr.heap.size := by omega
            clear hsz
            go_wp2_with fail
            refine (add_any n hn z0 z1 _ _ ((Below.heap_alloc _ _ _ (Array.getElem?_eq_some_iff.1 hW.2.2.1).1).trans hW.2.2.1)).mono ?_
            rintro e w1 ⟨rfl, n', hn', hf, hs', hb⟩
            have hW1 := fitW_next hW hs' (((Below.refl _ _).alloc (by have := (Array.getElem?_eq_some_iff.1 hW.2.2.1).1; omega) _).trans hb)
            have hF : Hid (∀ c, hasS n' c = inR (rs.take (k + 1)) c) := fun c => by rw [hf c, hs.out c, hh.out c]
            clear hW hs' hb hf hs hh g0 g1
            go_wp2
            go_roundw
            case rel => exact ⟨k + 1, n', by omega, by go_num, hn', hF, hW1⟩
            case measure => simp [intOf]; omega
          · have hF : Hid (∀ c, hasS n c = inR rs c) := fun c => by rw [hh.out c, List.take_of_length_le (by omega)]
            clear hh
            have n0 : wr.cell? ⟨w.heap.size, 2, none⟩ = some (.bool no) := by rw [cell_of_row wr _ _ _ _ _ hW.1]; rfl
            cases no with
            | true =>
              go_wp2_with fail
              refine (turn_any n hn _ _ hW.2.2.1).mono ?_
              rintro e w1 ⟨rfl, n', hn', hf, hs, hb⟩
              have hW1 := fitW_next hW hs hb
              have hF' : Hid (∀ c, hasS n' c = fit (4, b, true, rs) c) := fun c => by rw [hf c, hF.out c]; simp [fit]
              clear hW hs hb hf n0
              obtain ⟨_, g2, g3, hbb⟩ := hW1
              have c0 := setAt_cell g3 0 (by decide)
              have c1 := setAt_cell g3 1 (by decide)
              have c2 := setAt_cell g3 2 (by decide)
              have c3 := setAt_cell g3 3 (by decide)
              have r0 : w1.cell? ⟨w.heap.size + 1, 0, none⟩ = some (.int .u64 0) := by rw [cell_of_row w1 _ _ _ _ _ g2]; rfl
              have r1 : w1.cell? ⟨w.heap.size + 1, 1, none⟩ = some (.int .u64 0) := by rw [cell_of_row w1 _ _ _ _ _ g2]; rfl
              have r2 : w1.cell? ⟨w.heap.size + 1, 2, none⟩ = some (.int .u64 0) := by rw [cell_of_row w1 _ _ _ _ _ g2]; rfl
              have r3 : w1.cell? ⟨w.heap.size + 1, 3, none⟩ = some (.int .u64 0) := by rw [cell_of_row w1 _ _ _ _ _ g2]; rfl
              have f0 : ∀ k, w1.frozen? ⟨w.heap.size + 1, k, none⟩ = false := fun k => frozen_of_row w1 _ _ _ _ g2
              have hend := fits_end (n := n') hbb
              have hcell := fits_cells (n := n') g2
              clear g2 g3 hbb
              go_wp2
              clear r0 r1 r2 r3 c0 c1 c2 c3 f0
              generalize World.setCell (World.setCell _ _ _) _ _ = w9 at hend hcell ⊢
              obtain ⟨e0, e1, e2, e3⟩ := hcell
              exact bodyPost_ret (v := .agg #[.int .u64 (n' 0 : Int), .int .u64 (n' 1 : Int), .int .u64 (n' 2 : Int), .int .u64 (n' 3 : Int)]) (by simp [results, Tryd.results76, go_sem, e0, e1, e2, e3]) rfl ⟨n', hn', hF'.out, rfl, hend⟩
            | false =>
              have hF' : Hid (∀ c, hasS n c = fit (4, b, false, rs) c) := fun c => by rw [hF.out c]; simp [fit]
              obtain ⟨_, g2, g3, hbb⟩ := hW
              have c0 := setAt_cell g3 0 (by decide)
              have c1 := setAt_cell g3 1 (by decide)
              have c2 := setAt_cell g3 2 (by decide)
              have c3 := setAt_cell g3 3 (by decide)
              have r0 : wr.cell? ⟨w.heap.size + 1, 0, none⟩ = some (.int .u64 0) := by rw [cell_of_row wr _ _ _ _ _ g2]; rfl
              have r1 : wr.cell? ⟨w.heap.size + 1, 1, none⟩ = some (.int .u64 0) := by rw [cell_of_row wr _ _ _ _ _ g2]; rfl
              have r2 : wr.cell? ⟨w.heap.size + 1, 2, none⟩ = some (.int .u64 0) := by rw [cell_of_row wr _ _ _ _ _ g2]; rfl
              have r3 : wr.cell? ⟨w.heap.size + 1, 3, none⟩ = some (.int .u64 0) := by rw [cell_of_row wr _ _ _ _ _ g2]; rfl
              have f0 : ∀ k, wr.frozen? ⟨w.heap.size + 1, k, none⟩ = false := fun k => frozen_of_row wr _ _ _ _ g2
              have hend := fits_end (n := n) hbb
              have hcell := fits_cells (n := n) g2
              clear g2 g3 hbb
              go_wp2
              clear r0 r1 r2 r3 c0 c1 c2 c3 f0
              generalize World.setCell (World.setCell _ _ _) _ _ = w9 at hend hcell ⊢
              obtain ⟨e0, e1, e2, e3⟩ := hcell
              exact bodyPost_ret (v := .agg #[.int .u64 (n 0 : Int), .int .u64 (n 1 : Int), .int .u64 (n 2 : Int), .int .u64 (n 3 : Int)]) (by simp [results, Tryd.results76, go_sem, e0, e1, e2, e3]) rfl ⟨n, hn, hF'.out, rfl, hend⟩
      · have hF' : Hid (∀ c, hasS zeroSt c = fit (kind, b, no, rs) c) := fun c => by rw [hasS_zero]; simp [fit, h1, h2, h4]
        have hend := hW.2.2.2
        clear hW
        go_wp2
        exact bodyPost_ret (v := .agg #[.int .u64 0, .int .u64 0, .int .u64 0, .int .u64 0]) (by simp [results, Tryd.results76, go_sem]) rfl ⟨zeroSt, okSt_zero, hF'.out, rfl, hend⟩
end Go.Proofs.YtmoihdddmeienaaDoor
