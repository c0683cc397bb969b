/-
  marks.Runs gives the longest rows of bytes that are all quoted, or all bare. Conditions: at most a million bytes.
-/
import Derived.Test.YtdiiimcoannnnaaDoorMkEnd
import Derived.Deep.QuietTactic
import Derived.BigQuiet
namespace Go.Proofs.YtdiiimcoannnnaaDoor
open Go Go.RowKit

theorem block_alloc {w : World} {g : Nat} {x : Obj} (o : Obj) (h : w.heap[g]? = some x) : (w.alloc o).heap[g]? = some x := by
  have hg := (Array.getElem?_eq_some_iff.1 h).1
  rw [← h]
  show (w.heap.push o)[g]? = _
  rw [Array.getElem?_push, if_neg (by omega)]
theorem runsL_eq (l : List Ch) : runsL l = [] ++ (runA (seg l 0 0) (l.drop 0)).map runOf := by rw [seg_nil]; rfl

set_option maxHeartbeats 1000000 in
set_option maxRecDepth 100000 in
theorem runs_any (l : List Ch) (v : Value) (B : Nat) (w : World) (ht : Tx w B v l) (hB : B ≤ w.heap.size) (hl : l.length ≤ 1000000) :
    Calls Tryd.prog 14 #[v] w fun e w' => ∃ v', e = .returned v' ∧ w'.ownsRow w.heap.size 34 2 v' (runsL l).length (cellsRn (runsL l)) ∧ Below w.heap.size w w' := by
  obtain ⟨A, c, rfl, hc, hcm⟩ := ht.form
  unfold maxLen at hcm
  have hmf : ∀ (fn : Fn) (first cap : Array Value) (w : World), (Instr.makeFunc fn first cap).run Tryd.prog w = .ok (.func fn first cap) w := fun _ _ _ _ => rfl
  go_enter Tryd.func14, Tryd.ntmps14
  go_wp2_with fail
  go_loopw [11] (fun i wr => ∃ (k a : Nat) (o : Value) (rs : List Rn), k ≤ l.length ∧ a ≤ k ∧ (k = 0 ∨ a < k) ∧ i = .int .i64 k ∧ Below w.heap.size w wr ∧ rs.length ≤ k ∧
      wr.heap[w.heap.size]? = some (.cells #[.slice A l.length c] 22 (0, 0)) ∧ wr.heap[w.heap.size + 1]? = some (.cells #[o] 29 (0, 0)) ∧ wr.heap[w.heap.size + 1 + 1]? = some (.cells #[.int .i64 a] 3 (0, 0)) ∧
      wr.ownsRow w.heap.size 34 2 o rs.length (cellsRn rs) ∧ Hid (runsL l = rs ++ (runA (seg l a k) (l.drop k)).map runOf)) (fun i _ => l.length - (intOf i).toNat)
  case atStart =>
    refine ⟨0, 0, .slice none 0 0, [], Nat.zero_le _, Nat.le_refl _, .inl rfl, rfl, ?_, Nat.le_refl _, ?_, ?_, ?_, World.ownsRow_nil _ _ _ _, runsL_eq l⟩
    · exact (((Below.refl _ _).alloc (Nat.le_refl _) _).alloc (by simp) _).alloc (by simp; omega) _
    · exact block_alloc _ (block_alloc _ (heap_alloc_new _ _))
    · have := heap_alloc_new (w.alloc (.cells #[.slice A l.length c] 22)) (.cells #[.slice none 0 0] 29)
      rw [World.size_alloc] at this
      exact block_alloc _ this
    · have := heap_alloc_new ((w.alloc (.cells #[.slice A l.length c] 22)).alloc (.cells #[.slice none 0 0] 29)) (.cells #[.int .i64 0] 3)
      rw [World.size_alloc, World.size_alloc] at this
      exact this
  case round =>
    obtain ⟨k, a, o, rs, hk, hak, hk0, rfl, hb, hrl, hV, hO, hS, hown, hrun⟩ := hrel
    have hsz := hb.size
    have htw := (ht.more hB).below hb
    clear ht
    have ltS : w.heap.size + 1 + 1 < wr.heap.size := (Array.getElem?_eq_some_iff.1 hS).1
    by_cases hlt : k < l.length
    · obtain ⟨blk, off, rfl, hblk, g0, g1⟩ := htw.at_ hlt
      obtain ⟨blk2, off2, hA2, _, _, f1⟩ := htw.at_ (k := a) (by omega)
      injection hA2 with hA2
      injection hA2 with e1 e2 _
      subst e1 e2
      have hblkw := Nat.lt_of_lt_of_le hblk hsz
      have cV : wr.cell? ⟨w.heap.size, 0, none⟩ = some (.slice (some ⟨blk, off, none⟩) l.length c) := by rw [cell_of_row wr _ _ _ _ _ hV]; rfl
      have cS : wr.cell? ⟨w.heap.size + 1 + 1, 0, none⟩ = some (.int .i64 a) := by rw [cell_of_row wr _ _ _ _ _ hS]; rfl
      have al : (a : Int) < (l.length : Int) := by omega
      have al0 : (0 : Int) ≤ (a : Int) := by omega
      by_cases hq : l[a].2 = l[k].2
      · have h1 := Lib.hid (runA_step (l := l) (a := a) (k := k) hak hlt hq)
        have hb2 := hb.alloc hsz (.cells #[.int .u8 (l[k].1.toNat : Int), .bool l[k].2] 61)
        have hV2 := block_alloc (.cells #[.int .u8 (l[k].1.toNat : Int), .bool l[k].2] 61) hV
        have hO2 := block_alloc (.cells #[.int .u8 (l[k].1.toNat : Int), .bool l[k].2] 61) hO
        have hS2 := block_alloc (.cells #[.int .u8 (l[k].1.toNat : Int), .bool l[k].2] 61) hS
        have hown2 := hown.alloc (.cells #[.int .u8 (l[k].1.toNat : Int), .bool l[k].2] 61)
        rw [hq] at f1
        clear hV hO hS hown hb htw hq
        generalize l[k] = z at g0 g1 f1 hb2 hV2 hO2 hS2 hown2
        obtain ⟨x, q⟩ := z
        simp only at g0 g1 f1 hb2 hV2 hO2 hS2 hown2
        go_wp2_with fail
        have cC : (wr.alloc (.cells #[.int .u8 (x.toNat : Int), .bool q] 61)).cell? ⟨wr.heap.size, 1, none⟩ = some (.bool q) := by rw [cell_of_row _ _ _ _ _ _ (heap_alloc_new wr _)]; rfl
        have cV2 : (wr.alloc (.cells #[.int .u8 (x.toNat : Int), .bool q] 61)).cell? ⟨w.heap.size, 0, none⟩ = some (.slice (some ⟨blk, off, none⟩) l.length c) := by rw [cell_of_row _ _ _ _ _ _ hV2]; rfl
        have cS2 : (wr.alloc (.cells #[.int .u8 (x.toNat : Int), .bool q] 61)).cell? ⟨w.heap.size + 1 + 1, 0, none⟩ = some (.int .i64 a) := by rw [cell_of_row _ _ _ _ _ _ hS2]; rfl
        have f2 := (((Below.refl wr.heap.size wr).alloc (Nat.le_refl _) (.cells #[.int .u8 (x.toNat : Int), .bool q] 61)).cell (p := ⟨blk, off + a * 2 + 1, none⟩) hblkw).trans f1
        generalize (wr.alloc (.cells #[.int .u8 (x.toNat : Int), .bool q] 61)) = W at *
        clear cV cS
        go_quiet (fail)
        go_wp2
        go_roundw
        case rel => exact ⟨k + 1, a, o, rs, by omega, by omega, by omega, by go_num, below_drewN hb2 _, by omega, hV2, hO2, hS2, hown2, by rw [Hid, hrun.out, h1.out]⟩
        case measure => simp [intOf]; omega
      · have hlta : a < k := by
          rcases hk0 with h | h
          · exact absurd (by simp only [show a = k by omega]) hq
          · exact h
        have h1 := Lib.hid (runA_cut (l := l) (a := a) (k := k) hlta hlt hq)
        have hb2 := hb.alloc hsz (.cells #[.int .u8 (l[k].1.toNat : Int), .bool l[k].2] 61)
        have hV2 := block_alloc (.cells #[.int .u8 (l[k].1.toNat : Int), .bool l[k].2] 61) hV
        have hO2 := block_alloc (.cells #[.int .u8 (l[k].1.toNat : Int), .bool l[k].2] 61) hO
        have hS2 := block_alloc (.cells #[.int .u8 (l[k].1.toNat : Int), .bool l[k].2] 61) hS
        have hown2 := hown.alloc (.cells #[.int .u8 (l[k].1.toNat : Int), .bool l[k].2] 61)
        have htw2 := htw.below ((Below.refl wr.heap.size wr).alloc (Nat.le_refl _) (.cells #[.int .u8 (l[k].1.toNat : Int), .bool l[k].2] 61) |>.mono hsz)
        clear hV hO hS hown hb htw
        generalize l[a].2 = qa at f1 hq
        generalize l[k] = z at g0 g1 hb2 hV2 hO2 hS2 hown2 hq htw2
        obtain ⟨x, q⟩ := z
        simp only at g0 g1 f1 hb2 hV2 hO2 hS2 hown2 hq htw2
        have hqq : (q == qa) = false := by simpa using fun h => hq h.symm
        clear hq
        go_wp2_with fail
        have cC : (wr.alloc (.cells #[.int .u8 (x.toNat : Int), .bool q] 61)).cell? ⟨wr.heap.size, 1, none⟩ = some (.bool q) := by rw [cell_of_row _ _ _ _ _ _ (heap_alloc_new wr _)]; rfl
        have cV2 : (wr.alloc (.cells #[.int .u8 (x.toNat : Int), .bool q] 61)).cell? ⟨w.heap.size, 0, none⟩ = some (.slice (some ⟨blk, off, none⟩) l.length c) := by rw [cell_of_row _ _ _ _ _ _ hV2]; rfl
        have cS2 : (wr.alloc (.cells #[.int .u8 (x.toNat : Int), .bool q] 61)).cell? ⟨w.heap.size + 1 + 1, 0, none⟩ = some (.int .i64 a) := by rw [cell_of_row _ _ _ _ _ _ hS2]; rfl
        have f2 := (((Below.refl wr.heap.size wr).alloc (Nat.le_refl _) (.cells #[.int .u8 (x.toNat : Int), .bool q] 61)).cell (p := ⟨blk, off + a * 2 + 1, none⟩) hblkw).trans f1
        generalize (wr.alloc (.cells #[.int .u8 (x.toNat : Int), .bool q] 61)) = W at *
        clear cV cS
        go_quiet (fail)
        go_wp2_with fail
        refine (end_any l _ c o rs (w.heap.size + 1) w.heap.size (w.heap.size + 1 + 1) a k w.heap.size w.heap.size (W.drewN nq) hO2 hV2 hS2 hown2 (htw2.drewN nq) hlta hk (by omega) (by omega) (Nat.le_refl _) hb2.size hl (by omega)).mono ?_
        rintro e w1 ⟨rfl, o', hO3, hV3, hS3, hown3, hb3⟩
        have hb4 : Below w.heap.size w w1 := (below_drewN hb2 nq).trans hb3
        go_wp2
        go_roundw
        case rel => exact ⟨k + 1, k, o', rs ++ [runOf (seg l a k)], by omega, by omega, by omega, by go_num, hb4, by rw [List.length_append, List.length_singleton]; omega, hV3, hO3, hS3, hown3, by rw [Hid, hrun.out, h1.out, List.map_cons, List.append_assoc]; rfl⟩
        case measure => simp [intOf]; omega
    · have hkl : k = l.length := by omega
      subst hkl
      rcases Nat.eq_zero_or_pos l.length with h0 | h0
      · have hres : Hid (runsL l = rs) := by
          rw [Hid, hrun.out, h0, show a = 0 by omega, List.eq_nil_of_length_eq_zero h0]
          simp [seg, runA]
        have cV : wr.cell? ⟨w.heap.size, 0, none⟩ = some (.slice A l.length c) := by rw [cell_of_row wr _ _ _ _ _ hV]; rfl
        have cO : wr.cell? ⟨w.heap.size + 1, 0, none⟩ = some o := by rw [cell_of_row wr _ _ _ _ _ hO]; rfl
        rw [← hres.out] at hown
        clear hV hO hS hres hrun
        go_wp2
        go_ret
        exact ⟨_, rfl, hown, hb⟩
      · have hlta : a < l.length := by omega
        have h1 := Lib.hid (runA_end hlta)
        have cV : wr.cell? ⟨w.heap.size, 0, none⟩ = some (.slice A l.length c) := by rw [cell_of_row wr _ _ _ _ _ hV]; rfl
        go_wp2_with fail
        refine (end_any l _ c o rs (w.heap.size + 1) w.heap.size (w.heap.size + 1 + 1) a l.length w.heap.size w.heap.size _ hO hV hS hown htw hlta hk (by omega) (by omega) (Nat.le_refl _) hsz hl (by omega)).mono ?_
        rintro e w1 ⟨rfl, o', hO3, hV3, hS3, hown3, hb3⟩
        have hb4 : Below w.heap.size w w1 := hb.trans hb3
        have cO : w1.cell? ⟨w.heap.size + 1, 0, none⟩ = some o' := by rw [cell_of_row w1 _ _ _ _ _ hO3]; rfl
        have hres : Hid (runsL l = rs ++ [runOf (seg l a l.length)]) := by rw [Hid, hrun.out, h1.out]; rfl
        rw [← hres.out] at hown3
        clear hV hO hS hown hb htw hO3 hV3 hS3 hb3 h1 hrun hres
        go_wp2
        go_ret
        exact ⟨_, rfl, hown3, hb4⟩
end Go.Proofs.YtdiiimcoannnnaaDoor
