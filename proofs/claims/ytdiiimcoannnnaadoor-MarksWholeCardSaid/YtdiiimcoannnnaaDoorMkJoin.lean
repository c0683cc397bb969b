/-
  marks.Join answers all texts, one behind the other. Conditions: at most ten million bytes in all.
-/
import Derived.Test.YtdiiimcoannnnaaDoorMkPart
import Derived.Lib.AppendZeros
namespace Go.Proofs.YtdiiimcoannnnaaDoor
open Go Go.RowKit

theorem cut_zero (W : World) (g C : Nat) (n : Nat) (k : IntKind) : (Instr.slice 22 (.slice (some ⟨g, 0, none⟩) n C) none (some (.int k 0)) none).run Tryd.prog W = .ok (.slice (some ⟨g, 0, none⟩) 0 C) W := by
  have := run_slice_h (P := Tryd.prog) W 22 (some ⟨g, 0, none⟩) n C elemCh k 0 (by omega) (by omega)
  rw [this, sizeCh W]
  simp [Result.andThen, sliced, Addr.add]
theorem cut_nil (W : World) (k : IntKind) : (Instr.slice 22 (.slice none 0 0) none (some (.int k 0)) none).run Tryd.prog W = .ok (.slice none 0 0) W := by
  have := run_slice_h (P := Tryd.prog) W 22 none 0 0 elemCh k 0 (by omega) (by omega)
  rw [this, sizeCh W]
  simp [Result.andThen, sliced]

set_option maxHeartbeats 400000 in
set_option maxRecDepth 100000 in
theorem grow_any (n : Nat) (w : World) (hn : n ≤ 10000000) :
    Calls Tryd.prog 48 #[.slice none 0 0, .int .i64 (n : Int)] w fun e w' => ∃ v', e = .returned v' ∧ w'.ownsRow w.heap.size 61 2 v' 0 [] ∧ Below w.heap.size w w' := by
  obtain ⟨i0, hi, hz0, hz1, hz2⟩ := info_parts infoCh
  rcases Nat.eq_zero_or_pos n with h0 | h0
  · subst h0
    go_enter Tryd.func48, Tryd.ntmps48
    go_wp2
    go_ret
    exact ⟨_, rfl, World.ownsRow_nil _ _ _ _, Below.refl _ _⟩
  · have hr := Lib.run_append_nil_zeros (P := Tryd.prog) w 22 3 22 61 i0 _ .i64 .i64 Tryd.underlying22 Tryd.underlying3 hi hz0 n h0 (by rw [hz1]; omega) (by omega) (by rw [hz2]; omega)
    have hge := grownCap_ge w n 0 61
    have hle := grownCap_le_maxLen w n 0 61 (by simp only [maxLen]; omega)
    generalize grownCap w n 0 61 = C at hr hge hle
    have hsz : (Builtin.zeroCells (Value.cells (.agg #[.int .u8 0, .bool false])) n ++ Builtin.zeroCells (Value.cells (.agg #[.int .u8 0, .bool false])) (C - n)).size = C * 2 := by
      rw [Array.size_append, size_zeroCells, size_zeroCells]
      show n * 2 + (C - n) * 2 = C * 2
      omega
    generalize Builtin.zeroCells (Value.cells (.agg #[.int .u8 0, .bool false])) n ++ Builtin.zeroCells (Value.cells (.agg #[.int .u8 0, .bool false])) (C - n) = cs at hr hsz
    have ho : (w.drew.alloc (.cells cs 61)).ownsRow w.heap.size 61 2 (.slice (some ⟨w.heap.size, 0, none⟩) 0 C) 0 [] :=
      ⟨rfl, .inr ⟨w.heap.size, C, cs, rfl, Nat.le_refl _, heap_alloc_new w.drew _, Nat.zero_le _, hle, hsz, by simp⟩⟩
    have hb : Below w.heap.size w (w.drew.alloc (.cells cs 61)) := ((Below.refl _ _).drew).alloc (Nat.le_refl _) _
    have HS := Lib.hid hsz
    have HR := Lib.hid hr
    have hcn := cut_nil
    have hcz := cut_zero
    clear hsz hr
    go_enter Tryd.func48, Tryd.ntmps48
    go_wp2_with (at_builtin; refine Lib.wpList_append_run w rfl _ _ 22 3 rfl (.slice none 0 0) (.int .i64 (n : Int)) rfl rfl _ _ HR.out ?_)
    go_wp2
    go_ret
    exact ⟨_, rfl, ho, hb⟩

def lensum (ls : List (List Ch)) : Nat := ls.flatten.length
theorem lensum_snoc (ls : List (List Ch)) (k : Nat) (h : k < ls.length) : (ls.take (k + 1)).flatten = (ls.take k).flatten ++ ls[k] := by
  rw [List.take_succ_eq_append_getElem h, List.flatten_append]; simp
theorem lensum_le (ls : List (List Ch)) (k : Nat) : (ls.take k).flatten.length ≤ ls.flatten.length := by
  have := congrArg (fun x => x.flatten.length) (List.take_append_drop k ls)
  simp only [List.flatten_append, List.length_append] at this
  omega

set_option maxHeartbeats 1000000 in
set_option maxRecDepth 100000 in
theorem concat_any (ls : List (List Ch)) (v : Value) (B : Nat) (w : World) (ht : Txs w B v ls) (hB : B ≤ w.heap.size) (hl : ls.length ≤ 1000000) (hs : ls.flatten.length ≤ 10000000) :
    Calls Tryd.prog 39 #[v] w fun e w' => ∃ v', e = .returned v' ∧ Tx w' w'.heap.size v' ls.flatten ∧ Below w.heap.size w w' := by
  obtain ⟨A, c, rfl, hc, hcm⟩ := ht.form
  unfold maxLen at hcm
  obtain ⟨i0, hi, hz0, hz1, hz2⟩ := info_parts infoCh
  go_enter Tryd.func39, Tryd.ntmps39
  go_wp2
  go_loop [3, 11] (fun z i => ∃ k : Nat, k ≤ ls.length ∧ i = .int .i64 k ∧ ∃ n : Nat, n ≤ 10000000 ∧ z = .int .i64 n ∧ Hid (n = (ls.take k).flatten.length)) (fun _ i => ls.length - (intOf i).toNat)
  case atStart => exact ⟨0, Nat.zero_le _, rfl, 0, by omega, rfl, rfl⟩
  case round =>
    obtain ⟨k, hk, rfl, n, hn, rfl, hnk⟩ := hrel
    by_cases hlt : k < ls.length
    · obtain ⟨blk, off, u, rfl, hblk, g0, hu⟩ := ht.at_ hlt
      obtain ⟨A1, c1, rfl, _, _⟩ := hu.form
      have hsn := Lib.hid (lensum_snoc ls k hlt)
      have hle := lensum_le ls (k + 1)
      rw [hsn.out, List.length_append, ← hnk.out] at hle
      have hge : ¬ ((n : Int) + (ls[k].length : Int) < 0) := by omega
      go_wp2
      go_round
      case rel => exact ⟨k + 1, by omega, by go_num, n + ls[k].length, by omega, by go_num, by rw [hsn.out, List.length_append, ← hnk.out]; rfl⟩
      case measure => simp [intOf]; omega
    · have hnn : n ≤ 10000000 := hn
      go_wp2_with fail
      refine (grow_any n _ hn).mono ?_
      rintro e w1 ⟨v1, rfl, hown1, hb1⟩
      go_wp2_with fail
      go_loopw [6, 27] (fun o i wr => ∃ k : Nat, k ≤ ls.length ∧ i = .int .i64 k ∧ Below w.heap.size w wr ∧ ∃ acc : List Ch, wr.ownsRow w.heap.size 61 2 o acc.length (cellsCh acc) ∧ Hid (acc = (ls.take k).flatten)) (fun _ i _ => ls.length - (intOf i).toNat)
      case atStart => exact ⟨0, Nat.zero_le _, rfl, hb1, [], hown1, rfl⟩
      case round =>
        clear hown1 hb1
        obtain ⟨j, hj, rfl, hb, acc, hown, hacc⟩ := hrel
        have hsz := hb.size
        by_cases hlt2 : j < ls.length
        · obtain ⟨blk, off, u, rfl, hblk, g0, hu⟩ := ((ht.more hB).below hb).at_ hlt2
          obtain ⟨A1, c1, rfl, _, _⟩ := hu.form
          have hsn := Lib.hid (lensum_snoc ls j hlt2)
          have hle := lensum_le ls (j + 1)
          rw [hsn.out, List.length_append, ← hacc.out] at hle
          have hle2 : acc.length + ls[j].length ≤ 10000000 := by omega
          clear hle
          go_wp2_with (at_builtin; refine wpList_append_sl _ rfl _ _ 22 rfl w.heap.size 61 i0 (.agg #[.int .u8 0, .bool false]) 2 2 Tryd.underlying22 hi hz0 hz1 hz2 rfl (by decide) _ _ _ rfl hown _ _ _ _ rfl hu (cellsCh_one _) ?c3 ?c4 ?c5 ?_)
          case c3 => simp only [maxLen]; omega
          case c4 => omega
          case c5 => exact hsz
          intro v' w2 hown2 hgrow
          have hb2 : Below w.heap.size w w2 := hb.grown hgrow hsz (fun g h => (hown.lt g h).1)
          have hown3 : w2.ownsRow w.heap.size 61 2 v' (acc ++ ls[j]).length (cellsCh (acc ++ ls[j])) := by rw [cellsCh_append, List.length_append]; exact hown2
          clear hown hown2 hgrow hb
          go_wp2
          go_roundw
          case rel => exact ⟨j + 1, by omega, by go_num, hb2, _, hown3, by rw [hsn.out, ← hacc.out]; rfl⟩
          case measure => simp [intOf]; omega
        · have ho : Tx wr wr.heap.size u6 ls.flatten := by
            have e := hacc.out
            rw [List.take_of_length_le (by omega)] at e
            rw [← e]
            exact Sl.of_own hown
          clear hown
          go_wp2
          go_ret
          exact ⟨_, rfl, ho, hb⟩

theorem join_any (ls : List (List Ch)) (v : Value) (B : Nat) (w : World) (ht : Txs w B v ls) (hB : B ≤ w.heap.size) (hl : ls.length ≤ 1000000) (hs : ls.flatten.length ≤ 10000000) :
    Calls Tryd.prog 18 #[v] w fun e w' => ∃ v', e = .returned v' ∧ Tx w' w'.heap.size v' ls.flatten ∧ Below w.heap.size w w' := by
  go_enter Tryd.func18, Tryd.ntmps18
  go_wp2_with fail
  refine (concat_any ls v B _ ht hB hl hs).mono ?_
  rintro e w1 ⟨v1, rfl, h1, hb1⟩
  go_wp2
  go_ret
  exact ⟨_, rfl, h1, hb1⟩
end Go.Proofs.YtdiiimcoannnnaaDoor
