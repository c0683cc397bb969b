/-
  Fds of a process of which the number 1 alone is open. Conditions: just that.
-/
import Derived.Handy
import Derived.Deep.MidRow
import Derived.Deep.AppendLies
import Derived.Deep.RegionHeld3
import Derived.Deep.Cut
import Derived.Deep.DeepCutAuto
import Derived.Test.YtglcfbefpnphaaaGreatDoorZn2
import Derived.Test.YtglcfbefpnphaaaGreatDoorZn4
import Derived.Test.YtglcfbefpnphaaaGreatDoorZn6
import Derived.Test.YtglcfbefpnphaaaGreatDoorZn14
import Derived.Test.YtglcfbefpnphaaaGreatDoorZn15
namespace Go.Proofs.YtglcfbefpnphaaaGreatDoor
open Go Go.RowKit Go.ChangeMaps

def psX : List Pt := ⟨0, 0⟩ :: ⟨5, 0⟩ :: (List.replicate 14 ⟨0, 0⟩ ++ [⟨1, 0⟩, ⟨18, 0⟩])
theorem infoI9 : (Tryz.prog.info? 3).map (fun i => (i.zero, i.size, i.bytes)) = some (some (.int .i64 0), 1, 8) := by kernel_rfl
theorem wpList_index_of {ops : Array Oper} {rest : List Oper} {o : Oper} {a : Act} {w : World} {Q : Exit → Act → World → Prop} (hgd : o.guard = none) (ty : TypeId) (x i : Operand) (ho : o.op = .index ty x i) (v y r : Value) (hx : a.eval x = v) (hi : a.eval i = y)
    (hrun : (Instr.index ty v y).run Tryz.prog w = .ok r w) (h : wpList Tryz.prog ops Q rest (a.put o.dst r) w) : wpList Tryz.prog ops Q (o :: rest) a w :=
  wpList_plain hgd fun _ hK => by
    unfold Oper.wp execOp
    simp only [ho, hx, hi, Sem.run_bind, Sem.run_pure, Result.andThen_ok, hrun]
    exact hK _ _ h
theorem idxFd0 (w : World) : (Instr.index 124 (.agg #[.int .i64 0, .int .i64 0, .int .i64 5, .int .i64 0, .int .i64 0, .int .i64 0, .int .i64 0, .int .i64 0, .int .i64 0, .int .i64 0, .int .i64 0, .int .i64 0, .int .i64 0, .int .i64 0, .int .i64 0, .int .i64 0, .int .i64 0, .int .i64 0, .int .i64 0, .int .i64 0, .int .i64 0, .int .i64 0, .int .i64 0, .int .i64 0, .int .i64 0, .int .i64 0, .int .i64 0, .int .i64 0, .int .i64 0, .int .i64 0, .int .i64 0, .int .i64 0]) (.int .i64 0)).run Tryz.prog w = .ok (.agg #[.int .i64 0, .int .i64 0]) w := by kernel_rfl
theorem idxFd1 (w : World) : (Instr.index 124 (.agg #[.int .i64 0, .int .i64 0, .int .i64 5, .int .i64 0, .int .i64 0, .int .i64 0, .int .i64 0, .int .i64 0, .int .i64 0, .int .i64 0, .int .i64 0, .int .i64 0, .int .i64 0, .int .i64 0, .int .i64 0, .int .i64 0, .int .i64 0, .int .i64 0, .int .i64 0, .int .i64 0, .int .i64 0, .int .i64 0, .int .i64 0, .int .i64 0, .int .i64 0, .int .i64 0, .int .i64 0, .int .i64 0, .int .i64 0, .int .i64 0, .int .i64 0, .int .i64 0]) (.int .i64 1)).run Tryz.prog w = .ok (.agg #[.int .i64 5, .int .i64 0]) w := by kernel_rfl
theorem idxFd2 (w : World) : (Instr.index 124 (.agg #[.int .i64 0, .int .i64 0, .int .i64 5, .int .i64 0, .int .i64 0, .int .i64 0, .int .i64 0, .int .i64 0, .int .i64 0, .int .i64 0, .int .i64 0, .int .i64 0, .int .i64 0, .int .i64 0, .int .i64 0, .int .i64 0, .int .i64 0, .int .i64 0, .int .i64 0, .int .i64 0, .int .i64 0, .int .i64 0, .int .i64 0, .int .i64 0, .int .i64 0, .int .i64 0, .int .i64 0, .int .i64 0, .int .i64 0, .int .i64 0, .int .i64 0, .int .i64 0]) (.int .i64 2)).run Tryz.prog w = .ok (.agg #[.int .i64 0, .int .i64 0]) w := by kernel_rfl
theorem idxFd3 (w : World) : (Instr.index 124 (.agg #[.int .i64 0, .int .i64 0, .int .i64 5, .int .i64 0, .int .i64 0, .int .i64 0, .int .i64 0, .int .i64 0, .int .i64 0, .int .i64 0, .int .i64 0, .int .i64 0, .int .i64 0, .int .i64 0, .int .i64 0, .int .i64 0, .int .i64 0, .int .i64 0, .int .i64 0, .int .i64 0, .int .i64 0, .int .i64 0, .int .i64 0, .int .i64 0, .int .i64 0, .int .i64 0, .int .i64 0, .int .i64 0, .int .i64 0, .int .i64 0, .int .i64 0, .int .i64 0]) (.int .i64 3)).run Tryz.prog w = .ok (.agg #[.int .i64 0, .int .i64 0]) w := by kernel_rfl
theorem idxFd4 (w : World) : (Instr.index 124 (.agg #[.int .i64 0, .int .i64 0, .int .i64 5, .int .i64 0, .int .i64 0, .int .i64 0, .int .i64 0, .int .i64 0, .int .i64 0, .int .i64 0, .int .i64 0, .int .i64 0, .int .i64 0, .int .i64 0, .int .i64 0, .int .i64 0, .int .i64 0, .int .i64 0, .int .i64 0, .int .i64 0, .int .i64 0, .int .i64 0, .int .i64 0, .int .i64 0, .int .i64 0, .int .i64 0, .int .i64 0, .int .i64 0, .int .i64 0, .int .i64 0, .int .i64 0, .int .i64 0]) (.int .i64 4)).run Tryz.prog w = .ok (.agg #[.int .i64 0, .int .i64 0]) w := by kernel_rfl
theorem idxFd5 (w : World) : (Instr.index 124 (.agg #[.int .i64 0, .int .i64 0, .int .i64 5, .int .i64 0, .int .i64 0, .int .i64 0, .int .i64 0, .int .i64 0, .int .i64 0, .int .i64 0, .int .i64 0, .int .i64 0, .int .i64 0, .int .i64 0, .int .i64 0, .int .i64 0, .int .i64 0, .int .i64 0, .int .i64 0, .int .i64 0, .int .i64 0, .int .i64 0, .int .i64 0, .int .i64 0, .int .i64 0, .int .i64 0, .int .i64 0, .int .i64 0, .int .i64 0, .int .i64 0, .int .i64 0, .int .i64 0]) (.int .i64 5)).run Tryz.prog w = .ok (.agg #[.int .i64 0, .int .i64 0]) w := by kernel_rfl
theorem idxFd6 (w : World) : (Instr.index 124 (.agg #[.int .i64 0, .int .i64 0, .int .i64 5, .int .i64 0, .int .i64 0, .int .i64 0, .int .i64 0, .int .i64 0, .int .i64 0, .int .i64 0, .int .i64 0, .int .i64 0, .int .i64 0, .int .i64 0, .int .i64 0, .int .i64 0, .int .i64 0, .int .i64 0, .int .i64 0, .int .i64 0, .int .i64 0, .int .i64 0, .int .i64 0, .int .i64 0, .int .i64 0, .int .i64 0, .int .i64 0, .int .i64 0, .int .i64 0, .int .i64 0, .int .i64 0, .int .i64 0]) (.int .i64 6)).run Tryz.prog w = .ok (.agg #[.int .i64 0, .int .i64 0]) w := by kernel_rfl
theorem idxFd7 (w : World) : (Instr.index 124 (.agg #[.int .i64 0, .int .i64 0, .int .i64 5, .int .i64 0, .int .i64 0, .int .i64 0, .int .i64 0, .int .i64 0, .int .i64 0, .int .i64 0, .int .i64 0, .int .i64 0, .int .i64 0, .int .i64 0, .int .i64 0, .int .i64 0, .int .i64 0, .int .i64 0, .int .i64 0, .int .i64 0, .int .i64 0, .int .i64 0, .int .i64 0, .int .i64 0, .int .i64 0, .int .i64 0, .int .i64 0, .int .i64 0, .int .i64 0, .int .i64 0, .int .i64 0, .int .i64 0]) (.int .i64 7)).run Tryz.prog w = .ok (.agg #[.int .i64 0, .int .i64 0]) w := by kernel_rfl
theorem idxFd8 (w : World) : (Instr.index 124 (.agg #[.int .i64 0, .int .i64 0, .int .i64 5, .int .i64 0, .int .i64 0, .int .i64 0, .int .i64 0, .int .i64 0, .int .i64 0, .int .i64 0, .int .i64 0, .int .i64 0, .int .i64 0, .int .i64 0, .int .i64 0, .int .i64 0, .int .i64 0, .int .i64 0, .int .i64 0, .int .i64 0, .int .i64 0, .int .i64 0, .int .i64 0, .int .i64 0, .int .i64 0, .int .i64 0, .int .i64 0, .int .i64 0, .int .i64 0, .int .i64 0, .int .i64 0, .int .i64 0]) (.int .i64 8)).run Tryz.prog w = .ok (.agg #[.int .i64 0, .int .i64 0]) w := by kernel_rfl
theorem idxFd9 (w : World) : (Instr.index 124 (.agg #[.int .i64 0, .int .i64 0, .int .i64 5, .int .i64 0, .int .i64 0, .int .i64 0, .int .i64 0, .int .i64 0, .int .i64 0, .int .i64 0, .int .i64 0, .int .i64 0, .int .i64 0, .int .i64 0, .int .i64 0, .int .i64 0, .int .i64 0, .int .i64 0, .int .i64 0, .int .i64 0, .int .i64 0, .int .i64 0, .int .i64 0, .int .i64 0, .int .i64 0, .int .i64 0, .int .i64 0, .int .i64 0, .int .i64 0, .int .i64 0, .int .i64 0, .int .i64 0]) (.int .i64 9)).run Tryz.prog w = .ok (.agg #[.int .i64 0, .int .i64 0]) w := by kernel_rfl
theorem idxFd10 (w : World) : (Instr.index 124 (.agg #[.int .i64 0, .int .i64 0, .int .i64 5, .int .i64 0, .int .i64 0, .int .i64 0, .int .i64 0, .int .i64 0, .int .i64 0, .int .i64 0, .int .i64 0, .int .i64 0, .int .i64 0, .int .i64 0, .int .i64 0, .int .i64 0, .int .i64 0, .int .i64 0, .int .i64 0, .int .i64 0, .int .i64 0, .int .i64 0, .int .i64 0, .int .i64 0, .int .i64 0, .int .i64 0, .int .i64 0, .int .i64 0, .int .i64 0, .int .i64 0, .int .i64 0, .int .i64 0]) (.int .i64 10)).run Tryz.prog w = .ok (.agg #[.int .i64 0, .int .i64 0]) w := by kernel_rfl
theorem idxFd11 (w : World) : (Instr.index 124 (.agg #[.int .i64 0, .int .i64 0, .int .i64 5, .int .i64 0, .int .i64 0, .int .i64 0, .int .i64 0, .int .i64 0, .int .i64 0, .int .i64 0, .int .i64 0, .int .i64 0, .int .i64 0, .int .i64 0, .int .i64 0, .int .i64 0, .int .i64 0, .int .i64 0, .int .i64 0, .int .i64 0, .int .i64 0, .int .i64 0, .int .i64 0, .int .i64 0, .int .i64 0, .int .i64 0, .int .i64 0, .int .i64 0, .int .i64 0, .int .i64 0, .int .i64 0, .int .i64 0]) (.int .i64 11)).run Tryz.prog w = .ok (.agg #[.int .i64 0, .int .i64 0]) w := by kernel_rfl
theorem idxFd12 (w : World) : (Instr.index 124 (.agg #[.int .i64 0, .int .i64 0, .int .i64 5, .int .i64 0, .int .i64 0, .int .i64 0, .int .i64 0, .int .i64 0, .int .i64 0, .int .i64 0, .int .i64 0, .int .i64 0, .int .i64 0, .int .i64 0, .int .i64 0, .int .i64 0, .int .i64 0, .int .i64 0, .int .i64 0, .int .i64 0, .int .i64 0, .int .i64 0, .int .i64 0, .int .i64 0, .int .i64 0, .int .i64 0, .int .i64 0, .int .i64 0, .int .i64 0, .int .i64 0, .int .i64 0, .int .i64 0]) (.int .i64 12)).run Tryz.prog w = .ok (.agg #[.int .i64 0, .int .i64 0]) w := by kernel_rfl
theorem idxFd13 (w : World) : (Instr.index 124 (.agg #[.int .i64 0, .int .i64 0, .int .i64 5, .int .i64 0, .int .i64 0, .int .i64 0, .int .i64 0, .int .i64 0, .int .i64 0, .int .i64 0, .int .i64 0, .int .i64 0, .int .i64 0, .int .i64 0, .int .i64 0, .int .i64 0, .int .i64 0, .int .i64 0, .int .i64 0, .int .i64 0, .int .i64 0, .int .i64 0, .int .i64 0, .int .i64 0, .int .i64 0, .int .i64 0, .int .i64 0, .int .i64 0, .int .i64 0, .int .i64 0, .int .i64 0, .int .i64 0]) (.int .i64 13)).run Tryz.prog w = .ok (.agg #[.int .i64 0, .int .i64 0]) w := by kernel_rfl
theorem idxFd14 (w : World) : (Instr.index 124 (.agg #[.int .i64 0, .int .i64 0, .int .i64 5, .int .i64 0, .int .i64 0, .int .i64 0, .int .i64 0, .int .i64 0, .int .i64 0, .int .i64 0, .int .i64 0, .int .i64 0, .int .i64 0, .int .i64 0, .int .i64 0, .int .i64 0, .int .i64 0, .int .i64 0, .int .i64 0, .int .i64 0, .int .i64 0, .int .i64 0, .int .i64 0, .int .i64 0, .int .i64 0, .int .i64 0, .int .i64 0, .int .i64 0, .int .i64 0, .int .i64 0, .int .i64 0, .int .i64 0]) (.int .i64 14)).run Tryz.prog w = .ok (.agg #[.int .i64 0, .int .i64 0]) w := by kernel_rfl
theorem idxFd15 (w : World) : (Instr.index 124 (.agg #[.int .i64 0, .int .i64 0, .int .i64 5, .int .i64 0, .int .i64 0, .int .i64 0, .int .i64 0, .int .i64 0, .int .i64 0, .int .i64 0, .int .i64 0, .int .i64 0, .int .i64 0, .int .i64 0, .int .i64 0, .int .i64 0, .int .i64 0, .int .i64 0, .int .i64 0, .int .i64 0, .int .i64 0, .int .i64 0, .int .i64 0, .int .i64 0, .int .i64 0, .int .i64 0, .int .i64 0, .int .i64 0, .int .i64 0, .int .i64 0, .int .i64 0, .int .i64 0]) (.int .i64 15)).run Tryz.prog w = .ok (.agg #[.int .i64 0, .int .i64 0]) w := by kernel_rfl
set_option maxHeartbeats 4000000 in
set_option maxRecDepth 100000 in
theorem Fds_one {w : World} {pb fb tb lb : Nat} (hp : PB w pb fb tb lb psX) : Calls Tryz.prog 32 #[ptrV pb] w fun e w' => (∃ A c, e = .returned (.slice A 1 c)) ∧ w.grownBy w' none := by
  obtain ⟨i0, hi, hz0, hz1, hz2⟩ := info_parts infoI9
  have hn := pisNil_no hp
  have hpl := hp.lt
  have hrg : w.rangeAt pb 3 [.int .i64 0, .int .i64 0, .int .i64 5, .int .i64 0, .int .i64 0, .int .i64 0, .int .i64 0, .int .i64 0, .int .i64 0, .int .i64 0, .int .i64 0, .int .i64 0, .int .i64 0, .int .i64 0, .int .i64 0, .int .i64 0, .int .i64 0, .int .i64 0, .int .i64 0, .int .i64 0, .int .i64 0, .int .i64 0, .int .i64 0, .int .i64 0, .int .i64 0, .int .i64 0, .int .i64 0, .int .i64 0, .int .i64 0, .int .i64 0, .int .i64 0, .int .i64 0] := fun j v hv => hp.cell (i := 3 + j) (by
      have hj : j < 32 := (List.getElem?_eq_some_iff.1 hv).1
      rw [show (procC fb tb lb psX)[3 + j]? = ([.int .i64 0, .int .i64 0, .int .i64 5, .int .i64 0, .int .i64 0, .int .i64 0, .int .i64 0, .int .i64 0, .int .i64 0, .int .i64 0, .int .i64 0, .int .i64 0, .int .i64 0, .int .i64 0, .int .i64 0, .int .i64 0, .int .i64 0, .int .i64 0, .int .i64 0, .int .i64 0, .int .i64 0, .int .i64 0, .int .i64 0, .int .i64 0, .int .i64 0, .int .i64 0, .int .i64 0, .int .i64 0, .int .i64 0, .int .i64 0, .int .i64 0, .int .i64 0, .int .i64 1, .int .i64 0, .int .i64 18, .int .i64 0] : List Value)[j]? from by
        rw [show 3 + j = j + 1 + 1 + 1 by omega]; rfl]
      rw [← hv]
      rw [show ([.int .i64 0, .int .i64 0, .int .i64 5, .int .i64 0, .int .i64 0, .int .i64 0, .int .i64 0, .int .i64 0, .int .i64 0, .int .i64 0, .int .i64 0, .int .i64 0, .int .i64 0, .int .i64 0, .int .i64 0, .int .i64 0, .int .i64 0, .int .i64 0, .int .i64 0, .int .i64 0, .int .i64 0, .int .i64 0, .int .i64 0, .int .i64 0, .int .i64 0, .int .i64 0, .int .i64 0, .int .i64 0, .int .i64 0, .int .i64 0, .int .i64 0, .int .i64 0, .int .i64 1, .int .i64 0, .int .i64 18, .int .i64 0] : List Value) = [.int .i64 0, .int .i64 0, .int .i64 5, .int .i64 0, .int .i64 0, .int .i64 0, .int .i64 0, .int .i64 0, .int .i64 0, .int .i64 0, .int .i64 0, .int .i64 0, .int .i64 0, .int .i64 0, .int .i64 0, .int .i64 0, .int .i64 0, .int .i64 0, .int .i64 0, .int .i64 0, .int .i64 0, .int .i64 0, .int .i64 0, .int .i64 0, .int .i64 0, .int .i64 0, .int .i64 0, .int .i64 0, .int .i64 0, .int .i64 0, .int .i64 0, .int .i64 0] ++ [.int .i64 1, .int .i64 0, .int .i64 18, .int .i64 0] from rfl, List.getElem?_append_left (by simpa using hj)])
  replace hrg := Lib.hid hrg
  unfold ptrV at hn ⊢
  replace hi := Lib.hid hi
  clear hp
  go_enter Tryz.func32, Tryz.ntmps32
  go_wp2_with fail
  refine hn.mono ?_
  rintro e w' ⟨rfl, hw⟩
  obtain rfl := hw.symm
  clear hn hw
  go_wp2_with (refine wpList_load_mid rfl 124 _ rfl pb 3 rfl [.int .i64 0, .int .i64 0, .int .i64 5, .int .i64 0, .int .i64 0, .int .i64 0, .int .i64 0, .int .i64 0, .int .i64 0, .int .i64 0, .int .i64 0, .int .i64 0, .int .i64 0, .int .i64 0, .int .i64 0, .int .i64 0, .int .i64 0, .int .i64 0, .int .i64 0, .int .i64 0, .int .i64 0, .int .i64 0, .int .i64 0, .int .i64 0, .int .i64 0, .int .i64 0, .int .i64 0, .int .i64 0, .int .i64 0, .int .i64 0, .int .i64 0, .int .i64 0] _ hrg.out Tryz.underlying124 rfl (by kernel_rfl) ?_)
  clear hrg hpl
  go_loopw [12, 3] (fun kv ov wr => ∃ k : Int, 0 ≤ k ∧ k ≤ 16 ∧ kv = .int .i64 k ∧ Hid (k ≤ 1 → ov = .slice none 0 0) ∧ Hid (1 < k → ∃ A c, ov = .slice A 1 c) ∧ Hid (w.grownBy wr none)) (fun kv _ _ => 16 - (intOf kv).toNat)
  case atStart => exact ⟨0, by omega, by omega, rfl, Lib.hid fun _ => rfl, Lib.hid fun h => by omega, Lib.hid (grownBy_re w)⟩
  case round =>
    obtain ⟨k, hk0, hk, rfl, h1, h2, hg⟩ := hrel
    by_cases hk1 : k = 16
    · subst hk1
      obtain ⟨A, c, rfl⟩ := h2.out (by omega)
      clear h1 h2
      go_wp2
      go_ret
      exact ⟨⟨_, _, rfl⟩, hg.out⟩
    by_cases hk2 : k = 1
    · subst hk2
      obtain rfl := h1.out (by omega)
      clear h1 h2 hk hk1 hk0
      have gA : wr.grownBy (wr.alloc (.cells #[.int .i64 5, .int .i64 0] 123)) none := World.grownBy_alloc wr _ _
      have bA : Blk (wr.alloc (.cells #[.int .i64 5, .int .i64 0] 123)) wr.heap.size [.int .i64 5, .int .i64 0] 123 := Blk.new wr _ _
      go_upto_region 8 with (refine wpList_index_of rfl 124 _ _ rfl _ _ _ rfl rfl (idxFd1 _) ?_)
      try generalize (wr.alloc (.cells #[.int .i64 5, .int .i64 0] 123)) = w3 at gA bA ⊢
      have hg3 := grownBy_tr hg.out gA
      have hrow2 : (w3.alloc (.cells #[.int .i64 1] 3)).ownsRow w3.heap.size 3 1 (.slice none 0 0) 0 [] := World.ownsRow_nil _ _ _ _
      have hB2 : ∀ j u, ([.int .i64 1] : List Value)[j]? = some u → (w3.alloc (.cells #[.int .i64 1] 3)).cell? ((⟨w3.heap.size, 0, none⟩ : Addr).add j) = some u := by
        intro j u hu
        rw [add_plain0, Nat.zero_add]
        exact (Blk.new w3 [.int .i64 1] 3).cell hu
      obtain ⟨g, cap, w5, hrun, hrow3, hgr3, hat, hgl⟩ := run_append_lies (P := Tryz.prog) (w3.alloc (.cells #[.int .i64 1] 3)) 54 54 w3.heap.size 3 i0 _ 1 8 Tryz.underlying54 hi.out hz0 hz1 hz2 rfl (by decide)
        (.slice none 0 0) 0 [] hrow2 ⟨w3.heap.size, 0, none⟩ 1 1 [.int .i64 1] rfl hB2 (by simp [Value.oneCell']) (by decide) (by decide) (by decide) (by simp) (w3.heap.size + 1) (by simp)
      have hg4 : Hid (w.grownBy w5 none) := Lib.hid (grownBy_tr hg3 ((World.grownBy_alloc w3 _ none).trans hgr3))
      replace hrow3 := Lib.hid hrow3
      replace hrun := Lib.hid hrun
      clear hrow2 hB2 hgr3 hat hgl hz0 hz1 hz2 hg3 gA bA hg
      go_wp2_with (at_builtin; refine wpList_append_of rfl _ _ 54 54 rfl _ _ _ w5 rfl rfl hrun.out ?_)
      go_wp2
      go_roundw
      case rel => exact ⟨2, by omega, by omega, by go_num, Lib.hid fun h => by omega, Lib.hid fun _ => ⟨_, _, rfl⟩, hg4⟩
      case measure => simp [intOf]
    · have hov : Hid (k + 1 ≤ 1 → _ = Value.slice none 0 0) := Lib.hid fun h => h1.out (by omega)
      have hov2 : Hid (1 < k + 1 → ∃ A c, _ = Value.slice A 1 c) := Lib.hid fun h => h2.out (by omega)
      clear h1 h2
      have gA : wr.grownBy (wr.alloc (.cells #[.int .i64 0, .int .i64 0] 123)) none := World.grownBy_alloc wr _ _
      have hg4 : Hid (w.grownBy (wr.alloc (.cells #[.int .i64 0, .int .i64 0] 123)) none) := Lib.hid (grownBy_tr hg.out gA)
      clear gA hg
      rcases (by omega : k = 0 ∨ k = 2 ∨ k = 3 ∨ k = 4 ∨ k = 5 ∨ k = 6 ∨ k = 7 ∨ k = 8 ∨ k = 9 ∨ k = 10 ∨ k = 11 ∨ k = 12 ∨ k = 13 ∨ k = 14 ∨ k = 15) with rfl | rfl | rfl | rfl | rfl | rfl | rfl | rfl | rfl | rfl | rfl | rfl | rfl | rfl | rfl
      · clear hk hk1 hk2 hk0
        go_wp2_with (refine wpList_index_of rfl 124 _ _ rfl _ _ _ rfl rfl (idxFd0 _) ?_)
        go_wp2
        go_roundw
        case rel => exact ⟨1, by decide, by decide, by go_num, hov, hov2, hg4⟩
        case measure => simp [intOf]
      · clear hk hk1 hk2 hk0
        go_wp2_with (refine wpList_index_of rfl 124 _ _ rfl _ _ _ rfl rfl (idxFd2 _) ?_)
        go_wp2
        go_roundw
        case rel => exact ⟨3, by decide, by decide, by go_num, hov, hov2, hg4⟩
        case measure => simp [intOf]
      · clear hk hk1 hk2 hk0
        go_wp2_with (refine wpList_index_of rfl 124 _ _ rfl _ _ _ rfl rfl (idxFd3 _) ?_)
        go_wp2
        go_roundw
        case rel => exact ⟨4, by decide, by decide, by go_num, hov, hov2, hg4⟩
        case measure => simp [intOf]
      · clear hk hk1 hk2 hk0
        go_wp2_with (refine wpList_index_of rfl 124 _ _ rfl _ _ _ rfl rfl (idxFd4 _) ?_)
        go_wp2
        go_roundw
        case rel => exact ⟨5, by decide, by decide, by go_num, hov, hov2, hg4⟩
        case measure => simp [intOf]
      · clear hk hk1 hk2 hk0
        go_wp2_with (refine wpList_index_of rfl 124 _ _ rfl _ _ _ rfl rfl (idxFd5 _) ?_)
        go_wp2
        go_roundw
        case rel => exact ⟨6, by decide, by decide, by go_num, hov, hov2, hg4⟩
        case measure => simp [intOf]
      · clear hk hk1 hk2 hk0
        go_wp2_with (refine wpList_index_of rfl 124 _ _ rfl _ _ _ rfl rfl (idxFd6 _) ?_)
        go_wp2
        go_roundw
        case rel => exact ⟨7, by decide, by decide, by go_num, hov, hov2, hg4⟩
        case measure => simp [intOf]
      · clear hk hk1 hk2 hk0
        go_wp2_with (refine wpList_index_of rfl 124 _ _ rfl _ _ _ rfl rfl (idxFd7 _) ?_)
        go_wp2
        go_roundw
        case rel => exact ⟨8, by decide, by decide, by go_num, hov, hov2, hg4⟩
        case measure => simp [intOf]
      · clear hk hk1 hk2 hk0
        go_wp2_with (refine wpList_index_of rfl 124 _ _ rfl _ _ _ rfl rfl (idxFd8 _) ?_)
        go_wp2
        go_roundw
        case rel => exact ⟨9, by decide, by decide, by go_num, hov, hov2, hg4⟩
        case measure => simp [intOf]
      · clear hk hk1 hk2 hk0
        go_wp2_with (refine wpList_index_of rfl 124 _ _ rfl _ _ _ rfl rfl (idxFd9 _) ?_)
        go_wp2
        go_roundw
        case rel => exact ⟨10, by decide, by decide, by go_num, hov, hov2, hg4⟩
        case measure => simp [intOf]
      · clear hk hk1 hk2 hk0
        go_wp2_with (refine wpList_index_of rfl 124 _ _ rfl _ _ _ rfl rfl (idxFd10 _) ?_)
        go_wp2
        go_roundw
        case rel => exact ⟨11, by decide, by decide, by go_num, hov, hov2, hg4⟩
        case measure => simp [intOf]
      · clear hk hk1 hk2 hk0
        go_wp2_with (refine wpList_index_of rfl 124 _ _ rfl _ _ _ rfl rfl (idxFd11 _) ?_)
        go_wp2
        go_roundw
        case rel => exact ⟨12, by decide, by decide, by go_num, hov, hov2, hg4⟩
        case measure => simp [intOf]
      · clear hk hk1 hk2 hk0
        go_wp2_with (refine wpList_index_of rfl 124 _ _ rfl _ _ _ rfl rfl (idxFd12 _) ?_)
        go_wp2
        go_roundw
        case rel => exact ⟨13, by decide, by decide, by go_num, hov, hov2, hg4⟩
        case measure => simp [intOf]
      · clear hk hk1 hk2 hk0
        go_wp2_with (refine wpList_index_of rfl 124 _ _ rfl _ _ _ rfl rfl (idxFd13 _) ?_)
        go_wp2
        go_roundw
        case rel => exact ⟨14, by decide, by decide, by go_num, hov, hov2, hg4⟩
        case measure => simp [intOf]
      · clear hk hk1 hk2 hk0
        go_wp2_with (refine wpList_index_of rfl 124 _ _ rfl _ _ _ rfl rfl (idxFd14 _) ?_)
        go_wp2
        go_roundw
        case rel => exact ⟨15, by decide, by decide, by go_num, hov, hov2, hg4⟩
        case measure => simp [intOf]
      · clear hk hk1 hk2 hk0
        go_wp2_with (refine wpList_index_of rfl 124 _ _ rfl _ _ _ rfl rfl (idxFd15 _) ?_)
        go_wp2
        go_roundw
        case rel => exact ⟨16, by decide, by decide, by go_num, hov, hov2, hg4⟩
        case measure => simp [intOf]
end Go.Proofs.YtglcfbefpnphaaaGreatDoor
/-
  Write of an open node, where it stands and at the end. Conditions: it fits into the file and into the tree.
  Write of an open node that the tree refuses: where it stands, and at the end. Conditions: a refusal that changes nothing of the tree.
-/
namespace Go.Proofs.YtglcfbefpnphaaaGreatDoor
open Go Go.RowKit Go.ChangeMaps

def putW (d : List UInt8) (a : Nat) (s : List UInt8) : List UInt8 := if s.length = 0 then d else putB d a s
theorem upd_same {nds : Nds} (hd : nds.Pairwise (fun p q => p.1 ≠ q.1)) {k : Int} {x : Pn} (h : look nds k = some x) : upd nds k x = nds := by
  unfold upd
  refine (List.map_congr_left fun p hp => ?_).trans (List.map_id _)
  by_cases e : p.1 = k
  · rw [if_pos e]
    have := look_of_mem hd (show (p.1, p.2) ∈ nds from hp)
    rw [e, h] at this
    cases this
    rw [← e]
    rfl
  · rw [if_neg e]
    rfl
section
variable {w : World} {F : Nat → Prop} {fb most room : Nat} {nds : Nds} {ob a : Nat} {n : Int} {r : Bool}
theorem node_write (h : TreeF w F fb most room nds) {k : Int} {x : Pn} (hx : look nds k = some x) (hk : x.kind = 2) (a : Nat) (s : ByteArray) (ha : a + s.size ≤ 4096) (hr : s.size = 0 ∨ usedN nds + (a + s.size - x.data.length) ≤ room) :
    Calls Tryz.prog 267 #[.pointer (some ⟨fb, 0, none⟩), .int .i64 k, .int .i64 (a : Int), .string s] w fun e w' => e = .returned (.int .i64 0) ∧ ∃ F', TreeF w' F' fb most room (upd nds k { x with data := putW x.data a (tl s) }) ∧ Chg F F' w w' := by
  unfold putW
  by_cases hs : s.size = 0
  · rw [if_pos (by rw [tl_len]; exact hs)]
    obtain ⟨lab, mb, mem, hR, hF⟩ := h
    rw [show upd nds k { x with data := x.data } = nds from upd_same hR.apart hx]
    refine (write_empty hR hx hk a s (by omega) hs).mono ?_
    rintro e w' ⟨he, rfl⟩
    exact ⟨he, F, ⟨lab, mb, mem, hR, hF⟩, Chg.refl _ _⟩
  · rw [if_neg (by rw [tl_len]; exact hs)]
    by_cases hm : a + s.size ≤ x.data.length
    · exact write_fit h hx hk a s (by omega) hm
    · exact write_more h hx hk a s (by omega) ha (by omega) (hr.resolve_left hs)

set_option maxHeartbeats 1000000 in
set_option maxRecDepth 100000 in
theorem file_write (hb : Blk w ob (fileC fb n a r true false) 162) (h : TreeF w F fb most room nds) (hob : ¬ F ob) {x : Pn} (hx : look nds n = some x) (hk : x.kind = 2) (s : ByteArray) (ha : a + s.size ≤ 4096) (hr : s.size = 0 ∨ usedN nds + (a + s.size - x.data.length) ≤ room) :
    Calls Tryz.prog 266 #[ptrV ob, .string s] w fun e w' => e = .returned (.int .i64 0) ∧ ∃ X F', TreeF X F' fb most room (upd nds n { x with data := putW x.data a (tl s) }) ∧ Chg F F' w X ∧ Chg (fun g => g = ob) (fun g => g = ob) X w' ∧ Blk w' ob (fileC fb n (a + s.size) r true false) 162 := by
  have hw := fun j => node_write (h.keep (w' := w.drewN j) (Nat.le_refl _) fun _ _ => rfl) hx hk a s ha hr
  have c0 := hb.cell (i := 0) rfl
  have c1 := hb.cell (i := 1) rfl
  have c2 := hb.cell (i := 2) rfl
  have c4 := hb.cell (i := 4) rfl
  have c5 := hb.cell (i := 5) rfl
  have hlt := hb.lt
  have i2 : IntKind.i64.wrap ((a : Int) + (s.size : Int)) = (a : Int) + (s.size : Int) := by rw [IntKind.wrap_i64]; omega
  generalize { x with data := putW x.data a (tl s) } = y at hw ⊢
  unfold ptrV at c0 ⊢
  replace hw := Lib.hid hw
  replace hb := Lib.hid hb
  clear h hx hk hr
  go_enter Tryz.func266, Tryz.ntmps266
  go_upto_region 8 with fail
  go_still_tail 13, (by kernel_rfl)
  change wpList _ _ _ _ _ (w.drewN 1)
  go_wp2_with fail
  refine (hw.out 1).mono ?_
  rintro e w2 ⟨rfl, F', hT, hC⟩
  have hC' : Chg F F' w w2 := (Chg.drewN F w 1).trans hC
  have hb2 : Blk w2 ob _ _ := hb.out.chg hC' hob
  have c2 := hb2.cell (i := 2) rfl
  have f2 := hb2.frozen 2
  have hlt2 := hb2.lt
  replace hT := Lib.hid hT
  replace hC' := Lib.hid hC'
  replace hb2 := Lib.hid hb2
  clear hw hC c0 c1 c4 c5 hb
  go_wp2
  go_ret
  refine ⟨rfl, w2, F', hT.out, hC'.out, Chg.set (F := fun g => g = ob) rfl 2 _, ?_⟩
  have := hb2.out.set 2 (.int .i64 ((a : Int) + (s.size : Int)))
  have e1 : ((a + s.size : Nat) : Int) = (a : Int) + (s.size : Int) := by omega
  unfold fileC
  rw [e1]
  exact this
end

section
variable {w : World} {F : Nat → Prop} {c : Sy} {s : St} {k : Int} {x : Hd}
set_option maxHeartbeats 1000000 in
set_option maxRecDepth 100000 in
theorem sys_write_file (h : Sys w F c s) (hx : look s.hs k = some x) {n : Int} {a : Nat} {r : Bool} (hk : x.kd = .file n a r true false) {y : Pn} (hy : look s.nds n = some y) (hyk : y.kind = 2) (data : ByteArray) (ha : a + data.size ≤ 4096) (hroom : data.size = 0 ∨ usedN s.nds + (a + data.size - y.data.length) ≤ c.room) :
    Calls Tryz.prog 39 #[ptrV c.tb, .int .i64 k, .string data] w fun e w' => e = .returned (.int .i64 0) ∧ ∃ F', Sys w' F' c { s with nds := upd s.nds n { y with data := putW y.data a (tl data) }, hs := upd s.hs k { x with kd := .file n (a + data.size) r true false } } ∧ Chg F F' w w' := by
  obtain ⟨Ft, Fp, Fh, h, hF⟩ := h
  obtain ⟨lab, mb, mem, v, ht, hFh⟩ := h.tab
  have hf := tfind_some ht hx
  have hd := ht.hd k x hx
  have c0 := hd.blk.cell (i := 0) rfl
  rw [show doesV s.pp x.kd (mem k).ob = .iface 158 (ptrV (mem k).ob) by rw [hk]; rfl] at c0
  have hlt := hd.blk.lt
  have ho := hd.ob
  rw [hk] at ho
  have hobF : Fh (mem k).ob := (hFh _).2 (by rw [ho.2]; exact nofun)
  have hobn : ¬ Ft (mem k).ob := fun hf => h.th _ hf hobF
  have hr := file_write ho.1 h.tree hobn hy hyk data ha hroom
  have hfin : ∀ w' X F', TreeF X F' c.fb c.most c.room (upd s.nds n { y with data := putW y.data a (tl data) }) → Chg Ft F' w X → Chg (fun g => g = (mem k).ob) (fun g => g = (mem k).ob) X w' → Blk w' (mem k).ob (fileC c.fb n (a + data.size) r true false) 162 →
      ∃ F'', Sys w' F'' c { s with nds := upd s.nds n { y with data := putW y.data a (tl data) }, hs := upd s.hs k { x with kd := .file n (a + data.size) r true false } } ∧ Chg F F'' w w' := fun w' X F' hT hC hC2 hb2 => by
    obtain ⟨h2, c2⟩ := h.treeStep hT hC
    have ht2 := ht.keep (w' := X) hC.size fun g hg => hC.block g (h.tab.lt ((hFh g).2 hg)) fun hf => h.th g hf ((hFh g).2 hg)
    obtain ⟨Fh', h3, h4⟩ := ht2.does hFh hx (.file n (a + data.size) r true false) (by rw [hk]; rfl) ho.2 hC2 ⟨hb2, ho.2⟩
    obtain ⟨h5, c5⟩ := h2.tabStep0 h3 h4
    exact Sys.of hF h5 (c2.trans c5)
  generalize { x with kd := Kd.file n (a + data.size) r true false } = x' at hfin ⊢
  generalize { y with data := putW y.data a (tl data) } = y' at hr hfin ⊢
  generalize (mem k).blk = kb at hf c0 hlt
  unfold ptrV at hf c0 hr ⊢
  replace hfin := Lib.hid hfin
  replace hr := Lib.hid hr
  clear h hd ht hF hFh hx ho hobF hobn hk
  go_enter Tryz.func39, Tryz.ntmps39
  go_wp2_with fail
  refine hf.mono ?_
  rintro e w' ⟨rfl, hw⟩
  obtain rfl := hw.symm
  clear hf hw
  go_wp2_with fail
  refine hr.out.mono ?_
  rintro e w2 ⟨rfl, X, F', hT, hC, hC2, hb2⟩
  have hres := hfin.out w2 X F' hT hC hC2 hb2
  replace hres := Lib.hid hres
  clear hfin hr hT hC hC2 hb2
  go_wp2
  go_ret
  exact ⟨rfl, hres.out⟩
end
end Go.Proofs.YtglcfbefpnphaaaGreatDoor

namespace Go.Proofs.YtglcfbefpnphaaaGreatDoor
open Go Go.RowKit Go.ChangeMaps

def Refuses (F : Nat → Prop) (fb most room : Nat) (nds : Nds) (n : Int) (a : Nat) (s : ByteArray) (er : Int) : Prop := ∀ W, TreeF W F fb most room nds → Calls Tryz.prog 267 #[.pointer (some ⟨fb, 0, none⟩), .int .i64 n, .int .i64 (a : Int), .string s] W fun e w' => e = .returned (.int .i64 er) ∧ ∃ m, w' = W.drewN m
section
variable {w : World} {F : Nat → Prop} {fb most room : Nat} {nds : Nds} {ob a : Nat} {n : Int} {r : Bool}
end
section
variable {w : World} {F : Nat → Prop} {c : Sy} {s : St} {k : Int} {x : Hd}
end
end Go.Proofs.YtglcfbefpnphaaaGreatDoor
/-
  The methods that the kinds of handles have of a kind that can do nothing, found. Conditions: the kind's block.
  What a table's calls refuse: numbers that are not there, what a handle was not opened for, counts below nothing. Conditions: none.
  File and Sink refuse: no such node, a directory, what may not be opened so; a most that may not be. Conditions: none.
-/
namespace Go.Proofs.YtglcfbefpnphaaaGreatDoor
open Go Go.RowKit

end Go.Proofs.YtglcfbefpnphaaaGreatDoor

namespace Go.Proofs.YtglcfbefpnphaaaGreatDoor
open Go Go.RowKit Go.ChangeMaps
section
variable {w : World} {F : Nat → Prop} {fb : Nat} {ob a pb bb ends : Nat} {n : Int} {r wr m : Bool}

end
section
variable {w : World} {F : Nat → Prop} {c : Sy} {s : St} {k : Int} {x : Hd}
end
end Go.Proofs.YtglcfbefpnphaaaGreatDoor

namespace Go.Proofs.YtglcfbefpnphaaaGreatDoor
open Go Go.RowKit Go.ChangeMaps

section
variable {w : World} {F : Nat → Prop} {c : Sy} {s : St}
end
end Go.Proofs.YtglcfbefpnphaaaGreatDoor
/-
  Numbers that are back are given out again, the least first: heap.down, heap.Pop, take. Conditions: at most a million numbers.
-/
namespace Go.Proofs.YtglcfbefpnphaaaGreatDoor
open Go Go.RowKit

section
variable {w : World} {tb top : Nat} {a0 a1 a2 v : Value} {xs : List Int}
/-- The least number that is not out. -/
def Least (ids : List Int) (k : Int) : Prop := 1 ≤ k ∧ k ∉ ids ∧ ∀ j, 1 ≤ j → j < k → j ∈ ids
set_option maxHeartbeats 1000000 in
set_option maxRecDepth 100000 in
theorem nums_leaveT {ids : List Int} (h : NumR w tb a0 a1 a2 ids top v xs) (hnd : ids.Nodup) {id : Int} (hid : id ∈ ids) :
    Calls Tryz.prog 93 #[.pointer (some ⟨tb, 3, none⟩), .int .i64 id] w fun e w' => e = .returned (.tuple #[]) ∧ ∃ (top' : Nat) (v' : Value) (ys : List Int), top' ≤ top ∧ NumR w' tb a0 a1 a2 (ids.filter fun j => j ≠ id) top' v' ys ∧
      Chg (fun b => b = tb ∨ v.ownBlock = some b) (fun b => b = tb ∨ v.ownBlock = some b ∨ v'.ownBlock = some b) w w' ∧ (v'.ownBlock = none ∨ v'.ownBlock = v.ownBlock ∨ ∃ g, v'.ownBlock = some g ∧ w.heap.size ≤ g) := by
  have hpush := heap_Push h.at_ h.hp id (by have := h.cnt; have := h.few; omega)
  have hlt := h.at_.blk.lt
  have hcnt := h.cnt
  have hfew := h.few
  have hpu := fun w' v' ys => h.pushed (w' := w') (v' := v') (ys := ys) hnd hid
  replace hpu := Lib.hid hpu
  replace h := Lib.hid h
  replace hcnt := Lib.hid hcnt
  go_enter Tryz.func93, Tryz.ntmps93
  go_wp2_with fail
  refine hpush.mono ?_
  rintro e w1 ⟨rfl, v', ys, hN, hP, hH, hC, how⟩
  have hR := hpu.out w1 v' ys hN hP hH
  obtain ⟨A, c, hv, hc, hcm⟩ := hN.row.form
  have c3 := hN.blk.cell (i := 3) rfl
  have c4 := hN.blk.cell (i := 4) rfl
  have f3 := hN.blk.frozen 3
  have f4 := hN.blk.frozen 4
  have hl1 := hN.blk.lt
  rw [hv] at c4
  obtain ⟨K, hK⟩ : ∃ K, ys.length = K := ⟨_, rfl⟩
  rw [hK] at c4 hc
  replace hN := Lib.hid hN
  replace hR := Lib.hid hR
  replace hC := Lib.hid hC
  replace how := Lib.hid how
  replace hK := Lib.hid hK
  replace hv := Lib.hid hv
  clear hpush hP hH hpu
  go_wp2_with fail
  go_quiet ((go_at_call 136; refine Calls.quiet_of_same (is_Len A K c _)))
  by_cases hkt : K = top
  · have e1 : ((K : Int) == (top : Int)) = true := by simp [hkt]
    go_wp2
    go_end0
    have hb := (hN.out.blk.set 3 (.int .i64 0)).set 4 (.slice none 0 0)
    have hR' := hR.out
    have hl0 : (ids.filter fun j => j ≠ id).length = 0 := by have := hR'.cnt; have := hK.out; omega
    have hnil := List.eq_nil_of_length_eq_zero hl0
    refine ⟨rfl, 0, .slice none 0 0, [], Nat.zero_le _, ⟨⟨hb, .inl ⟨rfl, rfl, rfl⟩, nofun, Nat.zero_le _⟩, IsHp.nil _, by rw [hnil]; rfl, fun j => ?_, nofun, List.nodup_nil, Nat.zero_le _⟩, ?_, .inl rfl⟩
    · rw [hnil]
      simp
      omega
    · refine ((hC.out.trans (Chg.drewN _ w1 nq)).trans (((Chg.set (F := fun b => b = tb ∨ v.ownBlock = some b ∨ v'.ownBlock = some b) (.inl rfl) 3 _).trans (Chg.set (.inl rfl) 4 _)))).mono (fun b hb => hb) (fun b _ hb => ?_)
      rcases hb with hb | hb | hb
      · exact .inr (.inl hb)
      · exact .inr (.inr hb)
      · cases hb
  · have e1 : ((K : Int) == (top : Int)) = false := by simp; omega
    go_wp2
    go_end0
    exact ⟨rfl, top, v', ys, Nat.le_refl _, hR.out.keep rfl (fun _ _ => rfl), hC.out.trans (Chg.drewN _ w1 nq), .inr how.out⟩
end
end Go.Proofs.YtglcfbefpnphaaaGreatDoor
