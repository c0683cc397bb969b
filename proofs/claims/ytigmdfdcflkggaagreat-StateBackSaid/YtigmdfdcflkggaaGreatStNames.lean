/-
  Calls that are asked for, in memory; their names. Conditions: at most a million calls.
-/
import Derived.Test.YtigmdfdcflkggaaGreatStToldN
namespace Go.Proofs.YtigmdfdcflkggaaGreat
open Go Go.RowKit Go.ChangeMaps

/-- A call that is asked for. -/
structure Od where
  x : Int
  k : ByteArray
  s : ByteArray
  n : Int
  A : Option Addr
  m : Nat
  c : Nat
  l : List ByteArray
/-- A slice reads as such calls. -/
def OpsC (w : World) (A : Option Addr) (m c : Nat) (l : List Od) : Prop := l.length = m ∧ m ≤ c ∧ c ≤ maxLen ∧ (0 < m → ∃ b off : Nat, A = some ⟨b, off, none⟩ ∧ b < w.heap.size ∧ ∀ (j : Nat) o, l[j]? = some o →
  w.cell? ⟨b, off + j * 5, none⟩ = some (.int .i64 o.x) ∧ w.cell? ⟨b, off + j * 5 + 1, none⟩ = some (.string o.k) ∧ w.cell? ⟨b, off + j * 5 + 2, none⟩ = some (.string o.s) ∧ w.cell? ⟨b, off + j * 5 + 3, none⟩ = some (.int .i64 o.n) ∧ w.cell? ⟨b, off + j * 5 + 4, none⟩ = some (.slice o.A o.m o.c))
section
variable {w w' : World}
theorem OpsC.below {A : Option Addr} {m c : Nat} {l : List Od} (h : OpsC w A m c l) (k : Below w.heap.size w w') : OpsC w' A m c l := ⟨h.1, h.2.1, h.2.2.1, fun hn => by
  obtain ⟨b, off, e1, e2, e3⟩ := h.2.2.2 hn
  refine ⟨b, off, e1, Nat.lt_of_lt_of_le e2 k.size, fun j o ho => ?_⟩
  have q := fun i => World.cell?_of_block (a := ⟨b, i, none⟩) (k.block b e2)
  obtain ⟨a0, a1, a2, a3, a4⟩ := e3 j o ho
  exact ⟨(q _).trans a0, (q _).trans a1, (q _).trans a2, (q _).trans a3, (q _).trans a4⟩⟩
def namesO (l : List Od) : List Value := l.map fun o => .string o.k
set_option maxRecDepth 100000 in
set_option maxHeartbeats 4000000 in
theorem named_any {A : Option Addr} {m c : Nat} {l : List Od} (w : World) (h : OpsC w A m c l) (hm : m ≤ 1000000) :
    Calls Tryz.prog 11 #[.slice A m c] w fun e w' => ∃ v, e = .returned v ∧ w'.ownsRow w.heap.size 9 1 v m (namesO l) ∧ Below w.heap.size w w' := by
  obtain ⟨i0, hi, hz0, hz1, hz2⟩ := info_parts infoStr
  obtain ⟨hlen, hmc, hcm, hcell⟩ := h
  unfold maxLen at hcm
  obtain ⟨z, hz⟩ : ∃ z, w.heap.size = z := ⟨_, rfl⟩
  rw [hz]
  have hrow0 : Hid (w.ownsRow z 9 1 (.slice none 0 0) (l.take 0).length (namesO (l.take 0))) := Lib.hid (World.ownsRow_nil _ _ _ _)
  have hb0 : Hid (Below z w w) := Lib.hid (Below.refl _ _)
  replace hi := Lib.hid hi
  replace hz := Lib.hid hz
  replace hlen := Lib.hid hlen
  replace hcell := Lib.hid hcell
  go_enter Tryz.func11, Tryz.ntmps11
  go_wp2
  go_loopw [4, 3] (fun iv ov wr => ∃ j : Nat, j ≤ m ∧ iv = .int .i64 (j : Int) ∧ Hid (wr.ownsRow z 9 1 ov (l.take j).length (namesO (l.take j))) ∧ Hid (Below z w wr)) (fun iv _ _ => m - (intOf iv).toNat)
  case atStart => exact ⟨0, Nat.zero_le _, rfl, hrow0, hb0⟩
  case round =>
    clear hrow0 hb0
    obtain ⟨j, hj, rfl, hrow, hbz⟩ := hrel
    have hjl : (l.take j).length = j := by rw [List.length_take, hlen.out]; omega
    rw [hjl] at hrow
    obtain ⟨A2, c2, rfl, hc2, hcm2⟩ := own_form hrow.out
    unfold maxLen at hcm2
    by_cases hlt : j < m
    · have hjn : j < l.length := by rw [hlen.out]; exact hlt
      obtain ⟨b, off, rfl, hbl, hcc⟩ := hcell.out (by omega)
      have hbz2 : b < z := by rw [← hz.out]; exact hbl
      have ck := (World.cell?_of_block (a := ⟨b, off + j * 5 + 1, none⟩) (hbz.out.block b hbz2)).trans (hcc j l[j] (List.getElem?_eq_getElem hjn)).2.1
      have cl := Nat.lt_of_lt_of_le hbl hbz.out.size
      have htk : l.take (j + 1) = l.take j ++ [l[j]] := List.take_succ_eq_append_getElem hjn
      have hno : namesO (l.take (j + 1)) = namesO (l.take j) ++ [.string l[j].k] := by rw [htk]; unfold namesO; rw [List.map_append]; rfl
      have hl1 : (l.take (j + 1)).length = j + 1 := by rw [List.length_take, hlen.out]; omega
      have hj1 : (0 : Int) ≤ (j : Int) := by omega
      have hj2 : (j : Int) < (m : Int) := by omega
      generalize l[j] = o at ck hno
      obtain ⟨x, k, s, n, Ao, mo, co, lo⟩ := o
      dsimp only at ck hno
      have hBn : ∀ i u, ([.string k] : List Value)[i]? = some u → (wr.alloc (.cells #[.string k] 9)).cell? ((⟨wr.heap.size, 0, none⟩ : Addr).add i) = some u := by
        intro i u hu
        rw [add_plain0, Nat.zero_add]
        exact (Blk.new wr [.string k] 9).cell hu
      obtain ⟨gg, cap, w5, hrun, hrow5, hgr5, hat, hgl5⟩ := run_append_lies (P := Tryz.prog) (wr.alloc (.cells #[.string k] 9)) 35 35 z 9 i0 _ 1 16 Tryz.underlying35 hi.out hz0 hz1 hz2 rfl (by decide)
        (.slice A2 j c2) j _ (hrow.out.alloc _) ⟨wr.heap.size, 0, none⟩ 1 1 [.string k] rfl hBn (by simp [Value.oneCell']) (by decide) (by unfold maxLen; omega) (by omega) (by have := hbz.out.size; rw [hz.out] at this; simp; omega) (wr.heap.size + 1) (by simp)
      have hlt5 := hrow.out.lt
      have hbz5 : Hid (Below z w w5) := Lib.hid ((hbz.out.alloc (by have := hbz.out.size; rw [hz.out] at this; omega) _).grown hgr5 (by have := hbz.out.size; rw [hz.out] at this; simp; omega) (fun k hk => (hlt5 k hk).1))
      have hrowE : Hid (w5.ownsRow z 9 1 (.slice (some ⟨gg, 0, none⟩) (j + 1) cap) (l.take (j + 1)).length (namesO (l.take (j + 1)))) := Lib.hid (by rw [hl1, hno]; simpa using hrow5)
      replace hrun := Lib.hid hrun
      clear hrow hrow5 hgr5 hat hgl5 hlt5 hBn hbz hno htk hl1 hjl hcc
      go_wp2_with (at_builtin; refine wpList_append_of rfl _ _ 35 35 rfl _ _ _ w5 rfl rfl hrun.out ?_)
      go_wp2
      go_roundw
      case rel => exact ⟨j + 1, by omega, by go_num, hrowE, hbz5⟩
      case measure => simp [intOf]; omega
    · obtain rfl : j = m := by omega
      have hj2 : ¬ (j : Int) < (j : Int) := by omega
      have hfin := Lib.hid (And.intro hrow.out hbz.out)
      rw [show l.take j = l by rw [← hlen.out, List.take_length]] at hfin
      clear hrow hbz hcell
      go_wp2
      go_ret
      exact ⟨_, rfl, hfin.out⟩
end
end Go.Proofs.YtigmdfdcflkggaaGreat
