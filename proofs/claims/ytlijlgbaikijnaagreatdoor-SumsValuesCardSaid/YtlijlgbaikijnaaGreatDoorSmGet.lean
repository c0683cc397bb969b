/-
  The value of a name over a table, by the package. Conditions: texts of at most a million bytes.
-/
import Derived.Test.YtlijlgbaikijnaaGreatDoorSmSet
import Derived.Test.YtlijlgbaikijnaaGreatDoorSmTwo
namespace Go.Proofs.YtlijlgbaikijnaaGreatDoor
open Go Go.RowKit

/-- The value of a name: of none 0; none, if its text is no number. -/
def getV (ps : List Pr) (nm : ByteArray) : Option Int := match getP ps nm with | some s => numP (tl s) | none => some 0
def Vals (ps : List Pr) : Prop := ∀ p ∈ ps, p.2.1.size ≤ 1000000
/-- A valuer over the table at a place. -/
def valr (tb : Nat) : Value := .agg #[.iface 41 (.pointer (some ⟨tb, 0, none⟩))]
theorem below_none {w w' : World} (h : Below w.heap.size w w') : w.grownBy w' none := ⟨h.os, h.tape, h.output, h.size, fun k hk _ => h.block k hk⟩

theorem method_get (a : Addr) (w : World) : (method 276 41 (.pointer (some a)) "Get").run Tryz.prog w = .ok (20, .pointer (some a)) w := by kernel_rfl
theorem method_set (a : Addr) (w : World) : (method 276 41 (.pointer (some a)) "Set").run Tryz.prog w = .ok (146, .pointer (some a)) w := by kernel_rfl
set_option maxHeartbeats 1000000 in
set_option maxRecDepth 100000 in
theorem vget_any (nm : ByteArray) (tb : Nat) (ps : List Pr) (w : World) (ht : TabAt w tb ps) (hv : Vals ps) :
    Calls Tryz.prog 69 #[valr tb, .string nm] w fun e w' => (match getV ps nm with | some n => e = .returned (.int .i64 n) | none => e = thrown 23 0) ∧ w.grownBy w' none := by
  have hg := fun W (h : TabAt W tb ps) => get_any nm tb ps W h
  have hlt : ∃ v, w.cell? ⟨tb, 0, none⟩ = some v := ht.cell.imp fun _ h => h.1
  obtain ⟨_, hlt⟩ := hlt
  have hlt := World.block_lt_of_cell? w ⟨tb, 0, none⟩ hlt
  have ht := Lib.hid ht
  have hvs : Hid (∀ s, getP ps nm = some s → s.size ≤ 1000000) := by
    intro s hs
    unfold getP at hs
    cases hf : firstP ps nm with
    | none => rw [hf] at hs; cases hs
    | some i =>
      rw [hf] at hs
      have hi := firstP_lt hf
      simp only [List.getElem?_eq_getElem hi, Option.map_some] at hs
      obtain rfl := Option.some.inj hs
      exact hv _ (List.getElem_mem hi)
  unfold getV
  cases hgp : getP ps nm with
  | none =>
    rw [hgp] at hg
    simp only at hg ⊢
    clear hgp hvs hv
    unfold valr
    have hme := fun W => method_get ⟨tb, 0, none⟩ W
    go_enter Tryz.func69, Tryz.ntmps69
    go_wp2_with fail
    obtain ⟨w2, hW2, hs2, hgr, _, _, hold⟩ := one_new w #[.iface 41 (.pointer (some ⟨tb, 0, none⟩))] 91
    rw [hW2]
    have hg2 := hgr none
    have hgt := hg w2 (ht.out.keep hg2)
    clear hW2 hgr hold hg hme
    refine hgt.mono ?_
    rintro e w3 ⟨rfl, hg3⟩
    have hgE := grownBy_trans' hg2 hg3
    clear hgt
    go_wp2
    go_ret
    exact ⟨rfl, hgE⟩
  | some s =>
    rw [hgp] at hg
    simp only at hg ⊢
    have hs := hvs.out s hgp
    have hnm := fun W => number_any s W hs
    have hth := fun W => throw_any 23 0 W
    clear hgp hvs hv
    unfold valr
    have hme := fun W => method_get ⟨tb, 0, none⟩ W
    obtain ⟨o, ho⟩ : ∃ o, numP (tl s) = o := ⟨_, rfl⟩
    rw [ho] at hnm ⊢
    clear ho
    go_enter Tryz.func69, Tryz.ntmps69
    go_wp2_with fail
    obtain ⟨w2, hW2, hs2, hgr, _, _, hold⟩ := one_new w #[.iface 41 (.pointer (some ⟨tb, 0, none⟩))] 91
    rw [hW2]
    have hg2 := hgr none
    have hgt := hg w2 (ht.out.keep hg2)
    clear hW2 hgr hold hg hme
    refine hgt.mono ?_
    rintro e w3 ⟨rfl, hg3⟩
    have hgE := grownBy_trans' hg2 hg3
    clear hgt
    go_wp2_with fail
    refine (hnm _).mono ?_
    rintro e w4 ⟨rfl, hb4⟩
    have hgF := grownBy_trans' hgE (below_none hb4)
    clear hnm
    cases o with
    | some n =>
      unfold numR
      go_wp2
      go_ret
      exact ⟨rfl, hgF⟩
    | none =>
      unfold numR
      go_wp2_with fail
      refine (hth _).mono ?_
      rintro e w5 ⟨rfl, rfl⟩
      exact ⟨rfl, rfl, hgF⟩
end Go.Proofs.YtlijlgbaikijnaaGreatDoor
