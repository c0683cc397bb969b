/-
  pairs, by the law: at most twenty, and none of their texts is longer than a hundred bytes. Conditions: none.
  same, by the law: two tables that hold the same pairs are the same. Conditions: none.
  tables, by the law: the two tables that hold the pairs given, in new memory. Conditions: at most a million pairs.
-/
import Derived.Test.YtlijlgbaikijnaaGreatDoorSmSet
import Derived.Test.YtlijlgbaikijnaaGreatDoorSmRSet
import Derived.BigQuiet
import Derived.Test.YtlijlgbaikijnaaGreatDoorSmRText
import Derived.Test.YtlijlgbaikijnaaGreatDoorSmAwake
import Derived.OrdersHeld
namespace Go.Proofs.YtlijlgbaikijnaaGreatDoor
open Go Go.RowKit

def pairsV (l : List Pr) : Bool := if 20 < l.length then false else l.all fun p => !(decide (100 < p.1.size) || decide (100 < p.2.1.size))
theorem prs_of_sl {w : World} {v : Value} {ps : List Pr} (h : Sl w w.heap.size 3 v ps.length (cellsPr ps)) : PrS w w.heap.size v ps := by
  refine ⟨h, fun b off n c hv hn hb => ?_⟩
  obtain ⟨A, c', hv', _, _, _, h4⟩ := h
  rw [hv] at hv'
  injection hv' with e1 e2 e3
  obtain ⟨b', off', hA, hlt, _⟩ := h4 (by omega)
  rw [hA] at e1
  have e := (Addr.mk.inj (Option.some.inj e1)).1
  omega
set_option maxHeartbeats 2000000 in
set_option maxRecDepth 100000 in
theorem pairs_any (tb : Nat) (v : Value) (ps : List Pr) (w : World) (hp : PrS w tb v ps) :
    Calls Tryz.prog 16 #[v] w fun e w' => e = .returned (.bool (pairsV ps)) ∧ w' = w := by
  obtain ⟨A, c, rfl, hc, hcm⟩ := hp.form
  unfold maxLen at hcm
  obtain ⟨R, hR⟩ : ∃ R : Bool, pairsV ps = R := ⟨_, rfl⟩
  rw [hR]
  unfold pairsV at hR
  obtain ⟨PL, hPL⟩ : ∃ PL, ps.length = PL := ⟨_, rfl⟩
  rw [hPL] at hp hc hR ⊢
  by_cases h20 : 20 < PL
  · obtain rfl : false = R := by rw [← hR, if_pos h20]
    have i1 : (20 : Int) < (PL : Int) := by omega
    clear hR hp hPL h20
    go_enter Tryz.func16, Tryz.ntmps16
    go_wp2
    go_ret
    exact ⟨rfl, rfl⟩
  · rw [if_neg h20] at hR
    have i1 : ¬ (20 : Int) < (PL : Int) := by omega
    replace hp := Lib.hid hp
    replace hR := Lib.hid hR
    replace hPL := Lib.hid hPL
    go_enter Tryz.func16, Tryz.ntmps16
    go_wp2
    go_loopw [3] (fun nv wr => ∃ m : Nat, m ≤ PL ∧ nv = .int .i64 (m : Int) ∧ wr = w ∧ Hid (∀ i (hi : i < ps.length), i < m → ¬ 100 < ps[i].1.size ∧ ¬ 100 < ps[i].2.1.size)) (fun nv _ => PL - (intOf nv).toNat)
    case atStart => exact ⟨0, Nat.zero_le _, rfl, rfl, fun _ _ h => absurd h (Nat.not_lt_zero _)⟩
    case round =>
      obtain ⟨m, hm, rfl, rfl, hno⟩ := hrel
      by_cases hlt : m < PL
      · have hlt' : m < ps.length := by rw [hPL.out]; exact hlt
        obtain ⟨b, off, rfl, _, _, c0, c1, _⟩ := hp.out.at_ m hlt'
        obtain ⟨s0, hs0⟩ : ∃ s, ps[m].1 = s := ⟨_, rfl⟩
        obtain ⟨s1, hs1⟩ : ∃ s, ps[m].2.1 = s := ⟨_, rfl⟩
        rw [hs0] at c0
        rw [hs1] at c1
        have hbad : 100 < s0.size ∨ 100 < s1.size → R = false := fun h => by
          rw [← hR.out, List.all_eq_false]
          refine ⟨ps[m], List.getElem_mem _, ?_⟩
          rw [hs0, hs1]
          rcases h with h | h <;> simp [h]
        by_cases hb0 : 100 < s0.size
        · obtain rfl : R = false := hbad (.inl hb0)
          have i2 : (100 : Int) < (s0.size : Int) := by omega
          clear hR hno hs0 hs1 hbad
          go_wp2
          go_ret
          exact ⟨rfl, rfl⟩
        · have i2 : ¬ (100 : Int) < (s0.size : Int) := by omega
          by_cases hb1 : 100 < s1.size
          · obtain rfl : R = false := hbad (.inr hb1)
            have i3 : (100 : Int) < (s1.size : Int) := by omega
            clear hR hno hs0 hs1 hbad
            go_wp2
            go_ret
            exact ⟨rfl, rfl⟩
          · have i3 : ¬ (100 : Int) < (s1.size : Int) := by omega
            have hno2 : Hid (∀ i (hi : i < ps.length), i < m + 1 → ¬ 100 < ps[i].1.size ∧ ¬ 100 < ps[i].2.1.size) := fun i hi h => by
              rcases Nat.lt_or_ge i m with h' | h'
              · exact hno.out i hi h'
              · obtain rfl : i = m := by omega
                rw [hs0, hs1]; exact ⟨hb0, hb1⟩
            clear hno hs0 hs1 hbad
            go_wp2
            go_roundw
            case rel => exact ⟨m + 1, by omega, by go_num, trivial, hno2⟩
            case measure => simp [intOf]; omega
      · obtain rfl : m = PL := by omega
        have hRr : R = true := by
          rw [← hR.out, List.all_eq_true]
          intro x hx
          obtain ⟨i, hi, rfl⟩ := List.getElem_of_mem hx
          have := hno.out i hi (by have := hPL.out; omega)
          simp [this.1, this.2]
        subst hRr
        clear hR hno
        go_wp2
        go_ret
        exact ⟨rfl, rfl⟩
end Go.Proofs.YtlijlgbaikijnaaGreatDoor

namespace Go.Proofs.YtlijlgbaikijnaaGreatDoor
open Go Go.RowKit

set_option maxHeartbeats 4000000 in
set_option maxRecDepth 100000 in
theorem sameT_any (tb rb B : Nat) (ps : List Pr) (N : Nat) (T : Nat → Prop) (w : World) (ht : TabAt w tb ps) (h : RTab w rb B ps N T) :
    Calls Tryz.prog 22 #[.pointer (some ⟨tb, 0, none⟩), .pointer (some ⟨rb, 0, none⟩)] w fun e w' => e = .returned (.bool true) ∧ w.grownBy w' none := by
  obtain ⟨⟨v, hv, hq⟩, _⟩ := ht
  obtain ⟨⟨vp, vl, ls, hr, hown, _⟩, _, hlo, _, _⟩ := h
  have hp := prS_own hown rfl hlo
  obtain ⟨A, c, rfl, hc, hcm⟩ := hp.form
  obtain ⟨A2, c2, rfl, hc2, hcm2⟩ := hq.form
  unfold maxLen at hcm hcm2
  have r0 : w.cell? ⟨rb, 0, none⟩ = some (.slice A ps.length c) := by rw [cell_of_row w _ _ _ _ _ hr]; rfl
  obtain ⟨PL, hPL⟩ : ∃ PL, ps.length = PL := ⟨_, rfl⟩
  rw [hPL] at hp hc r0 hq hc2 hv
  replace hp := Lib.hid hp
  replace hq := Lib.hid hq
  replace hPL := Lib.hid hPL
  clear hown hr hlo
  go_enter Tryz.func22, Tryz.ntmps22
  go_upto_region 1 with fail
  go_quiet (fail)
  have hgd : w.grownBy (w.drewN nq) none := ⟨rfl, rfl, rfl, Nat.le_refl _, fun _ _ _ => rfl⟩
  generalize w.drewN nq = w1 at *
  have k0 := hgd.cell hv (by simp)
  have k1 := hgd.cell r0 (by simp)
  go_wp2
  go_loopw [5] (fun nv wr => ∃ m : Nat, m ≤ PL ∧ nv = .int .i64 (m : Int) ∧ Hid (w.grownBy wr none)) (fun nv _ => PL - (intOf nv).toNat)
  case atStart => exact ⟨0, Nat.zero_le _, rfl, hgd⟩
  case round =>
    obtain ⟨m, hm, rfl, hgr⟩ := hrel
    have k0 := hgr.out.cell hv (by simp)
    have k1 := hgr.out.cell r0 (by simp)
    by_cases hlt : m < PL
    · have hlt' : m < ps.length := by rw [hPL.out]; exact hlt
      obtain ⟨b, off, rfl, _, _, c0, c1, c2⟩ := hp.out.at_ m hlt'
      obtain ⟨b2, off2, rfl, _, _, d0, d1, d2⟩ := hq.out.at_ m hlt'
      obtain ⟨x0, x1, x2, hx⟩ : ∃ x0 x1 x2, ps[m] = (x0, x1, x2) := ⟨_, _, _, rfl⟩
      rw [hx] at c0 c1 c2 d0 d1 d2
      simp only at c0 c1 c2 d0 d1 d2
      have c0 := hgr.out.cell c0 (by simp)
      have c1 := hgr.out.cell c1 (by simp)
      have c2 := hgr.out.cell c2 (by simp)
      have d0 := hgr.out.cell d0 (by simp)
      have d1 := hgr.out.cell d1 (by simp)
      have d2 := hgr.out.cell d2 (by simp)
      clear hx hv r0 hgd
      go_upto_region 6 with fail
      go_quiet (fail)
      have hge : w.grownBy (wr.drewN nq) none := grownBy_trans' hgr.out ⟨rfl, rfl, rfl, Nat.le_refl _, fun _ _ _ => rfl⟩
      generalize wr.drewN nq = w5 at *
      go_wp2
      go_roundw
      case rel => exact ⟨m + 1, by omega, by go_num, hge⟩
      case measure => simp [intOf]; omega
    · obtain rfl : m = PL := by omega
      clear hv r0 hgd
      go_wp2
      go_ret
      exact ⟨rfl, hgr.out⟩
end Go.Proofs.YtlijlgbaikijnaaGreatDoor

namespace Go.Proofs.YtlijlgbaikijnaaGreatDoor
open Go Go.RowKit

theorem infoPair : (Tryz.prog.info? 57).map (fun i => (i.zero, i.size, i.bytes)) = some (some (.agg #[.string ⟨#[]⟩, .string ⟨#[]⟩, .bool false]), 3, 40) := by kernel_rfl
theorem tab_app {w0 wr w2 w3 : World} {R B n gg cap k : Nat} {v vo : Value} {cs : Array Value} {tt te tq : TypeId} {xs news ys : List Value} (hrow : wr.heap[R]? = some (.cells cs tt (0, 0)))
    (hv : wr.ownsRow B te 3 v n xs) (ho : wr.ownsRow B tq 3 vo k ys) (hd : ∀ g, v.ownBlock = some g → vo.ownBlock ≠ some g) (h12 : wr.grownBy w2 none)
    (hown3 : w3.ownsRow B te 3 (.slice (some ⟨gg, 0, none⟩) (n + 1) cap) (n + 1) (xs ++ news)) (hgrow : w2.grownBy w3 v.ownBlock) (hat : v.ownBlock = some gg ∨ gg = w2.heap.size) (hlo : R < B) (h0 : w0.grownBy wr none) (hR : w0.heap.size ≤ R) :
    w3.heap[R]? = some (.cells cs tt (0, 0)) ∧ (w3.setCell ⟨R, 0, none⟩ (.slice (some ⟨gg, 0, none⟩) (n + 1) cap)).heap[R]? = some (.cells (cs.setIfInBounds 0 (.slice (some ⟨gg, 0, none⟩) (n + 1) cap)) tt (0, 0)) ∧
    (w3.setCell ⟨R, 0, none⟩ (.slice (some ⟨gg, 0, none⟩) (n + 1) cap)).ownsRow B te 3 (.slice (some ⟨gg, 0, none⟩) (n + 1) cap) (n + 1) (xs ++ news) ∧
    (w3.setCell ⟨R, 0, none⟩ (.slice (some ⟨gg, 0, none⟩) (n + 1) cap)).ownsRow B tq 3 vo k ys ∧ (vo.ownBlock ≠ some gg) ∧ w0.grownBy (w3.setCell ⟨R, 0, none⟩ (.slice (some ⟨gg, 0, none⟩) (n + 1) cap)) none ∧
    (∀ j, j < B → j < wr.heap.size → j ≠ R → (w3.setCell ⟨R, 0, none⟩ (.slice (some ⟨gg, 0, none⟩) (n + 1) cap)).heap[j]? = wr.heap[j]?) := by
  have hlt := (Array.getElem?_eq_some_iff.1 hrow).1
  have hs := h12.size
  have hs3 := hgrow.size
  have hs0 := h0.size
  have hne : ∀ j, j < B → some j ≠ v.ownBlock := fun j hj e => by have := (hv.lt j e.symm).1; omega
  have hrow3 : w3.heap[R]? = some (.cells cs tt (0, 0)) := (hgrow.block R (by omega) (hne R hlo)).trans ((h12.block R hlt (by simp)).trans hrow)
  have hsz : (w3.setCell ⟨R, 0, none⟩ (.slice (some ⟨gg, 0, none⟩) (n + 1) cap)).heap.size = w3.heap.size := by simp [World.setCell]
  have hoth : ∀ j, j < B → j < wr.heap.size → j ≠ R → (w3.setCell ⟨R, 0, none⟩ (.slice (some ⟨gg, 0, none⟩) (n + 1) cap)).heap[j]? = wr.heap[j]? := fun j hj hjl hjR => by
    rw [heap_setCell_other w3 ⟨R, 0, none⟩ j _ (fun e => hjR e), hgrow.block j (by omega) (hne j hj), h12.block j hjl (by simp)]
  refine ⟨hrow3, heap_setCell_same w3 R 0 _ _ _ hrow3, ?_, ?_, fun e => ?_, ⟨?_, ?_, ?_, by omega, fun j hj _ => ?_⟩, hoth⟩
  · exact ownsRow_setCell_below hown3 (by show R < _; exact hlo) _
  · refine ownsRow_setCell_below ?_ (by show R < _; exact hlo) _
    have h2 := ho.kept h12 (by cases hv : vo.ownBlock <;> simp)
    exact h2.kept hgrow (by
      cases hv : vo.ownBlock with
      | none => exact .inl rfl
      | some g => exact .inr (fun e => hd g e.symm hv))
  · rcases hat with h | h
    · exact hd gg h e
    · have := (ho.lt gg e).2
      omega
  · exact hgrow.os.trans (h12.os.trans h0.os)
  · exact hgrow.tape.trans (h12.tape.trans h0.tape)
  · exact hgrow.output.trans (h12.output.trans h0.output)
  · rw [hoth j (by omega) (by omega) (by omega)]
    exact h0.block j hj (by simp)
/-- The two tables under way. -/
structure TbS (w wr : World) (z n : Nat) (l : List Pr) (vt vp : Value) : Prop where
  t : wr.heap[z]? = some (.cells #[vt] 59 (0, 0))
  r : wr.heap[z + 1]? = some (.cells #[vp, .slice none 0 0] 86 (0, 0))
  ot : wr.ownsRow (z + 2) 57 3 vt n (cellsPr l)
  op : wr.ownsRow (z + 2) 87 3 vp n (cellsPr l)
  d : ∀ g, vt.ownBlock = some g → vp.ownBlock ≠ some g
  g : w.grownBy wr none
  zz : w.heap.size = z
  sz : z + 2 ≤ wr.heap.size
theorem own_form {w : World} {base n : Nat} {e : TypeId} {v : Value} {xs : List Value} (h : w.ownsRow base e 3 v n xs) : ∃ A c, v = .slice A n c := by
  rcases h.2 with ⟨h, h2⟩ | ⟨g', cap', cur, h, _⟩
  · exact ⟨none, 0, by rw [h, h2]⟩
  · exact ⟨_, _, h⟩
theorem tbs_new (w : World) : TbS w ((w.alloc (.cells #[.slice none 0 0] 59)).alloc (.cells #[.slice none 0 0, .slice none 0 0] 86)) w.heap.size 0 [] (.slice none 0 0) (.slice none 0 0) := by
  have hsz : (w.alloc (.cells #[.slice none 0 0] 59)).heap.size = w.heap.size + 1 := by simp
  refine ⟨?_, ?_, World.ownsRow_nil _ _ _ _, World.ownsRow_nil _ _ _ _, by simp [Value.ownBlock], grownBy_trans' (World.grownBy_alloc _ _ _) (World.grownBy_alloc _ _ _), rfl, by simp⟩
  · rw [Below.heap_alloc _ _ _ (by omega)]
    exact heap_alloc_new w _
  · have := heap_alloc_new (w.alloc (.cells #[.slice none 0 0] 59)) (.cells #[.slice none 0 0, .slice none 0 0] 86)
    rwa [hsz] at this
set_option maxHeartbeats 8000000 in
set_option maxRecDepth 100000 in
theorem tables_any (tb0 : Nat) (v : Value) (ps : List Pr) (w : World) (hq : PrS w tb0 v ps) (hN : ps.length ≤ 1000000) :
    Calls Tryz.prog 17 #[v] w fun e w' => e = .returned (.tuple #[.pointer (some ⟨w.heap.size, 0, none⟩), .pointer (some ⟨w.heap.size + 1, 0, none⟩)]) ∧ ∃ vt vp, TbS w w' w.heap.size ps.length ps vt vp := by
  obtain ⟨i0, hi, hz0, hz1, hz2⟩ := info_parts infoPair
  obtain ⟨i1, hj, hy0, hy1, hy2⟩ := info_parts infoRPair
  obtain ⟨A, c, rfl, hc, hcm⟩ := hq.form
  unfold maxLen at hcm
  obtain ⟨PL, hPL⟩ : ∃ PL, ps.length = PL := ⟨_, rfl⟩
  rw [hPL] at hq hc hN ⊢
  replace hq := Lib.hid hq
  replace hPL := Lib.hid hPL
  obtain ⟨z, hz⟩ : ∃ z, w.heap.size = z := ⟨_, rfl⟩
  go_enter Tryz.func17, Tryz.ntmps17
  go_upto_region 3 with fail
  have hst := tbs_new w
  obtain ⟨w2, hw2⟩ : ∃ w2, (w.alloc (.cells #[.slice none 0 0] 59)).alloc (.cells #[.slice none 0 0, .slice none 0 0] 86) = w2 := ⟨_, rfl⟩
  rw [hw2] at hst ⊢
  rw [hz] at hst
  replace hst := Lib.hid hst
  replace hz := Lib.hid hz
  clear hw2
  go_wp2
  go_loopw [6] (fun nv wr => ∃ (m : Nat) (vt vp : Value), m ≤ PL ∧ nv = .int .i64 (m : Int) ∧ Hid (TbS w wr z m (ps.take m) vt vp)) (fun nv _ => PL - (intOf nv).toNat)
  case atStart => exact ⟨0, _, _, Nat.zero_le _, rfl, hst⟩
  case round =>
    obtain ⟨m, vt, vp, hm, rfl, hs⟩ := hrel
    by_cases hlt : m < PL
    · have hlt' : m < ps.length := by rw [hPL.out]; exact hlt
      obtain ⟨b, off, rfl, hbl, _, c0, c1, c2⟩ := hq.out.at_ m hlt'
      obtain ⟨x0, x1, x2, hx⟩ : ∃ x0 x1 x2, ps[m] = (x0, x1, x2) := ⟨_, _, _, rfl⟩
      rw [hx] at c0 c1 c2
      simp only at c0 c1 c2
      have htk : cellsPr (ps.take (m + 1)) = cellsPr (ps.take m) ++ [.string x0, .string x1, .bool x2] := by rw [List.take_succ_eq_append_getElem hlt', cellsPr_append, hx]; rfl
      have hbz : b < z := by have := hz.out; omega
      have e0 := Lib.hid c0
      have e1 := Lib.hid c1
      have e2 := Lib.hid c2
      have c0 := hs.out.g.cell e0.out (by simp)
      have c1 := hs.out.g.cell e1.out (by simp)
      have c2 := hs.out.g.cell e2.out (by simp)
      obtain ⟨At, ct, hvt⟩ := own_form hs.out.ot
      obtain ⟨Ap, cp, hvp⟩ := own_form hs.out.op
      subst hvt
      subst hvp
      have q0 : wr.cell? ⟨z, 0, none⟩ = some (.slice At m ct) := by rw [cell_of_row wr _ _ _ _ _ hs.out.t]; rfl
      replace hx := Lib.hid hx
      replace htk := Lib.hid htk
      go_wp2_with fail
      refine wp_region_last (L := 13) (S := (fun w' : World => w'.cell? ⟨z, 0, none⟩ = some (.slice At m ct) ∧ w'.cell? ⟨b, off + m * 3, none⟩ = some (.string x0) ∧ w'.cell? ⟨b, off + m * 3 + 1, none⟩ = some (.string x1) ∧ w'.cell? ⟨b, off + m * 3 + 2, none⟩ = some (.bool x2))) (by kernel_rfl) ?_
      have hS0 : (fun w' : World => w'.cell? ⟨z, 0, none⟩ = some (.slice At m ct) ∧ w'.cell? ⟨b, off + m * 3, none⟩ = some (.string x0) ∧ w'.cell? ⟨b, off + m * 3 + 1, none⟩ = some (.string x1) ∧ w'.cell? ⟨b, off + m * 3 + 2, none⟩ = some (.bool x2)) wr.drew := ⟨q0, c0, c1, c2⟩
      refine wpAnyT_takeT (n := 40) (i := 0) (v := .pointer (some ⟨z, 0, none⟩)) rfl (by kernel_rfl) (by kernel_rfl) (by kernel_rfl) (by kernel_rfl) (by kernel_rfl) (fun _ _ _ h => h) (Or.inl ⟨by rfl, ?_⟩) hS0 ?_
      · intro W hW
        obtain ⟨k0, k1, k2, k3⟩ := hW
        clear hS0 q0 c0 c1 c2
        go_simp
        try (intro hx; exfalso; omega)
      try simp only [Act.put, List.setIfInBounds_toArray]
      refine wpAnyT_takeT (n := 40) (i := 1) (v := .pointer (some ⟨z, 0, none⟩)) rfl (by kernel_rfl) (by kernel_rfl) (by kernel_rfl) (by kernel_rfl) (by kernel_rfl) (fun _ _ _ h => h) (Or.inl ⟨by rfl, ?_⟩) hS0 ?_
      · intro W hW
        obtain ⟨k0, k1, k2, k3⟩ := hW
        clear hS0 q0 c0 c1 c2
        go_simp
        try (intro hx; exfalso; omega)
      try simp only [Act.put]
      refine wpAnyT_takeT (n := 40) (i := 2) (v := .pointer (some ⟨z, 0, none⟩)) rfl (by kernel_rfl) (by kernel_rfl) (by kernel_rfl) (by kernel_rfl) (by kernel_rfl) (fun _ _ _ h => h) (Or.inl ⟨by rfl, ?_⟩) hS0 ?_
      · intro W hW
        obtain ⟨k0, k1, k2, k3⟩ := hW
        clear hS0 q0 c0 c1 c2
        go_simp
        try (intro hx; exfalso; omega)
      try simp only [Act.put]
      refine wpAnyT_takeT (n := 40) (i := 3) (v := .pointer (some ⟨z, 0, none⟩)) rfl (by kernel_rfl) (by kernel_rfl) (by kernel_rfl) (by kernel_rfl) (by kernel_rfl) (fun _ _ _ h => h) (Or.inl ⟨by rfl, ?_⟩) hS0 ?_
      · intro W hW
        obtain ⟨k0, k1, k2, k3⟩ := hW
        clear hS0 q0 c0 c1 c2
        go_simp
        try (intro hx; exfalso; omega)
      try simp only [Act.put]
      refine wpAnyT_takeT (n := 40) (i := 4) (v := .slice At m ct) rfl (by kernel_rfl) (by kernel_rfl) (by kernel_rfl) (by kernel_rfl) (by kernel_rfl) (fun _ _ _ h => h) (Or.inl ⟨by rfl, ?_⟩) hS0 ?_
      · intro W hW
        obtain ⟨k0, k1, k2, k3⟩ := hW
        clear hS0 q0 c0 c1 c2
        go_simp
        try (intro hx; exfalso; omega)
      try simp only [Act.put]
      refine wpAnyT_takeT (n := 40) (i := 5) (v := .slice (some ⟨b, off, none⟩) PL c) rfl (by kernel_rfl) (by kernel_rfl) (by kernel_rfl) (by kernel_rfl) (by kernel_rfl) (fun _ _ _ h => h) (Or.inl ⟨by rfl, ?_⟩) hS0 ?_
      · intro W hW
        obtain ⟨k0, k1, k2, k3⟩ := hW
        clear hS0 q0 c0 c1 c2
        go_simp
        try (intro hx; exfalso; omega)
      try simp only [Act.put]
      refine wpAnyT_takeT (n := 40) (i := 6) (v := .int .i64 (m : Int)) rfl (by kernel_rfl) (by kernel_rfl) (by kernel_rfl) (by kernel_rfl) (by kernel_rfl) (fun _ _ _ h => h) (Or.inl ⟨by rfl, ?_⟩) hS0 ?_
      · intro W hW
        obtain ⟨k0, k1, k2, k3⟩ := hW
        clear hS0 q0 c0 c1 c2
        go_simp
        try (intro hx; exfalso; omega)
      try simp only [Act.put]
      refine wpAnyT_takeT (n := 40) (i := 7) (v := .pointer (some ⟨b, off + m * 3, none⟩)) rfl (by kernel_rfl) (by kernel_rfl) (by kernel_rfl) (by kernel_rfl) (by kernel_rfl) (fun _ _ _ h => h) (Or.inl ⟨by rfl, ?_⟩) hS0 ?_
      · intro W hW
        obtain ⟨k0, k1, k2, k3⟩ := hW
        clear hS0 q0 c0 c1 c2
        go_simp
        try (intro hx; exfalso; omega)
      try simp only [Act.put]
      refine wpAnyT_takeT (n := 40) (i := 8) (v := .agg #[.string x0, .string x1, .bool x2]) rfl (by kernel_rfl) (by kernel_rfl) (by kernel_rfl) (by kernel_rfl) (by kernel_rfl) (fun _ _ _ h => h) (Or.inl ⟨by rfl, ?_⟩) hS0 ?_
      · intro W hW
        obtain ⟨k0, k1, k2, k3⟩ := hW
        clear hS0 q0 c0 c1 c2
        go_simp
        try (intro hx; exfalso; omega)
      try simp only [Act.put]
      clear hS0
      refine wpAnyT_one (i := 9) rfl (by kernel_rfl) rfl ?_
      go_simp
      have hal : wr.grownBy (wr.alloc (.cells #[.string x0, .string x1, .bool x2] 57)) none := World.grownBy_alloc _ _ _
      have hnw := new_cells wr #[.string x0, .string x1, .bool x2] 57
      have hsA : (wr.alloc (.cells #[.string x0, .string x1, .bool x2] 57)).heap.size = wr.heap.size + 1 := by simp
      generalize wr.alloc (.cells #[.string x0, .string x1, .bool x2] 57) = W2 at hal hnw hsA ⊢
      have q0 := hal.cell q0 (by simp)
      have c0 := hal.cell c0 (by simp)
      have c1 := hal.cell c1 (by simp)
      have c2 := hal.cell c2 (by simp)
      refine ⟨⟨q0, c0, c1, c2⟩, ?_⟩
      refine wpAnyT_one (i := 10) rfl (by kernel_rfl) rfl ?_
      have hown2 : W2.ownsRow (z + 2) 57 3 (.slice At m ct) m (cellsPr (ps.take m)) := hs.out.ot.kept hal (by cases hv : (Value.slice At m ct).ownBlock <;> simp)
      refine wp_append_lies _ (.tmp 21) (.tmp 26) 39 rfl (z + 2) 57 i0 _ 3 40 Tryz.underlying39 hi hz0 hz1 hz2 rfl (by decide) (.slice At m ct) m (cellsPr (ps.take m)) rfl hown2 ⟨wr.heap.size, 0, none⟩ 1 1 [.string x0, .string x1, .bool x2] rfl rfl hnw (by simp [Value.oneCell']) (by decide) (by simp only [maxLen]; omega) (by omega) (by have h1 := hs.out.sz; have h2 := hsA; show z + 2 ≤ W2.heap.size; omega) (wr.heap.size + 1) hsA ?_
      intro gg cap w3 hown3 hgrow hat hgg
      have hgrow : W2.grownBy w3 (Value.slice At m ct).ownBlock := ⟨hgrow.os, hgrow.tape, hgrow.output, hgrow.size, hgrow.block⟩
      obtain ⟨hr3, hr4, hv4, ho4, hd4, hg4, hk4⟩ := tab_app (w0 := w) hs.out.t hs.out.ot hs.out.op hs.out.d hal hown3 hgrow (by rw [hsA]; exact hat) (by omega : z < z + 2) hs.out.g (by have := hz.out; omega)
      have hb : some b ≠ (Value.slice At m ct).ownBlock := fun e => by have := (hs.out.ot.lt b e.symm).1; omega
      have q0 : w3.cell? ⟨z, 0, none⟩ = some (.slice At m ct) := by rw [cell_of_row w3 _ _ _ _ _ hr3]; rfl
      have f0 : w3.frozen? ⟨z, 0, none⟩ = false := frozen_of_row w3 _ _ _ _ hr3
      have c0 := hgrow.cell c0 hb
      have c1 := hgrow.cell c1 hb
      have c2 := hgrow.cell c2 hb
      refine ⟨fun _ => ⟨q0, c0, c1, c2⟩, ?_⟩
      have hsz4 : W2.heap.size ≤ (w3.setCell ⟨z, 0, none⟩ (.slice (some ⟨gg, 0, none⟩) (m + 1) cap)).heap.size := by rw [show (w3.setCell ⟨z, 0, none⟩ (.slice (some ⟨gg, 0, none⟩) (m + 1) cap)).heap.size = w3.heap.size by simp [World.setCell]]; exact hgrow.size
      clear hown2 hown3 hgrow hat hal hnw hr3 hb
      try simp only [Act.put, List.setIfInBounds_toArray]
      refine wpAnyT_one (i := 11) rfl (by kernel_rfl) rfl ?_
      go_simp
      refine wpAnyT_one (i := 12) rfl (by kernel_rfl) rfl ?_
      go_simp
      refine wpAnyT_one (i := 13) rfl (by kernel_rfl) rfl ?_
      clear c0 c1 c2
      go_simp
      refine wpAnyT_done (by kernel_rfl) ?_ _
      generalize w3.setCell ⟨z, 0, none⟩ (.slice (some ⟨gg, 0, none⟩) (m + 1) cap) = w4 at hr4 hv4 ho4 hg4 hk4 hsz4 ⊢
      have hrA : w4.heap[z]? = some (.cells #[.slice (some ⟨gg, 0, none⟩) (m + 1) cap] 59 (0, 0)) := hr4
      have hrB : w4.heap[z + 1]? = some (.cells #[.slice Ap m cp, .slice none 0 0] 86 (0, 0)) := (hk4 (z + 1) (by omega) (by have := hs.out.sz; omega) (by omega)).trans hs.out.r
      rw [← htk.out] at hv4
      have hdB : ∀ g, (Value.slice Ap m cp).ownBlock = some g → (Value.slice (some ⟨gg, 0, none⟩) (m + 1) cap).ownBlock ≠ some g := fun g h e => hd4 (h.trans e.symm)
      have hszB : z + 2 ≤ w4.heap.size := by have := hs.out.sz; omega
      replace hrA := Lib.hid hrA
      replace hv4 := Lib.hid hv4
      replace ho4 := Lib.hid ho4
      replace hg4 := Lib.hid hg4
      replace hrB := Lib.hid hrB
      replace hdB := Lib.hid hdB
      clear q0 f0 hr4 hk4 hs hd4 hsz4 hsA
      have q0 : w4.cell? ⟨z + 1, 0, none⟩ = some (.slice Ap m cp) := by rw [cell_of_row w4 _ _ _ _ _ hrB.out]; rfl
      have c0 := hg4.out.cell e0.out (by simp)
      have c1 := hg4.out.cell e1.out (by simp)
      have c2 := hg4.out.cell e2.out (by simp)
      obtain ⟨gA, hgA⟩ : ∃ g, gg = g := ⟨_, rfl⟩
      obtain ⟨cA, hcA⟩ : ∃ g, cap = g := ⟨_, rfl⟩
      rw [hgA, hcA] at hrA hv4 hdB
      clear hgA hcA
      clear hgg
      go_wp2_with fail
      refine wp_region_last (L := 25) (S := (fun w' : World => w'.cell? ⟨z + 1, 0, none⟩ = some (.slice Ap m cp) ∧ w'.cell? ⟨b, off + m * 3, none⟩ = some (.string x0) ∧ w'.cell? ⟨b, off + m * 3 + 1, none⟩ = some (.string x1) ∧ w'.cell? ⟨b, off + m * 3 + 2, none⟩ = some (.bool x2))) (by kernel_rfl) ?_
      have hS0 : (fun w' : World => w'.cell? ⟨z + 1, 0, none⟩ = some (.slice Ap m cp) ∧ w'.cell? ⟨b, off + m * 3, none⟩ = some (.string x0) ∧ w'.cell? ⟨b, off + m * 3 + 1, none⟩ = some (.string x1) ∧ w'.cell? ⟨b, off + m * 3 + 2, none⟩ = some (.bool x2)) w4.drew := ⟨q0, c0, c1, c2⟩
      refine wpAnyT_takeT (n := 40) (i := 0) (v := .pointer (some ⟨z + 1, 0, none⟩)) rfl (by kernel_rfl) (by kernel_rfl) (by kernel_rfl) (by kernel_rfl) (by kernel_rfl) (fun _ _ _ h => h) (Or.inl ⟨by rfl, ?_⟩) hS0 ?_
      · intro W hW
        obtain ⟨k0, k1, k2, k3⟩ := hW
        clear hS0 q0 c0 c1 c2
        go_simp
        try (intro hx; exfalso; omega)
      try simp only [Act.put, List.setIfInBounds_toArray]
      refine wpAnyT_takeT (n := 40) (i := 1) (v := .pointer (some ⟨z + 1, 0, none⟩)) rfl (by kernel_rfl) (by kernel_rfl) (by kernel_rfl) (by kernel_rfl) (by kernel_rfl) (fun _ _ _ h => h) (Or.inl ⟨by rfl, ?_⟩) hS0 ?_
      · intro W hW
        obtain ⟨k0, k1, k2, k3⟩ := hW
        clear hS0 q0 c0 c1 c2
        go_simp
        try (intro hx; exfalso; omega)
      try simp only [Act.put]
      refine wpAnyT_takeT (n := 40) (i := 2) (v := .pointer (some ⟨z + 1, 0, none⟩)) rfl (by kernel_rfl) (by kernel_rfl) (by kernel_rfl) (by kernel_rfl) (by kernel_rfl) (fun _ _ _ h => h) (Or.inl ⟨by rfl, ?_⟩) hS0 ?_
      · intro W hW
        obtain ⟨k0, k1, k2, k3⟩ := hW
        clear hS0 q0 c0 c1 c2
        go_simp
        try (intro hx; exfalso; omega)
      try simp only [Act.put]
      refine wpAnyT_takeT (n := 40) (i := 3) (v := .pointer (some ⟨z + 1, 0, none⟩)) rfl (by kernel_rfl) (by kernel_rfl) (by kernel_rfl) (by kernel_rfl) (by kernel_rfl) (fun _ _ _ h => h) (Or.inl ⟨by rfl, ?_⟩) hS0 ?_
      · intro W hW
        obtain ⟨k0, k1, k2, k3⟩ := hW
        clear hS0 q0 c0 c1 c2
        go_simp
        try (intro hx; exfalso; omega)
      try simp only [Act.put]
      refine wpAnyT_takeT (n := 40) (i := 4) (v := .slice Ap m cp) rfl (by kernel_rfl) (by kernel_rfl) (by kernel_rfl) (by kernel_rfl) (by kernel_rfl) (fun _ _ _ h => h) (Or.inl ⟨by rfl, ?_⟩) hS0 ?_
      · intro W hW
        obtain ⟨k0, k1, k2, k3⟩ := hW
        clear hS0 q0 c0 c1 c2
        go_simp
        try (intro hx; exfalso; omega)
      try simp only [Act.put]
      refine wpAnyT_takeT (n := 40) (i := 5) (v := .slice (some ⟨b, off, none⟩) PL c) rfl (by kernel_rfl) (by kernel_rfl) (by kernel_rfl) (by kernel_rfl) (by kernel_rfl) (fun _ _ _ h => h) (Or.inl ⟨by rfl, ?_⟩) hS0 ?_
      · intro W hW
        obtain ⟨k0, k1, k2, k3⟩ := hW
        clear hS0 q0 c0 c1 c2
        go_simp
        try (intro hx; exfalso; omega)
      try simp only [Act.put]
      refine wpAnyT_takeT (n := 40) (i := 6) (v := .int .i64 (m : Int)) rfl (by kernel_rfl) (by kernel_rfl) (by kernel_rfl) (by kernel_rfl) (by kernel_rfl) (fun _ _ _ h => h) (Or.inl ⟨by rfl, ?_⟩) hS0 ?_
      · intro W hW
        obtain ⟨k0, k1, k2, k3⟩ := hW
        clear hS0 q0 c0 c1 c2
        go_simp
        try (intro hx; exfalso; omega)
      try simp only [Act.put]
      refine wpAnyT_takeT (n := 40) (i := 7) (v := .pointer (some ⟨b, off + m * 3, none⟩)) rfl (by kernel_rfl) (by kernel_rfl) (by kernel_rfl) (by kernel_rfl) (by kernel_rfl) (fun _ _ _ h => h) (Or.inl ⟨by rfl, ?_⟩) hS0 ?_
      · intro W hW
        obtain ⟨k0, k1, k2, k3⟩ := hW
        clear hS0 q0 c0 c1 c2
        go_simp
        try (intro hx; exfalso; omega)
      try simp only [Act.put]
      refine wpAnyT_takeT (n := 40) (i := 8) (v := .pointer (some ⟨b, off + m * 3, none⟩)) rfl (by kernel_rfl) (by kernel_rfl) (by kernel_rfl) (by kernel_rfl) (by kernel_rfl) (fun _ _ _ h => h) (Or.inl ⟨by rfl, ?_⟩) hS0 ?_
      · intro W hW
        obtain ⟨k0, k1, k2, k3⟩ := hW
        clear hS0 q0 c0 c1 c2
        go_simp
        try (intro hx; exfalso; omega)
      try simp only [Act.put]
      refine wpAnyT_takeT (n := 40) (i := 9) (v := .string x0) rfl (by kernel_rfl) (by kernel_rfl) (by kernel_rfl) (by kernel_rfl) (by kernel_rfl) (fun _ _ _ h => h) (Or.inl ⟨by rfl, ?_⟩) hS0 ?_
      · intro W hW
        obtain ⟨k0, k1, k2, k3⟩ := hW
        clear hS0 q0 c0 c1 c2
        go_simp
        try (intro hx; exfalso; omega)
      try simp only [Act.put]
      refine wpAnyT_takeT (n := 40) (i := 10) (v := .slice (some ⟨b, off, none⟩) PL c) rfl (by kernel_rfl) (by kernel_rfl) (by kernel_rfl) (by kernel_rfl) (by kernel_rfl) (fun _ _ _ h => h) (Or.inl ⟨by rfl, ?_⟩) hS0 ?_
      · intro W hW
        obtain ⟨k0, k1, k2, k3⟩ := hW
        clear hS0 q0 c0 c1 c2
        go_simp
        try (intro hx; exfalso; omega)
      try simp only [Act.put]
      refine wpAnyT_takeT (n := 40) (i := 11) (v := .int .i64 (m : Int)) rfl (by kernel_rfl) (by kernel_rfl) (by kernel_rfl) (by kernel_rfl) (by kernel_rfl) (fun _ _ _ h => h) (Or.inl ⟨by rfl, ?_⟩) hS0 ?_
      · intro W hW
        obtain ⟨k0, k1, k2, k3⟩ := hW
        clear hS0 q0 c0 c1 c2
        go_simp
        try (intro hx; exfalso; omega)
      try simp only [Act.put]
      refine wpAnyT_takeT (n := 40) (i := 12) (v := .pointer (some ⟨b, off + m * 3, none⟩)) rfl (by kernel_rfl) (by kernel_rfl) (by kernel_rfl) (by kernel_rfl) (by kernel_rfl) (fun _ _ _ h => h) (Or.inl ⟨by rfl, ?_⟩) hS0 ?_
      · intro W hW
        obtain ⟨k0, k1, k2, k3⟩ := hW
        clear hS0 q0 c0 c1 c2
        go_simp
        try (intro hx; exfalso; omega)
      try simp only [Act.put]
      refine wpAnyT_takeT (n := 40) (i := 13) (v := .pointer (some ⟨b, off + m * 3 + 1, none⟩)) rfl (by kernel_rfl) (by kernel_rfl) (by kernel_rfl) (by kernel_rfl) (by kernel_rfl) (fun _ _ _ h => h) (Or.inl ⟨by rfl, ?_⟩) hS0 ?_
      · intro W hW
        obtain ⟨k0, k1, k2, k3⟩ := hW
        clear hS0 q0 c0 c1 c2
        go_simp
        try (intro hx; exfalso; omega)
      try simp only [Act.put]
      refine wpAnyT_takeT (n := 40) (i := 14) (v := .string x1) rfl (by kernel_rfl) (by kernel_rfl) (by kernel_rfl) (by kernel_rfl) (by kernel_rfl) (fun _ _ _ h => h) (Or.inl ⟨by rfl, ?_⟩) hS0 ?_
      · intro W hW
        obtain ⟨k0, k1, k2, k3⟩ := hW
        clear hS0 q0 c0 c1 c2
        go_simp
        try (intro hx; exfalso; omega)
      try simp only [Act.put]
      refine wpAnyT_takeT (n := 40) (i := 15) (v := .slice (some ⟨b, off, none⟩) PL c) rfl (by kernel_rfl) (by kernel_rfl) (by kernel_rfl) (by kernel_rfl) (by kernel_rfl) (fun _ _ _ h => h) (Or.inl ⟨by rfl, ?_⟩) hS0 ?_
      · intro W hW
        obtain ⟨k0, k1, k2, k3⟩ := hW
        clear hS0 q0 c0 c1 c2
        go_simp
        try (intro hx; exfalso; omega)
      try simp only [Act.put]
      refine wpAnyT_takeT (n := 40) (i := 16) (v := .int .i64 (m : Int)) rfl (by kernel_rfl) (by kernel_rfl) (by kernel_rfl) (by kernel_rfl) (by kernel_rfl) (fun _ _ _ h => h) (Or.inl ⟨by rfl, ?_⟩) hS0 ?_
      · intro W hW
        obtain ⟨k0, k1, k2, k3⟩ := hW
        clear hS0 q0 c0 c1 c2
        go_simp
        try (intro hx; exfalso; omega)
      try simp only [Act.put]
      refine wpAnyT_takeT (n := 40) (i := 17) (v := .pointer (some ⟨b, off + m * 3, none⟩)) rfl (by kernel_rfl) (by kernel_rfl) (by kernel_rfl) (by kernel_rfl) (by kernel_rfl) (fun _ _ _ h => h) (Or.inl ⟨by rfl, ?_⟩) hS0 ?_
      · intro W hW
        obtain ⟨k0, k1, k2, k3⟩ := hW
        clear hS0 q0 c0 c1 c2
        go_simp
        try (intro hx; exfalso; omega)
      try simp only [Act.put]
      refine wpAnyT_takeT (n := 40) (i := 18) (v := .pointer (some ⟨b, off + m * 3 + 2, none⟩)) rfl (by kernel_rfl) (by kernel_rfl) (by kernel_rfl) (by kernel_rfl) (by kernel_rfl) (fun _ _ _ h => h) (Or.inl ⟨by rfl, ?_⟩) hS0 ?_
      · intro W hW
        obtain ⟨k0, k1, k2, k3⟩ := hW
        clear hS0 q0 c0 c1 c2
        go_simp
        try (intro hx; exfalso; omega)
      try simp only [Act.put]
      refine wpAnyT_takeT (n := 40) (i := 19) (v := .bool x2) rfl (by kernel_rfl) (by kernel_rfl) (by kernel_rfl) (by kernel_rfl) (by kernel_rfl) (fun _ _ _ h => h) (Or.inl ⟨by rfl, ?_⟩) hS0 ?_
      · intro W hW
        obtain ⟨k0, k1, k2, k3⟩ := hW
        clear hS0 q0 c0 c1 c2
        go_simp
        try (intro hx; exfalso; omega)
      try simp only [Act.put]
      refine wpAnyT_takeT (n := 40) (i := 20) (v := .agg #[.string x0, .string x1, .bool x2]) rfl (by kernel_rfl) (by kernel_rfl) (by kernel_rfl) (by kernel_rfl) (by kernel_rfl) (fun _ _ _ h => h) (Or.inl ⟨by rfl, ?_⟩) hS0 ?_
      · intro W hW
        obtain ⟨k0, k1, k2, k3⟩ := hW
        clear hS0 q0 c0 c1 c2
        go_simp
        try (intro hx; exfalso; omega)
      try simp only [Act.put]
      clear hS0
      refine wpAnyT_one (i := 21) rfl (by kernel_rfl) rfl ?_
      go_simp
      have hal : w4.grownBy (w4.alloc (.cells #[.string x0, .string x1, .bool x2] 87)) none := World.grownBy_alloc _ _ _
      have hnw := new_cells w4 #[.string x0, .string x1, .bool x2] 87
      have hsA : (w4.alloc (.cells #[.string x0, .string x1, .bool x2] 87)).heap.size = w4.heap.size + 1 := by simp
      generalize w4.alloc (.cells #[.string x0, .string x1, .bool x2] 87) = W2 at hal hnw hsA ⊢
      have q0 := hal.cell q0 (by simp)
      have c0 := hal.cell c0 (by simp)
      have c1 := hal.cell c1 (by simp)
      have c2 := hal.cell c2 (by simp)
      refine ⟨⟨q0, c0, c1, c2⟩, ?_⟩
      refine wpAnyT_one (i := 22) rfl (by kernel_rfl) rfl ?_
      have hown2 : W2.ownsRow (z + 2) 87 3 (.slice Ap m cp) m (cellsPr (ps.take m)) := ho4.out.kept hal (by cases hv : (Value.slice Ap m cp).ownBlock <;> simp)
      refine wp_append_lies _ (.tmp 34) (.tmp 51) 84 rfl (z + 2) 87 i1 _ 3 40 Tryz.underlying84 hj hy0 hy1 hy2 rfl (by decide) (.slice Ap m cp) m (cellsPr (ps.take m)) rfl hown2 ⟨w4.heap.size, 0, none⟩ 1 1 [.string x0, .string x1, .bool x2] rfl rfl hnw (by simp [Value.oneCell']) (by decide) (by simp only [maxLen]; omega) (by omega) (by have h1 := hszB; have h2 := hsA; show z + 2 ≤ W2.heap.size; omega) (w4.heap.size + 1) hsA ?_
      intro gg cap w3 hown3 hgrow hat hgg
      have hgrow : W2.grownBy w3 (Value.slice Ap m cp).ownBlock := ⟨hgrow.os, hgrow.tape, hgrow.output, hgrow.size, hgrow.block⟩
      obtain ⟨hr3, hr6, hv6, ho6, hd6, hg6, hk6⟩ := tab_app (w0 := w) hrB.out ho4.out hv4.out hdB.out hal hown3 hgrow (by rw [hsA]; exact hat) (by omega : z + 1 < z + 2) hg4.out (by have := hz.out; omega)
      have hb : some b ≠ (Value.slice Ap m cp).ownBlock := fun e => by have := (ho4.out.lt b e.symm).1; omega
      have q0 : w3.cell? ⟨z + 1, 0, none⟩ = some (.slice Ap m cp) := by rw [cell_of_row w3 _ _ _ _ _ hr3]; rfl
      have f0 : w3.frozen? ⟨z + 1, 0, none⟩ = false := frozen_of_row w3 _ _ _ _ hr3
      have c0 := hgrow.cell c0 hb
      have c1 := hgrow.cell c1 hb
      have c2 := hgrow.cell c2 hb
      refine ⟨fun _ => ⟨q0, c0, c1, c2⟩, ?_⟩
      have hsz4 : W2.heap.size ≤ (w3.setCell ⟨z + 1, 0, none⟩ (.slice (some ⟨gg, 0, none⟩) (m + 1) cap)).heap.size := by rw [show (w3.setCell ⟨z + 1, 0, none⟩ (.slice (some ⟨gg, 0, none⟩) (m + 1) cap)).heap.size = w3.heap.size by simp [World.setCell]]; exact hgrow.size
      clear hown2 hown3 hgrow hat hal hnw hr3 hb
      try simp only [Act.put, List.setIfInBounds_toArray]
      refine wpAnyT_one (i := 23) rfl (by kernel_rfl) rfl ?_
      go_simp
      refine wpAnyT_one (i := 24) rfl (by kernel_rfl) rfl ?_
      go_simp
      refine wpAnyT_one (i := 25) rfl (by kernel_rfl) rfl ?_
      clear c0 c1 c2
      go_simp
      refine wpAnyT_done (by kernel_rfl) ?_ _
      generalize w3.setCell ⟨z + 1, 0, none⟩ (.slice (some ⟨gg, 0, none⟩) (m + 1) cap) = w6 at hr6 hv6 ho6 hg6 hk6 hsz4 ⊢
      rw [← htk.out] at hv6
      have hfin : TbS w w6 z (m + 1) (ps.take (m + 1)) (.slice (some ⟨gA, 0, none⟩) (m + 1) cA) (.slice (some ⟨gg, 0, none⟩) (m + 1) cap) :=
        ⟨(hk6 z (by omega) (by omega) (by omega)).trans hrA.out, hr6, ho6, hv6, fun g h e => hd6 (h.trans e.symm), hg6, hz.out, by omega⟩
      replace hfin := Lib.hid hfin
      clear q0 f0 hr6 hv6 ho6 hg6 hk6 hd6 hrA hv4 ho4 hg4 hrB hdB hsz4 hsA
      go_wp2
      go_roundw
      case rel => exact ⟨m + 1, _, _, by omega, by go_num, hfin⟩
      case measure => simp [intOf]; omega
    · obtain rfl : m = PL := by omega
      have hfin := hs.out
      rw [List.take_of_length_le (by rw [hPL.out]; omega)] at hfin
      replace hfin := Lib.hid hfin
      clear hs
      go_wp2
      go_ret2
      exact ⟨by rw [hz.out]; rfl, _, _, by rw [hz.out]; exact hfin.out⟩
end Go.Proofs.YtlijlgbaikijnaaGreatDoor
