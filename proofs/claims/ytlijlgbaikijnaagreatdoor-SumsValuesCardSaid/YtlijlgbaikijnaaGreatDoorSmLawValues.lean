/-
  SumsValues answers true. Conditions: the table of powers of ten holds them; numbers of 64 bits; no row of Kids is longer than memory can hold.
-/
import Derived.Test.YtlijlgbaikijnaaGreatDoorSmRValue
import Derived.Test.YtlijlgbaikijnaaGreatDoorSmTables
import Derived.Test.YtlijlgbaikijnaaGreatDoorSmPlain
import Derived.Test.YtlijlgbaikijnaaGreatDoorSmAwake
namespace Go.Proofs.YtlijlgbaikijnaaGreatDoor
open Go Go.RowKit

/-- The second table's moving leaves the first as it is. -/
theorem tab_move {w w' : World} {tb rb B N : Nat} {qs qs' : List Pr} {T : Nat → Prop} (h : TabAt w tb qs) (hm : RMove w w' rb B qs' N T) (htb : ¬ T tb) (hT : ∀ k cur o, T k → w.heap[k]? ≠ some (.cells cur 57 o)) : TabAt w' tb qs := by
  have hlt := h.lt
  obtain ⟨⟨v, hc, hp⟩, hf, hty⟩ := h
  have hbt := hm.block tb hlt htb
  have hcell : w'.cell? ⟨tb, 0, none⟩ = w.cell? ⟨tb, 0, none⟩ := World.cell?_of_block (a := ⟨tb, 0, none⟩) hbt
  refine ⟨⟨v, hcell.trans hc, ?_⟩, (World.frozen?_of_block (a := ⟨tb, 0, none⟩) hbt).trans hf, fun hn b off n c h => ?_⟩
  · obtain ⟨⟨A, c, hv, e1, e2, e3, e4⟩, hne⟩ := hp
    refine ⟨⟨A, c, hv, e1, e2, e3, fun hn => ?_⟩, hne⟩
    obtain ⟨b, off, hA, hblt, hcc⟩ := e4 hn
    obtain ⟨cur, o, hh⟩ := hty hn b off _ c (by rw [hc, hv, hA])
    have hb := hm.block b hblt (fun hT' => hT b cur o hT' hh)
    exact ⟨b, off, hA, Nat.lt_of_lt_of_le hblt hm.size, fun j u hu => (World.cell?_of_block (a := ⟨b, off + j, none⟩) hb).trans (hcc j u hu)⟩
  · obtain ⟨cur, o, hh⟩ := hty hn b off n c (hcell.symm.trans h)
    exact ⟨cur, o, (hm.block b (Array.getElem?_eq_some_iff.1 hh).1 (fun hT' => hT b cur o hT' hh)).trans hh⟩
theorem tbs_tab {w w3 : World} {z n : Nat} {l : List Pr} {vt vp : Value} (h : TbS w w3 z n l vt vp) (hn : n = l.length) : TabAt w3 z l := by
  refine ⟨⟨vt, by rw [cell_of_row w3 _ _ _ _ _ h.t]; rfl, prS_own h.ot hn (by omega)⟩, frozen_of_row w3 _ _ _ _ h.t, fun _ b off n c hs => own_ty h.ot (by rw [cell_of_row w3 _ _ _ _ _ h.t]; rfl) hs⟩
/-- The blocks of the second table. -/
def TbB (z : Nat) (vp : Value) (k : Nat) : Prop := k = z + 1 ∨ vp.ownBlock = some k
theorem tbs_rtab {w w3 w4 : World} {z n : Nat} {l : List Pr} {vt vp : Value} (h : TbS w w3 z n l vt vp) (hn : n = l.length) (hg : w3.grownBy w4 (some z)) : RTab w4 (z + 1) (z + 2) l l.length (TbB z vp) := by
  subst hn
  have hr : w4.heap[z + 1]? = some (.cells #[vp, .slice none 0 0] 86 (0, 0)) := (hg.block (z + 1) (by have := h.sz; omega) (by simp)).trans h.r
  have hop := h.op.kept hg (by
    cases hv : vp.ownBlock with
    | none => exact .inl rfl
    | some g => exact .inr (fun e => by have e := Option.some.inj e; have := (h.op.lt g hv).1; omega))
  have hs := hg.size
  have hz := h.sz
  exact ⟨⟨vp, _, [], hr, hop, World.ownsRow_nil _ _ _ _, Nat.zero_le _, fun g hv => ⟨.inr hv, by simp [Value.ownBlock]⟩, fun g hv => by simp [Value.ownBlock] at hv⟩, .inl rfl, by omega, Nat.le_refl _, fun g hT => by
    rcases hT with rfl | hv
    · omega
    · exact (hop.lt g hv).2⟩
theorem tbs_ty {w w3 w4 : World} {z n : Nat} {l : List Pr} {vt vp : Value} (h : TbS w w3 z n l vt vp) (hg : w3.grownBy w4 (some z)) : ∀ k cur o, TbB z vp k → w4.heap[k]? ≠ some (.cells cur 57 o) := by
  intro k cur o hT e
  rcases hT with rfl | hv
  · have hr : w4.heap[z + 1]? = some (.cells #[vp, .slice none 0 0] 86 (0, 0)) := (hg.block (z + 1) (by have := h.sz; omega) (by simp)).trans h.r
    rw [hr] at e
    have := (Obj.cells.inj (Option.some.inj e)).2.1
    exact absurd this (by decide)
  · have hk := h.op.lt k hv
    rcases h.op.2 with ⟨h1, _⟩ | ⟨g, cap, cur2, h1, _, hh, _⟩
    · rw [h1] at hv; simp [Value.ownBlock] at hv
    · have : g = k := by rw [h1] at hv; exact Option.some.inj hv
      subst this
      rw [hg.block g hk.2 (fun e => by have e := Option.some.inj e; omega), hh] at e
      have := (Obj.cells.inj (Option.some.inj e)).2.1
      exact absurd this (by decide)
/-- What a value answers. -/
def vN : VRes → Int | .ok n _ => n | .no _ _ => 0
def vC : VRes → Int | .ok _ _ => 0 | .no c _ => c
def gS (o : Option ByteArray) : ByteArray := match o with | some s => s | none => ⟨#[]⟩

theorem chain {X : E} {v v1 : Value} {l : List Pr} {s : ByteArray} {w : World} (hx : ExR w (fun g => g < w.heap.size) X v) (hnX : NumE X) (hsz : sizeE X ≤ 600) (hq : PrS w w.heap.size v1 l) (hll : l.length ≤ 20) (hvl : Vals l) (ht : Tab w) :
    ∀ W, w.grownBy W none → Calls Tryz.prog 17 #[v1] W fun e w3 => ∃ tb rb, e = .returned (.tuple #[.pointer (some ⟨tb, 0, none⟩), .pointer (some ⟨rb, 0, none⟩)]) ∧ w.grownBy w3 none ∧
      Calls Tryz.prog 18 #[v, .iface 41 (.pointer (some ⟨tb, 0, none⟩))] w3 fun e w4 => e = .returned (.tuple #[.int .i64 (vN (faceV X l)), .int .i64 (vC (faceV X l))]) ∧ w.grownBy w4 none ∧
      Calls Tryz.prog 15 #[v] w4 fun e w5 => ∃ u, e = .returned u ∧ w.grownBy w5 none ∧
      Calls Tryz.prog 19 #[u, .pointer (some ⟨rb, 0, none⟩)] w5 fun e w6 => e = .returned (.tuple #[.int .i64 (vN (faceV X l)), .int .i64 (vC (faceV X l))]) ∧ w.grownBy w6 none ∧
      Calls Tryz.prog 20 #[.pointer (some ⟨tb, 0, none⟩), .string s] w6 fun e w7 => e = .returned (.tuple #[.string (gS (getP (faceV X l).tab s)), .bool (getP (faceV X l).tab s).isSome]) ∧ w.grownBy w7 none ∧
      Calls Tryz.prog 21 #[.pointer (some ⟨rb, 0, none⟩), .string s] w7 fun e w8 => e = .returned (.tuple #[.string (gS (getP (faceV X l).tab s)), .bool (getP (faceV X l).tab s).isSome]) ∧ w.grownBy w8 none ∧
      Calls Tryz.prog 22 #[.pointer (some ⟨tb, 0, none⟩), .pointer (some ⟨rb, 0, none⟩)] w8 fun e w9 => e = .returned (.bool true) ∧ w.grownBy w9 none := by
  intro W hW
  have hkeep : ∀ W, w.grownBy W none → ExR W (fun g => g < w.heap.size) X v := fun W hg => hx.keep (fun _ h => h) (fun g h => hg.block g h (by simp))
  have hqW : PrS W w.heap.size v1 l := hq.keep ⟨hW.os, hW.tape, hW.output, hW.size, fun k hk _ => hW.block k hk (by simp)⟩
  refine (tables_any _ v1 l W hqW (by omega)).mono ?_
  rintro e w3 ⟨rfl, vt, vp, hs⟩
  have hg3 := grownBy_trans' hW hs.g
  have hWs := hW.size
  obtain ⟨z, hz⟩ : ∃ z, W.heap.size = z := ⟨_, rfl⟩
  rw [hz] at hs hWs
  have hszs := hs.sz
  refine ⟨z, z + 1, by rw [hz], hg3, ?_⟩
  refine (Value_any z X v (fun g => g < w.heap.size) w3 l (hkeep w3 hg3) ⟨fun g hg => ⟨Nat.lt_of_lt_of_le hg hg3.size, by omega⟩, tbs_tab hs rfl, tabK_of ht hg3 hWs, hvl, hnX, by omega⟩).mono ?_
  rintro e w4 ⟨he, htab4, hg4⟩
  have hgw4 := grown_over hg3 hg4 (fun k e => by have := Option.some.inj e; omega)
  have hrt4 := tbs_rtab hs rfl hg4
  have hty4 := tbs_ty hs hg4
  refine ⟨by cases hf : faceV X l <;> rw [hf] at he <;> exact he, hgw4, ?_⟩
  refine (plain_any X (by omega) v _ w4 (hkeep w4 hgw4) (fun g h => Nat.lt_of_lt_of_le h hgw4.size)).mono ?_
  rintro e w5 ⟨⟨u, rfl, hu⟩, hg5⟩
  have hgw5 := grownBy_trans' hgw4 hg5
  refine ⟨u, rfl, hgw5, ?_⟩
  have hrt5 := hrt4.grown hg5
  have hs4 := hg4.size
  have hs5 := hg5.size
  have htz : ¬ TbB z vp z := fun h => by
    rcases h with h | h
    · omega
    · have := (hs.op.lt z h).1; omega
  have hty5 : ∀ k cur o, TbB z vp k → w5.heap[k]? ≠ some (.cells cur 57 o) := fun k cur o hT => by
    rw [hg5.block k (hrt4.bd k hT) (by simp)]; exact hty4 k cur o hT
  refine (rValue_any (z + 1) (z + 2) X u _ w5 l l.length (TbB z vp) hu ⟨fun g hg => ⟨hg.2, fun hT => by have := hrt4.bd g hT; have := hg.1; omega⟩, hrt5, hvl, hnX, by omega, by omega⟩).mono ?_
  intro e w6 h
  have hmv : RMove w5 w6 (z + 1) (z + 2) (faceV X l).tab (l.length + sizeE X) (TbB z vp) ∧ e = .returned (.tuple #[.int .i64 (vN (faceV X l)), .int .i64 (vC (faceV X l))]) := by
    cases hf : faceV X l with
    | ok n qs => rw [hf] at h; exact ⟨h.2, h.1⟩
    | no c qs => rw [hf] at h; exact ⟨h.2.2, h.1⟩
  obtain ⟨hmv, rfl⟩ := hmv
  have hgw6 : w.grownBy w6 none := ⟨hmv.os.trans hgw5.os, hmv.tape.trans hgw5.tape, hmv.output.trans hgw5.output, Nat.le_trans hgw5.size hmv.size, fun k hk _ => (hmv.block k (Nat.lt_of_lt_of_le hk hgw5.size) (fun hT => by
    rcases hT with h | h
    · omega
    · have := (hs.op.lt k h).1; omega)).trans (hgw5.block k hk (by simp))⟩
  refine ⟨rfl, hgw6, ?_⟩
  have htab6 := tab_move (htab4.keep hg5) hmv htz hty5
  obtain ⟨T6, hrt6, _⟩ := hmv.tab
  refine (get_any s z _ w6 htab6).mono ?_
  rintro e w7 ⟨rfl, hg7⟩
  have hgw7 := grownBy_trans' hgw6 hg7
  refine ⟨by cases getP (faceV X l).tab s <;> rfl, hgw7, ?_⟩
  refine (rGet_any s (z + 1) (z + 2) _ _ T6 w7 (hrt6.grown hg7)).mono ?_
  rintro e w8 ⟨rfl, hw⟩
  obtain rfl := hw.symm
  refine ⟨by cases getP (faceV X l).tab s <;> rfl, hgw7, ?_⟩
  refine (sameT_any z (z + 1) (z + 2) _ _ T6 w7 (htab6.keep hg7) (hrt6.grown hg7)).mono ?_
  rintro e w9 ⟨rfl, hg9⟩
  exact ⟨rfl, grownBy_trans' hgw7 hg9⟩

theorem pairs_facts {l : List Pr} (h : pairsV l = true) : l.length ≤ 20 ∧ Vals l := by
  unfold pairsV at h
  split at h
  · cases h
  · rw [List.all_eq_true] at h
    refine ⟨by omega, fun p hp => ?_⟩
    have := h p hp
    simp at this
    omega

set_option maxHeartbeats 8000000 in
set_option maxRecDepth 100000 in
theorem lawValues_any (X : E) (v : Value) (l : List Pr) (v1 : Value) (s : ByteArray) (w : World) (hx : ExR w (fun g => g < w.heap.size) X v) (hnX : NumE X) (hwX : WideE X) (hl : Sl w w.heap.size 3 v1 l.length (cellsPr l)) (ht : Tab w) :
    Calls Tryz.prog 5 #[v, v1, .string s] w fun e w' => e = .returned (.bool true) ∧ w.grownBy w' none := by
  have haw := fun W (hg : w.grownBy W none) => awake_any W (ht.below (below_of_none hg))
  have hq := prs_of_sl hl
  have hfw := fun W (hg : w.grownBy W none) => few_any X v (fun g => g < w.heap.size) W (hx.keep (fun _ h => h) (fun g h => hg.block g h (by simp))) (fun g h => Nat.lt_of_lt_of_le h hg.size)
  have hpw := fun W (hW : w.grownBy W none) => pairs_any w.heap.size v1 l W (hq.keep ⟨hW.os, hW.tape, hW.output, hW.size, fun k hk _ => hW.block k hk (by simp)⟩)
  obtain ⟨fb, hfb⟩ : ∃ fb, fewE X = fb := ⟨_, rfl⟩
  obtain ⟨pb, hpb⟩ : ∃ pb, pairsV l = pb := ⟨_, rfl⟩
  rw [hfb] at hfw
  rw [hpb] at hpw
  have hch := fun W (hg : w.grownBy W none) (h1 : fb = true) (h2 : pb = true) => chain (s := s) (w := W) (hx.keep (fun g h => Nat.lt_of_lt_of_le h hg.size) (fun g h => hg.block g h (by simp))) hnX (few_facts _ _ (Nat.le_refl _) hwX (hfb.trans h1)).1 (prs_of_sl (hq.keep ⟨hg.os, hg.tape, hg.output, hg.size, fun k hk _ => hg.block k hk (by simp)⟩).1) (pairs_facts (hpb.trans h2)).1 (pairs_facts (hpb.trans h2)).2 (ht.below (below_of_none hg)) W (grownBy_refl' _ _)
  obtain ⟨vn, hvn⟩ : ∃ n, vN (faceV X l) = n := ⟨_, rfl⟩
  obtain ⟨vc, hvc⟩ : ∃ n, vC (faceV X l) = n := ⟨_, rfl⟩
  obtain ⟨g0, hg0⟩ : ∃ n, gS (getP (faceV X l).tab s) = n := ⟨_, rfl⟩
  obtain ⟨g1, hg1⟩ : ∃ n, (getP (faceV X l).tab s).isSome = n := ⟨_, rfl⟩
  rw [hvn, hvc, hg0, hg1] at hch
  obtain ⟨op, num, name, kids⟩ := X
  obtain ⟨A, cc, rfl, _⟩ := hx.form
  generalize kids.length = KL at hfw hch ⊢
  generalize (⟨op.toArray⟩ : ByteArray) = sx at hfw hch ⊢
  generalize (⟨name.toArray⟩ : ByteArray) = nx at hfw hch ⊢
  obtain ⟨L1, n1, c1, rfl⟩ : ∃ L1 n1 c1, v1 = .slice L1 n1 c1 := by obtain ⟨A, c, h, _⟩ := hl; exact ⟨_, _, _, h⟩
  replace hch := Lib.hid hch
  have hmi : ∀ (p : Option Addr) (w : World), (Instr.makeInterface 41 (.pointer p)).run Tryz.prog w = .ok (.iface 41 (.pointer p)) w := fun _ _ => rfl
  clear hx hnX hwX hl hq hfb hpb hvn hvc hg0 hg1 ht
  go_enter Tryz.func5, Tryz.ntmps5
  go_upto_region 1 with fail
  obtain ⟨w2, hW2, hs2, hgr, hcz, _, _⟩ := one_new w #[.string sx, .int .i64 num, .string nx, .slice A KL cc] 30
  rw [hW2]
  obtain ⟨z, hz⟩ : ∃ z, w.heap.size = z := ⟨_, rfl⟩
  rw [hz] at hcz hs2 ⊢
  have q0 := hcz 0 _ rfl
  have q1 := hcz 1 _ rfl
  have q2 := hcz 2 _ rfl
  have q3 := hcz 3 _ rfl
  have hg2 := hgr none
  have hf2 := hfw w2 hg2
  have hzw := Lib.hid hz
  have hzlt : w.heap.size ≤ z := by omega
  clear hW2 hgr hcz hfw hs2 hz
  cases fb with
  | false =>
    go_wp2_with fail
    refine hf2.mono ?_
    rintro e w3 ⟨rfl, hg3⟩
    have hg3 := grownBy_trans' hg2 hg3
    have haw3 := haw w3 hg3
    clear haw hf2 q0 q1 q2 q3 hpw
    go_wp2_with fail
    refine haw3.mono ?_
    rintro e w4 ⟨rfl, hg4⟩
    have hgE := grownBy_trans' hg3 hg4
    go_wp2
    go_ret
    exact ⟨rfl, hgE⟩
  | true =>
    go_wp2_with fail
    refine hf2.mono ?_
    rintro e w3 ⟨rfl, hg3⟩
    have q0 := hg3.cell q0 (by simp)
    have q1 := hg3.cell q1 (by simp)
    have q2 := hg3.cell q2 (by simp)
    have q3 := hg3.cell q3 (by simp)
    have hg3 := grownBy_trans' hg2 hg3
    have hp3 := hpw w3 hg3
    have haw3 := haw w3 hg3
    clear hf2 hpw hg2
    cases pb with
    | false =>
      clear q0 q1 q2 q3 haw
      go_wp2_with fail
      refine hp3.mono ?_
      rintro e wq ⟨rfl, hwq⟩
      obtain rfl := hwq.symm
      clear hp3
      go_wp2_with fail
      refine haw3.mono ?_
      rintro e w4 ⟨rfl, hg4⟩
      have hgE := grownBy_trans' hg3 hg4
      go_wp2
      go_ret
      exact ⟨rfl, hgE⟩
    | true =>
      go_wp2_with fail
      refine hp3.mono ?_
      rintro e wq ⟨rfl, hwq⟩
      obtain rfl := hwq.symm
      clear hp3
      by_cases hs1 : 100 < s.size
      · have i0 : (100 : Int) < (s.size : Int) := by omega
        clear q0 q1 q2 q3 haw hs1
        go_wp2_with fail
        refine haw3.mono ?_
        rintro e w4 ⟨rfl, hg4⟩
        have hgE := grownBy_trans' hg3 hg4
        go_wp2
        go_ret
        exact ⟨rfl, hgE⟩
      · have i0 : ¬ (100 : Int) < (s.size : Int) := by omega
        have c3 := hch.out w3 hg3 (by trivial) (by trivial)
        clear haw3 hch hs1
        go_wp2_with fail
        refine c3.mono ?_
        rintro e w4 ⟨tb, rb, rfl, hB4, c4⟩
        have k0 := hB4.cell q0 (by simp)
        have k1 := hB4.cell q1 (by simp)
        have k2 := hB4.cell q2 (by simp)
        have k3 := hB4.cell q3 (by simp)
        clear c3
        go_wp2_with fail
        refine c4.mono ?_
        rintro e w5 ⟨rfl, hB5, c5⟩
        have k0 := hB5.cell q0 (by simp)
        have k1 := hB5.cell q1 (by simp)
        have k2 := hB5.cell q2 (by simp)
        have k3 := hB5.cell q3 (by simp)
        clear c4 q0 q1 q2 q3
        go_wp2_with fail
        refine c5.mono ?_
        rintro e w6 ⟨u, rfl, hB6, c6⟩
        clear c5 k0 k1 k2 k3
        go_wp2_with fail
        refine c6.mono ?_
        rintro e w7 ⟨rfl, hB7, c7⟩
        clear c6
        go_wp2_with fail
        refine c7.mono ?_
        rintro e w8 ⟨rfl, hB8, c8⟩
        clear c7
        go_wp2_with fail
        refine c8.mono ?_
        rintro e w9 ⟨rfl, hB9, c9⟩
        clear c8
        go_wp2_with fail
        refine c9.mono ?_
        rintro e w10 ⟨rfl, hB10⟩
        clear c9
        have hg10 := grownBy_trans' hg3 hB10
        have haw10 := haw w10 hg10
        clear haw
        go_wp2_with fail
        refine haw10.mono ?_
        rintro e w11 ⟨rfl, hg11⟩
        have hgE := grownBy_trans' hg10 hg11
        clear haw10
        go_wp2
        go_ret
        exact ⟨rfl, hgE⟩
end Go.Proofs.YtlijlgbaikijnaaGreatDoor
