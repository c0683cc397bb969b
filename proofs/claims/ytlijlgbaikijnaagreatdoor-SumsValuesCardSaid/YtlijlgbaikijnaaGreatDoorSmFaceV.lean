/-
  Value's deferred closure: what was thrown is caught; where nothing was, nothing is. Conditions: none.
  Value over a table, by the package. Conditions: at most a million pairs and Ops; numbers of 64 bits; texts of at most a million bytes.
-/
import Derived.Test.YtlijlgbaikijnaaGreatDoorSmValueAll
namespace Go.Proofs.YtlijlgbaikijnaaGreatDoor
open Go Go.RowKit

theorem nil_is_nil (w : World) : Sem.run Tryz.prog (binOp BinOp.eql 20 Value.nilIface Value.nilIface) w = .ok (.bool true) w := by kernel_rfl
theorem flt_no_nil (c : Int) (n : Nat) (w : World) : Sem.run Tryz.prog (binOp BinOp.eql 20 (.iface 71 (.agg #[.int .i64 c, .int .i64 (n : Int)])) Value.nilIface) w = .ok (.bool false) w := by kernel_rfl

set_option maxHeartbeats 1000000 in
set_option maxRecDepth 100000 in
theorem catchV_idle (p2 p3 : Addr) (w : World) :
    CallsD Tryz.prog 42 #[.pointer (some p2), .pointer (some p3)] .returning w fun e u' w' => e = .returned (.tuple #[]) ∧ u' = .returning ∧ w' = w := by
  have hni := nil_is_nil
  refine callsD_of_wpS Tryz.func42 rfl fun c₀ cs hu => ?_
  apply wpS_seq
  apply wpS_region
  simp [wpOpsS, go_sem, recoverD, hu, Tryz.ntmps42, Exit.thenS]
  refine wpS_of_wp ?_
  simp only [Array.replicate, List.setIfInBounds_toArray, List.replicate, List.set, List.append_toArray, List.cons_append, List.nil_append]
  go_wp2
  cases c₀
  simp_all [bodyPostS, results, Tryz.results42]

/-- What the closure leaves of a fault. -/
def CaughtV (z : Nat) (c : Int) (w w' : World) : Prop :=
  (w'.cell? ⟨z, 0, none⟩ = some (.int .i64 0) ∧ w'.cell? ⟨z + 1, 0, none⟩ = some (.int .i64 c)) ∧
  (∀ a : World, ∀ r, a.grownBy w r → a.heap.size ≤ z → a.grownBy w' r) ∧ w.heap.size ≤ w'.heap.size ∧ ∀ k, k < w.heap.size → k ≠ z → k ≠ z + 1 → w'.heap[k]? = w.heap[k]?
theorem grown_some {a w W : World} {r : Option Nat} {z : Nat} (h : a.grownBy w r) (k : w.grownBy W (some z)) (hz : a.heap.size ≤ z) : a.grownBy W r :=
  ⟨k.os.trans h.os, k.tape.trans h.tape, k.output.trans h.output, Nat.le_trans h.size k.size, fun i hi hr => (k.block i (Nat.lt_of_lt_of_le hi h.size) (by simp; omega)).trans (h.block i hi hr)⟩
set_option maxHeartbeats 1000000 in
set_option maxRecDepth 100000 in
theorem catchV_thrown (z : Nat) (c : Int) (n : Nat) (older : List PanicEntry) (w : World) {u4 u5 : Value}
    (s4 : w.cell? ⟨z, 0, none⟩ = some u4) (s5 : w.cell? ⟨z + 1, 0, none⟩ = some u5) (f4 : w.frozen? ⟨z, 0, none⟩ = false) (f5 : w.frozen? ⟨z + 1, 0, none⟩ = false) :
    CallsD Tryz.prog 42 #[.pointer (some ⟨z, 0, none⟩), .pointer (some ⟨z + 1, 0, none⟩)] (.panicking ({ v := .iface 71 (.agg #[.int .i64 c, .int .i64 (n : Int)]), recovered := false } :: older)) w fun e u' w' =>
      e = .returned (.tuple #[]) ∧ u' = .panicking ({ v := .iface 71 (.agg #[.int .i64 c, .int .i64 (n : Int)]), recovered := true } :: older) ∧ CaughtV z c w w' := by
  have hni := flt_no_nil c n
  have has := assert_flt c n
  have hz2 : z + 1 < w.heap.size := World.block_lt_of_cell? w ⟨z + 1, 0, none⟩ s5
  refine callsD_of_wpS Tryz.func42 rfl fun c₀ cs hu => ?_
  apply wpS_seq
  apply wpS_region
  simp [wpOpsS, go_sem, recoverD, hu, Tryz.ntmps42, Exit.thenS]
  refine wpS_of_wp ?_
  simp only [Array.replicate, List.setIfInBounds_toArray, List.replicate, List.set, List.append_toArray, List.cons_append, List.nil_append]
  go_wp2_with fail
  obtain ⟨w2, hW2, hs2, hgr, hcz, hfz, hold⟩ := one_new w #[.int .i64 c, .int .i64 (n : Int)] 71
  have s4 := (World.cell?_of_block (a := ⟨z, 0, none⟩) (hold z (by omega))).trans s4
  have s5 := (World.cell?_of_block (a := ⟨z + 1, 0, none⟩) (hold (z + 1) (by omega))).trans s5
  have f4 := (World.frozen?_of_block (a := ⟨z, 0, none⟩) (hold z (by omega))).trans f4
  have f5 := (World.frozen?_of_block (a := ⟨z + 1, 0, none⟩) (hold (z + 1) (by omega))).trans f5
  rw [hW2]
  obtain ⟨y, hy⟩ : ∃ y, w.heap.size = y := ⟨_, rfl⟩
  rw [hy] at hcz hz2 ⊢
  have q0 := hcz 0 _ rfl
  have hyz : y ≠ z := by omega
  have hyz1 : y ≠ z + 1 := by omega
  have hold2 := hold
  rw [hy] at hold2
  have hsy : w2.heap.size = y + 1 := by omega
  clear hW2 hcz hold
  refine wp_region_last (L := 3) (S := (fun w' : World => w'.cell? ⟨y, 0, none⟩ = some (.int .i64 c))) (by kernel_rfl) ?_
  have hS0 : (fun w' : World => w'.cell? ⟨y, 0, none⟩ = some (.int .i64 c)) w2.drew := q0
  refine wpAnyT_takeT (n := 40) (i := 0) (v := .pointer (some ⟨y, 0, none⟩)) rfl (by kernel_rfl) (by kernel_rfl) (by kernel_rfl) (by kernel_rfl) (by kernel_rfl) (fun _ _ _ h => h) (Or.inl ⟨by rfl, ?_⟩) hS0 ?_
  · intro W hW
    have k0 := hW
    clear hS0 s4 s5 f4 f5 hu hni has q0
    go_simp
    try (intro hx; exfalso; omega)
  try simp only [Act.put, List.setIfInBounds_toArray]
  refine wpAnyT_takeT (n := 40) (i := 1) (v := .int .i64 c) rfl (by kernel_rfl) (by kernel_rfl) (by kernel_rfl) (by kernel_rfl) (by kernel_rfl) (fun _ _ _ h => h) (Or.inl ⟨by rfl, ?_⟩) hS0 ?_
  · intro W hW
    have k0 := hW
    clear hS0 s4 s5 f4 f5 hu hni has q0
    go_simp
    try (intro hx; exfalso; omega)
  try simp only [Act.put]
  clear hS0
  refine wpAnyT_one (i := 2) rfl (by kernel_rfl) rfl ?_
  go_simp
  refine wpAnyT_one (i := 3) rfl (by kernel_rfl) rfl ?_
  go_simp
  refine wpAnyT_done (by kernel_rfl) ?_ _
  have hg1 := grownBy_setC w2 z 0 (.int .i64 0)
  have hg2 := grownBy_setC (w2.setCell ⟨z, 0, none⟩ (.int .i64 0)) (z + 1) 0 (.int .i64 c)
  have d4 := cell_grown (setC_same w2 z 0 (.int .i64 0) _ s4) hg2 (show z ≠ z + 1 by omega)
  have d5 := setC_same (w2.setCell ⟨z, 0, none⟩ (.int .i64 0)) (z + 1) 0 (.int .i64 c) _ (cell_grown s5 hg1 (by omega))
  have hC : CaughtV z c w (((w2.setCell ⟨z, 0, none⟩ (.int .i64 0)).setCell ⟨z + 1, 0, none⟩ (.int .i64 c)).drew) :=
    ⟨⟨d4, d5⟩, fun a r h1 h2 => by
      have h5 := grown_some (grown_some (grownBy_trans' h1 (hgr r)) hg1 h2) hg2 (by omega)
      exact ⟨h5.os, h5.tape, h5.output, h5.size, h5.block⟩, by show w.heap.size ≤ ((w2.setCell ⟨z, 0, none⟩ (.int .i64 0)).setCell ⟨z + 1, 0, none⟩ (.int .i64 c)).heap.size; have := hg1.size; have := hg2.size; omega, fun k hk h1 h2 => by
      have e1 := hg1.block k (by omega) (by simp; omega)
      have e2 := hg2.block k (by have := hg1.size; omega) (by simp; omega)
      exact e2.trans (e1.trans (hold2 k (by omega)))⟩
  clear q0 s4 s5 f4 f5 hni has
  go_wp2
  cases c₀
  simp [bodyPostS, results, Tryz.results42, hC]
end Go.Proofs.YtlijlgbaikijnaaGreatDoor

namespace Go.Proofs.YtlijlgbaikijnaaGreatDoor
open Go Go.RowKit

/-- What Value answers, and the table behind it. -/
def faceV (x : E) (ps : List Pr) : VRes := if dpLe 200 x then valueP 200 x ps else .no 32 ps
def FaceR (w : World) (tb : Nat) (r : VRes) (e : Ending) (w' : World) : Prop :=
  (match r with | .ok n _ => e = .returned (.tuple #[.int .i64 n, .int .i64 0]) | .no c _ => e = .returned (.tuple #[.int .i64 0, .int .i64 c])) ∧ TabAt w' tb r.tab ∧ w.grownBy w' (some tb)
theorem iface_no_nil (tb : Nat) (w : World) : (binOp BinOp.eql 89 (.iface 41 (.pointer (some ⟨tb, 0, none⟩))) Value.nilIface).run Tryz.prog w = .ok (.bool false) w := by kernel_rfl
theorem three_new (w : World) (c1 c2 c3 : Array Value) (t1 t2 t3 : TypeId) : ∃ w2, ((w.alloc (.cells c1 t1)).alloc (.cells c2 t2)).alloc (.cells c3 t3) = w2 ∧ w2.heap.size = w.heap.size + 3 ∧ (∀ r, w.grownBy w2 r) ∧
    (∀ (j : Nat) v, c1[j]? = some v → w2.cell? ⟨w.heap.size, j, none⟩ = some v) ∧ (∀ (j : Nat) v, c2[j]? = some v → w2.cell? ⟨w.heap.size + 1, j, none⟩ = some v) ∧ (∀ (j : Nat) v, c3[j]? = some v → w2.cell? ⟨w.heap.size + 2, j, none⟩ = some v) ∧
    (∀ j, w2.frozen? ⟨w.heap.size, j, none⟩ = false) ∧ (∀ j, w2.frozen? ⟨w.heap.size + 1, j, none⟩ = false) ∧ (∀ j, w2.frozen? ⟨w.heap.size + 2, j, none⟩ = false) ∧
    (∃ o, w2.heap[w.heap.size + 1]? = some (.cells c2 o (0, 0))) ∧ (∃ o, w2.heap[w.heap.size + 2]? = some (.cells c3 o (0, 0))) ∧ (∀ k, k < w.heap.size → w2.heap[k]? = w.heap[k]?) := by
  obtain ⟨w1, hW, hs, hgr, h1, h2, f1, f2, hold⟩ := two_new w c1 c2 t1 t2
  obtain ⟨w3, hW3, hs3, hgr3, h3, f3, hold3⟩ := one_new w1 c3 t3
  rw [hW]
  rw [hs] at h3 f3
  refine ⟨w3, hW3, by omega, fun r => grownBy_trans' (hgr r) (hgr3 r), ?_, ?_, h3, ?_, ?_, f3, ?_, ?_, fun k hk => (hold3 k (by omega)).trans (hold k hk)⟩
  · exact fun j v h => (World.cell?_of_block (a := ⟨w.heap.size, j, none⟩) (hold3 _ (show w.heap.size < _ by omega))).trans (h1 j v h)
  · exact fun j v h => (World.cell?_of_block (a := ⟨w.heap.size + 1, j, none⟩) (hold3 _ (show w.heap.size + 1 < _ by omega))).trans (h2 j v h)
  · exact fun j => (World.frozen?_of_block (a := ⟨w.heap.size, j, none⟩) (hold3 _ (show w.heap.size < _ by omega))).trans (f1 j)
  · exact fun j => (World.frozen?_of_block (a := ⟨w.heap.size + 1, j, none⟩) (hold3 _ (show w.heap.size + 1 < _ by omega))).trans (f2 j)
  · refine ⟨t2, ?_⟩
    rw [hold3 _ (by omega), ← hW]
    have := heap_alloc_new (w.alloc (.cells c1 t1)) (.cells c2 t2)
    rwa [show (w.alloc (.cells c1 t1)).heap.size = w.heap.size + 1 by simp] at this
  · refine ⟨t3, ?_⟩
    rw [← hW3]
    have := heap_alloc_new w1 (.cells c3 t3)
    rwa [hs] at this

/-- A block of one number holds no pairs. -/
theorem one_int {w : World} {z : Nat} (h : ∃ o, w.heap[z]? = some (.cells #[.int .i64 0] o (0, 0))) : ∀ (j : Nat) (s : ByteArray), w.cell? ⟨z, j, none⟩ ≠ some (.string s) := by
  obtain ⟨o, h⟩ := h
  intro j s hc
  rw [cell_of_row w z j _ o (0, 0) h] at hc
  match j with
  | 0 => simp at hc
  | j + 1 => simp at hc
/-- Writing to two blocks that hold no pairs leaves a table as it is. -/
theorem tab_keep {w w' : World} {tb z1 z2 : Nat} {ps : List Pr} (h : TabAt w tb ps) (hs : w.heap.size ≤ w'.heap.size) (hb : ∀ k, k < w.heap.size → k ≠ z1 → k ≠ z2 → w'.heap[k]? = w.heap[k]?)
    (h1 : ∀ (j : Nat) (s : ByteArray), w.cell? ⟨z1, j, none⟩ ≠ some (.string s)) (h2 : ∀ (j : Nat) (s : ByteArray), w.cell? ⟨z2, j, none⟩ ≠ some (.string s)) (n1 : tb ≠ z1) (n2 : tb ≠ z2) : TabAt w' tb ps := by
  have hlt := h.lt
  obtain ⟨⟨v, hc, hp⟩, hf, hty⟩ := h
  have hbt := hb tb hlt n1 n2
  refine ⟨⟨v, (World.cell?_of_block (a := ⟨tb, 0, none⟩) hbt).trans hc, ?_⟩, (World.frozen?_of_block (a := ⟨tb, 0, none⟩) hbt).trans hf, ?ty⟩
  case ty =>
    intro hn b off n c h
    have h0 := (World.cell?_of_block (a := ⟨tb, 0, none⟩) hbt).symm.trans h
    obtain ⟨cur, o, hh⟩ := hty hn b off n c h0
    rw [hc] at h0
    obtain rfl := Option.some.inj h0
    obtain ⟨b', off', hA, _, _, k0, _, _⟩ := hp.at_ 0 hn
    obtain ⟨rfl, rfl, _⟩ := Addr.mk.inj (Option.some.inj hA)
    exact ⟨cur, o, (hb b (Array.getElem?_eq_some_iff.1 hh).1 (fun e => h1 _ _ (e ▸ k0)) (fun e => h2 _ _ (e ▸ k0))).trans hh⟩
  obtain ⟨A, c, rfl, hc1, hcm⟩ := hp.form
  have hp0 := hp
  obtain ⟨⟨A', c', hv, e1, e2, e3, e4⟩, hne⟩ := hp
  refine ⟨⟨A', c', hv, e1, e2, e3, fun hn => ?_⟩, hne⟩
  obtain ⟨b, off, hA, hblt, hcc⟩ := e4 hn
  obtain ⟨b', off', hA2, _, _, k0, _, _⟩ := hp0.at_ 0 hn
  have hAA : A = A' := by injection hv
  subst hAA
  rw [hA] at hA2
  have hA3 := Addr.mk.inj (Option.some.inj hA2)
  obtain ⟨rfl, rfl, _⟩ := hA3
  have hb1 : b ≠ z1 := fun e => h1 _ _ (e ▸ k0)
  have hb2 : b ≠ z2 := fun e => h2 _ _ (e ▸ k0)
  exact ⟨b, off, hA, by omega, fun j u hu => (World.cell?_of_block (a := ⟨b, off + j, none⟩) (hb b hblt hb1 hb2)).trans (hcc j u hu)⟩

set_option maxHeartbeats 4000000 in
set_option maxRecDepth 100000 in
theorem Value_any (tb : Nat) (x : E) (v : Value) (ok : Nat → Prop) (w : World) (ps : List Pr) (hx : ExR w ok x v) (hc : ValC w tb ok x ps) :
    Calls Tryz.prog 18 #[v, .iface 41 (.pointer (some ⟨tb, 0, none⟩))] w (FaceR w tb (faceV x ps)) := by
  have hmf : ∀ (fn : Fn) (first cap : Array Value) (w : World), (Instr.makeFunc fn first cap).run Tryz.prog w = .ok (.func fn first cap) w := fun _ _ _ _ => rfl
  have hnn := fun W => iface_no_nil tb W
  have hth := fun W => throw_any 32 0 W
  have htb := hc.tab.lt
  have hdp := fun W v (h1 : ExR W ok x v) h2 => deeper_any 200 (by omega) x v ok W h1 h2
  have hva := fun W v (h1 : ExR W ok x v) h2 h3 => value_all tb 200 x v ok W ps h1 h2 h3
  unfold faceV
  have hkeep := fun W (hg : w.grownBy W none) => hc.keep hg
  have hbl := fun g h => (hc.blk g h).1
  have ht0 := Lib.hid hc.tab
  obtain ⟨op, num, name, kids⟩ := x
  have hx0 := Lib.hid hx
  obtain ⟨A, cc, rfl, hcc, hcm, _⟩ := hx.form
  obtain ⟨KL, hKL⟩ : ∃ KL, kids.length = KL := ⟨_, rfl⟩
  rw [hKL] at hx0 hcc ⊢
  obtain ⟨q, hq⟩ : ∃ q, dpLe 200 (.mk op num name kids) = q := ⟨_, rfl⟩
  rw [hq] at hdp hva ⊢
  obtain ⟨R, hR⟩ : ∃ R, valueP 200 (.mk op num name kids) ps = R := ⟨_, rfl⟩
  rw [hR] at hva ⊢
  obtain ⟨FF, hF⟩ : ∃ FF, (if q = true then R else VRes.no 32 ps) = FF := ⟨_, rfl⟩
  rw [hF]
  replace hF := Lib.hid hF
  clear hx hKL hq hR hc
  go_enter_defers Tryz.func18, Tryz.ntmps18
  go_upto_region 1 with fail
  obtain ⟨w2, hW2, hs2, hgr, hcz, hcy, hcx, hfz, hfy, hfx, hby, hbx, hold⟩ := three_new w #[.string ⟨op.toArray⟩, .int .i64 num, .string ⟨name.toArray⟩, .slice A KL cc] #[.int .i64 0] #[.int .i64 0] 30 2 23
  rw [hW2]
  obtain ⟨z, hz⟩ : ∃ z, w.heap.size = z := ⟨_, rfl⟩
  rw [hz] at hcz hcy hcx hfy hfx hs2 hby hbx ⊢
  have q0 := hcz 0 _ rfl
  have q1 := hcz 1 _ rfl
  have q2 := hcz 2 _ rfl
  have q3 := hcz 3 _ rfl
  have s4 := hcy 0 _ rfl
  have s5 := hcx 0 _ rfl
  have f4 := hfy 0
  have f5 := hfx 0
  have hg2 := hgr none
  have hx2 := hx0.out.keep (w' := w2) (ok' := ok) (fun g h => h) (fun g h => hold g (hbl g h))
  have hdp2 := hdp w2 _ hx2 (fun g h => by have := hbl g h; omega)
  have hzh := Lib.hid hz
  clear hW2 hgr hcz hcy hcx hfz hfy hfx hdp hx2
  go_wp2_with fail
  refine hdp2.mono ?_
  rintro e w3 ⟨rfl, hg3⟩
  have hg23 := grownBy_trans' hg2 hg3
  have q0 := hg3.cell q0 (by simp)
  have q1 := hg3.cell q1 (by simp)
  have q2 := hg3.cell q2 (by simp)
  have q3 := hg3.cell q3 (by simp)
  have s4 := hg3.cell s4 (by simp)
  have s5 := hg3.cell s5 (by simp)
  have f4 := (World.frozen?_of_block (a := ⟨z + 1, 0, none⟩) (hg3.block _ (show z + 1 < _ by omega) (by simp))).trans f4
  have f5 := (World.frozen?_of_block (a := ⟨z + 2, 0, none⟩) (hg3.block _ (show z + 2 < _ by omega) (by simp))).trans f5
  have hs3 := hg3.size
  clear hdp2
  cases q with
  | false =>
    replace hF := hF.out
    simp only [Bool.false_eq_true, if_false] at hF
    subst hF
    simp only [Bool.not_false]
    clear hva
    go_wp2_with fail
    refine (hth _).mono ?_
    rintro e wq ⟨rfl, hwq⟩
    obtain rfl := hwq.symm
    refine leaves_cons (f := 42) (args := #[.pointer (some ⟨z + 1, 0, none⟩), .pointer (some ⟨z + 1 + 1, 0, none⟩)]) (by simp) (by simp [go_sem]) ?_
    refine (catchV_thrown (z + 1) 32 0 [] w3 s4 s5 f4 f5).mono ?_
    rintro e u' w5 ⟨rfl, rfl, ⟨c0, c1⟩, hfr, _, _⟩
    have hgE := hfr w none hg23 (by have := hzh.out; omega)
    simp [Leaves, settle, results, Tryz.results18, go_sem, c0, c1]
    exact ⟨rfl, ht0.out.keep hgE, grow_some hgE tb⟩
  | true =>
    replace hF := hF.out
    simp only [if_true] at hF
    subst hF
    simp only [Bool.not_true]
    have hx3 := hx0.out.keep (w' := w3) (ok' := ok) (fun g h => h) (fun g h => (hg3.block g (by have := hbl g h; omega) (by simp)).trans (hold g (hbl g h)))
    have hva3 := hva w3 _ hx3 (hkeep w3 hg23) rfl
    unfold valr at hva3
    clear hx3 hva hold
    go_wp2_with fail
    refine hva3.mono ?_
    intro e w4 h
    clear hva3
    have hby4 : w3.grownBy w4 (some tb) → ∃ o, w4.heap[z + 1]? = some (.cells #[.int .i64 0] o (0, 0)) := fun hg => hby.imp fun o h => by rw [hg.block _ (by omega) (by simp; have := hzh.out; omega), hg3.block _ (by omega) (by simp)]; exact h
    have hbx4 : w3.grownBy w4 (some tb) → ∃ o, w4.heap[z + 2]? = some (.cells #[.int .i64 0] o (0, 0)) := fun hg => hbx.imp fun o h => by rw [hg.block _ (by omega) (by simp; have := hzh.out; omega), hg3.block _ (by omega) (by simp)]; exact h
    cases R with
    | no c1 qs =>
      obtain ⟨rfl, ht4, hg4⟩ := h
      have hgE := grownBy_trans' (grow_some hg23 tb) hg4
      have hby4 := hby4 hg4
      have hbx4 := hbx4 hg4
      have s4 := cell_grown s4 hg4 (by have := hzh.out; omega)
      have s5 := cell_grown s5 hg4 (by have := hzh.out; omega)
      have f4 := frozen_grown f4 (by omega) hg4 (by have := hzh.out; omega)
      have f5 := frozen_grown f5 (by omega) hg4 (by have := hzh.out; omega)
      refine leaves_cons (f := 42) (args := #[.pointer (some ⟨z + 1, 0, none⟩), .pointer (some ⟨z + 1 + 1, 0, none⟩)]) (by simp) (by simp [go_sem]) ?_
      refine (catchV_thrown (z + 1) c1 0 [] w4 s4 s5 f4 f5).mono ?_
      rintro e u' w5 ⟨rfl, rfl, ⟨c0, c1⟩, hfr, hs45, hb45⟩
      have hgF := hfr w (some tb) hgE (by have := hzh.out; omega)
      simp [Leaves, settle, results, Tryz.results18, go_sem, c0, c1]
      exact ⟨rfl, tab_keep ht4 hs45 hb45 (one_int hby4) (one_int hbx4) (by have := hzh.out; omega) (by have := hzh.out; omega), hgF⟩
    | ok m qs =>
      obtain ⟨rfl, ht4, hg4⟩ := h
      have hgE := grownBy_trans' (grow_some hg23 tb) hg4
      have hby4 := hby4 hg4
      have hbx4 := hbx4 hg4
      have s4 := cell_grown s4 hg4 (by have := hzh.out; omega)
      have s5 := cell_grown s5 hg4 (by have := hzh.out; omega)
      have f4 := frozen_grown f4 (by omega) hg4 (by have := hzh.out; omega)
      have f5 := frozen_grown f5 (by omega) hg4 (by have := hzh.out; omega)
      have hby4 := Lib.hid hby4
      have hbx4 := Lib.hid hbx4
      have hs4 := hg4.size
      clear q0 q1 q2 q3 hby hbx
      go_wp2
      refine leaves_cons (f := 42) (args := #[.pointer (some ⟨z + 1, 0, none⟩), .pointer (some ⟨z + 1 + 1, 0, none⟩)]) (by simp) (by simp [go_sem]) ?_
      refine (catchV_idle _ _ _).mono ?_
      rintro e u' w5 ⟨rfl, rfl, rfl⟩
      have hg1 := grownBy_setC w4 (z + 1) 0 (.int .i64 m)
      have hg2' := grownBy_setC (w4.setCell ⟨z + 1, 0, none⟩ (.int .i64 m)) (z + 1 + 1) 0 (.int .i64 0)
      have d4 := cell_grown (setC_same w4 (z + 1) 0 (.int .i64 m) _ s4) hg2' (show z + 1 ≠ z + 1 + 1 by omega)
      have d5 := setC_same (w4.setCell ⟨z + 1, 0, none⟩ (.int .i64 m)) (z + 1 + 1) 0 (.int .i64 0) _ (cell_grown s5 hg1 (show z + 2 ≠ z + 1 by omega))
      have hgF := grown_some (grown_some hgE hg1 (by have := hzh.out; omega)) hg2' (by have := hzh.out; omega)
      have htF : TabAt ((w4.setCell ⟨z + 1, 0, none⟩ (.int .i64 m)).setCell ⟨z + 1 + 1, 0, none⟩ (.int .i64 0)) tb qs :=
        tab_keep ht4 (Nat.le_trans hg1.size hg2'.size) (fun k hk h1 h2 => (hg2'.block k (Nat.lt_of_lt_of_le hk hg1.size) (by simpa using h2)).trans (hg1.block k hk (by simpa using h1))) (one_int hby4.out) (one_int hbx4.out) (by have := hzh.out; omega) (by have := hzh.out; omega)
      simp [Leaves, settle, results, Tryz.results18, go_sem, d4, d5]
      exact ⟨rfl, htF, hgF⟩
end Go.Proofs.YtlijlgbaikijnaaGreatDoor
