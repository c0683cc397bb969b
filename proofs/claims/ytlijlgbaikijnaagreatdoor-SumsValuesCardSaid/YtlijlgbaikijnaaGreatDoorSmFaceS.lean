/-
  Show, by the package: its closure, and what it answers. Conditions: names of at most a million bytes; numbers of 64 bits; at most 65536 Ops in one another.
  Show, by the package. Conditions: names of at most a million bytes; numbers of 64 bits; at most 65536 Ops in one another.
-/
import Derived.Test.YtlijlgbaikijnaaGreatDoorSmShow
namespace Go.Proofs.YtlijlgbaikijnaaGreatDoor
open Go Go.RowKit

theorem kidsV_01 {op : List UInt8} (hn1 : op ≠ [110, 117, 109]) (hn2 : op ≠ [110, 97, 109, 101]) : kidsV op ≠ 0 := fun h => (kidsV_0 h).elim hn1 hn2
theorem show_all (B b : Nat) : ∀ (n : Nat) (x : E), sizeE x ≤ n → Shows B b x
  | 0, .mk _ _ _ _, h => by unfold sizeE at h; omega
  | n + 1, .mk op num name kids, h => by
    unfold sizeE at h
    have ih : ∀ x ∈ kids, Shows B b x := fun x hx => show_all B b n x (by have := sizeL.mem x hx; omega)
    intro v ok w out hx hok hib hB hpw hr hnum hsh hout
    have hr0 := hr
    rw [rightE] at hr0
    simp only [Bool.and_eq_true, decide_eq_true_eq] at hr0
    have hK := hr0.1.1.1
    by_cases h1 : op = [110, 117, 109]
    · have h0 : kidsV op = 0 := by rw [h1]; decide
      obtain rfl : kids = [] := List.eq_nil_of_length_eq_zero (by omega)
      exact show_num B b op name num hr h1 v ok w out hx hok hib hB hpw hr hnum hsh hout
    · by_cases h2 : op = [110, 97, 109, 101]
      · have h0 : kidsV op = 0 := by rw [h2]; decide
        obtain rfl : kids = [] := List.eq_nil_of_length_eq_zero (by omega)
        exact show_name B b op name num hr h2 v ok w out hx hok hib hB hpw hr hnum hsh hout
      · match kids, hK, ih, hr, hx, hnum, hsh with
        | [], hK, _, _, _, _, _ => exact absurd hK.symm (kidsV_01 h1 h2)
        | [a], hK, ih, hr, hx, hnum, hsh =>
          by_cases hA : asgV op = true
          · exact show_asg B b op name num a hr (ih a (by simp)) h1 h2 hA v ok w out hx hok hib hB hpw hr hnum hsh hout
          · exact show_mark B b op name num a hr (ih a (by simp)) h1 h2 (by simpa using hA) v ok w out hx hok hib hB hpw hr hnum hsh hout
        | [a, c], hK, ih, hr, hx, hnum, hsh => exact show_two B b op name num a c hr (ih a (by simp)) (ih c (by simp)) h1 h2 v ok w out hx hok hib hB hpw hr hnum hsh hout
        | [a, c, d], hK, ih, hr, hx, hnum, hsh => exact show_three B b op name num a c d hr (ih a (by simp)) (ih c (by simp)) (ih d (by simp)) h1 h2 v ok w out hx hok hib hB hpw hr hnum hsh hout
        | _ :: _ :: _ :: _ :: l, hK, _, _, _, _, _ => rcases kidsV_cases op with h | h | h | h | h <;> (rw [h] at hK; simp at hK; omega)

set_option maxHeartbeats 1000000 in
set_option maxRecDepth 100000 in
theorem catchS_idle (p2 p3 : Addr) (w : World) :
    CallsD Tryz.prog 33 #[.pointer (some p2), .pointer (some p3)] .returning w fun e u' w' => e = .returned (.tuple #[]) ∧ u' = .returning ∧ w' = w.alloc (.cells #[.int .i64 0, .int .i64 0] 71) := by
  refine callsD_of_wpS Tryz.func33 rfl fun c₀ cs hu => ?_
  apply wpS_seq
  apply wpS_region
  simp [wpOpsS, go_sem, recoverD, hu, Tryz.ntmps33, Exit.thenS, assert_nil]
  refine wpS_of_wp ?_
  simp only [Array.replicate, List.setIfInBounds_toArray, List.replicate, List.set, List.append_toArray, List.cons_append, List.nil_append]
  go_wp2
  cases c₀
  simp_all [bodyPostS, results, Tryz.results33]

/-- What the closure leaves of a fault. -/
def CaughtS (z : Nat) (c : Int) (w w' : World) : Prop :=
  (w'.cell? ⟨z, 0, none⟩ = some (.string ⟨#[]⟩) ∧ w'.cell? ⟨z + 1, 0, none⟩ = some (.int .i64 c)) ∧
  (∀ a : World, ∀ r, a.grownBy w r → a.heap.size ≤ z → a.grownBy w' r)
set_option maxHeartbeats 1000000 in
set_option maxRecDepth 100000 in
theorem catchS_thrown (z : Nat) (c : Int) (n : Nat) (older : List PanicEntry) (w : World) {u4 u5 : Value}
    (s4 : w.cell? ⟨z, 0, none⟩ = some u4) (s5 : w.cell? ⟨z + 1, 0, none⟩ = some u5) (f4 : w.frozen? ⟨z, 0, none⟩ = false) (f5 : w.frozen? ⟨z + 1, 0, none⟩ = false) :
    CallsD Tryz.prog 33 #[.pointer (some ⟨z, 0, none⟩), .pointer (some ⟨z + 1, 0, none⟩)] (.panicking ({ v := .iface 71 (.agg #[.int .i64 c, .int .i64 (n : Int)]), recovered := false } :: older)) w fun e u' w' =>
      e = .returned (.tuple #[]) ∧ u' = .panicking ({ v := .iface 71 (.agg #[.int .i64 c, .int .i64 (n : Int)]), recovered := true } :: older) ∧ CaughtS z c w w' := by
  have hz2 : z + 1 < w.heap.size := World.block_lt_of_cell? w ⟨z + 1, 0, none⟩ s5
  refine callsD_of_wpS Tryz.func33 rfl fun c₀ cs hu => ?_
  apply wpS_seq
  apply wpS_region
  simp [wpOpsS, go_sem, recoverD, hu, Tryz.ntmps33, Exit.thenS, assert_flt]
  refine wpS_of_wp ?_
  simp only [Array.replicate, List.setIfInBounds_toArray, List.replicate, List.set, List.append_toArray, List.cons_append, List.nil_append]
  obtain ⟨w2, hW2, hs2, hgr, hcz, hfz, hold⟩ := one_new w #[.int .i64 c, .int .i64 (n : Int)] 71
  have s4 := (World.cell?_of_block (a := ⟨z, 0, none⟩) (hold z (by omega))).trans s4
  have s5 := (World.cell?_of_block (a := ⟨z + 1, 0, none⟩) (hold (z + 1) (by omega))).trans s5
  have f4 := (World.frozen?_of_block (a := ⟨z, 0, none⟩) (hold z (by omega))).trans f4
  have f5 := (World.frozen?_of_block (a := ⟨z + 1, 0, none⟩) (hold (z + 1) (by omega))).trans f5
  rw [hW2]
  obtain ⟨y, hy⟩ : ∃ y, w.heap.size = y := ⟨_, rfl⟩
  rw [hy] at hcz hz2 ⊢
  have q0 := hcz 0 _ rfl
  have hyz : y ≠ z := by omega
  have hyz1 : y ≠ z + 1 := by omega
  clear hW2 hcz hold
  go_wp2_with fail
  refine wp_region_last (L := 3) (S := (fun w' : World => w'.cell? ⟨y, 0, none⟩ = some (.int .i64 c))) (by kernel_rfl) ?_
  have hS0 : (fun w' : World => w'.cell? ⟨y, 0, none⟩ = some (.int .i64 c)) w2.drew := q0
  refine wpAnyT_takeT (n := 40) (i := 0) (v := .pointer (some ⟨y, 0, none⟩)) rfl (by kernel_rfl) (by kernel_rfl) (by kernel_rfl) (by kernel_rfl) (by kernel_rfl) (fun _ _ _ h => h) (Or.inl ⟨by rfl, ?_⟩) hS0 ?_
  · intro W hW
    have k0 := hW
    clear hS0 s4 s5 f4 f5 hu q0
    go_simp
    try (intro hx; exfalso; omega)
  try simp only [Act.put, List.setIfInBounds_toArray]
  refine wpAnyT_takeT (n := 40) (i := 1) (v := .int .i64 c) rfl (by kernel_rfl) (by kernel_rfl) (by kernel_rfl) (by kernel_rfl) (by kernel_rfl) (fun _ _ _ h => h) (Or.inl ⟨by rfl, ?_⟩) hS0 ?_
  · intro W hW
    have k0 := hW
    clear hS0 s4 s5 f4 f5 hu q0
    go_simp
    try (intro hx; exfalso; omega)
  try simp only [Act.put]
  clear hS0
  refine wpAnyT_one (i := 2) rfl (by kernel_rfl) rfl ?_
  go_simp
  refine wpAnyT_one (i := 3) rfl (by kernel_rfl) rfl ?_
  go_simp
  refine wpAnyT_done (by kernel_rfl) ?_ _
  have hg1 := grownBy_setC w2 z 0 (.string ⟨#[]⟩)
  have hg2 := grownBy_setC (w2.setCell ⟨z, 0, none⟩ (.string ⟨#[]⟩)) (z + 1) 0 (.int .i64 c)
  have d4 := cell_grown (setC_same w2 z 0 (.string ⟨#[]⟩) _ s4) hg2 (show z ≠ z + 1 by omega)
  have d5 := setC_same (w2.setCell ⟨z, 0, none⟩ (.string ⟨#[]⟩)) (z + 1) 0 (.int .i64 c) _ (cell_grown s5 hg1 (by omega))
  have hC : CaughtS z c w (((w2.setCell ⟨z, 0, none⟩ (.string ⟨#[]⟩)).setCell ⟨z + 1, 0, none⟩ (.int .i64 c)).drew) :=
    ⟨⟨d4, d5⟩, fun a r h1 h2 => by
      have h5 := grown_some (grown_some (grownBy_trans' h1 (hgr r)) hg1 h2) hg2 (by omega)
      exact ⟨h5.os, h5.tape, h5.output, h5.size, h5.block⟩⟩
  clear q0 s4 s5 f4 f5
  go_wp2
  cases c₀
  simp [bodyPostS, results, Tryz.results33, hC]
end Go.Proofs.YtlijlgbaikijnaaGreatDoor

namespace Go.Proofs.YtlijlgbaikijnaaGreatDoor
open Go Go.RowKit

/-- How an expression is told, and what is wrong. -/
def showF (x : E) : List UInt8 × Int :=
  if rightE x = false then ([], 1) else if dpLe 20 x = false then ([], 32) else if (showE x).length ≤ 4096 then (showE x, 0) else ([], 21)
theorem dpLe_size : ∀ (n : Nat) (x : E), sizeE x ≤ n → dpLe n x = true
  | 0, .mk _ _ _ _, h => by unfold sizeE at h; omega
  | n + 1, .mk op num name kids, h => by
    unfold sizeE at h
    rw [dpLe, List.all_eq_true]
    exact fun x hx => dpLe_size n x (by have := sizeL.mem x hx; omega)
theorem below_of_none {w w' : World} (h : w.grownBy w' none) : Below w.heap.size w w' := ⟨h.os, h.tape, h.output, h.size, fun i hi => h.block i hi (by simp)⟩

set_option maxHeartbeats 4000000 in
set_option maxRecDepth 100000 in
theorem Show_any (x : E) (v : Value) (ok : Nat → Prop) (w : World) (hx : ExR w ok x v) (hok : ∀ g, ok g → g < w.heap.size) (ht : Tab w) (hn : NumE x) (hsh : ShortE x) (hsz : sizeE x ≤ 65536) :
    Calls Tryz.prog 13 #[v] w fun e w' => e = .returned (.tuple #[.string ⟨(showF x).1.toArray⟩, .int .i64 (showF x).2]) ∧ w.grownBy w' none := by
  have hmf : ∀ (fn : Fn) (first cap : Array Value) (w : World), (Instr.makeFunc fn first cap).run Tryz.prog w = .ok (.func fn first cap) w := fun _ _ _ _ => rfl
  have hth := fun W => throw_any 32 0 W
  have hdp : ∀ (W : World) v, ExR W ok x v → (∀ g, ok g → g < W.heap.size) → Calls Tryz.prog 34 #[v, .int .i64 65536] W fun e w' => e = .returned (.bool false) ∧ W.grownBy w' none := by
    intro W v h1 h2
    obtain ⟨N, hN⟩ : ∃ N : Nat, N = 65536 := ⟨_, rfl⟩
    have h3 := deeper_any N (by omega) x v ok W h1 h2
    rw [dpLe_size N x (by omega)] at h3
    rw [show (65536 : Int) = (N : Int) by omega]
    exact h3
  have hd2 := fun W v (h1 : ExR W ok x v) h2 => deeper_any 20 (by omega) x v ok W h1 h2
  have hck := fun W v (h1 : ExR W ok x v) h2 => check_all _ x (Nat.le_refl _) v ok W h1 h2 hsh
  have hsw := fun (B : Nat) (W : World) v (h1 : ExR W ok x v) h2 h3 h4 h5 h6 => show_all B B _ x (Nat.le_refl _) v ok W [] h1 h2 h3 h4 h5 h6 hn hsh (by simp)
  have hbs := fun B b l W h1 h2 => bString B b l W h1 h2
  obtain ⟨F, hF⟩ : ∃ F, showF x = F := ⟨_, rfl⟩
  rw [hF]
  unfold showF at hF
  obtain ⟨r1, hq1⟩ : ∃ r1, rightE x = r1 := ⟨_, rfl⟩
  obtain ⟨r2, hq2⟩ : ∃ r2, dpLe 20 x = r2 := ⟨_, rfl⟩
  obtain ⟨T, hT⟩ : ∃ T, showE x = T := ⟨_, rfl⟩
  rw [hq1, hq2, hT] at hF
  rw [hq1] at hck hsw
  rw [hq2] at hd2
  rw [hT] at hsw
  have hx0 := Lib.hid hx
  obtain ⟨op, num, name, kids⟩ := x
  obtain ⟨A, cc, rfl, hcc, hcm, _⟩ := hx.form
  obtain ⟨KL, hKL⟩ : ∃ KL, kids.length = KL := ⟨_, rfl⟩
  rw [hKL] at hx0 hcc ⊢
  replace hF := Lib.hid hF
  clear hx hKL hq1 hq2 hT hn hsh hsz
  go_enter_defers Tryz.func13, Tryz.ntmps13
  go_upto_region 1 with fail
  obtain ⟨w2, hW2, hs2, hgr, hcz, hcy, hcx, hfz, hfy, hfx, _, _, hold⟩ := three_new w #[.string ⟨op.toArray⟩, .int .i64 num, .string ⟨name.toArray⟩, .slice A KL cc] #[.string ⟨#[]⟩] #[.int .i64 0] 30 9 23
  rw [hW2]
  obtain ⟨z, hz⟩ : ∃ z, w.heap.size = z := ⟨_, rfl⟩
  rw [hz] at hcz hcy hcx hfy hfx hs2 ⊢
  have q0 := hcz 0 _ rfl
  have q1 := hcz 1 _ rfl
  have q2 := hcz 2 _ rfl
  have q3 := hcz 3 _ rfl
  have s4 := hcy 0 _ rfl
  have s5 := hcx 0 _ rfl
  have f4 := hfy 0
  have f5 := hfx 0
  have hg2 := hgr none
  have hzh := Lib.hid hz
  have hxg : ∀ W, w.grownBy W none → ExR W ok (.mk op num name kids) (.agg #[.string ⟨op.toArray⟩, .int .i64 num, .string ⟨name.toArray⟩, .slice A KL cc]) := fun W hg => hx0.out.keep (fun g h => h) (fun g h => hg.block g (hok g h) (by simp))
  have hog : ∀ W, w.grownBy W none → ∀ g, ok g → g < W.heap.size := fun W hg g h => Nat.lt_of_lt_of_le (hok g h) hg.size
  have hdp2 := hdp w2 _ (hxg w2 hg2) (hog w2 hg2)
  clear hW2 hgr hcz hcy hcx hfz hfy hfx hdp hold hx0
  go_wp2_with fail
  refine hdp2.mono ?_
  rintro e w3 ⟨rfl, hg3⟩
  have hg23 := grownBy_trans' hg2 hg3
  have q0 := hg3.cell q0 (by simp)
  have q1 := hg3.cell q1 (by simp)
  have q2 := hg3.cell q2 (by simp)
  have q3 := hg3.cell q3 (by simp)
  have s4 := hg3.cell s4 (by simp)
  have s5 := hg3.cell s5 (by simp)
  have f4 := (World.frozen?_of_block (a := ⟨z + 1, 0, none⟩) (hg3.block _ (show z + 1 < _ by omega) (by simp))).trans f4
  have f5 := (World.frozen?_of_block (a := ⟨z + 2, 0, none⟩) (hg3.block _ (show z + 2 < _ by omega) (by simp))).trans f5
  have hs3 := hg3.size
  have hck3 := hck w3 _ (hxg w3 hg23) (hog w3 hg23)
  clear hdp2 hg3 hg2 hck
  go_wp2_with fail
  refine hck3.mono ?_
  rintro e w4 ⟨he, hg4⟩
  have hg24 := grownBy_trans' hg23 hg4
  have q0 := hg4.cell q0 (by simp)
  have q1 := hg4.cell q1 (by simp)
  have q2 := hg4.cell q2 (by simp)
  have q3 := hg4.cell q3 (by simp)
  have s4 := hg4.cell s4 (by simp)
  have s5 := hg4.cell s5 (by simp)
  have f4 := (World.frozen?_of_block (a := ⟨z + 1, 0, none⟩) (hg4.block _ (show z + 1 < _ by omega) (by simp))).trans f4
  have f5 := (World.frozen?_of_block (a := ⟨z + 2, 0, none⟩) (hg4.block _ (show z + 2 < _ by omega) (by simp))).trans f5
  have hs4 := hg4.size
  clear hck3 hg4 hg23
  cases r1 with
  | false =>
    simp only [Bool.false_eq_true, if_false] at he
    subst he
    replace hF := hF.out
    simp only [if_true] at hF
    subst hF
    refine leaves_cons (f := 33) (args := #[.pointer (some ⟨z + 1, 0, none⟩), .pointer (some ⟨z + 1 + 1, 0, none⟩)]) (by simp) (by simp [go_sem]) ?_
    refine (catchS_thrown (z + 1) 1 0 [] w4 s4 s5 f4 f5).mono ?_
    rintro e u' w5 ⟨rfl, rfl, ⟨c0, c1⟩, hfr⟩
    have hgE := hfr w none hg24 (by have := hzh.out; omega)
    simp [Leaves, settle, results, Tryz.results13, go_sem, c0, c1]
    exact hgE
  | true =>
    simp only [if_true] at he
    obtain ⟨u, rfl⟩ := he
    have hd4 := hd2 w4 _ (hxg w4 hg24) (hog w4 hg24)
    clear hd2
    go_wp2_with fail
    refine hd4.mono ?_
    rintro e w5 ⟨rfl, hg5⟩
    have hg25 := grownBy_trans' hg24 hg5
    have q0 := hg5.cell q0 (by simp)
    have q1 := hg5.cell q1 (by simp)
    have q2 := hg5.cell q2 (by simp)
    have q3 := hg5.cell q3 (by simp)
    have s4 := hg5.cell s4 (by simp)
    have s5 := hg5.cell s5 (by simp)
    have f4 := (World.frozen?_of_block (a := ⟨z + 1, 0, none⟩) (hg5.block _ (show z + 1 < _ by omega) (by simp))).trans f4
    have f5 := (World.frozen?_of_block (a := ⟨z + 2, 0, none⟩) (hg5.block _ (show z + 2 < _ by omega) (by simp))).trans f5
    have hs5 := hg5.size
    clear hd4 hg5 hg24
    cases r2 with
    | false =>
      simp only [Bool.not_false]
      replace hF := hF.out
      simp only [Bool.true_eq_false, if_false, if_true] at hF
      subst hF
      clear hsw
      go_wp2_with fail
      refine (hth _).mono ?_
      rintro e wq ⟨rfl, hwq⟩
      obtain rfl := hwq.symm
      refine leaves_cons (f := 33) (args := #[.pointer (some ⟨z + 1, 0, none⟩), .pointer (some ⟨z + 1 + 1, 0, none⟩)]) (by simp) (by simp [go_sem]) ?_
      refine (catchS_thrown (z + 1) 32 0 [] w5 s4 s5 f4 f5).mono ?_
      rintro e u' w6 ⟨rfl, rfl, ⟨c0, c1⟩, hfr⟩
      have hgE := hfr w none hg25 (by have := hzh.out; omega)
      simp [Leaves, settle, results, Tryz.results13, go_sem, c0, c1]
      exact hgE
    | true =>
      simp only [Bool.not_true]
      replace hF := hF.out
      simp only [Bool.true_eq_false, if_false] at hF
      replace hF := Lib.hid hF
      have hib := fresh_isB w5
      go_upto_region 8 with fail
      have hg6 : w5.grownBy (w5.alloc (.cells #[.pointer none, .slice none 0 0] 78)) none := World.grownBy_alloc _ _ _
      have hs6 : (w5.alloc (.cells #[.pointer none, .slice none 0 0] 78)).heap.size = w5.heap.size + 1 := by simp
      generalize w5.alloc (.cells #[.pointer none, .slice none 0 0] 78) = w6 at hg6 hs6 hib ⊢
      obtain ⟨B, hB⟩ : ∃ B, w5.heap.size = B := ⟨_, rfl⟩
      have hg26 := grownBy_trans' hg25 hg6
      have q0 := hg6.cell q0 (by simp)
      have q1 := hg6.cell q1 (by simp)
      have q2 := hg6.cell q2 (by simp)
      have q3 := hg6.cell q3 (by simp)
      have s4 := hg6.cell s4 (by simp)
      have s5 := hg6.cell s5 (by simp)
      have f4 := (World.frozen?_of_block (a := ⟨z + 1, 0, none⟩) (hg6.block _ (show z + 1 < _ by omega) (by simp))).trans f4
      have f5 := (World.frozen?_of_block (a := ⟨z + 2, 0, none⟩) (hg6.block _ (show z + 2 < _ by omega) (by simp))).trans f5
      rw [hB] at hs6 hib ⊢
      have hs25 := hg25.size
      have hpw : PowP B w6 := fun w' hb => ht.below ((below_of_none hg26).trans (hb.mono (by omega)))
      have hsw6 := hsw B w6 _ (hxg w6 hg26) (fun g h => by have := hok g h; omega) hib (by omega) hpw trivial
      clear hsw hib
      go_wp2_with fail
      refine hsw6.mono ?_
      intro e w7 h
      unfold PutR at h
      simp only [List.length_nil, Nat.zero_add, List.nil_append] at h
      by_cases hlen : T.length ≤ 4096
      · rw [if_pos hlen] at h
        obtain ⟨⟨u, rfl⟩, hi7, hb7, _⟩ := h
        replace hF := hF.out
        rw [if_pos hlen] at hF
        subst hF
        have q0 := (World.cell?_of_block (a := ⟨z + 1, 0, none⟩) (hb7.block (z + 1) (by omega))).trans s4
        have q1 := (World.cell?_of_block (a := ⟨z + 2, 0, none⟩) (hb7.block (z + 2) (by omega))).trans s5
        have f4 := (World.frozen?_of_block (a := ⟨z + 1, 0, none⟩) (hb7.block (z + 1) (by omega))).trans f4
        have f5 := (World.frozen?_of_block (a := ⟨z + 2, 0, none⟩) (hb7.block (z + 2) (by omega))).trans f5
        have hg27 : w.grownBy w7 none := ⟨hb7.os.trans hg26.os, hb7.tape.trans hg26.tape, hb7.output.trans hg26.output, Nat.le_trans hg26.size hb7.size, fun k hk _ => (hb7.block k (by omega)).trans (hg26.block k hk (by simp))⟩
        have hs7 := hb7.size
        clear hb7 hg26
        have hbs7 := hbs B B T w7 hi7 (by omega)
        go_wp2_with fail
        refine hbs7.mono ?_
        rintro e w8 ⟨rfl, hb8⟩
        have hg28 : w.grownBy w8 none := ⟨hb8.os.trans hg27.os, hb8.tape.trans hg27.tape, hb8.output.trans hg27.output, Nat.le_trans hg27.size hb8.size, fun k hk _ => (hb8.block k (by omega)).trans (hg27.block k hk (by simp))⟩
        have s4 := (World.cell?_of_block (a := ⟨z + 1, 0, none⟩) (hb8.block (z + 1) (by omega))).trans q0
        have s5 := (World.cell?_of_block (a := ⟨z + 2, 0, none⟩) (hb8.block (z + 2) (by omega))).trans q1
        have f4 := (World.frozen?_of_block (a := ⟨z + 1, 0, none⟩) (hb8.block (z + 1) (by omega))).trans f4
        have f5 := (World.frozen?_of_block (a := ⟨z + 2, 0, none⟩) (hb8.block (z + 2) (by omega))).trans f5
        clear hb8 hbs7 hbs hi7 hg27 q0 q1
        go_wp2
        refine leaves_cons (f := 33) (args := #[.pointer (some ⟨z + 1, 0, none⟩), .pointer (some ⟨z + 1 + 1, 0, none⟩)]) (by simp) (by simp [go_sem]) ?_
        refine (catchS_idle _ _ _).mono ?_
        rintro e u' w9 ⟨rfl, rfl, rfl⟩
        have hg1 := grownBy_setC w8 (z + 1) 0 (.string ⟨T.toArray⟩)
        have hg2' := grownBy_setC (w8.setCell ⟨z + 1, 0, none⟩ (.string ⟨T.toArray⟩)) (z + 1 + 1) 0 (.int .i64 0)
        have d4 := cell_grown (setC_same w8 (z + 1) 0 (.string ⟨T.toArray⟩) _ s4) hg2' (show z + 1 ≠ z + 1 + 1 by omega)
        have d5 := setC_same (w8.setCell ⟨z + 1, 0, none⟩ (.string ⟨T.toArray⟩)) (z + 1 + 1) 0 (.int .i64 0) _ (cell_grown s5 hg1 (show z + 2 ≠ z + 1 by omega))
        have hgF := grown_some (grown_some hg28 hg1 (by have := hzh.out; omega)) hg2' (by have := hzh.out; omega)
        generalize (w8.setCell ⟨z + 1, 0, none⟩ (.string ⟨T.toArray⟩)).setCell ⟨z + 1 + 1, 0, none⟩ (.int .i64 0) = w9 at d4 d5 hgF ⊢
        have hgG := World.grownBy_alloc w9 (.cells #[.int .i64 0, .int .i64 0] 71) none
        have d4 := hgG.cell d4 (by simp)
        have d5 := hgG.cell d5 (by simp)
        have hgH := grownBy_trans' hgF hgG
        generalize w9.alloc (.cells #[.int .i64 0, .int .i64 0] 71) = w10 at d4 d5 hgH ⊢
        simp [Leaves, settle, results, Tryz.results13, go_sem, d4, d5]
        exact hgH
      · rw [if_neg hlen] at h
        obtain ⟨rfl, hb7⟩ := h
        replace hF := hF.out
        rw [if_neg hlen] at hF
        subst hF
        have s4 := (World.cell?_of_block (a := ⟨z + 1, 0, none⟩) (hb7.block (z + 1) (by omega))).trans s4
        have s5 := (World.cell?_of_block (a := ⟨z + 2, 0, none⟩) (hb7.block (z + 2) (by omega))).trans s5
        have f4 := (World.frozen?_of_block (a := ⟨z + 1, 0, none⟩) (hb7.block (z + 1) (by omega))).trans f4
        have f5 := (World.frozen?_of_block (a := ⟨z + 2, 0, none⟩) (hb7.block (z + 2) (by omega))).trans f5
        have hg27 : w.grownBy w7 none := ⟨hb7.os.trans hg26.os, hb7.tape.trans hg26.tape, hb7.output.trans hg26.output, Nat.le_trans hg26.size hb7.size, fun k hk _ => (hb7.block k (by omega)).trans (hg26.block k hk (by simp))⟩
        refine leaves_cons (f := 33) (args := #[.pointer (some ⟨z + 1, 0, none⟩), .pointer (some ⟨z + 1 + 1, 0, none⟩)]) (by simp) (by simp [go_sem]) ?_
        refine (catchS_thrown (z + 1) 21 0 [] w7 s4 s5 f4 f5).mono ?_
        rintro e u' w8 ⟨rfl, rfl, ⟨c0, c1⟩, hfr⟩
        have hgE := hfr w none hg27 (by have := hzh.out; omega)
        simp [Leaves, settle, results, Tryz.results13, go_sem, c0, c1]
        exact hgE
end Go.Proofs.YtlijlgbaikijnaaGreatDoor
