/-
  Parse's deferred closure: what was thrown is caught; where nothing was, nothing is. Conditions: none.
  Parse, by the package: what parse comes to, a fault as what is wrong and where. Conditions: at most 4096 bytes; fuel enough.
-/
import Derived.Test.YtlijlgbaikijnaaGreatDoorSmParse
import Derived.Defers
import Derived.Recover
namespace Go.Proofs.YtlijlgbaikijnaaGreatDoor
open Go Go.RowKit

theorem assert_nil (w : World) : Sem.run Tryz.prog (Instr.typeAssert Value.nilIface 20 71 true) w = .ok (.tuple #[.agg #[.int .i64 0, .int .i64 0], .bool false]) w := by kernel_rfl
theorem assert_flt (c : Int) (n : Nat) (w : World) : Sem.run Tryz.prog (Instr.typeAssert (.iface 71 (.agg #[.int .i64 c, .int .i64 (n : Int)])) 20 71 true) w = .ok (.tuple #[.agg #[.int .i64 c, .int .i64 (n : Int)], .bool true]) w := by kernel_rfl

set_option maxHeartbeats 1000000 in
set_option maxRecDepth 100000 in
theorem catch_idle (p2 p3 p4 : Addr) (w : World) :
    CallsD Tryz.prog 46 #[.pointer (some p2), .pointer (some p3), .pointer (some p4)] .returning w fun e u' w' => e = .returned (.tuple #[]) ∧ u' = .returning ∧ w' = w.alloc (.cells #[.int .i64 0, .int .i64 0] 71) := by
  refine callsD_of_wpS Tryz.func46 rfl fun c₀ cs hu => ?_
  apply wpS_seq
  apply wpS_region
  simp [wpOpsS, go_sem, recoverD, hu, Tryz.ntmps46, Exit.thenS, assert_nil]
  apply wpS_seq
  apply wpS_region
  simp [wpOpsS, go_sem, Exit.thenS]
  refine wpS_cond (t := false) (by simp [Act.eval, Array.replicate]) ?_
  simp only [Bool.false_eq_true, if_false]
  refine wpS_of_wp (wp_skip ?_)
  cases c₀
  simp_all [bodyPostS, results, Tryz.results46]

theorem grown_none {a w W : World} {z : Nat} (h : a.grownBy w none) (k : w.grownBy W (some z)) (hz : a.heap.size ≤ z) : a.grownBy W none :=
  ⟨k.os.trans h.os, k.tape.trans h.tape, k.output.trans h.output, Nat.le_trans h.size k.size, fun i hi hr => (k.block i (Nat.lt_of_lt_of_le hi h.size) (by simp; omega)).trans (h.block i hi hr)⟩
/-- What the closure leaves of a fault. -/
def Caught (z : Nat) (c : Int) (n : Nat) (w w' : World) : Prop :=
  (w'.cell? ⟨z, 0, none⟩ = some (.string ⟨#[]⟩) ∧ w'.cell? ⟨z, 1, none⟩ = some (.int .i64 0) ∧ w'.cell? ⟨z, 2, none⟩ = some (.string ⟨#[]⟩) ∧ w'.cell? ⟨z, 3, none⟩ = some (.slice none 0 0) ∧ w'.cell? ⟨z + 1, 0, none⟩ = some (.int .i64 (n : Int)) ∧ w'.cell? ⟨z + 2, 0, none⟩ = some (.int .i64 c)) ∧
  ∀ a : World, a.grownBy w none → a.heap.size ≤ z → a.grownBy w' none

set_option maxHeartbeats 4000000 in
set_option maxRecDepth 100000 in
theorem catch_thrown (z : Nat) (c : Int) (n : Nat) (older : List PanicEntry) (w : World) {u0 u1 u2 u3 u4 u5 : Value}
    (s0 : w.cell? ⟨z, 0, none⟩ = some u0) (s1 : w.cell? ⟨z, 1, none⟩ = some u1) (s2 : w.cell? ⟨z, 2, none⟩ = some u2) (s3 : w.cell? ⟨z, 3, none⟩ = some u3) (s4 : w.cell? ⟨z + 1, 0, none⟩ = some u4) (s5 : w.cell? ⟨z + 2, 0, none⟩ = some u5)
    (f0 : w.frozen? ⟨z, 0, none⟩ = false) (f1 : w.frozen? ⟨z, 1, none⟩ = false) (f2 : w.frozen? ⟨z, 2, none⟩ = false) (f3 : w.frozen? ⟨z, 3, none⟩ = false) (f4 : w.frozen? ⟨z + 1, 0, none⟩ = false) (f5 : w.frozen? ⟨z + 2, 0, none⟩ = false) :
    CallsD Tryz.prog 46 #[.pointer (some ⟨z, 0, none⟩), .pointer (some ⟨z + 1, 0, none⟩), .pointer (some ⟨z + 2, 0, none⟩)] (.panicking ({ v := .iface 71 (.agg #[.int .i64 c, .int .i64 (n : Int)]), recovered := false } :: older)) w fun e u' w' =>
      e = .returned (.tuple #[]) ∧ u' = .panicking ({ v := .iface 71 (.agg #[.int .i64 c, .int .i64 (n : Int)]), recovered := true } :: older) ∧ Caught z c n w w' := by
  have hz2 : z + 2 < w.heap.size := World.block_lt_of_cell? w ⟨z + 2, 0, none⟩ s5
  refine callsD_of_wpS Tryz.func46 rfl fun c₀ cs hu => ?_
  apply wpS_seq
  apply wpS_region
  simp [wpOpsS, go_sem, recoverD, hu, Tryz.ntmps46, Exit.thenS, assert_flt]
  apply wpS_seq
  apply wpS_region
  simp [wpOpsS, go_sem, Exit.thenS]
  refine wpS_cond (t := true) (by simp [Act.eval, Array.replicate]) ?_
  simp only [if_true]
  refine wpS_of_wp ?_
  have hx : ∀ (g j : Nat) (v : Value) o, g < w.heap.size → w.cell? ⟨g, j, none⟩ = some v → (w.alloc o).cell? ⟨g, j, none⟩ = some v := fun g j v o hg h => (World.cell?_of_block (a := ⟨g, j, none⟩) (Below.heap_alloc w o g hg)).trans h
  have hy : ∀ (g j : Nat) o, g < w.heap.size → w.frozen? ⟨g, j, none⟩ = false → (w.alloc o).frozen? ⟨g, j, none⟩ = false := fun g j o hg h => (World.frozen?_of_block (a := ⟨g, j, none⟩) (Below.heap_alloc w o g hg)).trans h
  obtain ⟨w2, hW2, hs2, hgr, hcz, hfz, hold⟩ := one_new w #[.int .i64 c, .int .i64 (n : Int)] 71
  have s0 := (World.cell?_of_block (a := ⟨z, 0, none⟩) (hold z (by omega))).trans s0
  have s1 := (World.cell?_of_block (a := ⟨z, 1, none⟩) (hold z (by omega))).trans s1
  have s2 := (World.cell?_of_block (a := ⟨z, 2, none⟩) (hold z (by omega))).trans s2
  have s3 := (World.cell?_of_block (a := ⟨z, 3, none⟩) (hold z (by omega))).trans s3
  have s4 := (World.cell?_of_block (a := ⟨z + 1, 0, none⟩) (hold (z + 1) (by omega))).trans s4
  have s5 := (World.cell?_of_block (a := ⟨z + 2, 0, none⟩) (hold (z + 2) (by omega))).trans s5
  have f0 := (World.frozen?_of_block (a := ⟨z, 0, none⟩) (hold z (by omega))).trans f0
  have f1 := (World.frozen?_of_block (a := ⟨z, 1, none⟩) (hold z (by omega))).trans f1
  have f2 := (World.frozen?_of_block (a := ⟨z, 2, none⟩) (hold z (by omega))).trans f2
  have f3 := (World.frozen?_of_block (a := ⟨z, 3, none⟩) (hold z (by omega))).trans f3
  have f4 := (World.frozen?_of_block (a := ⟨z + 1, 0, none⟩) (hold (z + 1) (by omega))).trans f4
  have f5 := (World.frozen?_of_block (a := ⟨z + 2, 0, none⟩) (hold (z + 2) (by omega))).trans f5
  rw [hW2]
  obtain ⟨y, hy⟩ : ∃ y, w.heap.size = y := ⟨_, rfl⟩
  rw [hy] at hcz hz2 ⊢
  have y0 := hcz 0 _ rfl
  have y1 := hcz 1 _ rfl
  have hyz : y ≠ z := by omega
  have hyz1 : y ≠ z + 1 := by omega
  have hyz2 : y ≠ z + 2 := by omega
  simp only [Array.replicate, List.setIfInBounds_toArray, List.replicate, List.set, List.append_toArray, List.cons_append, List.nil_append]
  clear hW2 hcz hold hx
  refine wp_region_last (L := 7) (S := (fun w' : World => w'.cell? ⟨y, 0, none⟩ = some (.int .i64 c) ∧ w'.cell? ⟨y, 1, none⟩ = some (.int .i64 (n : Int)))) (by kernel_rfl) ?_
  have hS0 : (fun w' : World => w'.cell? ⟨y, 0, none⟩ = some (.int .i64 c) ∧ w'.cell? ⟨y, 1, none⟩ = some (.int .i64 (n : Int))) w2.drew := ⟨y0, y1⟩
  refine wpAnyT_takeT (n := 40) (i := 0) (v := .agg #[.string ⟨#[]⟩, .int .i64 0, .string ⟨#[]⟩, .slice none 0 0]) rfl (by kernel_rfl) (by kernel_rfl) (by kernel_rfl) (by kernel_rfl) (by kernel_rfl) (fun _ _ _ h => h) (Or.inl ⟨by rfl, ?_⟩) hS0 ?_
  · intro W hW
    obtain ⟨k0, k1⟩ := hW
    clear hS0 s0 s1 s2 s3 s4 s5 f0 f1 f2 f3 f4 f5 hu y0 y1
    go_simp
    try (intro hx; exfalso; omega)
  try simp only [Act.put, List.setIfInBounds_toArray]
  refine wpAnyT_takeT (n := 40) (i := 1) (v := .pointer (some ⟨y, 1, none⟩)) rfl (by kernel_rfl) (by kernel_rfl) (by kernel_rfl) (by kernel_rfl) (by kernel_rfl) (fun _ _ _ h => h) (Or.inl ⟨by rfl, ?_⟩) hS0 ?_
  · intro W hW
    obtain ⟨k0, k1⟩ := hW
    clear hS0 s0 s1 s2 s3 s4 s5 f0 f1 f2 f3 f4 f5 hu y0 y1
    go_simp
    try (intro hx; exfalso; omega)
  try simp only [Act.put]
  refine wpAnyT_takeT (n := 40) (i := 2) (v := .int .i64 (n : Int)) rfl (by kernel_rfl) (by kernel_rfl) (by kernel_rfl) (by kernel_rfl) (by kernel_rfl) (fun _ _ _ h => h) (Or.inl ⟨by rfl, ?_⟩) hS0 ?_
  · intro W hW
    obtain ⟨k0, k1⟩ := hW
    clear hS0 s0 s1 s2 s3 s4 s5 f0 f1 f2 f3 f4 f5 hu y0 y1
    go_simp
    try (intro hx; exfalso; omega)
  try simp only [Act.put]
  refine wpAnyT_takeT (n := 40) (i := 3) (v := .pointer (some ⟨y, 0, none⟩)) rfl (by kernel_rfl) (by kernel_rfl) (by kernel_rfl) (by kernel_rfl) (by kernel_rfl) (fun _ _ _ h => h) (Or.inl ⟨by rfl, ?_⟩) hS0 ?_
  · intro W hW
    obtain ⟨k0, k1⟩ := hW
    clear hS0 s0 s1 s2 s3 s4 s5 f0 f1 f2 f3 f4 f5 hu y0 y1
    go_simp
    try (intro hx; exfalso; omega)
  try simp only [Act.put]
  refine wpAnyT_takeT (n := 40) (i := 4) (v := .int .i64 c) rfl (by kernel_rfl) (by kernel_rfl) (by kernel_rfl) (by kernel_rfl) (by kernel_rfl) (fun _ _ _ h => h) (Or.inl ⟨by rfl, ?_⟩) hS0 ?_
  · intro W hW
    obtain ⟨k0, k1⟩ := hW
    clear hS0 s0 s1 s2 s3 s4 s5 f0 f1 f2 f3 f4 f5 hu y0 y1
    go_simp
    try (intro hx; exfalso; omega)
  try simp only [Act.put]

  clear hS0
  refine wpAnyT_one (i := 5) rfl (by kernel_rfl) rfl ?_
  go_simp
  refine wpAnyT_one (i := 6) rfl (by kernel_rfl) rfl ?_
  go_simp
  refine wpAnyT_one (i := 7) rfl (by kernel_rfl) rfl ?_
  go_simp
  refine wpAnyT_done (by kernel_rfl) ?_ _
  obtain ⟨W, hW, e0, e1, e2, e3, hgW, hfW⟩ := set_four (.string ⟨#[]⟩) (.int .i64 0) (.string ⟨#[]⟩) (.slice none 0 0) s0 s1 s2 s3
  rw [hW]
  have hg1 := grownBy_setC W (z + 1) 0 (.int .i64 (n : Int))
  have hg2 := grownBy_setC (W.setCell ⟨z + 1, 0, none⟩ (.int .i64 (n : Int))) (z + 2) 0 (.int .i64 c)
  have hz : ∀ (j : Nat) v, W.cell? ⟨z, j, none⟩ = some v → ((W.setCell ⟨z + 1, 0, none⟩ (.int .i64 (n : Int))).setCell ⟨z + 2, 0, none⟩ (.int .i64 c)).cell? ⟨z, j, none⟩ = some v := fun j v h => cell_grown (cell_grown h hg1 (by omega)) hg2 (by omega)
  have d4 := setC_same W (z + 1) 0 (.int .i64 (n : Int)) _ (cell_grown s4 hgW (by omega))
  have d5 := setC_same (W.setCell ⟨z + 1, 0, none⟩ (.int .i64 (n : Int))) (z + 2) 0 (.int .i64 c) _ (cell_grown (cell_grown s5 hgW (by omega)) hg1 (by omega))
  have d6 := cell_grown d4 hg2 (show z + 1 ≠ z + 2 by omega)
  have hC : Caught z c n w (((W.setCell ⟨z + 1, 0, none⟩ (.int .i64 (n : Int))).setCell ⟨z + 2, 0, none⟩ (.int .i64 c)).drew) :=
    ⟨⟨hz 0 _ e0, hz 1 _ e1, hz 2 _ e2, hz 3 _ e3, d6, d5⟩, fun a h1 h2 => by
      have h5 := grown_none (grown_none (grown_none (grownBy_trans' h1 (hgr none)) hgW h2) hg1 (by omega)) hg2 (by omega)
      exact ⟨h5.os, h5.tape, h5.output, h5.size, h5.block⟩⟩
  cases c₀
  simp [bodyPostS, results, Tryz.results46, hC]
end Go.Proofs.YtlijlgbaikijnaaGreatDoor

namespace Go.Proofs.YtlijlgbaikijnaaGreatDoor
open Go Go.RowKit

/-- What Parse answers. -/
def ParseR (w : World) (r : Res) (e : Ending) (w' : World) : Prop :=
  match r with
  | .ok x _ => (∃ v, e = .returned (.tuple #[v, .int .i64 0, .int .i64 0]) ∧ ExR w' (fun g => w.heap.size ≤ g ∧ g < w'.heap.size) x v) ∧ w.grownBy w' none
  | .no c n => e = .returned (.tuple #[.agg (exC [] 0 [] (.slice none 0 0)), .int .i64 (n : Int), .int .i64 c]) ∧ w.grownBy w' none
  | .out => False

set_option maxHeartbeats 4000000 in
set_option maxRecDepth 100000 in
theorem Parse_any (n : Nat) (s : ByteArray) (w : World) (hs : s.size ≤ 4096) (hne : parseP n (tl s) ≠ .out) :
    Calls Tryz.prog 23 #[.string s] w (ParseR w (parseP n (tl s))) := by
  have hmf : ∀ (fn : Fn) (first cap : Array Value) (w : World), (Instr.makeFunc fn first cap).run Tryz.prog w = .ok (.func fn first cap) w := fun _ _ _ _ => rfl
  have hp := fun W => parse_any n s W (by omega) hne
  obtain ⟨r, hr0⟩ : ∃ r, parseP n (tl s) = r := ⟨_, rfl⟩
  rw [hr0] at hne hp ⊢
  clear hr0
  have i0 : ¬ (4096 : Int) < (s.size : Int) := by omega
  go_enter_defers Tryz.func23, Tryz.ntmps23
  go_wp2_with fail
  obtain ⟨w2, hW2, hs2, hgr, hcz, hcy, hfz, hfy, hold⟩ := two_new w #[.string ⟨#[]⟩, .int .i64 0, .string ⟨#[]⟩, .slice none 0 0] #[.int .i64 0] 30 3
  rw [hW2]
  obtain ⟨w3, hW3, hs3, hgr3, hcx, hfx, hold3⟩ := one_new w2 #[.int .i64 0] 23
  rw [hW3]
  obtain ⟨z, hz⟩ : ∃ z, w.heap.size = z := ⟨_, rfl⟩
  rw [hs2] at hcx hfx hs3
  have hg3 : w.grownBy w3 none := grownBy_trans' (hgr none) (hgr3 none)
  have s0 := (World.cell?_of_block (a := ⟨z, 0, none⟩) (hold3 z (by omega))).trans (hz ▸ hcz 0 _ rfl)
  have s1 := (World.cell?_of_block (a := ⟨z, 1, none⟩) (hold3 z (by omega))).trans (hz ▸ hcz 1 _ rfl)
  have s2 := (World.cell?_of_block (a := ⟨z, 2, none⟩) (hold3 z (by omega))).trans (hz ▸ hcz 2 _ rfl)
  have s3 := (World.cell?_of_block (a := ⟨z, 3, none⟩) (hold3 z (by omega))).trans (hz ▸ hcz 3 _ rfl)
  have s4 := (World.cell?_of_block (a := ⟨z + 1, 0, none⟩) (hold3 (z + 1) (by omega))).trans (hz ▸ hcy 0 _ rfl)
  have s5 := hcx 0 _ rfl
  have f0 := fun j => (World.frozen?_of_block (a := ⟨z, j, none⟩) (hold3 z (by omega))).trans (hz ▸ hfz j)
  have f4 := fun j => (World.frozen?_of_block (a := ⟨z + 1, j, none⟩) (hold3 (z + 1) (by omega))).trans (hz ▸ hfy j)
  have f5 := hfx
  rw [hz] at s5 f5 hs3 ⊢
  have hzh := Lib.hid hz
  clear hW2 hW3 hgr hgr3 hcz hcy hcx hfz hfy hfx hold hold3 hs2 hz
  refine (hp w3).mono ?_
  intro e w4 h
  cases r with
  | out => exact absurd rfl hne
  | no c k =>
    obtain ⟨rfl, hg4⟩ := h
    have cg := fun {g j : Nat} {v : Value} (h : w3.cell? ⟨g, j, none⟩ = some v) => hg4.cell h (by simp)
    have fg := fun {g j : Nat} (hlt : g < w3.heap.size) (h : w3.frozen? ⟨g, j, none⟩ = false) => (World.frozen?_of_block (a := ⟨g, j, none⟩) (hg4.block g hlt (by simp))).trans h
    refine leaves_cons (f := 46) (args := #[.pointer (some ⟨z, 0, none⟩), .pointer (some ⟨z + 1, 0, none⟩), .pointer (some ⟨z + 1 + 1, 0, none⟩)]) (by simp) (by simp [go_sem]) ?_
    refine (catch_thrown z c k [] w4 (cg s0) (cg s1) (cg s2) (cg s3) (cg s4) (cg s5) (fg (by omega) (f0 0)) (fg (by omega) (f0 1)) (fg (by omega) (f0 2)) (fg (by omega) (f0 3)) (fg (by omega) (f4 0)) (fg (by omega) (f5 0))).mono ?_
    rintro e u' w5 ⟨rfl, rfl, ⟨c0, c1, c2, c3, c4, c5⟩, hfr⟩
    have hgE := hfr w (grownBy_trans' hg3 hg4) (by have := hzh.out; omega)
    simp [Leaves, settle, results, Tryz.results23, go_sem, c0, c1, c2, c3, c4, c5]
    exact ⟨rfl, hgE⟩
  | ok x t =>
    obtain ⟨⟨v, rfl, hx⟩, hg4⟩ := h
    obtain ⟨op, num, name, kids⟩ := x
    have hx0 := Lib.hid hx
    unfold ExR at hx
    obtain ⟨A, c, rfl, hcc, hcm, _⟩ := hx
    have cg := fun {g j : Nat} {v : Value} (h : w3.cell? ⟨g, j, none⟩ = some v) => hg4.cell h (by simp)
    have fg := fun {g j : Nat} (hlt : g < w3.heap.size) (h : w3.frozen? ⟨g, j, none⟩ = false) => (World.frozen?_of_block (a := ⟨g, j, none⟩) (hg4.block g hlt (by simp))).trans h
    have s0 := cg s0
    have s1 := cg s1
    have s2 := cg s2
    have s3 := cg s3
    have s4 := cg s4
    have s5 := cg s5
    have z0 := fg (by omega) (f0 0)
    have z1 := fg (by omega) (f0 1)
    have z2 := fg (by omega) (f0 2)
    have z3 := fg (by omega) (f0 3)
    have z4 := fg (by omega) (f4 0)
    have z5 := fg (by omega) (f5 0)
    have hg34 := grownBy_trans' hg3 hg4
    have hs4 := hg4.size
    obtain ⟨KL, hKL⟩ : ∃ KL, kids.length = KL := ⟨_, rfl⟩
    rw [hKL] at hcc hx0 ⊢
    unfold exC
    clear cg fg f0 f4 f5 hg3 hg4 hp hKL
    go_wp2
    refine leaves_cons (f := 46) (args := #[.pointer (some ⟨z, 0, none⟩), .pointer (some ⟨z + 1, 0, none⟩), .pointer (some ⟨z + 1 + 1, 0, none⟩)]) (by simp) (by simp [go_sem]) ?_
    refine (catch_idle _ _ _ _).mono ?_
    rintro e u' w5 ⟨rfl, rfl, rfl⟩
    obtain ⟨W, hW, e0, e1, e2, e3, hgW, hfW⟩ := set_four (.string ⟨op.toArray⟩) (.int .i64 num) (.string ⟨name.toArray⟩) (.slice A KL c) s0 s1 s2 s3
    rw [hW]
    clear hW
    have s4 := cell_grown s4 hgW (show z + 1 ≠ z by omega)
    have s5 := cell_grown s5 hgW (show z + 1 + 1 ≠ z by omega)
    have hg1 : W.grownBy (W.setCell ⟨z + 1, 0, none⟩ (.int .i64 0)) (some (z + 1)) := grownBy_setC _ _ _ _
    have hg2 : (W.setCell ⟨z + 1, 0, none⟩ (.int .i64 0)).grownBy ((W.setCell ⟨z + 1, 0, none⟩ (.int .i64 0)).setCell ⟨z + 1 + 1, 0, none⟩ (.int .i64 0)) (some (z + 1 + 1)) := grownBy_setC _ _ _ _
    have d4 := setC_same W (z + 1) 0 (.int .i64 0) _ s4
    have d5 := setC_same (W.setCell ⟨z + 1, 0, none⟩ (.int .i64 0)) (z + 1 + 1) 0 (.int .i64 0) _ (cell_grown s5 hg1 (by omega))
    have d4 := cell_grown d4 hg2 (show z + 1 ≠ z + 1 + 1 by omega)
    have e0 := cell_grown (cell_grown e0 hg1 (by omega)) hg2 (by omega)
    have e1 := cell_grown (cell_grown e1 hg1 (by omega)) hg2 (by omega)
    have e2 := cell_grown (cell_grown e2 hg1 (by omega)) hg2 (by omega)
    have e3 := cell_grown (cell_grown e3 hg1 (by omega)) hg2 (by omega)
    have hgF : w.grownBy ((W.setCell ⟨z + 1, 0, none⟩ (.int .i64 0)).setCell ⟨z + 1 + 1, 0, none⟩ (.int .i64 0)) none :=
      grown_none (grown_none (grown_none hg34 hgW (by have := hzh.out; omega)) hg1 (by have := hzh.out; omega)) hg2 (by have := hzh.out; omega)
    have hWs := hgW.size
    have hWs1 := hg1.size
    have hWs2 := hg2.size
    have hxE := hx0.out.keep (w' := (W.setCell ⟨z + 1, 0, none⟩ (.int .i64 0)).setCell ⟨z + 1 + 1, 0, none⟩ (.int .i64 0)) (fun g h => h) (fun g h => by
      have h1 := hgW.block g (by omega) (by simp; omega)
      have h2 := hg1.block g (by omega) (by simp; omega)
      have h3 := hg2.block g (by omega) (by simp; omega)
      rw [h3, h2, h1])
    generalize (W.setCell ⟨z + 1, 0, none⟩ (.int .i64 0)).setCell ⟨z + 1 + 1, 0, none⟩ (.int .i64 0) = W2 at e0 e1 e2 e3 d4 d5 hgF hxE hWs2 ⊢
    obtain ⟨w6, hW6, hs6, hgr6, _, _, hold6⟩ := one_new W2 #[.int .i64 0, .int .i64 0] 71
    rw [hW6]
    have e0 := (hgr6 none).cell e0 (by simp)
    have e1 := (hgr6 none).cell e1 (by simp)
    have e2 := (hgr6 none).cell e2 (by simp)
    have e3 := (hgr6 none).cell e3 (by simp)
    have d4 := (hgr6 none).cell d4 (by simp)
    have d5 := (hgr6 none).cell d5 (by simp)
    have hxF := hxE.keep (ok' := fun g => w.heap.size ≤ g ∧ g < w6.heap.size) (fun g h => by have := hzh.out; omega) (fun g h => hold6 g (by omega))
    simp [Leaves, settle, results, Tryz.results23, go_sem, e0, e1, e2, e3, d4, d5]
    exact ⟨⟨_, rfl, hxF⟩, grownBy_trans' hgF (hgr6 none)⟩
end Go.Proofs.YtlijlgbaikijnaaGreatDoor
