/-
  Same answers true of an expression that lies twice. Conditions: none.
-/
import Derived.Test.YtlijlgbaikijnaaGreatDoorSmKids
import Derived.Test.YtlijlgbaikijnaaGreatDoorMkLast2
namespace Go.Proofs.YtlijlgbaikijnaaGreatDoor
open Go Go.RowKit

/-- Same of two values that read as the same expression. -/
def Sames (x : E) : Prop := ∀ (v u : Value) (ok : Nat → Prop) (w : World), ExR w ok x v → ExR w ok x u → (∀ g, ok g → g < w.heap.size) →
  Calls Tryz.prog 24 #[v, u] w fun e w' => e = .returned (.bool true) ∧ w.grownBy w' none

set_option maxHeartbeats 4000000 in
set_option maxRecDepth 100000 in
theorem same_step (op name : List UInt8) (num : Int) (kids : List E) (ih : ∀ x ∈ kids, Sames x) : Sames (.mk op num name kids) := by
  intro v u ok w hx hy hok
  obtain ⟨A, cc, rfl, hcc, hcm, hkr⟩ := hx.form
  obtain ⟨B, cd, rfl, hcd, hcn, hkq⟩ := hy.form
  unfold maxLen at hcm hcn
  obtain ⟨KL, hKL⟩ : ∃ KL, kids.length = KL := ⟨_, rfl⟩
  rw [hKL] at hcc hcd ⊢
  obtain ⟨x, hxx⟩ : ∃ x : ByteArray, (⟨op.toArray⟩ : ByteArray) = x := ⟨_, rfl⟩
  obtain ⟨nx, hnx⟩ : ∃ nx : ByteArray, (⟨name.toArray⟩ : ByteArray) = nx := ⟨_, rfl⟩
  rw [hxx, hnx]
  replace hKL := Lib.hid hKL
  replace hkr := Lib.hid hkr
  replace hkq := Lib.hid hkq
  replace hok := Lib.hid hok
  replace ih := Lib.hid ih
  clear hx hy hxx hnx
  go_enter Tryz.func24, Tryz.ntmps24
  go_upto_region 1 with fail
  obtain ⟨w2, hW2, hs2, hgr, hcz, hcy, _, _, hold⟩ := two_new w #[.string x, .int .i64 num, .string nx, .slice A KL cc] #[.string x, .int .i64 num, .string nx, .slice B KL cd] 37 37
  rw [hW2]
  obtain ⟨z, hz⟩ : ∃ z, w.heap.size = z := ⟨_, rfl⟩
  rw [hz] at hcz hcy hs2 ⊢
  have q0 := hcz 0 _ rfl
  have q1 := hcz 1 _ rfl
  have q2 := hcz 2 _ rfl
  have q3 := hcz 3 _ rfl
  have p0 := hcy 0 _ rfl
  have p1 := hcy 1 _ rfl
  have p2 := hcy 2 _ rfl
  have p3 := hcy 3 _ rfl
  have hg2 := Lib.hid (hgr none)
  replace hz := Lib.hid hz
  clear hW2 hgr hcz hcy hold
  have e0 : (x.toList == x.toList) = true := by simp
  have e1 : (num == num) = true := by simp
  have e2 : (nx.toList == nx.toList) = true := by simp
  go_wp2
  go_loopw [5] (fun nv wr => ∃ m : Nat, m ≤ KL ∧ nv = .int .i64 (m : Int) ∧ Hid (w2.grownBy wr none)) (fun nv _ => KL - (intOf nv).toNat)
  case atStart => exact ⟨0, Nat.zero_le _, rfl, grownBy_refl' _ _⟩
  case round =>
    obtain ⟨m, hm, rfl, hg⟩ := hrel
    have q3r := hg.out.cell q3 (by simp)
    have p3r := hg.out.cell p3 (by simp)
    clear q0 q1 q2 q3 p0 p1 p2 p3 e0 e1 e2
    by_cases hlt : m < KL
    · have hlt' : m < kids.length := by rw [hKL.out]; exact hlt
      have hgw := grownBy_trans' hg2.out hg.out
      obtain ⟨g, off, v0, v1, v2, v3, rfl, c0, c1, c2, c3, hxk⟩ := kid_at (wr := wr) hkr.out (fun g h => hgw.block g (hok.out g h) (by simp)) m hlt'
      obtain ⟨g', off', u0, u1, u2, u3, rfl, d0, d1, d2, d3, hyk⟩ := kid_at (wr := wr) hkq.out (fun g h => hgw.block g (hok.out g h) (by simp)) m hlt'
      have hcl := fun W (hW : wr.grownBy W none) => ih.out kids[m] (List.getElem_mem hlt') _ _ ok W (hxk.keep (fun _ h => h) (fun g h => hW.block g (Nat.lt_of_lt_of_le (hok.out g h) hgw.size) (by simp))) (hyk.keep (fun _ h => h) (fun g h => hW.block g (Nat.lt_of_lt_of_le (hok.out g h) hgw.size) (by simp))) (fun g h => Nat.lt_of_lt_of_le (Nat.lt_of_lt_of_le (hok.out g h) hgw.size) hW.size)
      clear hxk hyk hgw
      go_wp2_with fail
      refine wp_region_last (L := 11) (S := (fun w' : World => w'.cell? ⟨z, 3, none⟩ = some (.slice (some ⟨g, off, none⟩) KL cc) ∧ w'.cell? ⟨z + 1, 3, none⟩ = some (.slice (some ⟨g', off', none⟩) KL cd) ∧ w'.cell? ⟨g, off + m * 4, none⟩ = some (v0) ∧ w'.cell? ⟨g, off + m * 4 + 1, none⟩ = some (v1) ∧ w'.cell? ⟨g, off + m * 4 + 2, none⟩ = some (v2) ∧ w'.cell? ⟨g, off + m * 4 + 3, none⟩ = some (v3) ∧ w'.cell? ⟨g', off' + m * 4, none⟩ = some (u0) ∧ w'.cell? ⟨g', off' + m * 4 + 1, none⟩ = some (u1) ∧ w'.cell? ⟨g', off' + m * 4 + 2, none⟩ = some (u2) ∧ w'.cell? ⟨g', off' + m * 4 + 3, none⟩ = some (u3))) (by kernel_rfl) ?_
      have hS0 : (fun w' : World => w'.cell? ⟨z, 3, none⟩ = some (.slice (some ⟨g, off, none⟩) KL cc) ∧ w'.cell? ⟨z + 1, 3, none⟩ = some (.slice (some ⟨g', off', none⟩) KL cd) ∧ w'.cell? ⟨g, off + m * 4, none⟩ = some (v0) ∧ w'.cell? ⟨g, off + m * 4 + 1, none⟩ = some (v1) ∧ w'.cell? ⟨g, off + m * 4 + 2, none⟩ = some (v2) ∧ w'.cell? ⟨g, off + m * 4 + 3, none⟩ = some (v3) ∧ w'.cell? ⟨g', off' + m * 4, none⟩ = some (u0) ∧ w'.cell? ⟨g', off' + m * 4 + 1, none⟩ = some (u1) ∧ w'.cell? ⟨g', off' + m * 4 + 2, none⟩ = some (u2) ∧ w'.cell? ⟨g', off' + m * 4 + 3, none⟩ = some (u3)) wr.drew := ⟨q3r, p3r, c0, c1, c2, c3, d0, d1, d2, d3⟩
      refine wpAnyT_takeT (n := 40) (i := 0) (v := .pointer (some ⟨z, 3, none⟩)) rfl (by kernel_rfl) (by kernel_rfl) (by kernel_rfl) (by kernel_rfl) (by kernel_rfl) (fun _ _ _ h => h) (Or.inl ⟨by rfl, ?_⟩) hS0 ?_
      · intro W hW
        obtain ⟨k0, k1, k2, k3, k4, k5, k6, k7, k8, k9⟩ := hW
        clear hS0 hcl q3r p3r c0 c1 c2 c3 d0 d1 d2 d3
        go_simp
        try (intro hx; exfalso; omega)
      try simp only [Act.put, List.setIfInBounds_toArray]
      refine wpAnyT_takeT (n := 40) (i := 1) (v := .slice (some ⟨g, off, none⟩) KL cc) rfl (by kernel_rfl) (by kernel_rfl) (by kernel_rfl) (by kernel_rfl) (by kernel_rfl) (fun _ _ _ h => h) (Or.inl ⟨by rfl, ?_⟩) hS0 ?_
      · intro W hW
        obtain ⟨k0, k1, k2, k3, k4, k5, k6, k7, k8, k9⟩ := hW
        clear hS0 hcl q3r p3r c0 c1 c2 c3 d0 d1 d2 d3
        go_simp
        try (intro hx; exfalso; omega)
      try simp only [Act.put]
      refine wpAnyT_takeT (n := 40) (i := 2) (v := .int .i64 (m : Int)) rfl (by kernel_rfl) (by kernel_rfl) (by kernel_rfl) (by kernel_rfl) (by kernel_rfl) (fun _ _ _ h => h) (Or.inl ⟨by rfl, ?_⟩) hS0 ?_
      · intro W hW
        obtain ⟨k0, k1, k2, k3, k4, k5, k6, k7, k8, k9⟩ := hW
        clear hS0 hcl q3r p3r c0 c1 c2 c3 d0 d1 d2 d3
        go_simp
        try (intro hx; exfalso; omega)
      try simp only [Act.put]
      refine wpAnyT_takeT (n := 40) (i := 3) (v := .pointer (some ⟨g, off + m * 4, none⟩)) rfl (by kernel_rfl) (by kernel_rfl) (by kernel_rfl) (by kernel_rfl) (by kernel_rfl) (fun _ _ _ h => h) (Or.inl ⟨by rfl, ?_⟩) hS0 ?_
      · intro W hW
        obtain ⟨k0, k1, k2, k3, k4, k5, k6, k7, k8, k9⟩ := hW
        clear hS0 hcl q3r p3r c0 c1 c2 c3 d0 d1 d2 d3
        go_simp
        try (intro hx; exfalso; omega)
      try simp only [Act.put]
      refine wpAnyT_takeT (n := 40) (i := 4) (v := .agg #[v0, v1, v2, v3]) rfl (by kernel_rfl) (by kernel_rfl) (by kernel_rfl) (by kernel_rfl) (by kernel_rfl) (fun _ _ _ h => h) (Or.inl ⟨by rfl, ?_⟩) hS0 ?_
      · intro W hW
        obtain ⟨k0, k1, k2, k3, k4, k5, k6, k7, k8, k9⟩ := hW
        clear hS0 hcl q3r p3r c0 c1 c2 c3 d0 d1 d2 d3
        go_simp
        try (intro hx; exfalso; omega)
      try simp only [Act.put]
      refine wpAnyT_takeT (n := 40) (i := 5) (v := .pointer (some ⟨z + 1, 3, none⟩)) rfl (by kernel_rfl) (by kernel_rfl) (by kernel_rfl) (by kernel_rfl) (by kernel_rfl) (fun _ _ _ h => h) (Or.inl ⟨by rfl, ?_⟩) hS0 ?_
      · intro W hW
        obtain ⟨k0, k1, k2, k3, k4, k5, k6, k7, k8, k9⟩ := hW
        clear hS0 hcl q3r p3r c0 c1 c2 c3 d0 d1 d2 d3
        go_simp
        try (intro hx; exfalso; omega)
      try simp only [Act.put]
      refine wpAnyT_takeT (n := 40) (i := 6) (v := .slice (some ⟨g', off', none⟩) KL cd) rfl (by kernel_rfl) (by kernel_rfl) (by kernel_rfl) (by kernel_rfl) (by kernel_rfl) (fun _ _ _ h => h) (Or.inl ⟨by rfl, ?_⟩) hS0 ?_
      · intro W hW
        obtain ⟨k0, k1, k2, k3, k4, k5, k6, k7, k8, k9⟩ := hW
        clear hS0 hcl q3r p3r c0 c1 c2 c3 d0 d1 d2 d3
        go_simp
        try (intro hx; exfalso; omega)
      try simp only [Act.put]
      refine wpAnyT_takeT (n := 40) (i := 7) (v := .int .i64 (m : Int)) rfl (by kernel_rfl) (by kernel_rfl) (by kernel_rfl) (by kernel_rfl) (by kernel_rfl) (fun _ _ _ h => h) (Or.inl ⟨by rfl, ?_⟩) hS0 ?_
      · intro W hW
        obtain ⟨k0, k1, k2, k3, k4, k5, k6, k7, k8, k9⟩ := hW
        clear hS0 hcl q3r p3r c0 c1 c2 c3 d0 d1 d2 d3
        go_simp
        try (intro hx; exfalso; omega)
      try simp only [Act.put]
      refine wpAnyT_takeT (n := 40) (i := 8) (v := .pointer (some ⟨g', off' + m * 4, none⟩)) rfl (by kernel_rfl) (by kernel_rfl) (by kernel_rfl) (by kernel_rfl) (by kernel_rfl) (fun _ _ _ h => h) (Or.inl ⟨by rfl, ?_⟩) hS0 ?_
      · intro W hW
        obtain ⟨k0, k1, k2, k3, k4, k5, k6, k7, k8, k9⟩ := hW
        clear hS0 hcl q3r p3r c0 c1 c2 c3 d0 d1 d2 d3
        go_simp
        try (intro hx; exfalso; omega)
      try simp only [Act.put]
      refine wpAnyT_takeT (n := 40) (i := 9) (v := .agg #[u0, u1, u2, u3]) rfl (by kernel_rfl) (by kernel_rfl) (by kernel_rfl) (by kernel_rfl) (by kernel_rfl) (fun _ _ _ h => h) (Or.inl ⟨by rfl, ?_⟩) hS0 ?_
      · intro W hW
        obtain ⟨k0, k1, k2, k3, k4, k5, k6, k7, k8, k9⟩ := hW
        clear hS0 hcl q3r p3r c0 c1 c2 c3 d0 d1 d2 d3
        go_simp
        try (intro hx; exfalso; omega)
      try simp only [Act.put]
      clear hS0
      refine wpAnyT_one (i := 10) rfl (by kernel_rfl) rfl ?_
      go_simp
      refine (hcl wr.drew ⟨rfl, rfl, rfl, Nat.le_refl _, fun _ _ _ => rfl⟩).mono ?_
      rintro e w1 ⟨rfl, hg1'⟩
      have hg1 : wr.grownBy w1 none := ⟨hg1'.os, hg1'.tape, hg1'.output, hg1'.size, hg1'.block⟩
      have q3r := hg1.cell q3r (by simp)
      have p3r := hg1.cell p3r (by simp)
      have c0 := hg1.cell c0 (by simp)
      have c1 := hg1.cell c1 (by simp)
      have c2 := hg1.cell c2 (by simp)
      have c3 := hg1.cell c3 (by simp)
      have d0 := hg1.cell d0 (by simp)
      have d1 := hg1.cell d1 (by simp)
      have d2 := hg1.cell d2 (by simp)
      have d3 := hg1.cell d3 (by simp)
      clear hcl hg1'
      refine ⟨⟨q3r, p3r, c0, c1, c2, c3, d0, d1, d2, d3⟩, ?_⟩
      refine wpAnyT_one (i := 11) rfl (by kernel_rfl) rfl ?_
      go_simp
      refine wpAnyT_done (by kernel_rfl) ?_ _
      have hgE := Lib.hid (grownBy_trans' hg.out hg1)
      clear q3r p3r c0 c1 c2 c3 d0 d1 d2 d3 hg1
      go_wp2
      go_roundw
      case rel => exact ⟨m + 1, by omega, by go_num, hgE⟩
      case measure => simp [intOf]; omega
    · obtain rfl : m = KL := by omega
      go_wp2
      go_ret
      exact ⟨rfl, grownBy_trans' hg2.out hg.out⟩
theorem same_all : ∀ (n : Nat) (x : E), sizeE x ≤ n → Sames x
  | 0, .mk _ _ _ _, h => by unfold sizeE at h; omega
  | n + 1, .mk op num name kids, h => by
    unfold sizeE at h
    exact same_step op name num kids fun x hx => same_all n x (by have := sizeL.mem x hx; omega)
theorem same_any (x : E) : Sames x := same_all _ x (Nat.le_refl _)
end Go.Proofs.YtlijlgbaikijnaaGreatDoor
