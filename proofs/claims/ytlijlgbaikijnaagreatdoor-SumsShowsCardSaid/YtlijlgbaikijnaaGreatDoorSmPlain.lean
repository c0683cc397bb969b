/-
  Plain makes the reference's expression out of the package's. Conditions: at most a million Ops.
-/
import Derived.Test.YtlijlgbaikijnaaGreatDoorSmCopy
namespace Go.Proofs.YtlijlgbaikijnaaGreatDoor
open Go Go.RowKit

theorem infoRExpr : (Tryz.prog.info? 37).map (fun i => (i.zero, i.size, i.bytes)) = some (some (.agg #[.string ⟨#[]⟩, .int .i64 0, .string ⟨#[]⟩, .slice none 0 0]), 4, 64) := by kernel_rfl

theorem len_size : ∀ l : List E, l.length ≤ sizeL l
  | [] => Nat.zero_le _
  | .mk o n m k :: l => by
    have := len_size l
    simp only [sizeL, sizeE, List.length_cons]
    omega

set_option maxHeartbeats 4000000 in
set_option maxRecDepth 100000 in
theorem plain_step (op name : List UInt8) (num : Int) (kids : List E) (ih : ∀ x ∈ kids, Copies 15 x x) (hsz : kids.length ≤ 1000000) : Copies 15 (.mk op num name kids) (.mk op num name kids) := by
  intro v ok w hx hok
  obtain ⟨A, cc, rfl, hcc, hcm, hkr⟩ := hx.form
  unfold maxLen at hcm
  obtain ⟨i0, hi, hz0, hz1, hz2⟩ := info_parts infoRExpr
  obtain ⟨x, hxx⟩ : ∃ x : ByteArray, (⟨op.toArray⟩ : ByteArray) = x := ⟨_, rfl⟩
  obtain ⟨nx, hnx⟩ : ∃ nx : ByteArray, (⟨name.toArray⟩ : ByteArray) = nx := ⟨_, rfl⟩
  obtain ⟨KL, hKL⟩ : ∃ KL, kids.length = KL := ⟨_, rfl⟩
  rw [hxx, hnx]
  rw [hKL] at hcc hsz ⊢
  replace hxx := Lib.hid hxx
  replace hnx := Lib.hid hnx
  replace hKL := Lib.hid hKL
  replace hkr := Lib.hid hkr
  replace hok := Lib.hid hok
  replace ih := Lib.hid ih
  clear hx
  go_enter Tryz.func15, Tryz.ntmps15
  go_upto_region 3 with fail
  have hst := cpSt_new w 30 37 #[.string x, .int .i64 num, .string nx, .slice A KL cc] (.string x) (.int .i64 num) (.string nx)
  have hsw2 : w.heap.size + 1 + 1 = w.heap.size + 2 := rfl
  rw [hsw2]
  obtain ⟨z, hz⟩ : ∃ z, w.heap.size = z := ⟨_, rfl⟩
  rw [hz] at hst ⊢
  obtain ⟨w2, hw2⟩ : ∃ w2, (((w.alloc (.cells #[.string x, .int .i64 num, .string nx, .slice A KL cc] 30)).alloc (.cells #[.string ⟨#[]⟩, .int .i64 0, .string ⟨#[]⟩, .slice none 0 0] 37)).alloc (.cells #[.string x, .int .i64 num, .string nx, .slice none 0 0] 37)) = w2 := ⟨_, rfl⟩
  rw [hw2] at hst ⊢
  replace hst := Lib.hid hst
  replace hz := Lib.hid hz
  clear hw2 hsw2
  go_loopw [4] (fun nv wr => ∃ (m : Nat) (vK : Value) (vs : List (Array Value)), m ≤ KL ∧ nv = .int .i64 (m : Int) ∧ Hid (CpSt w wr z 30 37 #[.string x, .int .i64 num, .string nx, .slice A KL cc] (.string x) (.int .i64 num) (.string nx) vK (kids.take m) vs)) (fun nv _ => KL - (intOf nv).toNat)
  case atStart => exact ⟨0, _, _, Nat.zero_le _, rfl, hst⟩
  case round =>
    obtain ⟨m, vK, vs, hm, rfl, hs⟩ := hrel
    by_cases hlt : m < KL
    · have hlt' : m < kids.length := by rw [hKL.out]; exact hlt
      have hgw := hs.out.gr
      obtain ⟨g, off, v0, v1, v2, v3, rfl, c0, c1, c2, c3, hxk⟩ := kid_at (wr := wr) hkr.out (fun g h => hgw.block g (hok.out g h) (by simp)) m hlt'
      have hgz : g < z := by
        obtain ⟨g', off', he, hg', _⟩ := hkr.out.resolve_left (fun e => by rw [e] at hlt'; simp at hlt')
        cases he
        have h1 := hok.out g hg'
        have h2 := hs.out.zz
        omega
      obtain ⟨AK, cK, hvK⟩ := hs.out.cp.form
      obtain ⟨KM, hKM⟩ : ∃ KM, (kids.take m).length = KM := ⟨_, rfl⟩
      have hKM2 : KM = m := by rw [← hKM]; simp; omega
      rw [hKM] at hvK
      subst hvK
      have hcl := ih.out kids[m] (List.getElem_mem hlt') (.agg #[v0, v1, v2, v3]) ok wr.drew (hxk.keep (w := wr) (w' := wr.drew) (fun _ h => h) (fun _ _ => rfl)) (fun g h => Nat.lt_of_lt_of_le (hok.out g h) hgw.size)
      have q0 : wr.cell? ⟨z + 2, 3, none⟩ = some (.slice AK KM cK) := by rw [cell_of_row wr _ _ _ _ _ hs.out.r2]; rfl
      have q1 : wr.cell? ⟨z, 3, none⟩ = some (.slice (some ⟨g, off, none⟩) KL cc) := by rw [cell_of_row wr _ _ _ _ _ hs.out.r0]; rfl
      have hsz := hs.out.sz
      clear hxk hgw
      obtain ⟨kop, knum, kname, kkids, hkk⟩ : ∃ eo en em el, kids[m] = E.mk eo en em el := by cases kids[m]; exact ⟨_, _, _, _, rfl⟩
      rw [hkk] at hcl
      replace hkk := Lib.hid hkk
      replace hKM := Lib.hid hKM
      replace hKM2 := Lib.hid hKM2
      go_wp2_with fail
      refine wp_region_last (L := 11) (S := (fun w' : World => w'.cell? ⟨z + 2, 3, none⟩ = some (.slice AK KM cK) ∧ w'.cell? ⟨z, 3, none⟩ = some (.slice (some ⟨g, off, none⟩) KL cc) ∧ w'.cell? ⟨g, off + m * 4, none⟩ = some v0 ∧ w'.cell? ⟨g, off + m * 4 + 1, none⟩ = some v1 ∧ w'.cell? ⟨g, off + m * 4 + 2, none⟩ = some v2 ∧ w'.cell? ⟨g, off + m * 4 + 3, none⟩ = some v3)) (by kernel_rfl) ?_
      have hS0 : (fun w' : World => w'.cell? ⟨z + 2, 3, none⟩ = some (.slice AK KM cK) ∧ w'.cell? ⟨z, 3, none⟩ = some (.slice (some ⟨g, off, none⟩) KL cc) ∧ w'.cell? ⟨g, off + m * 4, none⟩ = some v0 ∧ w'.cell? ⟨g, off + m * 4 + 1, none⟩ = some v1 ∧ w'.cell? ⟨g, off + m * 4 + 2, none⟩ = some v2 ∧ w'.cell? ⟨g, off + m * 4 + 3, none⟩ = some v3) wr.drew := ⟨q0, q1, c0, c1, c2, c3⟩
      refine wpAnyT_takeT (n := 40) (i := 0) (v := .pointer (some ⟨z + 2, 3, none⟩)) rfl (by kernel_rfl) (by kernel_rfl) (by kernel_rfl) (by kernel_rfl) (by kernel_rfl) (fun _ _ _ h => h) (Or.inl ⟨by rfl, ?_⟩) hS0 ?_
      · intro W hW
        obtain ⟨k0, k1, k2, k3, k4, k5⟩ := hW
        clear hS0 hcl q0 q1 c0 c1 c2 c3
        go_simp
        try (intro hx; exfalso; omega)
      try simp only [Act.put, List.setIfInBounds_toArray]
      refine wpAnyT_takeT (n := 40) (i := 1) (v := .slice AK KM cK) rfl (by kernel_rfl) (by kernel_rfl) (by kernel_rfl) (by kernel_rfl) (by kernel_rfl) (fun _ _ _ h => h) (Or.inl ⟨by rfl, ?_⟩) hS0 ?_
      · intro W hW
        obtain ⟨k0, k1, k2, k3, k4, k5⟩ := hW
        clear hS0 hcl q0 q1 c0 c1 c2 c3
        go_simp
        try (intro hx; exfalso; omega)
      try simp only [Act.put]
      refine wpAnyT_takeT (n := 40) (i := 2) (v := .pointer (some ⟨z, 3, none⟩)) rfl (by kernel_rfl) (by kernel_rfl) (by kernel_rfl) (by kernel_rfl) (by kernel_rfl) (fun _ _ _ h => h) (Or.inl ⟨by rfl, ?_⟩) hS0 ?_
      · intro W hW
        obtain ⟨k0, k1, k2, k3, k4, k5⟩ := hW
        clear hS0 hcl q0 q1 c0 c1 c2 c3
        go_simp
        try (intro hx; exfalso; omega)
      try simp only [Act.put]
      refine wpAnyT_takeT (n := 40) (i := 3) (v := .slice (some ⟨g, off, none⟩) KL cc) rfl (by kernel_rfl) (by kernel_rfl) (by kernel_rfl) (by kernel_rfl) (by kernel_rfl) (fun _ _ _ h => h) (Or.inl ⟨by rfl, ?_⟩) hS0 ?_
      · intro W hW
        obtain ⟨k0, k1, k2, k3, k4, k5⟩ := hW
        clear hS0 hcl q0 q1 c0 c1 c2 c3
        go_simp
        try (intro hx; exfalso; omega)
      try simp only [Act.put]
      refine wpAnyT_takeT (n := 40) (i := 4) (v := .int .i64 (m : Int)) rfl (by kernel_rfl) (by kernel_rfl) (by kernel_rfl) (by kernel_rfl) (by kernel_rfl) (fun _ _ _ h => h) (Or.inl ⟨by rfl, ?_⟩) hS0 ?_
      · intro W hW
        obtain ⟨k0, k1, k2, k3, k4, k5⟩ := hW
        clear hS0 hcl q0 q1 c0 c1 c2 c3
        go_simp
        try (intro hx; exfalso; omega)
      try simp only [Act.put]
      refine wpAnyT_takeT (n := 40) (i := 5) (v := .pointer (some ⟨g, off + m * 4, none⟩)) rfl (by kernel_rfl) (by kernel_rfl) (by kernel_rfl) (by kernel_rfl) (by kernel_rfl) (fun _ _ _ h => h) (Or.inl ⟨by rfl, ?_⟩) hS0 ?_
      · intro W hW
        obtain ⟨k0, k1, k2, k3, k4, k5⟩ := hW
        clear hS0 hcl q0 q1 c0 c1 c2 c3
        go_simp
        try (intro hx; exfalso; omega)
      try simp only [Act.put]
      refine wpAnyT_takeT (n := 40) (i := 6) (v := .agg #[v0, v1, v2, v3]) rfl (by kernel_rfl) (by kernel_rfl) (by kernel_rfl) (by kernel_rfl) (by kernel_rfl) (fun _ _ _ h => h) (Or.inl ⟨by rfl, ?_⟩) hS0 ?_
      · intro W hW
        obtain ⟨k0, k1, k2, k3, k4, k5⟩ := hW
        clear hS0 hcl q0 q1 c0 c1 c2 c3
        go_simp
        try (intro hx; exfalso; omega)
      try simp only [Act.put]
      clear hS0
      refine wpAnyT_one (i := 7) rfl (by kernel_rfl) rfl ?_
      go_simp
      refine hcl.mono ?_
      rintro e w1 ⟨⟨u, rfl, hu⟩, hg1'⟩
      have hg1 : wr.grownBy w1 none := ⟨hg1'.os, hg1'.tape, hg1'.output, hg1'.size, hg1'.block⟩
      have hu : ExR w1 (fun g => wr.heap.size ≤ g ∧ g < w1.heap.size) (.mk kop knum kname kkids) u := hu
      obtain ⟨uA, uc, rfl, _⟩ := hu.form
      generalize hkl : kkids.length = kl at hu
      have q0 := hg1.cell q0 (by simp)
      have q1 := hg1.cell q1 (by simp)
      have c0 := hg1.cell c0 (by simp)
      have c1 := hg1.cell c1 (by simp)
      have c2 := hg1.cell c2 (by simp)
      have c3 := hg1.cell c3 (by simp)
      clear hcl hg1'
      refine ⟨⟨q0, q1, c0, c1, c2, c3⟩, ?_⟩
      refine wpAnyT_one (i := 8) rfl (by kernel_rfl) rfl ?_
      go_simp
      have hal : w1.grownBy (w1.alloc (.cells #[.string ⟨kop.toArray⟩, .int .i64 knum, .string ⟨kname.toArray⟩, .slice uA kl uc] 37)) none := World.grownBy_alloc _ _ _
      have hnw := new_cells w1 #[.string ⟨kop.toArray⟩, .int .i64 knum, .string ⟨kname.toArray⟩, .slice uA kl uc] 37
      have hsA : (w1.alloc (.cells #[.string ⟨kop.toArray⟩, .int .i64 knum, .string ⟨kname.toArray⟩, .slice uA kl uc] 37)).heap.size = w1.heap.size + 1 := by simp
      generalize w1.alloc (.cells #[.string ⟨kop.toArray⟩, .int .i64 knum, .string ⟨kname.toArray⟩, .slice uA kl uc] 37) = W2 at hal hnw hsA ⊢
      have q0 := hal.cell q0 (by simp)
      have q1 := hal.cell q1 (by simp)
      have c0 := hal.cell c0 (by simp)
      have c1 := hal.cell c1 (by simp)
      have c2 := hal.cell c2 (by simp)
      have c3 := hal.cell c3 (by simp)
      refine ⟨⟨q0, q1, c0, c1, c2, c3⟩, ?_⟩
      refine wpAnyT_one (i := 9) rfl (by kernel_rfl) rfl ?_
      have hown2 := (hs.out.cp.grown (grownBy_trans' hg1 hal)).own
      rw [hKM.out] at hown2
      refine wp_append_lies _ (.tmp 20) (.tmp 27) 35 rfl (z + 3) 37 i0 _ 4 64 Tryz.underlying35 hi hz0 hz1 hz2 rfl (by decide) (.slice AK KM cK) KM (cellsK vs) rfl hown2 ⟨w1.heap.size, 0, none⟩ 1 1 [.string ⟨kop.toArray⟩, .int .i64 knum, .string ⟨kname.toArray⟩, .slice uA kl uc] rfl rfl hnw (by simp [Value.oneCell']) (by decide) (by have := hKM2.out; simp only [maxLen]; omega) (by have := hKM2.out; omega) (by have := hg1.size; omega) (w1.heap.size + 1) hsA ?_
      intro gg cap w3 hown3 hgrow hat hgg
      have hlt := hown2.lt
      rw [← hKM.out] at hown3
      obtain ⟨r0, r2, hold, hst⟩ := hs.out.app hg1 hal rfl hu hown3 hgrow (by rw [hsA]; exact hat)
      have q0 : w3.cell? ⟨z + 2, 3, none⟩ = some (.slice AK KM cK) := by rw [cell_of_row w3 _ _ _ _ _ r2]; rfl
      have q1 : w3.cell? ⟨z, 3, none⟩ = some (.slice (some ⟨g, off, none⟩) KL cc) := by rw [cell_of_row w3 _ _ _ _ _ r0]; rfl
      have hb : some g ≠ (Value.slice AK KM cK).ownBlock := fun e => by have := (hlt g e.symm).1; omega
      have c0 := hgrow.cell c0 hb
      have c1 := hgrow.cell c1 hb
      have c2 := hgrow.cell c2 hb
      have c3 := hgrow.cell c3 hb
      have f0 : w3.frozen? ⟨z + 2, 3, none⟩ = false := frozen_of_row w3 _ _ _ _ r2
      refine ⟨fun _ => ⟨q0, q1, c0, c1, c2, c3⟩, ?_⟩
      try simp only [Act.put, List.setIfInBounds_toArray]
      refine wpAnyT_one (i := 10) rfl (by kernel_rfl) rfl ?_
      go_simp
      refine wpAnyT_one (i := 11) rfl (by kernel_rfl) rfl ?_
      clear hlt hown2 hown3 hgrow hat hal hnw r0 r2 hold c0 c1 c2 c3 hb q1 hs hu hsA
      go_simp
      refine wpAnyT_done (by kernel_rfl) ?_ _
      rw [← hkk.out] at hst
      rw [hKM.out] at hst
      replace hst := Lib.hid hst
      generalize w3.setCell ⟨z + 2, 3, none⟩ (.slice (some ⟨gg, 0, none⟩) (KM + 1) cap) = w4 at hst ⊢
      clear q0 f0
      go_wp2
      go_roundw
      case rel => exact ⟨m + 1, _, _, by omega, by go_num, (by rw [List.take_succ_eq_append_getElem hlt']; exact hst)⟩
      case measure => simp [intOf]; omega
    · obtain rfl : m = KL := by omega
      have hr0 := hs.out.r0
      have hr1 := hs.out.r1
      have hr2 := hs.out.r2
      obtain ⟨AK, cK, hvK⟩ := hs.out.cp.form
      obtain ⟨KM, hKM⟩ : ∃ KM, (kids.take m).length = KM := ⟨_, rfl⟩
      rw [hKM] at hvK
      subst hvK
      have q1 : wr.cell? ⟨z, 3, none⟩ = some (.slice A m cc) := by rw [cell_of_row wr _ _ _ _ _ hr0]; rfl
      have p0 : wr.cell? ⟨z + 1, 0, none⟩ = some (.string ⟨#[]⟩) := by rw [cell_of_row wr _ _ _ _ _ hr1]; rfl
      have p1 : wr.cell? ⟨z + 1, 1, none⟩ = some (.int .i64 0) := by rw [cell_of_row wr _ _ _ _ _ hr1]; rfl
      have p2 : wr.cell? ⟨z + 1, 2, none⟩ = some (.string ⟨#[]⟩) := by rw [cell_of_row wr _ _ _ _ _ hr1]; rfl
      have p3 : wr.cell? ⟨z + 1, 3, none⟩ = some (.slice none 0 0) := by rw [cell_of_row wr _ _ _ _ _ hr1]; rfl
      have f0 : wr.frozen? ⟨z + 1, 0, none⟩ = false := frozen_of_row wr _ _ _ _ hr1
      have f1 : wr.frozen? ⟨z + 1, 1, none⟩ = false := frozen_of_row wr _ _ _ _ hr1
      have f2 : wr.frozen? ⟨z + 1, 2, none⟩ = false := frozen_of_row wr _ _ _ _ hr1
      have f3 : wr.frozen? ⟨z + 1, 3, none⟩ = false := frozen_of_row wr _ _ _ _ hr1
      have d0 : wr.cell? ⟨z + 2, 0, none⟩ = some (.string x) := by rw [cell_of_row wr _ _ _ _ _ hr2]; rfl
      have d1 : wr.cell? ⟨z + 2, 1, none⟩ = some (.int .i64 num) := by rw [cell_of_row wr _ _ _ _ _ hr2]; rfl
      have d2 : wr.cell? ⟨z + 2, 2, none⟩ = some (.string nx) := by rw [cell_of_row wr _ _ _ _ _ hr2]; rfl
      have d3 : wr.cell? ⟨z + 2, 3, none⟩ = some (.slice AK KM cK) := by rw [cell_of_row wr _ _ _ _ _ hr2]; rfl
      clear hr0 hr1 hr2
      replace hKM := Lib.hid hKM
      go_wp2
      obtain ⟨W, hW, e0, e1, e2, e3, hgW, _⟩ := set_four (.string x) (.int .i64 num) (.string nx) (.slice AK KM cK) p0 p1 p2 p3
      rw [hW]
      refine bodyPost_ret (v := .agg #[.string x, .int .i64 num, .string nx, .slice AK KM cK]) (by simp [results, Tryz.results15, go_sem, e0, e1, e2, e3]) rfl ?_
      have hsz := hs.out.sz
      have hck := hs.out.cp.keep (w' := W) (fun g hg hl => hgW.block g hl (fun e => by cases e; omega)) hgW.size
      have hfin := hck.fin (b := w.heap.size) (by have := hs.out.zz; omega) op name num
      rw [List.take_of_length_le (by rw [hKL.out]; omega)] at hfin
      unfold exC at hfin
      rw [hxx.out, hnx.out] at hfin
      exact ⟨⟨_, rfl, hfin⟩, grown_over hs.out.gr hgW fun k e => by cases e; have := hs.out.zz; omega⟩
theorem plain_all : ∀ (n : Nat) (x : E), sizeE x ≤ n → sizeE x ≤ 1000000 → Copies 15 x x
  | 0, .mk _ _ _ _, h, _ => by unfold sizeE at h; omega
  | n + 1, .mk op num name kids, h, h6 => by
    unfold sizeE at h h6
    refine plain_step op name num kids (fun x hx => plain_all n x (by have := sizeL.mem x hx; omega) (by have := sizeL.mem x hx; omega)) ?_
    have := len_size kids
    omega
theorem plain_any (x : E) (h : sizeE x ≤ 1000000) : Copies 15 x x := plain_all _ x (Nat.le_refl _) h
end Go.Proofs.YtlijlgbaikijnaaGreatDoor
