/-
  SumsBack answers true. Conditions: the table of powers of ten holds them; numbers of 64 bits; no row of Kids is longer than memory can hold.
-/
import Derived.Test.YtlijlgbaikijnaaGreatDoorSmSize
import Derived.Test.YtlijlgbaikijnaaGreatDoorSmStrip
import Derived.Test.YtlijlgbaikijnaaGreatDoorSmSame
namespace Go.Proofs.YtlijlgbaikijnaaGreatDoor
open Go Go.RowKit

set_option maxHeartbeats 8000000 in
set_option maxRecDepth 100000 in
theorem lawBack_any (X : E) (v : Value) (s : ByteArray) (w : World) (hx : ExR w (fun g => g < w.heap.size) X v) (hnX : NumE X) (hwX : WideE X) (ht : Tab w) :
    Calls Tryz.prog 6 #[v, .string s] w fun e w' => e = .returned (.bool true) ∧ w.grownBy w' none := by
  have haw := fun W (hg : w.grownBy W none) => awake_any W (ht.below (below_of_none hg))
  have hfw := fun W (hg : w.grownBy W none) => few_any X v (fun g => g < w.heap.size) W (hx.keep (fun _ h => h) (fun g h => hg.block g h (by simp))) (fun g h => Nat.lt_of_lt_of_le h hg.size)
  obtain ⟨fb, hfb⟩ : ∃ fb, fewE X = fb := ⟨_, rfl⟩
  rw [hfb] at hfw
  have hx0 := Lib.hid hx
  obtain ⟨op, num, name, kids⟩ := X
  obtain ⟨A, cc, rfl, hcc, hcm, _⟩ := hx.form
  obtain ⟨KL, hKL⟩ : ∃ KL, kids.length = KL := ⟨_, rfl⟩
  obtain ⟨x, hxx⟩ : ∃ x : ByteArray, (⟨op.toArray⟩ : ByteArray) = x := ⟨_, rfl⟩
  obtain ⟨nx, hnx⟩ : ∃ nx : ByteArray, (⟨name.toArray⟩ : ByteArray) = nx := ⟨_, rfl⟩
  rw [hxx, hnx, hKL] at hx0 hfw ⊢
  replace hfb := Lib.hid hfb
  replace ht := Lib.hid ht
  replace hKL := Lib.hid hKL
  replace hxx := Lib.hid hxx
  replace hnx := Lib.hid hnx
  clear hx hcc hcm
  go_enter Tryz.func6, Tryz.ntmps6
  go_upto_region 1 with fail
  obtain ⟨w2, hW2, hs2, hgr, hcz, hfz, hold⟩ := one_new w #[.string x, .int .i64 num, .string nx, .slice A KL cc] 30
  rw [hW2]
  obtain ⟨z, hz⟩ : ∃ z, w.heap.size = z := ⟨_, rfl⟩
  rw [hz] at hcz hs2 ⊢
  have q0 := hcz 0 _ rfl
  have q1 := hcz 1 _ rfl
  have q2 := hcz 2 _ rfl
  have q3 := hcz 3 _ rfl
  have hg2 := hgr none
  have hf2 := hfw w2 hg2
  replace hz := Lib.hid hz
  clear hW2 hgr hcz hfz hold hfw hs2
  cases fb with
  | false =>
    go_wp2_with fail
    refine hf2.mono ?_
    rintro e w3 ⟨rfl, hg3⟩
    have hg3 := grownBy_trans' hg2 hg3
    have haw3 := haw w3 hg3
    clear haw hf2 q0 q1 q2 q3
    go_wp2_with fail
    refine haw3.mono ?_
    rintro e w4 ⟨rfl, hg4⟩
    have hgE := grownBy_trans' hg3 hg4
    go_wp2
    go_ret
    exact ⟨rfl, hgE⟩
  | true =>
  by_cases hs4 : 400 < s.size
  · have i0 : (400 : Int) < (s.size : Int) := by omega
    clear hs4
    go_wp2_with fail
    refine hf2.mono ?_
    rintro e w3 ⟨rfl, hg3⟩
    have hg3 := grownBy_trans' hg2 hg3
    have haw3 := haw w3 hg3
    clear haw hf2 q0 q1 q2 q3
    go_wp2_with fail
    refine haw3.mono ?_
    rintro e w4 ⟨rfl, hg4⟩
    have hgE := grownBy_trans' hg3 hg4
    go_wp2
    go_ret
    exact ⟨rfl, hgE⟩
  have i0 : ¬ (400 : Int) < (s.size : Int) := by omega
  obtain ⟨hsz, hsh⟩ := few_facts _ _ (Nat.le_refl _) hwX hfb.out
  have hsa := fun W (hg : w.grownBy W none) => Show_any (.mk op num name kids) _ (fun g => g < z) W (hx0.out.keep (fun g h => by rw [← hz.out]; exact h) (fun g h => hg.block g h (by simp))) (fun g h => by have h1 := hg.size; have h2 := hz.out; omega) (ht.out.below (below_of_none hg)) hnX hsh (by omega)
  obtain ⟨c, hc⟩ : ∃ c, (showF (.mk op num name kids)).2 = c := ⟨_, rfl⟩
  obtain ⟨T, hT⟩ : ∃ T : ByteArray, (⟨(showF (.mk op num name kids)).1.toArray⟩ : ByteArray) = T := ⟨_, rfl⟩
  rw [hc, hT] at hsa
  replace hc := Lib.hid hc
  replace hT := Lib.hid hT
  go_wp2_with fail
  refine hf2.mono ?_
  rintro e w3 ⟨rfl, hg3⟩
  have q0 := hg3.cell q0 (by simp)
  have q1 := hg3.cell q1 (by simp)
  have q2 := hg3.cell q2 (by simp)
  have q3 := hg3.cell q3 (by simp)
  have hg3 := grownBy_trans' hg2 hg3
  have hsa3 := hsa w3 hg3
  clear hf2 hsa hg2
  go_wp2_with fail
  refine hsa3.mono ?_
  rintro e w4 ⟨rfl, hg4⟩
  have q0 := hg4.cell q0 (by simp)
  have q1 := hg4.cell q1 (by simp)
  have q2 := hg4.cell q2 (by simp)
  have q3 := hg4.cell q3 (by simp)
  have hg4 := grownBy_trans' hg3 hg4
  clear hsa3 hg3
  obtain ⟨cb, hcb⟩ : ∃ cb, (c == 0) = cb := ⟨_, rfl⟩
  go_upto_if 32 with fail
  go_cut [7, 8, 9, 10] from 33 to 61 (fun _ _ _ _ wx => Hid (w.grownBy wx none))
  case first =>
    cases cb with
    | false =>
      go_wp2
      go_meet
      exact hg4
    | true =>
      obtain ⟨hr, hd, hl, hse⟩ := show_ok (x := .mk op num name kids) (by rw [hc.out]; simpa using hcb)
      have hc0 : c = 0 := by simpa using hcb
      subst hc0
      have hTt : tl T = showE (.mk op num name kids) := by rw [← hT.out, hse]; rfl
      have hTz : T.size ≤ 4096 := by rw [← tl_len, hTt]; exact hl
      have hpa := parse_ok (parse_show hr hnX hd) T hTt hTz w4
      obtain ⟨so, sn, sm, sk, hsx⟩ : ∃ so sn sm sk, stripE (.mk op num name kids) = .mk so sn sm sk := ⟨_, _, _, _, by rw [stripE]⟩
      have hsz2 : sizeE (E.mk so sn sm sk) ≤ 600 := by rw [← hsx, sizeE_strip]; exact hsz
      have htw : stripE (E.mk so sn sm sk) = .mk so sn sm sk := by rw [← hsx, stripE_twice]
      rw [hsx] at hpa
      replace hsx := Lib.hid hsx
      replace htw := Lib.hid htw
      replace hr := Lib.hid hr
      clear hcb hd hl hse hTt hTz haw
      go_wp2_with fail
      refine hpa.mono ?_
      rintro e w5 ⟨⟨vy, rfl, hy⟩, hg5⟩
      obtain ⟨yA, yc, rfl, _⟩ := hy.form
      obtain ⟨SL, hSL⟩ : ∃ SL, sk.length = SL := ⟨_, rfl⟩
      rw [hSL] at hy ⊢
      replace hSL := Lib.hid hSL
      have q0 := hg5.cell q0 (by simp)
      have q1 := hg5.cell q1 (by simp)
      have q2 := hg5.cell q2 (by simp)
      have q3 := hg5.cell q3 (by simp)
      have hgw5 := grownBy_trans' hg4 hg5
      replace hy := Lib.hid hy
      clear hpa
      have hqa : ∀ o, (w5.alloc o).cell? ⟨z, 0, none⟩ = some (.string x) ∧ (w5.alloc o).cell? ⟨z, 1, none⟩ = some (.int .i64 num) ∧ (w5.alloc o).cell? ⟨z, 2, none⟩ = some (.string nx) ∧ (w5.alloc o).cell? ⟨z, 3, none⟩ = some (.slice A KL cc) := fun o => ⟨Lib.cell?_alloc_some _ q0, Lib.cell?_alloc_some _ q1, Lib.cell?_alloc_some _ q2, Lib.cell?_alloc_some _ q3⟩
      go_upto_region 7 with fail
      have hz5 : z < w5.heap.size := World.block_lt_of_cell? w5 ⟨z, 0, none⟩ q0
      obtain ⟨w6, hW6, hs6, hgr6, hcz6, hcy6, hfz6, hfy6, hold6⟩ := two_new w5 #[.string ⟨so.toArray⟩, .int .i64 sn, .string ⟨sm.toArray⟩, .slice yA SL yc] #[.string x, .int .i64 num, .string nx, .slice A KL cc] 30 30
      rw [hW6]
      obtain ⟨y, hyy⟩ : ∃ y, w5.heap.size = y := ⟨_, rfl⟩
      rw [hyy] at hcz6 hcy6 hs6 hfy6 ⊢
      have cy0 := hcz6 0 _ rfl
      have cy1 := hcz6 1 _ rfl
      have cy2 := hcz6 2 _ rfl
      have cy3 := hcz6 3 _ rfl
      have p0 := hcy6 0 _ rfl
      have p1 := hcy6 1 _ rfl
      have p2 := hcy6 2 _ rfl
      have p3 := hcy6 3 _ rfl
      have f0 := hfy6 0
      have f1 := hfy6 1
      have f2 := hfy6 2
      have f3 := hfy6 3
      have q0 := (hgr6 none).cell q0 (by simp)
      have q1 := (hgr6 none).cell q1 (by simp)
      have q2 := (hgr6 none).cell q2 (by simp)
      have q3 := (hgr6 none).cell q3 (by simp)
      have hgw6 := grownBy_trans' hgw5 (hgr6 none)
      obtain ⟨b1, hb1⟩ : ∃ b, (op == [110, 117, 109]) = b := ⟨_, rfl⟩
      have k1 : (x.toList == [110, 117, 109]) = b1 := by rw [Lib.toList_data, ← hxx.out]; exact hb1
      have hyz : y ≠ z := by omega
      have hzy1 : z ≠ y + 1 := by omega
      replace hgw6 := Lib.hid hgw6
      replace hyy := Lib.hid hyy
      replace hb1 := Lib.hid hb1
      replace hold6 := Lib.hid hold6
      clear hqa hW6 hgr6 hcz6 hcy6 hfz6 hfy6
      go_upto_if 42 with fail
      go_cut [] from 43 to 45 (fun wx => ∃ (cl : E) (d0 d1 d2 d3 : Value), Hid (stripE cl = stripE (.mk op num name kids) ∧ sizeE cl ≤ 600) ∧ (wx.cell? ⟨y, 0, none⟩ = some (.string ⟨so.toArray⟩) ∧ wx.cell? ⟨y, 1, none⟩ = some (.int .i64 sn) ∧ wx.cell? ⟨y, 2, none⟩ = some (.string ⟨sm.toArray⟩) ∧ wx.cell? ⟨y, 3, none⟩ = some (.slice yA SL yc) ∧ wx.cell? ⟨y + 1, 0, none⟩ = some (d0) ∧ wx.cell? ⟨y + 1, 1, none⟩ = some (d1) ∧ wx.cell? ⟨y + 1, 2, none⟩ = some (d2) ∧ wx.cell? ⟨y + 1, 3, none⟩ = some (d3)) ∧ Hid (ExR wx (fun g => g < wx.heap.size) cl (.agg #[d0, d1, d2, d3])) ∧ Hid (ExR wx (fun g => g < wx.heap.size) (.mk so sn sm sk) (.agg #[.string ⟨so.toArray⟩, .int .i64 sn, .string ⟨sm.toArray⟩, .slice yA SL yc])) ∧ Hid (w.grownBy wx none))
      case first =>
        cases b1 with
        | true =>
          go_wp2
          obtain ⟨W, hW, e0, e1, e2, e3, hgW, _⟩ := set_four (.string ⟨#[110, 117, 109]⟩) (.int .i64 num) (.string ⟨#[]⟩) (.slice none 0 0) p0 p1 p2 p3
          rw [hW]
          go_meet
          have hop : op = [110, 117, 109] := by simpa using hb1.out
          have hcW : ∀ j v, w6.cell? ⟨y, j, none⟩ = some v → W.cell? ⟨y, j, none⟩ = some v := fun j v h => hgW.cell h (by simp)
          refine ⟨.mk [110, 117, 109] num [] [], _, _, _, _, ⟨?_, by simp [sizeE, sizeL]⟩, ⟨hcW 0 _ cy0, hcW 1 _ cy1, hcW 2 _ cy2, hcW 3 _ cy3, e0, e1, e2, e3⟩, ?_, ?_, ?_⟩
          · subst hop
            rw [strip_num hr.out]
            rfl
          · unfold Hid ExR
            exact ⟨none, 0, rfl, Nat.le_refl _, Nat.zero_le _, .inl rfl⟩
          · exact hy.out.keep (fun g h => by have h1 := h.2; have h2 := hgW.size; have h3 := hyy.out; omega) (fun g h => by
              have h1 := h.2
              have h2 := hyy.out
              exact (hgW.block g (by omega) (by simp; omega)).trans (hold6.out g h.2))
          · exact grown_over hgw6.out hgW fun k e => by cases e; have h1 := hgw5.size; have h2 := hyy.out; omega
        | false =>
          go_wp2
          go_meet
          refine ⟨.mk op num name kids, _, _, _, _, ⟨rfl, hsz⟩, ⟨cy0, cy1, cy2, cy3, p0, p1, p2, p3⟩, ?_, ?_, hgw6.out⟩
          · have h1 := hgw6.out
            rw [← hKL.out]
            exact (hKL.out ▸ hx0.out).keep (fun g h => Nat.lt_of_lt_of_le h h1.size) (fun g h => h1.block g h (by simp))
          · exact hy.out.keep (fun g h => by have h1 := h.2; have h3 := hyy.out; omega) (fun g h => hold6.out g h.2)
      case rest =>
      clear cy0 cy1 cy2 cy3
      obtain ⟨cl, d0, d1, d2, d3, hcs, ⟨cy0, cy1, cy2, cy3, cd0, cd1, cd2, cd3⟩, hcl, hyx, hgw⟩ := hcut
      clear q0 q1 q2 q3 p0 p1 p2 p3 f0 f1 f2 f3 k1 hgw6 hgw5 hg5 hy hs6 hold6 hb1
      go_wp2_with fail
      refine wp_region_last (L := 15) (S := (fun w' : World => w'.cell? ⟨y, 0, none⟩ = some (.string ⟨so.toArray⟩) ∧ w'.cell? ⟨y, 1, none⟩ = some (.int .i64 sn) ∧ w'.cell? ⟨y, 2, none⟩ = some (.string ⟨sm.toArray⟩) ∧ w'.cell? ⟨y, 3, none⟩ = some (.slice yA SL yc) ∧ w'.cell? ⟨y + 1, 0, none⟩ = some (d0) ∧ w'.cell? ⟨y + 1, 1, none⟩ = some (d1) ∧ w'.cell? ⟨y + 1, 2, none⟩ = some (d2) ∧ w'.cell? ⟨y + 1, 3, none⟩ = some (d3))) (by kernel_rfl) ?_
      have hS0 : (fun w' : World => w'.cell? ⟨y, 0, none⟩ = some (.string ⟨so.toArray⟩) ∧ w'.cell? ⟨y, 1, none⟩ = some (.int .i64 sn) ∧ w'.cell? ⟨y, 2, none⟩ = some (.string ⟨sm.toArray⟩) ∧ w'.cell? ⟨y, 3, none⟩ = some (.slice yA SL yc) ∧ w'.cell? ⟨y + 1, 0, none⟩ = some (d0) ∧ w'.cell? ⟨y + 1, 1, none⟩ = some (d1) ∧ w'.cell? ⟨y + 1, 2, none⟩ = some (d2) ∧ w'.cell? ⟨y + 1, 3, none⟩ = some (d3)) wc.drew := ⟨cy0, cy1, cy2, cy3, cd0, cd1, cd2, cd3⟩
      refine wpAnyT_takeT (n := 40) (i := 0) (v := .int .i64 0) rfl (by kernel_rfl) (by kernel_rfl) (by kernel_rfl) (by kernel_rfl) (by kernel_rfl) (fun _ _ _ h => h) (Or.inl ⟨by rfl, ?_⟩) hS0 ?_
      · intro W hW
        obtain ⟨k0, k1, k2, k3, k4, k5, k6, k7⟩ := hW
        clear cy0 cy1 cy2 cy3 cd0 cd1 cd2 cd3 hS0 hcl hyx hgw hcs
        go_simp
      try simp only [Act.put, List.setIfInBounds_toArray]
      refine wpAnyT_takeT (n := 40) (i := 1) (v := .bool false) rfl (by kernel_rfl) (by kernel_rfl) (by kernel_rfl) (by kernel_rfl) (by kernel_rfl) (fun _ _ _ h => h) (Or.inl ⟨by rfl, ?_⟩) hS0 ?_
      · intro W hW
        obtain ⟨k0, k1, k2, k3, k4, k5, k6, k7⟩ := hW
        clear cy0 cy1 cy2 cy3 cd0 cd1 cd2 cd3 hS0 hcl hyx hgw hcs
        go_simp
      try simp only [Act.put]
      refine wpAnyT_takeT (n := 40) (i := 2) (v := .bool false) rfl (by kernel_rfl) (by kernel_rfl) (by kernel_rfl) (by kernel_rfl) (by kernel_rfl) (fun _ _ _ h => h) (Or.inl ⟨by rfl, ?_⟩) hS0 ?_
      · intro W hW
        obtain ⟨k0, k1, k2, k3, k4, k5, k6, k7⟩ := hW
        clear cy0 cy1 cy2 cy3 cd0 cd1 cd2 cd3 hS0 hcl hyx hgw hcs
        go_simp
      try simp only [Act.put]
      refine wpAnyT_takeT (n := 40) (i := 3) (v := .int .i64 0) rfl (by kernel_rfl) (by kernel_rfl) (by kernel_rfl) (by kernel_rfl) (by kernel_rfl) (fun _ _ _ h => h) (Or.inl ⟨by kernel_rfl, ?_⟩) hS0 ?_
      · intro W hW
        obtain ⟨k0, k1, k2, k3, k4, k5, k6, k7⟩ := hW
        clear cy0 cy1 cy2 cy3 cd0 cd1 cd2 cd3 hS0 hcl hyx hgw hcs
        go_simp
      try simp only [Act.put]
      refine wpAnyT_takeT (n := 40) (i := 4) (v := .bool false) rfl (by kernel_rfl) (by kernel_rfl) (by kernel_rfl) (by kernel_rfl) (by kernel_rfl) (fun _ _ _ h => h) (Or.inl ⟨by kernel_rfl, ?_⟩) hS0 ?_
      · intro W hW
        obtain ⟨k0, k1, k2, k3, k4, k5, k6, k7⟩ := hW
        clear cy0 cy1 cy2 cy3 cd0 cd1 cd2 cd3 hS0 hcl hyx hgw hcs
        go_simp
      try simp only [Act.put]
      refine wpAnyT_takeT (n := 40) (i := 5) (v := .bool false) rfl (by kernel_rfl) (by kernel_rfl) (by kernel_rfl) (by kernel_rfl) (by kernel_rfl) (fun _ _ _ h => h) (Or.inl ⟨by rfl, ?_⟩) hS0 ?_
      · intro W hW
        obtain ⟨k0, k1, k2, k3, k4, k5, k6, k7⟩ := hW
        clear cy0 cy1 cy2 cy3 cd0 cd1 cd2 cd3 hS0 hcl hyx hgw hcs
        go_simp
      try simp only [Act.put]
      refine wpAnyT_takeT (n := 40) (i := 6) (v := .bool false) rfl (by kernel_rfl) (by kernel_rfl) (by kernel_rfl) (by kernel_rfl) (by kernel_rfl) (fun _ _ _ h => h) (Or.inl ⟨by rfl, ?_⟩) hS0 ?_
      · intro W hW
        obtain ⟨k0, k1, k2, k3, k4, k5, k6, k7⟩ := hW
        clear cy0 cy1 cy2 cy3 cd0 cd1 cd2 cd3 hS0 hcl hyx hgw hcs
        go_simp
      try simp only [Act.put]
      refine wpAnyT_takeT (n := 40) (i := 7) (v := .agg #[.string ⟨so.toArray⟩, .int .i64 sn, .string ⟨sm.toArray⟩, .slice yA SL yc]) rfl (by kernel_rfl) (by kernel_rfl) (by kernel_rfl) (by kernel_rfl) (by kernel_rfl) (fun _ _ _ h => h) (Or.inl ⟨by kernel_rfl, ?_⟩) hS0 ?_
      · intro W hW
        obtain ⟨k0, k1, k2, k3, k4, k5, k6, k7⟩ := hW
        clear cy0 cy1 cy2 cy3 cd0 cd1 cd2 cd3 hS0 hcl hyx hgw hcs
        go_simp
      try simp only [Act.put]
      refine wpAnyT_takeT (n := 40) (i := 10) (v := .agg #[d0, d1, d2, d3]) rfl (by kernel_rfl) (by kernel_rfl) (by kernel_rfl) (by kernel_rfl) (by kernel_rfl) (fun _ _ _ h => h) (Or.inl ⟨by kernel_rfl, ?_⟩) hS0 ?_
      · intro W hW
        obtain ⟨k0, k1, k2, k3, k4, k5, k6, k7⟩ := hW
        clear cy0 cy1 cy2 cy3 cd0 cd1 cd2 cd3 hS0 hcl hyx hgw hcs
        go_simp
      try simp only [Act.put]
      clear hS0
      replace hcl := hcl.out
      replace hyx := hyx.out
      refine wpAnyT_oneG (i := 8) rfl (by kernel_rfl) (by kernel_rfl) ?_
      go_simp
      refine (plain_any (.mk so sn sm sk) (by omega) _ (fun g => g < wc.heap.size) wc.drew (hyx.keep (w := wc) (w' := wc.drew) (fun _ h => h) (fun _ _ => rfl)) (fun _ h => h)).mono ?_
      rintro e v1 ⟨⟨u1, rfl, hu1⟩, hh1⟩
      replace hu1 := hu1.keep (ok' := fun g => g < v1.heap.size) (fun _ h => h.2) (fun _ _ => rfl)
      have gg1 : wc.grownBy v1 none := ⟨hh1.os, hh1.tape, hh1.output, hh1.size, hh1.block⟩
      have cy0 := gg1.cell cy0 (by simp)
      have cy1 := gg1.cell cy1 (by simp)
      have cy2 := gg1.cell cy2 (by simp)
      have cy3 := gg1.cell cy3 (by simp)
      have cd0 := gg1.cell cd0 (by simp)
      have cd1 := gg1.cell cd1 (by simp)
      have cd2 := gg1.cell cd2 (by simp)
      have cd3 := gg1.cell cd3 (by simp)
      have hcl := hcl.keep (ok' := fun g => g < v1.heap.size) (fun g h => Nat.lt_of_lt_of_le h gg1.size) (fun g h => gg1.block g h (by simp))
      clear hyx hh1
      refine ⟨⟨cy0, cy1, cy2, cy3, cd0, cd1, cd2, cd3⟩, ?_⟩
      refine wpAnyT_oneG (i := 9) rfl (by kernel_rfl) (by kernel_rfl) ?_
      go_simp
      refine (strip_any (.mk so sn sm sk) (by omega) _ (fun g => g < v1.heap.size) v1 hu1 (fun _ h => h)).mono ?_
      rintro e v2 ⟨⟨u2, rfl, hu2⟩, hh2⟩
      replace hu2 := hu2.keep (ok' := fun g => g < v2.heap.size) (fun _ h => h.2) (fun _ _ => rfl)
      have gg2 : v1.grownBy v2 none := ⟨hh2.os, hh2.tape, hh2.output, hh2.size, hh2.block⟩
      have cy0 := gg2.cell cy0 (by simp)
      have cy1 := gg2.cell cy1 (by simp)
      have cy2 := gg2.cell cy2 (by simp)
      have cy3 := gg2.cell cy3 (by simp)
      have cd0 := gg2.cell cd0 (by simp)
      have cd1 := gg2.cell cd1 (by simp)
      have cd2 := gg2.cell cd2 (by simp)
      have cd3 := gg2.cell cd3 (by simp)
      have hcl := hcl.keep (ok' := fun g => g < v2.heap.size) (fun g h => Nat.lt_of_lt_of_le h gg2.size) (fun g h => gg2.block g h (by simp))
      clear hu1 hh2
      rw [htw.out] at hu2
      refine ⟨⟨cy0, cy1, cy2, cy3, cd0, cd1, cd2, cd3⟩, ?_⟩
      refine wpAnyT_oneG (i := 11) rfl (by kernel_rfl) (by kernel_rfl) ?_
      go_simp
      refine (plain_any (cl) (by have := hcs.out.2; omega) _ (fun g => g < v2.heap.size) v2 hcl (fun _ h => h)).mono ?_
      rintro e v3 ⟨⟨u3, rfl, hu3⟩, hh3⟩
      replace hu3 := hu3.keep (ok' := fun g => g < v3.heap.size) (fun _ h => h.2) (fun _ _ => rfl)
      have gg3 : v2.grownBy v3 none := ⟨hh3.os, hh3.tape, hh3.output, hh3.size, hh3.block⟩
      have cy0 := gg3.cell cy0 (by simp)
      have cy1 := gg3.cell cy1 (by simp)
      have cy2 := gg3.cell cy2 (by simp)
      have cy3 := gg3.cell cy3 (by simp)
      have cd0 := gg3.cell cd0 (by simp)
      have cd1 := gg3.cell cd1 (by simp)
      have cd2 := gg3.cell cd2 (by simp)
      have cd3 := gg3.cell cd3 (by simp)
      have hu2 := hu2.keep (ok' := fun g => g < v3.heap.size) (fun g h => Nat.lt_of_lt_of_le h gg3.size) (fun g h => gg3.block g h (by simp))
      clear hcl hh3
      refine ⟨⟨cy0, cy1, cy2, cy3, cd0, cd1, cd2, cd3⟩, ?_⟩
      refine wpAnyT_oneG (i := 12) rfl (by kernel_rfl) (by kernel_rfl) ?_
      go_simp
      refine (strip_any (cl) (by have := hcs.out.2; omega) _ (fun g => g < v3.heap.size) v3 hu3 (fun _ h => h)).mono ?_
      rintro e v4 ⟨⟨u4, rfl, hu4⟩, hh4⟩
      replace hu4 := hu4.keep (ok' := fun g => g < v4.heap.size) (fun _ h => h.2) (fun _ _ => rfl)
      have gg4 : v3.grownBy v4 none := ⟨hh4.os, hh4.tape, hh4.output, hh4.size, hh4.block⟩
      have cy0 := gg4.cell cy0 (by simp)
      have cy1 := gg4.cell cy1 (by simp)
      have cy2 := gg4.cell cy2 (by simp)
      have cy3 := gg4.cell cy3 (by simp)
      have cd0 := gg4.cell cd0 (by simp)
      have cd1 := gg4.cell cd1 (by simp)
      have cd2 := gg4.cell cd2 (by simp)
      have cd3 := gg4.cell cd3 (by simp)
      have hu2 := hu2.keep (ok' := fun g => g < v4.heap.size) (fun g h => Nat.lt_of_lt_of_le h gg4.size) (fun g h => gg4.block g h (by simp))
      clear hu3 hh4
      rw [hcs.out.1, hsx.out] at hu4
      refine ⟨⟨cy0, cy1, cy2, cy3, cd0, cd1, cd2, cd3⟩, ?_⟩
      refine wpAnyT_oneG (i := 13) rfl (by kernel_rfl) (by kernel_rfl) ?_
      go_simp
      refine (same_any (.mk so sn sm sk) _ _ (fun g => g < v4.heap.size) v4 hu2 hu4 (fun _ h => h)).mono ?_
      rintro e v5 ⟨rfl, hh5⟩
      have gg5 : v4.grownBy v5 none := ⟨hh5.os, hh5.tape, hh5.output, hh5.size, hh5.block⟩
      have cy0 := gg5.cell cy0 (by simp)
      have cy1 := gg5.cell cy1 (by simp)
      have cy2 := gg5.cell cy2 (by simp)
      have cy3 := gg5.cell cy3 (by simp)
      have cd0 := gg5.cell cd0 (by simp)
      have cd1 := gg5.cell cd1 (by simp)
      have cd2 := gg5.cell cd2 (by simp)
      have cd3 := gg5.cell cd3 (by simp)
      refine ⟨⟨cy0, cy1, cy2, cy3, cd0, cd1, cd2, cd3⟩, ?_⟩
      have hgE := Lib.hid (grownBy_trans' (grownBy_trans' (grownBy_trans' (grownBy_trans' (grownBy_trans' hgw.out gg1) gg2) gg3) gg4) gg5)
      clear hu2 hu4 hh5 gg1 gg2 gg3 gg4 gg5
      refine wpAnyT_oneG (i := 14) rfl (by kernel_rfl) (by kernel_rfl) ?_
      go_simp
      refine wpAnyT_one (i := 15) rfl (by kernel_rfl) rfl ?_
      go_simp
      refine wpAnyT_done (by kernel_rfl) ?_ _
      clear cy0 cy1 cy2 cy3 cd0 cd1 cd2 cd3
      go_wp2
      go_meet
      exact hgE.out
  case rest =>
    clear q0 q1 q2 q3 hg4 hcb hx0 hc hT
    have hsl : (tl s).length ≤ 1000000 := by rw [tl_len]; omega
    rcases parse_cases (tl s) hsl with ⟨c5, n5, hp, hc5⟩ | ⟨e5, t5, hp, hr5, hn5, hsh5, hst5, hz5⟩
    · have hpa := parse_no hp s rfl (by omega) wc
      unfold exC at hpa
      have hcn : (c5 == 0) = false := by simpa using hc5
      clear hp hc5
      go_wp2_with fail
      refine hpa.mono ?_
      rintro e w6 ⟨rfl, hg6⟩
      have hgw6 := grownBy_trans' hcut hg6
      have haw6 := fun o => haw (w6.alloc o) (grownBy_trans' hgw6 (World.grownBy_alloc _ _ _))
      clear hpa haw
      go_wp2_with fail
      refine (haw6 _).mono ?_
      rintro e w7 ⟨rfl, hg7⟩
      have hgE := grownBy_trans' (grownBy_trans' hgw6 (World.grownBy_alloc _ _ _)) hg7
      go_wp2
      go_ret
      exact ⟨rfl, hgE⟩
    have hpa := parse_ok hp s rfl (by omega) wc
    obtain ⟨so, sn, sm, sk⟩ := e5
    have hz6 : sizeE (E.mk so sn sm sk) ≤ 1000 := by rw [tl_len] at hz5; omega
    replace hst5 := Lib.hid hst5
    replace hr5 := Lib.hid hr5
    clear hp hz5 hsl
    go_wp2_with fail
    refine hpa.mono ?_
    rintro e w6 ⟨⟨v5, rfl, hv5⟩, hg6⟩
    obtain ⟨yA, yc, rfl, _⟩ := hv5.form
    obtain ⟨SL, hSL⟩ : ∃ SL, sk.length = SL := ⟨_, rfl⟩
    rw [hSL] at hv5 ⊢
    replace hSL := Lib.hid hSL
    have hgw6 := grownBy_trans' hcut hg6
    replace hv5 := Lib.hid hv5
    clear hpa hg6 hcut
    go_upto_region 12 with fail
    obtain ⟨w7, hW7, hs7, hgr7, hcz7, _, hold7⟩ := one_new w6 #[.string ⟨so.toArray⟩, .int .i64 sn, .string ⟨sm.toArray⟩, .slice yA SL yc] 30
    rw [hW7]
    obtain ⟨y, hyy⟩ : ∃ y, w6.heap.size = y := ⟨_, rfl⟩
    rw [hyy] at hcz7 ⊢
    have cy0 := hcz7 0 _ rfl
    have cy1 := hcz7 1 _ rfl
    have cy2 := hcz7 2 _ rfl
    have cy3 := hcz7 3 _ rfl
    have hgw7 := grownBy_trans' hgw6 (hgr7 none)
    have hyx : ExR w7 (fun g => g < w7.heap.size) (.mk so sn sm sk) (.agg #[.string ⟨so.toArray⟩, .int .i64 sn, .string ⟨sm.toArray⟩, .slice yA SL yc]) := hv5.out.keep (fun g h => by have := h.2; omega) (fun g h => hold7 g h.2)
    have hsa := Show_any (.mk so sn sm sk) _ (fun g => g < w7.heap.size) w7 hyx (fun _ h => h) (ht.out.below (below_of_none hgw7)) hn5 hsh5 (by omega)
    have hcs := show_right hr5.out
    obtain ⟨c6, hc6⟩ : ∃ c, (showF (.mk so sn sm sk)).2 = c := ⟨_, rfl⟩
    obtain ⟨T6, hT6⟩ : ∃ T : ByteArray, (⟨(showF (.mk so sn sm sk)).1.toArray⟩ : ByteArray) = T := ⟨_, rfl⟩
    rw [hc6] at hcs
    rw [hc6, hT6] at hsa
    replace hc6 := Lib.hid hc6
    replace hT6 := Lib.hid hT6
    replace hyx := Lib.hid hyx
    replace hyy := Lib.hid hyy
    clear hW7 hgr7 hcz7 hold7 hv5 hs7 hgw6
    go_wp2_with fail
    refine hsa.mono ?_
    rintro e w8 ⟨rfl, hg8⟩
    have cy0 := hg8.cell cy0 (by simp)
    have cy1 := hg8.cell cy1 (by simp)
    have cy2 := hg8.cell cy2 (by simp)
    have cy3 := hg8.cell cy3 (by simp)
    have hgw8 := grownBy_trans' hgw7 hg8
    have hyx := hyx.out.keep (ok' := fun g => g < w8.heap.size) (fun g h => Nat.lt_of_lt_of_le h hg8.size) (fun g h => hg8.block g h (by simp))
    clear hsa hg8 hgw7
    rcases hcs with h0 | h0 | h0
    · obtain ⟨_, hd, hl, hse⟩ := show_ok (x := .mk so sn sm sk) (by rw [hc6.out]; exact h0)
      subst h0
      have hTt : tl T6 = showE (.mk so sn sm sk) := by rw [← hT6.out, hse]; rfl
      have hTz : T6.size ≤ 4096 := by rw [← tl_len, hTt]; exact hl
      have hpb := parse_ok (parse_show hr5.out hn5 hd) T6 hTt hTz w8
      rw [hst5.out] at hpb
      replace hyx := Lib.hid hyx
      clear hd hl hse hTt hTz
      go_wp2_with fail
      refine hpb.mono ?_
      rintro e w9 ⟨⟨v9, rfl, hv9⟩, hg9⟩
      obtain ⟨zA, zc, rfl, _⟩ := hv9.form
      rw [hSL.out] at hv9 ⊢
      have cy0 := hg9.cell cy0 (by simp)
      have cy1 := hg9.cell cy1 (by simp)
      have cy2 := hg9.cell cy2 (by simp)
      have cy3 := hg9.cell cy3 (by simp)
      have hgw9 := grownBy_trans' hgw8 hg9
      have hyx := Lib.hid (hyx.out.keep (ok' := fun g => g < w9.heap.size) (fun g h => Nat.lt_of_lt_of_le h hg9.size) (fun g h => hg9.block g h (by simp)))
      replace hv9 := Lib.hid hv9
      clear hpb hg9 hgw8
      go_upto_region 18 with fail
      obtain ⟨w10, hW10, hs10, hgr10, hcz10, _, hold10⟩ := one_new w9 #[.string ⟨so.toArray⟩, .int .i64 sn, .string ⟨sm.toArray⟩, .slice zA SL zc] 30
      rw [hW10]
      obtain ⟨y2, hyy2⟩ : ∃ y2, w9.heap.size = y2 := ⟨_, rfl⟩
      rw [hyy2] at hcz10 ⊢
      have cz0 := hcz10 0 _ rfl
      have cz1 := hcz10 1 _ rfl
      have cz2 := hcz10 2 _ rfl
      have cz3 := hcz10 3 _ rfl
      have cy0 := (hgr10 none).cell cy0 (by simp)
      have cy1 := (hgr10 none).cell cy1 (by simp)
      have cy2 := (hgr10 none).cell cy2 (by simp)
      have cy3 := (hgr10 none).cell cy3 (by simp)
      have hgw10 := grownBy_trans' hgw9 (hgr10 none)
      have hyx : ExR w10 (fun g => g < w10.heap.size) (.mk so sn sm sk) (.agg #[.string ⟨so.toArray⟩, .int .i64 sn, .string ⟨sm.toArray⟩, .slice yA SL yc]) := hyx.out.keep (fun g h => by omega) (fun g h => hold10 g h)
      have hzx : ExR w10 (fun g => g < w10.heap.size) (.mk so sn sm sk) (.agg #[.string ⟨so.toArray⟩, .int .i64 sn, .string ⟨sm.toArray⟩, .slice zA SL zc]) := hv9.out.keep (fun g h => by have := h.2; omega) (fun g h => hold10 g h.2)
      replace hyy2 := Lib.hid hyy2
      clear hW10 hgr10 hcz10 hold10 hv9 hs10 hgw9
      go_wp2_with fail
      refine wp_region_last (L := 12) (S := (fun w' : World => w'.cell? ⟨y, 0, none⟩ = some (.string ⟨so.toArray⟩) ∧ w'.cell? ⟨y, 1, none⟩ = some (.int .i64 sn) ∧ w'.cell? ⟨y, 2, none⟩ = some (.string ⟨sm.toArray⟩) ∧ w'.cell? ⟨y, 3, none⟩ = some (.slice yA SL yc) ∧ w'.cell? ⟨y2, 0, none⟩ = some (.string ⟨so.toArray⟩) ∧ w'.cell? ⟨y2, 1, none⟩ = some (.int .i64 sn) ∧ w'.cell? ⟨y2, 2, none⟩ = some (.string ⟨sm.toArray⟩) ∧ w'.cell? ⟨y2, 3, none⟩ = some (.slice zA SL zc))) (by kernel_rfl) ?_
      have hS0 : (fun w' : World => w'.cell? ⟨y, 0, none⟩ = some (.string ⟨so.toArray⟩) ∧ w'.cell? ⟨y, 1, none⟩ = some (.int .i64 sn) ∧ w'.cell? ⟨y, 2, none⟩ = some (.string ⟨sm.toArray⟩) ∧ w'.cell? ⟨y, 3, none⟩ = some (.slice yA SL yc) ∧ w'.cell? ⟨y2, 0, none⟩ = some (.string ⟨so.toArray⟩) ∧ w'.cell? ⟨y2, 1, none⟩ = some (.int .i64 sn) ∧ w'.cell? ⟨y2, 2, none⟩ = some (.string ⟨sm.toArray⟩) ∧ w'.cell? ⟨y2, 3, none⟩ = some (.slice zA SL zc)) w10.drew := ⟨cy0, cy1, cy2, cy3, cz0, cz1, cz2, cz3⟩
      refine wpAnyT_takeT (n := 40) (i := 0) (v := .int .i64 0) rfl (by kernel_rfl) (by kernel_rfl) (by kernel_rfl) (by kernel_rfl) (by kernel_rfl) (fun _ _ _ h => h) (Or.inl ⟨by rfl, ?_⟩) hS0 ?_
      · intro W hW
        obtain ⟨k0, k1, k2, k3, k4, k5, k6, k7⟩ := hW
        clear cy0 cy1 cy2 cy3 cz0 cz1 cz2 cz3 hS0 hyx hzx haw
        go_simp
      try simp only [Act.put, List.setIfInBounds_toArray]
      refine wpAnyT_takeT (n := 40) (i := 1) (v := .bool true) rfl (by kernel_rfl) (by kernel_rfl) (by kernel_rfl) (by kernel_rfl) (by kernel_rfl) (fun _ _ _ h => h) (Or.inl ⟨by rfl, ?_⟩) hS0 ?_
      · intro W hW
        obtain ⟨k0, k1, k2, k3, k4, k5, k6, k7⟩ := hW
        clear cy0 cy1 cy2 cy3 cz0 cz1 cz2 cz3 hS0 hyx hzx haw
        go_simp
      try simp only [Act.put]
      refine wpAnyT_takeT (n := 40) (i := 2) (v := .bool true) rfl (by kernel_rfl) (by kernel_rfl) (by kernel_rfl) (by kernel_rfl) (by kernel_rfl) (fun _ _ _ h => h) (Or.inl ⟨by rfl, ?_⟩) hS0 ?_
      · intro W hW
        obtain ⟨k0, k1, k2, k3, k4, k5, k6, k7⟩ := hW
        clear cy0 cy1 cy2 cy3 cz0 cz1 cz2 cz3 hS0 hyx hzx haw
        go_simp
      try simp only [Act.put]
      refine wpAnyT_takeT (n := 40) (i := 3) (v := .agg #[.string ⟨so.toArray⟩, .int .i64 sn, .string ⟨sm.toArray⟩, .slice zA SL zc]) rfl (by kernel_rfl) (by kernel_rfl) (by kernel_rfl) (by kernel_rfl) (by kernel_rfl) (fun _ _ _ h => h) (Or.inl ⟨by kernel_rfl, ?_⟩) hS0 ?_
      · intro W hW
        obtain ⟨k0, k1, k2, k3, k4, k5, k6, k7⟩ := hW
        clear cy0 cy1 cy2 cy3 cz0 cz1 cz2 cz3 hS0 hyx hzx haw
        go_simp
      try simp only [Act.put]
      refine wpAnyT_takeT (n := 40) (i := 5) (v := .agg #[.string ⟨so.toArray⟩, .int .i64 sn, .string ⟨sm.toArray⟩, .slice yA SL yc]) rfl (by kernel_rfl) (by kernel_rfl) (by kernel_rfl) (by kernel_rfl) (by kernel_rfl) (fun _ _ _ h => h) (Or.inl ⟨by kernel_rfl, ?_⟩) hS0 ?_
      · intro W hW
        obtain ⟨k0, k1, k2, k3, k4, k5, k6, k7⟩ := hW
        clear cy0 cy1 cy2 cy3 cz0 cz1 cz2 cz3 hS0 hyx hzx haw
        go_simp
      try simp only [Act.put]
      clear hS0
      refine wpAnyT_oneG (i := 4) rfl (by kernel_rfl) (by kernel_rfl) ?_
      go_simp
      refine (plain_any (.mk so sn sm sk) (by omega) _ (fun g => g < w10.heap.size) w10.drew (hzx.keep (w := w10) (w' := w10.drew) (fun _ h => h) (fun _ _ => rfl)) (fun _ h => h)).mono ?_
      rintro e v1 ⟨⟨u1, rfl, hu1⟩, hh1⟩
      replace hu1 := hu1.keep (ok' := fun g => g < v1.heap.size) (fun _ h => h.2) (fun _ _ => rfl)
      have gg1 : w10.grownBy v1 none := ⟨hh1.os, hh1.tape, hh1.output, hh1.size, hh1.block⟩
      have cy0 := gg1.cell cy0 (by simp)
      have cy1 := gg1.cell cy1 (by simp)
      have cy2 := gg1.cell cy2 (by simp)
      have cy3 := gg1.cell cy3 (by simp)
      have cz0 := gg1.cell cz0 (by simp)
      have cz1 := gg1.cell cz1 (by simp)
      have cz2 := gg1.cell cz2 (by simp)
      have cz3 := gg1.cell cz3 (by simp)
      replace hyx := hyx.keep (ok' := fun g => g < v1.heap.size) (fun g h => Nat.lt_of_lt_of_le h gg1.size) (fun g h => gg1.block g h (by simp))
      clear hzx hh1
      refine ⟨⟨cy0, cy1, cy2, cy3, cz0, cz1, cz2, cz3⟩, ?_⟩
      refine wpAnyT_oneG (i := 6) rfl (by kernel_rfl) (by kernel_rfl) ?_
      go_simp
      refine (plain_any (.mk so sn sm sk) (by omega) _ (fun g => g < v1.heap.size) v1 hyx (fun _ h => h)).mono ?_
      rintro e v2 ⟨⟨u2, rfl, hu2⟩, hh2⟩
      replace hu2 := hu2.keep (ok' := fun g => g < v2.heap.size) (fun _ h => h.2) (fun _ _ => rfl)
      have gg2 : v1.grownBy v2 none := ⟨hh2.os, hh2.tape, hh2.output, hh2.size, hh2.block⟩
      have cy0 := gg2.cell cy0 (by simp)
      have cy1 := gg2.cell cy1 (by simp)
      have cy2 := gg2.cell cy2 (by simp)
      have cy3 := gg2.cell cy3 (by simp)
      have cz0 := gg2.cell cz0 (by simp)
      have cz1 := gg2.cell cz1 (by simp)
      have cz2 := gg2.cell cz2 (by simp)
      have cz3 := gg2.cell cz3 (by simp)
      replace hu1 := hu1.keep (ok' := fun g => g < v2.heap.size) (fun g h => Nat.lt_of_lt_of_le h gg2.size) (fun g h => gg2.block g h (by simp))
      clear hyx hh2
      refine ⟨⟨cy0, cy1, cy2, cy3, cz0, cz1, cz2, cz3⟩, ?_⟩
      refine wpAnyT_oneG (i := 7) rfl (by kernel_rfl) (by kernel_rfl) ?_
      go_simp
      refine (same_any (.mk so sn sm sk) _ _ (fun g => g < v2.heap.size) v2 hu1 hu2 (fun _ h => h)).mono ?_
      rintro e v3 ⟨rfl, hh3⟩
      have gg3 : v2.grownBy v3 none := ⟨hh3.os, hh3.tape, hh3.output, hh3.size, hh3.block⟩
      have cy0 := gg3.cell cy0 (by simp)
      have cy1 := gg3.cell cy1 (by simp)
      have cy2 := gg3.cell cy2 (by simp)
      have cy3 := gg3.cell cy3 (by simp)
      have cz0 := gg3.cell cz0 (by simp)
      have cz1 := gg3.cell cz1 (by simp)
      have cz2 := gg3.cell cz2 (by simp)
      have cz3 := gg3.cell cz3 (by simp)
      refine ⟨⟨cy0, cy1, cy2, cy3, cz0, cz1, cz2, cz3⟩, ?_⟩
      have hgE := grownBy_trans' (grownBy_trans' (grownBy_trans' hgw10 gg1) gg2) gg3
      have haw3 := haw v3 hgE
      replace hgE := Lib.hid hgE
      clear hu1 hu2 hh3 gg1 gg2 gg3 haw
      refine wpAnyT_one (i := 8) rfl (by kernel_rfl) rfl ?_
      go_simp
      refine wpAnyT_one (i := 9) rfl (by kernel_rfl) rfl ?_
      go_simp
      refine wpAnyT_oneG (i := 10) rfl (by kernel_rfl) (by kernel_rfl) ?_
      go_simp
      refine haw3.mono ?_
      rintro e v4 ⟨rfl, gg4⟩
      have cy0 := gg4.cell cy0 (by simp)
      have cy1 := gg4.cell cy1 (by simp)
      have cy2 := gg4.cell cy2 (by simp)
      have cy3 := gg4.cell cy3 (by simp)
      have cz0 := gg4.cell cz0 (by simp)
      have cz1 := gg4.cell cz1 (by simp)
      have cz2 := gg4.cell cz2 (by simp)
      have cz3 := gg4.cell cz3 (by simp)
      refine ⟨⟨cy0, cy1, cy2, cy3, cz0, cz1, cz2, cz3⟩, ?_⟩
      have hgF := grownBy_trans' hgE.out gg4
      clear haw3 hgE gg4
      refine wpAnyT_one (i := 11) rfl (by kernel_rfl) rfl ?_
      go_simp
      refine wpAnyT_one (i := 12) rfl (by kernel_rfl) rfl ?_
      go_simp
      refine wpAnyT_done (by kernel_rfl) ?_ _
      clear cy0 cy1 cy2 cy3 cz0 cz1 cz2 cz3
      go_wp2
      go_ret
      exact ⟨rfl, hgF⟩
    · subst h0
      have haw8 := haw w8 hgw8
      clear haw cy0 cy1 cy2 cy3
      go_wp2_with fail
      refine haw8.mono ?_
      rintro e w9 ⟨rfl, hg9⟩
      have hgE := grownBy_trans' hgw8 hg9
      go_wp2
      go_ret
      exact ⟨rfl, hgE⟩
    · subst h0
      have haw8 := haw w8 hgw8
      clear haw cy0 cy1 cy2 cy3
      go_wp2_with fail
      refine haw8.mono ?_
      rintro e w9 ⟨rfl, hg9⟩
      have hgE := grownBy_trans' hgw8 hg9
      go_wp2
      go_ret
      exact ⟨rfl, hgE⟩
end Go.Proofs.YtlijlgbaikijnaaGreatDoor
