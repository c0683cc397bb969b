/-
  What a value comes to, by the package: the way of ||. Conditions: each theorem's own.
-/
import Derived.Test.YtlijlgbaikijnaaGreatDoorSmValue3
namespace Go.Proofs.YtlijlgbaikijnaaGreatDoor
open Go Go.RowKit

set_option maxHeartbeats 8000000 in
set_option maxRecDepth 100000 in
theorem value_or (tb n : Nat) (ih : ValSays tb n) (name : List UInt8) (num : Int) (a b : E) (v : Value) (ok : Nat → Prop) (w : World) (ps : List Pr)
    (hx : ExR w ok (.mk [124, 124] num name [a, b]) v) (hc : ValC w tb ok (.mk [124, 124] num name [a, b]) ps) (hda : dpLe n a = true) (hdb : dpLe n b = true) :
    Calls Tryz.prog 43 #[valr tb, v] w (ValR w tb ((valueP n a ps).next fun x qs => if ¬ x = 0 then .ok 1 qs else (valueP n b qs).next fun y rs => .ok (truthI (!(y == 0))) rs)) := by
  obtain ⟨A, cc, rfl, hcc, hcm, hkr⟩ := hx.form
  obtain ⟨g, off, rfl, hgo, hkr⟩ := hkr.resolve_left (by simp)
  obtain ⟨a0, a1, a2, a3, ca0, ca1, ca2, ca3, hka⟩ := hkr.at_ 0 (by simp)
  obtain ⟨b0, b1, b2, b3, cb0, cb1, cb2, cb3, hkb⟩ := hkr.at_ 1 (by simp)
  simp only [List.getElem_cons_zero, List.getElem_cons_succ, Nat.zero_mul, Nat.add_zero, Nat.one_mul] at ca0 ca1 ca2 ca3 cb0 cb1 cb2 cb3 hka hkb
  have iha := kid_says ih hc (by simp : a ∈ [a, b]) hka hda
  have ihb := kid_says ih hc (by simp : b ∈ [a, b]) hkb hdb
  obtain ⟨hgl, hgt⟩ := hc.blk g hgo
  have htb := hc.tab.lt
  have hfew := hc.few
  have hgood := good_val n a ps (by have := hc.num; unfold NumE at this; exact this.2.mem a (by simp)) hc.val
  have ht0 := hc.tab
  have htt := fun bb W => truth_any bb W
  have hnb : NumE b := by have := hc.num; unfold NumE at this; exact this.2.mem b (by simp)
  have hv0 := hc.val
  simp only [sizeE, sizeL] at hfew
  simp only [List.length_cons, List.length_nil, Nat.zero_add, Nat.reduceAdd] at hcc ⊢
  obtain ⟨x, hxx⟩ : ∃ x : ByteArray, (⟨([124, 124] : List UInt8).toArray⟩ : ByteArray) = x := ⟨_, rfl⟩
  have hxt : tl x = [124, 124] := by rw [← hxx]; rfl
  have hxl : x.toList = [124, 124] := by rw [Lib.toList_data]; exact hxt
  have hkd := fun W => kids_any x W
  have has := fun W => assigns_any x W
  rw [hxt] at hkd has
  rw [show kidsV [124, 124] = 2 by decide] at hkd
  rw [show asgV [124, 124] = false by decide] at has
  have g0 : ∀ l, (x.toList == l) = ([124, 124] == l) := fun l => by rw [hxl]
  rw [show (⟨List.toArray [124, 124]⟩ : ByteArray) = x from hxx]
  obtain ⟨r, hr⟩ : ∃ r, valueP n a ps = r := ⟨_, rfl⟩
  have iha := fun W h1 h2 => iha W ps h1 h2 hv0 (by omega)
  rw [hr] at iha hgood ⊢
  obtain ⟨R, hR⟩ : ∃ R, (r.next fun x qs => if ¬ x = 0 then .ok 1 qs else (valueP n b qs).next fun y rs => .ok (truthI (!(y == 0))) rs) = R := ⟨_, rfl⟩
  rw [hR]
  replace hR := Lib.hid hR
  unfold maxLen at hcm
  clear hx hka hkb hkr hr hxx hxt hxl  hc
  unfold valr
  unfold valr at iha ihb
  have i0 : (2 : Int) ≤ (cc : Int) := by omega
  go_enter Tryz.func43, Tryz.ntmps43
  go_upto_region 1 with fail
  obtain ⟨w2, hW2, hs2, hgr, hcz, hcy, hfz, hfy, hold⟩ := two_new w #[.iface 41 (.pointer (some ⟨tb, 0, none⟩))] #[.string x, .int .i64 num, .string ⟨name.toArray⟩, .slice (some ⟨g, off, none⟩) 2 cc] 91 30
  rw [hW2]
  obtain ⟨z, hz⟩ : ∃ z, w.heap.size = z := ⟨_, rfl⟩
  rw [hz] at hcz hcy hs2 ⊢
  have q0 := hcz 0 _ rfl
  have q1 := hcy 0 _ rfl
  have q2 := hcy 1 _ rfl
  have q3 := hcy 2 _ rfl
  have q4 := hcy 3 _ rfl
  have hblk := hold g hgl
  have q5 := (World.cell?_of_block (a := ⟨g, off, none⟩) hblk).trans ca0
  have q6 := (World.cell?_of_block (a := ⟨g, off + 1, none⟩) hblk).trans ca1
  have q7 := (World.cell?_of_block (a := ⟨g, off + 2, none⟩) hblk).trans ca2
  have q8 := (World.cell?_of_block (a := ⟨g, off + 3, none⟩) hblk).trans ca3
  have q9 := (World.cell?_of_block (a := ⟨g, off + 4, none⟩) hblk).trans cb0
  have q10 := (World.cell?_of_block (a := ⟨g, off + 4 + 1, none⟩) hblk).trans cb1
  have q11 := (World.cell?_of_block (a := ⟨g, off + 4 + 2, none⟩) hblk).trans cb2
  have q12 := (World.cell?_of_block (a := ⟨g, off + 4 + 3, none⟩) hblk).trans cb3
  have hg2 := hgr none
  have hz := Lib.hid hz
  clear hW2 hgr hcz hcy hfz hfy hold hblk ca0 ca1 ca2 ca3 cb0 cb1 cb2 cb3
  go_quiet ((go_at_call 61; refine Calls.quiet_of_same (hkd _)))
  go_wp2_with (go_at_call 62; refine (has _).mono ?_; rintro e wq ⟨rfl, rfl⟩)
  refine wp_region_last (L := 6) (S := (fun w' : World => w'.cell? ⟨z, 0, none⟩ = some (.iface 41 (.pointer (some ⟨tb, 0, none⟩))) ∧ w'.cell? ⟨z + 1, 0, none⟩ = some (.string x) ∧ w'.cell? ⟨z + 1, 1, none⟩ = some (.int .i64 num) ∧ w'.cell? ⟨z + 1, 2, none⟩ = some (.string ⟨name.toArray⟩) ∧ w'.cell? ⟨z + 1, 3, none⟩ = some (.slice (some ⟨g, off, none⟩) 2 cc) ∧ w'.cell? ⟨g, off, none⟩ = some (a0) ∧ w'.cell? ⟨g, off + 1, none⟩ = some (a1) ∧ w'.cell? ⟨g, off + 2, none⟩ = some (a2) ∧ w'.cell? ⟨g, off + 3, none⟩ = some (a3))) (by kernel_rfl) ?_
  have hS0 : (fun w' : World => w'.cell? ⟨z, 0, none⟩ = some (.iface 41 (.pointer (some ⟨tb, 0, none⟩))) ∧ w'.cell? ⟨z + 1, 0, none⟩ = some (.string x) ∧ w'.cell? ⟨z + 1, 1, none⟩ = some (.int .i64 num) ∧ w'.cell? ⟨z + 1, 2, none⟩ = some (.string ⟨name.toArray⟩) ∧ w'.cell? ⟨z + 1, 3, none⟩ = some (.slice (some ⟨g, off, none⟩) 2 cc) ∧ w'.cell? ⟨g, off, none⟩ = some (a0) ∧ w'.cell? ⟨g, off + 1, none⟩ = some (a1) ∧ w'.cell? ⟨g, off + 2, none⟩ = some (a2) ∧ w'.cell? ⟨g, off + 3, none⟩ = some (a3)) (w2.drewN nq).drew := ⟨q0, q1, q2, q3, q4, q5, q6, q7, q8⟩
  refine wpAnyT_takeT (n := 40) (i := 0) (v := .agg #[.iface 41 (.pointer (some ⟨tb, 0, none⟩))]) rfl (by kernel_rfl) (by kernel_rfl) (by kernel_rfl) (by kernel_rfl) (by kernel_rfl) (fun _ _ _ h => h) (Or.inl ⟨by rfl, ?_⟩) hS0 ?_
  · intro W hW
    obtain ⟨k0, k1, k2, k3, k4, k5, k6, k7, k8⟩ := hW
    clear hS0 iha ihb q0 q1 q2 q3 q4 q5 q6 q7 q8 q9 q10 q11 q12
    go_simp
    try (intro hx; exfalso; omega)
  try simp only [Act.put, List.setIfInBounds_toArray]
  refine wpAnyT_takeT (n := 40) (i := 1) (v := .pointer (some ⟨z + 1, 3, none⟩)) rfl (by kernel_rfl) (by kernel_rfl) (by kernel_rfl) (by kernel_rfl) (by kernel_rfl) (fun _ _ _ h => h) (Or.inl ⟨by rfl, ?_⟩) hS0 ?_
  · intro W hW
    obtain ⟨k0, k1, k2, k3, k4, k5, k6, k7, k8⟩ := hW
    clear hS0 iha ihb q0 q1 q2 q3 q4 q5 q6 q7 q8 q9 q10 q11 q12
    go_simp
    try (intro hx; exfalso; omega)
  try simp only [Act.put]
  refine wpAnyT_takeT (n := 40) (i := 2) (v := .slice (some ⟨g, off, none⟩) 2 cc) rfl (by kernel_rfl) (by kernel_rfl) (by kernel_rfl) (by kernel_rfl) (by kernel_rfl) (fun _ _ _ h => h) (Or.inl ⟨by rfl, ?_⟩) hS0 ?_
  · intro W hW
    obtain ⟨k0, k1, k2, k3, k4, k5, k6, k7, k8⟩ := hW
    clear hS0 iha ihb q0 q1 q2 q3 q4 q5 q6 q7 q8 q9 q10 q11 q12
    go_simp
    try (intro hx; exfalso; omega)
  try simp only [Act.put]
  refine wpAnyT_takeT (n := 40) (i := 3) (v := .pointer (some ⟨g, off, none⟩)) rfl (by kernel_rfl) (by kernel_rfl) (by kernel_rfl) (by kernel_rfl) (by kernel_rfl) (fun _ _ _ h => h) (Or.inl ⟨by rfl, ?_⟩) hS0 ?_
  · intro W hW
    obtain ⟨k0, k1, k2, k3, k4, k5, k6, k7, k8⟩ := hW
    clear hS0 iha ihb q0 q1 q2 q3 q4 q5 q6 q7 q8 q9 q10 q11 q12
    go_simp
    try (intro hx; exfalso; omega)
  try simp only [Act.put]
  refine wpAnyT_takeT (n := 40) (i := 4) (v := .agg #[a0, a1, a2, a3]) rfl (by kernel_rfl) (by kernel_rfl) (by kernel_rfl) (by kernel_rfl) (by kernel_rfl) (fun _ _ _ h => h) (Or.inl ⟨by rfl, ?_⟩) hS0 ?_
  · intro W hW
    obtain ⟨k0, k1, k2, k3, k4, k5, k6, k7, k8⟩ := hW
    clear hS0 iha ihb q0 q1 q2 q3 q4 q5 q6 q7 q8 q9 q10 q11 q12
    go_simp
    try (intro hx; exfalso; omega)
  try simp only [Act.put]
  clear hS0
  refine wpAnyT_one (i := 5) rfl (by kernel_rfl) rfl ?_
  go_simp
  have hg3 : w.grownBy (w2.drewN nq).drew none := ⟨hg2.os, hg2.tape, hg2.output, hg2.size, hg2.block⟩
  refine (iha _ (grow_some hg3 tb) (ht0.keep hg3)).mono ?_
  intro e w6 h
  cases r with
  | no c1 qs =>
    obtain ⟨rfl, ht6, hg6⟩ := h
    replace hR := hR.out
    simp only [VRes.next] at hR
    subst hR
    exact ⟨rfl, rfl, ht6, grownBy_trans' (grow_some hg3 tb) hg6⟩
  | ok m qs =>
    obtain ⟨rfl, ht6, hg6⟩ := h
    have hg36 : w2.grownBy w6 (some tb) := ⟨hg6.os, hg6.tape, hg6.output, hg6.size, hg6.block⟩
    have hgE := grownBy_trans' (grow_some hg3 tb) hg6
    obtain ⟨hvq, hlq, _⟩ := hgood
    simp only [VRes.tab] at ht6 hvq hlq
    have hvq := Lib.hid hvq
    have ht6 := Lib.hid ht6
    have q0 := cell_grown q0 hg36 (by have := hz.out; omega)
    have q1 := cell_grown q1 hg36 (by have := hz.out; omega)
    have q2 := cell_grown q2 hg36 (by have := hz.out; omega)
    have q3 := cell_grown q3 hg36 (by have := hz.out; omega)
    have q4 := cell_grown q4 hg36 (by have := hz.out; omega)
    have q5 := cell_grown q5 hg36 hgt
    have q6 := cell_grown q6 hg36 hgt
    have q7 := cell_grown q7 hg36 hgt
    have q8 := cell_grown q8 hg36 hgt
    have q9 := cell_grown q9 hg36 hgt
    have q10 := cell_grown q10 hg36 hgt
    have q11 := cell_grown q11 hg36 hgt
    have q12 := cell_grown q12 hg36 hgt
    refine ⟨⟨q0, q1, q2, q3, q4, q5, q6, q7, q8⟩, ?_⟩
    refine wpAnyT_one (i := 6) rfl (by kernel_rfl) rfl ?_
    go_simp
    refine wpAnyT_done (by kernel_rfl) ?_ _
    clear iha hkd hg3 hg36 hg6
    replace hR := hR.out
    simp only [VRes.next] at hR
    by_cases hm : m = 0
    · rw [if_neg (by simpa using hm)] at hR
      subst hm
      replace hR := Lib.hid hR
      go_wp2_with fail
      refine wp_region_last (L := 12) (S := (fun w' : World => w'.cell? ⟨z, 0, none⟩ = some (.iface 41 (.pointer (some ⟨tb, 0, none⟩))) ∧ w'.cell? ⟨z + 1, 0, none⟩ = some (.string x) ∧ w'.cell? ⟨z + 1, 1, none⟩ = some (.int .i64 num) ∧ w'.cell? ⟨z + 1, 2, none⟩ = some (.string ⟨name.toArray⟩) ∧ w'.cell? ⟨z + 1, 3, none⟩ = some (.slice (some ⟨g, off, none⟩) 2 cc) ∧ w'.cell? ⟨g, off + 4, none⟩ = some (b0) ∧ w'.cell? ⟨g, off + 4 + 1, none⟩ = some (b1) ∧ w'.cell? ⟨g, off + 4 + 2, none⟩ = some (b2) ∧ w'.cell? ⟨g, off + 4 + 3, none⟩ = some (b3))) (by kernel_rfl) ?_
      have hS0 : (fun w' : World => w'.cell? ⟨z, 0, none⟩ = some (.iface 41 (.pointer (some ⟨tb, 0, none⟩))) ∧ w'.cell? ⟨z + 1, 0, none⟩ = some (.string x) ∧ w'.cell? ⟨z + 1, 1, none⟩ = some (.int .i64 num) ∧ w'.cell? ⟨z + 1, 2, none⟩ = some (.string ⟨name.toArray⟩) ∧ w'.cell? ⟨z + 1, 3, none⟩ = some (.slice (some ⟨g, off, none⟩) 2 cc) ∧ w'.cell? ⟨g, off + 4, none⟩ = some (b0) ∧ w'.cell? ⟨g, off + 4 + 1, none⟩ = some (b1) ∧ w'.cell? ⟨g, off + 4 + 2, none⟩ = some (b2) ∧ w'.cell? ⟨g, off + 4 + 3, none⟩ = some (b3)) w6.drew := ⟨q0, q1, q2, q3, q4, q9, q10, q11, q12⟩
      refine wpAnyT_takeT (n := 40) (i := 0) (v := .int .i64 0) rfl (by kernel_rfl) (by kernel_rfl) (by kernel_rfl) (by kernel_rfl) (by kernel_rfl) (fun _ _ _ h => h) (Or.inl ⟨by kernel_rfl, ?_⟩) hS0 ?_
      · intro W hW
        obtain ⟨k0, k1, k2, k3, k4, k5, k6, k7, k8⟩ := hW
        clear hS0 ihb q0 q1 q2 q3 q4 q5 q6 q7 q8 q9 q10 q11 q12
        go_simp
        try (intro hx; exfalso; omega)
      try simp only [Act.put, List.setIfInBounds_toArray]
      refine wpAnyT_takeT (n := 40) (i := 1) (v := .bool false) rfl (by kernel_rfl) (by kernel_rfl) (by kernel_rfl) (by kernel_rfl) (by kernel_rfl) (fun _ _ _ h => h) (Or.inl ⟨by kernel_rfl, ?_⟩) hS0 ?_
      · intro W hW
        obtain ⟨k0, k1, k2, k3, k4, k5, k6, k7, k8⟩ := hW
        clear hS0 ihb q0 q1 q2 q3 q4 q5 q6 q7 q8 q9 q10 q11 q12
        go_simp
        try (intro hx; exfalso; omega)
      try simp only [Act.put]
      refine wpAnyT_takeT (n := 40) (i := 2) (v := .bool false) rfl (by kernel_rfl) (by kernel_rfl) (by kernel_rfl) (by kernel_rfl) (by kernel_rfl) (fun _ _ _ h => h) (Or.inl ⟨by kernel_rfl, ?_⟩) hS0 ?_
      · intro W hW
        obtain ⟨k0, k1, k2, k3, k4, k5, k6, k7, k8⟩ := hW
        clear hS0 ihb q0 q1 q2 q3 q4 q5 q6 q7 q8 q9 q10 q11 q12
        go_simp
        try (intro hx; exfalso; omega)
      try simp only [Act.put]
      refine wpAnyT_takeT (n := 40) (i := 3) (v := .agg #[.iface 41 (.pointer (some ⟨tb, 0, none⟩))]) rfl (by kernel_rfl) (by kernel_rfl) (by kernel_rfl) (by kernel_rfl) (by kernel_rfl) (fun _ _ _ h => h) (Or.inl ⟨by kernel_rfl, ?_⟩) hS0 ?_
      · intro W hW
        obtain ⟨k0, k1, k2, k3, k4, k5, k6, k7, k8⟩ := hW
        clear hS0 ihb q0 q1 q2 q3 q4 q5 q6 q7 q8 q9 q10 q11 q12
        go_simp
        try (intro hx; exfalso; omega)
      try simp only [Act.put]
      refine wpAnyT_takeT (n := 40) (i := 4) (v := .pointer (some ⟨z + 1, 3, none⟩)) rfl (by kernel_rfl) (by kernel_rfl) (by kernel_rfl) (by kernel_rfl) (by kernel_rfl) (fun _ _ _ h => h) (Or.inl ⟨by kernel_rfl, ?_⟩) hS0 ?_
      · intro W hW
        obtain ⟨k0, k1, k2, k3, k4, k5, k6, k7, k8⟩ := hW
        clear hS0 ihb q0 q1 q2 q3 q4 q5 q6 q7 q8 q9 q10 q11 q12
        go_simp
        try (intro hx; exfalso; omega)
      try simp only [Act.put]
      refine wpAnyT_takeT (n := 40) (i := 5) (v := .slice (some ⟨g, off, none⟩) 2 cc) rfl (by kernel_rfl) (by kernel_rfl) (by kernel_rfl) (by kernel_rfl) (by kernel_rfl) (fun _ _ _ h => h) (Or.inl ⟨by kernel_rfl, ?_⟩) hS0 ?_
      · intro W hW
        obtain ⟨k0, k1, k2, k3, k4, k5, k6, k7, k8⟩ := hW
        clear hS0 ihb q0 q1 q2 q3 q4 q5 q6 q7 q8 q9 q10 q11 q12
        go_simp
        try (intro hx; exfalso; omega)
      try simp only [Act.put]
      refine wpAnyT_takeT (n := 40) (i := 6) (v := .pointer (some ⟨g, off + 4, none⟩)) rfl (by kernel_rfl) (by kernel_rfl) (by kernel_rfl) (by kernel_rfl) (by kernel_rfl) (fun _ _ _ h => h) (Or.inl ⟨by kernel_rfl, ?_⟩) hS0 ?_
      · intro W hW
        obtain ⟨k0, k1, k2, k3, k4, k5, k6, k7, k8⟩ := hW
        clear hS0 ihb q0 q1 q2 q3 q4 q5 q6 q7 q8 q9 q10 q11 q12
        go_simp
        try (intro hx; exfalso; omega)
      try simp only [Act.put]
      refine wpAnyT_takeT (n := 40) (i := 7) (v := .agg #[b0, b1, b2, b3]) rfl (by kernel_rfl) (by kernel_rfl) (by kernel_rfl) (by kernel_rfl) (by kernel_rfl) (fun _ _ _ h => h) (Or.inl ⟨by kernel_rfl, ?_⟩) hS0 ?_
      · intro W hW
        obtain ⟨k0, k1, k2, k3, k4, k5, k6, k7, k8⟩ := hW
        clear hS0 ihb q0 q1 q2 q3 q4 q5 q6 q7 q8 q9 q10 q11 q12
        go_simp
        try (intro hx; exfalso; omega)
      try simp only [Act.put]
      clear hS0
      refine wpAnyT_oneG (i := 8) rfl (by kernel_rfl) (by kernel_rfl) ?_
      go_simp
      have hg6d : w.grownBy w6.drew (some tb) := ⟨hgE.os, hgE.tape, hgE.output, hgE.size, hgE.block⟩
      refine (ihb _ qs hg6d ⟨ht6.out.cell, ht6.out.fz, ht6.out.ty⟩ hvq.out (by omega)).mono ?_
      intro e w7 h
      obtain ⟨r2, hr2⟩ : ∃ r2, valueP n b qs = r2 := ⟨_, rfl⟩
      rw [hr2] at h
      have hgood2 := good_val n b qs hnb hvq.out
      rw [hr2] at hgood2
      replace hR := hR.out
      rw [hr2] at hR
      cases r2 with
      | no c1 rs =>
        obtain ⟨rfl, ht7, hg7⟩ := h
        simp only [] at hR
        subst hR
        exact ⟨rfl, rfl, ht7, grownBy_trans' hg6d hg7⟩
      | ok y rs =>
        obtain ⟨rfl, ht7, hg7⟩ := h
        simp only [] at hR
        have hg67 : w6.grownBy w7 (some tb) := ⟨hg7.os, hg7.tape, hg7.output, hg7.size, hg7.block⟩
        have hgF := grownBy_trans' hg6d hg7
        have q0 := cell_grown q0 hg67 (by have := hz.out; omega)
        have q1 := cell_grown q1 hg67 (by have := hz.out; omega)
        have q2 := cell_grown q2 hg67 (by have := hz.out; omega)
        have q3 := cell_grown q3 hg67 (by have := hz.out; omega)
        have q4 := cell_grown q4 hg67 (by have := hz.out; omega)
        have q9 := cell_grown q9 hg67 hgt
        have q10 := cell_grown q10 hg67 hgt
        have q11 := cell_grown q11 hg67 hgt
        have q12 := cell_grown q12 hg67 hgt
        subst hR
        refine ⟨⟨q0, q1, q2, q3, q4, q9, q10, q11, q12⟩, ?_⟩
        refine wpAnyT_oneG (i := 9) rfl (by kernel_rfl) (by kernel_rfl) ?_
        go_simp
        try (refine ⟨⟨q0, q1, q2, q3, q4, q9, q10, q11, q12⟩, ?_⟩)
        refine wpAnyT_one (i := 10) rfl (by kernel_rfl) rfl ?_
        go_simp
        try (refine ⟨⟨q0, q1, q2, q3, q4, q9, q10, q11, q12⟩, ?_⟩)
        refine wpAnyT_one (i := 11) rfl (by kernel_rfl) rfl ?_
        go_simp
        refine (htt _ _).mono ?_
        rintro e wq ⟨rfl, rfl⟩
        refine ⟨⟨q0, q1, q2, q3, q4, q9, q10, q11, q12⟩, ?_⟩
        refine wpAnyT_one (i := 12) rfl (by kernel_rfl) rfl ?_
        go_simp
        refine wpAnyT_done (by kernel_rfl) ?_ _
        clear ihb htt q0 q1 q2 q3 q4 q5 q6 q7 q8 q9 q10 q11 q12
        go_wp2
        go_ret
        exact ⟨rfl, ht7, hgF⟩
    · rw [if_pos hm] at hR
      replace hR := Lib.hid hR
      have hm0 : (m == 0) = false := by simpa using hm
      have hm1 : (!(m == 0)) = true := by rw [hm0]; rfl
      go_wp2_with fail
      refine wp_region_last (L := 12) (S := (fun w' : World => w'.cell? ⟨z, 0, none⟩ = some (.iface 41 (.pointer (some ⟨tb, 0, none⟩))) ∧ w'.cell? ⟨z + 1, 0, none⟩ = some (.string x) ∧ w'.cell? ⟨z + 1, 1, none⟩ = some (.int .i64 num) ∧ w'.cell? ⟨z + 1, 2, none⟩ = some (.string ⟨name.toArray⟩) ∧ w'.cell? ⟨z + 1, 3, none⟩ = some (.slice (some ⟨g, off, none⟩) 2 cc) ∧ w'.cell? ⟨g, off + 4, none⟩ = some (b0) ∧ w'.cell? ⟨g, off + 4 + 1, none⟩ = some (b1) ∧ w'.cell? ⟨g, off + 4 + 2, none⟩ = some (b2) ∧ w'.cell? ⟨g, off + 4 + 3, none⟩ = some (b3))) (by kernel_rfl) ?_
      have hS0 : (fun w' : World => w'.cell? ⟨z, 0, none⟩ = some (.iface 41 (.pointer (some ⟨tb, 0, none⟩))) ∧ w'.cell? ⟨z + 1, 0, none⟩ = some (.string x) ∧ w'.cell? ⟨z + 1, 1, none⟩ = some (.int .i64 num) ∧ w'.cell? ⟨z + 1, 2, none⟩ = some (.string ⟨name.toArray⟩) ∧ w'.cell? ⟨z + 1, 3, none⟩ = some (.slice (some ⟨g, off, none⟩) 2 cc) ∧ w'.cell? ⟨g, off + 4, none⟩ = some (b0) ∧ w'.cell? ⟨g, off + 4 + 1, none⟩ = some (b1) ∧ w'.cell? ⟨g, off + 4 + 2, none⟩ = some (b2) ∧ w'.cell? ⟨g, off + 4 + 3, none⟩ = some (b3)) w6.drew := ⟨q0, q1, q2, q3, q4, q9, q10, q11, q12⟩
      refine wpAnyT_takeT (n := 40) (i := 0) (v := .int .i64 m) rfl (by kernel_rfl) (by kernel_rfl) (by kernel_rfl) (by kernel_rfl) (by kernel_rfl) (fun _ _ _ h => h) (Or.inl ⟨by rfl, ?_⟩) hS0 ?_
      · intro W hW
        obtain ⟨k0, k1, k2, k3, k4, k5, k6, k7, k8⟩ := hW
        clear hS0 ihb q0 q1 q2 q3 q4 q5 q6 q7 q8 q9 q10 q11 q12
        go_simp
        try (intro hx; exfalso; omega)
      try simp only [Act.put, List.setIfInBounds_toArray]
      refine wpAnyT_takeT (n := 40) (i := 1) (v := .bool true) rfl (by kernel_rfl) (by kernel_rfl) (by kernel_rfl) (by kernel_rfl) (by kernel_rfl) (fun _ _ _ h => h) (Or.inl ⟨by rfl, ?_⟩) hS0 ?_
      · intro W hW
        obtain ⟨k0, k1, k2, k3, k4, k5, k6, k7, k8⟩ := hW
        clear hS0 ihb q0 q1 q2 q3 q4 q5 q6 q7 q8 q9 q10 q11 q12
        go_simp
        try (intro hx; exfalso; omega)
      try simp only [Act.put]
      refine wpAnyT_takeT (n := 40) (i := 2) (v := .bool true) rfl (by kernel_rfl) (by kernel_rfl) (by kernel_rfl) (by kernel_rfl) (by kernel_rfl) (fun _ _ _ h => h) (Or.inl ⟨by rfl, ?_⟩) hS0 ?_
      · intro W hW
        obtain ⟨k0, k1, k2, k3, k4, k5, k6, k7, k8⟩ := hW
        clear hS0 ihb q0 q1 q2 q3 q4 q5 q6 q7 q8 q9 q10 q11 q12
        go_simp
        try (intro hx; exfalso; omega)
      try simp only [Act.put]
      refine wpAnyT_takeT (n := 40) (i := 3) (v := undef) rfl (by kernel_rfl) (by kernel_rfl) (by kernel_rfl) (by kernel_rfl) (by kernel_rfl) (fun _ _ _ h => h) (Or.inr ⟨by kernel_rfl, rfl⟩) hS0 ?_
      try simp only [Act.put]
      refine wpAnyT_takeT (n := 40) (i := 4) (v := undef) rfl (by kernel_rfl) (by kernel_rfl) (by kernel_rfl) (by kernel_rfl) (by kernel_rfl) (fun _ _ _ h => h) (Or.inr ⟨by kernel_rfl, rfl⟩) hS0 ?_
      try simp only [Act.put]
      refine wpAnyT_takeT (n := 40) (i := 5) (v := undef) rfl (by kernel_rfl) (by kernel_rfl) (by kernel_rfl) (by kernel_rfl) (by kernel_rfl) (fun _ _ _ h => h) (Or.inr ⟨by kernel_rfl, rfl⟩) hS0 ?_
      try simp only [Act.put]
      refine wpAnyT_takeT (n := 40) (i := 6) (v := undef) rfl (by kernel_rfl) (by kernel_rfl) (by kernel_rfl) (by kernel_rfl) (by kernel_rfl) (fun _ _ _ h => h) (Or.inr ⟨by kernel_rfl, rfl⟩) hS0 ?_
      try simp only [Act.put]
      refine wpAnyT_takeT (n := 40) (i := 7) (v := undef) rfl (by kernel_rfl) (by kernel_rfl) (by kernel_rfl) (by kernel_rfl) (by kernel_rfl) (fun _ _ _ h => h) (Or.inr ⟨by kernel_rfl, rfl⟩) hS0 ?_
      try simp only [Act.put]
      refine wpAnyT_takeT (n := 40) (i := 8) (v := undef) rfl (by kernel_rfl) (by kernel_rfl) (by kernel_rfl) (by kernel_rfl) (by kernel_rfl) (fun _ _ _ h => h) (Or.inr ⟨by kernel_rfl, rfl⟩) hS0 ?_
      try simp only [Act.put]
      refine wpAnyT_takeT (n := 40) (i := 9) (v := undef) rfl (by kernel_rfl) (by kernel_rfl) (by kernel_rfl) (by kernel_rfl) (by kernel_rfl) (fun _ _ _ h => h) (Or.inr ⟨by kernel_rfl, rfl⟩) hS0 ?_
      try simp only [Act.put]
      refine wpAnyT_takeT (n := 40) (i := 10) (v := .bool true) rfl (by kernel_rfl) (by kernel_rfl) (by kernel_rfl) (by kernel_rfl) (by kernel_rfl) (fun _ _ _ h => h) (Or.inl ⟨by rfl, ?_⟩) hS0 ?_
      · intro W hW
        obtain ⟨k0, k1, k2, k3, k4, k5, k6, k7, k8⟩ := hW
        clear hS0 ihb q0 q1 q2 q3 q4 q5 q6 q7 q8 q9 q10 q11 q12
        go_simp
        try (intro hx; exfalso; omega)
      try simp only [Act.put]
      clear hS0
      refine wpAnyT_one (i := 11) rfl (by kernel_rfl) rfl ?_
      go_simp
      refine (htt _ _).mono ?_
      rintro e wq ⟨rfl, rfl⟩
      refine ⟨⟨q0, q1, q2, q3, q4, q9, q10, q11, q12⟩, ?_⟩
      refine wpAnyT_one (i := 12) rfl (by kernel_rfl) rfl ?_
      go_simp
      refine wpAnyT_done (by kernel_rfl) ?_ _
      replace hR := hR.out
      subst hR
      clear ihb htt q0 q1 q2 q3 q4 q5 q6 q7 q8 q9 q10 q11 q12
      go_wp2
      go_ret
      exact ⟨rfl, ⟨ht6.out.cell, ht6.out.fz, ht6.out.ty⟩, ⟨hgE.os, hgE.tape, hgE.output, hgE.size, hgE.block⟩⟩
end Go.Proofs.YtlijlgbaikijnaaGreatDoor
