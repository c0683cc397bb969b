/-
  What an assignment comes to, by the package. Conditions: each theorem's own.
  What an assignment with a mark ahead of the = comes to, by the package. Conditions: each theorem's own.
-/
import Derived.Test.YtlijlgbaikijnaaGreatDoorSmValue3
namespace Go.Proofs.YtlijlgbaikijnaaGreatDoor
open Go Go.RowKit

theorem asg_len {m : List UInt8} (h : asgV m = true) : m.length ≤ 3 := by
  unfold asgV at h
  repeat' (split at h; · rename_i h1; rw [beq_iff_eq] at h1; subst h1; decide)
  cases h

set_option maxHeartbeats 8000000 in
set_option maxRecDepth 100000 in
theorem assign_plain (tb n : Nat) (ih : ValSays tb n) (op name : List UInt8) (num : Int) (k : E) (v : Value) (ok : Nat → Prop) (w : World) (ps : List Pr)
    (hx : ExR w ok (.mk op num name [k]) v) (hc : ValC w tb ok (.mk op num name [k]) ps) (hd : dpLe n k = true) (hA : asgV op = true) (hm : Lib.trimSuffix op [61] = []) :
    Calls Tryz.prog 70 #[valr tb, v] w (ValR w tb ((valueP n k ps).next fun v qs => setR qs name v)) := by
  obtain ⟨A, cc, rfl, hcc, hcm, hkr⟩ := hx.form
  obtain ⟨g, off, rfl, hgo, hkr⟩ := hkr.resolve_left (by simp)
  obtain ⟨a0, a1, a2, a3, ca0, ca1, ca2, ca3, hka⟩ := hkr.at_ 0 (by simp)
  simp only [List.getElem_cons_zero, Nat.zero_mul, Nat.add_zero] at ca0 ca1 ca2 ca3 hka
  have iha := kid_says ih hc (by simp : k ∈ [k]) hka hd
  obtain ⟨hgl, hgt⟩ := hc.blk g hgo
  have htb := hc.tab.lt
  have hfew := hc.few
  have hnk : NumE k := by have := hc.num; unfold NumE at this; exact this.2.mem k (by simp)
  have hgood := fun qs h => good_val n k qs hnk h
  have ht0 := hc.tab
  have hv0 := Lib.hid hc.val
  have hpow := Lib.hid hc.pow
  simp only [sizeE, sizeL] at hfew
  simp only [List.length_cons, List.length_nil, Nat.zero_add] at hcc ⊢
  obtain ⟨x, hxx⟩ : ∃ x : ByteArray, (⟨op.toArray⟩ : ByteArray) = x := ⟨_, rfl⟩
  obtain ⟨nx, hnx⟩ : ∃ nx : ByteArray, (⟨name.toArray⟩ : ByteArray) = nx := ⟨_, rfl⟩
  have hxs : x.size = op.length := by rw [← hxx]; simp [ByteArray.size]
  have hol := asg_len hA
  have hms := fun W => method_set ⟨tb, 0, none⟩ W
  have hth := fun W => throw_any 26 0 W
  have htr := fun W => Tryz.strings_TrimSuffix x ⟨#[61]⟩ W (by omega)
  rw [show x.data.toList = op by rw [← hxx]] at htr
  rw [show (⟨#[61]⟩ : ByteArray).data.toList = [61] from rfl] at htr
  obtain ⟨M, hM⟩ : ∃ M, Lib.trimSuffix op [61] = M := ⟨_, rfl⟩
  rw [hM] at htr
  rw [hM] at hm
  obtain ⟨R, hR⟩ : ∃ R, ((valueP n k ps).next fun v qs => setR qs name v) = R := ⟨_, rfl⟩
  have hnm : nmB name = nx := by rw [← hnx]; rfl
  rw [hR]
  rw [hxx, hnx]
  unfold setR at hR
  rw [hnm] at hR
  subst hm
  replace hR := Lib.hid hR
  unfold maxLen at hcm
  clear hx hka hkr ih hd hc hM hnm hxs  hxx hnx
  unfold valr
  unfold valr at iha 
  have i0 : (1 : Int) ≤ (cc : Int) := by omega
  go_enter Tryz.func70, Tryz.ntmps70
  go_upto_region 1 with fail
  obtain ⟨w2, hW2, hs2, hgr, hcz, hcy, hfz, hfy, hold⟩ := two_new w #[.iface 41 (.pointer (some ⟨tb, 0, none⟩))] #[.string x, .int .i64 num, .string nx, .slice (some ⟨g, off, none⟩) 1 cc] 91 30
  rw [hW2]
  obtain ⟨z, hz⟩ : ∃ z, w.heap.size = z := ⟨_, rfl⟩
  rw [hz] at hcz hcy hs2 ⊢
  have q0 := hcz 0 _ rfl
  have q1 := hcy 0 _ rfl
  have q2 := hcy 1 _ rfl
  have q3 := hcy 2 _ rfl
  have q4 := hcy 3 _ rfl
  have hblk := hold g hgl
  have q5 := (World.cell?_of_block (a := ⟨g, off, none⟩) hblk).trans ca0
  have q6 := (World.cell?_of_block (a := ⟨g, off + 1, none⟩) hblk).trans ca1
  have q7 := (World.cell?_of_block (a := ⟨g, off + 2, none⟩) hblk).trans ca2
  have q8 := (World.cell?_of_block (a := ⟨g, off + 3, none⟩) hblk).trans ca3
  have hg2 := hgr none
  have hz := Lib.hid hz
  clear hW2 hgr hcz hcy hfz hfy hold hblk ca0 ca1 ca2 ca3
  go_wp2_with (go_at_call 98; refine (htr _).mono ?_; rintro e wq ⟨rfl, hwq⟩; obtain rfl := hwq.symm)
  refine wp_region_last (L := 6) (S := (fun w' : World => w'.cell? ⟨z, 0, none⟩ = some (.iface 41 (.pointer (some ⟨tb, 0, none⟩))) ∧ w'.cell? ⟨z + 1, 0, none⟩ = some (.string x) ∧ w'.cell? ⟨z + 1, 1, none⟩ = some (.int .i64 num) ∧ w'.cell? ⟨z + 1, 2, none⟩ = some (.string nx) ∧ w'.cell? ⟨z + 1, 3, none⟩ = some (.slice (some ⟨g, off, none⟩) 1 cc) ∧ w'.cell? ⟨g, off, none⟩ = some (a0) ∧ w'.cell? ⟨g, off + 1, none⟩ = some (a1) ∧ w'.cell? ⟨g, off + 2, none⟩ = some (a2) ∧ w'.cell? ⟨g, off + 3, none⟩ = some (a3))) (by kernel_rfl) ?_
  have hS0 : (fun w' : World => w'.cell? ⟨z, 0, none⟩ = some (.iface 41 (.pointer (some ⟨tb, 0, none⟩))) ∧ w'.cell? ⟨z + 1, 0, none⟩ = some (.string x) ∧ w'.cell? ⟨z + 1, 1, none⟩ = some (.int .i64 num) ∧ w'.cell? ⟨z + 1, 2, none⟩ = some (.string nx) ∧ w'.cell? ⟨z + 1, 3, none⟩ = some (.slice (some ⟨g, off, none⟩) 1 cc) ∧ w'.cell? ⟨g, off, none⟩ = some (a0) ∧ w'.cell? ⟨g, off + 1, none⟩ = some (a1) ∧ w'.cell? ⟨g, off + 2, none⟩ = some (a2) ∧ w'.cell? ⟨g, off + 3, none⟩ = some (a3)) w2.drew := ⟨q0, q1, q2, q3, q4, q5, q6, q7, q8⟩
  refine wpAnyT_takeT (n := 40) (i := 0) (v := .agg #[.iface 41 (.pointer (some ⟨tb, 0, none⟩))]) rfl (by kernel_rfl) (by kernel_rfl) (by kernel_rfl) (by kernel_rfl) (by kernel_rfl) (fun _ _ _ h => h) (Or.inl ⟨by rfl, ?_⟩) hS0 ?_
  · intro W hW
    obtain ⟨k0, k1, k2, k3, k4, k5, k6, k7, k8⟩ := hW
    clear hS0 iha htr q0 q1 q2 q3 q4 q5 q6 q7 q8
    go_simp
    try (intro hx; exfalso; omega)
  try simp only [Act.put, List.setIfInBounds_toArray]
  refine wpAnyT_takeT (n := 40) (i := 1) (v := .pointer (some ⟨z + 1, 3, none⟩)) rfl (by kernel_rfl) (by kernel_rfl) (by kernel_rfl) (by kernel_rfl) (by kernel_rfl) (fun _ _ _ h => h) (Or.inl ⟨by rfl, ?_⟩) hS0 ?_
  · intro W hW
    obtain ⟨k0, k1, k2, k3, k4, k5, k6, k7, k8⟩ := hW
    clear hS0 iha htr q0 q1 q2 q3 q4 q5 q6 q7 q8
    go_simp
    try (intro hx; exfalso; omega)
  try simp only [Act.put]
  refine wpAnyT_takeT (n := 40) (i := 2) (v := .slice (some ⟨g, off, none⟩) 1 cc) rfl (by kernel_rfl) (by kernel_rfl) (by kernel_rfl) (by kernel_rfl) (by kernel_rfl) (fun _ _ _ h => h) (Or.inl ⟨by rfl, ?_⟩) hS0 ?_
  · intro W hW
    obtain ⟨k0, k1, k2, k3, k4, k5, k6, k7, k8⟩ := hW
    clear hS0 iha htr q0 q1 q2 q3 q4 q5 q6 q7 q8
    go_simp
    try (intro hx; exfalso; omega)
  try simp only [Act.put]
  refine wpAnyT_takeT (n := 40) (i := 3) (v := .pointer (some ⟨g, off, none⟩)) rfl (by kernel_rfl) (by kernel_rfl) (by kernel_rfl) (by kernel_rfl) (by kernel_rfl) (fun _ _ _ h => h) (Or.inl ⟨by rfl, ?_⟩) hS0 ?_
  · intro W hW
    obtain ⟨k0, k1, k2, k3, k4, k5, k6, k7, k8⟩ := hW
    clear hS0 iha htr q0 q1 q2 q3 q4 q5 q6 q7 q8
    go_simp
    try (intro hx; exfalso; omega)
  try simp only [Act.put]
  refine wpAnyT_takeT (n := 40) (i := 4) (v := .agg #[a0, a1, a2, a3]) rfl (by kernel_rfl) (by kernel_rfl) (by kernel_rfl) (by kernel_rfl) (by kernel_rfl) (fun _ _ _ h => h) (Or.inl ⟨by rfl, ?_⟩) hS0 ?_
  · intro W hW
    obtain ⟨k0, k1, k2, k3, k4, k5, k6, k7, k8⟩ := hW
    clear hS0 iha htr q0 q1 q2 q3 q4 q5 q6 q7 q8
    go_simp
    try (intro hx; exfalso; omega)
  try simp only [Act.put]
  clear hS0
  refine wpAnyT_one (i := 5) rfl (by kernel_rfl) rfl ?_
  go_simp
  have hg3 : w.grownBy w2.drew none := ⟨hg2.os, hg2.tape, hg2.output, hg2.size, hg2.block⟩
  have hgood := hgood ps hv0.out
  refine (iha _ ps (grow_some hg3 tb) (ht0.keep hg3) hv0.out (by omega)).mono ?_
  intro e w6 h
  replace hR := hR.out
  obtain ⟨r, hr⟩ : ∃ r, valueP n k ps = r := ⟨_, rfl⟩
  rw [hr] at h hR hgood
  cases r with
  | no c1 qs =>
    obtain ⟨rfl, ht6, hg6⟩ := h
    simp only [VRes.next] at hR
    subst hR
    exact ⟨rfl, rfl, ht6, grownBy_trans' (grow_some hg3 tb) hg6⟩
  | ok m qs =>
    obtain ⟨rfl, htE, hg6⟩ := h
    have hg36 : w2.grownBy w6 (some tb) := ⟨hg6.os, hg6.tape, hg6.output, hg6.size, hg6.block⟩
    have hgE := grownBy_trans' (grow_some hg3 tb) hg6
    obtain ⟨hvE, hlE, hin⟩ := hgood
    have hin := hin m qs rfl
    simp only [VRes.tab] at htE hvE hlE
    simp only [VRes.next] at hR
    replace hR := Lib.hid hR
    have hvE := Lib.hid hvE
    have hsz1 : 1 ≤ sizeE k := by cases k; unfold sizeE; omega
    have q0 := cell_grown q0 hg36 (by have := hz.out; omega)
    have q1 := cell_grown q1 hg36 (by have := hz.out; omega)
    have q2 := cell_grown q2 hg36 (by have := hz.out; omega)
    have q3 := cell_grown q3 hg36 (by have := hz.out; omega)
    have q4 := cell_grown q4 hg36 (by have := hz.out; omega)
    have q5 := cell_grown q5 hg36 hgt
    have q6 := cell_grown q6 hg36 hgt
    have q7 := cell_grown q7 hg36 hgt
    have q8 := cell_grown q8 hg36 hgt
    refine ⟨⟨q0, q1, q2, q3, q4, q5, q6, q7, q8⟩, ?_⟩
    refine wpAnyT_one (i := 6) rfl (by kernel_rfl) rfl ?_
    go_simp
    refine wpAnyT_done (by kernel_rfl) ?_ _
    clear iha hg3 hg36 hg6 htr hr
    go_wp2_with fail
    refine wp_region_last (L := 9) (S := (fun w' : World => w'.cell? ⟨z, 0, none⟩ = some (.iface 41 (.pointer (some ⟨tb, 0, none⟩))) ∧ w'.cell? ⟨z + 1, 0, none⟩ = some (.string x) ∧ w'.cell? ⟨z + 1, 1, none⟩ = some (.int .i64 num) ∧ w'.cell? ⟨z + 1, 2, none⟩ = some (.string nx) ∧ w'.cell? ⟨z + 1, 3, none⟩ = some (.slice (some ⟨g, off, none⟩) 1 cc) ∧ w'.cell? ⟨g, off, none⟩ = some (a0) ∧ w'.cell? ⟨g, off + 1, none⟩ = some (a1) ∧ w'.cell? ⟨g, off + 2, none⟩ = some (a2) ∧ w'.cell? ⟨g, off + 3, none⟩ = some (a3))) (by kernel_rfl) ?_
    have hS0 : (fun w' : World => w'.cell? ⟨z, 0, none⟩ = some (.iface 41 (.pointer (some ⟨tb, 0, none⟩))) ∧ w'.cell? ⟨z + 1, 0, none⟩ = some (.string x) ∧ w'.cell? ⟨z + 1, 1, none⟩ = some (.int .i64 num) ∧ w'.cell? ⟨z + 1, 2, none⟩ = some (.string nx) ∧ w'.cell? ⟨z + 1, 3, none⟩ = some (.slice (some ⟨g, off, none⟩) 1 cc) ∧ w'.cell? ⟨g, off, none⟩ = some (a0) ∧ w'.cell? ⟨g, off + 1, none⟩ = some (a1) ∧ w'.cell? ⟨g, off + 2, none⟩ = some (a2) ∧ w'.cell? ⟨g, off + 3, none⟩ = some (a3)) w6.drew := ⟨q0, q1, q2, q3, q4, q5, q6, q7, q8⟩
    refine wpAnyT_takeT (n := 40) (i := 0) (v := .pointer (some ⟨z, 0, none⟩)) rfl (by kernel_rfl) (by kernel_rfl) (by kernel_rfl) (by kernel_rfl) (by kernel_rfl) (fun _ _ _ h => h) (Or.inl ⟨by rfl, ?_⟩) hS0 ?_
    · intro W hW
      obtain ⟨k0, k1, k2, k3, k4, k5, k6, k7, k8⟩ := hW
      clear hS0 q0 q1 q2 q3 q4 q5 q6 q7 q8
      go_simp
      try (intro hx; exfalso; omega)
    try simp only [Act.put, List.setIfInBounds_toArray]
    refine wpAnyT_takeT (n := 40) (i := 1) (v := .iface 41 (.pointer (some ⟨tb, 0, none⟩))) rfl (by kernel_rfl) (by kernel_rfl) (by kernel_rfl) (by kernel_rfl) (by kernel_rfl) (fun _ _ _ h => h) (Or.inl ⟨by rfl, ?_⟩) hS0 ?_
    · intro W hW
      obtain ⟨k0, k1, k2, k3, k4, k5, k6, k7, k8⟩ := hW
      clear hS0 q0 q1 q2 q3 q4 q5 q6 q7 q8
      go_simp
      try (intro hx; exfalso; omega)
    try simp only [Act.put]
    refine wpAnyT_takeT (n := 40) (i := 2) (v := .pointer (some ⟨z + 1, 2, none⟩)) rfl (by kernel_rfl) (by kernel_rfl) (by kernel_rfl) (by kernel_rfl) (by kernel_rfl) (fun _ _ _ h => h) (Or.inl ⟨by rfl, ?_⟩) hS0 ?_
    · intro W hW
      obtain ⟨k0, k1, k2, k3, k4, k5, k6, k7, k8⟩ := hW
      clear hS0 q0 q1 q2 q3 q4 q5 q6 q7 q8
      go_simp
      try (intro hx; exfalso; omega)
    try simp only [Act.put]
    refine wpAnyT_takeT (n := 40) (i := 3) (v := .string nx) rfl (by kernel_rfl) (by kernel_rfl) (by kernel_rfl) (by kernel_rfl) (by kernel_rfl) (fun _ _ _ h => h) (Or.inl ⟨by rfl, ?_⟩) hS0 ?_
    · intro W hW
      obtain ⟨k0, k1, k2, k3, k4, k5, k6, k7, k8⟩ := hW
      clear hS0 q0 q1 q2 q3 q4 q5 q6 q7 q8
      go_simp
      try (intro hx; exfalso; omega)
    try simp only [Act.put]
    refine wpAnyT_takeT (n := 40) (i := 4) (v := .int .i64 m) rfl (by kernel_rfl) (by kernel_rfl) (by kernel_rfl) (by kernel_rfl) (by kernel_rfl) (fun _ _ _ h => h) (Or.inl ⟨by rfl, ?_⟩) hS0 ?_
    · intro W hW
      obtain ⟨k0, k1, k2, k3, k4, k5, k6, k7, k8⟩ := hW
      clear hS0 q0 q1 q2 q3 q4 q5 q6 q7 q8
      go_simp
      try (intro hx; exfalso; omega)
    try simp only [Act.put]
    refine wpAnyT_takeT (n := 40) (i := 6) (v := .iface 41 (.pointer (some ⟨tb, 0, none⟩))) rfl (by kernel_rfl) (by kernel_rfl) (by kernel_rfl) (by kernel_rfl) (by kernel_rfl) (fun _ _ _ h => h) (Or.inl ⟨by rfl, ?_⟩) hS0 ?_
    · intro W hW
      obtain ⟨k0, k1, k2, k3, k4, k5, k6, k7, k8⟩ := hW
      clear hS0 q0 q1 q2 q3 q4 q5 q6 q7 q8
      go_simp
      try (intro hx; exfalso; omega)
    try simp only [Act.put]
    refine wpAnyT_takeT (n := 40) (i := 7) (v := .iface 41 (.pointer (some ⟨tb, 0, none⟩))) rfl (by kernel_rfl) (by kernel_rfl) (by kernel_rfl) (by kernel_rfl) (by kernel_rfl) (fun _ _ _ h => h) (Or.inl ⟨by rfl, ?_⟩) hS0 ?_
    · intro W hW
      obtain ⟨k0, k1, k2, k3, k4, k5, k6, k7, k8⟩ := hW
      clear hS0 q0 q1 q2 q3 q4 q5 q6 q7 q8
      go_simp
      try (intro hx; exfalso; omega)
    try simp only [Act.put]
    clear hS0
    refine wpAnyT_one (i := 5) rfl (by kernel_rfl) rfl ?_
    go_simp
    have hgEd : w.grownBy w6.drew (some tb) := ⟨hgE.os, hgE.tape, hgE.output, hgE.size, hgE.block⟩
    refine (text_any m hin.1 hin.2 _ (hpow.out _ hgEd)).mono ?_
    rintro e w8 ⟨rfl, hb8⟩
    have hg8 : w6.grownBy w8 none := ⟨hb8.os, hb8.tape, hb8.output, hb8.size, fun k hk _ => hb8.block k hk⟩
    have hgG := grownBy_trans' hgE (grow_some hg8 tb)
    have htG := htE.keep hg8
    have hg8 := grow_some hg8 tb
    have q0 := cell_grown q0 hg8 (by have := hz.out; omega)
    have q1 := cell_grown q1 hg8 (by have := hz.out; omega)
    have q2 := cell_grown q2 hg8 (by have := hz.out; omega)
    have q3 := cell_grown q3 hg8 (by have := hz.out; omega)
    have q4 := cell_grown q4 hg8 (by have := hz.out; omega)
    have q5 := cell_grown q5 hg8 hgt
    have q6 := cell_grown q6 hg8 hgt
    have q7 := cell_grown q7 hg8 hgt
    have q8 := cell_grown q8 hg8 hgt
    refine ⟨⟨q0, q1, q2, q3, q4, q5, q6, q7, q8⟩, ?_⟩
    refine wpAnyT_one (i := 8) rfl (by kernel_rfl) rfl ?_
    go_simp
    refine (set_any nx ⟨(Lib.itoa m).toArray⟩ tb qs w8 htG (by omega)).mono ?_
    intro e w9 h
    replace hR := hR.out
    cases hsp : setP qs nx ⟨(Lib.itoa m).toArray⟩ with
    | some rs =>
      rw [hsp] at h hR
      simp only at hR
      subst hR
      obtain ⟨rfl, hg9, ht9⟩ := h
      have hgH := grownBy_trans' hgG hg9
      have q0 := cell_grown q0 hg9 (by have := hz.out; omega)
      have q1 := cell_grown q1 hg9 (by have := hz.out; omega)
      have q2 := cell_grown q2 hg9 (by have := hz.out; omega)
      have q3 := cell_grown q3 hg9 (by have := hz.out; omega)
      have q4 := cell_grown q4 hg9 (by have := hz.out; omega)
      have q5 := cell_grown q5 hg9 hgt
      have q6 := cell_grown q6 hg9 hgt
      have q7 := cell_grown q7 hg9 hgt
      have q8 := cell_grown q8 hg9 hgt
      refine ⟨⟨q0, q1, q2, q3, q4, q5, q6, q7, q8⟩, ?_⟩
      refine wpAnyT_one (i := 9) rfl (by kernel_rfl) rfl ?_
      go_simp
      refine wpAnyT_done (by kernel_rfl) ?_ _
      clear q0 q1 q2 q3 q4 q5 q6 q7 q8 hms hth hpow hsp htG htE
      go_wp2
      go_ret
      exact ⟨rfl, ht9, hgH⟩
    | none =>
      rw [hsp] at h hR
      simp only at hR
      subst hR
      obtain ⟨rfl, hg9⟩ := h
      have ht9 := htG.keep hg9
      have hg9 := grow_some hg9 tb
      have hgH := grownBy_trans' hgG hg9
      have q0 := cell_grown q0 hg9 (by have := hz.out; omega)
      have q1 := cell_grown q1 hg9 (by have := hz.out; omega)
      have q2 := cell_grown q2 hg9 (by have := hz.out; omega)
      have q3 := cell_grown q3 hg9 (by have := hz.out; omega)
      have q4 := cell_grown q4 hg9 (by have := hz.out; omega)
      have q5 := cell_grown q5 hg9 hgt
      have q6 := cell_grown q6 hg9 hgt
      have q7 := cell_grown q7 hg9 hgt
      have q8 := cell_grown q8 hg9 hgt
      refine ⟨⟨q0, q1, q2, q3, q4, q5, q6, q7, q8⟩, ?_⟩
      refine wpAnyT_one (i := 9) rfl (by kernel_rfl) rfl ?_
      go_simp
      refine wpAnyT_done (by kernel_rfl) ?_ _
      clear q0 q1 q2 q3 q4 q5 q6 q7 q8 hms hpow hsp htG htE
      go_wp2_with fail
      refine (hth _).mono ?_
      rintro e wz ⟨rfl, hwz⟩
      obtain rfl := hwz.symm
      exact ⟨rfl, rfl, ht9, hgH⟩
end Go.Proofs.YtlijlgbaikijnaaGreatDoor

namespace Go.Proofs.YtlijlgbaikijnaaGreatDoor
open Go Go.RowKit

set_option maxHeartbeats 8000000 in
set_option maxRecDepth 100000 in
theorem assign_mark (tb n : Nat) (ih : ValSays tb n) (op name : List UInt8) (num : Int) (k : E) (v : Value) (ok : Nat → Prop) (w : World) (ps : List Pr)
    (hx : ExR w ok (.mk op num name [k]) v) (hc : ValC w tb ok (.mk op num name [k]) ps) (hd : dpLe n k = true) (hA : asgV op = true) (hm : Lib.trimSuffix op [61] ≠ []) :
    Calls Tryz.prog 70 #[valr tb, v] w (ValR w tb ((getR ps name).next fun a ps => (valueP n k ps).next fun b qs => (twoR (Lib.trimSuffix op [61]) a b qs).next fun v rs => setR rs name v)) := by
  obtain ⟨A, cc, rfl, hcc, hcm, hkr⟩ := hx.form
  obtain ⟨g, off, rfl, hgo, hkr⟩ := hkr.resolve_left (by simp)
  obtain ⟨a0, a1, a2, a3, ca0, ca1, ca2, ca3, hka⟩ := hkr.at_ 0 (by simp)
  simp only [List.getElem_cons_zero, Nat.zero_mul, Nat.add_zero] at ca0 ca1 ca2 ca3 hka
  have iha := kid_says ih hc (by simp : k ∈ [k]) hka hd
  obtain ⟨hgl, hgt⟩ := hc.blk g hgo
  have htb := hc.tab.lt
  have hfew := hc.few
  have hnk : NumE k := by have := hc.num; unfold NumE at this; exact this.2.mem k (by simp)
  have hgood := fun qs h => good_val n k qs hnk h
  have ht0 := hc.tab
  have hv0 := Lib.hid hc.val
  have hpow := Lib.hid hc.pow
  simp only [sizeE, sizeL] at hfew
  simp only [List.length_cons, List.length_nil, Nat.zero_add] at hcc ⊢
  obtain ⟨x, hxx⟩ : ∃ x : ByteArray, (⟨op.toArray⟩ : ByteArray) = x := ⟨_, rfl⟩
  obtain ⟨nx, hnx⟩ : ∃ nx : ByteArray, (⟨name.toArray⟩ : ByteArray) = nx := ⟨_, rfl⟩
  have hxs : x.size = op.length := by rw [← hxx]; simp [ByteArray.size]
  have hol := asg_len hA
  have hms := fun W => method_set ⟨tb, 0, none⟩ W
  have hth := fun W => throw_any 26 0 W
  have htr := fun W => Tryz.strings_TrimSuffix x ⟨#[61]⟩ W (by omega)
  rw [show x.data.toList = op by rw [← hxx]] at htr
  rw [show (⟨#[61]⟩ : ByteArray).data.toList = [61] from rfl] at htr
  obtain ⟨M, hM⟩ : ∃ M, Lib.trimSuffix op [61] = M := ⟨_, rfl⟩
  rw [hM] at htr
  rw [hM] at hm
  obtain ⟨R, hR⟩ : ∃ R, ((getR ps name).next fun a ps => (valueP n k ps).next fun b qs => (twoR (Lib.trimSuffix op [61]) a b qs).next fun v rs => setR rs name v) = R := ⟨_, rfl⟩
  have hnm : nmB name = nx := by rw [← hnx]; rfl
  rw [hR]
  rw [hxx, hnx]
  rw [hM] at hR
  unfold setR at hR
  rw [hnm] at hR
  unfold getR at hR
  rw [hnm] at hR
  obtain ⟨mx, hmx⟩ : ∃ mx : ByteArray, (⟨M.toArray⟩ : ByteArray) = mx := ⟨_, rfl⟩
  have hme : mx.toList.isEmpty = false := by rw [← hmx, str_empty]; cases M with | nil => exact absurd rfl hm | cons _ _ => rfl
  have hof := fun a b W => ofTwo_any mx a b W
  rw [show tl mx = M by rw [← hmx]; rfl] at hof
  rw [hmx] at htr
  have hgv := fun W h1 => vget_any nx tb ps W h1 hv0.out
  obtain ⟨og, hog⟩ : ∃ og, getV ps nx = og := ⟨_, rfl⟩
  rw [hog] at hR hgv
  have hgin : ∀ a, og = some a → InR a := fun a h => getV_in (hog.trans h)
  replace hR := Lib.hid hR
  unfold maxLen at hcm
  clear hx hka hkr ih hd hc hM hnm hxs hmx hog hm hxx hnx
  unfold valr
  unfold valr at iha hgv
  have i0 : (1 : Int) ≤ (cc : Int) := by omega
  go_enter Tryz.func70, Tryz.ntmps70
  go_upto_region 1 with fail
  obtain ⟨w2, hW2, hs2, hgr, hcz, hcy, hfz, hfy, hold⟩ := two_new w #[.iface 41 (.pointer (some ⟨tb, 0, none⟩))] #[.string x, .int .i64 num, .string nx, .slice (some ⟨g, off, none⟩) 1 cc] 91 30
  rw [hW2]
  obtain ⟨z, hz⟩ : ∃ z, w.heap.size = z := ⟨_, rfl⟩
  rw [hz] at hcz hcy hs2 ⊢
  have q0 := hcz 0 _ rfl
  have q1 := hcy 0 _ rfl
  have q2 := hcy 1 _ rfl
  have q3 := hcy 2 _ rfl
  have q4 := hcy 3 _ rfl
  have hblk := hold g hgl
  have q5 := (World.cell?_of_block (a := ⟨g, off, none⟩) hblk).trans ca0
  have q6 := (World.cell?_of_block (a := ⟨g, off + 1, none⟩) hblk).trans ca1
  have q7 := (World.cell?_of_block (a := ⟨g, off + 2, none⟩) hblk).trans ca2
  have q8 := (World.cell?_of_block (a := ⟨g, off + 3, none⟩) hblk).trans ca3
  have hg2 := hgr none
  have hz := Lib.hid hz
  clear hW2 hgr hcz hcy hfz hfy hold hblk ca0 ca1 ca2 ca3
  go_wp2_with (go_at_call 98; refine (htr _).mono ?_; rintro e wq ⟨rfl, hwq⟩; obtain rfl := hwq.symm)
  go_wp2_with fail
  have hgt2 := hgv w2 (ht0.keep hg2)
  clear hgv
  refine hgt2.mono ?_
  rintro e w3 ⟨he, hg3⟩
  cases og with
  | none =>
    simp only at he
    subst he
    replace hR := hR.out
    simp only [VRes.next] at hR
    subst hR
    exact ⟨rfl, rfl, ht0.keep (grownBy_trans' hg2 hg3), grow_some (grownBy_trans' hg2 hg3) tb⟩
  | some a =>
    simp only at he
    subst he
    have hain := hgin a rfl
    have hg23 := grownBy_trans' hg2 hg3
    replace hR := hR.out
    simp only [VRes.next] at hR
    replace hR := Lib.hid hR
    have hgs := grow_some hg3 tb
    have q0 := cell_grown q0 hgs (by have := hz.out; omega)
    have q1 := cell_grown q1 hgs (by have := hz.out; omega)
    have q2 := cell_grown q2 hgs (by have := hz.out; omega)
    have q3 := cell_grown q3 hgs (by have := hz.out; omega)
    have q4 := cell_grown q4 hgs (by have := hz.out; omega)
    have q5 := cell_grown q5 hgs hgt
    have q6 := cell_grown q6 hgs hgt
    have q7 := cell_grown q7 hgs hgt
    have q8 := cell_grown q8 hgs hgt
    clear hgt2 htr hgin
    go_wp2_with fail
    refine wp_region_last (L := 9) (S := (fun w' : World => w'.cell? ⟨z, 0, none⟩ = some (.iface 41 (.pointer (some ⟨tb, 0, none⟩))) ∧ w'.cell? ⟨z + 1, 0, none⟩ = some (.string x) ∧ w'.cell? ⟨z + 1, 1, none⟩ = some (.int .i64 num) ∧ w'.cell? ⟨z + 1, 2, none⟩ = some (.string nx) ∧ w'.cell? ⟨z + 1, 3, none⟩ = some (.slice (some ⟨g, off, none⟩) 1 cc) ∧ w'.cell? ⟨g, off, none⟩ = some (a0) ∧ w'.cell? ⟨g, off + 1, none⟩ = some (a1) ∧ w'.cell? ⟨g, off + 2, none⟩ = some (a2) ∧ w'.cell? ⟨g, off + 3, none⟩ = some (a3))) (by kernel_rfl) ?_
    have hS0 : (fun w' : World => w'.cell? ⟨z, 0, none⟩ = some (.iface 41 (.pointer (some ⟨tb, 0, none⟩))) ∧ w'.cell? ⟨z + 1, 0, none⟩ = some (.string x) ∧ w'.cell? ⟨z + 1, 1, none⟩ = some (.int .i64 num) ∧ w'.cell? ⟨z + 1, 2, none⟩ = some (.string nx) ∧ w'.cell? ⟨z + 1, 3, none⟩ = some (.slice (some ⟨g, off, none⟩) 1 cc) ∧ w'.cell? ⟨g, off, none⟩ = some (a0) ∧ w'.cell? ⟨g, off + 1, none⟩ = some (a1) ∧ w'.cell? ⟨g, off + 2, none⟩ = some (a2) ∧ w'.cell? ⟨g, off + 3, none⟩ = some (a3)) w3.drew := ⟨q0, q1, q2, q3, q4, q5, q6, q7, q8⟩
    refine wpAnyT_takeT (n := 40) (i := 0) (v := .string mx) rfl (by kernel_rfl) (by kernel_rfl) (by kernel_rfl) (by kernel_rfl) (by kernel_rfl) (fun _ _ _ h => h) (Or.inl ⟨by rfl, ?_⟩) hS0 ?_
    · intro W hW
      obtain ⟨k0, k1, k2, k3, k4, k5, k6, k7, k8⟩ := hW
      clear hS0 iha q0 q1 q2 q3 q4 q5 q6 q7 q8
      go_simp
      try (intro hx; exfalso; omega)
    try simp only [Act.put, List.setIfInBounds_toArray]
    refine wpAnyT_takeT (n := 40) (i := 1) (v := .int .i64 a) rfl (by kernel_rfl) (by kernel_rfl) (by kernel_rfl) (by kernel_rfl) (by kernel_rfl) (fun _ _ _ h => h) (Or.inl ⟨by rfl, ?_⟩) hS0 ?_
    · intro W hW
      obtain ⟨k0, k1, k2, k3, k4, k5, k6, k7, k8⟩ := hW
      clear hS0 iha q0 q1 q2 q3 q4 q5 q6 q7 q8
      go_simp
      try (intro hx; exfalso; omega)
    try simp only [Act.put]
    refine wpAnyT_takeT (n := 40) (i := 2) (v := .agg #[.iface 41 (.pointer (some ⟨tb, 0, none⟩))]) rfl (by kernel_rfl) (by kernel_rfl) (by kernel_rfl) (by kernel_rfl) (by kernel_rfl) (fun _ _ _ h => h) (Or.inl ⟨by rfl, ?_⟩) hS0 ?_
    · intro W hW
      obtain ⟨k0, k1, k2, k3, k4, k5, k6, k7, k8⟩ := hW
      clear hS0 iha q0 q1 q2 q3 q4 q5 q6 q7 q8
      go_simp
      try (intro hx; exfalso; omega)
    try simp only [Act.put]
    refine wpAnyT_takeT (n := 40) (i := 3) (v := .pointer (some ⟨z + 1, 3, none⟩)) rfl (by kernel_rfl) (by kernel_rfl) (by kernel_rfl) (by kernel_rfl) (by kernel_rfl) (fun _ _ _ h => h) (Or.inl ⟨by rfl, ?_⟩) hS0 ?_
    · intro W hW
      obtain ⟨k0, k1, k2, k3, k4, k5, k6, k7, k8⟩ := hW
      clear hS0 iha q0 q1 q2 q3 q4 q5 q6 q7 q8
      go_simp
      try (intro hx; exfalso; omega)
    try simp only [Act.put]
    refine wpAnyT_takeT (n := 40) (i := 4) (v := .slice (some ⟨g, off, none⟩) 1 cc) rfl (by kernel_rfl) (by kernel_rfl) (by kernel_rfl) (by kernel_rfl) (by kernel_rfl) (fun _ _ _ h => h) (Or.inl ⟨by rfl, ?_⟩) hS0 ?_
    · intro W hW
      obtain ⟨k0, k1, k2, k3, k4, k5, k6, k7, k8⟩ := hW
      clear hS0 iha q0 q1 q2 q3 q4 q5 q6 q7 q8
      go_simp
      try (intro hx; exfalso; omega)
    try simp only [Act.put]
    refine wpAnyT_takeT (n := 40) (i := 5) (v := .pointer (some ⟨g, off, none⟩)) rfl (by kernel_rfl) (by kernel_rfl) (by kernel_rfl) (by kernel_rfl) (by kernel_rfl) (fun _ _ _ h => h) (Or.inl ⟨by rfl, ?_⟩) hS0 ?_
    · intro W hW
      obtain ⟨k0, k1, k2, k3, k4, k5, k6, k7, k8⟩ := hW
      clear hS0 iha q0 q1 q2 q3 q4 q5 q6 q7 q8
      go_simp
      try (intro hx; exfalso; omega)
    try simp only [Act.put]
    refine wpAnyT_takeT (n := 40) (i := 6) (v := .agg #[a0, a1, a2, a3]) rfl (by kernel_rfl) (by kernel_rfl) (by kernel_rfl) (by kernel_rfl) (by kernel_rfl) (fun _ _ _ h => h) (Or.inl ⟨by rfl, ?_⟩) hS0 ?_
    · intro W hW
      obtain ⟨k0, k1, k2, k3, k4, k5, k6, k7, k8⟩ := hW
      clear hS0 iha q0 q1 q2 q3 q4 q5 q6 q7 q8
      go_simp
      try (intro hx; exfalso; omega)
    try simp only [Act.put]
    clear hS0
    refine wpAnyT_one (i := 7) rfl (by kernel_rfl) rfl ?_
    go_simp
    have hg3d : w.grownBy w3.drew none := ⟨hg23.os, hg23.tape, hg23.output, hg23.size, hg23.block⟩
    have hgood := hgood ps hv0.out
    refine (iha _ ps (grow_some hg3d tb) (ht0.keep hg3d) hv0.out (by omega)).mono ?_
    intro e w6 h
    replace hR := hR.out
    obtain ⟨r, hr⟩ : ∃ r, valueP n k ps = r := ⟨_, rfl⟩
    rw [hr] at h hgood
    unfold VRes.next at hR
    rw [hr] at hR
    cases r with
    | no c1 qs =>
      obtain ⟨rfl, ht6, hg6⟩ := h
      simp only at hR
      subst hR
      exact ⟨rfl, rfl, ht6, grownBy_trans' (grow_some hg3d tb) hg6⟩
    | ok b qs =>
      obtain ⟨rfl, htE, hg6⟩ := h
      have hg36 : w3.grownBy w6 (some tb) := ⟨hg6.os, hg6.tape, hg6.output, hg6.size, hg6.block⟩
      have hgE := grownBy_trans' (grow_some hg3d tb) hg6
      obtain ⟨hvE, hlE, _⟩ := hgood
      simp only [VRes.tab] at htE hvE hlE
      simp only at hR
      have hvE := Lib.hid hvE
      have hsz1 : 1 ≤ sizeE k := by cases k; unfold sizeE; omega
      have q0 := cell_grown q0 hg36 (by have := hz.out; omega)
      have q1 := cell_grown q1 hg36 (by have := hz.out; omega)
      have q2 := cell_grown q2 hg36 (by have := hz.out; omega)
      have q3 := cell_grown q3 hg36 (by have := hz.out; omega)
      have q4 := cell_grown q4 hg36 (by have := hz.out; omega)
      have q5 := cell_grown q5 hg36 hgt
      have q6 := cell_grown q6 hg36 hgt
      have q7 := cell_grown q7 hg36 hgt
      have q8 := cell_grown q8 hg36 hgt
      refine ⟨⟨q0, q1, q2, q3, q4, q5, q6, q7, q8⟩, ?_⟩
      refine wpAnyT_one (i := 8) rfl (by kernel_rfl) rfl ?_
      go_simp
      refine (hof _ _ _).mono ?_
      rintro e wq ⟨h, hwq⟩
      obtain rfl := hwq.symm
      unfold twoR at hR
      cases htv : twoV M a b with
      | none =>
        rw [htv] at h hR
        simp only at h hR
        subst h hR
        exact ⟨rfl, rfl, htE, hgE⟩
      | some m =>
        rw [htv] at h hR
        simp only at h hR
        subst h
        have hin := twoV_in hain htv
        replace hR := Lib.hid hR
        refine ⟨⟨q0, q1, q2, q3, q4, q5, q6, q7, q8⟩, ?_⟩
        refine wpAnyT_one (i := 9) rfl (by kernel_rfl) rfl ?_
        go_simp
        refine wpAnyT_done (by kernel_rfl) ?_ _
        clear iha hg3 hg36 hg6 hr hof htv hgs hg23 hg2 hg3d
        go_wp2_with fail
        refine wp_region_last (L := 9) (S := (fun w' : World => w'.cell? ⟨z, 0, none⟩ = some (.iface 41 (.pointer (some ⟨tb, 0, none⟩))) ∧ w'.cell? ⟨z + 1, 0, none⟩ = some (.string x) ∧ w'.cell? ⟨z + 1, 1, none⟩ = some (.int .i64 num) ∧ w'.cell? ⟨z + 1, 2, none⟩ = some (.string nx) ∧ w'.cell? ⟨z + 1, 3, none⟩ = some (.slice (some ⟨g, off, none⟩) 1 cc) ∧ w'.cell? ⟨g, off, none⟩ = some (a0) ∧ w'.cell? ⟨g, off + 1, none⟩ = some (a1) ∧ w'.cell? ⟨g, off + 2, none⟩ = some (a2) ∧ w'.cell? ⟨g, off + 3, none⟩ = some (a3))) (by kernel_rfl) ?_
        have hS0 : (fun w' : World => w'.cell? ⟨z, 0, none⟩ = some (.iface 41 (.pointer (some ⟨tb, 0, none⟩))) ∧ w'.cell? ⟨z + 1, 0, none⟩ = some (.string x) ∧ w'.cell? ⟨z + 1, 1, none⟩ = some (.int .i64 num) ∧ w'.cell? ⟨z + 1, 2, none⟩ = some (.string nx) ∧ w'.cell? ⟨z + 1, 3, none⟩ = some (.slice (some ⟨g, off, none⟩) 1 cc) ∧ w'.cell? ⟨g, off, none⟩ = some (a0) ∧ w'.cell? ⟨g, off + 1, none⟩ = some (a1) ∧ w'.cell? ⟨g, off + 2, none⟩ = some (a2) ∧ w'.cell? ⟨g, off + 3, none⟩ = some (a3)) w6.drew := ⟨q0, q1, q2, q3, q4, q5, q6, q7, q8⟩
        refine wpAnyT_takeT (n := 40) (i := 0) (v := .pointer (some ⟨z, 0, none⟩)) rfl (by kernel_rfl) (by kernel_rfl) (by kernel_rfl) (by kernel_rfl) (by kernel_rfl) (fun _ _ _ h => h) (Or.inl ⟨by rfl, ?_⟩) hS0 ?_
        · intro W hW
          obtain ⟨k0, k1, k2, k3, k4, k5, k6, k7, k8⟩ := hW
          clear hS0 q0 q1 q2 q3 q4 q5 q6 q7 q8
          go_simp
          try (intro hx; exfalso; omega)
        try simp only [Act.put, List.setIfInBounds_toArray]
        refine wpAnyT_takeT (n := 40) (i := 1) (v := .iface 41 (.pointer (some ⟨tb, 0, none⟩))) rfl (by kernel_rfl) (by kernel_rfl) (by kernel_rfl) (by kernel_rfl) (by kernel_rfl) (fun _ _ _ h => h) (Or.inl ⟨by rfl, ?_⟩) hS0 ?_
        · intro W hW
          obtain ⟨k0, k1, k2, k3, k4, k5, k6, k7, k8⟩ := hW
          clear hS0 q0 q1 q2 q3 q4 q5 q6 q7 q8
          go_simp
          try (intro hx; exfalso; omega)
        try simp only [Act.put]
        refine wpAnyT_takeT (n := 40) (i := 2) (v := .pointer (some ⟨z + 1, 2, none⟩)) rfl (by kernel_rfl) (by kernel_rfl) (by kernel_rfl) (by kernel_rfl) (by kernel_rfl) (fun _ _ _ h => h) (Or.inl ⟨by rfl, ?_⟩) hS0 ?_
        · intro W hW
          obtain ⟨k0, k1, k2, k3, k4, k5, k6, k7, k8⟩ := hW
          clear hS0 q0 q1 q2 q3 q4 q5 q6 q7 q8
          go_simp
          try (intro hx; exfalso; omega)
        try simp only [Act.put]
        refine wpAnyT_takeT (n := 40) (i := 3) (v := .string nx) rfl (by kernel_rfl) (by kernel_rfl) (by kernel_rfl) (by kernel_rfl) (by kernel_rfl) (fun _ _ _ h => h) (Or.inl ⟨by rfl, ?_⟩) hS0 ?_
        · intro W hW
          obtain ⟨k0, k1, k2, k3, k4, k5, k6, k7, k8⟩ := hW
          clear hS0 q0 q1 q2 q3 q4 q5 q6 q7 q8
          go_simp
          try (intro hx; exfalso; omega)
        try simp only [Act.put]
        refine wpAnyT_takeT (n := 40) (i := 4) (v := .int .i64 m) rfl (by kernel_rfl) (by kernel_rfl) (by kernel_rfl) (by kernel_rfl) (by kernel_rfl) (fun _ _ _ h => h) (Or.inl ⟨by rfl, ?_⟩) hS0 ?_
        · intro W hW
          obtain ⟨k0, k1, k2, k3, k4, k5, k6, k7, k8⟩ := hW
          clear hS0 q0 q1 q2 q3 q4 q5 q6 q7 q8
          go_simp
          try (intro hx; exfalso; omega)
        try simp only [Act.put]
        refine wpAnyT_takeT (n := 40) (i := 6) (v := .iface 41 (.pointer (some ⟨tb, 0, none⟩))) rfl (by kernel_rfl) (by kernel_rfl) (by kernel_rfl) (by kernel_rfl) (by kernel_rfl) (fun _ _ _ h => h) (Or.inl ⟨by rfl, ?_⟩) hS0 ?_
        · intro W hW
          obtain ⟨k0, k1, k2, k3, k4, k5, k6, k7, k8⟩ := hW
          clear hS0 q0 q1 q2 q3 q4 q5 q6 q7 q8
          go_simp
          try (intro hx; exfalso; omega)
        try simp only [Act.put]
        refine wpAnyT_takeT (n := 40) (i := 7) (v := .iface 41 (.pointer (some ⟨tb, 0, none⟩))) rfl (by kernel_rfl) (by kernel_rfl) (by kernel_rfl) (by kernel_rfl) (by kernel_rfl) (fun _ _ _ h => h) (Or.inl ⟨by rfl, ?_⟩) hS0 ?_
        · intro W hW
          obtain ⟨k0, k1, k2, k3, k4, k5, k6, k7, k8⟩ := hW
          clear hS0 q0 q1 q2 q3 q4 q5 q6 q7 q8
          go_simp
          try (intro hx; exfalso; omega)
        try simp only [Act.put]
        clear hS0
        refine wpAnyT_one (i := 5) rfl (by kernel_rfl) rfl ?_
        go_simp
        have hgEd : w.grownBy w6.drew (some tb) := ⟨hgE.os, hgE.tape, hgE.output, hgE.size, hgE.block⟩
        refine (text_any m hin.1 hin.2 _ (hpow.out _ hgEd)).mono ?_
        rintro e w8 ⟨rfl, hb8⟩
        have hg8 : w6.grownBy w8 none := ⟨hb8.os, hb8.tape, hb8.output, hb8.size, fun k hk _ => hb8.block k hk⟩
        have hgG := grownBy_trans' hgE (grow_some hg8 tb)
        have htG := htE.keep hg8
        have hg8 := grow_some hg8 tb
        have q0 := cell_grown q0 hg8 (by have := hz.out; omega)
        have q1 := cell_grown q1 hg8 (by have := hz.out; omega)
        have q2 := cell_grown q2 hg8 (by have := hz.out; omega)
        have q3 := cell_grown q3 hg8 (by have := hz.out; omega)
        have q4 := cell_grown q4 hg8 (by have := hz.out; omega)
        have q5 := cell_grown q5 hg8 hgt
        have q6 := cell_grown q6 hg8 hgt
        have q7 := cell_grown q7 hg8 hgt
        have q8 := cell_grown q8 hg8 hgt
        refine ⟨⟨q0, q1, q2, q3, q4, q5, q6, q7, q8⟩, ?_⟩
        refine wpAnyT_one (i := 8) rfl (by kernel_rfl) rfl ?_
        go_simp
        refine (set_any nx ⟨(Lib.itoa m).toArray⟩ tb qs w8 htG (by omega)).mono ?_
        intro e w9 h
        replace hR := hR.out
        cases hsp : setP qs nx ⟨(Lib.itoa m).toArray⟩ with
        | some rs =>
          rw [hsp] at h hR
          simp only at hR
          subst hR
          obtain ⟨rfl, hg9, ht9⟩ := h
          have hgH := grownBy_trans' hgG hg9
          have q0 := cell_grown q0 hg9 (by have := hz.out; omega)
          have q1 := cell_grown q1 hg9 (by have := hz.out; omega)
          have q2 := cell_grown q2 hg9 (by have := hz.out; omega)
          have q3 := cell_grown q3 hg9 (by have := hz.out; omega)
          have q4 := cell_grown q4 hg9 (by have := hz.out; omega)
          have q5 := cell_grown q5 hg9 hgt
          have q6 := cell_grown q6 hg9 hgt
          have q7 := cell_grown q7 hg9 hgt
          have q8 := cell_grown q8 hg9 hgt
          refine ⟨⟨q0, q1, q2, q3, q4, q5, q6, q7, q8⟩, ?_⟩
          refine wpAnyT_one (i := 9) rfl (by kernel_rfl) rfl ?_
          go_simp
          refine wpAnyT_done (by kernel_rfl) ?_ _
          clear q0 q1 q2 q3 q4 q5 q6 q7 q8 hms hth hpow hsp htG htE
          go_wp2
          go_ret
          exact ⟨rfl, ht9, hgH⟩
        | none =>
          rw [hsp] at h hR
          simp only at hR
          subst hR
          obtain ⟨rfl, hg9⟩ := h
          have ht9 := htG.keep hg9
          have hg9 := grow_some hg9 tb
          have hgH := grownBy_trans' hgG hg9
          have q0 := cell_grown q0 hg9 (by have := hz.out; omega)
          have q1 := cell_grown q1 hg9 (by have := hz.out; omega)
          have q2 := cell_grown q2 hg9 (by have := hz.out; omega)
          have q3 := cell_grown q3 hg9 (by have := hz.out; omega)
          have q4 := cell_grown q4 hg9 (by have := hz.out; omega)
          have q5 := cell_grown q5 hg9 hgt
          have q6 := cell_grown q6 hg9 hgt
          have q7 := cell_grown q7 hg9 hgt
          have q8 := cell_grown q8 hg9 hgt
          refine ⟨⟨q0, q1, q2, q3, q4, q5, q6, q7, q8⟩, ?_⟩
          refine wpAnyT_one (i := 9) rfl (by kernel_rfl) rfl ?_
          go_simp
          refine wpAnyT_done (by kernel_rfl) ?_ _
          clear q0 q1 q2 q3 q4 q5 q6 q7 q8 hms hpow hsp htG htE
          go_wp2_with fail
          refine (hth _).mono ?_
          rintro e wz ⟨rfl, hwz⟩
          obtain rfl := hwz.symm
          exact ⟨rfl, rfl, ht9, hgH⟩
end Go.Proofs.YtlijlgbaikijnaaGreatDoor
