/-
  What a value comes to, by the package: the ways of two and three Kids. Conditions: each theorem's own.
-/
import Derived.Test.YtlijlgbaikijnaaGreatDoorSmValue
namespace Go.Proofs.YtlijlgbaikijnaaGreatDoor
open Go Go.RowKit

section
variable {P : Program} {ops : Array Oper} {Q : Exit → Act → World → Prop} {md : Region.Mode} {S : World → Prop} {L : Nat}
/-- The one operation that may come up, its guard met. -/
theorem wpAnyT_oneG {i : Nat} {o : Oper} {fuel : Nat} {listed : Array Bool} {a : Act} {w : World} (ho : ops[i]? = some o) (hr : Region.ready md ops listed = [i]) (hg : Region.wanted o (yielded ops a.tmps) = true)
    (h : o.wp P a w (fun a' w' => (i ≠ L → S w') ∧ wpAnyT P md ops Q S L fuel (listed.setIfInBounds i true) a' w') Q) : wpAnyT P md ops Q S L (fuel + 1) listed a w := by
  refine ⟨fun h0 => (by rw [hr] at h0; cases h0), fun j hj => ?_⟩
  rw [hr, List.mem_singleton] at hj
  subst hj
  unfold wpOp
  simp only [ho, hg, if_true]
  exact .inl h
end
/-- A Kid's value, whatever has been done to the table ahead of it. -/
theorem kid_says {tb n : Nat} (ih : ValSays tb n) {ok : Nat → Prop} {w : World} {ps : List Pr} {op name : List UInt8} {num : Int} {kids : List E} (hc : ValC w tb ok (.mk op num name kids) ps) {k : E} {v : Value} (hm : k ∈ kids) (hk : ExR w ok k v) (hd : dpLe n k = true) :
    ∀ (W : World) (qs : List Pr), w.grownBy W (some tb) → TabAt W tb qs → Vals qs → qs.length + sizeE k ≤ 1000000 → Calls Tryz.prog 43 #[valr tb, v] W (ValR W tb (valueP n k qs)) := by
  intro W qs hg ht hv hl
  have hnk := hc.num
  unfold NumE at hnk
  exact ih k v ok W qs (hk.keep (fun g h => h) (fun g h => hg.block g (hc.blk g h).1 (by simpa using (hc.blk g h).2)))
    ⟨fun g h => ⟨Nat.lt_of_lt_of_le (hc.blk g h).1 hg.size, (hc.blk g h).2⟩, ht, hc.pow.keep hg, hv, hnk.2.mem k hm, hl⟩ hd

set_option maxHeartbeats 8000000 in
set_option maxRecDepth 100000 in
theorem value_three (tb n : Nat) (ih : ValSays tb n) (name : List UInt8) (num : Int) (a b c : E) (v : Value) (ok : Nat → Prop) (w : World) (ps : List Pr)
    (hx : ExR w ok (.mk [63] num name [a, b, c]) v) (hc : ValC w tb ok (.mk [63] num name [a, b, c]) ps) (hda : dpLe n a = true) (hdb : dpLe n b = true) (hdc : dpLe n c = true) :
    Calls Tryz.prog 43 #[valr tb, v] w (ValR w tb ((valueP n a ps).next fun x qs => if ¬ x = 0 then valueP n b qs else valueP n c qs)) := by
  obtain ⟨A, cc, rfl, hcc, hcm, hkr⟩ := hx.form
  obtain ⟨g, off, rfl, hgo, hkr⟩ := hkr.resolve_left (by simp)
  obtain ⟨a0, a1, a2, a3, ca0, ca1, ca2, ca3, hka⟩ := hkr.at_ 0 (by simp)
  obtain ⟨b0, b1, b2, b3, cb0, cb1, cb2, cb3, hkb⟩ := hkr.at_ 1 (by simp)
  obtain ⟨c0, c1, c2, c3, cc0, cc1, cc2, cc3, hkc⟩ := hkr.at_ 2 (by simp)
  simp only [List.getElem_cons_zero, List.getElem_cons_succ, Nat.zero_mul, Nat.add_zero, Nat.one_mul, Nat.reduceMul] at ca0 ca1 ca2 ca3 cb0 cb1 cb2 cb3 cc0 cc1 cc2 cc3 hka hkb hkc
  have iha := kid_says ih hc (by simp : a ∈ [a, b, c]) hka hda
  have ihb := kid_says ih hc (by simp : b ∈ [a, b, c]) hkb hdb
  have ihc := kid_says ih hc (by simp : c ∈ [a, b, c]) hkc hdc
  obtain ⟨hgl, hgt⟩ := hc.blk g hgo
  have htb := hc.tab.lt
  have hfew := hc.few
  have hgood := good_val n a ps (by have := hc.num; unfold NumE at this; exact this.2.mem a (by simp)) hc.val
  have ht0 := hc.tab
  have hv0 := hc.val
  simp only [sizeE, sizeL] at hfew
  simp only [List.length_cons, List.length_nil, Nat.zero_add, Nat.reduceAdd] at hcc ⊢
  obtain ⟨x, hxx⟩ : ∃ x : ByteArray, (⟨([63] : List UInt8).toArray⟩ : ByteArray) = x := ⟨_, rfl⟩
  have hxt : tl x = [63] := by rw [← hxx]; rfl
  have hxl : x.toList = [63] := by rw [Lib.toList_data]; exact hxt
  have hkd := fun W => kids_any x W
  have has := fun W => assigns_any x W
  rw [hxt] at hkd has
  rw [show kidsV [63] = 3 by decide] at hkd
  rw [show asgV [63] = false by decide] at has
  have g0 : ∀ l, (x.toList == l) = ([63] == l) := fun l => by rw [hxl]
  rw [show (⟨List.toArray [63]⟩ : ByteArray) = x from hxx]
  obtain ⟨r, hr⟩ : ∃ r, valueP n a ps = r := ⟨_, rfl⟩
  have iha := fun W h1 h2 => iha W ps h1 h2 hv0 (by omega)
  rw [hr] at iha hgood ⊢
  obtain ⟨R, hR⟩ : ∃ R, (r.next fun x qs => if ¬ x = 0 then valueP n b qs else valueP n c qs) = R := ⟨_, rfl⟩
  rw [hR]
  replace hR := Lib.hid hR
  unfold maxLen at hcm
  clear hx hka hkb hkc hkr hr hxx hxt hxl  hc
  unfold valr
  unfold valr at iha ihb ihc
  have i0 : (3 : Int) ≤ (cc : Int) := by omega
  go_enter Tryz.func43, Tryz.ntmps43
  go_upto_region 1 with fail
  obtain ⟨w2, hW2, hs2, hgr, hcz, hcy, hfz, hfy, hold⟩ := two_new w #[.iface 41 (.pointer (some ⟨tb, 0, none⟩))] #[.string x, .int .i64 num, .string ⟨name.toArray⟩, .slice (some ⟨g, off, none⟩) 3 cc] 91 30
  rw [hW2]
  obtain ⟨z, hz⟩ : ∃ z, w.heap.size = z := ⟨_, rfl⟩
  rw [hz] at hcz hcy hs2 ⊢
  have q0 := hcz 0 _ rfl
  have q1 := hcy 0 _ rfl
  have q2 := hcy 1 _ rfl
  have q3 := hcy 2 _ rfl
  have q4 := hcy 3 _ rfl
  have hblk := hold g hgl
  have q5 := (World.cell?_of_block (a := ⟨g, off, none⟩) hblk).trans ca0
  have q6 := (World.cell?_of_block (a := ⟨g, off + 1, none⟩) hblk).trans ca1
  have q7 := (World.cell?_of_block (a := ⟨g, off + 2, none⟩) hblk).trans ca2
  have q8 := (World.cell?_of_block (a := ⟨g, off + 3, none⟩) hblk).trans ca3
  have q9 := (World.cell?_of_block (a := ⟨g, off + 4, none⟩) hblk).trans cb0
  have q10 := (World.cell?_of_block (a := ⟨g, off + 4 + 1, none⟩) hblk).trans cb1
  have q11 := (World.cell?_of_block (a := ⟨g, off + 4 + 2, none⟩) hblk).trans cb2
  have q12 := (World.cell?_of_block (a := ⟨g, off + 4 + 3, none⟩) hblk).trans cb3
  have q13 := (World.cell?_of_block (a := ⟨g, off + 8, none⟩) hblk).trans cc0
  have q14 := (World.cell?_of_block (a := ⟨g, off + 8 + 1, none⟩) hblk).trans cc1
  have q15 := (World.cell?_of_block (a := ⟨g, off + 8 + 2, none⟩) hblk).trans cc2
  have q16 := (World.cell?_of_block (a := ⟨g, off + 8 + 3, none⟩) hblk).trans cc3
  have hg2 := hgr none
  have hz := Lib.hid hz
  clear hW2 hgr hcz hcy hfz hfy hold hblk ca0 ca1 ca2 ca3 cb0 cb1 cb2 cb3 cc0 cc1 cc2 cc3
  go_quiet ((go_at_call 61; refine Calls.quiet_of_same (hkd _)))
  go_wp2_with (go_at_call 62; refine (has _).mono ?_; rintro e wq ⟨rfl, rfl⟩)
  refine wp_region_last (L := 6) (S := (fun w' : World => w'.cell? ⟨z, 0, none⟩ = some (.iface 41 (.pointer (some ⟨tb, 0, none⟩))) ∧ w'.cell? ⟨z + 1, 0, none⟩ = some (.string x) ∧ w'.cell? ⟨z + 1, 1, none⟩ = some (.int .i64 num) ∧ w'.cell? ⟨z + 1, 2, none⟩ = some (.string ⟨name.toArray⟩) ∧ w'.cell? ⟨z + 1, 3, none⟩ = some (.slice (some ⟨g, off, none⟩) 3 cc) ∧ w'.cell? ⟨g, off, none⟩ = some (a0) ∧ w'.cell? ⟨g, off + 1, none⟩ = some (a1) ∧ w'.cell? ⟨g, off + 2, none⟩ = some (a2) ∧ w'.cell? ⟨g, off + 3, none⟩ = some (a3))) (by kernel_rfl) ?_
  have hS0 : (fun w' : World => w'.cell? ⟨z, 0, none⟩ = some (.iface 41 (.pointer (some ⟨tb, 0, none⟩))) ∧ w'.cell? ⟨z + 1, 0, none⟩ = some (.string x) ∧ w'.cell? ⟨z + 1, 1, none⟩ = some (.int .i64 num) ∧ w'.cell? ⟨z + 1, 2, none⟩ = some (.string ⟨name.toArray⟩) ∧ w'.cell? ⟨z + 1, 3, none⟩ = some (.slice (some ⟨g, off, none⟩) 3 cc) ∧ w'.cell? ⟨g, off, none⟩ = some (a0) ∧ w'.cell? ⟨g, off + 1, none⟩ = some (a1) ∧ w'.cell? ⟨g, off + 2, none⟩ = some (a2) ∧ w'.cell? ⟨g, off + 3, none⟩ = some (a3)) (w2.drewN nq).drew := ⟨q0, q1, q2, q3, q4, q5, q6, q7, q8⟩
  refine wpAnyT_takeT (n := 40) (i := 0) (v := .agg #[.iface 41 (.pointer (some ⟨tb, 0, none⟩))]) rfl (by kernel_rfl) (by kernel_rfl) (by kernel_rfl) (by kernel_rfl) (by kernel_rfl) (fun _ _ _ h => h) (Or.inl ⟨by rfl, ?_⟩) hS0 ?_
  · intro W hW
    obtain ⟨k0, k1, k2, k3, k4, k5, k6, k7, k8⟩ := hW
    clear hS0 iha ihb ihc q0 q1 q2 q3 q4 q5 q6 q7 q8 q9 q10 q11 q12 q13 q14 q15 q16
    go_simp
    try (intro hx; exfalso; omega)
  try simp only [Act.put, List.setIfInBounds_toArray]
  refine wpAnyT_takeT (n := 40) (i := 1) (v := .pointer (some ⟨z + 1, 3, none⟩)) rfl (by kernel_rfl) (by kernel_rfl) (by kernel_rfl) (by kernel_rfl) (by kernel_rfl) (fun _ _ _ h => h) (Or.inl ⟨by rfl, ?_⟩) hS0 ?_
  · intro W hW
    obtain ⟨k0, k1, k2, k3, k4, k5, k6, k7, k8⟩ := hW
    clear hS0 iha ihb ihc q0 q1 q2 q3 q4 q5 q6 q7 q8 q9 q10 q11 q12 q13 q14 q15 q16
    go_simp
    try (intro hx; exfalso; omega)
  try simp only [Act.put]
  refine wpAnyT_takeT (n := 40) (i := 2) (v := .slice (some ⟨g, off, none⟩) 3 cc) rfl (by kernel_rfl) (by kernel_rfl) (by kernel_rfl) (by kernel_rfl) (by kernel_rfl) (fun _ _ _ h => h) (Or.inl ⟨by rfl, ?_⟩) hS0 ?_
  · intro W hW
    obtain ⟨k0, k1, k2, k3, k4, k5, k6, k7, k8⟩ := hW
    clear hS0 iha ihb ihc q0 q1 q2 q3 q4 q5 q6 q7 q8 q9 q10 q11 q12 q13 q14 q15 q16
    go_simp
    try (intro hx; exfalso; omega)
  try simp only [Act.put]
  refine wpAnyT_takeT (n := 40) (i := 3) (v := .pointer (some ⟨g, off, none⟩)) rfl (by kernel_rfl) (by kernel_rfl) (by kernel_rfl) (by kernel_rfl) (by kernel_rfl) (fun _ _ _ h => h) (Or.inl ⟨by rfl, ?_⟩) hS0 ?_
  · intro W hW
    obtain ⟨k0, k1, k2, k3, k4, k5, k6, k7, k8⟩ := hW
    clear hS0 iha ihb ihc q0 q1 q2 q3 q4 q5 q6 q7 q8 q9 q10 q11 q12 q13 q14 q15 q16
    go_simp
    try (intro hx; exfalso; omega)
  try simp only [Act.put]
  refine wpAnyT_takeT (n := 40) (i := 4) (v := .agg #[a0, a1, a2, a3]) rfl (by kernel_rfl) (by kernel_rfl) (by kernel_rfl) (by kernel_rfl) (by kernel_rfl) (fun _ _ _ h => h) (Or.inl ⟨by rfl, ?_⟩) hS0 ?_
  · intro W hW
    obtain ⟨k0, k1, k2, k3, k4, k5, k6, k7, k8⟩ := hW
    clear hS0 iha ihb ihc q0 q1 q2 q3 q4 q5 q6 q7 q8 q9 q10 q11 q12 q13 q14 q15 q16
    go_simp
    try (intro hx; exfalso; omega)
  try simp only [Act.put]
  clear hS0
  refine wpAnyT_one (i := 5) rfl (by kernel_rfl) rfl ?_
  go_simp
  have hg3 : w.grownBy (w2.drewN nq).drew none := ⟨hg2.os, hg2.tape, hg2.output, hg2.size, hg2.block⟩
  refine (iha _ (grow_some hg3 tb) (ht0.keep hg3)).mono ?_
  intro e w6 h
  cases r with
  | no c1 qs =>
    obtain ⟨rfl, ht6, hg6⟩ := h
    replace hR := hR.out
    simp only [VRes.next] at hR
    subst hR
    exact ⟨rfl, rfl, ht6, grownBy_trans' (grow_some hg3 tb) hg6⟩
  | ok m qs =>
    obtain ⟨rfl, ht6, hg6⟩ := h
    have hg36 : w2.grownBy w6 (some tb) := ⟨hg6.os, hg6.tape, hg6.output, hg6.size, hg6.block⟩
    have hgE := grownBy_trans' (grow_some hg3 tb) hg6
    obtain ⟨hvq, hlq, _⟩ := hgood
    simp only [VRes.tab] at ht6 hvq hlq
    have hvq := Lib.hid hvq
    have ht6 := Lib.hid ht6
    have q0 := cell_grown q0 hg36 (by have := hz.out; omega)
    have q1 := cell_grown q1 hg36 (by have := hz.out; omega)
    have q2 := cell_grown q2 hg36 (by have := hz.out; omega)
    have q3 := cell_grown q3 hg36 (by have := hz.out; omega)
    have q4 := cell_grown q4 hg36 (by have := hz.out; omega)
    have q5 := cell_grown q5 hg36 hgt
    have q6 := cell_grown q6 hg36 hgt
    have q7 := cell_grown q7 hg36 hgt
    have q8 := cell_grown q8 hg36 hgt
    have q9 := cell_grown q9 hg36 hgt
    have q10 := cell_grown q10 hg36 hgt
    have q11 := cell_grown q11 hg36 hgt
    have q12 := cell_grown q12 hg36 hgt
    have q13 := cell_grown q13 hg36 hgt
    have q14 := cell_grown q14 hg36 hgt
    have q15 := cell_grown q15 hg36 hgt
    have q16 := cell_grown q16 hg36 hgt
    refine ⟨⟨q0, q1, q2, q3, q4, q5, q6, q7, q8⟩, ?_⟩
    refine wpAnyT_one (i := 6) rfl (by kernel_rfl) rfl ?_
    go_simp
    refine wpAnyT_done (by kernel_rfl) ?_ _
    clear iha hkd hg3 hg36 hg6
    replace hR := hR.out
    simp only [VRes.next] at hR
    by_cases hm : m = 0
    · rw [if_neg (by simpa using hm)] at hR
      replace hR := Lib.hid hR
      have hm0 : (m == 0) = true := by simpa using hm
      have hm1 : (!(m == 0)) = false := by rw [hm0]; rfl
      go_wp2_with fail
      refine wp_region_last (L := 6) (S := (fun w' : World => w'.cell? ⟨z, 0, none⟩ = some (.iface 41 (.pointer (some ⟨tb, 0, none⟩))) ∧ w'.cell? ⟨z + 1, 0, none⟩ = some (.string x) ∧ w'.cell? ⟨z + 1, 1, none⟩ = some (.int .i64 num) ∧ w'.cell? ⟨z + 1, 2, none⟩ = some (.string ⟨name.toArray⟩) ∧ w'.cell? ⟨z + 1, 3, none⟩ = some (.slice (some ⟨g, off, none⟩) 3 cc) ∧ w'.cell? ⟨g, off + 8, none⟩ = some (c0) ∧ w'.cell? ⟨g, off + 8 + 1, none⟩ = some (c1) ∧ w'.cell? ⟨g, off + 8 + 2, none⟩ = some (c2) ∧ w'.cell? ⟨g, off + 8 + 3, none⟩ = some (c3))) (by kernel_rfl) ?_
      have hS0 : (fun w' : World => w'.cell? ⟨z, 0, none⟩ = some (.iface 41 (.pointer (some ⟨tb, 0, none⟩))) ∧ w'.cell? ⟨z + 1, 0, none⟩ = some (.string x) ∧ w'.cell? ⟨z + 1, 1, none⟩ = some (.int .i64 num) ∧ w'.cell? ⟨z + 1, 2, none⟩ = some (.string ⟨name.toArray⟩) ∧ w'.cell? ⟨z + 1, 3, none⟩ = some (.slice (some ⟨g, off, none⟩) 3 cc) ∧ w'.cell? ⟨g, off + 8, none⟩ = some (c0) ∧ w'.cell? ⟨g, off + 8 + 1, none⟩ = some (c1) ∧ w'.cell? ⟨g, off + 8 + 2, none⟩ = some (c2) ∧ w'.cell? ⟨g, off + 8 + 3, none⟩ = some (c3)) w6.drew := ⟨q0, q1, q2, q3, q4, q13, q14, q15, q16⟩
      refine wpAnyT_takeT (n := 40) (i := 0) (v := .agg #[.iface 41 (.pointer (some ⟨tb, 0, none⟩))]) rfl (by kernel_rfl) (by kernel_rfl) (by kernel_rfl) (by kernel_rfl) (by kernel_rfl) (fun _ _ _ h => h) (Or.inl ⟨by rfl, ?_⟩) hS0 ?_
      · intro W hW
        obtain ⟨k0, k1, k2, k3, k4, k5, k6, k7, k8⟩ := hW
        clear hS0 ihb ihc q0 q1 q2 q3 q4 q5 q6 q7 q8 q9 q10 q11 q12 q13 q14 q15 q16
        go_simp
        try (intro hx; exfalso; omega)
      try simp only [Act.put, List.setIfInBounds_toArray]
      refine wpAnyT_takeT (n := 40) (i := 1) (v := .pointer (some ⟨z + 1, 3, none⟩)) rfl (by kernel_rfl) (by kernel_rfl) (by kernel_rfl) (by kernel_rfl) (by kernel_rfl) (fun _ _ _ h => h) (Or.inl ⟨by rfl, ?_⟩) hS0 ?_
      · intro W hW
        obtain ⟨k0, k1, k2, k3, k4, k5, k6, k7, k8⟩ := hW
        clear hS0 ihb ihc q0 q1 q2 q3 q4 q5 q6 q7 q8 q9 q10 q11 q12 q13 q14 q15 q16
        go_simp
        try (intro hx; exfalso; omega)
      try simp only [Act.put]
      refine wpAnyT_takeT (n := 40) (i := 2) (v := .slice (some ⟨g, off, none⟩) 3 cc) rfl (by kernel_rfl) (by kernel_rfl) (by kernel_rfl) (by kernel_rfl) (by kernel_rfl) (fun _ _ _ h => h) (Or.inl ⟨by rfl, ?_⟩) hS0 ?_
      · intro W hW
        obtain ⟨k0, k1, k2, k3, k4, k5, k6, k7, k8⟩ := hW
        clear hS0 ihb ihc q0 q1 q2 q3 q4 q5 q6 q7 q8 q9 q10 q11 q12 q13 q14 q15 q16
        go_simp
        try (intro hx; exfalso; omega)
      try simp only [Act.put]
      refine wpAnyT_takeT (n := 40) (i := 3) (v := .pointer (some ⟨g, off + 8, none⟩)) rfl (by kernel_rfl) (by kernel_rfl) (by kernel_rfl) (by kernel_rfl) (by kernel_rfl) (fun _ _ _ h => h) (Or.inl ⟨by rfl, ?_⟩) hS0 ?_
      · intro W hW
        obtain ⟨k0, k1, k2, k3, k4, k5, k6, k7, k8⟩ := hW
        clear hS0 ihb ihc q0 q1 q2 q3 q4 q5 q6 q7 q8 q9 q10 q11 q12 q13 q14 q15 q16
        go_simp
        try (intro hx; exfalso; omega)
      try simp only [Act.put]
      refine wpAnyT_takeT (n := 40) (i := 4) (v := .agg #[c0, c1, c2, c3]) rfl (by kernel_rfl) (by kernel_rfl) (by kernel_rfl) (by kernel_rfl) (by kernel_rfl) (fun _ _ _ h => h) (Or.inl ⟨by rfl, ?_⟩) hS0 ?_
      · intro W hW
        obtain ⟨k0, k1, k2, k3, k4, k5, k6, k7, k8⟩ := hW
        clear hS0 ihb ihc q0 q1 q2 q3 q4 q5 q6 q7 q8 q9 q10 q11 q12 q13 q14 q15 q16
        go_simp
        try (intro hx; exfalso; omega)
      try simp only [Act.put]
      clear hS0
      refine wpAnyT_one (i := 5) rfl (by kernel_rfl) rfl ?_
      go_simp
      have hg6d : w.grownBy w6.drew (some tb) := ⟨hgE.os, hgE.tape, hgE.output, hgE.size, hgE.block⟩
      refine (ihc _ qs hg6d ⟨ht6.out.cell, ht6.out.fz, ht6.out.ty⟩ hvq.out (by omega)).mono ?_
      intro e w7 h
      obtain ⟨r2, hr2⟩ : ∃ r2, valueP n c qs = r2 := ⟨_, rfl⟩
      rw [hr2] at h
      replace hR := hR.out
      rw [hr2] at hR
      subst hR
      cases r2 with
      | no c1 rs =>
        obtain ⟨rfl, ht7, hg7⟩ := h
        exact ⟨rfl, rfl, ht7, grownBy_trans' hg6d hg7⟩
      | ok m2 rs =>
        obtain ⟨rfl, ht7, hg7⟩ := h
        have hg67 : w6.grownBy w7 (some tb) := ⟨hg7.os, hg7.tape, hg7.output, hg7.size, hg7.block⟩
        have hgF := grownBy_trans' hg6d hg7
        have q0 := cell_grown q0 hg67 (by have := hz.out; omega)
        have q1 := cell_grown q1 hg67 (by have := hz.out; omega)
        have q2 := cell_grown q2 hg67 (by have := hz.out; omega)
        have q3 := cell_grown q3 hg67 (by have := hz.out; omega)
        have q4 := cell_grown q4 hg67 (by have := hz.out; omega)
        have q13 := cell_grown q13 hg67 hgt
        have q14 := cell_grown q14 hg67 hgt
        have q15 := cell_grown q15 hg67 hgt
        have q16 := cell_grown q16 hg67 hgt
        refine ⟨⟨q0, q1, q2, q3, q4, q13, q14, q15, q16⟩, ?_⟩
        refine wpAnyT_one (i := 6) rfl (by kernel_rfl) rfl ?_
        go_simp
        refine wpAnyT_done (by kernel_rfl) ?_ _
        clear ihb ihc q0 q1 q2 q3 q4 q5 q6 q7 q8 q9 q10 q11 q12 q13 q14 q15 q16
        go_wp2
        go_ret
        exact ⟨rfl, ht7, hgF⟩
    · rw [if_pos hm] at hR
      replace hR := Lib.hid hR
      have hm0 : (m == 0) = false := by simpa using hm
      have hm1 : (!(m == 0)) = true := by rw [hm0]; rfl
      go_wp2_with fail
      refine wp_region_last (L := 6) (S := (fun w' : World => w'.cell? ⟨z, 0, none⟩ = some (.iface 41 (.pointer (some ⟨tb, 0, none⟩))) ∧ w'.cell? ⟨z + 1, 0, none⟩ = some (.string x) ∧ w'.cell? ⟨z + 1, 1, none⟩ = some (.int .i64 num) ∧ w'.cell? ⟨z + 1, 2, none⟩ = some (.string ⟨name.toArray⟩) ∧ w'.cell? ⟨z + 1, 3, none⟩ = some (.slice (some ⟨g, off, none⟩) 3 cc) ∧ w'.cell? ⟨g, off + 4, none⟩ = some (b0) ∧ w'.cell? ⟨g, off + 4 + 1, none⟩ = some (b1) ∧ w'.cell? ⟨g, off + 4 + 2, none⟩ = some (b2) ∧ w'.cell? ⟨g, off + 4 + 3, none⟩ = some (b3))) (by kernel_rfl) ?_
      have hS0 : (fun w' : World => w'.cell? ⟨z, 0, none⟩ = some (.iface 41 (.pointer (some ⟨tb, 0, none⟩))) ∧ w'.cell? ⟨z + 1, 0, none⟩ = some (.string x) ∧ w'.cell? ⟨z + 1, 1, none⟩ = some (.int .i64 num) ∧ w'.cell? ⟨z + 1, 2, none⟩ = some (.string ⟨name.toArray⟩) ∧ w'.cell? ⟨z + 1, 3, none⟩ = some (.slice (some ⟨g, off, none⟩) 3 cc) ∧ w'.cell? ⟨g, off + 4, none⟩ = some (b0) ∧ w'.cell? ⟨g, off + 4 + 1, none⟩ = some (b1) ∧ w'.cell? ⟨g, off + 4 + 2, none⟩ = some (b2) ∧ w'.cell? ⟨g, off + 4 + 3, none⟩ = some (b3)) w6.drew := ⟨q0, q1, q2, q3, q4, q9, q10, q11, q12⟩
      refine wpAnyT_takeT (n := 40) (i := 0) (v := .agg #[.iface 41 (.pointer (some ⟨tb, 0, none⟩))]) rfl (by kernel_rfl) (by kernel_rfl) (by kernel_rfl) (by kernel_rfl) (by kernel_rfl) (fun _ _ _ h => h) (Or.inl ⟨by rfl, ?_⟩) hS0 ?_
      · intro W hW
        obtain ⟨k0, k1, k2, k3, k4, k5, k6, k7, k8⟩ := hW
        clear hS0 ihb ihc q0 q1 q2 q3 q4 q5 q6 q7 q8 q9 q10 q11 q12 q13 q14 q15 q16
        go_simp
        try (intro hx; exfalso; omega)
      try simp only [Act.put, List.setIfInBounds_toArray]
      refine wpAnyT_takeT (n := 40) (i := 1) (v := .pointer (some ⟨z + 1, 3, none⟩)) rfl (by kernel_rfl) (by kernel_rfl) (by kernel_rfl) (by kernel_rfl) (by kernel_rfl) (fun _ _ _ h => h) (Or.inl ⟨by rfl, ?_⟩) hS0 ?_
      · intro W hW
        obtain ⟨k0, k1, k2, k3, k4, k5, k6, k7, k8⟩ := hW
        clear hS0 ihb ihc q0 q1 q2 q3 q4 q5 q6 q7 q8 q9 q10 q11 q12 q13 q14 q15 q16
        go_simp
        try (intro hx; exfalso; omega)
      try simp only [Act.put]
      refine wpAnyT_takeT (n := 40) (i := 2) (v := .slice (some ⟨g, off, none⟩) 3 cc) rfl (by kernel_rfl) (by kernel_rfl) (by kernel_rfl) (by kernel_rfl) (by kernel_rfl) (fun _ _ _ h => h) (Or.inl ⟨by rfl, ?_⟩) hS0 ?_
      · intro W hW
        obtain ⟨k0, k1, k2, k3, k4, k5, k6, k7, k8⟩ := hW
        clear hS0 ihb ihc q0 q1 q2 q3 q4 q5 q6 q7 q8 q9 q10 q11 q12 q13 q14 q15 q16
        go_simp
        try (intro hx; exfalso; omega)
      try simp only [Act.put]
      refine wpAnyT_takeT (n := 40) (i := 3) (v := .pointer (some ⟨g, off + 4, none⟩)) rfl (by kernel_rfl) (by kernel_rfl) (by kernel_rfl) (by kernel_rfl) (by kernel_rfl) (fun _ _ _ h => h) (Or.inl ⟨by rfl, ?_⟩) hS0 ?_
      · intro W hW
        obtain ⟨k0, k1, k2, k3, k4, k5, k6, k7, k8⟩ := hW
        clear hS0 ihb ihc q0 q1 q2 q3 q4 q5 q6 q7 q8 q9 q10 q11 q12 q13 q14 q15 q16
        go_simp
        try (intro hx; exfalso; omega)
      try simp only [Act.put]
      refine wpAnyT_takeT (n := 40) (i := 4) (v := .agg #[b0, b1, b2, b3]) rfl (by kernel_rfl) (by kernel_rfl) (by kernel_rfl) (by kernel_rfl) (by kernel_rfl) (fun _ _ _ h => h) (Or.inl ⟨by rfl, ?_⟩) hS0 ?_
      · intro W hW
        obtain ⟨k0, k1, k2, k3, k4, k5, k6, k7, k8⟩ := hW
        clear hS0 ihb ihc q0 q1 q2 q3 q4 q5 q6 q7 q8 q9 q10 q11 q12 q13 q14 q15 q16
        go_simp
        try (intro hx; exfalso; omega)
      try simp only [Act.put]
      clear hS0
      refine wpAnyT_one (i := 5) rfl (by kernel_rfl) rfl ?_
      go_simp
      have hg6d : w.grownBy w6.drew (some tb) := ⟨hgE.os, hgE.tape, hgE.output, hgE.size, hgE.block⟩
      refine (ihb _ qs hg6d ⟨ht6.out.cell, ht6.out.fz, ht6.out.ty⟩ hvq.out (by omega)).mono ?_
      intro e w7 h
      obtain ⟨r2, hr2⟩ : ∃ r2, valueP n b qs = r2 := ⟨_, rfl⟩
      rw [hr2] at h
      replace hR := hR.out
      rw [hr2] at hR
      subst hR
      cases r2 with
      | no c1 rs =>
        obtain ⟨rfl, ht7, hg7⟩ := h
        exact ⟨rfl, rfl, ht7, grownBy_trans' hg6d hg7⟩
      | ok m2 rs =>
        obtain ⟨rfl, ht7, hg7⟩ := h
        have hg67 : w6.grownBy w7 (some tb) := ⟨hg7.os, hg7.tape, hg7.output, hg7.size, hg7.block⟩
        have hgF := grownBy_trans' hg6d hg7
        have q0 := cell_grown q0 hg67 (by have := hz.out; omega)
        have q1 := cell_grown q1 hg67 (by have := hz.out; omega)
        have q2 := cell_grown q2 hg67 (by have := hz.out; omega)
        have q3 := cell_grown q3 hg67 (by have := hz.out; omega)
        have q4 := cell_grown q4 hg67 (by have := hz.out; omega)
        have q9 := cell_grown q9 hg67 hgt
        have q10 := cell_grown q10 hg67 hgt
        have q11 := cell_grown q11 hg67 hgt
        have q12 := cell_grown q12 hg67 hgt
        refine ⟨⟨q0, q1, q2, q3, q4, q9, q10, q11, q12⟩, ?_⟩
        refine wpAnyT_one (i := 6) rfl (by kernel_rfl) rfl ?_
        go_simp
        refine wpAnyT_done (by kernel_rfl) ?_ _
        clear ihb ihc q0 q1 q2 q3 q4 q5 q6 q7 q8 q9 q10 q11 q12 q13 q14 q15 q16
        go_wp2
        go_ret
        exact ⟨rfl, ht7, hgF⟩
end Go.Proofs.YtlijlgbaikijnaaGreatDoor
