/-
  The reference's Text. Conditions: none.
-/
import Derived.Test.YtlijlgbaikijnaaGreatDoorSmVal
import Derived.Test.YtlijlgbaikijnaaGreatDoorSmFace
import Derived.Lib.ConvBytes
import Derived.Laws.BytesString
import Derived.Laws.Concat
namespace Go.Proofs.YtlijlgbaikijnaaGreatDoor
open Go Go.RowKit

section
variable {P : Program} {ops : Array Oper} {Q : Exit → Act → World → Prop} {md : Region.Mode} {S : World → Prop} {L : Nat}
/-- Two operations that may come up. -/
theorem wpAnyT_two {i j : Nat} {oi oj : Oper} {fuel : Nat} {listed : Array Bool} {a : Act} {w : World} (hi : ops[i]? = some oi) (hj : ops[j]? = some oj) (hr : Region.ready md ops listed = [i, j]) (gi : oi.guard = none) (gj : oj.guard = none)
    (h1 : oi.wp P a w (fun a' w' => (i ≠ L → S w') ∧ wpAnyT P md ops Q S L fuel (listed.setIfInBounds i true) a' w') Q)
    (h2 : oj.wp P a w (fun a' w' => (j ≠ L → S w') ∧ wpAnyT P md ops Q S L fuel (listed.setIfInBounds j true) a' w') Q) : wpAnyT P md ops Q S L (fuel + 1) listed a w := by
  refine ⟨fun h0 => (by rw [hr] at h0; cases h0), fun k hk => ?_⟩
  rw [hr] at hk
  rcases List.mem_cons.1 hk with rfl | hk
  · unfold wpOp
    simp only [hi, Region.wanted, gi, if_true]
    exact .inl h1
  · rw [List.mem_singleton] at hk
    subst hk
    unfold wpOp
    simp only [hj, Region.wanted, gj, if_true]
    exact .inl h2
end
theorem byte_str (b : UInt8) (g : Nat) (W : World) (h : W.cell? ⟨g, 0, none⟩ = some (.int .u8 (b.toNat : Int))) :
    (convert 68 9 (.slice (some ⟨g, 0, none⟩) 1 1)).run Tryz.prog W = .ok (.string ⟨#[b]⟩) W := by
  rw [run_convert_bytes_string W 68 9 5 _ _ _ Tryz.underlying68 Tryz.underlying5 Tryz.underlying9]
  have hl : (loadCells ⟨g, 0, none⟩ 1).run Tryz.prog W = .ok (([(b.toNat : Int)]).map (Value.int .u8)).toArray W := by
    have := run_loadCells_list (P := Tryz.prog) (w := W) ⟨g, 0, none⟩ (([(b.toNat : Int)]).map (Value.int .u8)) (fun j v hv => by
      rw [add_plain0, Nat.zero_add]
      match j, hv with
      | 0, hv => rw [h]; simpa using hv)
    simpa using this
  rw [run_bytesToString W ⟨g, 0, none⟩ 1 1 _ hl]
  rw [show ByteArray.empty = ⟨#[]⟩ from rfl]
  simp [ByteArray.push]
theorem wrap_dig (d : Nat) (h : d < 10) : IntKind.u8.wrap (48 + (d : Int)) = ((UInt8.ofNat (48 + d)).toNat : Int) := by
  have : d = 0 ∨ d = 1 ∨ d = 2 ∨ d = 3 ∨ d = 4 ∨ d = 5 ∨ d = 6 ∨ d = 7 ∨ d = 8 ∨ d = 9 := by omega
  rcases this with rfl | rfl | rfl | rfl | rfl | rfl | rfl | rfl | rfl | rfl <;> decide
theorem tl_append (a b : ByteArray) : tl (a ++ b) = tl a ++ tl b := by unfold tl; rw [ByteArray.data_append, Array.toList_append]
def TextR (n : Int) (w : World) (e : Ending) (w' : World) : Prop := e = .returned (.string ⟨(Lib.itoa n).toArray⟩) ∧ w.grownBy w' none

set_option maxHeartbeats 4000000 in
set_option maxRecDepth 100000 in
theorem rText_small (d : Nat) (h : d < 10) (w : World) : Calls Tryz.prog 11 #[.int .i64 (d : Int)] w (TextR d w) := by
  have hit : Lib.itoa (d : Int) = [UInt8.ofNat (48 + d)] := by
    unfold Lib.itoa
    rw [if_neg (by omega), Int.toNat_natCast, Lib.decDigits_one h]
  unfold TextR
  rw [hit]
  have i0 : ¬ (d : Int) < 0 := by omega
  have i1 : (d : Int) < 10 := by omega
  have k1 := wrap_dig d h
  have hcv := fun (W : World) h => byte_str (UInt8.ofNat (48 + d)) w.heap.size W h
  generalize UInt8.ofNat (48 + d) = b at k1 hcv ⊢
  clear hit
  go_enter Tryz.func11, Tryz.ntmps11
  go_wp2
  go_ret
  exact ⟨rfl, World.grownBy_alloc _ _ _⟩
set_option maxHeartbeats 4000000 in
set_option maxRecDepth 100000 in
theorem rText_smallNeg (d : Nat) (h : d < 10) (h0 : 0 < d) (w : World) : Calls Tryz.prog 11 #[.int .i64 (-(d : Int))] w (TextR (-(d : Int)) w) := by
  have hit : Lib.itoa (-(d : Int)) = [45, UInt8.ofNat (48 + d)] := by
    unfold Lib.itoa
    rw [if_pos (by omega), Int.natAbs_neg, Int.natAbs_natCast, Lib.decDigits_one h]
  unfold TextR
  rw [hit]
  obtain ⟨n, hn⟩ : ∃ n : Int, -(d : Int) = n := ⟨_, rfl⟩
  have i0 : n < 0 := by omega
  have i1 : -10 < n := by omega
  have k0 : wrap64 (-(n.tmod 10)) = (d : Int) := by
    rw [← hn, Int.neg_tmod, Int.neg_neg, Int.tmod_eq_emod_of_nonneg (by omega)]; unfold wrap64; omega
  have k1 := wrap_dig d h
  have k2 : wrap64 (48 + (d : Int)) = 48 + (d : Int) := by unfold wrap64; omega
  have hcv := fun (W : World) h => byte_str (UInt8.ofNat (48 + d)) w.heap.size W h
  rw [hn]
  generalize UInt8.ofNat (48 + d) = b at k1 hcv ⊢
  clear hit hn
  go_enter Tryz.func11, Tryz.ntmps11
  go_wp2
  go_ret
  exact ⟨rfl, World.grownBy_alloc _ _ _⟩

set_option maxHeartbeats 8000000 in
set_option maxRecDepth 100000 in
theorem rText_big
(u : Nat) (h : ¬ u < 10) (hr : u ≤ 9223372036854775807) (ih : ∀ W, Calls Tryz.prog 11 #[.int .i64 ((u / 10 : Nat) : Int)] W (TextR ((u / 10 : Nat) : Int) W)) (w : World) : Calls Tryz.prog 11 #[.int .i64 (u : Int)] w (TextR u w) := by
  have hit : Lib.itoa (u : Int) = Lib.itoa ((u / 10 : Nat) : Int) ++ [UInt8.ofNat (48 + u % 10)] := by
    unfold Lib.itoa
    rw [if_neg (by omega), if_neg (by omega), Int.toNat_natCast, Int.toNat_natCast, Lib.decDigits, dif_neg h]
  unfold TextR at ih ⊢
  rw [hit]
  have hfin : (⟨(Lib.itoa ((u / 10 : Nat) : Int)).toArray⟩ : ByteArray) ++ ⟨#[UInt8.ofNat (48 + u % 10)]⟩ = ⟨(Lib.itoa ((u / 10 : Nat) : Int) ++ [UInt8.ofNat (48 + u % 10)]).toArray⟩ := tl_inj (by rw [tl_append]; rfl)
  have k1 := wrap_dig (u % 10) (Nat.mod_lt _ (by omega))
  have hcv := fun g (W : World) h => byte_str (UInt8.ofNat (48 + u % 10)) g W h
  have i0 : ¬ (u : Int) < 0 := by omega
  have i1 : ¬ (u : Int) < 10 := by omega
  have k2 : wrap64 ((u : Int).tdiv 10) = ((u / 10 : Nat) : Int) := by rw [Int.tdiv_eq_ediv_of_nonneg (by omega)]; unfold wrap64; omega
  have k3 : (u : Int).tmod 10 = ((u % 10 : Nat) : Int) := by rw [Int.tmod_eq_emod_of_nonneg (by omega)]; omega
  have k4 : wrap64 (48 + ((u % 10 : Nat) : Int)) = 48 + ((u % 10 : Nat) : Int) := by unfold wrap64; omega
  have k5 : IntKind.i64.wrap ((u : Int) / 10) = ((u / 10 : Nat) : Int) := by rw [IntKind.wrap_i64]; omega
  have k6 : IntKind.i64.wrap (48 + ((u % 10 : Nat) : Int)) = 48 + ((u % 10 : Nat) : Int) := by rw [IntKind.wrap_i64]; omega
  generalize UInt8.ofNat (48 + u % 10) = b at k1 hcv hfin ⊢
  generalize hd : u % 10 = D at k1 k3 k4 k6
  have hq1 : -9223372036854775808 ≤ ((u / 10 : Nat) : Int) ∧ ((u / 10 : Nat) : Int) ≤ 9223372036854775807 := by omega
  generalize ((u / 10 : Nat) : Int) = q at ih k2 k5 hfin hq1 ⊢
  have hTs : (⟨(Lib.itoa q).toArray⟩ : ByteArray).size ≤ 21 := by show (Lib.itoa q).toArray.size ≤ 21; rw [List.size_toArray]; exact itoa_small (by omega) (by omega)
  generalize (⟨(Lib.itoa q).toArray⟩ : ByteArray) = T at ih hfin hTs
  generalize (⟨(Lib.itoa q ++ [b]).toArray⟩ : ByteArray) = T2 at hfin ⊢
  have hadd : ∀ W : World, (Op.stringOp .add T ⟨#[b]⟩).run Tryz.prog W = .ok (.string T2) W := fun W => by rw [run_string_add_sum W T ⟨#[b]⟩ (by show T.size + 1 ≤ _; omega), hfin]
  clear hit hd
  go_enter Tryz.func11, Tryz.ntmps11
  go_wp2_with fail
  refine wp_region_last (L := 10) (S := fun _ => True) (by kernel_rfl) ?_
  have hS0 : (fun _ : World => True) w.drew := trivial
  refine wpAnyT_takeT (n := 40) (i := 0) (v := .int .i64 (u : Int)) rfl (by kernel_rfl) (by kernel_rfl) (by kernel_rfl) (by kernel_rfl) (by kernel_rfl) (fun _ _ _ h => h) (Or.inl ⟨by rfl, ?_⟩) hS0 ?_
  · intro W _
    clear hS0 ih hcv
    go_simp
    try (intro hx; exfalso; omega)
  try simp only [Act.put, List.setIfInBounds_toArray]
  refine wpAnyT_takeT (n := 40) (i := 1) (v := .int .i64 q) rfl (by kernel_rfl) (by kernel_rfl) (by kernel_rfl) (by kernel_rfl) (by kernel_rfl) (fun _ _ _ h => h) (Or.inl ⟨by rfl, ?_⟩) hS0 ?_
  · intro W _
    clear hS0 ih hcv
    go_simp
    try (intro hx; exfalso; omega)
  try simp only [Act.put]
  refine wpAnyT_takeT (n := 40) (i := 3) (v := .int .i64 (u : Int)) rfl (by kernel_rfl) (by kernel_rfl) (by kernel_rfl) (by kernel_rfl) (by kernel_rfl) (fun _ _ _ h => h) (Or.inl ⟨by rfl, ?_⟩) hS0 ?_
  · intro W _
    clear hS0 ih hcv
    go_simp
    try (intro hx; exfalso; omega)
  try simp only [Act.put]
  refine wpAnyT_takeT (n := 40) (i := 4) (v := .int .i64 (D : Int)) rfl (by kernel_rfl) (by kernel_rfl) (by kernel_rfl) (by kernel_rfl) (by kernel_rfl) (fun _ _ _ h => h) (Or.inl ⟨by rfl, ?_⟩) hS0 ?_
  · intro W _
    clear hS0 ih hcv
    go_simp
    try (intro hx; exfalso; omega)
  try simp only [Act.put]
  refine wpAnyT_takeT (n := 40) (i := 5) (v := .int .i64 (48 + (D : Int))) rfl (by kernel_rfl) (by kernel_rfl) (by kernel_rfl) (by kernel_rfl) (by kernel_rfl) (fun _ _ _ h => h) (Or.inl ⟨by rfl, ?_⟩) hS0 ?_
  · intro W _
    clear hS0 ih hcv
    go_simp
    try (intro hx; exfalso; omega)
  try simp only [Act.put]
  refine wpAnyT_takeT (n := 40) (i := 6) (v := .int .u8 (b.toNat : Int)) rfl (by kernel_rfl) (by kernel_rfl) (by kernel_rfl) (by kernel_rfl) (by kernel_rfl) (fun _ _ _ h => h) (Or.inl ⟨by rfl, ?_⟩) hS0 ?_
  · intro W _
    clear hS0 ih hcv
    go_simp
    try (intro hx; exfalso; omega)
  try simp only [Act.put]
  have hcw := ih w.drew
  have hnewb : ∀ W : World, (W.alloc (.cells #[.int .u8 (b.toNat : Int)] 5)).cell? ⟨W.heap.size, 0, none⟩ = some (.int .u8 (b.toNat : Int)) := fun W => World.cell?_alloc_new W _ _ 0
  refine wpAnyT_two (i := 2) (j := 7) rfl rfl (by kernel_rfl) rfl rfl ?_ ?_
  · go_simp
    refine hcw.mono ?_
    rintro e w1 ⟨rfl, hg1⟩
    have hcv1 := hcv w1.heap.size (w1.alloc (.cells #[.int .u8 (b.toNat : Int)] 5)) (hnewb w1)
    have hgE : w.grownBy (w1.alloc (.cells #[.int .u8 (b.toNat : Int)] 5)) none := grownBy_trans' (b := w1) ⟨hg1.os, hg1.tape, hg1.output, hg1.size, hg1.block⟩ (World.grownBy_alloc _ _ _)
    clear hcv hcw ih
    try (refine And.intro trivial ?_)
    refine wpAnyT_one (i := 7) rfl (by kernel_rfl) rfl ?_
    go_simp
    refine wpAnyT_one (i := 8) rfl (by kernel_rfl) rfl ?_
    go_simp
    refine wpAnyT_one (i := 9) rfl (by kernel_rfl) rfl ?_
    go_simp
    refine wpAnyT_one (i := 10) rfl (by kernel_rfl) rfl ?_
    go_simp
    refine wpAnyT_done (by kernel_rfl) ?_ _
    clear hcv1
    go_wp2
    go_ret
    exact ⟨rfl, hgE⟩
  · go_simp
    have hcw2 := ih (w.alloc (.cells #[.int .u8 (b.toNat : Int)] 5)).drew
    have hcv0 := hcv w.heap.size
    have hnb := hnewb w
    refine wpAnyT_two (i := 2) (j := 8) rfl rfl (by kernel_rfl) rfl rfl ?_ ?_
    · go_simp
      refine hcw2.mono ?_
      rintro e w1 ⟨rfl, hg1⟩
      have hcv1 := hcv0 w1 (hg1.cell hnb (by simp))
      have hgE : w.grownBy w1 none := grownBy_trans' (World.grownBy_alloc w (.cells #[.int .u8 (b.toNat : Int)] 5) none) ⟨hg1.os, hg1.tape, hg1.output, hg1.size, hg1.block⟩
      clear hcv hcw ih hcv0 hnb hcw2
      try (refine And.intro trivial ?_)
      refine wpAnyT_one (i := 8) rfl (by kernel_rfl) rfl ?_
      go_simp
      refine wpAnyT_one (i := 9) rfl (by kernel_rfl) rfl ?_
      go_simp
      refine wpAnyT_one (i := 10) rfl (by kernel_rfl) rfl ?_
      go_simp
      refine wpAnyT_done (by kernel_rfl) ?_ _
      clear hcv1
      go_wp2
      go_ret
      exact ⟨rfl, hgE⟩
    · have hcv1 := hcv0 (w.alloc (.cells #[.int .u8 (b.toNat : Int)] 5)).drew hnb
      go_simp
      refine wpAnyT_one (i := 2) rfl (by kernel_rfl) rfl ?_
      go_simp
      refine hcw2.mono ?_
      rintro e w1 ⟨rfl, hg1⟩
      have hgE : w.grownBy w1 none := grownBy_trans' (World.grownBy_alloc w (.cells #[.int .u8 (b.toNat : Int)] 5) none) ⟨hg1.os, hg1.tape, hg1.output, hg1.size, hg1.block⟩
      clear hcv hcw ih hcv0 hnb hcw2 hcv1
      try (refine And.intro trivial ?_)
      refine wpAnyT_one (i := 9) rfl (by kernel_rfl) rfl ?_
      go_simp
      refine wpAnyT_one (i := 10) rfl (by kernel_rfl) rfl ?_
      go_simp
      refine wpAnyT_done (by kernel_rfl) ?_ _
      go_wp2
      go_ret
      exact ⟨rfl, hgE⟩

set_option maxHeartbeats 8000000 in
set_option maxRecDepth 100000 in
theorem rText_bigNeg
(u : Nat) (h : ¬ u < 10) (hr : u ≤ 9223372036854775808) (ih : ∀ W, Calls Tryz.prog 11 #[.int .i64 (-((u / 10 : Nat) : Int))] W (TextR (-((u / 10 : Nat) : Int)) W)) (w : World) : Calls Tryz.prog 11 #[.int .i64 (-(u : Int))] w (TextR (-(u : Int)) w) := by
  have hit : Lib.itoa (-(u : Int)) = Lib.itoa (-((u / 10 : Nat) : Int)) ++ [UInt8.ofNat (48 + u % 10)] := by
    unfold Lib.itoa
    rw [if_pos (by omega), if_pos (by omega), Int.natAbs_neg, Int.natAbs_natCast, Int.natAbs_neg, Int.natAbs_natCast, Lib.decDigits, dif_neg h]
    rfl
  unfold TextR at ih ⊢
  rw [hit]
  have hfin : (⟨(Lib.itoa (-((u / 10 : Nat) : Int))).toArray⟩ : ByteArray) ++ ⟨#[UInt8.ofNat (48 + u % 10)]⟩ = ⟨(Lib.itoa (-((u / 10 : Nat) : Int)) ++ [UInt8.ofNat (48 + u % 10)]).toArray⟩ := tl_inj (by rw [tl_append]; rfl)
  have k1 := wrap_dig (u % 10) (Nat.mod_lt _ (by omega))
  have hcv := fun g (W : World) h => byte_str (UInt8.ofNat (48 + u % 10)) g W h
  obtain ⟨n, hn⟩ : ∃ n : Int, -(u : Int) = n := ⟨_, rfl⟩
  have i0 : n < 0 := by omega
  have i1 : ¬ -10 < n := by omega
  have k2 : wrap64 (n.tdiv 10) = -((u / 10 : Nat) : Int) := by rw [← hn, Int.neg_tdiv, Int.tdiv_eq_ediv_of_nonneg (by omega)]; unfold wrap64; omega
  have k3 : wrap64 (-(n.tmod 10)) = ((u % 10 : Nat) : Int) := by rw [← hn, Int.neg_tmod, Int.neg_neg, Int.tmod_eq_emod_of_nonneg (by omega)]; unfold wrap64; omega
  have k4 : wrap64 (48 + ((u % 10 : Nat) : Int)) = 48 + ((u % 10 : Nat) : Int) := by unfold wrap64; omega
  rw [hn]
  have k6 : IntKind.i64.wrap (48 + ((u % 10 : Nat) : Int)) = 48 + ((u % 10 : Nat) : Int) := by rw [IntKind.wrap_i64]; omega
  have k5 : IntKind.i64.wrap (n.tdiv 10) = -((u / 10 : Nat) : Int) := by rw [← hn, Int.neg_tdiv, Int.tdiv_eq_ediv_of_nonneg (by omega), IntKind.wrap_i64]; omega
  generalize UInt8.ofNat (48 + u % 10) = b at k1 hcv hfin ⊢
  generalize hd : u % 10 = D at k1 k3 k4 k6
  have hq1 : -9223372036854775808 ≤ -((u / 10 : Nat) : Int) ∧ -((u / 10 : Nat) : Int) ≤ 9223372036854775807 := by omega
  generalize -((u / 10 : Nat) : Int) = q at ih k2 k5 hfin hq1 ⊢
  have hTs : (⟨(Lib.itoa q).toArray⟩ : ByteArray).size ≤ 21 := by show (Lib.itoa q).toArray.size ≤ 21; rw [List.size_toArray]; exact itoa_small (by omega) (by omega)
  generalize (⟨(Lib.itoa q).toArray⟩ : ByteArray) = T at ih hfin hTs
  generalize (⟨(Lib.itoa q ++ [b]).toArray⟩ : ByteArray) = T2 at hfin ⊢
  have hadd : ∀ W : World, (Op.stringOp .add T ⟨#[b]⟩).run Tryz.prog W = .ok (.string T2) W := fun W => by rw [run_string_add_sum W T ⟨#[b]⟩ (by show T.size + 1 ≤ _; omega), hfin]
  clear hit hd hn
  go_enter Tryz.func11, Tryz.ntmps11
  go_wp2_with fail
  refine wp_region_last (L := 9) (S := fun _ => True) (by kernel_rfl) ?_
  have hS0 : (fun _ : World => True) w.drew := trivial
  refine wpAnyT_takeT (n := 40) (i := 0) (v := .int .i64 n) rfl (by kernel_rfl) (by kernel_rfl) (by kernel_rfl) (by kernel_rfl) (by kernel_rfl) (fun _ _ _ h => h) (Or.inl ⟨by rfl, ?_⟩) hS0 ?_
  · intro W _
    clear hS0 ih hcv
    go_simp
    try (intro hx; exfalso; omega)
  try simp only [Act.put, List.setIfInBounds_toArray]
  refine wpAnyT_takeT (n := 40) (i := 1) (v := .int .i64 q) rfl (by kernel_rfl) (by kernel_rfl) (by kernel_rfl) (by kernel_rfl) (by kernel_rfl) (fun _ _ _ h => h) (Or.inl ⟨by rfl, ?_⟩) hS0 ?_
  · intro W _
    clear hS0 ih hcv
    go_simp
    try (intro hx; exfalso; omega)
  try simp only [Act.put]
  refine wpAnyT_takeT (n := 40) (i := 3) (v := .int .i64 (D : Int)) rfl (by kernel_rfl) (by kernel_rfl) (by kernel_rfl) (by kernel_rfl) (by kernel_rfl) (fun _ _ _ h => h) (Or.inl ⟨by rfl, ?_⟩) hS0 ?_
  · intro W _
    clear hS0 ih hcv
    go_simp
    try (intro hx; exfalso; omega)
  try simp only [Act.put]
  refine wpAnyT_takeT (n := 40) (i := 4) (v := .int .i64 (48 + (D : Int))) rfl (by kernel_rfl) (by kernel_rfl) (by kernel_rfl) (by kernel_rfl) (by kernel_rfl) (fun _ _ _ h => h) (Or.inl ⟨by rfl, ?_⟩) hS0 ?_
  · intro W _
    clear hS0 ih hcv
    go_simp
    try (intro hx; exfalso; omega)
  try simp only [Act.put]
  refine wpAnyT_takeT (n := 40) (i := 5) (v := .int .u8 (b.toNat : Int)) rfl (by kernel_rfl) (by kernel_rfl) (by kernel_rfl) (by kernel_rfl) (by kernel_rfl) (fun _ _ _ h => h) (Or.inl ⟨by rfl, ?_⟩) hS0 ?_
  · intro W _
    clear hS0 ih hcv
    go_simp
    try (intro hx; exfalso; omega)
  try simp only [Act.put]
  have hcw := ih w.drew
  have hnewb : ∀ W : World, (W.alloc (.cells #[.int .u8 (b.toNat : Int)] 5)).cell? ⟨W.heap.size, 0, none⟩ = some (.int .u8 (b.toNat : Int)) := fun W => World.cell?_alloc_new W _ _ 0
  refine wpAnyT_two (i := 2) (j := 6) rfl rfl (by kernel_rfl) rfl rfl ?_ ?_
  · go_simp
    refine hcw.mono ?_
    rintro e w1 ⟨rfl, hg1⟩
    have hcv1 := hcv w1.heap.size (w1.alloc (.cells #[.int .u8 (b.toNat : Int)] 5)) (hnewb w1)
    have hgE : w.grownBy (w1.alloc (.cells #[.int .u8 (b.toNat : Int)] 5)) none := grownBy_trans' (b := w1) ⟨hg1.os, hg1.tape, hg1.output, hg1.size, hg1.block⟩ (World.grownBy_alloc _ _ _)
    clear hcv hcw ih
    try (refine And.intro trivial ?_)
    refine wpAnyT_one (i := 6) rfl (by kernel_rfl) rfl ?_
    go_simp
    refine wpAnyT_one (i := 7) rfl (by kernel_rfl) rfl ?_
    go_simp
    refine wpAnyT_one (i := 8) rfl (by kernel_rfl) rfl ?_
    go_simp
    refine wpAnyT_one (i := 9) rfl (by kernel_rfl) rfl ?_
    go_simp
    refine wpAnyT_done (by kernel_rfl) ?_ _
    clear hcv1
    go_wp2
    go_ret
    exact ⟨rfl, hgE⟩
  · go_simp
    have hcw2 := ih (w.alloc (.cells #[.int .u8 (b.toNat : Int)] 5)).drew
    have hcv0 := hcv w.heap.size
    have hnb := hnewb w
    refine wpAnyT_two (i := 2) (j := 7) rfl rfl (by kernel_rfl) rfl rfl ?_ ?_
    · go_simp
      refine hcw2.mono ?_
      rintro e w1 ⟨rfl, hg1⟩
      have hcv1 := hcv0 w1 (hg1.cell hnb (by simp))
      have hgE : w.grownBy w1 none := grownBy_trans' (World.grownBy_alloc w (.cells #[.int .u8 (b.toNat : Int)] 5) none) ⟨hg1.os, hg1.tape, hg1.output, hg1.size, hg1.block⟩
      clear hcv hcw ih hcv0 hnb hcw2
      try (refine And.intro trivial ?_)
      refine wpAnyT_one (i := 7) rfl (by kernel_rfl) rfl ?_
      go_simp
      refine wpAnyT_one (i := 8) rfl (by kernel_rfl) rfl ?_
      go_simp
      refine wpAnyT_one (i := 9) rfl (by kernel_rfl) rfl ?_
      go_simp
      refine wpAnyT_done (by kernel_rfl) ?_ _
      clear hcv1
      go_wp2
      go_ret
      exact ⟨rfl, hgE⟩
    · have hcv1 := hcv0 (w.alloc (.cells #[.int .u8 (b.toNat : Int)] 5)).drew hnb
      go_simp
      refine wpAnyT_one (i := 2) rfl (by kernel_rfl) rfl ?_
      go_simp
      refine hcw2.mono ?_
      rintro e w1 ⟨rfl, hg1⟩
      have hgE : w.grownBy w1 none := grownBy_trans' (World.grownBy_alloc w (.cells #[.int .u8 (b.toNat : Int)] 5) none) ⟨hg1.os, hg1.tape, hg1.output, hg1.size, hg1.block⟩
      clear hcv hcw ih hcv0 hnb hcw2 hcv1
      try (refine And.intro trivial ?_)
      refine wpAnyT_one (i := 8) rfl (by kernel_rfl) rfl ?_
      go_simp
      refine wpAnyT_one (i := 9) rfl (by kernel_rfl) rfl ?_
      go_simp
      refine wpAnyT_done (by kernel_rfl) ?_ _
      go_wp2
      go_ret
      exact ⟨rfl, hgE⟩

theorem rText_pos : ∀ (k u : Nat), u ≤ k → u ≤ 9223372036854775807 → ∀ w, Calls Tryz.prog 11 #[.int .i64 (u : Int)] w (TextR u w)
  | k, u, hk, hu, w => by
    by_cases h : u < 10
    · exact rText_small u h w
    · match k, hk with
      | 0, hk => omega
      | k + 1, hk => exact rText_big u h hu (fun W => rText_pos k (u / 10) (by omega) (by omega) W) w
theorem rText_neg : ∀ (k u : Nat), u ≤ k → 0 < u → u ≤ 9223372036854775808 → ∀ w, Calls Tryz.prog 11 #[.int .i64 (-(u : Int))] w (TextR (-(u : Int)) w)
  | k, u, hk, h0, hu, w => by
    by_cases h : u < 10
    · exact rText_smallNeg u h h0 w
    · match k, hk with
      | 0, hk => omega
      | k + 1, hk => exact rText_bigNeg u h hu (fun W => rText_neg k (u / 10) (by omega) (by omega) (by omega) W) w
theorem rText_any (n : Int) (h : InR n) (w : World) : Calls Tryz.prog 11 #[.int .i64 n] w (TextR n w) := by
  unfold InR at h
  rcases Int.lt_or_le n 0 with h0 | h0
  · obtain ⟨u, rfl⟩ : ∃ u : Nat, n = -(u : Int) := ⟨n.natAbs, by omega⟩
    exact rText_neg u u (Nat.le_refl _) (by omega) (by omega) w
  · obtain ⟨u, rfl⟩ : ∃ u : Nat, n = (u : Int) := ⟨n.natAbs, by omega⟩
    exact rText_pos u u (Nat.le_refl _) (by omega) w
end Go.Proofs.YtlijlgbaikijnaaGreatDoor
