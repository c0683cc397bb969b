/-
  The document's Text of a number from 0 to 99. Conditions: none.
-/
import Derived.Test.YtmoihdddmeienaaDoorMkLast2
import Derived.Test.YtmoihdddmeienaaDoorMkWords
import Derived.Test.YtmoihdddmeienaaDoorProg
import Derived.Lib.ConvBytes
import Derived.Lib.ItoaNum
import Derived.Lib.Itoa
import Derived.Laws.BytesString
import Derived.Laws.Concat
namespace Go.Proofs.YtmoihdddmeienaaDoor
open Go Go.RowKit

def tl (s : ByteArray) : List UInt8 := s.data.toList
theorem tl_inj {a b : ByteArray} (h : tl a = tl b) : a = b := by
  cases a with | mk a => cases b with | mk b => simp only [tl] at h; rw [ByteArray.mk.injEq]; exact Array.toList_inj.1 h
theorem grownBy_trans' {a b c : World} {r : Option Nat} (h : a.grownBy b r) (k : b.grownBy c r) : a.grownBy c r :=
  ⟨k.os.trans h.os, k.tape.trans h.tape, k.output.trans h.output, Nat.le_trans h.size k.size, fun i hi hr => (k.block i (Nat.lt_of_lt_of_le hi h.size) hr).trans (h.block i hi hr)⟩
section
variable {P : Program} {ops : Array Oper} {Q : Exit → Act → World → Prop} {md : Region.Mode} {S : World → Prop} {L : Nat}
/-- Two operations that may come up. -/
theorem wpAnyT_two {i j : Nat} {oi oj : Oper} {fuel : Nat} {listed : Array Bool} {a : Act} {w : World} (hi : ops[i]? = some oi) (hj : ops[j]? = some oj) (hr : Region.ready md ops listed = [i, j]) (gi : oi.guard = none) (gj : oj.guard = none)
    (h1 : oi.wp P a w (fun a' w' => (i ≠ L → S w') ∧ wpAnyT P md ops Q S L fuel (listed.setIfInBounds i true) a' w') Q)
    (h2 : oj.wp P a w (fun a' w' => (j ≠ L → S w') ∧ wpAnyT P md ops Q S L fuel (listed.setIfInBounds j true) a' w') Q) : wpAnyT P md ops Q S L (fuel + 1) listed a w := by
  refine ⟨fun h0 => (by rw [hr] at h0; cases h0), fun k hk => ?_⟩
  rw [hr] at hk
  rcases List.mem_cons.1 hk with rfl | hk
  · unfold wpOp
    simp only [hi, Region.wanted, gi, if_true]
    exact .inl h1
  · rw [List.mem_singleton] at hk
    subst hk
    unfold wpOp
    simp only [hj, Region.wanted, gj, if_true]
    exact .inl h2
end
theorem byte_str (b : UInt8) (g : Nat) (W : World) (h : W.cell? ⟨g, 0, none⟩ = some (.int .u8 (b.toNat : Int))) :
    (convert 38 9 (.slice (some ⟨g, 0, none⟩) 1 1)).run Tryd.prog W = .ok (.string ⟨#[b]⟩) W := by
  rw [run_convert_bytes_string W 38 9 5 _ _ _ Tryd.underlying38 Tryd.underlying5 Tryd.underlying9]
  have hl : (loadCells ⟨g, 0, none⟩ 1).run Tryd.prog W = .ok (([(b.toNat : Int)]).map (Value.int .u8)).toArray W := by
    have := run_loadCells_list (P := Tryd.prog) (w := W) ⟨g, 0, none⟩ (([(b.toNat : Int)]).map (Value.int .u8)) (fun j v hv => by
      rw [add_plain0, Nat.zero_add]
      match j, hv with
      | 0, hv => rw [h]; simpa using hv)
    simpa using this
  rw [run_bytesToString W ⟨g, 0, none⟩ 1 1 _ hl]
  rw [show ByteArray.empty = ⟨#[]⟩ from rfl]
  simp [ByteArray.push]
theorem wrap_dig (d : Nat) (h : d < 10) : IntKind.u8.wrap (48 + (d : Int)) = ((UInt8.ofNat (48 + d)).toNat : Int) := by
  have : d = 0 ∨ d = 1 ∨ d = 2 ∨ d = 3 ∨ d = 4 ∨ d = 5 ∨ d = 6 ∨ d = 7 ∨ d = 8 ∨ d = 9 := by omega
  rcases this with rfl | rfl | rfl | rfl | rfl | rfl | rfl | rfl | rfl | rfl <;> decide
theorem tl_append (a b : ByteArray) : tl (a ++ b) = tl a ++ tl b := by unfold tl; rw [ByteArray.data_append, Array.toList_append]
def TextR (n : Int) (w : World) (e : Ending) (w' : World) : Prop := e = .returned (.string ⟨(Lib.itoa n).toArray⟩) ∧ w.grownBy w' none

set_option maxHeartbeats 4000000 in
set_option maxRecDepth 100000 in
theorem rText_small (d : Nat) (h : d < 10) (w : World) : Calls Tryd.prog 13 #[.int .i64 (d : Int)] w (TextR d w) := by
  have hit : Lib.itoa (d : Int) = [UInt8.ofNat (48 + d)] := by
    unfold Lib.itoa
    rw [if_neg (by omega), Int.toNat_natCast, Lib.decDigits_one h]
  unfold TextR
  rw [hit]
  have i0 : ¬ (d : Int) < 0 := by omega
  have i1 : (d : Int) < 10 := by omega
  have k1 := wrap_dig d h
  have hcv := fun (W : World) h => byte_str (UInt8.ofNat (48 + d)) w.heap.size W h
  generalize UInt8.ofNat (48 + d) = b at k1 hcv ⊢
  clear hit
  go_enter Tryd.func13, Tryd.ntmps13
  go_wp2
  go_ret
  exact ⟨rfl, World.grownBy_alloc _ _ _⟩
set_option maxHeartbeats 8000000 in
set_option maxRecDepth 100000 in
theorem rText_big
(u : Nat) (h : ¬ u < 10) (hr : u < 100) (ih : ∀ W, Calls Tryd.prog 13 #[.int .i64 ((u / 10 : Nat) : Int)] W (TextR ((u / 10 : Nat) : Int) W)) (w : World) : Calls Tryd.prog 13 #[.int .i64 (u : Int)] w (TextR u w) := by
  have hit : Lib.itoa (u : Int) = Lib.itoa ((u / 10 : Nat) : Int) ++ [UInt8.ofNat (48 + u % 10)] := by
    unfold Lib.itoa
    rw [if_neg (by omega), if_neg (by omega), Int.toNat_natCast, Int.toNat_natCast, Lib.decDigits, dif_neg h]
  unfold TextR at ih ⊢
  rw [hit]
  have hfin : (⟨(Lib.itoa ((u / 10 : Nat) : Int)).toArray⟩ : ByteArray) ++ ⟨#[UInt8.ofNat (48 + u % 10)]⟩ = ⟨(Lib.itoa ((u / 10 : Nat) : Int) ++ [UInt8.ofNat (48 + u % 10)]).toArray⟩ := tl_inj (by rw [tl_append]; rfl)
  have k1 := wrap_dig (u % 10) (Nat.mod_lt _ (by omega))
  have hcv := fun g (W : World) h => byte_str (UInt8.ofNat (48 + u % 10)) g W h
  have i0 : ¬ (u : Int) < 0 := by omega
  have i1 : ¬ (u : Int) < 10 := by omega
  have k2 : wrap64 ((u : Int).tdiv 10) = ((u / 10 : Nat) : Int) := by rw [Int.tdiv_eq_ediv_of_nonneg (by omega)]; unfold wrap64; omega
  have k3 : (u : Int).tmod 10 = ((u % 10 : Nat) : Int) := by rw [Int.tmod_eq_emod_of_nonneg (by omega)]; omega
  have k4 : wrap64 (48 + ((u % 10 : Nat) : Int)) = 48 + ((u % 10 : Nat) : Int) := by unfold wrap64; omega
  have k5 : IntKind.i64.wrap ((u : Int) / 10) = ((u / 10 : Nat) : Int) := by rw [IntKind.wrap_i64]; omega
  have k6 : IntKind.i64.wrap (48 + ((u % 10 : Nat) : Int)) = 48 + ((u % 10 : Nat) : Int) := by rw [IntKind.wrap_i64]; omega
  generalize UInt8.ofNat (48 + u % 10) = b at k1 hcv hfin ⊢
  generalize hd : u % 10 = D at k1 k3 k4 k6
  have hq1 : -9223372036854775808 ≤ ((u / 10 : Nat) : Int) ∧ ((u / 10 : Nat) : Int) ≤ 9223372036854775807 := by omega
  have hTs0 : (⟨(Lib.itoa ((u / 10 : Nat) : Int)).toArray⟩ : ByteArray).size ≤ 21 := by
    show (Lib.itoa ((u / 10 : Nat) : Int)).toArray.size ≤ 21
    rw [List.size_toArray]
    unfold Lib.itoa
    rw [if_neg (by omega), Int.toNat_natCast, Lib.decDigits_one (by omega)]
    simp
  generalize ((u / 10 : Nat) : Int) = q at ih k2 k5 hfin hq1 hTs0 ⊢
  have hTs : (⟨(Lib.itoa q).toArray⟩ : ByteArray).size ≤ 21 := hTs0
  generalize (⟨(Lib.itoa q).toArray⟩ : ByteArray) = T at ih hfin hTs
  generalize (⟨(Lib.itoa q ++ [b]).toArray⟩ : ByteArray) = T2 at hfin ⊢
  have hadd : ∀ W : World, (Op.stringOp .add T ⟨#[b]⟩).run Tryd.prog W = .ok (.string T2) W := fun W => by rw [run_string_add_sum W T ⟨#[b]⟩ (by show T.size + 1 ≤ _; omega), hfin]
  clear hit hd
  go_enter Tryd.func13, Tryd.ntmps13
  go_wp2_with fail
  refine wp_region_last (L := 10) (S := fun _ => True) (by kernel_rfl) ?_
  have hS0 : (fun _ : World => True) w.drew := trivial
  refine wpAnyT_takeT (n := 40) (i := 0) (v := .int .i64 (u : Int)) rfl (by kernel_rfl) (by kernel_rfl) (by kernel_rfl) (by kernel_rfl) (by kernel_rfl) (fun _ _ _ h => h) (Or.inl ⟨by rfl, ?_⟩) hS0 ?_
  · intro W _
    clear hS0 ih hcv
    go_simp
    try (intro hx; exfalso; omega)
  try simp only [Act.put, List.setIfInBounds_toArray]
  refine wpAnyT_takeT (n := 40) (i := 1) (v := .int .i64 q) rfl (by kernel_rfl) (by kernel_rfl) (by kernel_rfl) (by kernel_rfl) (by kernel_rfl) (fun _ _ _ h => h) (Or.inl ⟨by rfl, ?_⟩) hS0 ?_
  · intro W _
    clear hS0 ih hcv
    go_simp
    try (intro hx; exfalso; omega)
  try simp only [Act.put]
  refine wpAnyT_takeT (n := 40) (i := 3) (v := .int .i64 (u : Int)) rfl (by kernel_rfl) (by kernel_rfl) (by kernel_rfl) (by kernel_rfl) (by kernel_rfl) (fun _ _ _ h => h) (Or.inl ⟨by rfl, ?_⟩) hS0 ?_
  · intro W _
    clear hS0 ih hcv
    go_simp
    try (intro hx; exfalso; omega)
  try simp only [Act.put]
  refine wpAnyT_takeT (n := 40) (i := 4) (v := .int .i64 (D : Int)) rfl (by kernel_rfl) (by kernel_rfl) (by kernel_rfl) (by kernel_rfl) (by kernel_rfl) (fun _ _ _ h => h) (Or.inl ⟨by rfl, ?_⟩) hS0 ?_
  · intro W _
    clear hS0 ih hcv
    go_simp
    try (intro hx; exfalso; omega)
  try simp only [Act.put]
  refine wpAnyT_takeT (n := 40) (i := 5) (v := .int .i64 (48 + (D : Int))) rfl (by kernel_rfl) (by kernel_rfl) (by kernel_rfl) (by kernel_rfl) (by kernel_rfl) (fun _ _ _ h => h) (Or.inl ⟨by rfl, ?_⟩) hS0 ?_
  · intro W _
    clear hS0 ih hcv
    go_simp
    try (intro hx; exfalso; omega)
  try simp only [Act.put]
  refine wpAnyT_takeT (n := 40) (i := 6) (v := .int .u8 (b.toNat : Int)) rfl (by kernel_rfl) (by kernel_rfl) (by kernel_rfl) (by kernel_rfl) (by kernel_rfl) (fun _ _ _ h => h) (Or.inl ⟨by rfl, ?_⟩) hS0 ?_
  · intro W _
    clear hS0 ih hcv
    go_simp
    try (intro hx; exfalso; omega)
  try simp only [Act.put]
  have hcw := ih w.drew
  have hnewb : ∀ W : World, (W.alloc (.cells #[.int .u8 (b.toNat : Int)] 5)).cell? ⟨W.heap.size, 0, none⟩ = some (.int .u8 (b.toNat : Int)) := fun W => World.cell?_alloc_new W _ _ 0
  refine wpAnyT_two (i := 2) (j := 7) rfl rfl (by kernel_rfl) rfl rfl ?_ ?_
  · go_simp
    refine hcw.mono ?_
    rintro e w1 ⟨rfl, hg1⟩
    have hcv1 := hcv w1.heap.size (w1.alloc (.cells #[.int .u8 (b.toNat : Int)] 5)) (hnewb w1)
    have hgE : w.grownBy (w1.alloc (.cells #[.int .u8 (b.toNat : Int)] 5)) none := grownBy_trans' (b := w1) ⟨hg1.os, hg1.tape, hg1.output, hg1.size, hg1.block⟩ (World.grownBy_alloc _ _ _)
    clear hcv hcw ih
    try (refine And.intro trivial ?_)
    refine wpAnyT_one (i := 7) rfl (by kernel_rfl) rfl ?_
    go_simp
    refine wpAnyT_one (i := 8) rfl (by kernel_rfl) rfl ?_
    go_simp
    refine wpAnyT_one (i := 9) rfl (by kernel_rfl) rfl ?_
    go_simp
    refine wpAnyT_one (i := 10) rfl (by kernel_rfl) rfl ?_
    go_simp
    refine wpAnyT_done (by kernel_rfl) ?_ _
    clear hcv1
    go_wp2
    go_ret
    exact ⟨rfl, hgE⟩
  · go_simp
    have hcw2 := ih (w.alloc (.cells #[.int .u8 (b.toNat : Int)] 5)).drew
    have hcv0 := hcv w.heap.size
    have hnb := hnewb w
    refine wpAnyT_two (i := 2) (j := 8) rfl rfl (by kernel_rfl) rfl rfl ?_ ?_
    · go_simp
      refine hcw2.mono ?_
      rintro e w1 ⟨rfl, hg1⟩
      have hcv1 := hcv0 w1 (hg1.cell hnb (by simp))
      have hgE : w.grownBy w1 none := grownBy_trans' (World.grownBy_alloc w (.cells #[.int .u8 (b.toNat : Int)] 5) none) ⟨hg1.os, hg1.tape, hg1.output, hg1.size, hg1.block⟩
      clear hcv hcw ih hcv0 hnb hcw2
      try (refine And.intro trivial ?_)
      refine wpAnyT_one (i := 8) rfl (by kernel_rfl) rfl ?_
      go_simp
      refine wpAnyT_one (i := 9) rfl (by kernel_rfl) rfl ?_
      go_simp
      refine wpAnyT_one (i := 10) rfl (by kernel_rfl) rfl ?_
      go_simp
      refine wpAnyT_done (by kernel_rfl) ?_ _
      clear hcv1
      go_wp2
      go_ret
      exact ⟨rfl, hgE⟩
    · have hcv1 := hcv0 (w.alloc (.cells #[.int .u8 (b.toNat : Int)] 5)).drew hnb
      go_simp
      refine wpAnyT_one (i := 2) rfl (by kernel_rfl) rfl ?_
      go_simp
      refine hcw2.mono ?_
      rintro e w1 ⟨rfl, hg1⟩
      have hgE : w.grownBy w1 none := grownBy_trans' (World.grownBy_alloc w (.cells #[.int .u8 (b.toNat : Int)] 5) none) ⟨hg1.os, hg1.tape, hg1.output, hg1.size, hg1.block⟩
      clear hcv hcw ih hcv0 hnb hcw2 hcv1
      try (refine And.intro trivial ?_)
      refine wpAnyT_one (i := 9) rfl (by kernel_rfl) rfl ?_
      go_simp
      refine wpAnyT_one (i := 10) rfl (by kernel_rfl) rfl ?_
      go_simp
      refine wpAnyT_done (by kernel_rfl) ?_ _
      go_wp2
      go_ret
      exact ⟨rfl, hgE⟩


theorem rText_any (u : Nat) (h : u < 100) (w : World) : Calls Tryd.prog 13 #[.int .i64 (u : Int)] w fun e w' => e = .returned (.string ⟨(Lib.decDigits u).toArray⟩) ∧ Below w.heap.size w w' := by
  have hi : Lib.itoa (u : Int) = Lib.decDigits u := by unfold Lib.itoa; rw [if_neg (by omega), Int.toNat_natCast]
  have hb : ∀ w' : World, w.grownBy w' none → Below w.heap.size w w' := fun w' hg => ⟨hg.os, hg.tape, hg.output, hg.size, fun i hi => hg.block i hi (by simp)⟩
  rw [← hi]
  by_cases h10 : u < 10
  · exact (rText_small u h10 w).mono fun e w' h => ⟨h.1, hb _ h.2⟩
  · exact (rText_big u h10 h (fun W => rText_small _ (by omega) W) w).mono fun e w' h => ⟨h.1, hb _ h.2⟩
end Go.Proofs.YtmoihdddmeienaaDoor
