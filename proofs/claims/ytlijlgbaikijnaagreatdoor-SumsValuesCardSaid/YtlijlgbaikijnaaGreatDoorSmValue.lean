/-
  What a value comes to, by the package: the ways of valuer.value. Conditions: each theorem's own.
-/
import Derived.Test.YtlijlgbaikijnaaGreatDoorSmVal
import Derived.BigQuiet
import Derived.Deep.QuietTactic
namespace Go.Proofs.YtlijlgbaikijnaaGreatDoor
open Go Go.RowKit

/-- The table of powers of ten stays, whatever is done to the block tb. -/
def TabK (tb : Nat) (w : World) : Prop := ∀ w' : World, w.grownBy w' (some tb) → Tab w'
theorem TabK.keep {tb : Nat} {w w' : World} (h : TabK tb w) (hg : w.grownBy w' (some tb)) : TabK tb w' := fun w'' h2 => h w'' (grownBy_trans' hg h2)
theorem grow_some {w w' : World} (h : w.grownBy w' none) (tb : Nat) : w.grownBy w' (some tb) := ⟨h.os, h.tape, h.output, h.size, fun k hk _ => h.block k hk (by simp)⟩
/-- What a value comes to in memory. -/
def ValR (w : World) (tb : Nat) (r : VRes) (e : Ending) (w' : World) : Prop :=
  (match r with | .ok n _ => e = .returned (.int .i64 n) | .no c _ => e = thrown c 0) ∧ TabAt w' tb r.tab ∧ w.grownBy w' (some tb)
/-- All that a value wants of the world and the table. -/
structure ValC (w : World) (tb : Nat) (ok : Nat → Prop) (x : E) (ps : List Pr) : Prop where
  blk : ∀ g, ok g → g < w.heap.size ∧ g ≠ tb
  tab : TabAt w tb ps
  pow : TabK tb w
  val : Vals ps
  num : NumE x
  few : ps.length + sizeE x ≤ 1000000
def ValSays (tb n : Nat) : Prop :=
  ∀ (x : E) (v : Value) (ok : Nat → Prop) (w : World) (ps : List Pr), ExR w ok x v → ValC w tb ok x ps → dpLe n x = true →
    Calls Tryz.prog 43 #[valr tb, v] w (ValR w tb (valueP n x ps))
theorem TabAt.lt {w : World} {tb : Nat} {ps : List Pr} (h : TabAt w tb ps) : tb < w.heap.size := by
  obtain ⟨v, hv, _⟩ := h.cell
  exact World.block_lt_of_cell? w ⟨tb, 0, none⟩ hv
theorem ValC.keep {w w' : World} {tb : Nat} {ok : Nat → Prop} {x : E} {ps : List Pr} (h : ValC w tb ok x ps) (hg : w.grownBy w' none) : ValC w' tb ok x ps :=
  ⟨fun g h1 => ⟨Nat.lt_of_lt_of_le (h.blk g h1).1 hg.size, (h.blk g h1).2⟩, h.tab.keep hg, h.pow.keep (grow_some hg tb), h.val, h.num, h.few⟩

set_option maxHeartbeats 4000000 in
set_option maxRecDepth 100000 in
theorem value_one (tb n : Nat) (ih : ValSays tb n) (op name : List UInt8) (num : Int) (k : E) (v : Value) (ok : Nat → Prop) (w : World) (ps : List Pr)
    (hx : ExR w ok (.mk op num name [k]) v) (hc : ValC w tb ok (.mk op num name [k]) ps) (hd : dpLe n k = true) (hK : kidsV op = 1) (hA : asgV op = false) (hn1 : op ≠ [110, 117, 109]) (hn2 : op ≠ [110, 97, 109, 101]) :
    Calls Tryz.prog 43 #[valr tb, v] w (ValR w tb ((valueP n k ps).next fun a qs => .ok (oneV op a) qs)) := by
  obtain ⟨A, c, rfl, hcc, hcm, hkr⟩ := hx.form
  obtain ⟨g, off, rfl, hgo, hkr⟩ := hkr.resolve_left (by simp)
  obtain ⟨v0, v1, v2, v3, c0, c1, c2, c3, hk⟩ := hkr.at_ 0 (by simp)
  simp only [List.getElem_cons_zero, Nat.zero_mul, Nat.add_zero] at c0 c1 c2 c3 hk
  obtain ⟨r, hr⟩ : ∃ r, valueP n k ps = r := ⟨_, rfl⟩
  obtain ⟨hgl, hgt⟩ := hc.blk g hgo
  have htb := hc.tab.lt
  simp only [List.length_cons, List.length_nil, Nat.zero_add] at hcc ⊢
  obtain ⟨x, hxx⟩ : ∃ x : ByteArray, (⟨op.toArray⟩ : ByteArray) = x := ⟨_, rfl⟩
  have hxt : tl x = op := by rw [← hxx]; rfl
  have hxl : x.toList = op := by rw [Lib.toList_data]; exact hxt
  have hkd := fun W => kids_any x W
  have has := fun W => assigns_any x W
  have hof := fun a W => ofOne_any x a W
  rw [hxt] at hkd has hof
  rw [hK] at hkd
  rw [hA] at has
  rw [hxx]
  have g1 : (x.toList == [110, 117, 109]) = false := by rw [hxl]; simpa using hn1
  have g2 : (x.toList == [110, 97, 109, 101]) = false := by rw [hxl]; simpa using hn2
  have ihk : ∀ W, w.grownBy W none → Calls Tryz.prog 43 #[valr tb, .agg #[v0, v1, v2, v3]] W (ValR W tb r) := by
    intro W hg
    have h := ih k _ ok W ps (hk.keep (fun g h => h) (fun g h => hg.block g (hc.blk g h).1 (by simp))) ⟨(hc.keep hg).blk, (hc.keep hg).tab, (hc.keep hg).pow, hc.val, by have := hc.num; unfold NumE at this; exact this.2.mem k (by simp), by have := hc.few; simp only [sizeE, sizeL] at this; omega⟩ hd
    rwa [hr] at h
  have hok := Lib.hid hc
  unfold maxLen at hcm
  rw [hr]
  clear hx hk hkr hr hxx hxt hxl hn1 hn2 hK hA hc hd
  unfold valr
  unfold valr at ihk
  have i0 : (1 : Int) ≤ (c : Int) := by omega
  go_enter Tryz.func43, Tryz.ntmps43
  go_upto_region 1 with fail
  obtain ⟨w2, hW2, hs2, hgr, hcz, hcy, hfz, hfy, hold⟩ := two_new w #[.iface 41 (.pointer (some ⟨tb, 0, none⟩))] #[.string x, .int .i64 num, .string ⟨name.toArray⟩, .slice (some ⟨g, off, none⟩) 1 c] 91 30
  rw [hW2]
  obtain ⟨z, hz⟩ : ∃ z, w.heap.size = z := ⟨_, rfl⟩
  rw [hz] at hcz hcy hs2 ⊢
  have q0 := hcz 0 _ rfl
  have q1 := hcy 0 _ rfl
  have q2 := hcy 1 _ rfl
  have q3 := hcy 2 _ rfl
  have q4 := hcy 3 _ rfl
  have hblk := hold g hgl
  have q5 := (World.cell?_of_block (a := ⟨g, off, none⟩) hblk).trans c0
  have q6 := (World.cell?_of_block (a := ⟨g, off + 1, none⟩) hblk).trans c1
  have q7 := (World.cell?_of_block (a := ⟨g, off + 2, none⟩) hblk).trans c2
  have q8 := (World.cell?_of_block (a := ⟨g, off + 3, none⟩) hblk).trans c3
  have hg2 := hgr none
  have hz := Lib.hid hz
  clear hW2 hgr hcz hcy hfz hfy hold hblk c0 c1 c2 c3
  go_quiet ((go_at_call 61; refine Calls.quiet_of_same (hkd _)))
  go_wp2_with (go_at_call 62; refine (has _).mono ?_; rintro e wq ⟨rfl, rfl⟩)
  refine wp_region_last (L := 9) (S := (fun w' : World => w'.cell? ⟨z, 0, none⟩ = some (.iface 41 (.pointer (some ⟨tb, 0, none⟩))) ∧ w'.cell? ⟨z + 1, 0, none⟩ = some (.string x) ∧ w'.cell? ⟨z + 1, 1, none⟩ = some (.int .i64 num) ∧ w'.cell? ⟨z + 1, 2, none⟩ = some (.string ⟨name.toArray⟩) ∧ w'.cell? ⟨z + 1, 3, none⟩ = some (.slice (some ⟨g, off, none⟩) 1 c) ∧ w'.cell? ⟨g, off, none⟩ = some (v0) ∧ w'.cell? ⟨g, off + 1, none⟩ = some (v1) ∧ w'.cell? ⟨g, off + 2, none⟩ = some (v2) ∧ w'.cell? ⟨g, off + 3, none⟩ = some (v3))) (by kernel_rfl) ?_
  have hS0 : (fun w' : World => w'.cell? ⟨z, 0, none⟩ = some (.iface 41 (.pointer (some ⟨tb, 0, none⟩))) ∧ w'.cell? ⟨z + 1, 0, none⟩ = some (.string x) ∧ w'.cell? ⟨z + 1, 1, none⟩ = some (.int .i64 num) ∧ w'.cell? ⟨z + 1, 2, none⟩ = some (.string ⟨name.toArray⟩) ∧ w'.cell? ⟨z + 1, 3, none⟩ = some (.slice (some ⟨g, off, none⟩) 1 c) ∧ w'.cell? ⟨g, off, none⟩ = some (v0) ∧ w'.cell? ⟨g, off + 1, none⟩ = some (v1) ∧ w'.cell? ⟨g, off + 2, none⟩ = some (v2) ∧ w'.cell? ⟨g, off + 3, none⟩ = some (v3)) (w2.drewN nq).drew := ⟨q0, q1, q2, q3, q4, q5, q6, q7, q8⟩
  refine wpAnyT_takeT (n := 40) (i := 0) (v := .pointer (some ⟨z + 1, 0, none⟩)) rfl (by kernel_rfl) (by kernel_rfl) (by kernel_rfl) (by kernel_rfl) (by kernel_rfl) (fun _ _ _ h => h) (Or.inl ⟨by rfl, ?_⟩) hS0 ?_
  · intro W hW
    obtain ⟨k0, k1, k2, k3, k4, k5, k6, k7, k8⟩ := hW
    clear hS0 ihk q0 q1 q2 q3 q4 q5 q6 q7 q8
    go_simp
    try (intro hx; exfalso; omega)
  try simp only [Act.put, List.setIfInBounds_toArray]
  refine wpAnyT_takeT (n := 40) (i := 1) (v := .string x) rfl (by kernel_rfl) (by kernel_rfl) (by kernel_rfl) (by kernel_rfl) (by kernel_rfl) (fun _ _ _ h => h) (Or.inl ⟨by rfl, ?_⟩) hS0 ?_
  · intro W hW
    obtain ⟨k0, k1, k2, k3, k4, k5, k6, k7, k8⟩ := hW
    clear hS0 ihk q0 q1 q2 q3 q4 q5 q6 q7 q8
    go_simp
    try (intro hx; exfalso; omega)
  try simp only [Act.put]
  refine wpAnyT_takeT (n := 40) (i := 2) (v := .agg #[.iface 41 (.pointer (some ⟨tb, 0, none⟩))]) rfl (by kernel_rfl) (by kernel_rfl) (by kernel_rfl) (by kernel_rfl) (by kernel_rfl) (fun _ _ _ h => h) (Or.inl ⟨by rfl, ?_⟩) hS0 ?_
  · intro W hW
    obtain ⟨k0, k1, k2, k3, k4, k5, k6, k7, k8⟩ := hW
    clear hS0 ihk q0 q1 q2 q3 q4 q5 q6 q7 q8
    go_simp
    try (intro hx; exfalso; omega)
  try simp only [Act.put]
  refine wpAnyT_takeT (n := 40) (i := 3) (v := .pointer (some ⟨z + 1, 3, none⟩)) rfl (by kernel_rfl) (by kernel_rfl) (by kernel_rfl) (by kernel_rfl) (by kernel_rfl) (fun _ _ _ h => h) (Or.inl ⟨by rfl, ?_⟩) hS0 ?_
  · intro W hW
    obtain ⟨k0, k1, k2, k3, k4, k5, k6, k7, k8⟩ := hW
    clear hS0 ihk q0 q1 q2 q3 q4 q5 q6 q7 q8
    go_simp
    try (intro hx; exfalso; omega)
  try simp only [Act.put]
  refine wpAnyT_takeT (n := 40) (i := 4) (v := .slice (some ⟨g, off, none⟩) 1 c) rfl (by kernel_rfl) (by kernel_rfl) (by kernel_rfl) (by kernel_rfl) (by kernel_rfl) (fun _ _ _ h => h) (Or.inl ⟨by rfl, ?_⟩) hS0 ?_
  · intro W hW
    obtain ⟨k0, k1, k2, k3, k4, k5, k6, k7, k8⟩ := hW
    clear hS0 ihk q0 q1 q2 q3 q4 q5 q6 q7 q8
    go_simp
    try (intro hx; exfalso; omega)
  try simp only [Act.put]
  refine wpAnyT_takeT (n := 40) (i := 5) (v := .pointer (some ⟨g, off, none⟩)) rfl (by kernel_rfl) (by kernel_rfl) (by kernel_rfl) (by kernel_rfl) (by kernel_rfl) (fun _ _ _ h => h) (Or.inl ⟨by rfl, ?_⟩) hS0 ?_
  · intro W hW
    obtain ⟨k0, k1, k2, k3, k4, k5, k6, k7, k8⟩ := hW
    clear hS0 ihk q0 q1 q2 q3 q4 q5 q6 q7 q8
    go_simp
    try (intro hx; exfalso; omega)
  try simp only [Act.put]
  refine wpAnyT_takeT (n := 40) (i := 6) (v := .agg #[v0, v1, v2, v3]) rfl (by kernel_rfl) (by kernel_rfl) (by kernel_rfl) (by kernel_rfl) (by kernel_rfl) (fun _ _ _ h => h) (Or.inl ⟨by rfl, ?_⟩) hS0 ?_
  · intro W hW
    obtain ⟨k0, k1, k2, k3, k4, k5, k6, k7, k8⟩ := hW
    clear hS0 ihk q0 q1 q2 q3 q4 q5 q6 q7 q8
    go_simp
    try (intro hx; exfalso; omega)
  try simp only [Act.put]
  clear hS0
  refine wpAnyT_one (i := 7) rfl (by kernel_rfl) rfl ?_
  go_simp
  have hg3 : w.grownBy (w2.drewN nq).drew none := ⟨hg2.os, hg2.tape, hg2.output, hg2.size, hg2.block⟩
  refine (ihk _ hg3).mono ?_
  intro e w6 h
  cases r with
  | no cc qs =>
    obtain ⟨rfl, ht6, hg6⟩ := h
    exact ⟨rfl, rfl, ht6, grownBy_trans' (grow_some hg3 tb) hg6⟩
  | ok m qs =>
    obtain ⟨rfl, ht6, hg6⟩ := h
    have hg36 : w2.grownBy w6 (some tb) := ⟨hg6.os, hg6.tape, hg6.output, hg6.size, hg6.block⟩
    have hgE := grownBy_trans' (grow_some hg3 tb) hg6
    have q0 := cell_grown q0 hg36 (by have := hz.out; omega)
    have q1 := cell_grown q1 hg36 (by have := hz.out; omega)
    have q2 := cell_grown q2 hg36 (by have := hz.out; omega)
    have q3 := cell_grown q3 hg36 (by have := hz.out; omega)
    have q4 := cell_grown q4 hg36 (by have := hz.out; omega)
    have q5 := cell_grown q5 hg36 hgt
    have q6 := cell_grown q6 hg36 hgt
    have q7 := cell_grown q7 hg36 hgt
    have q8 := cell_grown q8 hg36 hgt
    refine ⟨⟨q0, q1, q2, q3, q4, q5, q6, q7, q8⟩, ?_⟩
    refine wpAnyT_one (i := 8) rfl (by kernel_rfl) rfl ?_
    go_simp
    refine (hof _ _).mono ?_
    rintro e wq ⟨rfl, rfl⟩
    refine ⟨⟨q0, q1, q2, q3, q4, q5, q6, q7, q8⟩, ?_⟩
    refine wpAnyT_one (i := 9) rfl (by kernel_rfl) rfl ?_
    go_simp
    refine wpAnyT_done (by kernel_rfl) ?_ _
    clear q0 q1 q2 q3 q4 q5 q6 q7 q8 ihk hof hkd has
    go_wp2
    go_ret
    exact ⟨rfl, ht6, hgE⟩
end Go.Proofs.YtlijlgbaikijnaaGreatDoor
