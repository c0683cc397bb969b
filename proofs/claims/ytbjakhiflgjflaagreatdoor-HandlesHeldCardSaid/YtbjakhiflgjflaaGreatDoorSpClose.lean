/-
  Close of an open buffer: it has no bytes, its chunks are kept by the pool, and no longer used. Conditions: at most a million bytes and chunks; numbers of the size of a pool's.
-/
import Derived.Test.YtbjakhiflgjflaaGreatDoorSpDrain
namespace Go.Proofs.YtbjakhiflgjflaaGreatDoor
open Go Go.RowKit

/-- Whose a block is when buffer k's chunks have gone to the spare ones. -/
def toSpare (k : Nat) : Lab → Lab
  | .own k' 3 => if k' = k then .spare else .own k' 3
  | l => l
theorem toSpare_ne (k : Nat) {l : Lab} (h : l ≠ .own k 3) : toSpare k l = l := by
  match l with
  | .free => rfl
  | .pool => rfl
  | .sparr => rfl
  | .spare => rfl
  | .own k' t =>
    match t with
    | 0 => rfl
    | 1 => rfl
    | 2 => rfl
    | 3 => exact if_neg fun e => h (by rw [e])
    | t + 4 => rfl

/-- What a Close leaves. -/
def ClosePost (B pb bb k : Nat) (lab : Nat → Lab) (p : Ps) (sp : List Value) (b : Bs) (w w' : World) : Prop :=
  ∃ (lab' : Nat → Lab) (S' : Value), PoolAt w' B lab' pb { p with held := p.held - (b.all.length - b.gone), used := p.used - b.cs.length, nb := p.nb - 1 } S' (sp ++ b.cs) ∧
    Blk w' bb shutC 232 ∧ lab' bb = .own k 0 ∧ Step B k w.heap.size w lab w' lab'

section
variable {B pb bb k : Nat} {lab : Nat → Lab} {p : Ps} {S : Value} {sp : List Value} {b : Bs} {w : World}

theorem row_one {w : World} {B : Nat} {e : TypeId} {v : Value} {n : Nat} {xs : List Value} (h : Row w B e v n xs) : v.oneCell' = true := by
  obtain ⟨A, c, rfl, _⟩ := h.form
  rfl

set_option maxHeartbeats 4000000 in
set_option maxRecDepth 100000 in
theorem close_ok (hP : PoolAt w B lab pb p S sp) (hblk : Blk w bb (bufC pb b.gone b.all.length b.m b.c) 232) (hR : BufR w B lab bb k p.mem p.ch b) (hnew : ∀ g, w.heap.size ≤ g → lab g = .free) (hB : B ≤ w.heap.size)
    (hlen : b.all.length ≤ 1000000) (hfew : sp.length + p.used ≤ 1000000) (hu : b.cs.length ≤ p.used) (hheld : b.all.length - b.gone ≤ p.held) (hhb : p.held ≤ 1048576) (hnb : 0 < p.nb) (hnb2 : p.nb ≤ 1000000) :
    Calls Tryz.prog 273 #[.pointer (some ⟨bb, 0, none⟩)] w fun e w' => e = .returned (.int .i64 0) ∧ ClosePost B pb bb k lab p sp b w w' := by
  have hop := open_ok pb bb b.gone b.all.length b.m b.c w hblk
  have hgl := hR.gl
  obtain ⟨Ac, cc, hbc, _, _⟩ := hR.arr.form
  rw [hbc] at hblk
  have c0 := hblk.cell (show (bufC pb b.gone b.all.length b.m (.slice Ac b.cs.length cc))[0]? = some _ from rfl)
  have d5 := hP.blk.cell (show (p.cells S)[5]? = some _ from rfl)
  have f5 := hP.blk.frozen 5
  obtain ⟨h, hhh⟩ : ∃ h, p.held = h := ⟨_, rfl⟩
  obtain ⟨U, hUU⟩ : ∃ U, p.nb = U := ⟨_, rfl⟩
  rw [hhh] at hheld hhb
  rw [hUU] at hnb hnb2 d5
  have hpl := hP.blk.lt
  have hbl := hblk.lt
  have hpb : pb ≠ bb := lab_ne hP.lb hR.lb nofun
  obtain ⟨L, hL⟩ : ∃ L, b.all.length - b.gone = L := ⟨_, rfl⟩
  rw [hL] at hheld
  replace hhh := Lib.hid hhh
  replace hUU := Lib.hid hUU
  replace hP := Lib.hid hP
  replace hR := Lib.hid hR
  replace hblk := Lib.hid hblk
  replace hnew := Lib.hid hnew
  replace hL := Lib.hid hL
  replace hgl := Lib.hid hgl
  replace hlen := Lib.hid hlen
  replace hu := Lib.hid hu
  replace hfew := Lib.hid hfew
  go_enter Tryz.func273, Tryz.ntmps273
  go_wp2_with fail
  refine hop.mono ?_
  rintro e w1 ⟨rfl, hw⟩
  obtain rfl := hw.symm
  clear hop
  go_upto_region 6 with fail
  have e1 : ((U : Int) - 1) = ((U - 1 : Nat) : Int) := by omega
  rw [e1]
  have hb2 := hP.out.blk.set 5 (.int .i64 ((U - 1 : Nat) : Int))
  rw [set5] at hb2
  have m2 : Mv B (fun g => Mine k (lab g) ∨ w.heap.size ≤ g) w (w.setCell ⟨pb, 5, none⟩ (.int .i64 ((U - 1 : Nat) : Int))) := Mv.set (S := fun g => Mine k (lab g) ∨ w.heap.size ≤ g) hP.out.blk (.inl (by rw [hP.out.lb]; trivial)) four_pool hP.out.low 5 _
  have hk2 : ∀ g, g < w.heap.size → g ≠ pb → (w.setCell ⟨pb, 5, none⟩ (.int .i64 ((U - 1 : Nat) : Int))).heap[g]? = w.heap[g]? := fun g _ hg => heap_setCell_other w _ g _ hg
  have hs2 : (w.setCell ⟨pb, 5, none⟩ (.int .i64 ((U - 1 : Nat) : Int))).heap.size = w.heap.size := by simp [World.setCell]
  generalize w.setCell ⟨pb, 5, none⟩ (.int .i64 ((U - 1 : Nat) : Int)) = w2 at hb2 m2 hk2 hs2 ⊢
  have hblk2 : Blk w2 bb (bufC pb b.gone b.all.length b.m (.slice Ac b.cs.length cc)) 232 := (hk2 bb hbl (fun e => hpb e.symm)).trans hblk.out
  have hln := len_ok pb bb b.gone b.all.length b.m (.slice Ac b.cs.length cc) w2.drew hblk2 hgl.out (by have := hlen.out; omega)
  rw [hL.out] at hln
  have d3 := hb2.cell (show (Ps.cells { p with nb := U - 1 } S)[3]? = some _ from rfl)
  have f3 := hb2.frozen 3
  simp only [hhh.out] at d3
  have hpl2 := hb2.lt
  clear c0 d5 f5 e1
  replace hb2 := Lib.hid hb2
  replace m2 := Lib.hid m2
  replace hk2 := Lib.hid hk2
  replace hblk2 := Lib.hid hblk2
  refine wp_region_last (L := 9) (S := (fun w' : World => w'.cell? ⟨pb, 3, none⟩ = some (.int .i64 (h : Int)))) (by kernel_rfl) ?_
  refine wpAnyT_takeT (n := 10) (i := 0) (v := .pointer (some ⟨pb, 0, none⟩)) rfl (by kernel_rfl) (by kernel_rfl) (by kernel_rfl) (by kernel_rfl) (by kernel_rfl) (fun _ _ _ h => h) (Or.inl ⟨by rfl, ?_⟩) d3 ?_
  · intro W k0
    clear d3 f3 hln
    go_simp
    try (intro hx; exfalso; omega)
  try simp only [Act.put, List.setIfInBounds_toArray]
  refine wpAnyT_takeT (n := 10) (i := 1) (v := .pointer (some ⟨pb, 0, none⟩)) rfl (by kernel_rfl) (by kernel_rfl) (by kernel_rfl) (by kernel_rfl) (by kernel_rfl) (fun _ _ _ h => h) (Or.inl ⟨by rfl, ?_⟩) d3 ?_
  · intro W k0
    clear d3 f3 hln
    go_simp
    try (intro hx; exfalso; omega)
  try simp only [Act.put]
  refine wpAnyT_takeT (n := 10) (i := 2) (v := .pointer (some ⟨pb, 3, none⟩)) rfl (by kernel_rfl) (by kernel_rfl) (by kernel_rfl) (by kernel_rfl) (by kernel_rfl) (fun _ _ _ h => h) (Or.inl ⟨by rfl, ?_⟩) d3 ?_
  · intro W k0
    clear d3 f3 hln
    go_simp
    try (intro hx; exfalso; omega)
  try simp only [Act.put]
  refine wpAnyT_takeT (n := 10) (i := 3) (v := .int .i64 (h : Int)) rfl (by kernel_rfl) (by kernel_rfl) (by kernel_rfl) (by kernel_rfl) (by kernel_rfl) (fun _ _ _ h => h) (Or.inl ⟨by rfl, ?_⟩) d3 ?_
  · intro W k0
    clear d3 f3 hln
    go_simp
    try (intro hx; exfalso; omega)
  try simp only [Act.put]
  refine wpAnyT_takeT (n := 10) (i := 4) (v := .pointer (some ⟨bb, 0, none⟩)) rfl (by kernel_rfl) (by kernel_rfl) (by kernel_rfl) (by kernel_rfl) (by kernel_rfl) (fun _ _ _ h => h) (Or.inl ⟨by rfl, ?_⟩) d3 ?_
  · intro W k0
    clear d3 f3 hln
    go_simp
    try (intro hx; exfalso; omega)
  try simp only [Act.put]

  refine wpAnyT_one (i := 5) rfl (by kernel_rfl) rfl ?_
  go_simp
  refine hln.mono ?_
  rintro e w3 ⟨rfl, nd, hw3⟩
  have hh3 : w3.heap = w2.heap := by rw [hw3]; rfl
  have d3' : w3.cell? ⟨pb, 3, none⟩ = some (.int .i64 (h : Int)) := by rw [hw3]; exact d3
  have f3' : w3.frozen? ⟨pb, 3, none⟩ = false := by rw [hw3]; exact f3
  have m3 : Mv B (fun g => Mine k (lab g) ∨ w.heap.size ≤ g) w w3 := m2.out.trans (by rw [hw3]; exact ⟨rfl, rfl, rfl, Nat.le_refl _, fun _ _ _ => rfl, fun _ _ _ => rfl⟩)
  have hs3 : w3.heap.size = w.heap.size := by rw [hh3]; exact hs2
  have hb3 : Blk w3 pb (Ps.cells { p with nb := U - 1 } S) 140 := by unfold Blk; rw [hh3]; exact hb2.out
  have hk3 : ∀ g, g < w.heap.size → g ≠ pb → w3.heap[g]? = w.heap[g]? := by rw [hh3]; exact hk2.out
  clear hw3 hh3 hln d3 f3
  replace m3 := Lib.hid m3
  replace hb3 := Lib.hid hb3
  replace hk3 := Lib.hid hk3
  refine ⟨d3', ?_⟩
  have hlt3 : pb < w3.heap.size := by omega
  have hwS : IntKind.i64.wrap ((h : Int) - (L : Int)) = (h : Int) - (L : Int) := by rw [IntKind.wrap_i64]; omega
  refine wpAnyT_one (i := 6) rfl (by kernel_rfl) rfl ?_
  go_simp
  refine wpAnyT_one (i := 7) rfl (by kernel_rfl) rfl ?_
  go_simp
  refine wpAnyT_one (i := 8) rfl (by kernel_rfl) rfl ?_
  go_simp
  refine wpAnyT_one (i := 9) rfl (by kernel_rfl) rfl ?_
  go_simp
  refine wpAnyT_done (by kernel_rfl) ?_ _
  have e1 : ((h : Int) - (L : Int)) = ((h - L : Nat) : Int) := by omega
  rw [e1]
  have hb4 := hb3.out.set 3 (.int .i64 ((h - L : Nat) : Int))
  rw [set3] at hb4
  have hk4 : ∀ g, g < w.heap.size → g ≠ pb → (w3.setCell ⟨pb, 3, none⟩ (.int .i64 ((h - L : Nat) : Int))).heap[g]? = w.heap[g]? := fun g hg hne => (heap_setCell_other w3 _ g _ hne).trans (hk3.out g hg hne)
  have hs4 : (w3.setCell ⟨pb, 3, none⟩ (.int .i64 ((h - L : Nat) : Int))).heap.size = w.heap.size := by rw [← hs3]; simp [World.setCell]
  have m4 := m3.out.trans (Mv.set (S := fun g => Mine k (lab g) ∨ w.heap.size ≤ g) hb3.out (.inl (by rw [hP.out.lb]; trivial)) four_pool hP.out.low 3 (.int .i64 ((h - L : Nat) : Int)))
  generalize w3.setCell ⟨pb, 3, none⟩ (.int .i64 ((h - L : Nat) : Int)) = w4 at hb4 hk4 hs4 m4 ⊢
  have hP4 : PoolAt w4 B lab pb { p with held := h - L, nb := U - 1 } S sp := hP.out.head hb4 hk4
  have hR4 := hR.out.same (x := pb) (.inr fun t => by rw [hP.out.lb]; simp) hk4
  have hblk4 : Blk w4 bb _ _ := (hk4 bb hbl (fun e => hpb e.symm)).trans hblk.out
  have harr4 := hR4.arr
  rw [hbc] at harr4
  have hlv := leave_any B pb { p with held := h - L, nb := U - 1 } S (.slice Ac b.cs.length cc) sp b.cs w4 hP4.blk hP4.low (by omega) hP4.arr (fun g hg => lab_ne (hP4.arl g hg) hP4.lb nofun) harr4 (fun g hg => lab_ne (hR4.arl g (by rw [hbc]; exact hg)) hP4.lb nofun)
    (fun v hv => by obtain ⟨i, hi⟩ := List.getElem?_of_mem hv; exact row_one (hR4.str i v hi)) hu.out (by have := hfew.out; show p.used ≤ _; omega) (by have := hfew.out; omega)
  have c4 := hblk4.cell (show (bufC pb b.gone b.all.length b.m (.slice Ac b.cs.length cc))[4]? = some _ from rfl)
  have hbl4 := hblk4.lt
  obtain ⟨KC, hKC⟩ : ∃ KC, b.cs.length = KC := ⟨_, rfl⟩
  have hbK := hR4.arr
  clear d3' f3' e1 hb4 hlt3 hwS harr4
  replace hP4 := Lib.hid hP4
  replace hR4 := Lib.hid hR4
  replace hblk4 := Lib.hid hblk4
  replace hk4 := Lib.hid hk4
  replace m4 := Lib.hid m4
  replace hbK := Lib.hid hbK
  replace hbc := Lib.hid hbc
  rw [hKC] at hlv c4
  replace hKC := Lib.hid hKC
  go_wp2_with fail
  refine hlv.mono ?_
  rintro e w5 ⟨S', rfl, hb5, hS5, hSo, m5⟩
  have hblk5 : Blk w5 bb _ _ := hblk4.out.mv m5 fun h => h.elim (fun h => hpb h.symm) (fun h => lab_ne (hP4.out.arl bb h) hR4.out.lb nofun rfl)
  have c0 := hblk5.cell (show (bufC pb b.gone b.all.length b.m (.slice Ac b.cs.length cc))[0]? = some _ from rfl)
  have c1 := hblk5.cell (show (bufC pb b.gone b.all.length b.m (.slice Ac b.cs.length cc))[1]? = some _ from rfl)
  have c2 := hblk5.cell (show (bufC pb b.gone b.all.length b.m (.slice Ac b.cs.length cc))[2]? = some _ from rfl)
  have c3 := hblk5.cell (show (bufC pb b.gone b.all.length b.m (.slice Ac b.cs.length cc))[3]? = some _ from rfl)
  have c5 := hblk5.cell (show (bufC pb b.gone b.all.length b.m (.slice Ac b.cs.length cc))[4]? = some _ from rfl)
  have f0 := hblk5.frozen 0
  have f1 := hblk5.frozen 1
  have f2 := hblk5.frozen 2
  have f3 := hblk5.frozen 3
  have f4 := hblk5.frozen 4
  have hbl5 := hblk5.lt
  generalize b.m = bm at c3
  rw [hKC.out] at c5
  clear hlv c4
  replace hb5 := Lib.hid hb5
  replace hS5 := Lib.hid hS5
  replace hSo := Lib.hid hSo
  replace m5 := Lib.hid m5
  replace hblk5 := Lib.hid hblk5
  go_wp2
  go_ret
  have x0 := hblk5.out
  have x1 := x0.set 0 (.pointer none)
  have x2 := x1.set 1 (.int .i64 0)
  have x3 := x2.set 2 (.int .i64 0)
  have x4 := x3.set 3 (.slice none 0 0)
  have x5 := x4.set 4 (.slice none 0 0)
  have hlb := hR.out.lb
  have hf : Mine k (lab bb) := by rw [hlb]; rfl
  have m6 := ((((((m4.out.trans (m5.out.mono (S' := fun g => Mine k (lab g) ∨ w.heap.size ≤ g) fun g _ hg => .inl (by
    rcases hg with h | h
    · rw [h, hP.out.lb]; trivial
    · rw [hP.out.arl g h]; trivial))).trans (Mv.set (S := fun g => Mine k (lab g) ∨ w.heap.size ≤ g) x0 (.inl hf) four_buf hR.out.low 0 (.pointer none))).trans (Mv.set (S := fun g => Mine k (lab g) ∨ w.heap.size ≤ g) x1 (.inl hf) four_buf hR.out.low 1 (.int .i64 0))).trans
    (Mv.set (S := fun g => Mine k (lab g) ∨ w.heap.size ≤ g) x2 (.inl hf) four_buf hR.out.low 2 (.int .i64 0))).trans (Mv.set (S := fun g => Mine k (lab g) ∨ w.heap.size ≤ g) x3 (.inl hf) four_buf hR.out.low 3 (.slice none 0 0))).trans (Mv.set (S := fun g => Mine k (lab g) ∨ w.heap.size ≤ g) x4 (.inl hf) four_buf hR.out.low 4 (.slice none 0 0)))
  have hk6 : ∀ g, g ≠ bb → (((((w5.setCell ⟨bb, 0, none⟩ (.pointer none)).setCell ⟨bb, 1, none⟩ (.int .i64 0)).setCell ⟨bb, 2, none⟩ (.int .i64 0)).setCell ⟨bb, 3, none⟩ (.slice none 0 0)).setCell ⟨bb, 4, none⟩ (.slice none 0 0)).heap[g]? = w5.heap[g]? := fun g hg =>
    (heap_setCell_other _ _ g _ hg).trans ((heap_setCell_other _ _ g _ hg).trans ((heap_setCell_other _ _ g _ hg).trans ((heap_setCell_other _ _ g _ hg).trans (heap_setCell_other _ _ g _ hg))))
  have hs6 : (((((w5.setCell ⟨bb, 0, none⟩ (.pointer none)).setCell ⟨bb, 1, none⟩ (.int .i64 0)).setCell ⟨bb, 2, none⟩ (.int .i64 0)).setCell ⟨bb, 3, none⟩ (.slice none 0 0)).setCell ⟨bb, 4, none⟩ (.slice none 0 0)).heap.size = w5.heap.size := by simp [World.setCell]
  generalize ((((w5.setCell ⟨bb, 0, none⟩ (.pointer none)).setCell ⟨bb, 1, none⟩ (.int .i64 0)).setCell ⟨bb, 2, none⟩ (.int .i64 0)).setCell ⟨bb, 3, none⟩ (.slice none 0 0)).setCell ⟨bb, 4, none⟩ (.slice none 0 0) = w6 at x5 m6 hk6 hs6 ⊢
  have hSl : ∀ g, S'.ownBlock = some g → (lab g = .sparr ∧ S.ownBlock = some g) ∨ g = w.heap.size := fun g hg => by
    rcases hSo.out with h | h
    · exact .inl ⟨hP.out.arl g (h ▸ hg), h ▸ hg⟩
    · rw [h] at hg; cases hg; exact .inr hs4
  have hlab : ∀ g, g < w.heap.size → lab g ≠ .own k 3 → relab (fun g => toSpare k (lab g)) S' .sparr g = lab g := by
    intro g hgl hns
    by_cases h : S'.ownBlock = some g
    · rw [relab_of h]
      rcases hSl g h with h2 | h2
      · exact h2.1.symm
      · omega
    · rw [relab_ne h]; exact toSpare_ne k hns
  have hlab3 : ∀ g, g < w.heap.size → lab g = .own k 3 → relab (fun g => toSpare k (lab g)) S' .sparr g = .spare := by
    intro g hgl hns
    have h : S'.ownBlock ≠ some g := fun h => by
      rcases hSl g h with h2 | h2
      · rw [hns] at h2; cases h2.1
      · omega
    rw [relab_ne h, hns]
    exact if_pos rfl
  have hst : ∀ g, g < w.heap.size → (lab g = .spare ∨ lab g = .own k 3) → w6.heap[g]? = w.heap[g]? := fun g hgl hl => by
    have h1 : g ≠ bb := fun e => by rw [e, hlb] at hl; simp at hl
    have h2 : g ≠ pb := fun e => by rw [e, hP.out.lb] at hl; simp at hl
    have h3 : S.ownBlock ≠ some g := fun e => by rw [hP.out.arl g e] at hl; simp at hl
    exact (hk6 g h1).trans ((m5.out.block g (by omega) (fun h => h.elim h2 h3)).trans (hk4.out g hgl h2))
  have hcl : ∀ v ∈ b.cs, ∀ g, v.ownBlock = some g → g < w.heap.size ∧ lab g = .own k 3 := fun v hv g hg => by
    obtain ⟨i, hi⟩ := List.getElem?_of_mem hv
    exact ⟨((hR.out.str i v hi).lt hg).2.1, hR.out.stl v hv g hg⟩
  refine ⟨rfl, relab (fun g => toSpare k (lab g)) S' .sparr, S', ?_, x5, (hlab bb hbl (by rw [hlb]; simp)).trans hlb, ⟨m6, fun g hgl hm => hlab g hgl (fun e => hm (by rw [e]; rfl)), fun g hgl => ?_⟩⟩
  · rw [hhh.out, hL.out, hUU.out, hKC.out]
    exact {
      blk := (hk6 pb hpb).trans hb5.out
      low := hP.out.low
      lb := (hlab pb hpl (by rw [hP.out.lb]; simp)).trans hP.out.lb
      arr := hS5.out.keep fun g hg => hk6 g fun e => by
        rcases hSl g hg with h | h
        · rw [e, hlb] at h; cases h.1
        · omega
      arl := fun g hg => relab_of hg
      str := fun v hv => by
        rcases List.mem_append.1 hv with h | h
        · obtain ⟨bs, hb⟩ := hP.out.str v h
          exact ⟨bs, hb.keep fun g hg => hst g (hb.lt hg).2.1 (.inl (hP.out.stl v h g hg))⟩
        · obtain ⟨i, hi⟩ := List.getElem?_of_mem h
          exact ⟨_, (hR.out.str i v hi).keep fun g hg => hst g (hcl v h g hg).1 (.inr (hcl v h g hg).2)⟩
      stl := fun v hv g hg => by
        rcases List.mem_append.1 hv with h | h
        · obtain ⟨bs, hb⟩ := hP.out.str v h
          exact (hlab g (hb.lt hg).2.1 (by rw [hP.out.stl v h g hg]; simp)).trans (hP.out.stl v h g hg)
        · exact hlab3 g (hcl v h g hg).1 (hcl v h g hg).2
      nd := nd_app hP.out.nd hR.out.nd fun u hu g hg v hv h2 => by
        have h3 := hP.out.stl u hu g hg
        rw [(hcl v hv g h2).2] at h3
        cases h3 }
  · have h1 : S'.ownBlock ≠ some g := fun h => by
      have := (hS5.out.lt h).2.1
      omega
    rw [relab_ne h1]
    show toSpare k (lab g) = .free
    rw [hnew.out g (Nat.le_trans m6.size hgl)]
    rfl
end
end Go.Proofs.YtbjakhiflgjflaaGreatDoor
