/-
  A part. Conditions: each theorem's own.
-/
import Derived.Deep.CutRange
import Derived.Deep.RegionHeld3
import Derived.Test.YtfofpphnglhopaaGreatDoorZb13
set_option maxHeartbeats 8000000
set_option maxRecDepth 100000
namespace Go.Proofs.YtfofpphnglhopaaGreatDoor
open Go Go.RowKit Go.ChangeMaps
section
variable {B pb lb most nest : Nat} {F : Nat → Prop} {w : World} {c : Sy} {s : St} {ps : List Pt} {ns : List (Nat × Pt)} {mk : List Nat}
theorem LogP.marks (h : LogP w B F pb lb most nest ns mk) : Calls Tryz.prog 20 #[ptrV lb] w fun e w' => e = .returned (.int .i64 (mk.length : Int)) ∧ w' = w := by
  obtain ⟨ms, fs, h1, h2, h3, h4, h5⟩ := h
  rw [← h3, List.length_map]
  exact LogMarks_any h1
theorem LogP.full (h : LogP w B F pb lb most nest ns mk) (hmk : mk ≠ []) (hf : ns.length = most) (back : Value) : Calls Tryz.prog 129 #[ptrV lb, back] w fun e w' => e = .returned (.int .i64 43) ∧ ∃ n, w' = w.drewN n := by
  obtain ⟨ms, fs, h1, h2, h3, h4, h5⟩ := h
  refine LogNote_full back h1 (if_pos ⟨fun e => hmk ?_, hf⟩)
  rw [← h3, e]; rfl
theorem LogP.note (h : LogP w B F pb lb most nest ns mk) (hmk : mk ≠ []) (hf : ns.length < most) (hB : B ≤ w.heap.size) (n : Nat × Pt) (k : Nat) (cap : Array Value) (hn : NoteAt w F pb (.func (.func k) #[] cap) n) (hnF : ∀ w', Fr B LogT (fun _ => False) w w' → PCh B F F pb w w') : Calls Tryz.prog 129 #[ptrV lb, .func (.func k) #[] cap] w fun e w' => e = .returned (.int .i64 0) ∧ LogP w' B F pb lb most nest (ns ++ [n]) mk ∧ Fr B LogT (fun _ => False) w w' := by
  obtain ⟨ms, fs, h1, h2, h3, h4, h5⟩ := h
  refine (LogNote_add k cap h1 (fun e => hmk (by rw [← h3, e]; rfl)) hf hB).mono ?_
  rintro e w' ⟨rfl, q1, q2⟩
  have hc := hnF w' q2
  refine ⟨rfl, ⟨ms, fs ++ [.func (.func k) #[] cap], by rw [List.length_append]; exact q1, by rw [List.length_append, List.length_append, h2]; rfl, h3, h4, fun j m hm => ?_⟩, q2⟩
  rw [List.getElem?_append] at hm
  rw [List.getElem?_append, h2]
  split at hm
  · rename_i hlt
    rw [if_pos hlt]
    obtain ⟨fv, e1, e2⟩ := h5 j m hm
    exact ⟨fv, e1, e2.ch hc⟩
  · rename_i hge
    rw [if_neg hge]
    have hj : j - ns.length = 0 := by
      have := (List.getElem?_eq_some_iff.1 hm).1
      simp at this
      omega
    rw [hj] at hm ⊢
    simp at hm
    subst hm
    exact ⟨_, rfl, hn.ch hc⟩
theorem change_now_fd {i : Nat} {p : Pt} (h : PrR w B F c pb lb most nest s ps ns mk) (hp : ps[i]? = some p) (hn : p.n = mk.length) (v : Int) (R : World → Prop)
    (hfree : ∀ w1, PrR w1 B F c pb lb most nest s (ps.set i ⟨v, p.n⟩) ns mk → PCh B F F pb w w1 → Calls Tryz.prog 84 #[ptrV pb, .int .i64 p.v] w1 fun e w' => e = .returned (.tuple #[]) ∧ R w') :
    Calls Tryz.prog 83 #[ptrV pb, partP pb i, .int .i64 v, .func (.func 84) #[ptrV pb] #[]] w fun e w' => e = .returned (.int .i64 0) ∧ R w' := by
  unfold partP ptrV
  have hpc := h.prc
  have hcv := hpc.cell (procC_v (fb := c.fb) (tb := c.tb) (lb := lb) hp)
  have hcn := hpc.cell (procC_n (fb := c.fb) (tb := c.tb) (lb := lb) hp)
  have c2 : w.cell? ⟨pb, 2, none⟩ = some (.pointer (some ⟨lb, 0, none⟩)) := hpc.cell (i := 2) rfl
  have hpl := hpc.lt
  obtain ⟨pv, pn⟩ := p
  simp only at hcv hcn hn hfree ⊢
  obtain ⟨x, hx⟩ : ∃ x, w.heap.size = x := ⟨_, rfl⟩
  have hpx : pb < x := by rw [← hx]; exact hpl
  have g2 : w.grownBy ((w.alloc (.cells #[.pointer (some ⟨pb, 3 + i * 2, none⟩)] 128)).alloc (.cells #[.func (.func 84) #[.pointer (some ⟨pb, 0, none⟩)] #[]] 129)) none := grownBy_tr (World.grownBy_alloc w _ _) (World.grownBy_alloc _ _ _)
  have b1 : Blk ((w.alloc (.cells #[.pointer (some ⟨pb, 3 + i * 2, none⟩)] 128)).alloc (.cells #[.func (.func 84) #[.pointer (some ⟨pb, 0, none⟩)] #[]] 129)) x [.pointer (some ⟨pb, 3 + i * 2, none⟩)] 128 := by rw [← hx]; exact (Blk.new w _ _).alloc _
  have b2 : Blk ((w.alloc (.cells #[.pointer (some ⟨pb, 3 + i * 2, none⟩)] 128)).alloc (.cells #[.func (.func 84) #[.pointer (some ⟨pb, 0, none⟩)] #[]] 129)) (x + 1) [.func (.func 84) #[.pointer (some ⟨pb, 0, none⟩)] #[]] 129 := by
    have := Blk.new (w.alloc (.cells #[.pointer (some ⟨pb, 3 + i * 2, none⟩)] 128)) [.func (.func 84) #[.pointer (some ⟨pb, 0, none⟩)] #[]] 129
    rwa [show (w.alloc (.cells #[.pointer (some ⟨pb, 3 + i * 2, none⟩)] 128)).heap.size = x + 1 by simp [hx]] at this
  have hs1 : (w.alloc (.cells #[.pointer (some ⟨pb, 3 + i * 2, none⟩)] 128)).heap.size = x + 1 := by simp [hx]
  have n2 : ((w.alloc (.cells #[.pointer (some ⟨pb, 3 + i * 2, none⟩)] 128)).alloc (.cells #[.func (.func 84) #[.pointer (some ⟨pb, 0, none⟩)] #[]] 129)).heap.size = x + 2 := by simp [hx]
  replace hfree := Lib.hid hfree
  replace h := Lib.hid h
  replace hpc := Lib.hid hpc
  replace hx := Lib.hid hx
  go_enter Tryz.func83, Tryz.ntmps83
  go_upto_region 1 with fail
  try simp only [hs1]
  try simp only [hx.out]
  generalize ((w.alloc (.cells #[.pointer (some ⟨pb, 3 + i * 2, none⟩)] 128)).alloc (.cells #[.func (.func 84) #[.pointer (some ⟨pb, 0, none⟩)] #[]] 129)) = w2 at g2 b1 b2 n2 ⊢
  obtain ⟨h2, k2⟩ := h.out.grown g2
  have hcv2 := h2.prc.cell (procC_v (fb := c.fb) (tb := c.tb) (lb := lb) hp)
  have hcn2 := h2.prc.cell (procC_n (fb := c.fb) (tb := c.tb) (lb := lb) hp)
  have c22 : w2.cell? ⟨pb, 2, none⟩ = some (.pointer (some ⟨lb, 0, none⟩)) := h2.prc.cell (i := 2) rfl
  have hpl2 := h2.prc.lt
  have x0 := b1.cell (i := 0) rfl
  have y0 := b2.cell (i := 0) rfl
  have hxl := b1.lt
  have hyl := b2.lt
  simp only at hcv2 hcn2
  clear hcv hcn c2 hpl
  have gW : w2.grownBy ((w2.alloc (.cells #[.int .i64 0, .int .i64 0] 123)).drew) none := grownBy_drewN (World.grownBy_alloc w2 _ _) 1
  have g0 : w2.grownBy w2.drew none := grownBy_drewN (grownBy_re w2) 1
  have bz : Blk ((w2.alloc (.cells #[.int .i64 0, .int .i64 0] 123)).drew) w2.heap.size [.int .i64 0, .int .i64 0] 123 := Blk.new w2 _ _
  have hm1 := (h2.grown gW).1.log.marks
  have hm0 := (h2.grown g0).1.log.marks
  unfold ptrV at hm0 hm1
  obtain ⟨ML, hML⟩ : ∃ ML, mk.length = ML := ⟨_, rfl⟩
  rw [hML] at hm0 hm1
  have hkk1 : ((w2.alloc (.cells #[.int .i64 0, .int .i64 0] 123)).drew).cell? ⟨x, 0, none⟩ = some (.pointer (some ⟨pb, 3 + i * 2, none⟩)) ∧ ((w2.alloc (.cells #[.int .i64 0, .int .i64 0] 123)).drew).cell? ⟨pb, 3 + i * 2, none⟩ = some (.int .i64 pv) ∧ ((w2.alloc (.cells #[.int .i64 0, .int .i64 0] 123)).drew).cell? ⟨pb, 3 + i * 2 + 1, none⟩ = some (.int .i64 (pn : Int)) ∧ ((w2.alloc (.cells #[.int .i64 0, .int .i64 0] 123)).drew).cell? ⟨pb, 2, none⟩ = some (.pointer (some ⟨lb, 0, none⟩)) :=
    ⟨(World.cell?_of_block (a := ⟨x, 0, none⟩) (gW.block x hxl (by simp))).trans x0, (World.cell?_of_block (a := ⟨pb, 3 + i * 2, none⟩) (gW.block pb hpl2 (by simp))).trans hcv2, (World.cell?_of_block (a := ⟨pb, 3 + i * 2 + 1, none⟩) (gW.block pb hpl2 (by simp))).trans hcn2, (World.cell?_of_block (a := ⟨pb, 2, none⟩) (gW.block pb hpl2 (by simp))).trans c22⟩
  have hkk0 : w2.drew.cell? ⟨x, 0, none⟩ = some (.pointer (some ⟨pb, 3 + i * 2, none⟩)) ∧ w2.drew.cell? ⟨pb, 3 + i * 2, none⟩ = some (.int .i64 pv) ∧ w2.drew.cell? ⟨pb, 3 + i * 2 + 1, none⟩ = some (.int .i64 (pn : Int)) ∧ w2.drew.cell? ⟨pb, 2, none⟩ = some (.pointer (some ⟨lb, 0, none⟩)) := ⟨x0, hcv2, hcn2, c22⟩
  have hzp : w2.heap.size ≠ pb := by omega
  replace hn := Lib.hid hn
  have hpz : pb ≠ w2.heap.size := by omega
  have hxz : x ≠ w2.heap.size := by omega
  replace n2 := Lib.hid n2
  replace hm0 := Lib.hid hm0
  replace hm1 := Lib.hid hm1
  replace bz := Lib.hid bz
  replace gW := Lib.hid gW
  replace g0 := Lib.hid g0
  replace hkk0 := Lib.hid hkk0
  replace hkk1 := Lib.hid hkk1
  replace b1 := Lib.hid b1
  replace b2 := Lib.hid b2
  replace h2 := Lib.hid h2
  replace k2 := Lib.hid k2
  replace hML := Lib.hid hML
  go_cut [9, 10] from 12 to 19 (fun t9 t10 wx => ∃ zi : Nat, t9 = .pointer (some ⟨zi, 0, none⟩) ∧ t10 = .int .i64 (ML : Int) ∧ Hid (w2.heap.size ≤ zi) ∧ Hid (w2.grownBy wx none) ∧ Hid (Blk wx zi [.int .i64 pv, .int .i64 (pn : Int)] 123))
  case first =>
    go_region_held3 (fun w' => w'.cell? ⟨x, 0, none⟩ = some (.pointer (some ⟨pb, 3 + i * 2, none⟩)) ∧ w'.cell? ⟨pb, 3 + i * 2, none⟩ = some (.int .i64 pv) ∧ w'.cell? ⟨pb, 3 + i * 2 + 1, none⟩ = some (.int .i64 (pn : Int)) ∧ w'.cell? ⟨pb, 2, none⟩ = some (.pointer (some ⟨lb, 0, none⟩)))
      (first | go_keep | exact hkk)
      (first
        | (go_at_call 20; refine hm1.out.mono ?_; rintro e w5 ⟨rfl, hw5⟩; obtain rfl := hw5.symm; have hkk := hkk1.out; have gC := gW.out; have b5 := bz.out; have v0 := b5.cell (i := 0) rfl; have v1 := b5.cell (i := 1) rfl; have r0 := b5.frozen 0; have r1 := b5.frozen 1)
        | (go_at_call 20; refine hm0.out.mono ?_; rintro e w5 ⟨rfl, hw5⟩; obtain rfl := hw5.symm; have hkk := hkk0.out; have gC := g0.out))
    all_goals (go_wp2_with fail)
    all_goals go_meet
    all_goals
      first
        | exact ⟨_, rfl, rfl, Lib.hid (Nat.le_refl _), Lib.hid (grownBy_drewN (World.grownBy_alloc w2 _ _) 1), Lib.hid (Blk.new w2 _ _)⟩
        | exact ⟨_, rfl, rfl, Lib.hid (Nat.le_refl _), Lib.hid (grownBy_tr gC (World.grownBy_alloc _ _ _)), Lib.hid (Blk.new _ _ _)⟩
        | exact ⟨_, rfl, rfl, Lib.hid (Nat.le_refl _), Lib.hid (grown_setNew (grown_setNew gC (Nat.le_refl _) 0 _) (Nat.le_refl _) 1 _), Lib.hid ((b5.set 0 _).set 1 _)⟩
  case rest =>
    obtain ⟨zi, rfl, rfl, hzi, gX, bX⟩ := hcut
    clear hm0 hm1 bz gW g0 hkk0 hkk1 hcv2 hcn2 c22 hpl2 x0 y0 hxl hyl
    obtain ⟨h3, k3⟩ := h2.out.grown gX.out
    have b1' : Blk wc x _ _ := (gX.out.block x b1.out.lt (by simp)).trans b1.out
    have b2' : Blk wc (x + 1) _ _ := (gX.out.block (x + 1) b2.out.lt (by simp)).trans b2.out
    have z0 := bX.out.cell (i := 0) rfl
    have z1 := bX.out.cell (i := 1) rfl
    have hzl := bX.out.lt
    have x0 := b1'.cell (i := 0) rfl
    have y0 := b2'.cell (i := 0) rfl
    have hxl := b1'.lt
    have hyl := b2'.lt
    have hcv := h3.prc.cell (procC_v (fb := c.fb) (tb := c.tb) (lb := lb) hp)
    have hcn := h3.prc.cell (procC_n (fb := c.fb) (tb := c.tb) (lb := lb) hp)
    have c2 : wc.cell? ⟨pb, 2, none⟩ = some (.pointer (some ⟨lb, 0, none⟩)) := h3.prc.cell (i := 2) rfl
    have hpl := h3.prc.lt
    have fv := h3.prc.frozen (3 + i * 2)
    have fn := h3.prc.frozen (3 + i * 2 + 1)
    simp only at hcv hcn
    replace b1' := Lib.hid b1'
    replace b2' := Lib.hid b2'
    replace h3 := Lib.hid h3
    replace k3 := Lib.hid (k2.out.trans k3)
    clear b1 b2 h2 k2
    have hd : ((pn : Int) == (ML : Int)) = true := by rw [hn.out, hML.out]; simp
    have h4 := h3.out.set1 (procC_setv hp v) (by rw [List.length_set]; exact h3.out.len)
    have k4 := k3.out.trans (PCh.set B F wc h3.out.hpb (3 + i * 2) (.int .i64 v))
    have hcall := hfree.out _ h4 k4
    unfold ptrV at hcall
    replace hcall := Lib.hid hcall
    have hzp : zi ≠ pb := by have := hzi.out; have := n2.out; omega
    have hyp : x + 1 ≠ pb := by omega
    have hxp : x ≠ pb := by omega
    clear h4 k4 hfree
    go_upto_region 4 with fail
    have q0 : (wc.setCell ⟨pb, 3 + i * 2, none⟩ (.int .i64 v)).cell? ⟨zi, 0, none⟩ = some (.int .i64 pv) := (World.cell?_of_block (a := ⟨zi, 0, none⟩) (heap_setCell_other wc _ zi _ hzp)).trans z0
    have q1 : (wc.setCell ⟨pb, 3 + i * 2, none⟩ (.int .i64 v)).cell? ⟨x + 1, 0, none⟩ = some (.func (.func 84) #[.pointer (some ⟨pb, 0, none⟩)] #[]) := (World.cell?_of_block (a := ⟨x + 1, 0, none⟩) (heap_setCell_other wc _ (x + 1) _ hyp)).trans y0
    have l0 : zi < (wc.setCell ⟨pb, 3 + i * 2, none⟩ (.int .i64 v)).heap.size := by simpa [World.setCell] using hzl
    have l1 : x + 1 < (wc.setCell ⟨pb, 3 + i * 2, none⟩ (.int .i64 v)).heap.size := by simpa [World.setCell] using hyl
    generalize wc.setCell ⟨pb, 3 + i * 2, none⟩ (.int .i64 v) = w4 at q0 q1 l0 l1 hcall ⊢
    clear z0 z1 hzl x0 y0 hxl hyl hcv hcn c2 hpl fv fn
    go_wp2_with fail
    refine hcall.out.mono ?_
    rintro e w' ⟨rfl, hR⟩
    replace hR := Lib.hid hR
    clear hcall q0 q1
    go_wp2
    go_ret
    exact ⟨rfl, hR.out⟩
theorem change_now_dir {i : Nat} {p : Pt} (h : PrR w B F c pb lb most nest s ps ns mk) (hp : ps[i]? = some p) (hn : p.n = mk.length) (v : Int) (R : World → Prop)
    (hfree : ∀ w1, PrR w1 B F c pb lb most nest s (ps.set i ⟨v, p.n⟩) ns mk → PCh B F F pb w w1 → Calls Tryz.prog 121 #[ptrV pb, .int .i64 p.v] w1 fun e w' => e = .returned (.tuple #[]) ∧ R w') :
    Calls Tryz.prog 83 #[ptrV pb, partP pb i, .int .i64 v, .func (.func 121) #[ptrV pb] #[]] w fun e w' => e = .returned (.int .i64 0) ∧ R w' := by
  unfold partP ptrV
  have hpc := h.prc
  have hcv := hpc.cell (procC_v (fb := c.fb) (tb := c.tb) (lb := lb) hp)
  have hcn := hpc.cell (procC_n (fb := c.fb) (tb := c.tb) (lb := lb) hp)
  have c2 : w.cell? ⟨pb, 2, none⟩ = some (.pointer (some ⟨lb, 0, none⟩)) := hpc.cell (i := 2) rfl
  have hpl := hpc.lt
  obtain ⟨pv, pn⟩ := p
  simp only at hcv hcn hn hfree ⊢
  obtain ⟨x, hx⟩ : ∃ x, w.heap.size = x := ⟨_, rfl⟩
  have hpx : pb < x := by rw [← hx]; exact hpl
  have g2 : w.grownBy ((w.alloc (.cells #[.pointer (some ⟨pb, 3 + i * 2, none⟩)] 128)).alloc (.cells #[.func (.func 121) #[.pointer (some ⟨pb, 0, none⟩)] #[]] 129)) none := grownBy_tr (World.grownBy_alloc w _ _) (World.grownBy_alloc _ _ _)
  have b1 : Blk ((w.alloc (.cells #[.pointer (some ⟨pb, 3 + i * 2, none⟩)] 128)).alloc (.cells #[.func (.func 121) #[.pointer (some ⟨pb, 0, none⟩)] #[]] 129)) x [.pointer (some ⟨pb, 3 + i * 2, none⟩)] 128 := by rw [← hx]; exact (Blk.new w _ _).alloc _
  have b2 : Blk ((w.alloc (.cells #[.pointer (some ⟨pb, 3 + i * 2, none⟩)] 128)).alloc (.cells #[.func (.func 121) #[.pointer (some ⟨pb, 0, none⟩)] #[]] 129)) (x + 1) [.func (.func 121) #[.pointer (some ⟨pb, 0, none⟩)] #[]] 129 := by
    have := Blk.new (w.alloc (.cells #[.pointer (some ⟨pb, 3 + i * 2, none⟩)] 128)) [.func (.func 121) #[.pointer (some ⟨pb, 0, none⟩)] #[]] 129
    rwa [show (w.alloc (.cells #[.pointer (some ⟨pb, 3 + i * 2, none⟩)] 128)).heap.size = x + 1 by simp [hx]] at this
  have hs1 : (w.alloc (.cells #[.pointer (some ⟨pb, 3 + i * 2, none⟩)] 128)).heap.size = x + 1 := by simp [hx]
  have n2 : ((w.alloc (.cells #[.pointer (some ⟨pb, 3 + i * 2, none⟩)] 128)).alloc (.cells #[.func (.func 121) #[.pointer (some ⟨pb, 0, none⟩)] #[]] 129)).heap.size = x + 2 := by simp [hx]
  replace hfree := Lib.hid hfree
  replace h := Lib.hid h
  replace hpc := Lib.hid hpc
  replace hx := Lib.hid hx
  go_enter Tryz.func83, Tryz.ntmps83
  go_upto_region 1 with fail
  try simp only [hs1]
  try simp only [hx.out]
  generalize ((w.alloc (.cells #[.pointer (some ⟨pb, 3 + i * 2, none⟩)] 128)).alloc (.cells #[.func (.func 121) #[.pointer (some ⟨pb, 0, none⟩)] #[]] 129)) = w2 at g2 b1 b2 n2 ⊢
  obtain ⟨h2, k2⟩ := h.out.grown g2
  have hcv2 := h2.prc.cell (procC_v (fb := c.fb) (tb := c.tb) (lb := lb) hp)
  have hcn2 := h2.prc.cell (procC_n (fb := c.fb) (tb := c.tb) (lb := lb) hp)
  have c22 : w2.cell? ⟨pb, 2, none⟩ = some (.pointer (some ⟨lb, 0, none⟩)) := h2.prc.cell (i := 2) rfl
  have hpl2 := h2.prc.lt
  have x0 := b1.cell (i := 0) rfl
  have y0 := b2.cell (i := 0) rfl
  have hxl := b1.lt
  have hyl := b2.lt
  simp only at hcv2 hcn2
  clear hcv hcn c2 hpl
  have gW : w2.grownBy ((w2.alloc (.cells #[.int .i64 0, .int .i64 0] 123)).drew) none := grownBy_drewN (World.grownBy_alloc w2 _ _) 1
  have g0 : w2.grownBy w2.drew none := grownBy_drewN (grownBy_re w2) 1
  have bz : Blk ((w2.alloc (.cells #[.int .i64 0, .int .i64 0] 123)).drew) w2.heap.size [.int .i64 0, .int .i64 0] 123 := Blk.new w2 _ _
  have hm1 := (h2.grown gW).1.log.marks
  have hm0 := (h2.grown g0).1.log.marks
  unfold ptrV at hm0 hm1
  obtain ⟨ML, hML⟩ : ∃ ML, mk.length = ML := ⟨_, rfl⟩
  rw [hML] at hm0 hm1
  have hkk1 : ((w2.alloc (.cells #[.int .i64 0, .int .i64 0] 123)).drew).cell? ⟨x, 0, none⟩ = some (.pointer (some ⟨pb, 3 + i * 2, none⟩)) ∧ ((w2.alloc (.cells #[.int .i64 0, .int .i64 0] 123)).drew).cell? ⟨pb, 3 + i * 2, none⟩ = some (.int .i64 pv) ∧ ((w2.alloc (.cells #[.int .i64 0, .int .i64 0] 123)).drew).cell? ⟨pb, 3 + i * 2 + 1, none⟩ = some (.int .i64 (pn : Int)) ∧ ((w2.alloc (.cells #[.int .i64 0, .int .i64 0] 123)).drew).cell? ⟨pb, 2, none⟩ = some (.pointer (some ⟨lb, 0, none⟩)) :=
    ⟨(World.cell?_of_block (a := ⟨x, 0, none⟩) (gW.block x hxl (by simp))).trans x0, (World.cell?_of_block (a := ⟨pb, 3 + i * 2, none⟩) (gW.block pb hpl2 (by simp))).trans hcv2, (World.cell?_of_block (a := ⟨pb, 3 + i * 2 + 1, none⟩) (gW.block pb hpl2 (by simp))).trans hcn2, (World.cell?_of_block (a := ⟨pb, 2, none⟩) (gW.block pb hpl2 (by simp))).trans c22⟩
  have hkk0 : w2.drew.cell? ⟨x, 0, none⟩ = some (.pointer (some ⟨pb, 3 + i * 2, none⟩)) ∧ w2.drew.cell? ⟨pb, 3 + i * 2, none⟩ = some (.int .i64 pv) ∧ w2.drew.cell? ⟨pb, 3 + i * 2 + 1, none⟩ = some (.int .i64 (pn : Int)) ∧ w2.drew.cell? ⟨pb, 2, none⟩ = some (.pointer (some ⟨lb, 0, none⟩)) := ⟨x0, hcv2, hcn2, c22⟩
  have hzp : w2.heap.size ≠ pb := by omega
  replace hn := Lib.hid hn
  have hpz : pb ≠ w2.heap.size := by omega
  have hxz : x ≠ w2.heap.size := by omega
  replace n2 := Lib.hid n2
  replace hm0 := Lib.hid hm0
  replace hm1 := Lib.hid hm1
  replace bz := Lib.hid bz
  replace gW := Lib.hid gW
  replace g0 := Lib.hid g0
  replace hkk0 := Lib.hid hkk0
  replace hkk1 := Lib.hid hkk1
  replace b1 := Lib.hid b1
  replace b2 := Lib.hid b2
  replace h2 := Lib.hid h2
  replace k2 := Lib.hid k2
  replace hML := Lib.hid hML
  go_cut [9, 10] from 12 to 19 (fun t9 t10 wx => ∃ zi : Nat, t9 = .pointer (some ⟨zi, 0, none⟩) ∧ t10 = .int .i64 (ML : Int) ∧ Hid (w2.heap.size ≤ zi) ∧ Hid (w2.grownBy wx none) ∧ Hid (Blk wx zi [.int .i64 pv, .int .i64 (pn : Int)] 123))
  case first =>
    go_region_held3 (fun w' => w'.cell? ⟨x, 0, none⟩ = some (.pointer (some ⟨pb, 3 + i * 2, none⟩)) ∧ w'.cell? ⟨pb, 3 + i * 2, none⟩ = some (.int .i64 pv) ∧ w'.cell? ⟨pb, 3 + i * 2 + 1, none⟩ = some (.int .i64 (pn : Int)) ∧ w'.cell? ⟨pb, 2, none⟩ = some (.pointer (some ⟨lb, 0, none⟩)))
      (first | go_keep | exact hkk)
      (first
        | (go_at_call 20; refine hm1.out.mono ?_; rintro e w5 ⟨rfl, hw5⟩; obtain rfl := hw5.symm; have hkk := hkk1.out; have gC := gW.out; have b5 := bz.out; have v0 := b5.cell (i := 0) rfl; have v1 := b5.cell (i := 1) rfl; have r0 := b5.frozen 0; have r1 := b5.frozen 1)
        | (go_at_call 20; refine hm0.out.mono ?_; rintro e w5 ⟨rfl, hw5⟩; obtain rfl := hw5.symm; have hkk := hkk0.out; have gC := g0.out))
    all_goals (go_wp2_with fail)
    all_goals go_meet
    all_goals
      first
        | exact ⟨_, rfl, rfl, Lib.hid (Nat.le_refl _), Lib.hid (grownBy_drewN (World.grownBy_alloc w2 _ _) 1), Lib.hid (Blk.new w2 _ _)⟩
        | exact ⟨_, rfl, rfl, Lib.hid (Nat.le_refl _), Lib.hid (grownBy_tr gC (World.grownBy_alloc _ _ _)), Lib.hid (Blk.new _ _ _)⟩
        | exact ⟨_, rfl, rfl, Lib.hid (Nat.le_refl _), Lib.hid (grown_setNew (grown_setNew gC (Nat.le_refl _) 0 _) (Nat.le_refl _) 1 _), Lib.hid ((b5.set 0 _).set 1 _)⟩
  case rest =>
    obtain ⟨zi, rfl, rfl, hzi, gX, bX⟩ := hcut
    clear hm0 hm1 bz gW g0 hkk0 hkk1 hcv2 hcn2 c22 hpl2 x0 y0 hxl hyl
    obtain ⟨h3, k3⟩ := h2.out.grown gX.out
    have b1' : Blk wc x _ _ := (gX.out.block x b1.out.lt (by simp)).trans b1.out
    have b2' : Blk wc (x + 1) _ _ := (gX.out.block (x + 1) b2.out.lt (by simp)).trans b2.out
    have z0 := bX.out.cell (i := 0) rfl
    have z1 := bX.out.cell (i := 1) rfl
    have hzl := bX.out.lt
    have x0 := b1'.cell (i := 0) rfl
    have y0 := b2'.cell (i := 0) rfl
    have hxl := b1'.lt
    have hyl := b2'.lt
    have hcv := h3.prc.cell (procC_v (fb := c.fb) (tb := c.tb) (lb := lb) hp)
    have hcn := h3.prc.cell (procC_n (fb := c.fb) (tb := c.tb) (lb := lb) hp)
    have c2 : wc.cell? ⟨pb, 2, none⟩ = some (.pointer (some ⟨lb, 0, none⟩)) := h3.prc.cell (i := 2) rfl
    have hpl := h3.prc.lt
    have fv := h3.prc.frozen (3 + i * 2)
    have fn := h3.prc.frozen (3 + i * 2 + 1)
    simp only at hcv hcn
    replace b1' := Lib.hid b1'
    replace b2' := Lib.hid b2'
    replace h3 := Lib.hid h3
    replace k3 := Lib.hid (k2.out.trans k3)
    clear b1 b2 h2 k2
    have hd : ((pn : Int) == (ML : Int)) = true := by rw [hn.out, hML.out]; simp
    have h4 := h3.out.set1 (procC_setv hp v) (by rw [List.length_set]; exact h3.out.len)
    have k4 := k3.out.trans (PCh.set B F wc h3.out.hpb (3 + i * 2) (.int .i64 v))
    have hcall := hfree.out _ h4 k4
    unfold ptrV at hcall
    replace hcall := Lib.hid hcall
    have hzp : zi ≠ pb := by have := hzi.out; have := n2.out; omega
    have hyp : x + 1 ≠ pb := by omega
    have hxp : x ≠ pb := by omega
    clear h4 k4 hfree
    go_upto_region 4 with fail
    have q0 : (wc.setCell ⟨pb, 3 + i * 2, none⟩ (.int .i64 v)).cell? ⟨zi, 0, none⟩ = some (.int .i64 pv) := (World.cell?_of_block (a := ⟨zi, 0, none⟩) (heap_setCell_other wc _ zi _ hzp)).trans z0
    have q1 : (wc.setCell ⟨pb, 3 + i * 2, none⟩ (.int .i64 v)).cell? ⟨x + 1, 0, none⟩ = some (.func (.func 121) #[.pointer (some ⟨pb, 0, none⟩)] #[]) := (World.cell?_of_block (a := ⟨x + 1, 0, none⟩) (heap_setCell_other wc _ (x + 1) _ hyp)).trans y0
    have l0 : zi < (wc.setCell ⟨pb, 3 + i * 2, none⟩ (.int .i64 v)).heap.size := by simpa [World.setCell] using hzl
    have l1 : x + 1 < (wc.setCell ⟨pb, 3 + i * 2, none⟩ (.int .i64 v)).heap.size := by simpa [World.setCell] using hyl
    generalize wc.setCell ⟨pb, 3 + i * 2, none⟩ (.int .i64 v) = w4 at q0 q1 l0 l1 hcall ⊢
    clear z0 z1 hzl x0 y0 hxl hyl hcv hcn c2 hpl fv fn
    go_wp2_with fail
    refine hcall.out.mono ?_
    rintro e w' ⟨rfl, hR⟩
    replace hR := Lib.hid hR
    clear hcall q0 q1
    go_wp2
    go_ret
    exact ⟨rfl, hR.out⟩
theorem change_now_mask {i : Nat} {p : Pt} (h : PrR w B F c pb lb most nest s ps ns mk) (hp : ps[i]? = some p) (hn : p.n = mk.length) (v : Int) (R : World → Prop)
    (hfree : ∀ w1, PrR w1 B F c pb lb most nest s (ps.set i ⟨v, p.n⟩) ns mk → PCh B F F pb w w1 → Calls Tryz.prog 122 #[.int .i64 p.v] w1 fun e w' => e = .returned (.tuple #[]) ∧ R w') :
    Calls Tryz.prog 83 #[ptrV pb, partP pb i, .int .i64 v, .func (.func 122) #[] #[]] w fun e w' => e = .returned (.int .i64 0) ∧ R w' := by
  unfold partP ptrV
  have hpc := h.prc
  have hcv := hpc.cell (procC_v (fb := c.fb) (tb := c.tb) (lb := lb) hp)
  have hcn := hpc.cell (procC_n (fb := c.fb) (tb := c.tb) (lb := lb) hp)
  have c2 : w.cell? ⟨pb, 2, none⟩ = some (.pointer (some ⟨lb, 0, none⟩)) := hpc.cell (i := 2) rfl
  have hpl := hpc.lt
  obtain ⟨pv, pn⟩ := p
  simp only at hcv hcn hn hfree ⊢
  obtain ⟨x, hx⟩ : ∃ x, w.heap.size = x := ⟨_, rfl⟩
  have hpx : pb < x := by rw [← hx]; exact hpl
  have g2 : w.grownBy ((w.alloc (.cells #[.pointer (some ⟨pb, 3 + i * 2, none⟩)] 128)).alloc (.cells #[.func (.func 122) #[] #[]] 129)) none := grownBy_tr (World.grownBy_alloc w _ _) (World.grownBy_alloc _ _ _)
  have b1 : Blk ((w.alloc (.cells #[.pointer (some ⟨pb, 3 + i * 2, none⟩)] 128)).alloc (.cells #[.func (.func 122) #[] #[]] 129)) x [.pointer (some ⟨pb, 3 + i * 2, none⟩)] 128 := by rw [← hx]; exact (Blk.new w _ _).alloc _
  have b2 : Blk ((w.alloc (.cells #[.pointer (some ⟨pb, 3 + i * 2, none⟩)] 128)).alloc (.cells #[.func (.func 122) #[] #[]] 129)) (x + 1) [.func (.func 122) #[] #[]] 129 := by
    have := Blk.new (w.alloc (.cells #[.pointer (some ⟨pb, 3 + i * 2, none⟩)] 128)) [.func (.func 122) #[] #[]] 129
    rwa [show (w.alloc (.cells #[.pointer (some ⟨pb, 3 + i * 2, none⟩)] 128)).heap.size = x + 1 by simp [hx]] at this
  have hs1 : (w.alloc (.cells #[.pointer (some ⟨pb, 3 + i * 2, none⟩)] 128)).heap.size = x + 1 := by simp [hx]
  have n2 : ((w.alloc (.cells #[.pointer (some ⟨pb, 3 + i * 2, none⟩)] 128)).alloc (.cells #[.func (.func 122) #[] #[]] 129)).heap.size = x + 2 := by simp [hx]
  replace hfree := Lib.hid hfree
  replace h := Lib.hid h
  replace hpc := Lib.hid hpc
  replace hx := Lib.hid hx
  go_enter Tryz.func83, Tryz.ntmps83
  go_upto_region 1 with fail
  try simp only [hs1]
  try simp only [hx.out]
  generalize ((w.alloc (.cells #[.pointer (some ⟨pb, 3 + i * 2, none⟩)] 128)).alloc (.cells #[.func (.func 122) #[] #[]] 129)) = w2 at g2 b1 b2 n2 ⊢
  obtain ⟨h2, k2⟩ := h.out.grown g2
  have hcv2 := h2.prc.cell (procC_v (fb := c.fb) (tb := c.tb) (lb := lb) hp)
  have hcn2 := h2.prc.cell (procC_n (fb := c.fb) (tb := c.tb) (lb := lb) hp)
  have c22 : w2.cell? ⟨pb, 2, none⟩ = some (.pointer (some ⟨lb, 0, none⟩)) := h2.prc.cell (i := 2) rfl
  have hpl2 := h2.prc.lt
  have x0 := b1.cell (i := 0) rfl
  have y0 := b2.cell (i := 0) rfl
  have hxl := b1.lt
  have hyl := b2.lt
  simp only at hcv2 hcn2
  clear hcv hcn c2 hpl
  have gW : w2.grownBy ((w2.alloc (.cells #[.int .i64 0, .int .i64 0] 123)).drew) none := grownBy_drewN (World.grownBy_alloc w2 _ _) 1
  have g0 : w2.grownBy w2.drew none := grownBy_drewN (grownBy_re w2) 1
  have bz : Blk ((w2.alloc (.cells #[.int .i64 0, .int .i64 0] 123)).drew) w2.heap.size [.int .i64 0, .int .i64 0] 123 := Blk.new w2 _ _
  have hm1 := (h2.grown gW).1.log.marks
  have hm0 := (h2.grown g0).1.log.marks
  unfold ptrV at hm0 hm1
  obtain ⟨ML, hML⟩ : ∃ ML, mk.length = ML := ⟨_, rfl⟩
  rw [hML] at hm0 hm1
  have hkk1 : ((w2.alloc (.cells #[.int .i64 0, .int .i64 0] 123)).drew).cell? ⟨x, 0, none⟩ = some (.pointer (some ⟨pb, 3 + i * 2, none⟩)) ∧ ((w2.alloc (.cells #[.int .i64 0, .int .i64 0] 123)).drew).cell? ⟨pb, 3 + i * 2, none⟩ = some (.int .i64 pv) ∧ ((w2.alloc (.cells #[.int .i64 0, .int .i64 0] 123)).drew).cell? ⟨pb, 3 + i * 2 + 1, none⟩ = some (.int .i64 (pn : Int)) ∧ ((w2.alloc (.cells #[.int .i64 0, .int .i64 0] 123)).drew).cell? ⟨pb, 2, none⟩ = some (.pointer (some ⟨lb, 0, none⟩)) :=
    ⟨(World.cell?_of_block (a := ⟨x, 0, none⟩) (gW.block x hxl (by simp))).trans x0, (World.cell?_of_block (a := ⟨pb, 3 + i * 2, none⟩) (gW.block pb hpl2 (by simp))).trans hcv2, (World.cell?_of_block (a := ⟨pb, 3 + i * 2 + 1, none⟩) (gW.block pb hpl2 (by simp))).trans hcn2, (World.cell?_of_block (a := ⟨pb, 2, none⟩) (gW.block pb hpl2 (by simp))).trans c22⟩
  have hkk0 : w2.drew.cell? ⟨x, 0, none⟩ = some (.pointer (some ⟨pb, 3 + i * 2, none⟩)) ∧ w2.drew.cell? ⟨pb, 3 + i * 2, none⟩ = some (.int .i64 pv) ∧ w2.drew.cell? ⟨pb, 3 + i * 2 + 1, none⟩ = some (.int .i64 (pn : Int)) ∧ w2.drew.cell? ⟨pb, 2, none⟩ = some (.pointer (some ⟨lb, 0, none⟩)) := ⟨x0, hcv2, hcn2, c22⟩
  have hzp : w2.heap.size ≠ pb := by omega
  replace hn := Lib.hid hn
  have hpz : pb ≠ w2.heap.size := by omega
  have hxz : x ≠ w2.heap.size := by omega
  replace n2 := Lib.hid n2
  replace hm0 := Lib.hid hm0
  replace hm1 := Lib.hid hm1
  replace bz := Lib.hid bz
  replace gW := Lib.hid gW
  replace g0 := Lib.hid g0
  replace hkk0 := Lib.hid hkk0
  replace hkk1 := Lib.hid hkk1
  replace b1 := Lib.hid b1
  replace b2 := Lib.hid b2
  replace h2 := Lib.hid h2
  replace k2 := Lib.hid k2
  replace hML := Lib.hid hML
  go_cut [9, 10] from 12 to 19 (fun t9 t10 wx => ∃ zi : Nat, t9 = .pointer (some ⟨zi, 0, none⟩) ∧ t10 = .int .i64 (ML : Int) ∧ Hid (w2.heap.size ≤ zi) ∧ Hid (w2.grownBy wx none) ∧ Hid (Blk wx zi [.int .i64 pv, .int .i64 (pn : Int)] 123))
  case first =>
    go_region_held3 (fun w' => w'.cell? ⟨x, 0, none⟩ = some (.pointer (some ⟨pb, 3 + i * 2, none⟩)) ∧ w'.cell? ⟨pb, 3 + i * 2, none⟩ = some (.int .i64 pv) ∧ w'.cell? ⟨pb, 3 + i * 2 + 1, none⟩ = some (.int .i64 (pn : Int)) ∧ w'.cell? ⟨pb, 2, none⟩ = some (.pointer (some ⟨lb, 0, none⟩)))
      (first | go_keep | exact hkk)
      (first
        | (go_at_call 20; refine hm1.out.mono ?_; rintro e w5 ⟨rfl, hw5⟩; obtain rfl := hw5.symm; have hkk := hkk1.out; have gC := gW.out; have b5 := bz.out; have v0 := b5.cell (i := 0) rfl; have v1 := b5.cell (i := 1) rfl; have r0 := b5.frozen 0; have r1 := b5.frozen 1)
        | (go_at_call 20; refine hm0.out.mono ?_; rintro e w5 ⟨rfl, hw5⟩; obtain rfl := hw5.symm; have hkk := hkk0.out; have gC := g0.out))
    all_goals (go_wp2_with fail)
    all_goals go_meet
    all_goals
      first
        | exact ⟨_, rfl, rfl, Lib.hid (Nat.le_refl _), Lib.hid (grownBy_drewN (World.grownBy_alloc w2 _ _) 1), Lib.hid (Blk.new w2 _ _)⟩
        | exact ⟨_, rfl, rfl, Lib.hid (Nat.le_refl _), Lib.hid (grownBy_tr gC (World.grownBy_alloc _ _ _)), Lib.hid (Blk.new _ _ _)⟩
        | exact ⟨_, rfl, rfl, Lib.hid (Nat.le_refl _), Lib.hid (grown_setNew (grown_setNew gC (Nat.le_refl _) 0 _) (Nat.le_refl _) 1 _), Lib.hid ((b5.set 0 _).set 1 _)⟩
  case rest =>
    obtain ⟨zi, rfl, rfl, hzi, gX, bX⟩ := hcut
    clear hm0 hm1 bz gW g0 hkk0 hkk1 hcv2 hcn2 c22 hpl2 x0 y0 hxl hyl
    obtain ⟨h3, k3⟩ := h2.out.grown gX.out
    have b1' : Blk wc x _ _ := (gX.out.block x b1.out.lt (by simp)).trans b1.out
    have b2' : Blk wc (x + 1) _ _ := (gX.out.block (x + 1) b2.out.lt (by simp)).trans b2.out
    have z0 := bX.out.cell (i := 0) rfl
    have z1 := bX.out.cell (i := 1) rfl
    have hzl := bX.out.lt
    have x0 := b1'.cell (i := 0) rfl
    have y0 := b2'.cell (i := 0) rfl
    have hxl := b1'.lt
    have hyl := b2'.lt
    have hcv := h3.prc.cell (procC_v (fb := c.fb) (tb := c.tb) (lb := lb) hp)
    have hcn := h3.prc.cell (procC_n (fb := c.fb) (tb := c.tb) (lb := lb) hp)
    have c2 : wc.cell? ⟨pb, 2, none⟩ = some (.pointer (some ⟨lb, 0, none⟩)) := h3.prc.cell (i := 2) rfl
    have hpl := h3.prc.lt
    have fv := h3.prc.frozen (3 + i * 2)
    have fn := h3.prc.frozen (3 + i * 2 + 1)
    simp only at hcv hcn
    replace b1' := Lib.hid b1'
    replace b2' := Lib.hid b2'
    replace h3 := Lib.hid h3
    replace k3 := Lib.hid (k2.out.trans k3)
    clear b1 b2 h2 k2
    have hd : ((pn : Int) == (ML : Int)) = true := by rw [hn.out, hML.out]; simp
    have h4 := h3.out.set1 (procC_setv hp v) (by rw [List.length_set]; exact h3.out.len)
    have k4 := k3.out.trans (PCh.set B F wc h3.out.hpb (3 + i * 2) (.int .i64 v))
    have hcall := hfree.out _ h4 k4
    unfold ptrV at hcall
    replace hcall := Lib.hid hcall
    have hzp : zi ≠ pb := by have := hzi.out; have := n2.out; omega
    have hyp : x + 1 ≠ pb := by omega
    have hxp : x ≠ pb := by omega
    clear h4 k4 hfree
    go_upto_region 4 with fail
    have q0 : (wc.setCell ⟨pb, 3 + i * 2, none⟩ (.int .i64 v)).cell? ⟨zi, 0, none⟩ = some (.int .i64 pv) := (World.cell?_of_block (a := ⟨zi, 0, none⟩) (heap_setCell_other wc _ zi _ hzp)).trans z0
    have q1 : (wc.setCell ⟨pb, 3 + i * 2, none⟩ (.int .i64 v)).cell? ⟨x + 1, 0, none⟩ = some (.func (.func 122) #[] #[]) := (World.cell?_of_block (a := ⟨x + 1, 0, none⟩) (heap_setCell_other wc _ (x + 1) _ hyp)).trans y0
    have l0 : zi < (wc.setCell ⟨pb, 3 + i * 2, none⟩ (.int .i64 v)).heap.size := by simpa [World.setCell] using hzl
    have l1 : x + 1 < (wc.setCell ⟨pb, 3 + i * 2, none⟩ (.int .i64 v)).heap.size := by simpa [World.setCell] using hyl
    generalize wc.setCell ⟨pb, 3 + i * 2, none⟩ (.int .i64 v) = w4 at q0 q1 l0 l1 hcall ⊢
    clear z0 z1 hzl x0 y0 hxl hyl hcv hcn c2 hpl fv fn
    go_wp2_with fail
    refine hcall.out.mono ?_
    rintro e w' ⟨rfl, hR⟩
    replace hR := Lib.hid hR
    clear hcall q0 q1
    go_wp2
    go_ret
    exact ⟨rfl, hR.out⟩
theorem change_full_fd {i : Nat} {p : Pt} (h : PrR w B F c pb lb most nest s ps ns mk) (hp : ps[i]? = some p) (hn : p.n ≠ mk.length) (hmk : mk ≠ []) (hf : ns.length = most) (v : Int) (R : World → Prop)
    (hfree : ∀ w1, PrR w1 B F c pb lb most nest s ps ns mk → PCh B F F pb w w1 → Calls Tryz.prog 84 #[ptrV pb, .int .i64 v] w1 fun e w' => e = .returned (.tuple #[]) ∧ R w') :
    Calls Tryz.prog 83 #[ptrV pb, partP pb i, .int .i64 v, .func (.func 84) #[ptrV pb] #[]] w fun e w' => e = .returned (.int .i64 43) ∧ R w' := by
  unfold partP ptrV
  have hpc := h.prc
  have hcv := hpc.cell (procC_v (fb := c.fb) (tb := c.tb) (lb := lb) hp)
  have hcn := hpc.cell (procC_n (fb := c.fb) (tb := c.tb) (lb := lb) hp)
  have c2 : w.cell? ⟨pb, 2, none⟩ = some (.pointer (some ⟨lb, 0, none⟩)) := hpc.cell (i := 2) rfl
  have hpl := hpc.lt
  obtain ⟨pv, pn⟩ := p
  simp only at hcv hcn hn hfree ⊢
  obtain ⟨x, hx⟩ : ∃ x, w.heap.size = x := ⟨_, rfl⟩
  have hpx : pb < x := by rw [← hx]; exact hpl
  have g2 : w.grownBy ((w.alloc (.cells #[.pointer (some ⟨pb, 3 + i * 2, none⟩)] 128)).alloc (.cells #[.func (.func 84) #[.pointer (some ⟨pb, 0, none⟩)] #[]] 129)) none := grownBy_tr (World.grownBy_alloc w _ _) (World.grownBy_alloc _ _ _)
  have b1 : Blk ((w.alloc (.cells #[.pointer (some ⟨pb, 3 + i * 2, none⟩)] 128)).alloc (.cells #[.func (.func 84) #[.pointer (some ⟨pb, 0, none⟩)] #[]] 129)) x [.pointer (some ⟨pb, 3 + i * 2, none⟩)] 128 := by rw [← hx]; exact (Blk.new w _ _).alloc _
  have b2 : Blk ((w.alloc (.cells #[.pointer (some ⟨pb, 3 + i * 2, none⟩)] 128)).alloc (.cells #[.func (.func 84) #[.pointer (some ⟨pb, 0, none⟩)] #[]] 129)) (x + 1) [.func (.func 84) #[.pointer (some ⟨pb, 0, none⟩)] #[]] 129 := by
    have := Blk.new (w.alloc (.cells #[.pointer (some ⟨pb, 3 + i * 2, none⟩)] 128)) [.func (.func 84) #[.pointer (some ⟨pb, 0, none⟩)] #[]] 129
    rwa [show (w.alloc (.cells #[.pointer (some ⟨pb, 3 + i * 2, none⟩)] 128)).heap.size = x + 1 by simp [hx]] at this
  have hs1 : (w.alloc (.cells #[.pointer (some ⟨pb, 3 + i * 2, none⟩)] 128)).heap.size = x + 1 := by simp [hx]
  have n2 : ((w.alloc (.cells #[.pointer (some ⟨pb, 3 + i * 2, none⟩)] 128)).alloc (.cells #[.func (.func 84) #[.pointer (some ⟨pb, 0, none⟩)] #[]] 129)).heap.size = x + 2 := by simp [hx]
  replace hfree := Lib.hid hfree
  replace h := Lib.hid h
  replace hpc := Lib.hid hpc
  replace hx := Lib.hid hx
  go_enter Tryz.func83, Tryz.ntmps83
  go_upto_region 1 with fail
  try simp only [hs1]
  try simp only [hx.out]
  generalize ((w.alloc (.cells #[.pointer (some ⟨pb, 3 + i * 2, none⟩)] 128)).alloc (.cells #[.func (.func 84) #[.pointer (some ⟨pb, 0, none⟩)] #[]] 129)) = w2 at g2 b1 b2 n2 ⊢
  obtain ⟨h2, k2⟩ := h.out.grown g2
  have hcv2 := h2.prc.cell (procC_v (fb := c.fb) (tb := c.tb) (lb := lb) hp)
  have hcn2 := h2.prc.cell (procC_n (fb := c.fb) (tb := c.tb) (lb := lb) hp)
  have c22 : w2.cell? ⟨pb, 2, none⟩ = some (.pointer (some ⟨lb, 0, none⟩)) := h2.prc.cell (i := 2) rfl
  have hpl2 := h2.prc.lt
  have x0 := b1.cell (i := 0) rfl
  have y0 := b2.cell (i := 0) rfl
  have hxl := b1.lt
  have hyl := b2.lt
  simp only at hcv2 hcn2
  clear hcv hcn c2 hpl
  have gW : w2.grownBy ((w2.alloc (.cells #[.int .i64 0, .int .i64 0] 123)).drew) none := grownBy_drewN (World.grownBy_alloc w2 _ _) 1
  have g0 : w2.grownBy w2.drew none := grownBy_drewN (grownBy_re w2) 1
  have bz : Blk ((w2.alloc (.cells #[.int .i64 0, .int .i64 0] 123)).drew) w2.heap.size [.int .i64 0, .int .i64 0] 123 := Blk.new w2 _ _
  have hm1 := (h2.grown gW).1.log.marks
  have hm0 := (h2.grown g0).1.log.marks
  unfold ptrV at hm0 hm1
  obtain ⟨ML, hML⟩ : ∃ ML, mk.length = ML := ⟨_, rfl⟩
  rw [hML] at hm0 hm1
  have hkk1 : ((w2.alloc (.cells #[.int .i64 0, .int .i64 0] 123)).drew).cell? ⟨x, 0, none⟩ = some (.pointer (some ⟨pb, 3 + i * 2, none⟩)) ∧ ((w2.alloc (.cells #[.int .i64 0, .int .i64 0] 123)).drew).cell? ⟨pb, 3 + i * 2, none⟩ = some (.int .i64 pv) ∧ ((w2.alloc (.cells #[.int .i64 0, .int .i64 0] 123)).drew).cell? ⟨pb, 3 + i * 2 + 1, none⟩ = some (.int .i64 (pn : Int)) ∧ ((w2.alloc (.cells #[.int .i64 0, .int .i64 0] 123)).drew).cell? ⟨pb, 2, none⟩ = some (.pointer (some ⟨lb, 0, none⟩)) :=
    ⟨(World.cell?_of_block (a := ⟨x, 0, none⟩) (gW.block x hxl (by simp))).trans x0, (World.cell?_of_block (a := ⟨pb, 3 + i * 2, none⟩) (gW.block pb hpl2 (by simp))).trans hcv2, (World.cell?_of_block (a := ⟨pb, 3 + i * 2 + 1, none⟩) (gW.block pb hpl2 (by simp))).trans hcn2, (World.cell?_of_block (a := ⟨pb, 2, none⟩) (gW.block pb hpl2 (by simp))).trans c22⟩
  have hkk0 : w2.drew.cell? ⟨x, 0, none⟩ = some (.pointer (some ⟨pb, 3 + i * 2, none⟩)) ∧ w2.drew.cell? ⟨pb, 3 + i * 2, none⟩ = some (.int .i64 pv) ∧ w2.drew.cell? ⟨pb, 3 + i * 2 + 1, none⟩ = some (.int .i64 (pn : Int)) ∧ w2.drew.cell? ⟨pb, 2, none⟩ = some (.pointer (some ⟨lb, 0, none⟩)) := ⟨x0, hcv2, hcn2, c22⟩
  have hzp : w2.heap.size ≠ pb := by omega
  replace hn := Lib.hid hn
  have hpz : pb ≠ w2.heap.size := by omega
  have hxz : x ≠ w2.heap.size := by omega
  replace n2 := Lib.hid n2
  replace hm0 := Lib.hid hm0
  replace hm1 := Lib.hid hm1
  replace bz := Lib.hid bz
  replace gW := Lib.hid gW
  replace g0 := Lib.hid g0
  replace hkk0 := Lib.hid hkk0
  replace hkk1 := Lib.hid hkk1
  replace b1 := Lib.hid b1
  replace b2 := Lib.hid b2
  replace h2 := Lib.hid h2
  replace k2 := Lib.hid k2
  replace hML := Lib.hid hML
  go_cut [9, 10] from 12 to 19 (fun t9 t10 wx => ∃ zi : Nat, t9 = .pointer (some ⟨zi, 0, none⟩) ∧ t10 = .int .i64 (ML : Int) ∧ Hid (w2.heap.size ≤ zi) ∧ Hid (w2.grownBy wx none) ∧ Hid (Blk wx zi [.int .i64 pv, .int .i64 (pn : Int)] 123))
  case first =>
    go_region_held3 (fun w' => w'.cell? ⟨x, 0, none⟩ = some (.pointer (some ⟨pb, 3 + i * 2, none⟩)) ∧ w'.cell? ⟨pb, 3 + i * 2, none⟩ = some (.int .i64 pv) ∧ w'.cell? ⟨pb, 3 + i * 2 + 1, none⟩ = some (.int .i64 (pn : Int)) ∧ w'.cell? ⟨pb, 2, none⟩ = some (.pointer (some ⟨lb, 0, none⟩)))
      (first | go_keep | exact hkk)
      (first
        | (go_at_call 20; refine hm1.out.mono ?_; rintro e w5 ⟨rfl, hw5⟩; obtain rfl := hw5.symm; have hkk := hkk1.out; have gC := gW.out; have b5 := bz.out; have v0 := b5.cell (i := 0) rfl; have v1 := b5.cell (i := 1) rfl; have r0 := b5.frozen 0; have r1 := b5.frozen 1)
        | (go_at_call 20; refine hm0.out.mono ?_; rintro e w5 ⟨rfl, hw5⟩; obtain rfl := hw5.symm; have hkk := hkk0.out; have gC := g0.out))
    all_goals (go_wp2_with fail)
    all_goals go_meet
    all_goals
      first
        | exact ⟨_, rfl, rfl, Lib.hid (Nat.le_refl _), Lib.hid (grownBy_drewN (World.grownBy_alloc w2 _ _) 1), Lib.hid (Blk.new w2 _ _)⟩
        | exact ⟨_, rfl, rfl, Lib.hid (Nat.le_refl _), Lib.hid (grownBy_tr gC (World.grownBy_alloc _ _ _)), Lib.hid (Blk.new _ _ _)⟩
        | exact ⟨_, rfl, rfl, Lib.hid (Nat.le_refl _), Lib.hid (grown_setNew (grown_setNew gC (Nat.le_refl _) 0 _) (Nat.le_refl _) 1 _), Lib.hid ((b5.set 0 _).set 1 _)⟩
  case rest =>
    obtain ⟨zi, rfl, rfl, hzi, gX, bX⟩ := hcut
    clear hm0 hm1 bz gW g0 hkk0 hkk1 hcv2 hcn2 c22 hpl2 x0 y0 hxl hyl
    obtain ⟨h3, k3⟩ := h2.out.grown gX.out
    have b1' : Blk wc x _ _ := (gX.out.block x b1.out.lt (by simp)).trans b1.out
    have b2' : Blk wc (x + 1) _ _ := (gX.out.block (x + 1) b2.out.lt (by simp)).trans b2.out
    have z0 := bX.out.cell (i := 0) rfl
    have z1 := bX.out.cell (i := 1) rfl
    have hzl := bX.out.lt
    have x0 := b1'.cell (i := 0) rfl
    have y0 := b2'.cell (i := 0) rfl
    have hxl := b1'.lt
    have hyl := b2'.lt
    have hcv := h3.prc.cell (procC_v (fb := c.fb) (tb := c.tb) (lb := lb) hp)
    have hcn := h3.prc.cell (procC_n (fb := c.fb) (tb := c.tb) (lb := lb) hp)
    have c2 : wc.cell? ⟨pb, 2, none⟩ = some (.pointer (some ⟨lb, 0, none⟩)) := h3.prc.cell (i := 2) rfl
    have hpl := h3.prc.lt
    have fv := h3.prc.frozen (3 + i * 2)
    have fn := h3.prc.frozen (3 + i * 2 + 1)
    simp only at hcv hcn
    replace b1' := Lib.hid b1'
    replace b2' := Lib.hid b2'
    replace h3 := Lib.hid h3
    replace k3 := Lib.hid (k2.out.trans k3)
    clear b1 b2 h2 k2
    have hd : ((pn : Int) == (ML : Int)) = false := by
      rw [beq_eq_false_iff_ne]
      have := hML.out
      have := hn.out
      omega
    have hnt := fun back => h3.out.log.full hmk hf back
    unfold ptrV at hnt
    replace hnt := Lib.hid hnt
    replace hmk := Lib.hid hmk
    clear hn
    go_upto_region 6 with fail
    go_wp2_with (go_at_call 129; refine (hnt.out _).mono ?_; rintro e w5 ⟨rfl, nq, rfl⟩)
    have g5 : wc.grownBy (wc.drewN nq) none := grownBy_drewN (grownBy_re wc) nq
    obtain ⟨h5, k5⟩ := h3.out.grown g5
    have hcall := hfree.out _ h5 (k3.out.trans k5)
    have q1 : (wc.drewN nq).cell? ⟨x + 1, 0, none⟩ = some (.func (.func 84) #[.pointer (some ⟨pb, 0, none⟩)] #[]) := y0
    have l1 : x + 1 < (wc.drewN nq).heap.size := hyl
    unfold ptrV at hcall
    replace hcall := Lib.hid hcall
    generalize wc.drewN nq = w5 at q1 l1 hcall ⊢
    clear z0 z1 hzl x0 y0 hxl hyl hcv hcn c2 hpl fv fn h5 k5 hfree g5
    go_wp2_with fail
    refine hcall.out.mono ?_
    rintro e w' ⟨rfl, hR⟩
    replace hR := Lib.hid hR
    clear hcall q1
    go_wp2
    go_ret
    exact ⟨rfl, hR.out⟩
theorem change_full_dir {i : Nat} {p : Pt} (h : PrR w B F c pb lb most nest s ps ns mk) (hp : ps[i]? = some p) (hn : p.n ≠ mk.length) (hmk : mk ≠ []) (hf : ns.length = most) (v : Int) (R : World → Prop)
    (hfree : ∀ w1, PrR w1 B F c pb lb most nest s ps ns mk → PCh B F F pb w w1 → Calls Tryz.prog 121 #[ptrV pb, .int .i64 v] w1 fun e w' => e = .returned (.tuple #[]) ∧ R w') :
    Calls Tryz.prog 83 #[ptrV pb, partP pb i, .int .i64 v, .func (.func 121) #[ptrV pb] #[]] w fun e w' => e = .returned (.int .i64 43) ∧ R w' := by
  unfold partP ptrV
  have hpc := h.prc
  have hcv := hpc.cell (procC_v (fb := c.fb) (tb := c.tb) (lb := lb) hp)
  have hcn := hpc.cell (procC_n (fb := c.fb) (tb := c.tb) (lb := lb) hp)
  have c2 : w.cell? ⟨pb, 2, none⟩ = some (.pointer (some ⟨lb, 0, none⟩)) := hpc.cell (i := 2) rfl
  have hpl := hpc.lt
  obtain ⟨pv, pn⟩ := p
  simp only at hcv hcn hn hfree ⊢
  obtain ⟨x, hx⟩ : ∃ x, w.heap.size = x := ⟨_, rfl⟩
  have hpx : pb < x := by rw [← hx]; exact hpl
  have g2 : w.grownBy ((w.alloc (.cells #[.pointer (some ⟨pb, 3 + i * 2, none⟩)] 128)).alloc (.cells #[.func (.func 121) #[.pointer (some ⟨pb, 0, none⟩)] #[]] 129)) none := grownBy_tr (World.grownBy_alloc w _ _) (World.grownBy_alloc _ _ _)
  have b1 : Blk ((w.alloc (.cells #[.pointer (some ⟨pb, 3 + i * 2, none⟩)] 128)).alloc (.cells #[.func (.func 121) #[.pointer (some ⟨pb, 0, none⟩)] #[]] 129)) x [.pointer (some ⟨pb, 3 + i * 2, none⟩)] 128 := by rw [← hx]; exact (Blk.new w _ _).alloc _
  have b2 : Blk ((w.alloc (.cells #[.pointer (some ⟨pb, 3 + i * 2, none⟩)] 128)).alloc (.cells #[.func (.func 121) #[.pointer (some ⟨pb, 0, none⟩)] #[]] 129)) (x + 1) [.func (.func 121) #[.pointer (some ⟨pb, 0, none⟩)] #[]] 129 := by
    have := Blk.new (w.alloc (.cells #[.pointer (some ⟨pb, 3 + i * 2, none⟩)] 128)) [.func (.func 121) #[.pointer (some ⟨pb, 0, none⟩)] #[]] 129
    rwa [show (w.alloc (.cells #[.pointer (some ⟨pb, 3 + i * 2, none⟩)] 128)).heap.size = x + 1 by simp [hx]] at this
  have hs1 : (w.alloc (.cells #[.pointer (some ⟨pb, 3 + i * 2, none⟩)] 128)).heap.size = x + 1 := by simp [hx]
  have n2 : ((w.alloc (.cells #[.pointer (some ⟨pb, 3 + i * 2, none⟩)] 128)).alloc (.cells #[.func (.func 121) #[.pointer (some ⟨pb, 0, none⟩)] #[]] 129)).heap.size = x + 2 := by simp [hx]
  replace hfree := Lib.hid hfree
  replace h := Lib.hid h
  replace hpc := Lib.hid hpc
  replace hx := Lib.hid hx
  go_enter Tryz.func83, Tryz.ntmps83
  go_upto_region 1 with fail
  try simp only [hs1]
  try simp only [hx.out]
  generalize ((w.alloc (.cells #[.pointer (some ⟨pb, 3 + i * 2, none⟩)] 128)).alloc (.cells #[.func (.func 121) #[.pointer (some ⟨pb, 0, none⟩)] #[]] 129)) = w2 at g2 b1 b2 n2 ⊢
  obtain ⟨h2, k2⟩ := h.out.grown g2
  have hcv2 := h2.prc.cell (procC_v (fb := c.fb) (tb := c.tb) (lb := lb) hp)
  have hcn2 := h2.prc.cell (procC_n (fb := c.fb) (tb := c.tb) (lb := lb) hp)
  have c22 : w2.cell? ⟨pb, 2, none⟩ = some (.pointer (some ⟨lb, 0, none⟩)) := h2.prc.cell (i := 2) rfl
  have hpl2 := h2.prc.lt
  have x0 := b1.cell (i := 0) rfl
  have y0 := b2.cell (i := 0) rfl
  have hxl := b1.lt
  have hyl := b2.lt
  simp only at hcv2 hcn2
  clear hcv hcn c2 hpl
  have gW : w2.grownBy ((w2.alloc (.cells #[.int .i64 0, .int .i64 0] 123)).drew) none := grownBy_drewN (World.grownBy_alloc w2 _ _) 1
  have g0 : w2.grownBy w2.drew none := grownBy_drewN (grownBy_re w2) 1
  have bz : Blk ((w2.alloc (.cells #[.int .i64 0, .int .i64 0] 123)).drew) w2.heap.size [.int .i64 0, .int .i64 0] 123 := Blk.new w2 _ _
  have hm1 := (h2.grown gW).1.log.marks
  have hm0 := (h2.grown g0).1.log.marks
  unfold ptrV at hm0 hm1
  obtain ⟨ML, hML⟩ : ∃ ML, mk.length = ML := ⟨_, rfl⟩
  rw [hML] at hm0 hm1
  have hkk1 : ((w2.alloc (.cells #[.int .i64 0, .int .i64 0] 123)).drew).cell? ⟨x, 0, none⟩ = some (.pointer (some ⟨pb, 3 + i * 2, none⟩)) ∧ ((w2.alloc (.cells #[.int .i64 0, .int .i64 0] 123)).drew).cell? ⟨pb, 3 + i * 2, none⟩ = some (.int .i64 pv) ∧ ((w2.alloc (.cells #[.int .i64 0, .int .i64 0] 123)).drew).cell? ⟨pb, 3 + i * 2 + 1, none⟩ = some (.int .i64 (pn : Int)) ∧ ((w2.alloc (.cells #[.int .i64 0, .int .i64 0] 123)).drew).cell? ⟨pb, 2, none⟩ = some (.pointer (some ⟨lb, 0, none⟩)) :=
    ⟨(World.cell?_of_block (a := ⟨x, 0, none⟩) (gW.block x hxl (by simp))).trans x0, (World.cell?_of_block (a := ⟨pb, 3 + i * 2, none⟩) (gW.block pb hpl2 (by simp))).trans hcv2, (World.cell?_of_block (a := ⟨pb, 3 + i * 2 + 1, none⟩) (gW.block pb hpl2 (by simp))).trans hcn2, (World.cell?_of_block (a := ⟨pb, 2, none⟩) (gW.block pb hpl2 (by simp))).trans c22⟩
  have hkk0 : w2.drew.cell? ⟨x, 0, none⟩ = some (.pointer (some ⟨pb, 3 + i * 2, none⟩)) ∧ w2.drew.cell? ⟨pb, 3 + i * 2, none⟩ = some (.int .i64 pv) ∧ w2.drew.cell? ⟨pb, 3 + i * 2 + 1, none⟩ = some (.int .i64 (pn : Int)) ∧ w2.drew.cell? ⟨pb, 2, none⟩ = some (.pointer (some ⟨lb, 0, none⟩)) := ⟨x0, hcv2, hcn2, c22⟩
  have hzp : w2.heap.size ≠ pb := by omega
  replace hn := Lib.hid hn
  have hpz : pb ≠ w2.heap.size := by omega
  have hxz : x ≠ w2.heap.size := by omega
  replace n2 := Lib.hid n2
  replace hm0 := Lib.hid hm0
  replace hm1 := Lib.hid hm1
  replace bz := Lib.hid bz
  replace gW := Lib.hid gW
  replace g0 := Lib.hid g0
  replace hkk0 := Lib.hid hkk0
  replace hkk1 := Lib.hid hkk1
  replace b1 := Lib.hid b1
  replace b2 := Lib.hid b2
  replace h2 := Lib.hid h2
  replace k2 := Lib.hid k2
  replace hML := Lib.hid hML
  go_cut [9, 10] from 12 to 19 (fun t9 t10 wx => ∃ zi : Nat, t9 = .pointer (some ⟨zi, 0, none⟩) ∧ t10 = .int .i64 (ML : Int) ∧ Hid (w2.heap.size ≤ zi) ∧ Hid (w2.grownBy wx none) ∧ Hid (Blk wx zi [.int .i64 pv, .int .i64 (pn : Int)] 123))
  case first =>
    go_region_held3 (fun w' => w'.cell? ⟨x, 0, none⟩ = some (.pointer (some ⟨pb, 3 + i * 2, none⟩)) ∧ w'.cell? ⟨pb, 3 + i * 2, none⟩ = some (.int .i64 pv) ∧ w'.cell? ⟨pb, 3 + i * 2 + 1, none⟩ = some (.int .i64 (pn : Int)) ∧ w'.cell? ⟨pb, 2, none⟩ = some (.pointer (some ⟨lb, 0, none⟩)))
      (first | go_keep | exact hkk)
      (first
        | (go_at_call 20; refine hm1.out.mono ?_; rintro e w5 ⟨rfl, hw5⟩; obtain rfl := hw5.symm; have hkk := hkk1.out; have gC := gW.out; have b5 := bz.out; have v0 := b5.cell (i := 0) rfl; have v1 := b5.cell (i := 1) rfl; have r0 := b5.frozen 0; have r1 := b5.frozen 1)
        | (go_at_call 20; refine hm0.out.mono ?_; rintro e w5 ⟨rfl, hw5⟩; obtain rfl := hw5.symm; have hkk := hkk0.out; have gC := g0.out))
    all_goals (go_wp2_with fail)
    all_goals go_meet
    all_goals
      first
        | exact ⟨_, rfl, rfl, Lib.hid (Nat.le_refl _), Lib.hid (grownBy_drewN (World.grownBy_alloc w2 _ _) 1), Lib.hid (Blk.new w2 _ _)⟩
        | exact ⟨_, rfl, rfl, Lib.hid (Nat.le_refl _), Lib.hid (grownBy_tr gC (World.grownBy_alloc _ _ _)), Lib.hid (Blk.new _ _ _)⟩
        | exact ⟨_, rfl, rfl, Lib.hid (Nat.le_refl _), Lib.hid (grown_setNew (grown_setNew gC (Nat.le_refl _) 0 _) (Nat.le_refl _) 1 _), Lib.hid ((b5.set 0 _).set 1 _)⟩
  case rest =>
    obtain ⟨zi, rfl, rfl, hzi, gX, bX⟩ := hcut
    clear hm0 hm1 bz gW g0 hkk0 hkk1 hcv2 hcn2 c22 hpl2 x0 y0 hxl hyl
    obtain ⟨h3, k3⟩ := h2.out.grown gX.out
    have b1' : Blk wc x _ _ := (gX.out.block x b1.out.lt (by simp)).trans b1.out
    have b2' : Blk wc (x + 1) _ _ := (gX.out.block (x + 1) b2.out.lt (by simp)).trans b2.out
    have z0 := bX.out.cell (i := 0) rfl
    have z1 := bX.out.cell (i := 1) rfl
    have hzl := bX.out.lt
    have x0 := b1'.cell (i := 0) rfl
    have y0 := b2'.cell (i := 0) rfl
    have hxl := b1'.lt
    have hyl := b2'.lt
    have hcv := h3.prc.cell (procC_v (fb := c.fb) (tb := c.tb) (lb := lb) hp)
    have hcn := h3.prc.cell (procC_n (fb := c.fb) (tb := c.tb) (lb := lb) hp)
    have c2 : wc.cell? ⟨pb, 2, none⟩ = some (.pointer (some ⟨lb, 0, none⟩)) := h3.prc.cell (i := 2) rfl
    have hpl := h3.prc.lt
    have fv := h3.prc.frozen (3 + i * 2)
    have fn := h3.prc.frozen (3 + i * 2 + 1)
    simp only at hcv hcn
    replace b1' := Lib.hid b1'
    replace b2' := Lib.hid b2'
    replace h3 := Lib.hid h3
    replace k3 := Lib.hid (k2.out.trans k3)
    clear b1 b2 h2 k2
    have hd : ((pn : Int) == (ML : Int)) = false := by
      rw [beq_eq_false_iff_ne]
      have := hML.out
      have := hn.out
      omega
    have hnt := fun back => h3.out.log.full hmk hf back
    unfold ptrV at hnt
    replace hnt := Lib.hid hnt
    replace hmk := Lib.hid hmk
    clear hn
    go_upto_region 6 with fail
    go_wp2_with (go_at_call 129; refine (hnt.out _).mono ?_; rintro e w5 ⟨rfl, nq, rfl⟩)
    have g5 : wc.grownBy (wc.drewN nq) none := grownBy_drewN (grownBy_re wc) nq
    obtain ⟨h5, k5⟩ := h3.out.grown g5
    have hcall := hfree.out _ h5 (k3.out.trans k5)
    have q1 : (wc.drewN nq).cell? ⟨x + 1, 0, none⟩ = some (.func (.func 121) #[.pointer (some ⟨pb, 0, none⟩)] #[]) := y0
    have l1 : x + 1 < (wc.drewN nq).heap.size := hyl
    unfold ptrV at hcall
    replace hcall := Lib.hid hcall
    generalize wc.drewN nq = w5 at q1 l1 hcall ⊢
    clear z0 z1 hzl x0 y0 hxl hyl hcv hcn c2 hpl fv fn h5 k5 hfree g5
    go_wp2_with fail
    refine hcall.out.mono ?_
    rintro e w' ⟨rfl, hR⟩
    replace hR := Lib.hid hR
    clear hcall q1
    go_wp2
    go_ret
    exact ⟨rfl, hR.out⟩
theorem change_full_mask {i : Nat} {p : Pt} (h : PrR w B F c pb lb most nest s ps ns mk) (hp : ps[i]? = some p) (hn : p.n ≠ mk.length) (hmk : mk ≠ []) (hf : ns.length = most) (v : Int) (R : World → Prop)
    (hfree : ∀ w1, PrR w1 B F c pb lb most nest s ps ns mk → PCh B F F pb w w1 → Calls Tryz.prog 122 #[.int .i64 v] w1 fun e w' => e = .returned (.tuple #[]) ∧ R w') :
    Calls Tryz.prog 83 #[ptrV pb, partP pb i, .int .i64 v, .func (.func 122) #[] #[]] w fun e w' => e = .returned (.int .i64 43) ∧ R w' := by
  unfold partP ptrV
  have hpc := h.prc
  have hcv := hpc.cell (procC_v (fb := c.fb) (tb := c.tb) (lb := lb) hp)
  have hcn := hpc.cell (procC_n (fb := c.fb) (tb := c.tb) (lb := lb) hp)
  have c2 : w.cell? ⟨pb, 2, none⟩ = some (.pointer (some ⟨lb, 0, none⟩)) := hpc.cell (i := 2) rfl
  have hpl := hpc.lt
  obtain ⟨pv, pn⟩ := p
  simp only at hcv hcn hn hfree ⊢
  obtain ⟨x, hx⟩ : ∃ x, w.heap.size = x := ⟨_, rfl⟩
  have hpx : pb < x := by rw [← hx]; exact hpl
  have g2 : w.grownBy ((w.alloc (.cells #[.pointer (some ⟨pb, 3 + i * 2, none⟩)] 128)).alloc (.cells #[.func (.func 122) #[] #[]] 129)) none := grownBy_tr (World.grownBy_alloc w _ _) (World.grownBy_alloc _ _ _)
  have b1 : Blk ((w.alloc (.cells #[.pointer (some ⟨pb, 3 + i * 2, none⟩)] 128)).alloc (.cells #[.func (.func 122) #[] #[]] 129)) x [.pointer (some ⟨pb, 3 + i * 2, none⟩)] 128 := by rw [← hx]; exact (Blk.new w _ _).alloc _
  have b2 : Blk ((w.alloc (.cells #[.pointer (some ⟨pb, 3 + i * 2, none⟩)] 128)).alloc (.cells #[.func (.func 122) #[] #[]] 129)) (x + 1) [.func (.func 122) #[] #[]] 129 := by
    have := Blk.new (w.alloc (.cells #[.pointer (some ⟨pb, 3 + i * 2, none⟩)] 128)) [.func (.func 122) #[] #[]] 129
    rwa [show (w.alloc (.cells #[.pointer (some ⟨pb, 3 + i * 2, none⟩)] 128)).heap.size = x + 1 by simp [hx]] at this
  have hs1 : (w.alloc (.cells #[.pointer (some ⟨pb, 3 + i * 2, none⟩)] 128)).heap.size = x + 1 := by simp [hx]
  have n2 : ((w.alloc (.cells #[.pointer (some ⟨pb, 3 + i * 2, none⟩)] 128)).alloc (.cells #[.func (.func 122) #[] #[]] 129)).heap.size = x + 2 := by simp [hx]
  replace hfree := Lib.hid hfree
  replace h := Lib.hid h
  replace hpc := Lib.hid hpc
  replace hx := Lib.hid hx
  go_enter Tryz.func83, Tryz.ntmps83
  go_upto_region 1 with fail
  try simp only [hs1]
  try simp only [hx.out]
  generalize ((w.alloc (.cells #[.pointer (some ⟨pb, 3 + i * 2, none⟩)] 128)).alloc (.cells #[.func (.func 122) #[] #[]] 129)) = w2 at g2 b1 b2 n2 ⊢
  obtain ⟨h2, k2⟩ := h.out.grown g2
  have hcv2 := h2.prc.cell (procC_v (fb := c.fb) (tb := c.tb) (lb := lb) hp)
  have hcn2 := h2.prc.cell (procC_n (fb := c.fb) (tb := c.tb) (lb := lb) hp)
  have c22 : w2.cell? ⟨pb, 2, none⟩ = some (.pointer (some ⟨lb, 0, none⟩)) := h2.prc.cell (i := 2) rfl
  have hpl2 := h2.prc.lt
  have x0 := b1.cell (i := 0) rfl
  have y0 := b2.cell (i := 0) rfl
  have hxl := b1.lt
  have hyl := b2.lt
  simp only at hcv2 hcn2
  clear hcv hcn c2 hpl
  have gW : w2.grownBy ((w2.alloc (.cells #[.int .i64 0, .int .i64 0] 123)).drew) none := grownBy_drewN (World.grownBy_alloc w2 _ _) 1
  have g0 : w2.grownBy w2.drew none := grownBy_drewN (grownBy_re w2) 1
  have bz : Blk ((w2.alloc (.cells #[.int .i64 0, .int .i64 0] 123)).drew) w2.heap.size [.int .i64 0, .int .i64 0] 123 := Blk.new w2 _ _
  have hm1 := (h2.grown gW).1.log.marks
  have hm0 := (h2.grown g0).1.log.marks
  unfold ptrV at hm0 hm1
  obtain ⟨ML, hML⟩ : ∃ ML, mk.length = ML := ⟨_, rfl⟩
  rw [hML] at hm0 hm1
  have hkk1 : ((w2.alloc (.cells #[.int .i64 0, .int .i64 0] 123)).drew).cell? ⟨x, 0, none⟩ = some (.pointer (some ⟨pb, 3 + i * 2, none⟩)) ∧ ((w2.alloc (.cells #[.int .i64 0, .int .i64 0] 123)).drew).cell? ⟨pb, 3 + i * 2, none⟩ = some (.int .i64 pv) ∧ ((w2.alloc (.cells #[.int .i64 0, .int .i64 0] 123)).drew).cell? ⟨pb, 3 + i * 2 + 1, none⟩ = some (.int .i64 (pn : Int)) ∧ ((w2.alloc (.cells #[.int .i64 0, .int .i64 0] 123)).drew).cell? ⟨pb, 2, none⟩ = some (.pointer (some ⟨lb, 0, none⟩)) :=
    ⟨(World.cell?_of_block (a := ⟨x, 0, none⟩) (gW.block x hxl (by simp))).trans x0, (World.cell?_of_block (a := ⟨pb, 3 + i * 2, none⟩) (gW.block pb hpl2 (by simp))).trans hcv2, (World.cell?_of_block (a := ⟨pb, 3 + i * 2 + 1, none⟩) (gW.block pb hpl2 (by simp))).trans hcn2, (World.cell?_of_block (a := ⟨pb, 2, none⟩) (gW.block pb hpl2 (by simp))).trans c22⟩
  have hkk0 : w2.drew.cell? ⟨x, 0, none⟩ = some (.pointer (some ⟨pb, 3 + i * 2, none⟩)) ∧ w2.drew.cell? ⟨pb, 3 + i * 2, none⟩ = some (.int .i64 pv) ∧ w2.drew.cell? ⟨pb, 3 + i * 2 + 1, none⟩ = some (.int .i64 (pn : Int)) ∧ w2.drew.cell? ⟨pb, 2, none⟩ = some (.pointer (some ⟨lb, 0, none⟩)) := ⟨x0, hcv2, hcn2, c22⟩
  have hzp : w2.heap.size ≠ pb := by omega
  replace hn := Lib.hid hn
  have hpz : pb ≠ w2.heap.size := by omega
  have hxz : x ≠ w2.heap.size := by omega
  replace n2 := Lib.hid n2
  replace hm0 := Lib.hid hm0
  replace hm1 := Lib.hid hm1
  replace bz := Lib.hid bz
  replace gW := Lib.hid gW
  replace g0 := Lib.hid g0
  replace hkk0 := Lib.hid hkk0
  replace hkk1 := Lib.hid hkk1
  replace b1 := Lib.hid b1
  replace b2 := Lib.hid b2
  replace h2 := Lib.hid h2
  replace k2 := Lib.hid k2
  replace hML := Lib.hid hML
  go_cut [9, 10] from 12 to 19 (fun t9 t10 wx => ∃ zi : Nat, t9 = .pointer (some ⟨zi, 0, none⟩) ∧ t10 = .int .i64 (ML : Int) ∧ Hid (w2.heap.size ≤ zi) ∧ Hid (w2.grownBy wx none) ∧ Hid (Blk wx zi [.int .i64 pv, .int .i64 (pn : Int)] 123))
  case first =>
    go_region_held3 (fun w' => w'.cell? ⟨x, 0, none⟩ = some (.pointer (some ⟨pb, 3 + i * 2, none⟩)) ∧ w'.cell? ⟨pb, 3 + i * 2, none⟩ = some (.int .i64 pv) ∧ w'.cell? ⟨pb, 3 + i * 2 + 1, none⟩ = some (.int .i64 (pn : Int)) ∧ w'.cell? ⟨pb, 2, none⟩ = some (.pointer (some ⟨lb, 0, none⟩)))
      (first | go_keep | exact hkk)
      (first
        | (go_at_call 20; refine hm1.out.mono ?_; rintro e w5 ⟨rfl, hw5⟩; obtain rfl := hw5.symm; have hkk := hkk1.out; have gC := gW.out; have b5 := bz.out; have v0 := b5.cell (i := 0) rfl; have v1 := b5.cell (i := 1) rfl; have r0 := b5.frozen 0; have r1 := b5.frozen 1)
        | (go_at_call 20; refine hm0.out.mono ?_; rintro e w5 ⟨rfl, hw5⟩; obtain rfl := hw5.symm; have hkk := hkk0.out; have gC := g0.out))
    all_goals (go_wp2_with fail)
    all_goals go_meet
    all_goals
      first
        | exact ⟨_, rfl, rfl, Lib.hid (Nat.le_refl _), Lib.hid (grownBy_drewN (World.grownBy_alloc w2 _ _) 1), Lib.hid (Blk.new w2 _ _)⟩
        | exact ⟨_, rfl, rfl, Lib.hid (Nat.le_refl _), Lib.hid (grownBy_tr gC (World.grownBy_alloc _ _ _)), Lib.hid (Blk.new _ _ _)⟩
        | exact ⟨_, rfl, rfl, Lib.hid (Nat.le_refl _), Lib.hid (grown_setNew (grown_setNew gC (Nat.le_refl _) 0 _) (Nat.le_refl _) 1 _), Lib.hid ((b5.set 0 _).set 1 _)⟩
  case rest =>
    obtain ⟨zi, rfl, rfl, hzi, gX, bX⟩ := hcut
    clear hm0 hm1 bz gW g0 hkk0 hkk1 hcv2 hcn2 c22 hpl2 x0 y0 hxl hyl
    obtain ⟨h3, k3⟩ := h2.out.grown gX.out
    have b1' : Blk wc x _ _ := (gX.out.block x b1.out.lt (by simp)).trans b1.out
    have b2' : Blk wc (x + 1) _ _ := (gX.out.block (x + 1) b2.out.lt (by simp)).trans b2.out
    have z0 := bX.out.cell (i := 0) rfl
    have z1 := bX.out.cell (i := 1) rfl
    have hzl := bX.out.lt
    have x0 := b1'.cell (i := 0) rfl
    have y0 := b2'.cell (i := 0) rfl
    have hxl := b1'.lt
    have hyl := b2'.lt
    have hcv := h3.prc.cell (procC_v (fb := c.fb) (tb := c.tb) (lb := lb) hp)
    have hcn := h3.prc.cell (procC_n (fb := c.fb) (tb := c.tb) (lb := lb) hp)
    have c2 : wc.cell? ⟨pb, 2, none⟩ = some (.pointer (some ⟨lb, 0, none⟩)) := h3.prc.cell (i := 2) rfl
    have hpl := h3.prc.lt
    have fv := h3.prc.frozen (3 + i * 2)
    have fn := h3.prc.frozen (3 + i * 2 + 1)
    simp only at hcv hcn
    replace b1' := Lib.hid b1'
    replace b2' := Lib.hid b2'
    replace h3 := Lib.hid h3
    replace k3 := Lib.hid (k2.out.trans k3)
    clear b1 b2 h2 k2
    have hd : ((pn : Int) == (ML : Int)) = false := by
      rw [beq_eq_false_iff_ne]
      have := hML.out
      have := hn.out
      omega
    have hnt := fun back => h3.out.log.full hmk hf back
    unfold ptrV at hnt
    replace hnt := Lib.hid hnt
    replace hmk := Lib.hid hmk
    clear hn
    go_upto_region 6 with fail
    go_wp2_with (go_at_call 129; refine (hnt.out _).mono ?_; rintro e w5 ⟨rfl, nq, rfl⟩)
    have g5 : wc.grownBy (wc.drewN nq) none := grownBy_drewN (grownBy_re wc) nq
    obtain ⟨h5, k5⟩ := h3.out.grown g5
    have hcall := hfree.out _ h5 (k3.out.trans k5)
    have q1 : (wc.drewN nq).cell? ⟨x + 1, 0, none⟩ = some (.func (.func 122) #[] #[]) := y0
    have l1 : x + 1 < (wc.drewN nq).heap.size := hyl
    unfold ptrV at hcall
    replace hcall := Lib.hid hcall
    generalize wc.drewN nq = w5 at q1 l1 hcall ⊢
    clear z0 z1 hzl x0 y0 hxl hyl hcv hcn c2 hpl fv fn h5 k5 hfree g5
    go_wp2_with fail
    refine hcall.out.mono ?_
    rintro e w' ⟨rfl, hR⟩
    replace hR := Lib.hid hR
    clear hcall q1
    go_wp2
    go_ret
    exact ⟨rfl, hR.out⟩
theorem change_note {i : Nat} {p : Pt} (h : PrR w B F c pb lb most nest s ps ns mk) (hi : i < 18) (fk : Nat) (ar : Array Value) (hfv : freeV pb i = .func (.func fk) ar #[]) (hp : ps[i]? = some p) (hn : p.n ≠ mk.length) (hmk : mk ≠ []) (hf : ns.length < most) (v : Int) :
    Calls Tryz.prog 83 #[ptrV pb, partP pb i, .int .i64 v, .func (.func fk) ar #[]] w fun e w' => e = .returned (.int .i64 0) ∧ PrR w' B F c pb lb most nest s (ps.set i ⟨v, mk.length⟩) (ns ++ [(i, p)]) mk ∧ PCh B F F pb w w' := by
  replace hfv := Lib.hid hfv
  replace hi := Lib.hid hi
  unfold partP ptrV
  have hpc := h.prc
  have hcv := hpc.cell (procC_v (fb := c.fb) (tb := c.tb) (lb := lb) hp)
  have hcn := hpc.cell (procC_n (fb := c.fb) (tb := c.tb) (lb := lb) hp)
  have c2 : w.cell? ⟨pb, 2, none⟩ = some (.pointer (some ⟨lb, 0, none⟩)) := hpc.cell (i := 2) rfl
  have hpl := hpc.lt
  obtain ⟨pv, pn⟩ := p
  simp only at hcv hcn hn ⊢
  obtain ⟨x, hx⟩ : ∃ x, w.heap.size = x := ⟨_, rfl⟩
  have hpx : pb < x := by rw [← hx]; exact hpl
  have g2 : w.grownBy ((w.alloc (.cells #[.pointer (some ⟨pb, 3 + i * 2, none⟩)] 128)).alloc (.cells #[.func (.func fk) ar #[]] 129)) none := grownBy_tr (World.grownBy_alloc w _ _) (World.grownBy_alloc _ _ _)
  have b1 : Blk ((w.alloc (.cells #[.pointer (some ⟨pb, 3 + i * 2, none⟩)] 128)).alloc (.cells #[.func (.func fk) ar #[]] 129)) x [.pointer (some ⟨pb, 3 + i * 2, none⟩)] 128 := by rw [← hx]; exact (Blk.new w _ _).alloc _
  have b2 : Blk ((w.alloc (.cells #[.pointer (some ⟨pb, 3 + i * 2, none⟩)] 128)).alloc (.cells #[.func (.func fk) ar #[]] 129)) (x + 1) [.func (.func fk) ar #[]] 129 := by
    have := Blk.new (w.alloc (.cells #[.pointer (some ⟨pb, 3 + i * 2, none⟩)] 128)) [.func (.func fk) ar #[]] 129
    rwa [show (w.alloc (.cells #[.pointer (some ⟨pb, 3 + i * 2, none⟩)] 128)).heap.size = x + 1 by simp [hx]] at this
  have hs1 : (w.alloc (.cells #[.pointer (some ⟨pb, 3 + i * 2, none⟩)] 128)).heap.size = x + 1 := by simp [hx]
  have n2 : ((w.alloc (.cells #[.pointer (some ⟨pb, 3 + i * 2, none⟩)] 128)).alloc (.cells #[.func (.func fk) ar #[]] 129)).heap.size = x + 2 := by simp [hx]
  replace h := Lib.hid h
  replace hpc := Lib.hid hpc
  replace hx := Lib.hid hx
  go_enter Tryz.func83, Tryz.ntmps83
  go_upto_region 1 with fail
  try simp only [hs1]
  try simp only [hx.out]
  generalize ((w.alloc (.cells #[.pointer (some ⟨pb, 3 + i * 2, none⟩)] 128)).alloc (.cells #[.func (.func fk) ar #[]] 129)) = w2 at g2 b1 b2 n2 ⊢
  obtain ⟨h2, k2⟩ := h.out.grown g2
  have hcv2 := h2.prc.cell (procC_v (fb := c.fb) (tb := c.tb) (lb := lb) hp)
  have hcn2 := h2.prc.cell (procC_n (fb := c.fb) (tb := c.tb) (lb := lb) hp)
  have c22 : w2.cell? ⟨pb, 2, none⟩ = some (.pointer (some ⟨lb, 0, none⟩)) := h2.prc.cell (i := 2) rfl
  have hpl2 := h2.prc.lt
  have x0 := b1.cell (i := 0) rfl
  have y0 := b2.cell (i := 0) rfl
  have hxl := b1.lt
  have hyl := b2.lt
  simp only at hcv2 hcn2
  clear hcv hcn c2 hpl
  have gW : w2.grownBy ((w2.alloc (.cells #[.int .i64 0, .int .i64 0] 123)).drew) none := grownBy_drewN (World.grownBy_alloc w2 _ _) 1
  have g0 : w2.grownBy w2.drew none := grownBy_drewN (grownBy_re w2) 1
  have bz : Blk ((w2.alloc (.cells #[.int .i64 0, .int .i64 0] 123)).drew) w2.heap.size [.int .i64 0, .int .i64 0] 123 := Blk.new w2 _ _
  have hm1 := (h2.grown gW).1.log.marks
  have hm0 := (h2.grown g0).1.log.marks
  unfold ptrV at hm0 hm1
  obtain ⟨ML, hML⟩ : ∃ ML, mk.length = ML := ⟨_, rfl⟩
  rw [hML] at hm0 hm1
  have hkk1 : ((w2.alloc (.cells #[.int .i64 0, .int .i64 0] 123)).drew).cell? ⟨x, 0, none⟩ = some (.pointer (some ⟨pb, 3 + i * 2, none⟩)) ∧ ((w2.alloc (.cells #[.int .i64 0, .int .i64 0] 123)).drew).cell? ⟨pb, 3 + i * 2, none⟩ = some (.int .i64 pv) ∧ ((w2.alloc (.cells #[.int .i64 0, .int .i64 0] 123)).drew).cell? ⟨pb, 3 + i * 2 + 1, none⟩ = some (.int .i64 (pn : Int)) ∧ ((w2.alloc (.cells #[.int .i64 0, .int .i64 0] 123)).drew).cell? ⟨pb, 2, none⟩ = some (.pointer (some ⟨lb, 0, none⟩)) :=
    ⟨(World.cell?_of_block (a := ⟨x, 0, none⟩) (gW.block x hxl (by simp))).trans x0, (World.cell?_of_block (a := ⟨pb, 3 + i * 2, none⟩) (gW.block pb hpl2 (by simp))).trans hcv2, (World.cell?_of_block (a := ⟨pb, 3 + i * 2 + 1, none⟩) (gW.block pb hpl2 (by simp))).trans hcn2, (World.cell?_of_block (a := ⟨pb, 2, none⟩) (gW.block pb hpl2 (by simp))).trans c22⟩
  have hkk0 : w2.drew.cell? ⟨x, 0, none⟩ = some (.pointer (some ⟨pb, 3 + i * 2, none⟩)) ∧ w2.drew.cell? ⟨pb, 3 + i * 2, none⟩ = some (.int .i64 pv) ∧ w2.drew.cell? ⟨pb, 3 + i * 2 + 1, none⟩ = some (.int .i64 (pn : Int)) ∧ w2.drew.cell? ⟨pb, 2, none⟩ = some (.pointer (some ⟨lb, 0, none⟩)) := ⟨x0, hcv2, hcn2, c22⟩
  have hzp : w2.heap.size ≠ pb := by omega
  replace hn := Lib.hid hn
  have hpz : pb ≠ w2.heap.size := by omega
  have hxz : x ≠ w2.heap.size := by omega
  replace n2 := Lib.hid n2
  replace hm0 := Lib.hid hm0
  replace hm1 := Lib.hid hm1
  replace bz := Lib.hid bz
  replace gW := Lib.hid gW
  replace g0 := Lib.hid g0
  replace hkk0 := Lib.hid hkk0
  replace hkk1 := Lib.hid hkk1
  replace b1 := Lib.hid b1
  replace b2 := Lib.hid b2
  replace h2 := Lib.hid h2
  replace k2 := Lib.hid k2
  replace hML := Lib.hid hML
  go_cut [9, 10] from 12 to 19 (fun t9 t10 wx => ∃ zi : Nat, t9 = .pointer (some ⟨zi, 0, none⟩) ∧ t10 = .int .i64 (ML : Int) ∧ Hid (w2.heap.size ≤ zi) ∧ Hid (w2.grownBy wx none) ∧ Hid (Blk wx zi [.int .i64 pv, .int .i64 (pn : Int)] 123))
  case first =>
    go_region_held3 (fun w' => w'.cell? ⟨x, 0, none⟩ = some (.pointer (some ⟨pb, 3 + i * 2, none⟩)) ∧ w'.cell? ⟨pb, 3 + i * 2, none⟩ = some (.int .i64 pv) ∧ w'.cell? ⟨pb, 3 + i * 2 + 1, none⟩ = some (.int .i64 (pn : Int)) ∧ w'.cell? ⟨pb, 2, none⟩ = some (.pointer (some ⟨lb, 0, none⟩)))
      (first | go_keep | exact hkk)
      (first
        | (go_at_call 20; refine hm1.out.mono ?_; rintro e w5 ⟨rfl, hw5⟩; obtain rfl := hw5.symm; have hkk := hkk1.out; have gC := gW.out; have b5 := bz.out; have v0 := b5.cell (i := 0) rfl; have v1 := b5.cell (i := 1) rfl; have r0 := b5.frozen 0; have r1 := b5.frozen 1)
        | (go_at_call 20; refine hm0.out.mono ?_; rintro e w5 ⟨rfl, hw5⟩; obtain rfl := hw5.symm; have hkk := hkk0.out; have gC := g0.out))
    all_goals (go_wp2_with fail)
    all_goals go_meet
    all_goals
      first
        | exact ⟨_, rfl, rfl, Lib.hid (Nat.le_refl _), Lib.hid (grownBy_drewN (World.grownBy_alloc w2 _ _) 1), Lib.hid (Blk.new w2 _ _)⟩
        | exact ⟨_, rfl, rfl, Lib.hid (Nat.le_refl _), Lib.hid (grownBy_tr gC (World.grownBy_alloc _ _ _)), Lib.hid (Blk.new _ _ _)⟩
        | exact ⟨_, rfl, rfl, Lib.hid (Nat.le_refl _), Lib.hid (grown_setNew (grown_setNew gC (Nat.le_refl _) 0 _) (Nat.le_refl _) 1 _), Lib.hid ((b5.set 0 _).set 1 _)⟩
  case rest =>
    obtain ⟨zi, rfl, rfl, hzi, gX, bX⟩ := hcut
    clear hm0 hm1 bz gW g0 hkk0 hkk1 hcv2 hcn2 c22 hpl2 x0 y0 hxl hyl
    obtain ⟨h3, k3⟩ := h2.out.grown gX.out
    have b1' : Blk wc x _ _ := (gX.out.block x b1.out.lt (by simp)).trans b1.out
    have b2' : Blk wc (x + 1) _ _ := (gX.out.block (x + 1) b2.out.lt (by simp)).trans b2.out
    have z0 := bX.out.cell (i := 0) rfl
    have z1 := bX.out.cell (i := 1) rfl
    have hzl := bX.out.lt
    have x0 := b1'.cell (i := 0) rfl
    have y0 := b2'.cell (i := 0) rfl
    have hxl := b1'.lt
    have hyl := b2'.lt
    have hcv := h3.prc.cell (procC_v (fb := c.fb) (tb := c.tb) (lb := lb) hp)
    have hcn := h3.prc.cell (procC_n (fb := c.fb) (tb := c.tb) (lb := lb) hp)
    have c2 : wc.cell? ⟨pb, 2, none⟩ = some (.pointer (some ⟨lb, 0, none⟩)) := h3.prc.cell (i := 2) rfl
    have hpl := h3.prc.lt
    have fv := h3.prc.frozen (3 + i * 2)
    have fn := h3.prc.frozen (3 + i * 2 + 1)
    simp only at hcv hcn
    replace b1' := Lib.hid b1'
    replace b2' := Lib.hid b2'
    replace h3 := Lib.hid h3
    replace k3 := Lib.hid (k2.out.trans k3)
    clear b1 b2 h2 k2
    have hd : ((pn : Int) == (ML : Int)) = false := by
      rw [beq_eq_false_iff_ne]
      have := hML.out
      have := hn.out
      omega
    have hnp : ∀ g, w.heap.size ≤ g → ¬ F g := fun g hg hf => by have := h.out.sys.lt hf; omega
    have hwx := hx.out
    have hzi' := hzi.out
    have n2' := n2.out
    have hfvE := hfv.out
    have hno : NoteAt wc F pb (.func (.func 130) #[] #[ptrV x, ptrV zi, ptrV (x + 1)]) (i, ⟨pv, pn⟩) :=
      ⟨by have := hi.out; show i < 18; omega, x, zi, x + 1, rfl, ⟨b1'.out, hnp x (by omega), by omega, nl_pp⟩, ⟨bX.out, hnp zi (by omega), by omega, nl_part⟩, ⟨by rw [show (i, (⟨pv, pn⟩ : Pt)).1 = i from rfl, hfvE]; exact b2'.out, hnp (x + 1) (by omega), by omega, nl_fn⟩⟩
    have hnt := h3.out.log.note hmk hf h3.out.hB (i, ⟨pv, pn⟩) _ _ hno (fun w' q => PCh.of_fr q F h3.out.hB pb)
    unfold ptrV at hnt
    replace hnt := Lib.hid hnt
    replace hmk := Lib.hid hmk
    have hxp : x ≠ pb := by omega
    have nlx : ¬ LogB wc x := b1'.out.noLog nl_pp
    have xF : ¬ F x := hnp x (by omega)
    replace nlx := Lib.hid nlx
    replace xF := Lib.hid xF
    clear hn hno hnp
    go_upto_region 6 with fail
    go_wp2_with fail
    refine hnt.out.mono ?_
    rintro e w5 ⟨rfl, hL5, hF5⟩
    obtain ⟨h5, k5⟩ := h3.out.logStep hF5 hL5
    have x5 : w5.cell? ⟨x, 0, none⟩ = some (.pointer (some ⟨pb, 3 + i * 2, none⟩)) := (World.cell?_of_block (a := ⟨x, 0, none⟩) (k5.block x b1'.out.lt xF.out hxp nlx.out)).trans x0
    have l5 : x < w5.heap.size := Nat.lt_of_lt_of_le hxl k5.size
    have hcv5 := h5.prc.cell (procC_v (fb := c.fb) (tb := c.tb) (lb := lb) hp)
    have hcn5 := h5.prc.cell (procC_n (fb := c.fb) (tb := c.tb) (lb := lb) hp)
    have hpl5 := h5.prc.lt
    have fv5 := h5.prc.frozen (3 + i * 2)
    have fn5 := h5.prc.frozen (3 + i * 2 + 1)
    have h6 := h5.set1 (procC_setv hp v) (by rw [List.length_set]; exact h5.len)
    have h7 := h6.set1 (u := .int .i64 (ML : Int)) (ps' := ps.set i ⟨v, mk.length⟩) (by rw [← hML.out]; exact procC_setn hp v mk.length) (by rw [List.length_set]; exact h5.len)
    have k7 := ((k3.out.trans k5).trans (PCh.set B F w5 h5.hpb (3 + i * 2) (.int .i64 v))).trans (PCh.set B F _ h5.hpb (3 + i * 2 + 1) (.int .i64 (ML : Int)))
    simp only at hcv5 hcn5
    replace h7 := Lib.hid h7
    replace k7 := Lib.hid k7
    clear z0 z1 hzl x0 y0 hxl hyl hcv hcn c2 hpl fv fn h5 k5 h6 hL5 hF5 hnt
    go_wp2
    go_ret
    exact ⟨rfl, h7.out, k7.out⟩
theorem change_note_fd {i : Nat} {p : Pt} (h : PrR w B F c pb lb most nest s ps ns mk) (hi : i < 16) (hp : ps[i]? = some p) (hn : p.n ≠ mk.length) (hmk : mk ≠ []) (hf : ns.length < most) (v : Int) :
    Calls Tryz.prog 83 #[ptrV pb, partP pb i, .int .i64 v, .func (.func 84) #[ptrV pb] #[]] w fun e w' => e = .returned (.int .i64 0) ∧ PrR w' B F c pb lb most nest s (ps.set i ⟨v, mk.length⟩) (ns ++ [(i, p)]) mk ∧ PCh B F F pb w w' :=
  change_note h (by omega) _ _ (if_pos hi) hp hn hmk hf v
theorem change_note_dir {i : Nat} {p : Pt} (h : PrR w B F c pb lb most nest s ps ns mk) (hi : i = 16) (hp : ps[i]? = some p) (hn : p.n ≠ mk.length) (hmk : mk ≠ []) (hf : ns.length < most) (v : Int) :
    Calls Tryz.prog 83 #[ptrV pb, partP pb i, .int .i64 v, .func (.func 121) #[ptrV pb] #[]] w fun e w' => e = .returned (.int .i64 0) ∧ PrR w' B F c pb lb most nest s (ps.set i ⟨v, mk.length⟩) (ns ++ [(i, p)]) mk ∧ PCh B F F pb w w' :=
  change_note h (by omega) _ _ (by unfold freeV; rw [if_neg (by omega), if_pos hi]) hp hn hmk hf v
theorem change_note_mask {i : Nat} {p : Pt} (h : PrR w B F c pb lb most nest s ps ns mk) (hi : i = 17) (hp : ps[i]? = some p) (hn : p.n ≠ mk.length) (hmk : mk ≠ []) (hf : ns.length < most) (v : Int) :
    Calls Tryz.prog 83 #[ptrV pb, partP pb i, .int .i64 v, .func (.func 122) #[] #[]] w fun e w' => e = .returned (.int .i64 0) ∧ PrR w' B F c pb lb most nest s (ps.set i ⟨v, mk.length⟩) (ns ++ [(i, p)]) mk ∧ PCh B F F pb w w' :=
  change_note h (by omega) _ _ (by unfold freeV; rw [if_neg (by omega), if_neg (by omega)]) hp hn hmk hf v
end
end Go.Proofs.YtfofpphnglhopaaGreatDoor
