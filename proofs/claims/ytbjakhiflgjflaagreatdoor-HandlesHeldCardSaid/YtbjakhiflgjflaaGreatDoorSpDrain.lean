/-
  Drain of an open buffer: its next bytes, as many as asked for, or all. Conditions: at most a million bytes and chunks; numbers of the size of a pool's.
-/
import Derived.Test.YtbjakhiflgjflaaGreatDoorSpAppend
import Derived.Test.YtbjakhiflgjflaaGreatDoorSpGet
import Derived.Laws.MakeOwn
import Derived.Laws.IdiomStrings
namespace Go.Proofs.YtbjakhiflgjflaaGreatDoor
open Go Go.RowKit

/-- What a Drain of T bytes leaves. -/
def DrainPost (B pb bb k : Nat) (lab : Nat → Lab) (p : Ps) (sp : List Value) (b : Bs) (T : Nat) (w w' : World) : Prop :=
  ∃ (lab' : Nat → Lab) (u : Nat) (S' : Value) (sp' : List Value) (b' : Bs), PoolAt w' B lab' pb { p with held := p.held - T, used := u } S' sp' ∧
    Blk w' bb (bufC pb (b.gone + T) b.all.length b'.m b'.c) 232 ∧ BufR w' B lab' bb k p.mem p.ch b' ∧ b'.all = b.all ∧ b'.gone = b.gone + T ∧
    Step B k w.heap.size w lab w' lab' ∧ u + b.cs.length = p.used + b'.cs.length ∧ sp'.length + u ≤ sp.length + p.used
theorem bc_full {cur l : List Value} {T : Nat} (h1 : cur.length = T) (h2 : cur.take T = l) : cur = l := by rw [← h2, List.take_of_length_le (by omega)]

section
variable {B pb bb k : Nat} {lab : Nat → Lab} {p : Ps} {S : Value} {sp : List Value} {b : Bs} {w : World}

set_option maxHeartbeats 4000000 in
set_option maxRecDepth 100000 in
theorem drain_all (T L : Nat) (hP : PoolAt w B lab pb p S sp) (hblk : Blk w bb (bufC pb b.gone b.all.length b.m b.c) 232) (hR : BufR w B lab bb k p.mem p.ch b) (hnew : ∀ g, w.heap.size ≤ g → lab g = .free) (hB : B ≤ w.heap.size)
    (hlen : b.all.length ≤ 1000000) (hmem : p.mem ≤ 65536) (hch : 0 < p.ch ∧ p.ch ≤ 65536) (hfew : sp.length + p.used ≤ 1000000) (hu : b.cs.length ≤ p.used) (hheld : b.all.length - b.gone ≤ p.held) (hhb : p.held ≤ 1048576) (hLd : b.all.length - b.gone = L) (hTL : T ≤ L) :
    Calls Tryz.prog 279 #[.pointer (some ⟨bb, 0, none⟩), .int .i64 (T : Int)] w fun e w' => e = .returned (.tuple #[.string ⟨((b.all.drop b.gone).take T).toArray⟩, .int .i64 0]) ∧ DrainPost B pb bb k lab p sp b T w w' := by
  have hop := open_ok pb bb b.gone b.all.length b.m b.c w hblk
  have hgl := hR.gl
  have hln := len_ok pb bb b.gone b.all.length b.m b.c w hblk hgl (by omega)
  rw [hLd] at hln
  have hTl : b.gone + T ≤ b.all.length := by omega
  have hTh : T ≤ p.held := by omega
  obtain ⟨i0, hi, hz0, hz1, hz2⟩ := info_parts infoU8
  have hmk : ∀ W : World, (Instr.makeSlice 134 (.int .i64 (T : Int)) (.int .i64 (T : Int))).run Tryz.prog W = .ok (.slice (some ⟨W.heap.size, 0, none⟩) T T) (W.alloc (.cells (madeCells #[.int .u8 0] T) 5)) := fun W => by
    have := run_make W 134 5 i0 _ Tryz.underlying134 hi hz0 .i64 .i64 (T : Int) (T : Int) (by omega) (Int.le_refl _) (by rw [hz2]; omega) (by omega)
    rw [hz1, Int.toNat_natCast, Nat.mul_one] at this
    exact this
  obtain ⟨h, hhh⟩ : ∃ h, p.held = h := ⟨_, rfl⟩
  rw [hhh] at hTh hhb
  have hpl := hP.blk.lt
  have hbl := hblk.lt
  have hpb : pb ≠ bb := lab_ne hP.lb hR.lb nofun
  have hT0 : (0 : Int) ≤ (T : Int) := by omega
  replace hhh := Lib.hid hhh
  replace hP := Lib.hid hP
  replace hR := Lib.hid hR
  replace hblk := Lib.hid hblk
  replace hnew := Lib.hid hnew
  replace hLd := Lib.hid hLd
  replace hTl := Lib.hid hTl
  replace hgl := Lib.hid hgl
  replace hlen := Lib.hid hlen
  replace hu := Lib.hid hu
  replace hfew := Lib.hid hfew
  replace hch := Lib.hid hch
  clear hi hz0 hz1 hz2 hheld
  go_enter Tryz.func279, Tryz.ntmps279
  go_wp2_with fail
  refine hop.mono ?_
  rintro e w1 ⟨rfl, hw⟩
  obtain rfl := hw.symm
  clear hop
  go_wp2_with fail
  refine hln.mono ?_
  rintro e w1 ⟨rfl, nd, rfl⟩
  clear hln
  go_upto_region 7 with fail
  have hmc : (madeCells #[.int .u8 0] T) = ((madeCells #[.int .u8 0] T).toList).toArray := by simp
  have ho2 : Blk ((w.drewN nd).alloc (.cells (madeCells #[.int .u8 0] T) 5)) w.heap.size (madeCells #[.int .u8 0] T).toList 5 := by
    have := Blk.new (w.drewN nd) (madeCells #[.int .u8 0] T).toList 5
    rw [← hmc] at this
    exact this
  have hml : (madeCells #[.int .u8 0] T).toList.length = T := by rw [Array.length_toList, size_madeCells]
  have hk2 : ∀ g, g < w.heap.size → ((w.drewN nd).alloc (.cells (madeCells #[.int .u8 0] T) 5)).heap[g]? = w.heap[g]? := fun g hg => Below.heap_alloc (w.drewN nd) _ g hg
  have m2 : Mv B (fun g => Mine k (lab g) ∨ w.heap.size ≤ g) w ((w.drewN nd).alloc (.cells (madeCells #[.int .u8 0] T) 5)) := (heap_mv ⟨nd, rfl⟩).trans (Mv.alloc B _ (w.drewN nd) _)
  have hs2 : ((w.drewN nd).alloc (.cells (madeCells #[.int .u8 0] T) 5)).heap.size = w.heap.size + 1 := by simp
  generalize (madeCells #[.int .u8 0] T).toList = cur0 at ho2 hml
  generalize (w.drewN nd).alloc (.cells (madeCells #[.int .u8 0] T) 5) = w2 at ho2 hk2 m2 hs2 ⊢
  obtain ⟨z, hz⟩ : ∃ z, w.heap.size = z := ⟨_, rfl⟩
  have hP2 : PoolAt w2 B lab pb p S sp := hP.out.keep fun g hg _ => ⟨hk2 g hg, rfl⟩
  have hblk2 : Blk w2 bb (bufC pb b.gone b.all.length b.m b.c) 232 := (hk2 bb hbl).trans hblk.out
  have hR2 : BufR w2 B lab bb k p.mem p.ch b := hR.out.keep hbl fun g hg _ => ⟨hk2 g hg, rfl⟩
  have hst2 : Step B k w.heap.size w lab w2 lab := ⟨m2, fun _ _ _ => rfl, fun g hg => hnew.out g (by omega)⟩
  have hfr2 : lab z = .free := hnew.out z (by omega)
  rw [hz] at ho2 hbl hpl hs2 hB hst2 ⊢
  have hzh := Lib.hid hz
  replace hmk := Lib.hid hmk
  clear hk2 m2 hmc hz
  replace ho2 := Lib.hid ho2
  replace hml := Lib.hid hml
  replace hP2 := Lib.hid hP2
  replace hblk2 := Lib.hid hblk2
  replace hR2 := Lib.hid hR2
  replace hst2 := Lib.hid hst2
  replace hfr2 := Lib.hid hfr2
  go_wp2
  go_loopw [8] (fun av wr => ∃ (A : Nat) (lab' : Nat → Lab) (u : Nat) (S' : Value) (sp' : List Value) (b' : Bs) (cur : List Value), av = .int .i64 (A : Int) ∧ A ≤ T ∧ Hid (PoolAt wr B lab' pb { p with used := u } S' sp') ∧
      Hid (Blk wr bb (bufC pb b'.gone b'.all.length b'.m b'.c) 232) ∧ Hid (BufR wr B lab' bb k p.mem p.ch b') ∧ Hid (b'.all = b.all) ∧ Hid (b'.gone = b.gone + A) ∧ Hid (Blk wr z cur 5) ∧ Hid (cur.length = T) ∧ Hid (cur.take A = bc ((b.all.drop b.gone).take A)) ∧ Hid (lab' z = .free) ∧
      Hid (Step B k z w lab wr lab') ∧ Hid (u + b.cs.length = p.used + b'.cs.length) ∧ Hid (sp'.length + u ≤ sp.length + p.used)) (fun av _ => T - (intOf av).toNat)
  case atStart => exact ⟨0, lab, p.used, S, sp, b, cur0, rfl, Nat.zero_le _, hP2, hblk2, hR2, Lib.hid rfl, Lib.hid rfl, ho2, hml, Lib.hid rfl, hfr2, hst2, Lib.hid rfl, Lib.hid (Nat.le_refl _)⟩
  case round =>
    clear hP2 hblk2 hR2 hst2 hfr2 ho2 hml
    obtain ⟨A, lab', u, S', sp', b', cur, rfl, hAT, hP', hblk', hR', hall, hgone, ho', hcl, hct, hfr, hst, hcnt, hfw⟩ := hrel
    by_cases hlt : A < T
    · have hget := get_step (a := A) (dl := T - A) (dc := T - A) hP'.out hblk'.out hR'.out hst.out.new ho'.out hfr.out (Nat.le_refl _) hB (by rw [hcl.out]; omega) (by omega) (by rw [hgone.out, hall.out]; have := hTl.out; omega) hmem hch.out (by rw [hall.out]; exact hlen.out) (by show b'.cs.length ≤ u; have := hcnt.out; have := hu.out; omega) (by show sp'.length + u ≤ _; have := hfw.out; have := hfew.out; omega)
      have hA0 : (0 : Int) ≤ (A : Int) := by omega
      have hA1 : (A : Int) ≤ (T : Int) := by omega
      have hA2 : ¬ T = A := by omega
      go_wp2_with fail
      refine hget.mono ?_
      rintro e w3 ⟨N, lab2, u2, S2, sp2, b2, hN0, hNd, hNl, rfl, hP3, hblk3, hR3, hall3, hgone3, ho3, hst3, hcnt3, hfw3⟩
      have hg3 : b2.gone = b.gone + (A + N) := by rw [hgone3, hgone.out]; omega
      have ha3 : b2.all = b.all := hall3.trans hall.out
      have hl3 : (cur.take A ++ bc ((b'.all.drop b'.gone).take N) ++ cur.drop (A + N)).length = T := by
        have := hcl.out
        simp only [List.length_append, List.length_take, List.length_drop, bc_len]
        omega
      have ht3 : (cur.take A ++ bc ((b'.all.drop b'.gone).take N) ++ cur.drop (A + N)).take (A + N) = bc ((b.all.drop b.gone).take (A + N)) := by
        have h1 := hcl.out
        rw [List.take_left' (by simp only [List.length_append, List.length_take, List.length_drop, bc_len]; omega), hct.out, hall.out, hgone.out, List.take_add, bc_app, List.drop_drop]
      have hf3 : lab2 z = .free := by
        rw [hst3.lb z (ho'.out.lt) (by rw [hfr.out]; exact id)]
        exact hfr.out
      have hst4 : Step B k z w lab w3 lab2 := hst.out.trans hst3 (by rw [hzh.out]; exact Nat.le_refl _)
      have hcn3 : u2 + b.cs.length = p.used + b2.cs.length := by have h1 : u2 + b'.cs.length = u + b2.cs.length := hcnt3; have h2 := hcnt.out; omega
      have hfw4 : sp2.length + u2 ≤ sp.length + p.used := by have h1 : sp2.length + u2 ≤ sp'.length + u := hfw3; have h2 := hfw.out; omega
      rw [← hgone3, ← hall3] at hblk3
      clear hget hst3 hcnt3 hfw3 hgone3 hall3
      replace hP3 := Lib.hid hP3
      replace hblk3 := Lib.hid hblk3
      replace hR3 := Lib.hid hR3
      replace hg3 := Lib.hid hg3
      replace ha3 := Lib.hid ha3
      replace hl3 := Lib.hid hl3
      replace ht3 := Lib.hid ht3
      replace hf3 := Lib.hid hf3
      replace hst4 := Lib.hid hst4
      replace hcn3 := Lib.hid hcn3
      replace hfw4 := Lib.hid hfw4
      replace ho3 := Lib.hid ho3
      replace hNl := Lib.hid hNl
      go_wp2
      go_roundw
      case rel => exact ⟨A + N, lab2, u2, S2, sp2, b2, _, by go_num, by omega, hP3, hblk3, hR3, ha3, hg3, ho3, hl3, ht3, hf3, hst4, hcn3, hfw4⟩
      case measure => simp [intOf]; omega
    · obtain rfl : A = T := by omega
      have hcf := bc_full hcl.out hct.out
      have c0 := hblk'.out.cell (show (bufC pb b'.gone b'.all.length b'.m b'.c)[0]? = some _ from rfl)
      have d3 := hP'.out.blk.cell (show (Ps.cells { p with used := u } S')[3]? = some _ from rfl)
      have f3 := hP'.out.blk.frozen 3
      simp only [hhh.out] at d3
      have hpl3 := hP'.out.blk.lt
      have hbl3 := hblk'.out.lt
      have hzl3 := ho'.out.lt
      have hzp : z ≠ pb := lab_ne hfr.out hP'.out.lb nofun
      have hll : ((b.all.drop b.gone).take A).length = A := by have := hTl.out; rw [List.length_take, List.length_drop]; omega
      have hconv : ∀ W : World, Blk W z cur 5 → (convert 134 9 (.slice (some ⟨z, 0, none⟩) A A)).run Tryz.prog W = .ok (.string ⟨((b.all.drop b.gone).take A).toArray⟩) W := fun W hW => by
        have := run_convert_bytes_back W 134 9 5 ⟨z, 0, none⟩ A ((b.all.drop b.gone).take A) Tryz.underlying134 Tryz.underlying5 Tryz.underlying9 (fun j hj => by
          rw [add_plain0, Nat.zero_add]
          refine hW.cell ?_
          rw [hcf]
          unfold bc
          rw [List.getElem?_map, List.getElem?_eq_getElem hj]
          rfl)
        rw [hll] at this
        exact this
      have hTh2 := hTh
      go_upto_region 11 with fail
      have e1 : ((h : Int) - (A : Int)) = ((h - A : Nat) : Int) := by omega
      rw [e1]
      have hb4 := hP'.out.blk.set 3 (.int .i64 ((h - A : Nat) : Int))
      have e5 : (Ps.cells { p with used := u } S').set 3 (.int .i64 ((h - A : Nat) : Int)) = Ps.cells { p with held := h - A, used := u } S' := rfl
      rw [e5] at hb4
      have hlb := hP'.out.lb
      have hk4 : ∀ g, g < wr.heap.size → g ≠ pb → (wr.setCell ⟨pb, 3, none⟩ (.int .i64 ((h - A : Nat) : Int))).heap[g]? = wr.heap[g]? := fun g _ hg => heap_setCell_other wr _ g _ hg
      have hs4 : (wr.setCell ⟨pb, 3, none⟩ (.int .i64 ((h - A : Nat) : Int))).heap.size = wr.heap.size := by simp [World.setCell]
      have m4 : Mv B (fun g => Mine k (lab' g) ∨ z ≤ g) wr (wr.setCell ⟨pb, 3, none⟩ (.int .i64 ((h - A : Nat) : Int))) := Mv.set (S := fun g => Mine k (lab' g) ∨ z ≤ g) hP'.out.blk (.inl (by rw [hlb]; trivial)) four_pool hP'.out.low 3 _
      generalize wr.setCell ⟨pb, 3, none⟩ (.int .i64 ((h - A : Nat) : Int)) = w4 at hb4 hk4 hs4 m4 ⊢
      have hP4 := hP'.out.head hb4 hk4
      have hblk4 : Blk w4 bb _ _ := (hk4 bb hbl3 (fun e => hpb e.symm)).trans hblk'.out
      have ho4 : Blk w4 z _ _ := (hk4 z hzl3 hzp).trans ho'.out
      have hR4 := hR'.out.same (x := pb) (.inr fun t => by rw [hlb]; simp) hk4
      have hst4 : Step B k z w lab w4 lab' := hst.out.trans ⟨m4, fun _ _ _ => rfl, fun g hg => hst.out.new g (by omega)⟩ (by rw [hzh.out]; exact Nat.le_refl _)
      have hcv := hconv w4 ho4
      rw [hgone.out, hall.out] at hblk4
      clear c0 d3 f3 e1 e5 hk4 m4 hconv hb4
      replace hP4 := Lib.hid hP4
      replace hblk4 := Lib.hid hblk4
      replace hR4 := Lib.hid hR4
      replace hst4 := Lib.hid hst4
      replace ho4 := Lib.hid ho4
      replace hcf := Lib.hid hcf
      replace hll := Lib.hid hll
      replace hlb := Lib.hid hlb
      go_wp2
      go_ret2
      exact ⟨rfl, lab', u, S', sp', b', by rw [hhh.out]; exact hP4.out, hblk4.out, hR4.out, hall.out, hgone.out, by rw [hzh.out]; exact hst4.out, hcnt.out, hfw.out⟩

set_option maxHeartbeats 4000000 in
set_option maxRecDepth 100000 in
theorem drain_more (T : Nat) (n : Int) (hP : PoolAt w B lab pb p S sp) (hblk : Blk w bb (bufC pb b.gone b.all.length b.m b.c) 232) (hR : BufR w B lab bb k p.mem p.ch b) (hnew : ∀ g, w.heap.size ≤ g → lab g = .free) (hB : B ≤ w.heap.size)
    (hlen : b.all.length ≤ 1000000) (hmem : p.mem ≤ 65536) (hch : 0 < p.ch ∧ p.ch ≤ 65536) (hfew : sp.length + p.used ≤ 1000000) (hu : b.cs.length ≤ p.used) (hheld : b.all.length - b.gone ≤ p.held) (hhb : p.held ≤ 1048576) (hLd : b.all.length - b.gone = T) (hTL : (T : Int) < n) :
    Calls Tryz.prog 279 #[.pointer (some ⟨bb, 0, none⟩), .int .i64 n] w fun e w' => e = .returned (.tuple #[.string ⟨((b.all.drop b.gone).take T).toArray⟩, .int .i64 0]) ∧ DrainPost B pb bb k lab p sp b T w w' := by
  have hop := open_ok pb bb b.gone b.all.length b.m b.c w hblk
  have hgl := hR.gl
  have hln := len_ok pb bb b.gone b.all.length b.m b.c w hblk hgl (by omega)
  rw [hLd] at hln
  have hTl : b.gone + T ≤ b.all.length := by omega
  have hTh : T ≤ p.held := by omega
  obtain ⟨i0, hi, hz0, hz1, hz2⟩ := info_parts infoU8
  have hmk : ∀ W : World, (Instr.makeSlice 134 (.int .i64 (T : Int)) (.int .i64 (T : Int))).run Tryz.prog W = .ok (.slice (some ⟨W.heap.size, 0, none⟩) T T) (W.alloc (.cells (madeCells #[.int .u8 0] T) 5)) := fun W => by
    have := run_make W 134 5 i0 _ Tryz.underlying134 hi hz0 .i64 .i64 (T : Int) (T : Int) (by omega) (Int.le_refl _) (by rw [hz2]; omega) (by omega)
    rw [hz1, Int.toNat_natCast, Nat.mul_one] at this
    exact this
  obtain ⟨h, hhh⟩ : ∃ h, p.held = h := ⟨_, rfl⟩
  rw [hhh] at hTh hhb
  have hpl := hP.blk.lt
  have hbl := hblk.lt
  have hpb : pb ≠ bb := lab_ne hP.lb hR.lb nofun
  have hT0 : (0 : Int) ≤ (T : Int) := by omega
  have hn0 : ¬ n < 0 := by omega
  have hn1 : ¬ n ≤ (T : Int) := by omega
  replace hhh := Lib.hid hhh
  replace hP := Lib.hid hP
  replace hR := Lib.hid hR
  replace hblk := Lib.hid hblk
  replace hnew := Lib.hid hnew
  replace hLd := Lib.hid hLd
  replace hTl := Lib.hid hTl
  replace hgl := Lib.hid hgl
  replace hlen := Lib.hid hlen
  replace hu := Lib.hid hu
  replace hfew := Lib.hid hfew
  replace hch := Lib.hid hch
  clear hi hz0 hz1 hz2 hheld
  go_enter Tryz.func279, Tryz.ntmps279
  go_wp2_with fail
  refine hop.mono ?_
  rintro e w1 ⟨rfl, hw⟩
  obtain rfl := hw.symm
  clear hop
  go_wp2_with fail
  refine hln.mono ?_
  rintro e w1 ⟨rfl, nd, rfl⟩
  clear hln
  go_upto_region 7 with fail
  have hmc : (madeCells #[.int .u8 0] T) = ((madeCells #[.int .u8 0] T).toList).toArray := by simp
  have ho2 : Blk ((w.drewN nd).alloc (.cells (madeCells #[.int .u8 0] T) 5)) w.heap.size (madeCells #[.int .u8 0] T).toList 5 := by
    have := Blk.new (w.drewN nd) (madeCells #[.int .u8 0] T).toList 5
    rw [← hmc] at this
    exact this
  have hml : (madeCells #[.int .u8 0] T).toList.length = T := by rw [Array.length_toList, size_madeCells]
  have hk2 : ∀ g, g < w.heap.size → ((w.drewN nd).alloc (.cells (madeCells #[.int .u8 0] T) 5)).heap[g]? = w.heap[g]? := fun g hg => Below.heap_alloc (w.drewN nd) _ g hg
  have m2 : Mv B (fun g => Mine k (lab g) ∨ w.heap.size ≤ g) w ((w.drewN nd).alloc (.cells (madeCells #[.int .u8 0] T) 5)) := (heap_mv ⟨nd, rfl⟩).trans (Mv.alloc B _ (w.drewN nd) _)
  have hs2 : ((w.drewN nd).alloc (.cells (madeCells #[.int .u8 0] T) 5)).heap.size = w.heap.size + 1 := by simp
  generalize (madeCells #[.int .u8 0] T).toList = cur0 at ho2 hml
  generalize (w.drewN nd).alloc (.cells (madeCells #[.int .u8 0] T) 5) = w2 at ho2 hk2 m2 hs2 ⊢
  obtain ⟨z, hz⟩ : ∃ z, w.heap.size = z := ⟨_, rfl⟩
  have hP2 : PoolAt w2 B lab pb p S sp := hP.out.keep fun g hg _ => ⟨hk2 g hg, rfl⟩
  have hblk2 : Blk w2 bb (bufC pb b.gone b.all.length b.m b.c) 232 := (hk2 bb hbl).trans hblk.out
  have hR2 : BufR w2 B lab bb k p.mem p.ch b := hR.out.keep hbl fun g hg _ => ⟨hk2 g hg, rfl⟩
  have hst2 : Step B k w.heap.size w lab w2 lab := ⟨m2, fun _ _ _ => rfl, fun g hg => hnew.out g (by omega)⟩
  have hfr2 : lab z = .free := hnew.out z (by omega)
  rw [hz] at ho2 hbl hpl hs2 hB hst2 ⊢
  have hzh := Lib.hid hz
  replace hmk := Lib.hid hmk
  clear hk2 m2 hmc hz
  replace ho2 := Lib.hid ho2
  replace hml := Lib.hid hml
  replace hP2 := Lib.hid hP2
  replace hblk2 := Lib.hid hblk2
  replace hR2 := Lib.hid hR2
  replace hst2 := Lib.hid hst2
  replace hfr2 := Lib.hid hfr2
  go_wp2
  go_loopw [8] (fun av wr => ∃ (A : Nat) (lab' : Nat → Lab) (u : Nat) (S' : Value) (sp' : List Value) (b' : Bs) (cur : List Value), av = .int .i64 (A : Int) ∧ A ≤ T ∧ Hid (PoolAt wr B lab' pb { p with used := u } S' sp') ∧
      Hid (Blk wr bb (bufC pb b'.gone b'.all.length b'.m b'.c) 232) ∧ Hid (BufR wr B lab' bb k p.mem p.ch b') ∧ Hid (b'.all = b.all) ∧ Hid (b'.gone = b.gone + A) ∧ Hid (Blk wr z cur 5) ∧ Hid (cur.length = T) ∧ Hid (cur.take A = bc ((b.all.drop b.gone).take A)) ∧ Hid (lab' z = .free) ∧
      Hid (Step B k z w lab wr lab') ∧ Hid (u + b.cs.length = p.used + b'.cs.length) ∧ Hid (sp'.length + u ≤ sp.length + p.used)) (fun av _ => T - (intOf av).toNat)
  case atStart => exact ⟨0, lab, p.used, S, sp, b, cur0, rfl, Nat.zero_le _, hP2, hblk2, hR2, Lib.hid rfl, Lib.hid rfl, ho2, hml, Lib.hid rfl, hfr2, hst2, Lib.hid rfl, Lib.hid (Nat.le_refl _)⟩
  case round =>
    clear hP2 hblk2 hR2 hst2 hfr2 ho2 hml
    obtain ⟨A, lab', u, S', sp', b', cur, rfl, hAT, hP', hblk', hR', hall, hgone, ho', hcl, hct, hfr, hst, hcnt, hfw⟩ := hrel
    by_cases hlt : A < T
    · have hget := get_step (a := A) (dl := T - A) (dc := T - A) hP'.out hblk'.out hR'.out hst.out.new ho'.out hfr.out (Nat.le_refl _) hB (by rw [hcl.out]; omega) (by omega) (by rw [hgone.out, hall.out]; have := hTl.out; omega) hmem hch.out (by rw [hall.out]; exact hlen.out) (by show b'.cs.length ≤ u; have := hcnt.out; have := hu.out; omega) (by show sp'.length + u ≤ _; have := hfw.out; have := hfew.out; omega)
      have hA0 : (0 : Int) ≤ (A : Int) := by omega
      have hA1 : (A : Int) ≤ (T : Int) := by omega
      have hA2 : ¬ T = A := by omega
      go_wp2_with fail
      refine hget.mono ?_
      rintro e w3 ⟨N, lab2, u2, S2, sp2, b2, hN0, hNd, hNl, rfl, hP3, hblk3, hR3, hall3, hgone3, ho3, hst3, hcnt3, hfw3⟩
      have hg3 : b2.gone = b.gone + (A + N) := by rw [hgone3, hgone.out]; omega
      have ha3 : b2.all = b.all := hall3.trans hall.out
      have hl3 : (cur.take A ++ bc ((b'.all.drop b'.gone).take N) ++ cur.drop (A + N)).length = T := by
        have := hcl.out
        simp only [List.length_append, List.length_take, List.length_drop, bc_len]
        omega
      have ht3 : (cur.take A ++ bc ((b'.all.drop b'.gone).take N) ++ cur.drop (A + N)).take (A + N) = bc ((b.all.drop b.gone).take (A + N)) := by
        have h1 := hcl.out
        rw [List.take_left' (by simp only [List.length_append, List.length_take, List.length_drop, bc_len]; omega), hct.out, hall.out, hgone.out, List.take_add, bc_app, List.drop_drop]
      have hf3 : lab2 z = .free := by
        rw [hst3.lb z (ho'.out.lt) (by rw [hfr.out]; exact id)]
        exact hfr.out
      have hst4 : Step B k z w lab w3 lab2 := hst.out.trans hst3 (by rw [hzh.out]; exact Nat.le_refl _)
      have hcn3 : u2 + b.cs.length = p.used + b2.cs.length := by have h1 : u2 + b'.cs.length = u + b2.cs.length := hcnt3; have h2 := hcnt.out; omega
      have hfw4 : sp2.length + u2 ≤ sp.length + p.used := by have h1 : sp2.length + u2 ≤ sp'.length + u := hfw3; have h2 := hfw.out; omega
      rw [← hgone3, ← hall3] at hblk3
      clear hget hst3 hcnt3 hfw3 hgone3 hall3
      replace hP3 := Lib.hid hP3
      replace hblk3 := Lib.hid hblk3
      replace hR3 := Lib.hid hR3
      replace hg3 := Lib.hid hg3
      replace ha3 := Lib.hid ha3
      replace hl3 := Lib.hid hl3
      replace ht3 := Lib.hid ht3
      replace hf3 := Lib.hid hf3
      replace hst4 := Lib.hid hst4
      replace hcn3 := Lib.hid hcn3
      replace hfw4 := Lib.hid hfw4
      replace ho3 := Lib.hid ho3
      replace hNl := Lib.hid hNl
      go_wp2
      go_roundw
      case rel => exact ⟨A + N, lab2, u2, S2, sp2, b2, _, by go_num, by omega, hP3, hblk3, hR3, ha3, hg3, ho3, hl3, ht3, hf3, hst4, hcn3, hfw4⟩
      case measure => simp [intOf]; omega
    · obtain rfl : A = T := by omega
      have hcf := bc_full hcl.out hct.out
      have c0 := hblk'.out.cell (show (bufC pb b'.gone b'.all.length b'.m b'.c)[0]? = some _ from rfl)
      have d3 := hP'.out.blk.cell (show (Ps.cells { p with used := u } S')[3]? = some _ from rfl)
      have f3 := hP'.out.blk.frozen 3
      simp only [hhh.out] at d3
      have hpl3 := hP'.out.blk.lt
      have hbl3 := hblk'.out.lt
      have hzl3 := ho'.out.lt
      have hzp : z ≠ pb := lab_ne hfr.out hP'.out.lb nofun
      have hll : ((b.all.drop b.gone).take A).length = A := by have := hTl.out; rw [List.length_take, List.length_drop]; omega
      have hconv : ∀ W : World, Blk W z cur 5 → (convert 134 9 (.slice (some ⟨z, 0, none⟩) A A)).run Tryz.prog W = .ok (.string ⟨((b.all.drop b.gone).take A).toArray⟩) W := fun W hW => by
        have := run_convert_bytes_back W 134 9 5 ⟨z, 0, none⟩ A ((b.all.drop b.gone).take A) Tryz.underlying134 Tryz.underlying5 Tryz.underlying9 (fun j hj => by
          rw [add_plain0, Nat.zero_add]
          refine hW.cell ?_
          rw [hcf]
          unfold bc
          rw [List.getElem?_map, List.getElem?_eq_getElem hj]
          rfl)
        rw [hll] at this
        exact this
      have hTh2 := hTh
      go_upto_region 11 with fail
      have e1 : ((h : Int) - (A : Int)) = ((h - A : Nat) : Int) := by omega
      rw [e1]
      have hb4 := hP'.out.blk.set 3 (.int .i64 ((h - A : Nat) : Int))
      have e5 : (Ps.cells { p with used := u } S').set 3 (.int .i64 ((h - A : Nat) : Int)) = Ps.cells { p with held := h - A, used := u } S' := rfl
      rw [e5] at hb4
      have hlb := hP'.out.lb
      have hk4 : ∀ g, g < wr.heap.size → g ≠ pb → (wr.setCell ⟨pb, 3, none⟩ (.int .i64 ((h - A : Nat) : Int))).heap[g]? = wr.heap[g]? := fun g _ hg => heap_setCell_other wr _ g _ hg
      have hs4 : (wr.setCell ⟨pb, 3, none⟩ (.int .i64 ((h - A : Nat) : Int))).heap.size = wr.heap.size := by simp [World.setCell]
      have m4 : Mv B (fun g => Mine k (lab' g) ∨ z ≤ g) wr (wr.setCell ⟨pb, 3, none⟩ (.int .i64 ((h - A : Nat) : Int))) := Mv.set (S := fun g => Mine k (lab' g) ∨ z ≤ g) hP'.out.blk (.inl (by rw [hlb]; trivial)) four_pool hP'.out.low 3 _
      generalize wr.setCell ⟨pb, 3, none⟩ (.int .i64 ((h - A : Nat) : Int)) = w4 at hb4 hk4 hs4 m4 ⊢
      have hP4 := hP'.out.head hb4 hk4
      have hblk4 : Blk w4 bb _ _ := (hk4 bb hbl3 (fun e => hpb e.symm)).trans hblk'.out
      have ho4 : Blk w4 z _ _ := (hk4 z hzl3 hzp).trans ho'.out
      have hR4 := hR'.out.same (x := pb) (.inr fun t => by rw [hlb]; simp) hk4
      have hst4 : Step B k z w lab w4 lab' := hst.out.trans ⟨m4, fun _ _ _ => rfl, fun g hg => hst.out.new g (by omega)⟩ (by rw [hzh.out]; exact Nat.le_refl _)
      have hcv := hconv w4 ho4
      rw [hgone.out, hall.out] at hblk4
      clear c0 d3 f3 e1 e5 hk4 m4 hconv hb4
      replace hP4 := Lib.hid hP4
      replace hblk4 := Lib.hid hblk4
      replace hR4 := Lib.hid hR4
      replace hst4 := Lib.hid hst4
      replace ho4 := Lib.hid ho4
      replace hcf := Lib.hid hcf
      replace hll := Lib.hid hll
      replace hlb := Lib.hid hlb
      go_wp2
      go_ret2
      exact ⟨rfl, lab', u, S', sp', b', by rw [hhh.out]; exact hP4.out, hblk4.out, hR4.out, hall.out, hgone.out, by rw [hzh.out]; exact hst4.out, hcnt.out, hfw.out⟩

/-- Drain, as many as asked for, or all. -/
theorem drain_ok (n : Nat) (hP : PoolAt w B lab pb p S sp) (hblk : Blk w bb (bufC pb b.gone b.all.length b.m b.c) 232) (hR : BufR w B lab bb k p.mem p.ch b) (hnew : ∀ g, w.heap.size ≤ g → lab g = .free) (hB : B ≤ w.heap.size)
    (hlen : b.all.length ≤ 1000000) (hmem : p.mem ≤ 65536) (hch : 0 < p.ch ∧ p.ch ≤ 65536) (hfew : sp.length + p.used ≤ 1000000) (hu : b.cs.length ≤ p.used) (hheld : b.all.length - b.gone ≤ p.held) (hhb : p.held ≤ 1048576) :
    Calls Tryz.prog 279 #[.pointer (some ⟨bb, 0, none⟩), .int .i64 (n : Int)] w fun e w' => e = .returned (.tuple #[.string ⟨((b.all.drop b.gone).take n).toArray⟩, .int .i64 0]) ∧ DrainPost B pb bb k lab p sp b (min n (b.all.length - b.gone)) w w' := by
  by_cases h : n ≤ b.all.length - b.gone
  · rw [Nat.min_eq_left h]
    exact drain_all n _ hP hblk hR hnew hB hlen hmem hch hfew hu hheld hhb rfl h
  · rw [Nat.min_eq_right (by omega)]
    have e : (b.all.drop b.gone).take n = (b.all.drop b.gone).take (b.all.length - b.gone) := by
      rw [List.take_of_length_le (by rw [List.length_drop]; omega), List.take_of_length_le (by rw [List.length_drop]; omega)]
    rw [e]
    exact drain_more _ (n : Int) hP hblk hR hnew hB hlen hmem hch hfew hu hheld hhb rfl (by omega)
set_option maxRecDepth 100000 in
theorem drain_neg (gone len : Nat) (m c : Value) (n : Int) (hn : n < 0) (hblk : Blk w bb (bufC pb gone len m c) 232) :
    Calls Tryz.prog 279 #[.pointer (some ⟨bb, 0, none⟩), .int .i64 n] w fun e w' => e = .returned (.tuple #[.string ⟨#[]⟩, .int .i64 1]) ∧ w' = w := by
  have hop := open_ok pb bb gone len m c w hblk
  clear hblk
  go_enter Tryz.func279, Tryz.ntmps279
  go_wp2_with fail
  refine hop.mono ?_
  rintro e w1 ⟨rfl, hw⟩
  obtain rfl := hw.symm
  clear hop
  go_wp2
  go_ret2
  exact ⟨rfl, rfl⟩
set_option maxRecDepth 100000 in
theorem drain_shut (n : Int) (hblk : Blk w bb shutC 232) :
    Calls Tryz.prog 279 #[.pointer (some ⟨bb, 0, none⟩), .int .i64 n] w fun e w' => e = .returned (.tuple #[.string ⟨#[]⟩, .int .i64 18]) ∧ w' = w := by
  have hop := open_shut bb w hblk
  clear hblk
  go_enter Tryz.func279, Tryz.ntmps279
  go_wp2_with fail
  refine hop.mono ?_
  rintro e w1 ⟨rfl, hw⟩
  obtain rfl := hw.symm
  clear hop
  go_wp2
  go_ret2
  exact ⟨rfl, rfl⟩
set_option maxRecDepth 100000 in
theorem append_shut (data : ByteArray) (hblk : Blk w bb shutC 232) :
    Calls Tryz.prog 283 #[.pointer (some ⟨bb, 0, none⟩), .string data] w fun e w' => e = .returned (.int .i64 18) ∧ w' = w := by
  have hop := open_shut bb w hblk
  clear hblk
  go_enter Tryz.func283, Tryz.ntmps283
  go_wp2_with fail
  refine hop.mono ?_
  rintro e w1 ⟨rfl, hw⟩
  obtain rfl := hw.symm
  clear hop
  go_wp2
  go_ret
  exact ⟨rfl, rfl⟩
set_option maxRecDepth 100000 in
theorem close_shut (hblk : Blk w bb shutC 232) :
    Calls Tryz.prog 273 #[.pointer (some ⟨bb, 0, none⟩)] w fun e w' => e = .returned (.int .i64 18) ∧ w' = w := by
  have hop := open_shut bb w hblk
  clear hblk
  go_enter Tryz.func273, Tryz.ntmps273
  go_wp2_with fail
  refine hop.mono ?_
  rintro e w1 ⟨rfl, hw⟩
  obtain rfl := hw.symm
  clear hop
  go_wp2
  go_ret
  exact ⟨rfl, rfl⟩
set_option maxRecDepth 100000 in
theorem drain_nil (n : Int) :
    Calls Tryz.prog 279 #[.pointer none, .int .i64 n] w fun e w' => e = .returned (.tuple #[.string ⟨#[]⟩, .int .i64 2]) ∧ w' = w := by
  have hop := open_nil w
  go_enter Tryz.func279, Tryz.ntmps279
  go_wp2_with fail
  refine hop.mono ?_
  rintro e w1 ⟨rfl, hw⟩
  obtain rfl := hw.symm
  clear hop
  go_wp2
  go_ret2
  exact ⟨rfl, rfl⟩
set_option maxRecDepth 100000 in
theorem append_nil (data : ByteArray) :
    Calls Tryz.prog 283 #[.pointer none, .string data] w fun e w' => e = .returned (.int .i64 2) ∧ w' = w := by
  have hop := open_nil w
  go_enter Tryz.func283, Tryz.ntmps283
  go_wp2_with fail
  refine hop.mono ?_
  rintro e w1 ⟨rfl, hw⟩
  obtain rfl := hw.symm
  clear hop
  go_wp2
  go_ret
  exact ⟨rfl, rfl⟩
set_option maxRecDepth 100000 in
theorem close_nil :
    Calls Tryz.prog 273 #[.pointer none] w fun e w' => e = .returned (.int .i64 2) ∧ w' = w := by
  have hop := open_nil w
  go_enter Tryz.func273, Tryz.ntmps273
  go_wp2_with fail
  refine hop.mono ?_
  rintro e w1 ⟨rfl, hw⟩
  obtain rfl := hw.symm
  clear hop
  go_wp2
  go_ret
  exact ⟨rfl, rfl⟩
end
end Go.Proofs.YtbjakhiflgjflaaGreatDoor
