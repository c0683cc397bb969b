/-
  A part. Conditions: each theorem's own.
-/
import Derived.Deep.RegionHeld3
import Derived.Test.YtfofpphnglhopaaGreatDoorZb6
import Derived.Test.YtfofpphnglhopaaGreatDoorZb8
set_option maxHeartbeats 8000000
set_option maxRecDepth 100000
namespace Go.Proofs.YtfofpphnglhopaaGreatDoor
open Go Go.RowKit
section
variable {w : World} {fb ob a : Nat} {n : Int} {r wr m : Bool}
theorem file_stat (hb : Blk w ob (fileC fb n a r wr m) 162) :
    Calls Tryz.prog 265 #[ptrV ob] w fun e w' => e = .returned (info7 1 0 a n r wr m) ∧ w.grownBy w' none := by
  unfold ptrV
  go_enter Tryz.func265, Tryz.ntmps265
  go_upto_region 1 with fail
  have ab : Blk (w.alloc (.cells #[.int .i64 0, .int .i64 0, .int .i64 0, .int .i64 0, .bool false, .bool false, .bool false] 64)) w.heap.size [.int .i64 0, .int .i64 0, .int .i64 0, .int .i64 0, .bool false, .bool false, .bool false] 64 := Blk.new w _ _
  have ag : w.grownBy (w.alloc (.cells #[.int .i64 0, .int .i64 0, .int .i64 0, .int .i64 0, .bool false, .bool false, .bool false] 64)) none := World.grownBy_alloc w _ _
  obtain ⟨az, ahz⟩ : ∃ z, w.heap.size = z := ⟨_, rfl⟩
  have hb1 : Blk (w.alloc (.cells #[.int .i64 0, .int .i64 0, .int .i64 0, .int .i64 0, .bool false, .bool false, .bool false] 64)) ob _ _ := (ag.block ob hb.lt (by simp)).trans hb
  generalize (w.alloc (.cells #[.int .i64 0, .int .i64 0, .int .i64 0, .int .i64 0, .bool false, .bool false, .bool false] 64)) = w1 at ab ag hb1 ⊢
  simp only [ahz] at ab ⊢
  have c0 := hb1.cell (i := 0) rfl
  have c1 := hb1.cell (i := 1) rfl
  have c2 := hb1.cell (i := 2) rfl
  have c3 := hb1.cell (i := 3) rfl
  have c4 := hb1.cell (i := 4) rfl
  have c5 := hb1.cell (i := 5) rfl
  have hlt := hb1.lt
  replace ahz := Lib.hid ahz
  replace ag := Lib.hid ag
  have zc0 := ab.cell (i := 0) rfl
  have zc1 := ab.cell (i := 1) rfl
  have zc2 := ab.cell (i := 2) rfl
  have zc3 := ab.cell (i := 3) rfl
  have zc4 := ab.cell (i := 4) rfl
  have zc5 := ab.cell (i := 5) rfl
  have zc6 := ab.cell (i := 6) rfl
  have zf0 := ab.frozen 0
  have zf1 := ab.frozen 1
  have zf2 := ab.frozen 2
  have zf3 := ab.frozen 3
  have zf4 := ab.frozen 4
  have zf5 := ab.frozen 5
  have zf6 := ab.frozen 6
  have zlt := ab.lt
  clear hb hb1
  replace ab := Lib.hid ab
  go_still_tail 13, (by kernel_rfl)
  change wpList _ _ _ _ _ (w1.drewN 1)
  have ab2 : Blk (w1.drewN 1) az _ _ := ab.out
  have ag2 := grownBy_drewN ag.out 1
  have yc0 := ab2.cell (i := 0) rfl
  have yc1 := ab2.cell (i := 1) rfl
  have yc2 := ab2.cell (i := 2) rfl
  have yc3 := ab2.cell (i := 3) rfl
  have yc4 := ab2.cell (i := 4) rfl
  have yc5 := ab2.cell (i := 5) rfl
  have yc6 := ab2.cell (i := 6) rfl
  have yf0 := ab2.frozen 0
  have yf1 := ab2.frozen 1
  have yf2 := ab2.frozen 2
  have yf3 := ab2.frozen 3
  have yf4 := ab2.frozen 4
  have yf5 := ab2.frozen 5
  have yf6 := ab2.frozen 6
  replace ab2 := Lib.hid ab2
  replace ag2 := Lib.hid ag2
  clear ab ag c0 c1 c2 c3 c4 c5 zc0 zf0 zc1 zf1 zc2 zf2 zc3 zf3 zc4 zf4 zc5 zf5 zc6 zf6
  generalize w1.drewN 1 = w2 at *
  go_wp2
  have b3 := (((((((ab2.out.set 0 (.int .i64 1)).set 1 (.int .i64 0)).set 2 (.int .i64 (a : Int))).set 3 (.int .i64 n)).set 4 (.bool r)).set 5 (.bool wr)).set 6 (.bool m))
  have g3 := (grown_setNew (grown_setNew (grown_setNew (grown_setNew (grown_setNew (grown_setNew (grown_setNew ag2.out (Nat.le_of_eq ahz.out) 0 (.int .i64 1)) (Nat.le_of_eq ahz.out) 1 (.int .i64 0)) (Nat.le_of_eq ahz.out) 2 (.int .i64 (a : Int))) (Nat.le_of_eq ahz.out) 3 (.int .i64 n)) (Nat.le_of_eq ahz.out) 4 (.bool r)) (Nat.le_of_eq ahz.out) 5 (.bool wr)) (Nat.le_of_eq ahz.out) 6 (.bool m))
  generalize (((((((w2.setCell ⟨az, 0, none⟩ (.int .i64 1)).setCell ⟨az, 1, none⟩ (.int .i64 0)).setCell ⟨az, 2, none⟩ (.int .i64 (a : Int))).setCell ⟨az, 3, none⟩ (.int .i64 n)).setCell ⟨az, 4, none⟩ (.bool r)).setCell ⟨az, 5, none⟩ (.bool wr)).setCell ⟨az, 6, none⟩ (.bool m)) = w3 at b3 g3 ⊢
  have e0 := b3.cell (i := 0) rfl
  have e1 := b3.cell (i := 1) rfl
  have e2 := b3.cell (i := 2) rfl
  have e3 := b3.cell (i := 3) rfl
  have e4 := b3.cell (i := 4) rfl
  have e5 := b3.cell (i := 5) rfl
  have e6 := b3.cell (i := 6) rfl
  exact bodyPost_ret (v := info7 1 0 a n r wr m) (by simp [results, Tryz.results265, go_sem, e0, e1, e2, e3, e4, e5, e6, info7]) rfl ⟨rfl, g3⟩
end
section
variable {w : World} {F : Nat → Prop} {c : Sy} {s : St} {k : Int} {x : Hd}
theorem sys_stat_file (h : Sys w F c s) (hx : look s.hs k = some x) {n : Int} {a : Nat} {r wr m : Bool} (hk : x.kd = .file n a r wr m) :
    Calls Tryz.prog 26 #[ptrV c.tb, .int .i64 k] w fun e w' => e = .returned (.tuple #[info7 1 (x.refs : Int) a n r wr m, .int .i64 0]) ∧ w.grownBy w' none := by
  obtain ⟨Ft, Fp, Fh, h, hF⟩ := h
  obtain ⟨lab, mb, mem, v, ht, hFh⟩ := h.tab
  have hkeep := fun (W : World) (hW : w.grownBy W none) => ht.keep (w' := W) hW.size fun g hg => hW.block g (h.tab.lt ((hFh g).2 hg)) (by simp)
  unfold ptrV
  go_enter Tryz.func26, Tryz.ntmps26
  go_upto_region 1 with fail
  have ab : Blk (w.alloc (.cells #[.int .i64 0, .int .i64 0, .int .i64 0, .int .i64 0, .bool false, .bool false, .bool false] 64)) w.heap.size [.int .i64 0, .int .i64 0, .int .i64 0, .int .i64 0, .bool false, .bool false, .bool false] 64 := Blk.new w _ _
  have ag : w.grownBy (w.alloc (.cells #[.int .i64 0, .int .i64 0, .int .i64 0, .int .i64 0, .bool false, .bool false, .bool false] 64)) none := World.grownBy_alloc w _ _
  obtain ⟨az, ahz⟩ : ∃ z, w.heap.size = z := ⟨_, rfl⟩
  generalize (w.alloc (.cells #[.int .i64 0, .int .i64 0, .int .i64 0, .int .i64 0, .bool false, .bool false, .bool false] 64)) = w1 at ab ag ⊢
  simp only [ahz] at ab ⊢
  have ht1 := hkeep w1 ag
  have hd := ht1.hd k x hx
  have hf := tfind_some ht1 hx
  have c0 := hd.blk.cell (i := 0) rfl
  have c1 := hd.blk.cell (i := 1) rfl
  have hlt := hd.blk.lt
  have ho := hd.ob
  have hbk := hd.blk
  rw [hk] at ho
  rw [show doesV s.pp x.kd (mem k).ob = .iface 158 (ptrV (mem k).ob) by rw [hk]; rfl] at c0
  have hst := file_stat ho.1
  unfold ptrV at c0
  generalize (mem k).blk = kb at hf c0 c1 hlt hbk
  unfold ptrV at hf hst
  replace hst := Lib.hid hst
  replace hbk := Lib.hid hbk
  have azl := ab.lt
  clear ht1 hd ho hkeep ht
  replace ahz := Lib.hid ahz
  replace ag := Lib.hid ag
  replace ab := Lib.hid ab
  go_wp2_with fail
  refine hf.mono ?_
  rintro e w' ⟨rfl, hw⟩
  obtain rfl := hw.symm
  clear hf hw
  go_wp2_with fail
  refine hst.out.mono ?_
  rintro e w2 ⟨rfl, g2⟩
  have ab2 : Blk w2 az _ _ := (g2.block az azl (by simp)).trans ab.out
  have bk2 : Blk w2 kb _ _ := (g2.block kb hlt (by simp)).trans hbk.out
  have ag2 := grownBy_tr ag.out g2
  clear hst g2 ab hbk c0 c1
  unfold info7
  go_upto_region 5 with fail
  have ab3 : Blk (w2.alloc (.cells #[.int .i64 1, .int .i64 0, .int .i64 (a : Int), .int .i64 n, .bool r, .bool wr, .bool m] 64)) az _ _ := (Below.heap_alloc w2 _ az ab2.lt).trans ab2
  have bk3 : Blk (w2.alloc (.cells #[.int .i64 1, .int .i64 0, .int .i64 (a : Int), .int .i64 n, .bool r, .bool wr, .bool m] 64)) kb _ _ := (Below.heap_alloc w2 _ kb bk2.lt).trans bk2
  have ib3 : Blk (w2.alloc (.cells #[.int .i64 1, .int .i64 0, .int .i64 (a : Int), .int .i64 n, .bool r, .bool wr, .bool m] 64)) w2.heap.size [.int .i64 1, .int .i64 0, .int .i64 (a : Int), .int .i64 n, .bool r, .bool wr, .bool m] 64 := Blk.new w2 _ _
  have ag3 := grownBy_tr (w'' := (w2.alloc (.cells #[.int .i64 1, .int .i64 0, .int .i64 (a : Int), .int .i64 n, .bool r, .bool wr, .bool m] 64))) ag2 (World.grownBy_alloc w2 _ _)
  have hiz : w.heap.size ≤ w2.heap.size := ag2.size
  have hizz : az < w2.heap.size := ab2.lt
  generalize w2.alloc (.cells #[.int .i64 1, .int .i64 0, .int .i64 (a : Int), .int .i64 n, .bool r, .bool wr, .bool m] 64) = w3 at ab3 bk3 ib3 ag3 ⊢
  generalize w2.heap.size = iz at ib3 hiz hizz ⊢
  have c1 := bk3.cell (i := 1) rfl
  have hlt3 := bk3.lt
  have i0 := ib3.cell (i := 0) rfl
  have j0 := ib3.frozen 0
  have i1 := ib3.cell (i := 1) rfl
  have j1 := ib3.frozen 1
  have i2 := ib3.cell (i := 2) rfl
  have j2 := ib3.frozen 2
  have i3 := ib3.cell (i := 3) rfl
  have j3 := ib3.frozen 3
  have i4 := ib3.cell (i := 4) rfl
  have j4 := ib3.frozen 4
  have i5 := ib3.cell (i := 5) rfl
  have j5 := ib3.frozen 5
  have i6 := ib3.cell (i := 6) rfl
  have j6 := ib3.frozen 6
  have izl := ib3.lt
  have hne : az ≠ iz := by omega
  replace ab3 := Lib.hid ab3
  replace ib3 := Lib.hid ib3
  replace ag3 := Lib.hid ag3
  clear ab2 bk2 ag2
  go_upto_region 6 with fail
  have ib4 := ib3.out.set 1 (.int .i64 (x.refs : Int))
  have ab4 : Blk (w3.setCell ⟨iz, 1, none⟩ (.int .i64 (x.refs : Int))) az _ _ := Blk.other (a := ⟨iz, 1, none⟩) ab3.out hne (.int .i64 (x.refs : Int))
  have ag4 := grown_setNew ag3.out hiz 1 (.int .i64 (x.refs : Int))
  clear ib3 ab3 ag3 c1 i0 j0 i1 j1 i2 j2 i3 j3 i4 j4 i5 j5 i6 j6
  generalize w3.setCell ⟨iz, 1, none⟩ (.int .i64 (x.refs : Int)) = w5 at ib4 ab4 ag4 ⊢
  have i0 := ib4.cell (i := 0) rfl
  have c0 := ab4.cell (i := 0) rfl
  have f0 := ab4.frozen 0
  have i1 := ib4.cell (i := 1) rfl
  have c1 := ab4.cell (i := 1) rfl
  have f1 := ab4.frozen 1
  have i2 := ib4.cell (i := 2) rfl
  have c2 := ab4.cell (i := 2) rfl
  have f2 := ab4.frozen 2
  have i3 := ib4.cell (i := 3) rfl
  have c3 := ab4.cell (i := 3) rfl
  have f3 := ab4.frozen 3
  have i4 := ib4.cell (i := 4) rfl
  have c4 := ab4.cell (i := 4) rfl
  have f4 := ab4.frozen 4
  have i5 := ib4.cell (i := 5) rfl
  have c5 := ab4.cell (i := 5) rfl
  have f5 := ab4.frozen 5
  have i6 := ib4.cell (i := 6) rfl
  have c6 := ab4.cell (i := 6) rfl
  have f6 := ab4.frozen 6
  have azl3 := ab4.lt
  replace ab4 := Lib.hid ab4
  replace ib4 := Lib.hid ib4
  replace ag4 := Lib.hid ag4
  go_wp2
  have b3 := (((((((ab4.out.set 0 (.int .i64 1)).set 1 (.int .i64 (x.refs : Int))).set 2 (.int .i64 (a : Int))).set 3 (.int .i64 n)).set 4 (.bool r)).set 5 (.bool wr)).set 6 (.bool m))
  have g3 := (grown_setNew (grown_setNew (grown_setNew (grown_setNew (grown_setNew (grown_setNew (grown_setNew ag4.out (Nat.le_of_eq ahz.out) 0 (.int .i64 1)) (Nat.le_of_eq ahz.out) 1 (.int .i64 (x.refs : Int))) (Nat.le_of_eq ahz.out) 2 (.int .i64 (a : Int))) (Nat.le_of_eq ahz.out) 3 (.int .i64 n)) (Nat.le_of_eq ahz.out) 4 (.bool r)) (Nat.le_of_eq ahz.out) 5 (.bool wr)) (Nat.le_of_eq ahz.out) 6 (.bool m))
  generalize (((((((w5.setCell ⟨az, 0, none⟩ (.int .i64 1)).setCell ⟨az, 1, none⟩ (.int .i64 (x.refs : Int))).setCell ⟨az, 2, none⟩ (.int .i64 (a : Int))).setCell ⟨az, 3, none⟩ (.int .i64 n)).setCell ⟨az, 4, none⟩ (.bool r)).setCell ⟨az, 5, none⟩ (.bool wr)).setCell ⟨az, 6, none⟩ (.bool m)) = w4 at b3 g3 ⊢
  have e0 := b3.cell (i := 0) rfl
  have e1 := b3.cell (i := 1) rfl
  have e2 := b3.cell (i := 2) rfl
  have e3 := b3.cell (i := 3) rfl
  have e4 := b3.cell (i := 4) rfl
  have e5 := b3.cell (i := 5) rfl
  have e6 := b3.cell (i := 6) rfl
  exact bodyPost_ret (v := .tuple #[info7 1 (x.refs : Int) a n r wr m, .int .i64 0]) (by simp [results, Tryz.results26, go_sem, e0, e1, e2, e3, e4, e5, e6, info7]) rfl ⟨rfl, g3⟩
end
section
variable {w : World} {ob a : Nat}
theorem text_stat {t : ByteArray} (hb : Blk w ob [.string t, .int .i64 (a : Int)] 197) :
    Calls Tryz.prog 288 #[ptrV ob] w fun e w' => e = .returned (info7 2 0 (a : Int) 0 false false false) ∧ w.grownBy w' none := by
  unfold ptrV
  go_enter Tryz.func288, Tryz.ntmps288
  go_upto_region 1 with fail
  have ab : Blk (w.alloc (.cells #[.int .i64 0, .int .i64 0, .int .i64 0, .int .i64 0, .bool false, .bool false, .bool false] 64)) w.heap.size [.int .i64 0, .int .i64 0, .int .i64 0, .int .i64 0, .bool false, .bool false, .bool false] 64 := Blk.new w _ _
  have ag : w.grownBy (w.alloc (.cells #[.int .i64 0, .int .i64 0, .int .i64 0, .int .i64 0, .bool false, .bool false, .bool false] 64)) none := World.grownBy_alloc w _ _
  obtain ⟨az, ahz⟩ : ∃ z, w.heap.size = z := ⟨_, rfl⟩
  have hb1 : Blk (w.alloc (.cells #[.int .i64 0, .int .i64 0, .int .i64 0, .int .i64 0, .bool false, .bool false, .bool false] 64)) ob _ _ := (ag.block ob hb.lt (by simp)).trans hb
  generalize (w.alloc (.cells #[.int .i64 0, .int .i64 0, .int .i64 0, .int .i64 0, .bool false, .bool false, .bool false] 64)) = w1 at ab ag hb1 ⊢
  simp only [ahz] at ab ⊢
  have c1 := hb1.cell (i := 1) rfl
  have hlt := hb1.lt
  replace ahz := Lib.hid ahz
  replace ag := Lib.hid ag
  have zc0 := ab.cell (i := 0) rfl
  have zc1 := ab.cell (i := 1) rfl
  have zc2 := ab.cell (i := 2) rfl
  have zc3 := ab.cell (i := 3) rfl
  have zc4 := ab.cell (i := 4) rfl
  have zc5 := ab.cell (i := 5) rfl
  have zc6 := ab.cell (i := 6) rfl
  have zf0 := ab.frozen 0
  have zf1 := ab.frozen 1
  have zf2 := ab.frozen 2
  have zf3 := ab.frozen 3
  have zf4 := ab.frozen 4
  have zf5 := ab.frozen 5
  have zf6 := ab.frozen 6
  have zlt := ab.lt
  clear hb hb1
  have ab2 := Lib.hid ab
  have ag2 := ag
  clear ab ag
  go_wp2
  have b3 := (((((((ab2.out.set 0 (.int .i64 2)).set 1 (.int .i64 0)).set 2 (.int .i64 (a : Int))).set 3 (.int .i64 0)).set 4 (.bool false)).set 5 (.bool false)).set 6 (.bool false))
  have g3 := (grown_setNew (grown_setNew (grown_setNew (grown_setNew (grown_setNew (grown_setNew (grown_setNew ag2.out (Nat.le_of_eq ahz.out) 0 (.int .i64 2)) (Nat.le_of_eq ahz.out) 1 (.int .i64 0)) (Nat.le_of_eq ahz.out) 2 (.int .i64 (a : Int))) (Nat.le_of_eq ahz.out) 3 (.int .i64 0)) (Nat.le_of_eq ahz.out) 4 (.bool false)) (Nat.le_of_eq ahz.out) 5 (.bool false)) (Nat.le_of_eq ahz.out) 6 (.bool false))
  generalize (((((((w1.setCell ⟨az, 0, none⟩ (.int .i64 2)).setCell ⟨az, 1, none⟩ (.int .i64 0)).setCell ⟨az, 2, none⟩ (.int .i64 (a : Int))).setCell ⟨az, 3, none⟩ (.int .i64 0)).setCell ⟨az, 4, none⟩ (.bool false)).setCell ⟨az, 5, none⟩ (.bool false)).setCell ⟨az, 6, none⟩ (.bool false)) = w3 at b3 g3 ⊢
  have e0 := b3.cell (i := 0) rfl
  have e1 := b3.cell (i := 1) rfl
  have e2 := b3.cell (i := 2) rfl
  have e3 := b3.cell (i := 3) rfl
  have e4 := b3.cell (i := 4) rfl
  have e5 := b3.cell (i := 5) rfl
  have e6 := b3.cell (i := 6) rfl
  exact bodyPost_ret (v := info7 2 0 (a : Int) 0 false false false) (by simp [results, Tryz.results288, go_sem, e0, e1, e2, e3, e4, e5, e6, info7]) rfl ⟨rfl, g3⟩
end
section
variable {w : World} {ob a : Nat}
theorem sink_stat {cv : Value} {l : List UInt8} {m : Nat} (hb : Blk w ob [cv, .int .i64 (m : Int)] 200) (hr : RowM w 5 cv l.length (bc l)) :
    Calls Tryz.prog 292 #[ptrV ob] w fun e w' => e = .returned (info7 3 0 (l.length : Int) 0 false false false) ∧ w.grownBy w' none := by
  obtain ⟨X, C, rfl, hc, hcm⟩ := hr.form
  clear hr hcm
  generalize l.length = L at hb hc ⊢
  unfold ptrV
  go_enter Tryz.func292, Tryz.ntmps292
  go_upto_region 1 with fail
  have ab : Blk (w.alloc (.cells #[.int .i64 0, .int .i64 0, .int .i64 0, .int .i64 0, .bool false, .bool false, .bool false] 64)) w.heap.size [.int .i64 0, .int .i64 0, .int .i64 0, .int .i64 0, .bool false, .bool false, .bool false] 64 := Blk.new w _ _
  have ag : w.grownBy (w.alloc (.cells #[.int .i64 0, .int .i64 0, .int .i64 0, .int .i64 0, .bool false, .bool false, .bool false] 64)) none := World.grownBy_alloc w _ _
  obtain ⟨az, ahz⟩ : ∃ z, w.heap.size = z := ⟨_, rfl⟩
  have hb1 : Blk (w.alloc (.cells #[.int .i64 0, .int .i64 0, .int .i64 0, .int .i64 0, .bool false, .bool false, .bool false] 64)) ob _ _ := (ag.block ob hb.lt (by simp)).trans hb
  generalize (w.alloc (.cells #[.int .i64 0, .int .i64 0, .int .i64 0, .int .i64 0, .bool false, .bool false, .bool false] 64)) = w1 at ab ag hb1 ⊢
  simp only [ahz] at ab ⊢
  have c0 := hb1.cell (i := 0) rfl
  have hlt := hb1.lt
  replace ahz := Lib.hid ahz
  replace ag := Lib.hid ag
  have zc0 := ab.cell (i := 0) rfl
  have zc1 := ab.cell (i := 1) rfl
  have zc2 := ab.cell (i := 2) rfl
  have zc3 := ab.cell (i := 3) rfl
  have zc4 := ab.cell (i := 4) rfl
  have zc5 := ab.cell (i := 5) rfl
  have zc6 := ab.cell (i := 6) rfl
  have zf0 := ab.frozen 0
  have zf1 := ab.frozen 1
  have zf2 := ab.frozen 2
  have zf3 := ab.frozen 3
  have zf4 := ab.frozen 4
  have zf5 := ab.frozen 5
  have zf6 := ab.frozen 6
  have zlt := ab.lt
  clear hb hb1
  have ab2 := Lib.hid ab
  have ag2 := ag
  clear ab ag
  go_wp2
  have b3 := (((((((ab2.out.set 0 (.int .i64 3)).set 1 (.int .i64 0)).set 2 (.int .i64 (L : Int))).set 3 (.int .i64 0)).set 4 (.bool false)).set 5 (.bool false)).set 6 (.bool false))
  have g3 := (grown_setNew (grown_setNew (grown_setNew (grown_setNew (grown_setNew (grown_setNew (grown_setNew ag2.out (Nat.le_of_eq ahz.out) 0 (.int .i64 3)) (Nat.le_of_eq ahz.out) 1 (.int .i64 0)) (Nat.le_of_eq ahz.out) 2 (.int .i64 (L : Int))) (Nat.le_of_eq ahz.out) 3 (.int .i64 0)) (Nat.le_of_eq ahz.out) 4 (.bool false)) (Nat.le_of_eq ahz.out) 5 (.bool false)) (Nat.le_of_eq ahz.out) 6 (.bool false))
  generalize (((((((w1.setCell ⟨az, 0, none⟩ (.int .i64 3)).setCell ⟨az, 1, none⟩ (.int .i64 0)).setCell ⟨az, 2, none⟩ (.int .i64 (L : Int))).setCell ⟨az, 3, none⟩ (.int .i64 0)).setCell ⟨az, 4, none⟩ (.bool false)).setCell ⟨az, 5, none⟩ (.bool false)).setCell ⟨az, 6, none⟩ (.bool false)) = w3 at b3 g3 ⊢
  have e0 := b3.cell (i := 0) rfl
  have e1 := b3.cell (i := 1) rfl
  have e2 := b3.cell (i := 2) rfl
  have e3 := b3.cell (i := 3) rfl
  have e4 := b3.cell (i := 4) rfl
  have e5 := b3.cell (i := 5) rfl
  have e6 := b3.cell (i := 6) rfl
  exact bodyPost_ret (v := info7 3 0 (L : Int) 0 false false false) (by simp [results, Tryz.results292, go_sem, e0, e1, e2, e3, e4, e5, e6, info7]) rfl ⟨rfl, g3⟩
end
section
variable {w : World} {pb bb ends : Nat}
theorem rd_stat {F : Nat → Prop} {plb q M C tot k : Nat} {es : List Ent} {b : Bs} (hp : Blk w pb [ptrV bb, .int .i64 (ends : Int)] 167) (h : AllF w F plb q M C es tot) (hk : es[k]? = some (bb, some b)) (ht : tot ≤ 500000) :
    Calls Tryz.prog 277 #[.agg #[ptrV pb]] w fun e w' => e = .returned (info7 4 0 ((b.all.length - b.gone : Nat) : Int) 0 false false false) ∧ w.grownBy w' none := by
  have hlen : ∀ W : World, w.grownBy W none → Calls Tryz.prog 274 #[.pointer (some ⟨bb, 0, none⟩)] W fun e w' => e = .returned (.int .i64 ((b.all.length - b.gone : Nat) : Int)) ∧ ∃ n, w' = W.drewN n := fun W g => by
    obtain ⟨B, hA⟩ := (h.keep (w' := W) g.size fun x hx => g.block x (h.lt hx) (by simp)).all
    exact all_len hA hk ht
  generalize (b.all.length - b.gone : Nat) = N at hlen ⊢
  have hb1 : Blk (w.alloc (.cells #[ptrV pb] 169)) w.heap.size [ptrV pb] 169 := Blk.new w _ _
  have hg1 : w.grownBy (w.alloc (.cells #[ptrV pb] 169)) none := World.grownBy_alloc w _ _
  have hz1 : (w.alloc (.cells #[ptrV pb] 169)).heap.size = w.heap.size + 1 := by simp
  unfold ptrV at hb1 hg1 hp hz1 ⊢
  replace hlen := Lib.hid hlen
  clear h hk ht
  go_enter Tryz.func277, Tryz.ntmps277
  go_upto_region 1 with fail
  generalize (w.alloc (.cells #[.pointer (some ⟨pb, 0, none⟩)] 169)) = w0 at hb1 hg1 hz1 ⊢
  generalize w.heap.size = bz at hb1 hz1 ⊢
  have ab : Blk (w0.alloc (.cells #[.int .i64 0, .int .i64 0, .int .i64 0, .int .i64 0, .bool false, .bool false, .bool false] 64)) w0.heap.size [.int .i64 0, .int .i64 0, .int .i64 0, .int .i64 0, .bool false, .bool false, .bool false] 64 := Blk.new w0 _ _
  have ag : w0.grownBy (w0.alloc (.cells #[.int .i64 0, .int .i64 0, .int .i64 0, .int .i64 0, .bool false, .bool false, .bool false] 64)) none := World.grownBy_alloc w0 _ _
  obtain ⟨az, ahz⟩ : ∃ z, w0.heap.size = z := ⟨_, rfl⟩
  have hg2 := grownBy_tr hg1 ag
  have hb2 : Blk (w0.alloc (.cells #[.int .i64 0, .int .i64 0, .int .i64 0, .int .i64 0, .bool false, .bool false, .bool false] 64)) bz _ _ := (ag.block bz hb1.lt (by simp)).trans hb1
  have hp2 : Blk (w0.alloc (.cells #[.int .i64 0, .int .i64 0, .int .i64 0, .int .i64 0, .bool false, .bool false, .bool false] 64)) pb _ _ := (hg2.block pb hp.lt (by simp)).trans hp
  have hsz : w.heap.size ≤ w0.heap.size := hg1.size
  have ahz1 : bz + 1 = az := hz1.symm.trans ahz
  generalize (w0.alloc (.cells #[.int .i64 0, .int .i64 0, .int .i64 0, .int .i64 0, .bool false, .bool false, .bool false] 64)) = w1 at ab ag hg2 hb2 hp2 ⊢
  simp only [ahz] at ab
  simp only [ahz1]
  rw [ahz] at hsz
  clear hz1
  replace ahz1 := Lib.hid ahz1
  have c0 := hb2.cell (i := 0) rfl
  have c1 := hp2.cell (i := 0) rfl
  have hlt0 := hb2.lt
  have hlt1 := hp2.lt
  have hle := hlen.out w1 hg2
  replace hle := Lib.hid hle
  replace ahz := Lib.hid ahz
  replace hg2 := Lib.hid hg2
  clear ag hg1 hb1 hp hb2 hp2
  go_wp2_with fail
  refine hle.out.mono ?_
  rintro e w' ⟨rfl, d, rfl⟩
  have ab2 : Blk (w1.drewN d) az _ _ := ab
  have ag2 := grownBy_drewN hg2.out d
  clear hle hlen c0 c1 ab hg2
  generalize w1.drewN d = w2 at ab2 ag2 ⊢
  have yc0 := ab2.cell (i := 0) rfl
  have yc1 := ab2.cell (i := 1) rfl
  have yc2 := ab2.cell (i := 2) rfl
  have yc3 := ab2.cell (i := 3) rfl
  have yc4 := ab2.cell (i := 4) rfl
  have yc5 := ab2.cell (i := 5) rfl
  have yc6 := ab2.cell (i := 6) rfl
  have yf0 := ab2.frozen 0
  have yf1 := ab2.frozen 1
  have yf2 := ab2.frozen 2
  have yf3 := ab2.frozen 3
  have yf4 := ab2.frozen 4
  have yf5 := ab2.frozen 5
  have yf6 := ab2.frozen 6
  have ylt := ab2.lt
  replace ab2 := Lib.hid ab2
  replace ag2 := Lib.hid ag2
  go_wp2
  have b3 := (((((((ab2.out.set 0 (.int .i64 4)).set 1 (.int .i64 0)).set 2 (.int .i64 (N : Int))).set 3 (.int .i64 0)).set 4 (.bool false)).set 5 (.bool false)).set 6 (.bool false))
  have g3 := (grown_setNew (grown_setNew (grown_setNew (grown_setNew (grown_setNew (grown_setNew (grown_setNew ag2.out hsz 0 (.int .i64 4)) hsz 1 (.int .i64 0)) hsz 2 (.int .i64 (N : Int))) hsz 3 (.int .i64 0)) hsz 4 (.bool false)) hsz 5 (.bool false)) hsz 6 (.bool false))
  generalize (((((((w2.setCell ⟨az, 0, none⟩ (.int .i64 4)).setCell ⟨az, 1, none⟩ (.int .i64 0)).setCell ⟨az, 2, none⟩ (.int .i64 (N : Int))).setCell ⟨az, 3, none⟩ (.int .i64 0)).setCell ⟨az, 4, none⟩ (.bool false)).setCell ⟨az, 5, none⟩ (.bool false)).setCell ⟨az, 6, none⟩ (.bool false)) = w3 at b3 g3 ⊢
  have e0 := b3.cell (i := 0) rfl
  have e1 := b3.cell (i := 1) rfl
  have e2 := b3.cell (i := 2) rfl
  have e3 := b3.cell (i := 3) rfl
  have e4 := b3.cell (i := 4) rfl
  have e5 := b3.cell (i := 5) rfl
  have e6 := b3.cell (i := 6) rfl
  exact bodyPost_ret (v := info7 4 0 (N : Int) 0 false false false) (by simp [results, Tryz.results277, go_sem, e0, e1, e2, e3, e4, e5, e6, info7]) rfl ⟨rfl, g3⟩
end
section
variable {w : World} {pb bb ends : Nat}
theorem wr_stat {F : Nat → Prop} {plb q M C tot k : Nat} {es : List Ent} {b : Bs} (hp : Blk w pb [ptrV bb, .int .i64 (ends : Int)] 167) (h : AllF w F plb q M C es tot) (hk : es[k]? = some (bb, some b)) (ht : tot ≤ 500000) :
    Calls Tryz.prog 280 #[.agg #[ptrV pb]] w fun e w' => e = .returned (info7 5 0 ((b.all.length - b.gone : Nat) : Int) 0 false false false) ∧ w.grownBy w' none := by
  have hlen : ∀ W : World, w.grownBy W none → Calls Tryz.prog 274 #[.pointer (some ⟨bb, 0, none⟩)] W fun e w' => e = .returned (.int .i64 ((b.all.length - b.gone : Nat) : Int)) ∧ ∃ n, w' = W.drewN n := fun W g => by
    obtain ⟨B, hA⟩ := (h.keep (w' := W) g.size fun x hx => g.block x (h.lt hx) (by simp)).all
    exact all_len hA hk ht
  generalize (b.all.length - b.gone : Nat) = N at hlen ⊢
  have hb1 : Blk (w.alloc (.cells #[ptrV pb] 170)) w.heap.size [ptrV pb] 170 := Blk.new w _ _
  have hg1 : w.grownBy (w.alloc (.cells #[ptrV pb] 170)) none := World.grownBy_alloc w _ _
  have hz1 : (w.alloc (.cells #[ptrV pb] 170)).heap.size = w.heap.size + 1 := by simp
  unfold ptrV at hb1 hg1 hp hz1 ⊢
  replace hlen := Lib.hid hlen
  clear h hk ht
  go_enter Tryz.func280, Tryz.ntmps280
  go_upto_region 1 with fail
  generalize (w.alloc (.cells #[.pointer (some ⟨pb, 0, none⟩)] 170)) = w0 at hb1 hg1 hz1 ⊢
  generalize w.heap.size = bz at hb1 hz1 ⊢
  have ab : Blk (w0.alloc (.cells #[.int .i64 0, .int .i64 0, .int .i64 0, .int .i64 0, .bool false, .bool false, .bool false] 64)) w0.heap.size [.int .i64 0, .int .i64 0, .int .i64 0, .int .i64 0, .bool false, .bool false, .bool false] 64 := Blk.new w0 _ _
  have ag : w0.grownBy (w0.alloc (.cells #[.int .i64 0, .int .i64 0, .int .i64 0, .int .i64 0, .bool false, .bool false, .bool false] 64)) none := World.grownBy_alloc w0 _ _
  obtain ⟨az, ahz⟩ : ∃ z, w0.heap.size = z := ⟨_, rfl⟩
  have hg2 := grownBy_tr hg1 ag
  have hb2 : Blk (w0.alloc (.cells #[.int .i64 0, .int .i64 0, .int .i64 0, .int .i64 0, .bool false, .bool false, .bool false] 64)) bz _ _ := (ag.block bz hb1.lt (by simp)).trans hb1
  have hp2 : Blk (w0.alloc (.cells #[.int .i64 0, .int .i64 0, .int .i64 0, .int .i64 0, .bool false, .bool false, .bool false] 64)) pb _ _ := (hg2.block pb hp.lt (by simp)).trans hp
  have hsz : w.heap.size ≤ w0.heap.size := hg1.size
  have ahz1 : bz + 1 = az := hz1.symm.trans ahz
  generalize (w0.alloc (.cells #[.int .i64 0, .int .i64 0, .int .i64 0, .int .i64 0, .bool false, .bool false, .bool false] 64)) = w1 at ab ag hg2 hb2 hp2 ⊢
  simp only [ahz] at ab
  simp only [ahz1]
  rw [ahz] at hsz
  clear hz1
  replace ahz1 := Lib.hid ahz1
  have c0 := hb2.cell (i := 0) rfl
  have c1 := hp2.cell (i := 0) rfl
  have hlt0 := hb2.lt
  have hlt1 := hp2.lt
  have hle := hlen.out w1 hg2
  replace hle := Lib.hid hle
  replace ahz := Lib.hid ahz
  replace hg2 := Lib.hid hg2
  clear ag hg1 hb1 hp hb2 hp2
  go_wp2_with fail
  refine hle.out.mono ?_
  rintro e w' ⟨rfl, d, rfl⟩
  have ab2 : Blk (w1.drewN d) az _ _ := ab
  have ag2 := grownBy_drewN hg2.out d
  clear hle hlen c0 c1 ab hg2
  generalize w1.drewN d = w2 at ab2 ag2 ⊢
  have yc0 := ab2.cell (i := 0) rfl
  have yc1 := ab2.cell (i := 1) rfl
  have yc2 := ab2.cell (i := 2) rfl
  have yc3 := ab2.cell (i := 3) rfl
  have yc4 := ab2.cell (i := 4) rfl
  have yc5 := ab2.cell (i := 5) rfl
  have yc6 := ab2.cell (i := 6) rfl
  have yf0 := ab2.frozen 0
  have yf1 := ab2.frozen 1
  have yf2 := ab2.frozen 2
  have yf3 := ab2.frozen 3
  have yf4 := ab2.frozen 4
  have yf5 := ab2.frozen 5
  have yf6 := ab2.frozen 6
  have ylt := ab2.lt
  replace ab2 := Lib.hid ab2
  replace ag2 := Lib.hid ag2
  go_wp2
  have b3 := (((((((ab2.out.set 0 (.int .i64 5)).set 1 (.int .i64 0)).set 2 (.int .i64 (N : Int))).set 3 (.int .i64 0)).set 4 (.bool false)).set 5 (.bool false)).set 6 (.bool false))
  have g3 := (grown_setNew (grown_setNew (grown_setNew (grown_setNew (grown_setNew (grown_setNew (grown_setNew ag2.out hsz 0 (.int .i64 5)) hsz 1 (.int .i64 0)) hsz 2 (.int .i64 (N : Int))) hsz 3 (.int .i64 0)) hsz 4 (.bool false)) hsz 5 (.bool false)) hsz 6 (.bool false))
  generalize (((((((w2.setCell ⟨az, 0, none⟩ (.int .i64 5)).setCell ⟨az, 1, none⟩ (.int .i64 0)).setCell ⟨az, 2, none⟩ (.int .i64 (N : Int))).setCell ⟨az, 3, none⟩ (.int .i64 0)).setCell ⟨az, 4, none⟩ (.bool false)).setCell ⟨az, 5, none⟩ (.bool false)).setCell ⟨az, 6, none⟩ (.bool false)) = w3 at b3 g3 ⊢
  have e0 := b3.cell (i := 0) rfl
  have e1 := b3.cell (i := 1) rfl
  have e2 := b3.cell (i := 2) rfl
  have e3 := b3.cell (i := 3) rfl
  have e4 := b3.cell (i := 4) rfl
  have e5 := b3.cell (i := 5) rfl
  have e6 := b3.cell (i := 6) rfl
  exact bodyPost_ret (v := info7 5 0 (N : Int) 0 false false false) (by simp [results, Tryz.results280, go_sem, e0, e1, e2, e3, e4, e5, e6, info7]) rfl ⟨rfl, g3⟩
end
section
variable {w : World} {F : Nat → Prop} {c : Sy} {s : St} {k : Int} {x : Hd}
theorem sys_stat_text (h : Sys w F c s) (hx : look s.hs k = some x) {T : ByteArray} {a : Nat} (hk : x.kd = .text (tl T) a) :
    Calls Tryz.prog 26 #[ptrV c.tb, .int .i64 k] w fun e w' => e = .returned (.tuple #[info7 2 (x.refs : Int) (a : Int) 0 false false false, .int .i64 0]) ∧ w.grownBy w' none := by
  obtain ⟨Ft, Fp, Fh, h, hF⟩ := h
  obtain ⟨lab, mb, mem, v, ht, hFh⟩ := h.tab
  have hkeep := fun (W : World) (hW : w.grownBy W none) => ht.keep (w' := W) hW.size fun g hg => hW.block g (h.tab.lt ((hFh g).2 hg)) (by simp)
  unfold ptrV
  go_enter Tryz.func26, Tryz.ntmps26
  go_upto_region 1 with fail
  have ab : Blk (w.alloc (.cells #[.int .i64 0, .int .i64 0, .int .i64 0, .int .i64 0, .bool false, .bool false, .bool false] 64)) w.heap.size [.int .i64 0, .int .i64 0, .int .i64 0, .int .i64 0, .bool false, .bool false, .bool false] 64 := Blk.new w _ _
  have ag : w.grownBy (w.alloc (.cells #[.int .i64 0, .int .i64 0, .int .i64 0, .int .i64 0, .bool false, .bool false, .bool false] 64)) none := World.grownBy_alloc w _ _
  obtain ⟨az, ahz⟩ : ∃ z, w.heap.size = z := ⟨_, rfl⟩
  generalize (w.alloc (.cells #[.int .i64 0, .int .i64 0, .int .i64 0, .int .i64 0, .bool false, .bool false, .bool false] 64)) = w1 at ab ag ⊢
  simp only [ahz] at ab ⊢
  have ht1 := hkeep w1 ag
  have hd := ht1.hd k x hx
  have hf := tfind_some ht1 hx
  have c0 := hd.blk.cell (i := 0) rfl
  have c1 := hd.blk.cell (i := 1) rfl
  have hlt := hd.blk.lt
  have ho := hd.ob
  have hbk := hd.blk
  rw [hk] at ho
  rw [show doesV s.pp x.kd (mem k).ob = .iface 195 (ptrV (mem k).ob) by rw [hk]; rfl] at c0
  have hst := text_stat ho.1
  unfold ptrV at c0
  generalize (mem k).blk = kb at hf c0 c1 hlt hbk
  unfold ptrV at hf hst
  replace hst := Lib.hid hst
  replace hbk := Lib.hid hbk
  have azl := ab.lt
  clear ht1 hd ho hkeep ht
  replace ahz := Lib.hid ahz
  replace ag := Lib.hid ag
  replace ab := Lib.hid ab
  go_wp2_with fail
  refine hf.mono ?_
  rintro e w' ⟨rfl, hw⟩
  obtain rfl := hw.symm
  clear hf hw
  go_wp2_with fail
  refine hst.out.mono ?_
  rintro e w2 ⟨rfl, g2⟩
  have ab2 : Blk w2 az _ _ := (g2.block az azl (by simp)).trans ab.out
  have bk2 : Blk w2 kb _ _ := (g2.block kb hlt (by simp)).trans hbk.out
  have ag2 := grownBy_tr ag.out g2
  clear hst g2 ab hbk c0 c1
  unfold info7
  go_upto_region 5 with fail
  have ab3 : Blk (w2.alloc (.cells #[.int .i64 2, .int .i64 0, .int .i64 (a : Int), .int .i64 0, .bool false, .bool false, .bool false] 64)) az _ _ := (Below.heap_alloc w2 _ az ab2.lt).trans ab2
  have bk3 : Blk (w2.alloc (.cells #[.int .i64 2, .int .i64 0, .int .i64 (a : Int), .int .i64 0, .bool false, .bool false, .bool false] 64)) kb _ _ := (Below.heap_alloc w2 _ kb bk2.lt).trans bk2
  have ib3 : Blk (w2.alloc (.cells #[.int .i64 2, .int .i64 0, .int .i64 (a : Int), .int .i64 0, .bool false, .bool false, .bool false] 64)) w2.heap.size [.int .i64 2, .int .i64 0, .int .i64 (a : Int), .int .i64 0, .bool false, .bool false, .bool false] 64 := Blk.new w2 _ _
  have ag3 := grownBy_tr (w'' := (w2.alloc (.cells #[.int .i64 2, .int .i64 0, .int .i64 (a : Int), .int .i64 0, .bool false, .bool false, .bool false] 64))) ag2 (World.grownBy_alloc w2 _ _)
  have hiz : w.heap.size ≤ w2.heap.size := ag2.size
  have hizz : az < w2.heap.size := ab2.lt
  generalize w2.alloc (.cells #[.int .i64 2, .int .i64 0, .int .i64 (a : Int), .int .i64 0, .bool false, .bool false, .bool false] 64) = w3 at ab3 bk3 ib3 ag3 ⊢
  generalize w2.heap.size = iz at ib3 hiz hizz ⊢
  have c1 := bk3.cell (i := 1) rfl
  have hlt3 := bk3.lt
  have i0 := ib3.cell (i := 0) rfl
  have j0 := ib3.frozen 0
  have i1 := ib3.cell (i := 1) rfl
  have j1 := ib3.frozen 1
  have i2 := ib3.cell (i := 2) rfl
  have j2 := ib3.frozen 2
  have i3 := ib3.cell (i := 3) rfl
  have j3 := ib3.frozen 3
  have i4 := ib3.cell (i := 4) rfl
  have j4 := ib3.frozen 4
  have i5 := ib3.cell (i := 5) rfl
  have j5 := ib3.frozen 5
  have i6 := ib3.cell (i := 6) rfl
  have j6 := ib3.frozen 6
  have izl := ib3.lt
  have hne : az ≠ iz := by omega
  replace ab3 := Lib.hid ab3
  replace ib3 := Lib.hid ib3
  replace ag3 := Lib.hid ag3
  clear ab2 bk2 ag2
  go_upto_region 6 with fail
  have ib4 := ib3.out.set 1 (.int .i64 (x.refs : Int))
  have ab4 : Blk (w3.setCell ⟨iz, 1, none⟩ (.int .i64 (x.refs : Int))) az _ _ := Blk.other (a := ⟨iz, 1, none⟩) ab3.out hne (.int .i64 (x.refs : Int))
  have ag4 := grown_setNew ag3.out hiz 1 (.int .i64 (x.refs : Int))
  clear ib3 ab3 ag3 c1 i0 j0 i1 j1 i2 j2 i3 j3 i4 j4 i5 j5 i6 j6
  generalize w3.setCell ⟨iz, 1, none⟩ (.int .i64 (x.refs : Int)) = w5 at ib4 ab4 ag4 ⊢
  have i0 := ib4.cell (i := 0) rfl
  have c0 := ab4.cell (i := 0) rfl
  have f0 := ab4.frozen 0
  have i1 := ib4.cell (i := 1) rfl
  have c1 := ab4.cell (i := 1) rfl
  have f1 := ab4.frozen 1
  have i2 := ib4.cell (i := 2) rfl
  have c2 := ab4.cell (i := 2) rfl
  have f2 := ab4.frozen 2
  have i3 := ib4.cell (i := 3) rfl
  have c3 := ab4.cell (i := 3) rfl
  have f3 := ab4.frozen 3
  have i4 := ib4.cell (i := 4) rfl
  have c4 := ab4.cell (i := 4) rfl
  have f4 := ab4.frozen 4
  have i5 := ib4.cell (i := 5) rfl
  have c5 := ab4.cell (i := 5) rfl
  have f5 := ab4.frozen 5
  have i6 := ib4.cell (i := 6) rfl
  have c6 := ab4.cell (i := 6) rfl
  have f6 := ab4.frozen 6
  have azl3 := ab4.lt
  replace ab4 := Lib.hid ab4
  replace ib4 := Lib.hid ib4
  replace ag4 := Lib.hid ag4
  go_wp2
  have b3 := (((((((ab4.out.set 0 (.int .i64 2)).set 1 (.int .i64 (x.refs : Int))).set 2 (.int .i64 (a : Int))).set 3 (.int .i64 0)).set 4 (.bool false)).set 5 (.bool false)).set 6 (.bool false))
  have g3 := (grown_setNew (grown_setNew (grown_setNew (grown_setNew (grown_setNew (grown_setNew (grown_setNew ag4.out (Nat.le_of_eq ahz.out) 0 (.int .i64 2)) (Nat.le_of_eq ahz.out) 1 (.int .i64 (x.refs : Int))) (Nat.le_of_eq ahz.out) 2 (.int .i64 (a : Int))) (Nat.le_of_eq ahz.out) 3 (.int .i64 0)) (Nat.le_of_eq ahz.out) 4 (.bool false)) (Nat.le_of_eq ahz.out) 5 (.bool false)) (Nat.le_of_eq ahz.out) 6 (.bool false))
  generalize (((((((w5.setCell ⟨az, 0, none⟩ (.int .i64 2)).setCell ⟨az, 1, none⟩ (.int .i64 (x.refs : Int))).setCell ⟨az, 2, none⟩ (.int .i64 (a : Int))).setCell ⟨az, 3, none⟩ (.int .i64 0)).setCell ⟨az, 4, none⟩ (.bool false)).setCell ⟨az, 5, none⟩ (.bool false)).setCell ⟨az, 6, none⟩ (.bool false)) = w4 at b3 g3 ⊢
  have e0 := b3.cell (i := 0) rfl
  have e1 := b3.cell (i := 1) rfl
  have e2 := b3.cell (i := 2) rfl
  have e3 := b3.cell (i := 3) rfl
  have e4 := b3.cell (i := 4) rfl
  have e5 := b3.cell (i := 5) rfl
  have e6 := b3.cell (i := 6) rfl
  exact bodyPost_ret (v := .tuple #[info7 2 (x.refs : Int) (a : Int) 0 false false false, .int .i64 0]) (by simp [results, Tryz.results26, go_sem, e0, e1, e2, e3, e4, e5, e6, info7]) rfl ⟨rfl, g3⟩
end
section
variable {w : World} {F : Nat → Prop} {c : Sy} {s : St} {k : Int} {x : Hd}
theorem sys_stat_sink (h : Sys w F c s) (hx : look s.hs k = some x) {l : List UInt8} {m : Nat} (hk : x.kd = .sink l m) :
    Calls Tryz.prog 26 #[ptrV c.tb, .int .i64 k] w fun e w' => e = .returned (.tuple #[info7 3 (x.refs : Int) (l.length : Int) 0 false false false, .int .i64 0]) ∧ w.grownBy w' none := by
  obtain ⟨Ft, Fp, Fh, h, hF⟩ := h
  obtain ⟨lab, mb, mem, v, ht, hFh⟩ := h.tab
  have hkeep := fun (W : World) (hW : w.grownBy W none) => ht.keep (w' := W) hW.size fun g hg => hW.block g (h.tab.lt ((hFh g).2 hg)) (by simp)
  unfold ptrV
  go_enter Tryz.func26, Tryz.ntmps26
  go_upto_region 1 with fail
  have ab : Blk (w.alloc (.cells #[.int .i64 0, .int .i64 0, .int .i64 0, .int .i64 0, .bool false, .bool false, .bool false] 64)) w.heap.size [.int .i64 0, .int .i64 0, .int .i64 0, .int .i64 0, .bool false, .bool false, .bool false] 64 := Blk.new w _ _
  have ag : w.grownBy (w.alloc (.cells #[.int .i64 0, .int .i64 0, .int .i64 0, .int .i64 0, .bool false, .bool false, .bool false] 64)) none := World.grownBy_alloc w _ _
  obtain ⟨az, ahz⟩ : ∃ z, w.heap.size = z := ⟨_, rfl⟩
  generalize (w.alloc (.cells #[.int .i64 0, .int .i64 0, .int .i64 0, .int .i64 0, .bool false, .bool false, .bool false] 64)) = w1 at ab ag ⊢
  simp only [ahz] at ab ⊢
  have ht1 := hkeep w1 ag
  have hd := ht1.hd k x hx
  have hf := tfind_some ht1 hx
  have c0 := hd.blk.cell (i := 0) rfl
  have c1 := hd.blk.cell (i := 1) rfl
  have hlt := hd.blk.lt
  have ho := hd.ob
  have hbk := hd.blk
  rw [hk] at ho
  rw [show doesV s.pp x.kd (mem k).ob = .iface 198 (ptrV (mem k).ob) by rw [hk]; rfl] at c0
  have hst := sink_stat ho.1 ho.2.2.1
  unfold ptrV at c0
  generalize (mem k).blk = kb at hf c0 c1 hlt hbk
  unfold ptrV at hf hst
  replace hst := Lib.hid hst
  replace hbk := Lib.hid hbk
  have azl := ab.lt
  clear ht1 hd ho hkeep ht
  replace ahz := Lib.hid ahz
  replace ag := Lib.hid ag
  replace ab := Lib.hid ab
  go_wp2_with fail
  refine hf.mono ?_
  rintro e w' ⟨rfl, hw⟩
  obtain rfl := hw.symm
  clear hf hw
  go_wp2_with fail
  refine hst.out.mono ?_
  rintro e w2 ⟨rfl, g2⟩
  have ab2 : Blk w2 az _ _ := (g2.block az azl (by simp)).trans ab.out
  have bk2 : Blk w2 kb _ _ := (g2.block kb hlt (by simp)).trans hbk.out
  have ag2 := grownBy_tr ag.out g2
  clear hst g2 ab hbk c0 c1
  unfold info7
  go_upto_region 5 with fail
  have ab3 : Blk (w2.alloc (.cells #[.int .i64 3, .int .i64 0, .int .i64 (l.length : Int), .int .i64 0, .bool false, .bool false, .bool false] 64)) az _ _ := (Below.heap_alloc w2 _ az ab2.lt).trans ab2
  have bk3 : Blk (w2.alloc (.cells #[.int .i64 3, .int .i64 0, .int .i64 (l.length : Int), .int .i64 0, .bool false, .bool false, .bool false] 64)) kb _ _ := (Below.heap_alloc w2 _ kb bk2.lt).trans bk2
  have ib3 : Blk (w2.alloc (.cells #[.int .i64 3, .int .i64 0, .int .i64 (l.length : Int), .int .i64 0, .bool false, .bool false, .bool false] 64)) w2.heap.size [.int .i64 3, .int .i64 0, .int .i64 (l.length : Int), .int .i64 0, .bool false, .bool false, .bool false] 64 := Blk.new w2 _ _
  have ag3 := grownBy_tr (w'' := (w2.alloc (.cells #[.int .i64 3, .int .i64 0, .int .i64 (l.length : Int), .int .i64 0, .bool false, .bool false, .bool false] 64))) ag2 (World.grownBy_alloc w2 _ _)
  have hiz : w.heap.size ≤ w2.heap.size := ag2.size
  have hizz : az < w2.heap.size := ab2.lt
  generalize w2.alloc (.cells #[.int .i64 3, .int .i64 0, .int .i64 (l.length : Int), .int .i64 0, .bool false, .bool false, .bool false] 64) = w3 at ab3 bk3 ib3 ag3 ⊢
  generalize w2.heap.size = iz at ib3 hiz hizz ⊢
  have c1 := bk3.cell (i := 1) rfl
  have hlt3 := bk3.lt
  have i0 := ib3.cell (i := 0) rfl
  have j0 := ib3.frozen 0
  have i1 := ib3.cell (i := 1) rfl
  have j1 := ib3.frozen 1
  have i2 := ib3.cell (i := 2) rfl
  have j2 := ib3.frozen 2
  have i3 := ib3.cell (i := 3) rfl
  have j3 := ib3.frozen 3
  have i4 := ib3.cell (i := 4) rfl
  have j4 := ib3.frozen 4
  have i5 := ib3.cell (i := 5) rfl
  have j5 := ib3.frozen 5
  have i6 := ib3.cell (i := 6) rfl
  have j6 := ib3.frozen 6
  have izl := ib3.lt
  have hne : az ≠ iz := by omega
  replace ab3 := Lib.hid ab3
  replace ib3 := Lib.hid ib3
  replace ag3 := Lib.hid ag3
  clear ab2 bk2 ag2
  go_upto_region 6 with fail
  have ib4 := ib3.out.set 1 (.int .i64 (x.refs : Int))
  have ab4 : Blk (w3.setCell ⟨iz, 1, none⟩ (.int .i64 (x.refs : Int))) az _ _ := Blk.other (a := ⟨iz, 1, none⟩) ab3.out hne (.int .i64 (x.refs : Int))
  have ag4 := grown_setNew ag3.out hiz 1 (.int .i64 (x.refs : Int))
  clear ib3 ab3 ag3 c1 i0 j0 i1 j1 i2 j2 i3 j3 i4 j4 i5 j5 i6 j6
  generalize w3.setCell ⟨iz, 1, none⟩ (.int .i64 (x.refs : Int)) = w5 at ib4 ab4 ag4 ⊢
  have i0 := ib4.cell (i := 0) rfl
  have c0 := ab4.cell (i := 0) rfl
  have f0 := ab4.frozen 0
  have i1 := ib4.cell (i := 1) rfl
  have c1 := ab4.cell (i := 1) rfl
  have f1 := ab4.frozen 1
  have i2 := ib4.cell (i := 2) rfl
  have c2 := ab4.cell (i := 2) rfl
  have f2 := ab4.frozen 2
  have i3 := ib4.cell (i := 3) rfl
  have c3 := ab4.cell (i := 3) rfl
  have f3 := ab4.frozen 3
  have i4 := ib4.cell (i := 4) rfl
  have c4 := ab4.cell (i := 4) rfl
  have f4 := ab4.frozen 4
  have i5 := ib4.cell (i := 5) rfl
  have c5 := ab4.cell (i := 5) rfl
  have f5 := ab4.frozen 5
  have i6 := ib4.cell (i := 6) rfl
  have c6 := ab4.cell (i := 6) rfl
  have f6 := ab4.frozen 6
  have azl3 := ab4.lt
  replace ab4 := Lib.hid ab4
  replace ib4 := Lib.hid ib4
  replace ag4 := Lib.hid ag4
  go_wp2
  have b3 := (((((((ab4.out.set 0 (.int .i64 3)).set 1 (.int .i64 (x.refs : Int))).set 2 (.int .i64 (l.length : Int))).set 3 (.int .i64 0)).set 4 (.bool false)).set 5 (.bool false)).set 6 (.bool false))
  have g3 := (grown_setNew (grown_setNew (grown_setNew (grown_setNew (grown_setNew (grown_setNew (grown_setNew ag4.out (Nat.le_of_eq ahz.out) 0 (.int .i64 3)) (Nat.le_of_eq ahz.out) 1 (.int .i64 (x.refs : Int))) (Nat.le_of_eq ahz.out) 2 (.int .i64 (l.length : Int))) (Nat.le_of_eq ahz.out) 3 (.int .i64 0)) (Nat.le_of_eq ahz.out) 4 (.bool false)) (Nat.le_of_eq ahz.out) 5 (.bool false)) (Nat.le_of_eq ahz.out) 6 (.bool false))
  generalize (((((((w5.setCell ⟨az, 0, none⟩ (.int .i64 3)).setCell ⟨az, 1, none⟩ (.int .i64 (x.refs : Int))).setCell ⟨az, 2, none⟩ (.int .i64 (l.length : Int))).setCell ⟨az, 3, none⟩ (.int .i64 0)).setCell ⟨az, 4, none⟩ (.bool false)).setCell ⟨az, 5, none⟩ (.bool false)).setCell ⟨az, 6, none⟩ (.bool false)) = w4 at b3 g3 ⊢
  have e0 := b3.cell (i := 0) rfl
  have e1 := b3.cell (i := 1) rfl
  have e2 := b3.cell (i := 2) rfl
  have e3 := b3.cell (i := 3) rfl
  have e4 := b3.cell (i := 4) rfl
  have e5 := b3.cell (i := 5) rfl
  have e6 := b3.cell (i := 6) rfl
  exact bodyPost_ret (v := .tuple #[info7 3 (x.refs : Int) (l.length : Int) 0 false false false, .int .i64 0]) (by simp [results, Tryz.results26, go_sem, e0, e1, e2, e3, e4, e5, e6, info7]) rfl ⟨rfl, g3⟩
end
section
variable {w : World} {F : Nat → Prop} {c : Sy} {s : St} {k : Int} {x : Hd}
theorem sys_stat_rd (h : Sys w F c s) (hx : look s.hs k = some x) {p pb bb ends q : Nat} {b : Bs} (hk : x.kd = .rd p) (hp : s.pp[p]? = some (pb, bb, ends)) (he : s.es[q]? = some (bb, some b)) (htot : s.tot ≤ 500000) :
    Calls Tryz.prog 26 #[ptrV c.tb, .int .i64 k] w fun e w' => e = .returned (.tuple #[info7 4 (x.refs : Int) ((b.all.length - b.gone : Nat) : Int) 0 false false false, .int .i64 0]) ∧ w.grownBy w' none := by
  obtain ⟨Ft, Fp, Fh, h, hF⟩ := h
  obtain ⟨lab, mb, mem, v, ht, hFh⟩ := h.tab
  have hkeep := fun (W : World) (hW : w.grownBy W none) => ht.keep (w' := W) hW.size fun g hg => hW.block g (h.tab.lt ((hFh g).2 hg)) (by simp)
  unfold ptrV
  go_enter Tryz.func26, Tryz.ntmps26
  go_upto_region 1 with fail
  have ab : Blk (w.alloc (.cells #[.int .i64 0, .int .i64 0, .int .i64 0, .int .i64 0, .bool false, .bool false, .bool false] 64)) w.heap.size [.int .i64 0, .int .i64 0, .int .i64 0, .int .i64 0, .bool false, .bool false, .bool false] 64 := Blk.new w _ _
  have ag : w.grownBy (w.alloc (.cells #[.int .i64 0, .int .i64 0, .int .i64 0, .int .i64 0, .bool false, .bool false, .bool false] 64)) none := World.grownBy_alloc w _ _
  obtain ⟨az, ahz⟩ : ∃ z, w.heap.size = z := ⟨_, rfl⟩
  generalize (w.alloc (.cells #[.int .i64 0, .int .i64 0, .int .i64 0, .int .i64 0, .bool false, .bool false, .bool false] 64)) = w1 at ab ag ⊢
  simp only [ahz] at ab ⊢
  have ht1 := hkeep w1 ag
  have hd := ht1.hd k x hx
  have hf := tfind_some ht1 hx
  have c0 := hd.blk.cell (i := 0) rfl
  have c1 := hd.blk.cell (i := 1) rfl
  have hlt := hd.blk.lt
  have ho := hd.ob
  have hbk := hd.blk
  rw [show doesV s.pp x.kd (mem k).ob = .iface 169 (.agg #[ptrV pb]) by show doesV s.pp x.kd (mem k).ob = .iface _ (.agg #[ptrV pb]); rw [hk]; show Value.iface _ (.agg #[ptrV (pipeB s.pp p)]) = _; unfold pipeB; rw [List.getD_eq_getElem?_getD, hp]; rfl] at c0
  have hpo := h.pool.keep (w' := w1) ag.size fun g hg => ag.block g (h.pool.lt hg) (by simp)
  have hst := rd_stat (ht1.pi p pb bb ends hp).1 hpo he htot
  unfold ptrV at c0
  generalize (mem k).blk = kb at hf c0 c1 hlt hbk
  unfold ptrV at hf hst
  replace hst := Lib.hid hst
  replace hbk := Lib.hid hbk
  have azl := ab.lt
  clear ht1 hd ho hkeep ht hpo
  replace ahz := Lib.hid ahz
  replace ag := Lib.hid ag
  replace ab := Lib.hid ab
  go_wp2_with fail
  refine hf.mono ?_
  rintro e w' ⟨rfl, hw⟩
  obtain rfl := hw.symm
  clear hf hw
  go_wp2_with fail
  refine hst.out.mono ?_
  rintro e w2 ⟨rfl, g2⟩
  have ab2 : Blk w2 az _ _ := (g2.block az azl (by simp)).trans ab.out
  have bk2 : Blk w2 kb _ _ := (g2.block kb hlt (by simp)).trans hbk.out
  have ag2 := grownBy_tr ag.out g2
  clear hst g2 ab hbk c0 c1
  unfold info7
  go_upto_region 5 with fail
  have ab3 : Blk (w2.alloc (.cells #[.int .i64 4, .int .i64 0, .int .i64 ((b.all.length - b.gone : Nat) : Int), .int .i64 0, .bool false, .bool false, .bool false] 64)) az _ _ := (Below.heap_alloc w2 _ az ab2.lt).trans ab2
  have bk3 : Blk (w2.alloc (.cells #[.int .i64 4, .int .i64 0, .int .i64 ((b.all.length - b.gone : Nat) : Int), .int .i64 0, .bool false, .bool false, .bool false] 64)) kb _ _ := (Below.heap_alloc w2 _ kb bk2.lt).trans bk2
  have ib3 : Blk (w2.alloc (.cells #[.int .i64 4, .int .i64 0, .int .i64 ((b.all.length - b.gone : Nat) : Int), .int .i64 0, .bool false, .bool false, .bool false] 64)) w2.heap.size [.int .i64 4, .int .i64 0, .int .i64 ((b.all.length - b.gone : Nat) : Int), .int .i64 0, .bool false, .bool false, .bool false] 64 := Blk.new w2 _ _
  have ag3 := grownBy_tr (w'' := (w2.alloc (.cells #[.int .i64 4, .int .i64 0, .int .i64 ((b.all.length - b.gone : Nat) : Int), .int .i64 0, .bool false, .bool false, .bool false] 64))) ag2 (World.grownBy_alloc w2 _ _)
  have hiz : w.heap.size ≤ w2.heap.size := ag2.size
  have hizz : az < w2.heap.size := ab2.lt
  generalize w2.alloc (.cells #[.int .i64 4, .int .i64 0, .int .i64 ((b.all.length - b.gone : Nat) : Int), .int .i64 0, .bool false, .bool false, .bool false] 64) = w3 at ab3 bk3 ib3 ag3 ⊢
  generalize w2.heap.size = iz at ib3 hiz hizz ⊢
  have c1 := bk3.cell (i := 1) rfl
  have hlt3 := bk3.lt
  have i0 := ib3.cell (i := 0) rfl
  have j0 := ib3.frozen 0
  have i1 := ib3.cell (i := 1) rfl
  have j1 := ib3.frozen 1
  have i2 := ib3.cell (i := 2) rfl
  have j2 := ib3.frozen 2
  have i3 := ib3.cell (i := 3) rfl
  have j3 := ib3.frozen 3
  have i4 := ib3.cell (i := 4) rfl
  have j4 := ib3.frozen 4
  have i5 := ib3.cell (i := 5) rfl
  have j5 := ib3.frozen 5
  have i6 := ib3.cell (i := 6) rfl
  have j6 := ib3.frozen 6
  have izl := ib3.lt
  have hne : az ≠ iz := by omega
  replace ab3 := Lib.hid ab3
  replace ib3 := Lib.hid ib3
  replace ag3 := Lib.hid ag3
  clear ab2 bk2 ag2
  go_upto_region 6 with fail
  have ib4 := ib3.out.set 1 (.int .i64 (x.refs : Int))
  have ab4 : Blk (w3.setCell ⟨iz, 1, none⟩ (.int .i64 (x.refs : Int))) az _ _ := Blk.other (a := ⟨iz, 1, none⟩) ab3.out hne (.int .i64 (x.refs : Int))
  have ag4 := grown_setNew ag3.out hiz 1 (.int .i64 (x.refs : Int))
  clear ib3 ab3 ag3 c1 i0 j0 i1 j1 i2 j2 i3 j3 i4 j4 i5 j5 i6 j6
  generalize w3.setCell ⟨iz, 1, none⟩ (.int .i64 (x.refs : Int)) = w5 at ib4 ab4 ag4 ⊢
  have i0 := ib4.cell (i := 0) rfl
  have c0 := ab4.cell (i := 0) rfl
  have f0 := ab4.frozen 0
  have i1 := ib4.cell (i := 1) rfl
  have c1 := ab4.cell (i := 1) rfl
  have f1 := ab4.frozen 1
  have i2 := ib4.cell (i := 2) rfl
  have c2 := ab4.cell (i := 2) rfl
  have f2 := ab4.frozen 2
  have i3 := ib4.cell (i := 3) rfl
  have c3 := ab4.cell (i := 3) rfl
  have f3 := ab4.frozen 3
  have i4 := ib4.cell (i := 4) rfl
  have c4 := ab4.cell (i := 4) rfl
  have f4 := ab4.frozen 4
  have i5 := ib4.cell (i := 5) rfl
  have c5 := ab4.cell (i := 5) rfl
  have f5 := ab4.frozen 5
  have i6 := ib4.cell (i := 6) rfl
  have c6 := ab4.cell (i := 6) rfl
  have f6 := ab4.frozen 6
  have azl3 := ab4.lt
  replace ab4 := Lib.hid ab4
  replace ib4 := Lib.hid ib4
  replace ag4 := Lib.hid ag4
  go_wp2
  have b3 := (((((((ab4.out.set 0 (.int .i64 4)).set 1 (.int .i64 (x.refs : Int))).set 2 (.int .i64 ((b.all.length - b.gone : Nat) : Int))).set 3 (.int .i64 0)).set 4 (.bool false)).set 5 (.bool false)).set 6 (.bool false))
  have g3 := (grown_setNew (grown_setNew (grown_setNew (grown_setNew (grown_setNew (grown_setNew (grown_setNew ag4.out (Nat.le_of_eq ahz.out) 0 (.int .i64 4)) (Nat.le_of_eq ahz.out) 1 (.int .i64 (x.refs : Int))) (Nat.le_of_eq ahz.out) 2 (.int .i64 ((b.all.length - b.gone : Nat) : Int))) (Nat.le_of_eq ahz.out) 3 (.int .i64 0)) (Nat.le_of_eq ahz.out) 4 (.bool false)) (Nat.le_of_eq ahz.out) 5 (.bool false)) (Nat.le_of_eq ahz.out) 6 (.bool false))
  generalize (((((((w5.setCell ⟨az, 0, none⟩ (.int .i64 4)).setCell ⟨az, 1, none⟩ (.int .i64 (x.refs : Int))).setCell ⟨az, 2, none⟩ (.int .i64 ((b.all.length - b.gone : Nat) : Int))).setCell ⟨az, 3, none⟩ (.int .i64 0)).setCell ⟨az, 4, none⟩ (.bool false)).setCell ⟨az, 5, none⟩ (.bool false)).setCell ⟨az, 6, none⟩ (.bool false)) = w4 at b3 g3 ⊢
  have e0 := b3.cell (i := 0) rfl
  have e1 := b3.cell (i := 1) rfl
  have e2 := b3.cell (i := 2) rfl
  have e3 := b3.cell (i := 3) rfl
  have e4 := b3.cell (i := 4) rfl
  have e5 := b3.cell (i := 5) rfl
  have e6 := b3.cell (i := 6) rfl
  exact bodyPost_ret (v := .tuple #[info7 4 (x.refs : Int) ((b.all.length - b.gone : Nat) : Int) 0 false false false, .int .i64 0]) (by simp [results, Tryz.results26, go_sem, e0, e1, e2, e3, e4, e5, e6, info7]) rfl ⟨rfl, g3⟩
end
section
variable {w : World} {F : Nat → Prop} {c : Sy} {s : St} {k : Int} {x : Hd}
theorem sys_stat_wr (h : Sys w F c s) (hx : look s.hs k = some x) {p pb bb ends q : Nat} {b : Bs} (hk : x.kd = .wr p) (hp : s.pp[p]? = some (pb, bb, ends)) (he : s.es[q]? = some (bb, some b)) (htot : s.tot ≤ 500000) :
    Calls Tryz.prog 26 #[ptrV c.tb, .int .i64 k] w fun e w' => e = .returned (.tuple #[info7 5 (x.refs : Int) ((b.all.length - b.gone : Nat) : Int) 0 false false false, .int .i64 0]) ∧ w.grownBy w' none := by
  obtain ⟨Ft, Fp, Fh, h, hF⟩ := h
  obtain ⟨lab, mb, mem, v, ht, hFh⟩ := h.tab
  have hkeep := fun (W : World) (hW : w.grownBy W none) => ht.keep (w' := W) hW.size fun g hg => hW.block g (h.tab.lt ((hFh g).2 hg)) (by simp)
  unfold ptrV
  go_enter Tryz.func26, Tryz.ntmps26
  go_upto_region 1 with fail
  have ab : Blk (w.alloc (.cells #[.int .i64 0, .int .i64 0, .int .i64 0, .int .i64 0, .bool false, .bool false, .bool false] 64)) w.heap.size [.int .i64 0, .int .i64 0, .int .i64 0, .int .i64 0, .bool false, .bool false, .bool false] 64 := Blk.new w _ _
  have ag : w.grownBy (w.alloc (.cells #[.int .i64 0, .int .i64 0, .int .i64 0, .int .i64 0, .bool false, .bool false, .bool false] 64)) none := World.grownBy_alloc w _ _
  obtain ⟨az, ahz⟩ : ∃ z, w.heap.size = z := ⟨_, rfl⟩
  generalize (w.alloc (.cells #[.int .i64 0, .int .i64 0, .int .i64 0, .int .i64 0, .bool false, .bool false, .bool false] 64)) = w1 at ab ag ⊢
  simp only [ahz] at ab ⊢
  have ht1 := hkeep w1 ag
  have hd := ht1.hd k x hx
  have hf := tfind_some ht1 hx
  have c0 := hd.blk.cell (i := 0) rfl
  have c1 := hd.blk.cell (i := 1) rfl
  have hlt := hd.blk.lt
  have ho := hd.ob
  have hbk := hd.blk
  rw [show doesV s.pp x.kd (mem k).ob = .iface 170 (.agg #[ptrV pb]) by show doesV s.pp x.kd (mem k).ob = .iface _ (.agg #[ptrV pb]); rw [hk]; show Value.iface _ (.agg #[ptrV (pipeB s.pp p)]) = _; unfold pipeB; rw [List.getD_eq_getElem?_getD, hp]; rfl] at c0
  have hpo := h.pool.keep (w' := w1) ag.size fun g hg => ag.block g (h.pool.lt hg) (by simp)
  have hst := wr_stat (ht1.pi p pb bb ends hp).1 hpo he htot
  unfold ptrV at c0
  generalize (mem k).blk = kb at hf c0 c1 hlt hbk
  unfold ptrV at hf hst
  replace hst := Lib.hid hst
  replace hbk := Lib.hid hbk
  have azl := ab.lt
  clear ht1 hd ho hkeep ht hpo
  replace ahz := Lib.hid ahz
  replace ag := Lib.hid ag
  replace ab := Lib.hid ab
  go_wp2_with fail
  refine hf.mono ?_
  rintro e w' ⟨rfl, hw⟩
  obtain rfl := hw.symm
  clear hf hw
  go_wp2_with fail
  refine hst.out.mono ?_
  rintro e w2 ⟨rfl, g2⟩
  have ab2 : Blk w2 az _ _ := (g2.block az azl (by simp)).trans ab.out
  have bk2 : Blk w2 kb _ _ := (g2.block kb hlt (by simp)).trans hbk.out
  have ag2 := grownBy_tr ag.out g2
  clear hst g2 ab hbk c0 c1
  unfold info7
  go_upto_region 5 with fail
  have ab3 : Blk (w2.alloc (.cells #[.int .i64 5, .int .i64 0, .int .i64 ((b.all.length - b.gone : Nat) : Int), .int .i64 0, .bool false, .bool false, .bool false] 64)) az _ _ := (Below.heap_alloc w2 _ az ab2.lt).trans ab2
  have bk3 : Blk (w2.alloc (.cells #[.int .i64 5, .int .i64 0, .int .i64 ((b.all.length - b.gone : Nat) : Int), .int .i64 0, .bool false, .bool false, .bool false] 64)) kb _ _ := (Below.heap_alloc w2 _ kb bk2.lt).trans bk2
  have ib3 : Blk (w2.alloc (.cells #[.int .i64 5, .int .i64 0, .int .i64 ((b.all.length - b.gone : Nat) : Int), .int .i64 0, .bool false, .bool false, .bool false] 64)) w2.heap.size [.int .i64 5, .int .i64 0, .int .i64 ((b.all.length - b.gone : Nat) : Int), .int .i64 0, .bool false, .bool false, .bool false] 64 := Blk.new w2 _ _
  have ag3 := grownBy_tr (w'' := (w2.alloc (.cells #[.int .i64 5, .int .i64 0, .int .i64 ((b.all.length - b.gone : Nat) : Int), .int .i64 0, .bool false, .bool false, .bool false] 64))) ag2 (World.grownBy_alloc w2 _ _)
  have hiz : w.heap.size ≤ w2.heap.size := ag2.size
  have hizz : az < w2.heap.size := ab2.lt
  generalize w2.alloc (.cells #[.int .i64 5, .int .i64 0, .int .i64 ((b.all.length - b.gone : Nat) : Int), .int .i64 0, .bool false, .bool false, .bool false] 64) = w3 at ab3 bk3 ib3 ag3 ⊢
  generalize w2.heap.size = iz at ib3 hiz hizz ⊢
  have c1 := bk3.cell (i := 1) rfl
  have hlt3 := bk3.lt
  have i0 := ib3.cell (i := 0) rfl
  have j0 := ib3.frozen 0
  have i1 := ib3.cell (i := 1) rfl
  have j1 := ib3.frozen 1
  have i2 := ib3.cell (i := 2) rfl
  have j2 := ib3.frozen 2
  have i3 := ib3.cell (i := 3) rfl
  have j3 := ib3.frozen 3
  have i4 := ib3.cell (i := 4) rfl
  have j4 := ib3.frozen 4
  have i5 := ib3.cell (i := 5) rfl
  have j5 := ib3.frozen 5
  have i6 := ib3.cell (i := 6) rfl
  have j6 := ib3.frozen 6
  have izl := ib3.lt
  have hne : az ≠ iz := by omega
  replace ab3 := Lib.hid ab3
  replace ib3 := Lib.hid ib3
  replace ag3 := Lib.hid ag3
  clear ab2 bk2 ag2
  go_upto_region 6 with fail
  have ib4 := ib3.out.set 1 (.int .i64 (x.refs : Int))
  have ab4 : Blk (w3.setCell ⟨iz, 1, none⟩ (.int .i64 (x.refs : Int))) az _ _ := Blk.other (a := ⟨iz, 1, none⟩) ab3.out hne (.int .i64 (x.refs : Int))
  have ag4 := grown_setNew ag3.out hiz 1 (.int .i64 (x.refs : Int))
  clear ib3 ab3 ag3 c1 i0 j0 i1 j1 i2 j2 i3 j3 i4 j4 i5 j5 i6 j6
  generalize w3.setCell ⟨iz, 1, none⟩ (.int .i64 (x.refs : Int)) = w5 at ib4 ab4 ag4 ⊢
  have i0 := ib4.cell (i := 0) rfl
  have c0 := ab4.cell (i := 0) rfl
  have f0 := ab4.frozen 0
  have i1 := ib4.cell (i := 1) rfl
  have c1 := ab4.cell (i := 1) rfl
  have f1 := ab4.frozen 1
  have i2 := ib4.cell (i := 2) rfl
  have c2 := ab4.cell (i := 2) rfl
  have f2 := ab4.frozen 2
  have i3 := ib4.cell (i := 3) rfl
  have c3 := ab4.cell (i := 3) rfl
  have f3 := ab4.frozen 3
  have i4 := ib4.cell (i := 4) rfl
  have c4 := ab4.cell (i := 4) rfl
  have f4 := ab4.frozen 4
  have i5 := ib4.cell (i := 5) rfl
  have c5 := ab4.cell (i := 5) rfl
  have f5 := ab4.frozen 5
  have i6 := ib4.cell (i := 6) rfl
  have c6 := ab4.cell (i := 6) rfl
  have f6 := ab4.frozen 6
  have azl3 := ab4.lt
  replace ab4 := Lib.hid ab4
  replace ib4 := Lib.hid ib4
  replace ag4 := Lib.hid ag4
  go_wp2
  have b3 := (((((((ab4.out.set 0 (.int .i64 5)).set 1 (.int .i64 (x.refs : Int))).set 2 (.int .i64 ((b.all.length - b.gone : Nat) : Int))).set 3 (.int .i64 0)).set 4 (.bool false)).set 5 (.bool false)).set 6 (.bool false))
  have g3 := (grown_setNew (grown_setNew (grown_setNew (grown_setNew (grown_setNew (grown_setNew (grown_setNew ag4.out (Nat.le_of_eq ahz.out) 0 (.int .i64 5)) (Nat.le_of_eq ahz.out) 1 (.int .i64 (x.refs : Int))) (Nat.le_of_eq ahz.out) 2 (.int .i64 ((b.all.length - b.gone : Nat) : Int))) (Nat.le_of_eq ahz.out) 3 (.int .i64 0)) (Nat.le_of_eq ahz.out) 4 (.bool false)) (Nat.le_of_eq ahz.out) 5 (.bool false)) (Nat.le_of_eq ahz.out) 6 (.bool false))
  generalize (((((((w5.setCell ⟨az, 0, none⟩ (.int .i64 5)).setCell ⟨az, 1, none⟩ (.int .i64 (x.refs : Int))).setCell ⟨az, 2, none⟩ (.int .i64 ((b.all.length - b.gone : Nat) : Int))).setCell ⟨az, 3, none⟩ (.int .i64 0)).setCell ⟨az, 4, none⟩ (.bool false)).setCell ⟨az, 5, none⟩ (.bool false)).setCell ⟨az, 6, none⟩ (.bool false)) = w4 at b3 g3 ⊢
  have e0 := b3.cell (i := 0) rfl
  have e1 := b3.cell (i := 1) rfl
  have e2 := b3.cell (i := 2) rfl
  have e3 := b3.cell (i := 3) rfl
  have e4 := b3.cell (i := 4) rfl
  have e5 := b3.cell (i := 5) rfl
  have e6 := b3.cell (i := 6) rfl
  exact bodyPost_ret (v := .tuple #[info7 5 (x.refs : Int) ((b.all.length - b.gone : Nat) : Int) 0 false false false, .int .i64 0]) (by simp [results, Tryz.results26, go_sem, e0, e1, e2, e3, e4, e5, e6, info7]) rfl ⟨rfl, g3⟩
end
end Go.Proofs.YtfofpphnglhopaaGreatDoor
