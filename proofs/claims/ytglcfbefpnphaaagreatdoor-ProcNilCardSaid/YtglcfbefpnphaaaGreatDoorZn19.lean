/-
  ProcNil: whatever calls come in, the law answers true and leaves them as they were. Conditions: the two listed tables lie as the program's text lays them (tied by the card).
-/
import Derived.Deep.RegionHeld3
import Derived.Test.YtglcfbefpnphaaaGreatDoorZn0
import Derived.Test.YtglcfbefpnphaaaGreatDoorZn14
import Derived.Test.YtglcfbefpnphaaaGreatDoorZn18
namespace Go.Proofs.YtglcfbefpnphaaaGreatDoor
open Go Go.RowKit

set_option maxRecDepth 100000 in
theorem PClose_nil (fd x : Int) (t : ByteArray) (w : World) : Calls Tryz.prog 24 #[.pointer none, .int .i64 fd] w fun e w' => e = .returned (.int .i64 2) ∧ w' = w := by
  have hc := checkFd_nil fd w
  go_enter Tryz.func24, Tryz.ntmps24
  go_wp2_with fail
  refine hc.mono ?_
  rintro e w' ⟨rfl, hw⟩
  obtain rfl := hw.symm
  clear hw
  go_wp2
  go_ret
  exact ⟨rfl, rfl⟩
set_option maxRecDepth 100000 in
theorem PPut_nil (fd x : Int) (t : ByteArray) (w : World) : Calls Tryz.prog 72 #[.pointer none, .int .i64 fd, .int .i64 x] w fun e w' => e = .returned (.int .i64 2) ∧ w' = w := by
  have hc := checkFd_nil fd w
  go_enter Tryz.func72, Tryz.ntmps72
  go_wp2_with fail
  refine hc.mono ?_
  rintro e w' ⟨rfl, hw⟩
  obtain rfl := hw.symm
  clear hw
  go_wp2
  go_ret
  exact ⟨rfl, rfl⟩
set_option maxRecDepth 100000 in
theorem PDup_nil (fd x : Int) (t : ByteArray) (w : World) : Calls Tryz.prog 73 #[.pointer none, .int .i64 fd, .int .i64 x] w fun e w' => e = .returned (.int .i64 2) ∧ w' = w := by
  have hc := checkFd_nil fd w
  go_enter Tryz.func73, Tryz.ntmps73
  go_wp2_with fail
  refine hc.mono ?_
  rintro e w' ⟨rfl, hw⟩
  obtain rfl := hw.symm
  clear hw
  go_wp2
  go_ret
  exact ⟨rfl, rfl⟩
set_option maxRecDepth 100000 in
theorem POpen_nil (fd x : Int) (t : ByteArray) (w : World) : Calls Tryz.prog 67 #[.pointer none, .int .i64 fd, .string t, .int .i64 x] w fun e w' => e = .returned (.int .i64 2) ∧ w' = w := by
  have hc := checkFd_nil fd w
  go_enter Tryz.func67, Tryz.ntmps67
  go_wp2_with fail
  refine hc.mono ?_
  rintro e w' ⟨rfl, hw⟩
  obtain rfl := hw.symm
  clear hw
  go_wp2
  go_ret
  exact ⟨rfl, rfl⟩
set_option maxRecDepth 100000 in
theorem PChdir_nil (x : Int) (t : ByteArray) (w : World) : Calls Tryz.prog 75 #[.pointer none, .string t] w fun e w' => e = .returned (.int .i64 2) ∧ w' = w := by
  have hc := pisNil_yes w
  go_enter Tryz.func75, Tryz.ntmps75
  go_wp2_with fail
  refine hc.mono ?_
  rintro e w' ⟨rfl, hw⟩
  obtain rfl := hw.symm
  clear hw
  go_wp2
  go_ret
  exact ⟨rfl, rfl⟩
set_option maxRecDepth 100000 in
theorem PSetMask_nil (x : Int) (t : ByteArray) (w : World) : Calls Tryz.prog 76 #[.pointer none, .int .i64 x] w fun e w' => e = .returned (.int .i64 2) ∧ w' = w := by
  have hc := pisNil_yes w
  go_enter Tryz.func76, Tryz.ntmps76
  go_wp2_with fail
  refine hc.mono ?_
  rintro e w' ⟨rfl, hw⟩
  obtain rfl := hw.symm
  clear hw
  go_wp2
  go_ret
  exact ⟨rfl, rfl⟩
set_option maxRecDepth 100000 in
theorem PUndo_nil (x : Int) (t : ByteArray) (w : World) : Calls Tryz.prog 23 #[.pointer none] w fun e w' => e = .returned (.int .i64 2) ∧ w' = w := by
  have hc := pisNil_yes w
  go_enter Tryz.func23, Tryz.ntmps23
  go_wp2_with fail
  refine hc.mono ?_
  rintro e w' ⟨rfl, hw⟩
  obtain rfl := hw.symm
  clear hw
  go_wp2
  go_ret
  exact ⟨rfl, rfl⟩
set_option maxRecDepth 100000 in
theorem PMark_nil (x : Int) (t : ByteArray) (w : World) : Calls Tryz.prog 21 #[.pointer none] w fun e w' => e = .returned (.tuple #[.int .i64 0, .int .i64 2]) ∧ w' = w := by
  have hc := pisNil_yes w
  go_enter Tryz.func21, Tryz.ntmps21
  go_wp2_with fail
  refine hc.mono ?_
  rintro e w' ⟨rfl, hw⟩
  obtain rfl := hw.symm
  clear hw
  go_wp2
  go_ret2
  exact ⟨rfl, rfl⟩
set_option maxRecDepth 100000 in
theorem PFds_nil (x : Int) (t : ByteArray) (w : World) : Calls Tryz.prog 32 #[.pointer none] w fun e w' => e = .returned (.slice none 0 0) ∧ w' = w := by
  have hc := pisNil_yes w
  go_enter Tryz.func32, Tryz.ntmps32
  go_wp2_with fail
  refine hc.mono ?_
  rintro e w' ⟨rfl, hw⟩
  obtain rfl := hw.symm
  clear hw
  go_wp2
  go_ret
  exact ⟨rfl, rfl⟩
theorem pfind_nil (fd : Int) (w : World) : Calls Tryz.prog 91 #[.pointer none, .int .i64 fd] w fun e w' => e = .returned (.tuple #[.int .i64 0, .int .i64 2]) ∧ w' = w := pfind_bad fd (.pointer none) 2 (by decide) (checkFd_nil fd w)
def askP (a : Int) : Int := (a.tmod 12 + 12).tmod 12
theorem askP_in (a : Int) : askP a = 0 ∨ askP a = 1 ∨ askP a = 2 ∨ askP a = 3 ∨ askP a = 4 ∨ askP a = 5 ∨ askP a = 6 ∨ askP a = 7 ∨ askP a = 8 ∨ askP a = 9 ∨ askP a = 10 ∨ askP a = 11 := by
  have h1 := Int.tmod_lt_of_pos a (show (0 : Int) < 12 by decide)
  have h2 := Int.lt_tmod_of_pos a (show (0 : Int) < 12 by decide)
  unfold askP
  rw [Int.tmod_eq_emod_of_nonneg (by omega)]
  omega
def opV (q : Opd) : Value := .agg #[.int .i64 q.1, .int .i64 q.2.1, .int .i64 q.2.2.1, .int .i64 q.2.2.2.1, .int .i64 q.2.2.2.2.1, .string q.2.2.2.2.2.1, .string q.2.2.2.2.2.2]
set_option maxHeartbeats 1000000 in
set_option maxRecDepth 100000 in
theorem ask_any (q : Opd) (hq : In4 q) (w : World) : Calls Tryz.prog 22 #[opV q] w fun e w' => e = .returned (.int .i64 (askP q.1)) ∧ w.grownBy w' none := by
  obtain ⟨a, fd, fr, k, n, p, d⟩ := q
  obtain ⟨⟨ha, hb⟩, _⟩ := hq
  dsimp only at ha hb ⊢
  unfold opV
  have gA : w.grownBy (w.alloc (.cells #[.int .i64 a, .int .i64 fd, .int .i64 fr, .int .i64 k, .int .i64 n, .string p, .string d] 53)) none := World.grownBy_alloc w _ _
  have bb : Blk (w.alloc (.cells #[.int .i64 a, .int .i64 fd, .int .i64 fr, .int .i64 k, .int .i64 n, .string p, .string d] 53)) w.heap.size [.int .i64 a, .int .i64 fd, .int .i64 fr, .int .i64 k, .int .i64 n, .string p, .string d] 53 := Blk.new w _ _
  have hR : (wrap64 (a.tmod 12 + 12)).tmod 12 = askP a := by
    have h1 := Int.tmod_lt_of_pos a (show (0 : Int) < 12 by decide)
    have h2 := Int.lt_tmod_of_pos a (show (0 : Int) < 12 by decide)
    have h3 : wrap64 (a.tmod 12 + 12) = a.tmod 12 + 12 := by unfold wrap64; omega
    rw [h3]; rfl
  go_enter Tryz.func22, Tryz.ntmps22
  go_upto_region 1 with fail
  generalize (w.alloc (.cells #[.int .i64 a, .int .i64 fd, .int .i64 fr, .int .i64 k, .int .i64 n, .string p, .string d] 53)) = w1 at gA bb ⊢
  generalize w.heap.size = z at bb ⊢
  have b0 := bb.cell (i := 0) rfl
  have bl := bb.lt
  replace gA := Lib.hid gA
  clear bb
  go_wp2
  try rw [hR]
  go_ret
  exact ⟨rfl, gA.out⟩

def fewB (l : List Opd) : Bool := decide (l.length ≤ 50) && l.all fun o => decide (o.2.2.2.2.2.1.size ≤ 100) && decide (o.2.2.2.2.2.2.size ≤ 100)
set_option maxHeartbeats 1000000 in
set_option maxRecDepth 100000 in
theorem few_any (l : List Opd) (v : Value) (w0 w : World) (h : Ops w0 v l) (hm : ∀ b, b < w0.heap.size → w.heap[b]? = w0.heap[b]?) (hs : w0.heap.size ≤ w.heap.size) : Calls Tryz.prog 15 #[v] w fun e w' => e = .returned (.bool (fewB l)) ∧ w' = w := by
  obtain ⟨A, c, rfl, hc, hcm⟩ := h.form
  unfold maxLen at hcm
  obtain ⟨r, hr⟩ : ∃ r, fewB l = r := ⟨_, rfl⟩
  rw [hr]
  replace hr := Lib.hid hr
  have hops := fun k hk => ops_keep h hm k hk
  replace hops := Lib.hid hops
  replace hs := Lib.hid hs
  obtain ⟨KL, hKL⟩ : ∃ KL, l.length = KL := ⟨_, rfl⟩
  rw [hKL] at hc ⊢
  replace hKL := Lib.hid hKL
  clear h hm
  by_cases hlen : 50 < KL
  · have hi : (50 : Int) < (KL : Int) := by omega
    have hrf : r = false := by
      rw [← hr.out]
      unfold fewB
      rw [hKL.out]
      simp; omega
    subst hrf
    go_enter Tryz.func15, Tryz.ntmps15
    go_wp2
    go_ret
    exact ⟨rfl, rfl⟩
  · have hi : ¬ (50 : Int) < (KL : Int) := by omega
    go_enter Tryz.func15, Tryz.ntmps15
    go_wp2
    go_loopw [3] (fun nv wr => ∃ n : Nat, n ≤ KL ∧ nv = .int .i64 (n : Int) ∧ wr = w ∧ Hid (∀ k (hk : k < l.length), k < n → l[k].2.2.2.2.2.1.size ≤ 100 ∧ l[k].2.2.2.2.2.2.size ≤ 100)) (fun nv _ => KL - (intOf nv).toNat)
    case atStart => exact ⟨0, Nat.zero_le _, rfl, rfl, Lib.hid fun _ _ h => absurd h (Nat.not_lt_zero _)⟩
    case round =>
      obtain ⟨n, hn, rfl, rfl, hall⟩ := hrel
      by_cases hlt : n < KL
      · have hlt' : n < l.length := by rw [hKL.out]; exact hlt
        obtain ⟨b, off, rfl, hb, _, _, _, _, _, c5, c6⟩ := hops.out n hlt'
        replace hb := Nat.lt_of_lt_of_le hb hs.out
        obtain ⟨s, hs5⟩ : ∃ s, l[n].2.2.2.2.2.1 = s := ⟨_, rfl⟩
        obtain ⟨t, hs6⟩ : ∃ s, l[n].2.2.2.2.2.2 = s := ⟨_, rfl⟩
        rw [hs5] at c5
        rw [hs6] at c6
        replace hs5 := Lib.hid hs5
        replace hs6 := Lib.hid hs6
        by_cases h3 : 100 < s.size
        · have hrf : r = false := by
            rw [← hr.out]
            unfold fewB
            rw [Bool.and_eq_false_iff]
            right
            rw [List.all_eq_false]
            exact ⟨l[n], List.getElem_mem _, by rw [hs5.out]; simp; omega⟩
          subst hrf
          have h3i : (100 : Int) < (s.size : Int) := by omega
          go_wp2
          go_ret
          exact ⟨rfl, rfl⟩
        · have h3i : ¬ (100 : Int) < (s.size : Int) := by omega
          by_cases h4 : 100 < t.size
          · have hrf : r = false := by
              rw [← hr.out]
              unfold fewB
              rw [Bool.and_eq_false_iff]
              right
              rw [List.all_eq_false]
              exact ⟨l[n], List.getElem_mem _, by rw [hs6.out]; simp; omega⟩
            subst hrf
            have h4i : (100 : Int) < (t.size : Int) := by omega
            go_wp2
            go_ret
            exact ⟨rfl, rfl⟩
          · have h4i : ¬ (100 : Int) < (t.size : Int) := by omega
            have hall2 : Hid (∀ k (hk : k < l.length), k < n + 1 → l[k].2.2.2.2.2.1.size ≤ 100 ∧ l[k].2.2.2.2.2.2.size ≤ 100) := fun k hk h => by
              rcases Nat.lt_or_ge k n with h' | h'
              · exact hall.out k hk h'
              · obtain rfl : k = n := by omega
                rw [hs5.out, hs6.out]; omega
            clear hall
            go_wp2
            go_roundw
            case rel => exact ⟨n + 1, by omega, by go_num, trivial, hall2⟩
            case measure => simp [intOf]; omega
      · obtain rfl : n = KL := by omega
        have hrt : r = true := by
          rw [← hr.out]
          unfold fewB
          rw [Bool.and_eq_true, List.all_eq_true]
          refine ⟨by rw [hKL.out]; simp; omega, fun o ho => ?_⟩
          obtain ⟨k, hk, rfl⟩ := List.getElem_of_mem ho
          have := hall.out k hk (by have := hKL.out; omega)
          simpa using this
        subst hrt
        go_wp2
        go_ret
        exact ⟨rfl, rfl⟩
theorem few_true {l : List Opd} (h : fewB l = true) : l.length ≤ 50 ∧ ∀ k (hk : k < l.length), l[k].2.2.2.2.2.1.size ≤ 100 ∧ l[k].2.2.2.2.2.2.size ≤ 100 := by
  unfold fewB at h
  rw [Bool.and_eq_true, List.all_eq_true] at h
  exact ⟨by simpa using h.1, fun k hk => by simpa using h.2 _ (List.getElem_mem hk)⟩
set_option maxHeartbeats 4000000 in
set_option maxRecDepth 100000 in
/-- A call that is asked of no process. -/
theorem does_nil (f pl t l : Nat) (q : Opd) (hq : In4 q) (h11 : askP q.1 ≠ 11) (w : World) :
    Calls Tryz.prog 18 #[.agg #[ptrV f, ptrV pl, ptrV t, ptrV l, .pointer none], opV q] w fun e w' => e = .returned (.tuple #[.int .i64 0, .string ⟨#[]⟩, .int .i64 2]) ∧ w.grownBy w' none := by
  have hask := fun w => ask_any q hq w
  obtain ⟨a, fd, fr, k, n, p, d⟩ := q
  dsimp only at h11 hask ⊢
  have hR := askP_in a
  obtain ⟨R, hRe⟩ : ∃ R, askP a = R := ⟨_, rfl⟩
  rw [hRe] at hR h11 hask
  unfold opV ptrV at *
  dsimp only at hask ⊢
  have gA : w.grownBy ((w.alloc (.cells #[.pointer (some ⟨f, 0, none⟩), .pointer (some ⟨pl, 0, none⟩), .pointer (some ⟨t, 0, none⟩), .pointer (some ⟨l, 0, none⟩), .pointer none] 48)).alloc (.cells #[.int .i64 a, .int .i64 fd, .int .i64 fr, .int .i64 k, .int .i64 n, .string p, .string d] 53)) none := grownBy_tr (World.grownBy_alloc w _ _) (World.grownBy_alloc _ _ _)
  have ab : Blk ((w.alloc (.cells #[.pointer (some ⟨f, 0, none⟩), .pointer (some ⟨pl, 0, none⟩), .pointer (some ⟨t, 0, none⟩), .pointer (some ⟨l, 0, none⟩), .pointer none] 48)).alloc (.cells #[.int .i64 a, .int .i64 fd, .int .i64 fr, .int .i64 k, .int .i64 n, .string p, .string d] 53)) w.heap.size [.pointer (some ⟨f, 0, none⟩), .pointer (some ⟨pl, 0, none⟩), .pointer (some ⟨t, 0, none⟩), .pointer (some ⟨l, 0, none⟩), .pointer none] 48 := (Blk.new w _ _).alloc _
  have bb : Blk ((w.alloc (.cells #[.pointer (some ⟨f, 0, none⟩), .pointer (some ⟨pl, 0, none⟩), .pointer (some ⟨t, 0, none⟩), .pointer (some ⟨l, 0, none⟩), .pointer none] 48)).alloc (.cells #[.int .i64 a, .int .i64 fd, .int .i64 fr, .int .i64 k, .int .i64 n, .string p, .string d] 53)) (w.alloc (.cells #[.pointer (some ⟨f, 0, none⟩), .pointer (some ⟨pl, 0, none⟩), .pointer (some ⟨t, 0, none⟩), .pointer (some ⟨l, 0, none⟩), .pointer none] 48)).heap.size [.int .i64 a, .int .i64 fd, .int .i64 fr, .int .i64 k, .int .i64 n, .string p, .string d] 53 := Blk.new _ _ _
  have hsz : (w.alloc (.cells #[.pointer (some ⟨f, 0, none⟩), .pointer (some ⟨pl, 0, none⟩), .pointer (some ⟨t, 0, none⟩), .pointer (some ⟨l, 0, none⟩), .pointer none] 48)).heap.size = w.heap.size + 1 := by simp
  rw [hsz] at bb
  clear hRe
  go_enter Tryz.func18, Tryz.ntmps18
  go_upto_region 1 with fail
  try simp only [hsz]
  generalize ((w.alloc (.cells #[.pointer (some ⟨f, 0, none⟩), .pointer (some ⟨pl, 0, none⟩), .pointer (some ⟨t, 0, none⟩), .pointer (some ⟨l, 0, none⟩), .pointer none] 48)).alloc (.cells #[.int .i64 a, .int .i64 fd, .int .i64 fr, .int .i64 k, .int .i64 n, .string p, .string d] 53)) = w1 at gA ab bb ⊢
  generalize w.heap.size = z at ab bb ⊢
  have hask1 := hask w1
  have b0 := bb.cell (i := 0) rfl
  have b1 := bb.cell (i := 1) rfl
  have b2 := bb.cell (i := 2) rfl
  have b3 := bb.cell (i := 3) rfl
  have b4 := bb.cell (i := 4) rfl
  have b5 := bb.cell (i := 5) rfl
  have b6 := bb.cell (i := 6) rfl
  have bl := bb.lt
  clear hsz hask
  replace gA := Lib.hid gA
  go_wp2_with fail
  refine hask1.mono ?_
  rintro e w2 ⟨rfl, g2⟩
  have ab2 : Blk w2 z _ _ := (g2.block z ab.lt (by simp)).trans ab
  have bb2 : Blk w2 (z + 1) _ _ := (g2.block (z + 1) bb.lt (by simp)).trans bb
  have a4 := ab2.cell (i := 4) rfl
  have b1 := bb2.cell (i := 1) rfl
  have b2 := bb2.cell (i := 2) rfl
  have b3 := bb2.cell (i := 3) rfl
  have b4 := bb2.cell (i := 4) rfl
  have b5 := bb2.cell (i := 5) rfl
  have b6 := bb2.cell (i := 6) rfl
  have al := ab2.lt
  have bl := bb2.lt
  have gB := grownBy_tr gA.out g2
  replace gB := Lib.hid gB
  clear ab bb ab2 bb2 g2 gA hask1
  have hopen := POpen_nil fd k p w2
  have hput := PPut_nil fd fr p w2
  have hdup := PDup_nil fd fr p w2
  have hclose := PClose_nil fd fr p w2
  have hread := PRead_no (w := w2) (.pointer none) fd n 0 2 (by decide) (pfind_nil fd w2)
  have hwrite := PWrite_no (w := w2) (.pointer none) fd 0 2 d (by decide) (pfind_nil fd w2)
  have hchdir := PChdir_nil 0 p w2
  have hmask := PSetMask_nil n p w2
  have hmark := PMark_nil 0 p w2
  have hundo := PUndo_nil 0 p w2
  rcases hR with rfl | rfl | rfl | rfl | rfl | rfl | rfl | rfl | rfl | rfl | rfl | rfl
  · go_wp2_with fail
    refine hopen.mono ?_
    rintro e w' ⟨rfl, hw⟩
    obtain rfl := hw.symm
    go_wp2
    exact bodyPost_ret (v := .tuple #[.int .i64 0, .string ⟨#[]⟩, .int .i64 2]) (by simp [results, Tryz.results18, go_sem]) rfl ⟨rfl, gB.out⟩
  · go_wp2_with fail
    refine hput.mono ?_
    rintro e w' ⟨rfl, hw⟩
    obtain rfl := hw.symm
    go_wp2
    exact bodyPost_ret (v := .tuple #[.int .i64 0, .string ⟨#[]⟩, .int .i64 2]) (by simp [results, Tryz.results18, go_sem]) rfl ⟨rfl, gB.out⟩
  · go_wp2_with fail
    refine hdup.mono ?_
    rintro e w' ⟨rfl, hw⟩
    obtain rfl := hw.symm
    go_wp2
    exact bodyPost_ret (v := .tuple #[.int .i64 0, .string ⟨#[]⟩, .int .i64 2]) (by simp [results, Tryz.results18, go_sem]) rfl ⟨rfl, gB.out⟩
  · go_wp2_with fail
    refine hclose.mono ?_
    rintro e w' ⟨rfl, hw⟩
    obtain rfl := hw.symm
    go_wp2
    exact bodyPost_ret (v := .tuple #[.int .i64 0, .string ⟨#[]⟩, .int .i64 2]) (by simp [results, Tryz.results18, go_sem]) rfl ⟨rfl, gB.out⟩
  · go_wp2_with fail
    refine hread.mono ?_
    rintro e w' ⟨rfl, hw⟩
    obtain rfl := hw.symm
    go_wp2
    exact bodyPost_ret (v := .tuple #[.int .i64 0, .string ⟨#[]⟩, .int .i64 2]) (by simp [results, Tryz.results18, go_sem]) rfl ⟨rfl, gB.out⟩
  · go_wp2_with fail
    refine hwrite.mono ?_
    rintro e w' ⟨rfl, hw⟩
    obtain rfl := hw.symm
    go_wp2
    exact bodyPost_ret (v := .tuple #[.int .i64 0, .string ⟨#[]⟩, .int .i64 2]) (by simp [results, Tryz.results18, go_sem]) rfl ⟨rfl, gB.out⟩
  · go_wp2_with fail
    refine hchdir.mono ?_
    rintro e w' ⟨rfl, hw⟩
    obtain rfl := hw.symm
    go_wp2
    exact bodyPost_ret (v := .tuple #[.int .i64 0, .string ⟨#[]⟩, .int .i64 2]) (by simp [results, Tryz.results18, go_sem]) rfl ⟨rfl, gB.out⟩
  · go_wp2_with fail
    refine hmask.mono ?_
    rintro e w' ⟨rfl, hw⟩
    obtain rfl := hw.symm
    go_wp2
    exact bodyPost_ret (v := .tuple #[.int .i64 0, .string ⟨#[]⟩, .int .i64 2]) (by simp [results, Tryz.results18, go_sem]) rfl ⟨rfl, gB.out⟩
  · go_wp2_with fail
    refine hmark.mono ?_
    rintro e w' ⟨rfl, hw⟩
    obtain rfl := hw.symm
    go_wp2
    exact bodyPost_ret (v := .tuple #[.int .i64 0, .string ⟨#[]⟩, .int .i64 2]) (by simp [results, Tryz.results18, go_sem]) rfl ⟨rfl, gB.out⟩
  · go_wp2_with fail
    refine hmark.mono ?_
    rintro e w' ⟨rfl, hw⟩
    obtain rfl := hw.symm
    go_wp2
    exact bodyPost_ret (v := .tuple #[.int .i64 0, .string ⟨#[]⟩, .int .i64 2]) (by simp [results, Tryz.results18, go_sem]) rfl ⟨rfl, gB.out⟩
  · go_wp2_with fail
    refine hundo.mono ?_
    rintro e w' ⟨rfl, hw⟩
    obtain rfl := hw.symm
    go_wp2
    exact bodyPost_ret (v := .tuple #[.int .i64 0, .string ⟨#[]⟩, .int .i64 2]) (by simp [results, Tryz.results18, go_sem]) rfl ⟨rfl, gB.out⟩
  · exact absurd rfl h11
end Go.Proofs.YtglcfbefpnphaaaGreatDoor
/-
  ProcNil answers true, and leaves memory as it was. Conditions: none.
-/
namespace Go.Proofs.YtglcfbefpnphaaaGreatDoor
open Go Go.RowKit

set_option maxHeartbeats 4000000 in
set_option maxRecDepth 100000 in
theorem lawNil_any (l : List Opd) (v : Value) (w : World) (h : Ops w v l) :
    Calls Tryz.prog 7 #[v] w fun e w' => e = .returned (.bool true) ∧ w.grownBy w' none := by
  have hfew := few_any l v w w h (fun _ _ => rfl) (Nat.le_refl _)
  obtain ⟨A, c, rfl, hc, hcm⟩ := h.form
  unfold maxLen at hcm
  have haw := fun W => awake9_any W
  by_cases hf : fewB l = true
  · rw [hf] at hfew
    have hl50 := (few_true hf).1
    have hops := h
    replace hops := Lib.hid hops
    have hin : ∀ k (hk : k < l.length), In4 l[k] := fun k hk => h.2 _ (List.getElem_mem hk)
    replace hin := Lib.hid hin
    have hbg : Calls Tryz.prog 17 #[.int .i64 10] w _ := begun9_any 10 (by decide) w
    clear h hf
    obtain ⟨KL, hKL⟩ : ∃ KL, l.length = KL := ⟨_, rfl⟩
    rw [hKL] at hc hl50 hfew hops ⊢
    replace hKL := Lib.hid hKL
    replace haw := Lib.hid haw
    replace hbg := Lib.hid hbg
    go_enter Tryz.func7, Tryz.ntmps7
    go_wp2_with fail
    refine hfew.mono ?_
    rintro e w' ⟨rfl, hw⟩
    obtain rfl := hw.symm
    clear hfew hw
    go_wp2_with fail
    refine hbg.out.mono ?_
    rintro e w0 ⟨fb, plb, tb, lb, pb, bb, ppb, rfl, F0, hP0, cc0⟩
    have g0 : w.grownBy w0 none := cc0.none (fun _ _ h => h)
    clear hbg hP0 cc0
    unfold ptrV
    go_upto_region 5 with fail
    have gA : w0.grownBy (w0.alloc (.cells #[.pointer (some ⟨fb, 0, none⟩), .pointer (some ⟨plb, 0, none⟩), .pointer (some ⟨tb, 0, none⟩), .pointer (some ⟨lb, 0, none⟩), .pointer (some ⟨pb, 0, none⟩)] 48)) none := World.grownBy_alloc w0 _ _
    have zb : Blk (w0.alloc (.cells #[.pointer (some ⟨fb, 0, none⟩), .pointer (some ⟨plb, 0, none⟩), .pointer (some ⟨tb, 0, none⟩), .pointer (some ⟨lb, 0, none⟩), .pointer (some ⟨pb, 0, none⟩)] 48)) w0.heap.size [.pointer (some ⟨fb, 0, none⟩), .pointer (some ⟨plb, 0, none⟩), .pointer (some ⟨tb, 0, none⟩), .pointer (some ⟨lb, 0, none⟩), .pointer (some ⟨pb, 0, none⟩)] 48 := Blk.new w0 _ _
    generalize (w0.alloc (.cells #[.pointer (some ⟨fb, 0, none⟩), .pointer (some ⟨plb, 0, none⟩), .pointer (some ⟨tb, 0, none⟩), .pointer (some ⟨lb, 0, none⟩), .pointer (some ⟨pb, 0, none⟩)] 48)) = w1 at gA zb ⊢
    obtain ⟨z, hz⟩ : ∃ z, w0.heap.size = z := ⟨_, rfl⟩
    simp only [hz] at zb ⊢
    have z4 := zb.cell (i := 4) rfl
    have f4 := zb.frozen 4
    have zl := zb.lt
    have g1 := grownBy_tr g0 gA
    have hzw : w.heap.size ≤ z := by have := g0.size; omega
    replace g1 := Lib.hid g1
    replace zb := Lib.hid zb
    replace hz := Lib.hid hz
    clear gA g0
    go_upto_region 8 with fail
    have zb2 := zb.out.set 4 (.pointer none)
    have g2 := grown_setNew g1.out hzw 4 (.pointer none)
    generalize w1.setCell ⟨z, 4, none⟩ (.pointer none) = w2 at zb2 g2 ⊢
    replace zb2 : Blk w2 z [.pointer (some ⟨fb, 0, none⟩), .pointer (some ⟨plb, 0, none⟩), .pointer (some ⟨tb, 0, none⟩), .pointer (some ⟨lb, 0, none⟩), .pointer none] 48 := zb2
    clear z4 f4 zl zb g1 hz hzw
    replace zb2 := Lib.hid zb2
    replace g2 := Lib.hid g2
    go_wp2
    go_loopw [6] (fun nv wr => ∃ n : Nat, n ≤ KL ∧ nv = .int .i64 (n : Int) ∧ w2.grownBy wr none) (fun nv _ => KL - (intOf nv).toNat)
    case atStart => exact ⟨0, Nat.zero_le _, rfl, grownBy_re w2⟩
    case round =>
      obtain ⟨n, hn, rfl, hgr⟩ := hrel
      have hb0 : Blk wr z [.pointer (some ⟨fb, 0, none⟩), .pointer (some ⟨plb, 0, none⟩), .pointer (some ⟨tb, 0, none⟩), .pointer (some ⟨lb, 0, none⟩), .pointer none] 48 := (hgr.block z zb2.out.lt (by simp)).trans zb2.out
      by_cases hlt : n < KL
      · have hlt' : n < l.length := by rw [hKL.out]; exact hlt
        obtain ⟨b, off, rfl, hb, c0, c1, c2, c3, c4, c5, c6⟩ := ops_keep hops.out (wr := wr) (fun g hg => (hgr.block g (Nat.lt_of_lt_of_le hg g2.out.size) (by simp)).trans (g2.out.block g hg (by simp))) n hlt'
        have hdo : askP l[n].1 ≠ 11 → ∀ W, _ := fun h W => does_nil fb plb tb lb l[n] (hin.out n hlt') h W
        have hask := fun W => ask_any l[n] (hin.out n hlt') W
        have hbr : b < wr.heap.size := Nat.lt_of_lt_of_le hb (Nat.le_trans g2.out.size hgr.size)
        unfold opV at hdo hask
        obtain ⟨R, hRe⟩ : ∃ R, askP l[n].1 = R := ⟨_, rfl⟩
        rw [hRe] at hdo hask
        have h11 : Hid True := Lib.hid trivial
        clear hRe
        generalize l[n].1 = q0 at hdo hask c0
        generalize l[n].2.1 = q1 at hdo hask c1
        generalize l[n].2.2.1 = q2 at hdo hask c2
        generalize l[n].2.2.2.1 = q3 at hdo hask c3
        generalize l[n].2.2.2.2.1 = q4 at hdo hask c4
        generalize l[n].2.2.2.2.2.1 = q5 at hdo hask c5
        generalize l[n].2.2.2.2.2.2 = q6 at hdo hask c6
        have z0 := hb0.cell (i := 0) rfl
        have z1 := hb0.cell (i := 1) rfl
        have z2 := hb0.cell (i := 2) rfl
        have z3 := hb0.cell (i := 3) rfl
        have z4 := hb0.cell (i := 4) rfl
        have hzl := hb0.lt
        have hkp : ∀ w', wr.grownBy w' none → w'.cell? ⟨z, 0, none⟩ = some (.pointer (some ⟨fb, 0, none⟩)) ∧ w'.cell? ⟨z, 1, none⟩ = some (.pointer (some ⟨plb, 0, none⟩)) ∧ w'.cell? ⟨z, 2, none⟩ = some (.pointer (some ⟨tb, 0, none⟩)) ∧ w'.cell? ⟨z, 3, none⟩ = some (.pointer (some ⟨lb, 0, none⟩)) ∧ w'.cell? ⟨z, 4, none⟩ = some (.pointer none) ∧ w'.cell? ⟨b, off + n * 7, none⟩ = some (.int .i64 q0) ∧ w'.cell? ⟨b, off + n * 7 + 1, none⟩ = some (.int .i64 q1) ∧ w'.cell? ⟨b, off + n * 7 + 2, none⟩ = some (.int .i64 q2) ∧ w'.cell? ⟨b, off + n * 7 + 3, none⟩ = some (.int .i64 q3) ∧ w'.cell? ⟨b, off + n * 7 + 4, none⟩ = some (.int .i64 q4) ∧ w'.cell? ⟨b, off + n * 7 + 5, none⟩ = some (.string q5) ∧ w'.cell? ⟨b, off + n * 7 + 6, none⟩ = some (.string q6) := fun w' hg => ⟨(World.cell?_of_block (a := ⟨z, 0, none⟩) (hg.block z hzl (by simp))).trans z0, (World.cell?_of_block (a := ⟨z, 1, none⟩) (hg.block z hzl (by simp))).trans z1, (World.cell?_of_block (a := ⟨z, 2, none⟩) (hg.block z hzl (by simp))).trans z2, (World.cell?_of_block (a := ⟨z, 3, none⟩) (hg.block z hzl (by simp))).trans z3, (World.cell?_of_block (a := ⟨z, 4, none⟩) (hg.block z hzl (by simp))).trans z4, (World.cell?_of_block (a := ⟨b, off + n * 7, none⟩) (hg.block b hbr (by simp))).trans c0, (World.cell?_of_block (a := ⟨b, off + n * 7 + 1, none⟩) (hg.block b hbr (by simp))).trans c1, (World.cell?_of_block (a := ⟨b, off + n * 7 + 2, none⟩) (hg.block b hbr (by simp))).trans c2, (World.cell?_of_block (a := ⟨b, off + n * 7 + 3, none⟩) (hg.block b hbr (by simp))).trans c3, (World.cell?_of_block (a := ⟨b, off + n * 7 + 4, none⟩) (hg.block b hbr (by simp))).trans c4, (World.cell?_of_block (a := ⟨b, off + n * 7 + 5, none⟩) (hg.block b hbr (by simp))).trans c5, (World.cell?_of_block (a := ⟨b, off + n * 7 + 6, none⟩) (hg.block b hbr (by simp))).trans c6⟩
        have hask1 := hask wr
        replace hkp := Lib.hid hkp
        replace hdo := Lib.hid hdo
        replace hgr := Lib.hid hgr
        replace hb0 := Lib.hid hb0
        have hi0 : (0 : Int) ≤ (n : Int) := by omega
        have hi1 : (n : Int) < (KL : Int) := by omega
        go_wp2_with fail
        refine hask1.mono ?_
        rintro e w3 ⟨rfl, g3⟩
        obtain ⟨d0, d1, d2, d3, d4, e0, e1, e2, e3, e4, e5, e6⟩ := hkp.out w3 g3
        have hzl3 : z < w3.heap.size := Nat.lt_of_lt_of_le hzl g3.size
        have hbr3 : b < w3.heap.size := Nat.lt_of_lt_of_le hbr g3.size
        clear hask1 hask z0 z1 z2 z3 z4 c0 c1 c2 c3 c4 c5 c6 hzl hbr
        by_cases hR : R = 11
        · subst hR
          have hgr3 := grownBy_tr hgr.out g3
          replace hgr3 := Lib.hid hgr3
          replace g3 := Lib.hid g3
          go_wp2
          go_roundw
          case rel => exact ⟨n + 1, by omega, by go_num, hgr3.out⟩
          case measure => simp [intOf]; omega
        · have hRb : (R == 11) = false := by rw [beq_eq_false_iff_ne]; exact hR
          have hdo' := fun W => hdo.out hR W
          unfold ptrV at hdo'
          replace hdo' := Lib.hid hdo'
          replace g3 := Lib.hid g3
          clear hR hdo
          go_upto_region 12 with fail
          go_region_held3 (fun w' => w'.cell? ⟨z, 0, none⟩ = some (.pointer (some ⟨fb, 0, none⟩)) ∧ w'.cell? ⟨z, 1, none⟩ = some (.pointer (some ⟨plb, 0, none⟩)) ∧ w'.cell? ⟨z, 2, none⟩ = some (.pointer (some ⟨tb, 0, none⟩)) ∧ w'.cell? ⟨z, 3, none⟩ = some (.pointer (some ⟨lb, 0, none⟩)) ∧ w'.cell? ⟨z, 4, none⟩ = some (.pointer none) ∧ w'.cell? ⟨b, off + n * 7, none⟩ = some (.int .i64 q0) ∧ w'.cell? ⟨b, off + n * 7 + 1, none⟩ = some (.int .i64 q1) ∧ w'.cell? ⟨b, off + n * 7 + 2, none⟩ = some (.int .i64 q2) ∧ w'.cell? ⟨b, off + n * 7 + 3, none⟩ = some (.int .i64 q3) ∧ w'.cell? ⟨b, off + n * 7 + 4, none⟩ = some (.int .i64 q4) ∧ w'.cell? ⟨b, off + n * 7 + 5, none⟩ = some (.string q5) ∧ w'.cell? ⟨b, off + n * 7 + 6, none⟩ = some (.string q6))
            (first | go_keep | exact hk)
            ((go_at_call 18; refine (hdo'.out _).mono ?_; rintro e w5 ⟨rfl, gB⟩; have gC : wr.grownBy w5 none := grownBy_tr g3.out ⟨gB.os, gB.tape, gB.output, gB.size, gB.block⟩; have hk := hkp.out w5 gC))
          have hgr5 := grownBy_tr hgr.out gC
          replace hgr5 := Lib.hid hgr5
          clear hk gB gC
          have t1 : (⟨#[]⟩ : ByteArray).toList.isEmpty = true := by decide +kernel
          go_wp2
          go_roundw
          case rel => exact ⟨n + 1, by omega, by go_num, hgr5.out⟩
          case measure => simp [intOf]; omega
      · obtain rfl : n = KL := by omega
        have hi1 : ¬ (n : Int) < (n : Int) := by omega
        have hno := procNew_nil fb tb wr
        have hha := PHandle_any (w := wr) (.pointer none) 1 0 2 (pfind_nil 1 wr)
        have hfd := PFds_nil 0 ⟨#[]⟩ wr
        have hdi := PDir_nil wr
        have hma := PMask_nil wr
        have hawx := haw.out wr
        have z0 := hb0.cell (i := 0) rfl
        have z2 := hb0.cell (i := 2) rfl
        have hzl := hb0.lt
        unfold ptrV at hno
        have g5 := grownBy_tr g2.out hgr
        replace g5 := Lib.hid g5
        replace hha := Lib.hid hha
        replace hfd := Lib.hid hfd
        replace hdi := Lib.hid hdi
        replace hma := Lib.hid hma
        replace hawx := Lib.hid hawx
        clear hops hin hc hb0 hgr
        go_wp2_with fail
        refine hno.mono ?_
        rintro e w' ⟨rfl, hw⟩
        obtain rfl := hw.symm
        clear hno hw
        go_wp2_with fail
        refine hha.out.mono ?_
        rintro e w' ⟨rfl, hw⟩
        obtain rfl := hw.symm
        clear hha hw
        go_wp2_with fail
        refine hfd.out.mono ?_
        rintro e w' ⟨rfl, hw⟩
        obtain rfl := hw.symm
        clear hfd hw
        go_wp2_with fail
        refine hdi.out.mono ?_
        rintro e w' ⟨rfl, hw⟩
        obtain rfl := hw.symm
        clear hdi hw
        go_wp2_with fail
        refine hma.out.mono ?_
        rintro e w' ⟨rfl, hw⟩
        obtain rfl := hw.symm
        clear hma hw
        go_wp2_with fail
        refine hawx.out.mono ?_
        rintro e w6 ⟨rfl, g6⟩
        have g7 := grownBy_tr g5.out g6
        replace g7 := Lib.hid g7
        clear hawx g6 g5
        go_wp2
        go_ret
        exact ⟨rfl, g7.out⟩
  · have hf' : fewB l = false := by cases h : fewB l; rfl; exact absurd h hf
    rw [hf'] at hfew
    have hawx := haw w
    clear h hf hf' haw
    go_enter Tryz.func7, Tryz.ntmps7
    go_wp2_with fail
    refine hfew.mono ?_
    rintro e w' ⟨rfl, hw⟩
    obtain rfl := hw.symm
    clear hfew hw
    go_wp2_with fail
    refine hawx.mono ?_
    rintro e w' ⟨rfl, hg⟩
    replace hg := Lib.hid hg
    clear hawx
    go_wp2
    go_ret
    exact ⟨rfl, hg.out⟩
end Go.Proofs.YtglcfbefpnphaaaGreatDoor
/-
  ProcNil: whatever calls come in, the law answers true and leaves them as they were. Conditions: the two listed tables lie as the program's text lays them (tied by the card).
-/
namespace Go.Proofs.YtglcfbefpnphaaaGreatDoor.lawNil
open Go Go.ChangeShapes Go.WideShapes Go.ChangeAt Go.RowKit
open Go.ChangeMaps (open_string shut_string)

set_option maxRecDepth 100000 in
theorem contract (H : Type) (enc : TypeId × Value → H) (W : World) (base : Nat) (args : Array Value) (ds gs : List (DataW H)) (before : List MemPlace)
    (hval : ∀ (j : Nat) t v, Tryz.f7.params[j]? = some t → args[j]? = some v → Value.okWide Tryz.prog W .any base t v)
    (hW : DataW.Whole enc Tryz.prog Tryz.f7.params.toList Rows.procNilSpec.vars false W args.toList ds gs before) :
    Calls Tryz.prog 7 args W fun e W' => ∃ v, e = .returned v ∧ Rows.procNilSpec.post enc Tryz.prog Tryz.f7 false true false false W args v W' := by
  have hW' := hW
  obtain ⟨p, q, hA0, hV, rfl, hfz, hnd⟩ := hW
  have hA : DataW.TrodAll enc Tryz.prog W 0 (fun _ => true) true Tryz.f7.params.toList args.toList ds p := hA0
  rw [Tryz.params7] at hA hval
  obtain ⟨v0, vs0, d0, ds0, p0, q0, hargs, rfl, rfl, h0, r0⟩ := trodAll_cons hA
  obtain ⟨rfl, rfl, rfl⟩ := trodAll_nil r0
  obtain rfl : args = #[v0] := by cases args; simp_all
  obtain ⟨rfl, rfl⟩ := trodVars_none hV
  clear hA0
  simp only [List.append_nil] at hW'
  have hlt : ∀ x ∈ p0, x.block < W.heap.size := fun x hx => by simpa using hW'.lt x (by simpa using hx)
  obtain ⟨l0, hl0⟩ := open_ops (hval 0 _ v0 rfl rfl) h0 (fun x hx => hlt x (by simp [hx]))
  have t0 := fun (W' : World) (hb : Below W.heap.size W W') => Below.trod rowOut (by kernel_rfl) (of_decide_eq_true (by kernel_rfl)) h0 hb (fun x hx => hlt x (by simp [hx]))
  have e1 : (Rows.procNilSpec.fn H ([d0] ++ [])).results = [.lit (.bool true)] := rfl
  have e2 : (Rows.procNilSpec.fn H ([d0] ++ [])).args = [d0] := rfl
  refine (lawNil_any l0 v0 W hl0).mono fun e W' ⟨he, hg⟩ => ?_
  have hb : Below W.heap.size W W' := ⟨hg.os, hg.tape, hg.output, hg.size, fun k hk => hg.block k hk (by simp)⟩
  subst he
  refine ⟨_, rfl, _, _, _, [], p0 ++ [], [], hW', ?_, ?_, rfl, hb.frame _, fun h => by cases h⟩
  · rw [e1]; exact trodAll_cons_mk (shut_bool Tryz.underlying4 _) trodAll_mk0
  · rw [e2]; exact trodAll_cons_mk (t0 _ hb) trodAll_mk0

theorem reads (os : Os) {H : Type} (enc : TypeId × Value → H) : ∃ places, DataW.whole enc Tryz.prog ((laidWorld os).forCall (fun _ _ => 0) ⟨#[], #[.slice none 0 0], []⟩).memory Tryz.f7.params.toList Rows.procNilSpec.vars false #[Value.slice none 0 0].toList 8 = some ([.nil], [], places) :=
  ⟨[], by kernel_rfl⟩

set_option maxRecDepth 100000 in
theorem lifted (os : Os) (started : os.Started) (H : Type) (enc : TypeId × Value → H) (F : Stop.Interp) :
    ReturnsInHanded {} Tryz.checked os 7 .any ((OpenSpec.ofChange Rows.procNilSpec).preRow enc Tryz.prog Tryz.f7 Rows.procNilRow.domain false Rows.procNilRow.laid) (((OpenSpec.ofChange Rows.procNilSpec).at F).post enc Tryz.prog Tryz.f7 false true false false) := by
  obtain ⟨places, hx⟩ := reads os enc
  refine returnsInHanded_of_row (C := Tryz.checked) (s := OpenSpec.ofChange Rows.procNilSpec) rowOwn started (by kernel_rfl) Tryz.func7
    (witness_row_at (enc := enc) (C := Tryz.checked) false (laidWorld os) #[.slice none 0 0] rfl (by kernel_rfl) (by kernel_rfl) (by kernel_rfl)
      (OpenSpec.preRow_of_cond 8 hx (by kernel_rfl) (fun k hk => by cases hk) (by kernel_rfl) (laid_met os _))) ?_
  intro W base args ds gs before hval hW _ _ _ _ _ _
  exact contract H enc W base args ds gs before hval hW

theorem said : Rows.ProcNilSaid :=
  OpenClaim.holds_of_cond 7 Tryz.f7 rfl rfl rfl rfl rfl rfl rfl ⟨rfl, rfl, rfl, rfl, rfl⟩ rfl rfl rfl rfl rfl (by kernel_rfl) Tryz.func7 (by kernel_rfl)
    (of_decide_eq_true (by kernel_rfl)) (by unfold Func.isWrapper; first | (rw [if_pos (by decide +kernel)]; kernel_rfl) | (rw [if_neg (by decide +kernel)]; exact ⟨rfl, rfl⟩))
    (fun os started H enc _ F => by rw [OpenClaim.pre_eq_preRow]; exact lifted os started H enc F)

theorem plain (f : FuncId) (fn : Func) (hf : Tryz.pinned.checked.prog.funcNamed "whelk/whelklaw09.ProcNil" = some f) (hfn : Tryz.pinned.checked.prog.funcs[f]? = some fn) :
    true = Tryz.pinned.checked.prog.looks [] ∧ ∀ (j : Nat) t, fn.params[j]? = some t → Tryz.pinned.checked.prog.wantsStandIn t = false := by
  obtain rfl : f = 7 := Option.some.inj ((show Tryz.prog.funcNamed "whelk/whelklaw09.ProcNil" = some 7 by kernel_rfl).symm.trans hf) |>.symm
  obtain rfl : fn = Tryz.f7 := (Option.some.inj (Tryz.func7.symm.trans hfn)).symm
  refine ⟨by kernel_rfl, fun j t ht => ?_⟩
  rw [Tryz.params7] at ht
  have hm : t ∈ [43] := by simpa using Array.mem_of_getElem? ht
  have hall : ([43].all fun u => !Tryz.prog.wantsStandIn u) = true := by kernel_rfl
  exact (show Tryz.prog.wantsStandIn t = false by simpa using List.all_eq_true.1 hall t hm)

theorem card : Rows.ProcNilCardSaid :=
  Claim7.holds_tied_plain_at .later [] _ _ _ _ said (fun _ h => by cases h) (by kernel_rfl) (fun _ h => by cases h) procNil_row_tie rfl ⟨rfl, rfl⟩ (by kernel_rfl) rfl plain (by kernel_rfl)
end Go.Proofs.YtglcfbefpnphaaaGreatDoor.lawNil
