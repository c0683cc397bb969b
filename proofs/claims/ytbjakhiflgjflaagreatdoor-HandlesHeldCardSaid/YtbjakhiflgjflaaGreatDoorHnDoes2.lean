/-
  Few: are calls not too many, or too great.
  A call that is asked of no table. Conditions: numbers of 64 bits.
  Each call of the law, whatever is asked: it answers, and what stays so stays. Conditions: up to a thousand calls, of up to a hundred bytes.
-/
import Derived.Test.YtbjakhiflgjflaaGreatDoorHnRow
import Derived.Test.YtbjakhiflgjflaaGreatDoorHnNil
import Derived.Test.YtbjakhiflgjflaaGreatDoorNdPath
import Derived.Test.YtbjakhiflgjflaaGreatDoorHnOps
namespace Go.Proofs.YtbjakhiflgjflaaGreatDoor
open Go Go.RowKit

def fewB (l : List Opd) : Bool := decide (l.length ≤ 40) && l.all fun o => decide (o.2.2.2.2.2.2.2.size ≤ 100)
set_option maxHeartbeats 1000000 in
set_option maxRecDepth 100000 in
theorem few_any (l : List Opd) (v : Value) (w : World) (h : Ops w v l) : Calls Tryz.prog 9 #[v] w fun e w' => e = .returned (.bool (fewB l)) ∧ w' = w := by
  obtain ⟨A, c, rfl, hc, hcm⟩ := h.form
  unfold maxLen at hcm
  obtain ⟨r, hr⟩ : ∃ r, fewB l = r := ⟨_, rfl⟩
  rw [hr]
  replace hr := Lib.hid hr
  have hops := fun k hk => h.at_ k hk
  replace hops := Lib.hid hops
  obtain ⟨KL, hKL⟩ : ∃ KL, l.length = KL := ⟨_, rfl⟩
  rw [hKL] at hc ⊢
  replace hKL := Lib.hid hKL
  clear h
  by_cases hlen : 40 < KL
  · have hi : (40 : Int) < (KL : Int) := by omega
    have hrf : r = false := by
      rw [← hr.out]
      unfold fewB
      rw [hKL.out]
      simp; omega
    subst hrf
    go_enter Tryz.func9, Tryz.ntmps9
    go_wp2
    go_ret
    exact ⟨rfl, rfl⟩
  · have hi : ¬ (40 : Int) < (KL : Int) := by omega
    go_enter Tryz.func9, Tryz.ntmps9
    go_wp2
    go_loopw [3] (fun nv wr => ∃ n : Nat, n ≤ KL ∧ nv = .int .i64 (n : Int) ∧ wr = w ∧ Hid (∀ k (hk : k < l.length), k < n → l[k].2.2.2.2.2.2.2.size ≤ 100)) (fun nv _ => KL - (intOf nv).toNat)
    case atStart => exact ⟨0, Nat.zero_le _, rfl, rfl, Lib.hid fun _ _ h => absurd h (Nat.not_lt_zero _)⟩
    case round =>
      obtain ⟨n, hn, rfl, rfl, hall⟩ := hrel
      by_cases hlt : n < KL
      · have hlt' : n < l.length := by rw [hKL.out]; exact hlt
        obtain ⟨b, off, rfl, hb, _, _, _, _, _, _, _, c3⟩ := hops.out n hlt'
        obtain ⟨s, hs⟩ : ∃ s, l[n].2.2.2.2.2.2.2 = s := ⟨_, rfl⟩
        rw [hs] at c3
        replace hs := Lib.hid hs
        by_cases h3 : 100 < s.size
        · have hrf : r = false := by
            rw [← hr.out]
            unfold fewB
            rw [Bool.and_eq_false_iff]
            right
            rw [List.all_eq_false]
            exact ⟨l[n], List.getElem_mem _, by rw [hs.out]; simp; omega⟩
          subst hrf
          have h3i : (100 : Int) < (s.size : Int) := by omega
          go_wp2
          go_ret
          exact ⟨rfl, rfl⟩
        · have h3i : ¬ (100 : Int) < (s.size : Int) := by omega
          have hall2 : Hid (∀ k (hk : k < l.length), k < n + 1 → l[k].2.2.2.2.2.2.2.size ≤ 100) := fun k hk h => by
            rcases Nat.lt_or_ge k n with h' | h'
            · exact hall.out k hk h'
            · obtain rfl : k = n := by omega
              rw [hs.out]; omega
          clear hall
          go_wp2
          go_roundw
          case rel => exact ⟨n + 1, by omega, by go_num, trivial, hall2⟩
          case measure => simp [intOf]; omega
      · obtain rfl : n = KL := by omega
        have hrt : r = true := by
          rw [← hr.out]
          unfold fewB
          rw [Bool.and_eq_true, List.all_eq_true]
          refine ⟨by rw [hKL.out]; simp; omega, fun o ho => ?_⟩
          obtain ⟨k, hk, rfl⟩ := List.getElem_of_mem ho
          have := hall.out k hk (by have := hKL.out; omega)
          simpa using this
        subst hrt
        go_wp2
        go_ret
        exact ⟨rfl, rfl⟩
theorem few_true {l : List Opd} (h : fewB l = true) : l.length ≤ 40 ∧ ∀ k (hk : k < l.length), l[k].2.2.2.2.2.2.2.size ≤ 100 := by
  unfold fewB at h
  rw [Bool.and_eq_true, List.all_eq_true] at h
  exact ⟨by simpa using h.1, fun k hk => by simpa using h.2 _ (List.getElem_mem hk)⟩

end Go.Proofs.YtbjakhiflgjflaaGreatDoor

namespace Go.Proofs.YtbjakhiflgjflaaGreatDoor
open Go Go.RowKit

set_option maxHeartbeats 2000000 in
set_option maxRecDepth 100000 in
theorem does_nil (q : Opd) (hq : In4 q) (w : World) :
    Calls Tryz.prog 13 #[.agg #[.pointer none, .pointer none, .pointer none], .agg #[.int .i64 q.1, .int .i64 q.2.1, .int .i64 q.2.2.1, .int .i64 q.2.2.2.1, .bool q.2.2.2.2.1, .bool q.2.2.2.2.2.1, .bool q.2.2.2.2.2.2.1, .string q.2.2.2.2.2.2.2]] w fun e w' => e = .returned (.tuple #[.int .i64 0, .string ⟨#[]⟩, .int .i64 2]) ∧ w.grownBy w' none := by
  obtain ⟨ask, id, node, n, r, wr, m, s⟩ := q
  obtain ⟨⟨ha, hb⟩, _⟩ := hq
  dsimp only at ha hb ⊢
  go_enter Tryz.func13, Tryz.ntmps13
  go_upto_region 2 with fail
  obtain ⟨R, hR⟩ : ∃ R, (wrap64 (ask.tmod 8 + 8)).tmod 8 = R := ⟨_, rfl⟩
  have hR8 : R = 0 ∨ R = 1 ∨ R = 2 ∨ R = 3 ∨ R = 4 ∨ R = 5 ∨ R = 6 ∨ R = 7 := by
    have h1 := Int.tmod_lt_of_pos ask (show (0 : Int) < 8 by decide)
    have h2 := Int.lt_tmod_of_pos ask (show (0 : Int) < 8 by decide)
    have h3 : wrap64 (ask.tmod 8 + 8) = ask.tmod 8 + 8 := by unfold wrap64; omega
    rw [h3, Int.tmod_eq_emod_of_nonneg (by omega)] at hR
    omega
  rw [hR]
  clear hR
  have gA : w.grownBy ((w.alloc (.cells #[.pointer none, .pointer none, .pointer none] 29)).alloc (.cells #[.int .i64 ask, .int .i64 id, .int .i64 node, .int .i64 n, .bool r, .bool wr, .bool m, .string s] 40)) none := grownBy_tr (World.grownBy_alloc w _ _) (World.grownBy_alloc _ _ _)
  have ab : Blk ((w.alloc (.cells #[.pointer none, .pointer none, .pointer none] 29)).alloc (.cells #[.int .i64 ask, .int .i64 id, .int .i64 node, .int .i64 n, .bool r, .bool wr, .bool m, .string s] 40)) w.heap.size [.pointer none, .pointer none, .pointer none] 29 := (Blk.new w _ _).alloc _
  have bb : Blk ((w.alloc (.cells #[.pointer none, .pointer none, .pointer none] 29)).alloc (.cells #[.int .i64 ask, .int .i64 id, .int .i64 node, .int .i64 n, .bool r, .bool wr, .bool m, .string s] 40)) (w.alloc (.cells #[.pointer none, .pointer none, .pointer none] 29)).heap.size [.int .i64 ask, .int .i64 id, .int .i64 node, .int .i64 n, .bool r, .bool wr, .bool m, .string s] 40 := Blk.new _ _ _
  rw [show (w.alloc (.cells #[.pointer none, .pointer none, .pointer none] 29)).heap.size = w.heap.size + 1 by simp] at bb
  generalize ((w.alloc (.cells #[.pointer none, .pointer none, .pointer none] 29)).alloc (.cells #[.int .i64 ask, .int .i64 id, .int .i64 node, .int .i64 n, .bool r, .bool wr, .bool m, .string s] 40)) = w1 at gA ab bb ⊢
  generalize w.heap.size = z at ab bb ⊢
  have a2 := ab.cell (i := 2) rfl
  have b1 := bb.cell (i := 1) rfl
  have b2 := bb.cell (i := 2) rfl
  have b3 := bb.cell (i := 3) rfl
  have b4 := bb.cell (i := 4) rfl
  have b5 := bb.cell (i := 5) rfl
  have b6 := bb.cell (i := 6) rfl
  have b7 := bb.cell (i := 7) rfl
  have al := ab.lt
  have bl := bb.lt
  clear ab bb
  replace gA := Lib.hid gA
  have hfile := file_nil node r wr m w1
  have htext := text_nil s w1
  have hsink := sink_nil n w1
  have hpipe := pipe_nil w1
  have href := ref_nil id w1
  have hunref := unref_nil id w1
  have hread := read_nil id n w1
  have hwrite := write_nil id s w1
  rcases hR8 with rfl | rfl | rfl | rfl | rfl | rfl | rfl | rfl
  · go_wp2_with fail
    refine hfile.mono ?_
    rintro e w' ⟨rfl, gB⟩
    have gC := grownBy_tr gA.out gB
    replace gC := Lib.hid gC
    clear gB hfile
    go_wp2
    exact bodyPost_ret (v := .tuple #[.int .i64 0, .string ⟨#[]⟩, .int .i64 2]) (by simp [results, Tryz.results13, go_sem]) rfl ⟨rfl, gC.out⟩
  · go_wp2_with fail
    refine htext.mono ?_
    rintro e w' ⟨rfl, hw⟩
    obtain rfl := hw.symm
    go_wp2
    exact bodyPost_ret (v := .tuple #[.int .i64 0, .string ⟨#[]⟩, .int .i64 2]) (by simp [results, Tryz.results13, go_sem]) rfl ⟨rfl, gA.out⟩
  · go_wp2_with fail
    refine hsink.mono ?_
    rintro e w' ⟨rfl, hw⟩
    obtain rfl := hw.symm
    go_wp2
    exact bodyPost_ret (v := .tuple #[.int .i64 0, .string ⟨#[]⟩, .int .i64 2]) (by simp [results, Tryz.results13, go_sem]) rfl ⟨rfl, gA.out⟩
  · go_wp2_with fail
    refine hpipe.mono ?_
    rintro e w' ⟨rfl, hw⟩
    obtain rfl := hw.symm
    go_wp2
    exact bodyPost_ret (v := .tuple #[.int .i64 0, .string ⟨#[]⟩, .int .i64 2]) (by simp [results, Tryz.results13, go_sem]) rfl ⟨rfl, gA.out⟩
  · go_wp2_with fail
    refine href.mono ?_
    rintro e w' ⟨rfl, hw⟩
    obtain rfl := hw.symm
    go_wp2
    exact bodyPost_ret (v := .tuple #[.int .i64 0, .string ⟨#[]⟩, .int .i64 2]) (by simp [results, Tryz.results13, go_sem]) rfl ⟨rfl, gA.out⟩
  · go_wp2_with fail
    refine hunref.mono ?_
    rintro e w' ⟨rfl, hw⟩
    obtain rfl := hw.symm
    go_wp2
    exact bodyPost_ret (v := .tuple #[.int .i64 0, .string ⟨#[]⟩, .int .i64 2]) (by simp [results, Tryz.results13, go_sem]) rfl ⟨rfl, gA.out⟩
  · go_wp2_with fail
    refine hread.mono ?_
    rintro e w' ⟨rfl, hw⟩
    obtain rfl := hw.symm
    go_wp2
    exact bodyPost_ret (v := .tuple #[.int .i64 0, .string ⟨#[]⟩, .int .i64 2]) (by simp [results, Tryz.results13, go_sem]) rfl ⟨rfl, gA.out⟩
  · go_wp2_with fail
    refine hwrite.mono ?_
    rintro e w' ⟨rfl, hw⟩
    obtain rfl := hw.symm
    go_wp2
    exact bodyPost_ret (v := .tuple #[.int .i64 0, .string ⟨#[]⟩, .int .i64 2]) (by simp [results, Tryz.results13, go_sem]) rfl ⟨rfl, gA.out⟩
end Go.Proofs.YtbjakhiflgjflaaGreatDoor

namespace Go.Proofs.YtbjakhiflgjflaaGreatDoor
open Go Go.RowKit Go.ChangeMaps
section
variable {w : World} {F : Nat → Prop} {c : Sy} {s : St} {ext : Ext} {B : Nat}
set_option maxHeartbeats 4000000 in
set_option maxRecDepth 100000 in
theorem does_any (h : Sys w F c s) (g : Good ext s) (b : Bnd s B) (hB : B ≤ 1000) (hext : ∀ n, ext n ≤ 100000) (q : Opd) (hq : In4 q) (hqs : q.2.2.2.2.2.2.2.size ≤ 100) :
    Calls Tryz.prog 13 #[.agg #[ptrV c.fb, ptrV c.plb, ptrV c.tb], .agg #[.int .i64 q.1, .int .i64 q.2.1, .int .i64 q.2.2.1, .int .i64 q.2.2.2.1, .bool q.2.2.2.2.1, .bool q.2.2.2.2.2.1, .bool q.2.2.2.2.2.2.1, .string q.2.2.2.2.2.2.2]] w fun e w' => (∃ i S er, e = .returned (.tuple #[.int .i64 i, .string S, .int .i64 er])) ∧ Nx ext c (B + 1) F w w' := by
  obtain ⟨ask, id, node, n, r, wr, m, t⟩ := q
  obtain ⟨⟨ha, hb⟩, _, _, hn1, hn2⟩ := hq
  dsimp only at ha hb hn1 hn2 hqs ⊢
  unfold ptrV
  go_enter Tryz.func13, Tryz.ntmps13
  go_upto_region 2 with fail
  obtain ⟨R, hR⟩ : ∃ R, (wrap64 (ask.tmod 8 + 8)).tmod 8 = R := ⟨_, rfl⟩
  have hR8 : R = 0 ∨ R = 1 ∨ R = 2 ∨ R = 3 ∨ R = 4 ∨ R = 5 ∨ R = 6 ∨ R = 7 := by
    have h1 := Int.tmod_lt_of_pos ask (show (0 : Int) < 8 by decide)
    have h2 := Int.lt_tmod_of_pos ask (show (0 : Int) < 8 by decide)
    have h3 : wrap64 (ask.tmod 8 + 8) = ask.tmod 8 + 8 := by unfold wrap64; omega
    rw [h3, Int.tmod_eq_emod_of_nonneg (by omega)] at hR
    omega
  rw [hR]
  clear hR
  have gA : w.grownBy ((w.alloc (.cells #[.pointer (some ⟨c.fb, 0, none⟩), .pointer (some ⟨c.plb, 0, none⟩), .pointer (some ⟨c.tb, 0, none⟩)] 29)).alloc (.cells #[.int .i64 ask, .int .i64 id, .int .i64 node, .int .i64 n, .bool r, .bool wr, .bool m, .string t] 40)) none := grownBy_tr (World.grownBy_alloc w _ _) (World.grownBy_alloc _ _ _)
  have ab : Blk ((w.alloc (.cells #[.pointer (some ⟨c.fb, 0, none⟩), .pointer (some ⟨c.plb, 0, none⟩), .pointer (some ⟨c.tb, 0, none⟩)] 29)).alloc (.cells #[.int .i64 ask, .int .i64 id, .int .i64 node, .int .i64 n, .bool r, .bool wr, .bool m, .string t] 40)) w.heap.size [.pointer (some ⟨c.fb, 0, none⟩), .pointer (some ⟨c.plb, 0, none⟩), .pointer (some ⟨c.tb, 0, none⟩)] 29 := (Blk.new w _ _).alloc _
  have bb : Blk ((w.alloc (.cells #[.pointer (some ⟨c.fb, 0, none⟩), .pointer (some ⟨c.plb, 0, none⟩), .pointer (some ⟨c.tb, 0, none⟩)] 29)).alloc (.cells #[.int .i64 ask, .int .i64 id, .int .i64 node, .int .i64 n, .bool r, .bool wr, .bool m, .string t] 40)) (w.alloc (.cells #[.pointer (some ⟨c.fb, 0, none⟩), .pointer (some ⟨c.plb, 0, none⟩), .pointer (some ⟨c.tb, 0, none⟩)] 29)).heap.size [.int .i64 ask, .int .i64 id, .int .i64 node, .int .i64 n, .bool r, .bool wr, .bool m, .string t] 40 := Blk.new _ _ _
  rw [show (w.alloc (.cells #[.pointer (some ⟨c.fb, 0, none⟩), .pointer (some ⟨c.plb, 0, none⟩), .pointer (some ⟨c.tb, 0, none⟩)] 29)).heap.size = w.heap.size + 1 by simp] at bb
  generalize ((w.alloc (.cells #[.pointer (some ⟨c.fb, 0, none⟩), .pointer (some ⟨c.plb, 0, none⟩), .pointer (some ⟨c.tb, 0, none⟩)] 29)).alloc (.cells #[.int .i64 ask, .int .i64 id, .int .i64 node, .int .i64 n, .bool r, .bool wr, .bool m, .string t] 40)) = w1 at gA ab bb ⊢
  generalize w.heap.size = z at ab bb ⊢
  have a2 := ab.cell (i := 2) rfl
  have b1 := bb.cell (i := 1) rfl
  have b2 := bb.cell (i := 2) rfl
  have b3 := bb.cell (i := 3) rfl
  have b4 := bb.cell (i := 4) rfl
  have b5 := bb.cell (i := 5) rfl
  have b6 := bb.cell (i := 6) rfl
  have b7 := bb.cell (i := 7) rfl
  have al := ab.lt
  have bl := bb.lt
  clear ab bb
  have h1 := h.grown gA
  have hpre : ∀ w', Nx ext c (B + 1) F w1 w' → Nx ext c (B + 1) F w w' := fun w' hw => by
    obtain ⟨F', s', q1, q2, q3, q4⟩ := hw
    exact ⟨F', s', q1, q2, q3, (Chg.of_grown gA F).trans q4⟩
  replace hpre := Lib.hid hpre
  clear gA
  have hfile := Lib.hid (op_File h1 g b hB hext node r wr m)
  have htext := Lib.hid (op_Text h1 g b hB t hqs)
  have hsink := Lib.hid (op_Sink h1 g b hB n)
  have hpipe := Lib.hid (op_Pipe h1 g b hB)
  have href := Lib.hid (op_Ref h1 g b hB id)
  have hunref := Lib.hid (op_Unref h1 g b hB hext id)
  have hread := Lib.hid (op_Read h1 g b hB id n hn2)
  have hwrite := Lib.hid (op_Write h1 g b hB id t hqs)
  unfold ptrV at hfile htext hsink hpipe href hunref hread hwrite
  clear h h1 g b hB hext hqs
  rcases hR8 with rfl | rfl | rfl | rfl | rfl | rfl | rfl | rfl
  · go_wp2_with fail
    refine hfile.out.mono ?_
    rintro e w' ⟨⟨i, er, rfl⟩, hN⟩
    have hfin := hpre.out _ hN
    replace hfin := Lib.hid hfin
    clear hN hpre hfile htext hsink hpipe href hunref hread hwrite a2 b1 b2 b3 b4 b5 b6 b7
    go_wp2
    exact bodyPost_ret (v := .tuple #[.int .i64 i, .string ⟨#[]⟩, .int .i64 er]) (by simp [results, Tryz.results13, go_sem]) rfl ⟨⟨_, _, _, rfl⟩, hfin.out⟩
  · go_wp2_with fail
    refine htext.out.mono ?_
    rintro e w' ⟨⟨i, er, rfl⟩, hN⟩
    have hfin := hpre.out _ hN
    replace hfin := Lib.hid hfin
    clear hN hpre hfile htext hsink hpipe href hunref hread hwrite a2 b1 b2 b3 b4 b5 b6 b7
    go_wp2
    exact bodyPost_ret (v := .tuple #[.int .i64 i, .string ⟨#[]⟩, .int .i64 er]) (by simp [results, Tryz.results13, go_sem]) rfl ⟨⟨_, _, _, rfl⟩, hfin.out⟩
  · go_wp2_with fail
    refine hsink.out.mono ?_
    rintro e w' ⟨⟨i, er, rfl⟩, hN⟩
    have hfin := hpre.out _ hN
    replace hfin := Lib.hid hfin
    clear hN hpre hfile htext hsink hpipe href hunref hread hwrite a2 b1 b2 b3 b4 b5 b6 b7
    go_wp2
    exact bodyPost_ret (v := .tuple #[.int .i64 i, .string ⟨#[]⟩, .int .i64 er]) (by simp [results, Tryz.results13, go_sem]) rfl ⟨⟨_, _, _, rfl⟩, hfin.out⟩
  · go_wp2_with fail
    refine hpipe.out.mono ?_
    rintro e w' ⟨⟨i, j, rfl, hi1, hi2, hj1, hj2⟩, hN⟩
    have hfin := hpre.out _ hN
    replace hfin := Lib.hid hfin
    clear hN hpre hfile htext hsink hpipe href hunref hread hwrite a2 b1 b2 b3 b4 b5 b6 b7
    go_wp2
    exact bodyPost_ret (v := .tuple #[.int .i64 (100 * i + j), .string ⟨#[]⟩, .int .i64 0]) (by simp [results, Tryz.results13, go_sem]) rfl ⟨⟨_, _, _, rfl⟩, hfin.out⟩
  · go_wp2_with fail
    refine href.out.mono ?_
    rintro e w' ⟨⟨er, rfl⟩, hN⟩
    have hfin := hpre.out _ hN
    replace hfin := Lib.hid hfin
    clear hN hpre hfile htext hsink hpipe href hunref hread hwrite a2 b1 b2 b3 b4 b5 b6 b7
    go_wp2
    exact bodyPost_ret (v := .tuple #[.int .i64 0, .string ⟨#[]⟩, .int .i64 er]) (by simp [results, Tryz.results13, go_sem]) rfl ⟨⟨_, _, _, rfl⟩, hfin.out⟩
  · go_wp2_with fail
    refine hunref.out.mono ?_
    rintro e w' ⟨⟨er, rfl, _⟩, hN⟩
    have hfin := hpre.out _ hN
    replace hfin := Lib.hid hfin
    clear hN hpre hfile htext hsink hpipe href hunref hread hwrite a2 b1 b2 b3 b4 b5 b6 b7
    go_wp2
    exact bodyPost_ret (v := .tuple #[.int .i64 0, .string ⟨#[]⟩, .int .i64 er]) (by simp [results, Tryz.results13, go_sem]) rfl ⟨⟨_, _, _, rfl⟩, hfin.out⟩
  · go_wp2_with fail
    refine hread.out.mono ?_
    rintro e w' ⟨⟨S, er, rfl⟩, hN⟩
    have hfin := hpre.out _ hN
    replace hfin := Lib.hid hfin
    clear hN hpre hfile htext hsink hpipe href hunref hread hwrite a2 b1 b2 b3 b4 b5 b6 b7
    go_wp2
    exact bodyPost_ret (v := .tuple #[.int .i64 0, .string S, .int .i64 er]) (by simp [results, Tryz.results13, go_sem]) rfl ⟨⟨_, _, _, rfl⟩, hfin.out⟩
  · go_wp2_with fail
    refine hwrite.out.mono ?_
    rintro e w' ⟨⟨er, rfl⟩, hN⟩
    have hfin := hpre.out _ hN
    replace hfin := Lib.hid hfin
    clear hN hpre hfile htext hsink hpipe href hunref hread hwrite a2 b1 b2 b3 b4 b5 b6 b7
    go_wp2
    exact bodyPost_ret (v := .tuple #[.int .i64 0, .string ⟨#[]⟩, .int .i64 er]) (by simp [results, Tryz.results13, go_sem]) rfl ⟨⟨_, _, _, rfl⟩, hfin.out⟩
end
end Go.Proofs.YtbjakhiflgjflaaGreatDoor
