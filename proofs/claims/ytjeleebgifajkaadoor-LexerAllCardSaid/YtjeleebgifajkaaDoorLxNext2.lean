/-
  next, Next, Hole: the thing that begins first from a place on, told plainly. Conditions: texts of up to a million bytes.
-/
import Derived.Outline
import Derived.Deep.DeepCutAuto
import Derived.Test.YtjeleebgifajkaaDoorUdMem
import Derived.Test.YtjeleebgifajkaaDoorLxNext
set_option linter.unusedSimpArgs false
set_option linter.unusedVariables false
namespace Go.Proofs.YtjeleebgifajkaaDoor
open Go Go.Shelf Go.RowKit Go.ChangeMaps

/-- The thing that begins first from a place on: its kind, its place, the place behind it; kind 5: it does not end. -/
def nextP (l : List UInt8) (k : Nat) : Nat × Nat × Nat :=
  let b := k + skip (l.drop k)
  if l.drop b = [] then (0, b, b) else if (l.drop b).headD 0 = 10 then (1, b, b + 1) else if opN (l.drop b) ≠ 0 then (2, b, b + opN (l.drop b))
  else match scan (l.drop b) [119] with
    | none => (5, b, b)
    | some n => (if ((l.drop b).take n).all digitB = true ∧ redir (l.drop (b + n)) = true then 3 else 4, b, b + n)
/-- A thing as a value, or the place of what does not end. -/
def tokE (s : ByteArray) (t : Nat × Nat × Nat) : Value := if t.1 = 5 then .agg #[.int .i64 0, .string ⟨#[]⟩, .int .i64 (t.2.1 : Int), .int .i64 0] else tokV s t
def errE (t : Nat × Nat × Nat) : Int := if t.1 = 5 then 30 else 0
theorem tokE_5 (s : ByteArray) (i j : Nat) : tokE s (5, i, j) = .agg #[.int .i64 0, .string ⟨#[]⟩, .int .i64 (i : Int), .int .i64 0] := rfl
theorem tokE_ne (s : ByteArray) {t : Nat × Nat × Nat} (h : t.1 ≠ 5) : tokE s t = tokV s t := if_neg h
section
set_option maxRecDepth 100000
set_option maxHeartbeats 4000000
theorem next_any (s : ByteArray) (k : Nat) (hk : k ≤ s.size) (hs : s.size ≤ 1000000) (w : World) :
    Calls Tryd.prog 23 #[.string s, .int .i64 (k : Int)] w fun e w' => e = .returned (.tuple #[tokE s (nextP (bl s) k), .int .i64 (errE (nextP (bl s) k))]) ∧ Below w.heap.size w w' := by
  obtain ⟨T, hT⟩ : ∃ T, nextP (bl s) k = T := ⟨_, rfl⟩
  rw [hT]
  unfold nextP at hT
  have hbeg := fun W => begin_any s k hk hs W
  have hb1 : k + skip ((bl s).drop k) ≤ s.size := by have := skip_le ((bl s).drop k); rw [List.length_drop, bl_len] at this; omega
  generalize k + skip ((bl s).drop k) = b at hbeg hT hb1
  have hbi : (b : Int) ≤ (s.size : Int) := by omega
  dsimp only at hT
  have hop := fun W => opLength_any (s.extract b s.size) (by simp; omega) W
  simp only [bl] at hop
  rw [bl_from] at hop
  have hw := fun W => wordStop_any s b hb1 hs W
  have ho := opN_le ((bl s).drop b)
  have hsc := fun n (h : scan ((bl s).drop b) [119] = some n) => scan_le h
  rw [List.length_drop, bl_len] at ho hsc
  replace hbeg := Lib.hid hbeg
  replace hw := Lib.hid hw
  replace hop := Lib.hid hop
  obtain ⟨z, hz⟩ : ∃ z, w.heap.size = z := ⟨_, rfl⟩
  have hb0 : Below z w (w.alloc (.cells #[.int .i64 0, .string ⟨#[]⟩, .int .i64 0, .int .i64 0] 24)) := by rw [← hz]; exact (Below.refl _ w).alloc (Nat.le_refl _) _
  have b0 : Blk (w.alloc (.cells #[.int .i64 0, .string ⟨#[]⟩, .int .i64 0, .int .i64 0] 24)) z [.int .i64 0, .string ⟨#[]⟩, .int .i64 0, .int .i64 0] 24 := by rw [← hz]; exact Blk.new w _ _
  replace hb0 := Lib.hid hb0
  replace b0 := Lib.hid b0
  go_enter Tryd.func23, Tryd.ntmps23
  go_upto_region 1 with fail
  try rw [hz]
  generalize (w.alloc (.cells #[.int .i64 0, .string ⟨#[]⟩, .int .i64 0, .int .i64 0] 24)) = w1 at hb0 b0 ⊢
  replace hz := Lib.hid hz
  go_wp2_with fail
  refine (hbeg.out _).mono ?_
  rintro e w' ⟨rfl, hwq⟩
  obtain rfl := hwq.symm
  clear hbeg
  by_cases hend : b = s.size
  · rw [if_pos (bl_end s b (by omega))] at hT
    obtain rfl := hT
    subst hend
    clear hw hop hsc ho
    go_wp2_with fail
    refine (thing_any s 0 s.size s.size _ rfl (Nat.le_refl _) hb1 hs _).mono ?_
    rintro e w2 ⟨rfl, hb2⟩
    generalize hy : s.extract s.size s.size = y
    replace hy := Lib.hid hy
    have b2 : Blk w2 z _ _ := (hb2.block z b0.out.lt).trans b0.out
    have hbz : Below z w w2 := hb0.out.trans (hb2.mono (by have := b0.out.lt; omega))
    have f0 := b2.frozen 0
    have f1 := b2.frozen 1
    have f2 := b2.frozen 2
    have f3 := b2.frozen 3
    have l2 := b2.lt
    have e0 := b2.cell (i := 0) rfl
    have e1 := b2.cell (i := 1) rfl
    have e2 := b2.cell (i := 2) rfl
    have e3 := b2.cell (i := 3) rfl
    have bE : Blk ((((w2.setCell ⟨z, 0, none⟩ (.int .i64 0)).setCell ⟨z, 1, none⟩ (.string y)).setCell ⟨z, 2, none⟩ (.int .i64 (s.size : Int))).setCell ⟨z, 3, none⟩ (.int .i64 (s.size : Int))) z [(.int .i64 0), (.string y), (.int .i64 (s.size : Int)), (.int .i64 (s.size : Int))] 24 := (((b2.set 0 (.int .i64 0)).set 1 (.string y)).set 2 (.int .i64 (s.size : Int))).set 3 (.int .i64 (s.size : Int))
    have hbE : Below z w ((((w2.setCell ⟨z, 0, none⟩ (.int .i64 0)).setCell ⟨z, 1, none⟩ (.string y)).setCell ⟨z, 2, none⟩ (.int .i64 (s.size : Int))).setCell ⟨z, 3, none⟩ (.int .i64 (s.size : Int))) := (((hbz.setCell (Nat.le_refl z) _).setCell (Nat.le_refl z) _).setCell (Nat.le_refl z) _).setCell (Nat.le_refl z) _
    replace bE := Lib.hid bE
    replace hbE := Lib.hid hbE
    clear hb2 b2 hbz 
    go_wp2
    generalize ((((w2.setCell ⟨z, 0, none⟩ (.int .i64 0)).setCell ⟨z, 1, none⟩ (.string y)).setCell ⟨z, 2, none⟩ (.int .i64 (s.size : Int))).setCell ⟨z, 3, none⟩ (.int .i64 (s.size : Int))) = wE at bE hbE ⊢
    have g0 := bE.out.cell (i := 0) rfl
    have g1 := bE.out.cell (i := 1) rfl
    have g2 := bE.out.cell (i := 2) rfl
    have g3 := bE.out.cell (i := 3) rfl
    exact bodyPost_ret (v := .tuple #[.agg #[(.int .i64 0), (.string y), (.int .i64 (s.size : Int)), (.int .i64 (s.size : Int))], .int .i64 0]) (by simp [results, Tryd.results23, g0, g1, g2, g3, go_sem]) rfl ⟨by rw [← hy.out]; rfl, by rw [hz.out]; exact hbE.out⟩
  · have hlt : b < s.size := by omega
    have hei : ¬ (b : Int) = (s.size : Int) := by omega
    have hli : (b : Int) < (s.size : Int) := by omega
    have hne : (bl s).drop b ≠ [] := by rw [bl_cons s b hlt]; simp
    have hhd : ((bl s).drop b).headD 0 = s[b] := by rw [bl_cons s b hlt]; rfl
    have hn : s[b].toNat < 256 := s[b].toNat_lt
    rw [if_neg hne, hhd] at hT
    clear hend hne hhd
    by_cases h10 : s[b] = 10
    · have hi : (s[b].toNat : Int) = 10 := by rw [h10]; rfl
      rw [if_pos h10] at hT
      obtain rfl := hT
      clear hw hop hsc ho h10
      go_wp2_with fail
      refine (thing_any s 1 b (b + 1) _ (by omega) (Nat.le_succ _) hlt hs _).mono ?_
      rintro e w2 ⟨rfl, hb2⟩
      have b2 : Blk w2 z _ _ := (hb2.block z b0.out.lt).trans b0.out
      have hbz : Below z w w2 := hb0.out.trans (hb2.mono (by have := b0.out.lt; omega))
      have f0 := b2.frozen 0
      have f1 := b2.frozen 1
      have f2 := b2.frozen 2
      have f3 := b2.frozen 3
      have l2 := b2.lt
      have e0 := b2.cell (i := 0) rfl
      have e1 := b2.cell (i := 1) rfl
      have e2 := b2.cell (i := 2) rfl
      have e3 := b2.cell (i := 3) rfl
      have bE : Blk ((((w2.setCell ⟨z, 0, none⟩ (.int .i64 1)).setCell ⟨z, 1, none⟩ (.string (s.extract b (b + 1)))).setCell ⟨z, 2, none⟩ (.int .i64 (b : Int))).setCell ⟨z, 3, none⟩ (.int .i64 ((b : Int) + 1))) z [(.int .i64 1), (.string (s.extract b (b + 1))), (.int .i64 (b : Int)), (.int .i64 ((b : Int) + 1))] 24 := (((b2.set 0 (.int .i64 1)).set 1 (.string (s.extract b (b + 1)))).set 2 (.int .i64 (b : Int))).set 3 (.int .i64 ((b : Int) + 1))
      have hbE : Below z w ((((w2.setCell ⟨z, 0, none⟩ (.int .i64 1)).setCell ⟨z, 1, none⟩ (.string (s.extract b (b + 1)))).setCell ⟨z, 2, none⟩ (.int .i64 (b : Int))).setCell ⟨z, 3, none⟩ (.int .i64 ((b : Int) + 1))) := (((hbz.setCell (Nat.le_refl z) _).setCell (Nat.le_refl z) _).setCell (Nat.le_refl z) _).setCell (Nat.le_refl z) _
      replace bE := Lib.hid bE
      replace hbE := Lib.hid hbE
      clear hb2 b2 hbz 
      go_wp2
      generalize ((((w2.setCell ⟨z, 0, none⟩ (.int .i64 1)).setCell ⟨z, 1, none⟩ (.string (s.extract b (b + 1)))).setCell ⟨z, 2, none⟩ (.int .i64 (b : Int))).setCell ⟨z, 3, none⟩ (.int .i64 ((b : Int) + 1))) = wE at bE hbE ⊢
      have g0 := bE.out.cell (i := 0) rfl
      have g1 := bE.out.cell (i := 1) rfl
      have g2 := bE.out.cell (i := 2) rfl
      have g3 := bE.out.cell (i := 3) rfl
      exact bodyPost_ret (v := .tuple #[.agg #[(.int .i64 1), (.string (s.extract b (b + 1))), (.int .i64 (b : Int)), (.int .i64 ((b : Int) + 1))], .int .i64 0]) (by simp [results, Tryd.results23, g0, g1, g2, g3, go_sem]) rfl ⟨rfl, by rw [hz.out]; exact hbE.out⟩
    · have hi : ¬ (s[b].toNat : Int) = 10 := fun e => h10 (UInt8.toNat_inj.1 (by rw [show (10 : UInt8).toNat = 10 from rfl]; omega))
      rw [if_neg h10] at hT
      generalize opN ((bl s).drop b) = on at hop hT ho
      by_cases h0 : on ≠ 0
      · have h0i : (0 : Int) < (on : Int) := by omega
        rw [if_pos h0] at hT
        obtain rfl := hT
        clear hw hsc h10 h0
        go_wp2_with fail
        refine (hop.out _).mono ?_
        rintro e w' ⟨rfl, hwq⟩
        obtain rfl := hwq.symm
        clear hop
        go_wp2_with fail
        refine (thing_any s 2 b (b + on) _ (by omega) (Nat.le_add_right _ _) (by omega) hs _).mono ?_
        rintro e w2 ⟨rfl, hb2⟩
        have b2 : Blk w2 z _ _ := (hb2.block z b0.out.lt).trans b0.out
        have hbz : Below z w w2 := hb0.out.trans (hb2.mono (by have := b0.out.lt; omega))
        have f0 := b2.frozen 0
        have f1 := b2.frozen 1
        have f2 := b2.frozen 2
        have f3 := b2.frozen 3
        have l2 := b2.lt
        have e0 := b2.cell (i := 0) rfl
        have e1 := b2.cell (i := 1) rfl
        have e2 := b2.cell (i := 2) rfl
        have e3 := b2.cell (i := 3) rfl
        have bE : Blk ((((w2.setCell ⟨z, 0, none⟩ (.int .i64 2)).setCell ⟨z, 1, none⟩ (.string (s.extract b (b + on)))).setCell ⟨z, 2, none⟩ (.int .i64 (b : Int))).setCell ⟨z, 3, none⟩ (.int .i64 ((b : Int) + (on : Int)))) z [(.int .i64 2), (.string (s.extract b (b + on))), (.int .i64 (b : Int)), (.int .i64 ((b : Int) + (on : Int)))] 24 := (((b2.set 0 (.int .i64 2)).set 1 (.string (s.extract b (b + on)))).set 2 (.int .i64 (b : Int))).set 3 (.int .i64 ((b : Int) + (on : Int)))
        have hbE : Below z w ((((w2.setCell ⟨z, 0, none⟩ (.int .i64 2)).setCell ⟨z, 1, none⟩ (.string (s.extract b (b + on)))).setCell ⟨z, 2, none⟩ (.int .i64 (b : Int))).setCell ⟨z, 3, none⟩ (.int .i64 ((b : Int) + (on : Int)))) := (((hbz.setCell (Nat.le_refl z) _).setCell (Nat.le_refl z) _).setCell (Nat.le_refl z) _).setCell (Nat.le_refl z) _
        replace bE := Lib.hid bE
        replace hbE := Lib.hid hbE
        clear hb2 b2 hbz 
        go_wp2
        generalize ((((w2.setCell ⟨z, 0, none⟩ (.int .i64 2)).setCell ⟨z, 1, none⟩ (.string (s.extract b (b + on)))).setCell ⟨z, 2, none⟩ (.int .i64 (b : Int))).setCell ⟨z, 3, none⟩ (.int .i64 ((b : Int) + (on : Int)))) = wE at bE hbE ⊢
        have g0 := bE.out.cell (i := 0) rfl
        have g1 := bE.out.cell (i := 1) rfl
        have g2 := bE.out.cell (i := 2) rfl
        have g3 := bE.out.cell (i := 3) rfl
        exact bodyPost_ret (v := .tuple #[.agg #[(.int .i64 2), (.string (s.extract b (b + on))), (.int .i64 (b : Int)), (.int .i64 ((b : Int) + (on : Int)))], .int .i64 0]) (by simp [results, Tryd.results23, g0, g1, g2, g3, go_sem]) rfl ⟨rfl, by rw [hz.out]; exact hbE.out⟩
      · obtain rfl : on = 0 := by omega
        rw [if_neg h0] at hT
        clear h0 h10 ho
        cases hq : scan ((bl s).drop b) [119] with
        | none =>
          rw [hq] at hT hw
          obtain rfl := hT
          clear hq hsc
          go_wp2_with fail
          refine (hop.out _).mono ?_
          rintro e w' ⟨rfl, hwq⟩
          obtain rfl := hwq.symm
          clear hop
          go_wp2_with fail
          refine (hw.out _).mono ?_
          rintro e w' ⟨rfl, hwq⟩
          obtain rfl := hwq.symm
          rw [enc_none]
          clear hw
          have hb2 := Below.refl w1.heap.size w1
          have b2 : Blk w1 z _ _ := (hb2.block z b0.out.lt).trans b0.out
          have hbz : Below z w w1 := hb0.out.trans (hb2.mono (by have := b0.out.lt; omega))
          have f0 := b2.frozen 0
          have f1 := b2.frozen 1
          have f2 := b2.frozen 2
          have f3 := b2.frozen 3
          have l2 := b2.lt
          have e0 := b2.cell (i := 0) rfl
          have e1 := b2.cell (i := 1) rfl
          have e2 := b2.cell (i := 2) rfl
          have e3 := b2.cell (i := 3) rfl
          have bE : Blk ((((w1.setCell ⟨z, 0, none⟩ (.int .i64 0)).setCell ⟨z, 1, none⟩ (.string ⟨#[]⟩)).setCell ⟨z, 2, none⟩ (.int .i64 (b : Int))).setCell ⟨z, 3, none⟩ (.int .i64 0)) z [(.int .i64 0), (.string ⟨#[]⟩), (.int .i64 (b : Int)), (.int .i64 0)] 24 := (((b2.set 0 (.int .i64 0)).set 1 (.string ⟨#[]⟩)).set 2 (.int .i64 (b : Int))).set 3 (.int .i64 0)
          have hbE : Below z w ((((w1.setCell ⟨z, 0, none⟩ (.int .i64 0)).setCell ⟨z, 1, none⟩ (.string ⟨#[]⟩)).setCell ⟨z, 2, none⟩ (.int .i64 (b : Int))).setCell ⟨z, 3, none⟩ (.int .i64 0)) := (((hbz.setCell (Nat.le_refl z) _).setCell (Nat.le_refl z) _).setCell (Nat.le_refl z) _).setCell (Nat.le_refl z) _
          replace bE := Lib.hid bE
          replace hbE := Lib.hid hbE
          clear hb2 b2 hbz 
          go_wp2
          generalize ((((w1.setCell ⟨z, 0, none⟩ (.int .i64 0)).setCell ⟨z, 1, none⟩ (.string ⟨#[]⟩)).setCell ⟨z, 2, none⟩ (.int .i64 (b : Int))).setCell ⟨z, 3, none⟩ (.int .i64 0)) = wE at bE hbE ⊢
          have g0 := bE.out.cell (i := 0) rfl
          have g1 := bE.out.cell (i := 1) rfl
          have g2 := bE.out.cell (i := 2) rfl
          have g3 := bE.out.cell (i := 3) rfl
          exact bodyPost_ret (v := .tuple #[.agg #[(.int .i64 0), (.string ⟨#[]⟩), (.int .i64 (b : Int)), (.int .i64 0)], .int .i64 30]) (by simp [results, Tryd.results23, g0, g1, g2, g3, go_sem]) rfl ⟨rfl, by rw [hz.out]; exact hbE.out⟩
        | some n =>
          have hn1 := hsc n hq
          rw [hq] at hT hw
          have hni : (b : Int) ≤ ((b + n : Nat) : Int) := by omega
          have hnj : ((b + n : Nat) : Int) ≤ (s.size : Int) := by omega
          have hnm : ¬ (((b + n : Nat) : Int) = -1) := by omega
          have hd := fun W => digits_any (s.extract b (b + n)) (by simp; omega) W
          have hr := fun W => redirected_any s (b + n) (by omega) hs W
          simp only [bl] at hd
          rw [bl_extract, show ((s.data.toList.take (b + n)).drop b) = (((bl s).drop b).take n) by rw [List.drop_take]; congr 1; omega] at hd
          simp only at hT
          generalize (((bl s).drop b).take n).all digitB = D at hd hT
          generalize redir ((bl s).drop (b + n)) = Q at hr hT
          have hbn : b ≤ b + n := Nat.le_add_right _ _
          have hbn2 : b + n ≤ s.size := by omega
          clear hq hsc
          replace hd := Lib.hid hd
          replace hr := Lib.hid hr
          replace hbn := Lib.hid hbn
          replace hbn2 := Lib.hid hbn2
          go_wp2_with fail
          refine (hop.out _).mono ?_
          rintro e w' ⟨rfl, hwq⟩
          obtain rfl := hwq.symm
          clear hop
          go_wp2_with fail
          refine (hw.out _).mono ?_
          rintro e w' ⟨rfl, hwq⟩
          obtain rfl := hwq.symm
          rw [enc_some]
          clear hw
          generalize b + n = j at *
          cases D with
          | false =>
            rw [if_neg (fun h => absurd h.1 (by decide))] at hT
            obtain rfl := hT
            clear hr
            go_wp2_with fail
            refine (hd.out _).mono ?_
            rintro e w3 ⟨rfl, hb3⟩
            have b3 : Hid (Blk w3 z _ _) := Lib.hid ((hb3.block z b0.out.lt).trans b0.out)
            have hb4 : Hid (Below z w w3) := Lib.hid (hb0.out.trans (hb3.mono (by have := b0.out.lt; omega)))
            clear hd hb3
            go_wp2_with fail
            refine (thing_any s 4 b j _ rfl hbn.out hbn2.out hs _).mono ?_
            rintro e w2 ⟨rfl, hb2⟩
            have b2 : Blk w2 z _ _ := (hb2.block z b3.out.lt).trans b3.out
            have hbz : Below z w w2 := hb4.out.trans (hb2.mono (by have := b3.out.lt; omega))
            have f0 := b2.frozen 0
            have f1 := b2.frozen 1
            have f2 := b2.frozen 2
            have f3 := b2.frozen 3
            have l2 := b2.lt
            have e0 := b2.cell (i := 0) rfl
            have e1 := b2.cell (i := 1) rfl
            have e2 := b2.cell (i := 2) rfl
            have e3 := b2.cell (i := 3) rfl
            have bE : Blk ((((w2.setCell ⟨z, 0, none⟩ (.int .i64 4)).setCell ⟨z, 1, none⟩ (.string (s.extract b (j)))).setCell ⟨z, 2, none⟩ (.int .i64 (b : Int))).setCell ⟨z, 3, none⟩ (.int .i64 ((j : Nat) : Int))) z [(.int .i64 4), (.string (s.extract b (j))), (.int .i64 (b : Int)), (.int .i64 ((j : Nat) : Int))] 24 := (((b2.set 0 (.int .i64 4)).set 1 (.string (s.extract b (j)))).set 2 (.int .i64 (b : Int))).set 3 (.int .i64 ((j : Nat) : Int))
            have hbE : Below z w ((((w2.setCell ⟨z, 0, none⟩ (.int .i64 4)).setCell ⟨z, 1, none⟩ (.string (s.extract b (j)))).setCell ⟨z, 2, none⟩ (.int .i64 (b : Int))).setCell ⟨z, 3, none⟩ (.int .i64 ((j : Nat) : Int))) := (((hbz.setCell (Nat.le_refl z) _).setCell (Nat.le_refl z) _).setCell (Nat.le_refl z) _).setCell (Nat.le_refl z) _
            replace bE := Lib.hid bE
            replace hbE := Lib.hid hbE
            clear hb2 b2 hbz 
            go_wp2
            generalize ((((w2.setCell ⟨z, 0, none⟩ (.int .i64 4)).setCell ⟨z, 1, none⟩ (.string (s.extract b (j)))).setCell ⟨z, 2, none⟩ (.int .i64 (b : Int))).setCell ⟨z, 3, none⟩ (.int .i64 ((j : Nat) : Int))) = wE at bE hbE ⊢
            have g0 := bE.out.cell (i := 0) rfl
            have g1 := bE.out.cell (i := 1) rfl
            have g2 := bE.out.cell (i := 2) rfl
            have g3 := bE.out.cell (i := 3) rfl
            exact bodyPost_ret (v := .tuple #[.agg #[(.int .i64 4), (.string (s.extract b (j))), (.int .i64 (b : Int)), (.int .i64 ((j : Nat) : Int))], .int .i64 0]) (by simp [results, Tryd.results23, g0, g1, g2, g3, go_sem]) rfl ⟨rfl, by rw [hz.out]; exact hbE.out⟩
          | true =>
            cases Q with
            | false =>
              rw [if_neg (fun h => absurd h.2 (by decide))] at hT
              obtain rfl := hT
              go_wp2_with fail
              refine (hd.out _).mono ?_
              rintro e w3 ⟨rfl, hb3⟩
              have b3 : Hid (Blk w3 z _ _) := Lib.hid ((hb3.block z b0.out.lt).trans b0.out)
              have hb4 : Hid (Below z w w3) := Lib.hid (hb0.out.trans (hb3.mono (by have := b0.out.lt; omega)))
              clear hd hb3
              go_wp2_with fail
              refine (hr.out _).mono ?_
              rintro e w' ⟨rfl, hwq⟩
              obtain rfl := hwq.symm
              clear hr
              go_wp2_with fail
              refine (thing_any s 4 b j _ rfl hbn.out hbn2.out hs _).mono ?_
              rintro e w2 ⟨rfl, hb2⟩
              have b2 : Blk w2 z _ _ := (hb2.block z b3.out.lt).trans b3.out
              have hbz : Below z w w2 := hb4.out.trans (hb2.mono (by have := b3.out.lt; omega))
              have f0 := b2.frozen 0
              have f1 := b2.frozen 1
              have f2 := b2.frozen 2
              have f3 := b2.frozen 3
              have l2 := b2.lt
              have e0 := b2.cell (i := 0) rfl
              have e1 := b2.cell (i := 1) rfl
              have e2 := b2.cell (i := 2) rfl
              have e3 := b2.cell (i := 3) rfl
              have bE : Blk ((((w2.setCell ⟨z, 0, none⟩ (.int .i64 4)).setCell ⟨z, 1, none⟩ (.string (s.extract b (j)))).setCell ⟨z, 2, none⟩ (.int .i64 (b : Int))).setCell ⟨z, 3, none⟩ (.int .i64 ((j : Nat) : Int))) z [(.int .i64 4), (.string (s.extract b (j))), (.int .i64 (b : Int)), (.int .i64 ((j : Nat) : Int))] 24 := (((b2.set 0 (.int .i64 4)).set 1 (.string (s.extract b (j)))).set 2 (.int .i64 (b : Int))).set 3 (.int .i64 ((j : Nat) : Int))
              have hbE : Below z w ((((w2.setCell ⟨z, 0, none⟩ (.int .i64 4)).setCell ⟨z, 1, none⟩ (.string (s.extract b (j)))).setCell ⟨z, 2, none⟩ (.int .i64 (b : Int))).setCell ⟨z, 3, none⟩ (.int .i64 ((j : Nat) : Int))) := (((hbz.setCell (Nat.le_refl z) _).setCell (Nat.le_refl z) _).setCell (Nat.le_refl z) _).setCell (Nat.le_refl z) _
              replace bE := Lib.hid bE
              replace hbE := Lib.hid hbE
              clear hb2 b2 hbz 
              go_wp2
              generalize ((((w2.setCell ⟨z, 0, none⟩ (.int .i64 4)).setCell ⟨z, 1, none⟩ (.string (s.extract b (j)))).setCell ⟨z, 2, none⟩ (.int .i64 (b : Int))).setCell ⟨z, 3, none⟩ (.int .i64 ((j : Nat) : Int))) = wE at bE hbE ⊢
              have g0 := bE.out.cell (i := 0) rfl
              have g1 := bE.out.cell (i := 1) rfl
              have g2 := bE.out.cell (i := 2) rfl
              have g3 := bE.out.cell (i := 3) rfl
              exact bodyPost_ret (v := .tuple #[.agg #[(.int .i64 4), (.string (s.extract b (j))), (.int .i64 (b : Int)), (.int .i64 ((j : Nat) : Int))], .int .i64 0]) (by simp [results, Tryd.results23, g0, g1, g2, g3, go_sem]) rfl ⟨rfl, by rw [hz.out]; exact hbE.out⟩
            | true =>
              rw [if_pos ⟨rfl, rfl⟩] at hT
              obtain rfl := hT
              go_wp2_with fail
              refine (hd.out _).mono ?_
              rintro e w3 ⟨rfl, hb3⟩
              have b3 : Hid (Blk w3 z _ _) := Lib.hid ((hb3.block z b0.out.lt).trans b0.out)
              have hb4 : Hid (Below z w w3) := Lib.hid (hb0.out.trans (hb3.mono (by have := b0.out.lt; omega)))
              clear hd hb3
              go_wp2_with fail
              refine (hr.out _).mono ?_
              rintro e w' ⟨rfl, hwq⟩
              obtain rfl := hwq.symm
              clear hr
              go_wp2_with fail
              refine (thing_any s 3 b j _ rfl hbn.out hbn2.out hs _).mono ?_
              rintro e w2 ⟨rfl, hb2⟩
              have b2 : Blk w2 z _ _ := (hb2.block z b3.out.lt).trans b3.out
              have hbz : Below z w w2 := hb4.out.trans (hb2.mono (by have := b3.out.lt; omega))
              have f0 := b2.frozen 0
              have f1 := b2.frozen 1
              have f2 := b2.frozen 2
              have f3 := b2.frozen 3
              have l2 := b2.lt
              have e0 := b2.cell (i := 0) rfl
              have e1 := b2.cell (i := 1) rfl
              have e2 := b2.cell (i := 2) rfl
              have e3 := b2.cell (i := 3) rfl
              have bE : Blk ((((w2.setCell ⟨z, 0, none⟩ (.int .i64 3)).setCell ⟨z, 1, none⟩ (.string (s.extract b (j)))).setCell ⟨z, 2, none⟩ (.int .i64 (b : Int))).setCell ⟨z, 3, none⟩ (.int .i64 ((j : Nat) : Int))) z [(.int .i64 3), (.string (s.extract b (j))), (.int .i64 (b : Int)), (.int .i64 ((j : Nat) : Int))] 24 := (((b2.set 0 (.int .i64 3)).set 1 (.string (s.extract b (j)))).set 2 (.int .i64 (b : Int))).set 3 (.int .i64 ((j : Nat) : Int))
              have hbE : Below z w ((((w2.setCell ⟨z, 0, none⟩ (.int .i64 3)).setCell ⟨z, 1, none⟩ (.string (s.extract b (j)))).setCell ⟨z, 2, none⟩ (.int .i64 (b : Int))).setCell ⟨z, 3, none⟩ (.int .i64 ((j : Nat) : Int))) := (((hbz.setCell (Nat.le_refl z) _).setCell (Nat.le_refl z) _).setCell (Nat.le_refl z) _).setCell (Nat.le_refl z) _
              replace bE := Lib.hid bE
              replace hbE := Lib.hid hbE
              clear hb2 b2 hbz 
              go_wp2
              generalize ((((w2.setCell ⟨z, 0, none⟩ (.int .i64 3)).setCell ⟨z, 1, none⟩ (.string (s.extract b (j)))).setCell ⟨z, 2, none⟩ (.int .i64 (b : Int))).setCell ⟨z, 3, none⟩ (.int .i64 ((j : Nat) : Int))) = wE at bE hbE ⊢
              have g0 := bE.out.cell (i := 0) rfl
              have g1 := bE.out.cell (i := 1) rfl
              have g2 := bE.out.cell (i := 2) rfl
              have g3 := bE.out.cell (i := 3) rfl
              exact bodyPost_ret (v := .tuple #[.agg #[(.int .i64 3), (.string (s.extract b (j))), (.int .i64 (b : Int)), (.int .i64 ((j : Nat) : Int))], .int .i64 0]) (by simp [results, Tryd.results23, g0, g1, g2, g3, go_sem]) rfl ⟨rfl, by rw [hz.out]; exact hbE.out⟩
end
end Go.Proofs.YtjeleebgifajkaaDoor
