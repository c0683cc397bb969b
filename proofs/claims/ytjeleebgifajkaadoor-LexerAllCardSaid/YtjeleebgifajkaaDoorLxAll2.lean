/-
  All tells all things of a text, and what does not end. Conditions: none.
-/
import Derived.Test.YtjeleebgifajkaaDoorLxAll
set_option linter.unusedSimpArgs false
set_option linter.unusedVariables false
namespace Go.Proofs.YtjeleebgifajkaaDoor
open Go Go.RowKit

theorem grownBy_trans {a b c : World} {r : Option Nat} (h : a.grownBy b r) (k : b.grownBy c r) : a.grownBy c r :=
  ⟨k.os.trans h.os, k.tape.trans h.tape, k.output.trans h.output, Nat.le_trans h.size k.size, fun i hi hr => (k.block i (Nat.lt_of_lt_of_le hi h.size) hr).trans (h.block i hi hr)⟩
theorem infoTok : (Tryd.prog.info? 24).map (fun i => (i.zero, i.size, i.bytes)) = some (some (.agg #[.int .i64 0, .string ⟨#[]⟩, .int .i64 0, .int .i64 0]), 4, 40) := by kernel_rfl

attribute [local go_sem] Oper.semAt_some

set_option maxHeartbeats 4000000 in
set_option maxRecDepth 100000 in
theorem all_main (s : ByteArray) (hs : s.size ≤ 4096) (w : World) :
    Calls Tryd.prog 15 #[.string s] w fun e w' => ∃ v, e = .returned (.tuple #[v, .int .i64 (allP s).2.1, .int .i64 (allP s).2.2]) ∧ Below w.heap.size w w' ∧
      w'.ownsRow w.heap.size 24 4 v (allP s).1.length (cellsTk s (allP s).1) := by
  have hck := fun W => check_any s 0 W
  have hc0 : chk s 0 = 0 := by unfold chk; rw [if_neg (by omega), if_neg (by omega)]
  rw [hc0] at hck
  have hmf : ∀ (fn : Fn) (first cap : Array Value) (w : World), (Instr.makeFunc fn first cap).run Tryd.prog w = .ok (.func fn first cap) w := fun _ _ _ _ => rfl
  obtain ⟨B, hB⟩ : ∃ B, w.heap.size = B := ⟨_, rfl⟩
  replace hck := Lib.hid hck
  replace hmf := Lib.hid hmf
  refine callsIn_wide (n := 3).1 ?_
  refine callsIn_of_wp_marks Tryd.func15 rfl trivial ?_ rfl
  simp only [Tryd.ntmps15, List.size_toArray, List.length_cons, List.length_nil, Nat.reduceAdd, Nat.reduceSub, Array.replicate_succ, Array.replicate_zero, List.push_toArray, List.append_toArray, List.nil_append, List.cons_append]
  refine wpIn_wide.2 ?_
  go_upto_region 1 with fail
  try rw [hB]
  have b2 := ((Boxed.new w 35 (.slice none 0 0)).alloc (.cells #[.int .i64 0] 3)).alloc (.cells #[.int .i64 0] 25)
  have b3 := (Boxed.new (w.alloc (.cells #[.slice none 0 0] 35)) 3 (.int .i64 0)).alloc (.cells #[.int .i64 0] 25)
  have b4 := Boxed.new ((w.alloc (.cells #[.slice none 0 0] 35)).alloc (.cells #[.int .i64 0] 3)) 25 (.int .i64 0)
  have hbA : Below B w (((w.alloc (.cells #[.slice none 0 0] 35)).alloc (.cells #[.int .i64 0] 3)).alloc (.cells #[.int .i64 0] 25)) := (((Below.refl B w).alloc (by omega) _).alloc (by simp; omega) _).alloc (by simp; omega) _
  have hsA : (((w.alloc (.cells #[.slice none 0 0] 35)).alloc (.cells #[.int .i64 0] 3)).alloc (.cells #[.int .i64 0] 25)).heap.size = B + 3 := by simp [hB]
  have e3 : (w.alloc (.cells #[.slice none 0 0] 35)).heap.size = B + 1 := by simp [hB]
  have e4 : ((w.alloc (.cells #[.slice none 0 0] 35)).alloc (.cells #[.int .i64 0] 3)).heap.size = B + 2 := by simp [hB]
  rw [hB] at b2
  rw [e3] at b3
  rw [e4] at b4
  generalize (((w.alloc (.cells #[.slice none 0 0] 35)).alloc (.cells #[.int .i64 0] 3)).alloc (.cells #[.int .i64 0] 25)) = w1 at b2 b3 b4 hbA hsA ⊢
  clear e3 e4
  replace b2 := Lib.hid b2
  replace b3 := Lib.hid b3
  replace b4 := Lib.hid b4
  replace hbA := Lib.hid hbA
  replace hsA := Lib.hid hsA
  replace hB := Lib.hid hB
  go_wp2_with fail
  refine (hck.out _).mono ?_
  rintro e w' ⟨rfl, hwq⟩
  obtain rfl := hwq.symm
  clear hck hwq
  go_upto_region 5 with fail
  try rw [hsA.out]
  have bO := Boxed.new w1 35 (.slice none 0 0)
  rw [hsA.out] at bO
  replace b2 := b2.out.alloc (.cells #[.slice none 0 0] 35)
  replace b3 := b3.out.alloc (.cells #[.slice none 0 0] 35)
  replace b4 := b4.out.alloc (.cells #[.slice none 0 0] 35)
  have hbB : Below B w (w1.alloc (.cells #[.slice none 0 0] 35)) := hbA.out.alloc (by rw [hsA.out]; omega) _
  have hsB : (w1.alloc (.cells #[.slice none 0 0] 35)).heap.size = B + 4 := by simp [hsA.out]
  generalize w1.alloc (.cells #[.slice none 0 0] 35) = w2 at b2 b3 b4 bO hbB hsB ⊢
  clear hbA hsA
  clear w1
  have bS := Boxed.new w2 9 (.string s)
  replace bO := bO.alloc (.cells #[.string s] 9)
  replace b2 := b2.alloc (.cells #[.string s] 9)
  replace b3 := b3.alloc (.cells #[.string s] 9)
  replace b4 := b4.alloc (.cells #[.string s] 9)
  have hbC : Below B w (w2.alloc (.cells #[.string s] 9)) := hbB.alloc (by rw [hsB]; omega) _
  have hsC : (w2.alloc (.cells #[.string s] 9)).heap.size = B + 5 := by simp [hsB]
  have hth := things_any s w2
  rw [hsB] at bS hth
  replace hth := Lib.hid hth
  replace hsC := Lib.hid hsC
  replace hbC := Lib.hid hbC
  clear hbB hsB
  go_wp2_with fail
  refine hth.out.mono ?_
  rintro e w' ⟨rfl, hwq⟩
  generalize w2.alloc (.cells #[.string s] 9) = w5 at b2 b3 b4 bO bS hbC hsC hwq
  obtain rfl := hwq.symm
  clear hth hwq
  go_wp2_with fail
  refine (wpIn_wide (n := 3)).1 ?_
  refine range_things (bo := B + 3) (B := B) (Bs := B + 4) (s := s) rfl (by rw [hsC.out]; omega) (by rw [hsC.out]; omega) (by rw [hsC.out]; omega) (by omega) hs bO bS (fun z x => ?a1) ?assign ?body ?done ?stop
  case a1 => exact { tmps := #[.string s, undef, .pointer (some ⟨B, 0, none⟩), .pointer (some ⟨B + 1, 0, none⟩), .pointer (some ⟨B + 1 + 1, 0, none⟩), .int .i64 0, .pointer (some ⟨B + 3, 0, none⟩), .pointer (some ⟨z, 0, none⟩), .int .i64 (errE x), .string s, .int .i64 0, .int .i64 0, .bool false, undef, .string s, .func (.func 47) #[] #[.pointer (some ⟨B + 4, 0, none⟩)], .agg (tokC s x).toArray, .int .i64 (errE x), undef, undef, undef, undef, undef, undef, undef, undef, undef, undef, undef], defers := [] }
  case assign =>
    intro x W K hK
    obtain ⟨xa, xb, xc, xd, hx⟩ : ∃ (a : Int) (b : ByteArray) (c d : Int), tokC s x = [.int .i64 a, .string b, .int .i64 c, .int .i64 d] := by
      unfold tokC cellTk
      split
      · exact ⟨_, _, _, _, rfl⟩
      · exact ⟨_, _, _, _, rfl⟩
    rw [hx] at hK ⊢
    gi_wp2
    exact hK
  case body =>
    intro rec pre x b z W hJ hbz hzl hzb hvo hpl hrest
    obtain ⟨vo, h1, h2, h3⟩ := hJ.row
    have hsz := hJ.size
    have hcO := h1.cell
    have hs5 := hsC.out
    rw [hs5] at hsz
    have hzne := hvo vo h1
    by_cases h5 : x.1 = 5
    · obtain ⟨rest, hr1, hr2⟩ := hrest
      obtain rfl := hr2 h5
      rw [List.append_nil] at hr1
      have ec : tokC s x = [.int .i64 0, .string ⟨#[]⟩, .int .i64 (x.2.1 : Int), .int .i64 0] := by unfold tokC; rw [if_pos h5]
      have e2 : errE x = 30 := by unfold errE; rw [if_pos h5]
      rw [ec] at hzb
      rw [ec, e2]
      have k2 : Boxed W B _ _ := (hJ.old B (by omega) (by omega)).trans b2
      have k3 : Boxed W (B + 1) _ _ := (hJ.old (B + 1) (by omega) (by omega)).trans b3
      have k4 : Boxed W (B + 1 + 1) _ _ := (hJ.old (B + 1 + 1) (by omega) (by omega)).trans b4
      have cz : W.cell? ⟨z, 2, none⟩ = some (.int .i64 (x.2.1 : Int)) := by rw [cell_of_row W z 2 _ _ _ hzb]; rfl
      have c2 := k2.cell
      have c3 := k3.cell
      have c4 := k4.cell
      have f2 := k2.frozen
      have f3 := k3.frozen
      have f4 := k4.frozen
      have l2 := k2.lt
      have l3 := k3.lt
      have l4 := k4.lt
      replace hJ := Lib.hid hJ
      replace hzb := Lib.hid hzb
      replace hr1 := Lib.hid hr1
      replace h2 := Lib.hid h2
      replace h1 := Lib.hid h1
      replace k2 := Lib.hid k2
      replace k3 := Lib.hid k3
      replace k4 := Lib.hid k4
      have d1 : ¬ B = z := by have := hJ.out.b2; omega
      have d2 : ¬ B + 1 = z := by have := hJ.out.b2; omega
      have d3 : ¬ B + 1 + 1 = z := by have := hJ.out.b2; omega
      have d4 : ¬ B = B + 1 := by omega
      have d5 : ¬ B = B + 1 + 1 := by omega
      have d6 : ¬ B + 1 = B + 1 + 1 := by omega
      have d7 : ¬ B = B + 3 := by omega
      have d8 : ¬ B + 1 = B + 3 := by omega
      have d9 : ¬ B + 1 + 1 = B + 3 := by omega
      have q1 := Ne.symm d1
      have q2 := Ne.symm d2
      have q3 := Ne.symm d3
      have q4 := Ne.symm d4
      have q5 := Ne.symm d5
      have q6 := Ne.symm d6
      have q7 := Ne.symm d7
      have q8 := Ne.symm d8
      have q9 := Ne.symm d9
      have hfin : LxX w5 B rec s (((W.setCell ⟨B, 0, none⟩ vo).setCell ⟨B + 1, 0, none⟩ (.int .i64 (x.2.1 : Int))).setCell ⟨B + 1 + 1, 0, none⟩ (.int .i64 30)) := by
        have g1 := grownBy_setCell' W B vo
        have g2 := grownBy_setCell' (W.setCell ⟨B, 0, none⟩ vo) (B + 1) (.int .i64 (x.2.1 : Int))
        have g3 := grownBy_setCell' ((W.setCell ⟨B, 0, none⟩ vo).setCell ⟨B + 1, 0, none⟩ (.int .i64 (x.2.1 : Int))) (B + 1 + 1) (.int .i64 30)
        have hsz' : ∀ k, k < W.heap.size → k < (W.setCell ⟨B, 0, none⟩ vo).heap.size := fun k hk => Nat.lt_of_lt_of_le hk g1.size
        have hsz2 : ∀ k, k < W.heap.size → k < ((W.setCell ⟨B, 0, none⟩ vo).setCell ⟨B + 1, 0, none⟩ (.int .i64 (x.2.1 : Int))).heap.size := fun k hk => Nat.lt_of_lt_of_le (hsz' k hk) g2.size
        have hk : ∀ k, k < W.heap.size → k ≠ B → k ≠ B + 1 → k ≠ B + 1 + 1 → (((W.setCell ⟨B, 0, none⟩ vo).setCell ⟨B + 1, 0, none⟩ (.int .i64 (x.2.1 : Int))).setCell ⟨B + 1 + 1, 0, none⟩ (.int .i64 30)).heap[k]? = W.heap[k]? := fun k hk n1 n2 n3 =>
          (g3.block k (hsz2 k hk) (by simpa using n3)).trans ((g2.block k (hsz' k hk) (by simpa using n2)).trans (g1.block k hk (by simpa using n1)))
        have hso : ∀ g, vo.ownBlock = some g → B + 5 + 2 ≤ g ∧ g < W.heap.size := fun g hg => by have := h2.out.lt g hg; rw [hs5] at this; exact this
        refine ⟨⟨pre, x, vo, hr1.out, hJ.out.ok, h5, ?_, ?_, ?_, ?_⟩, (hk _ (by omega) (by omega) (by omega) (by omega)).trans hJ.out.loop, (hk _ (by omega) (by omega) (by omega) (by omega)).trans hJ.out.off, fun k hkB => (hk k (by omega) (by omega) (by omega) (by omega)).trans (hJ.out.old k (by omega) (by omega)), ?_, hJ.out.os, hJ.out.tape, hJ.out.output⟩
        · exact ((k2.out.set vo).kept g2 (by simp)).kept g3 (by simp; omega)
        · exact ((k3.out.kept g1 (by simp)).set _).kept g3 (by simp)
        · exact ((k4.out.kept g1 (by simp; omega)).kept g2 (by simp)).set _
        · exact ((h2.out.kept g1 (.inr (fun e => by have := hso B e; omega))).kept g2 (.inr (fun e => by have := hso (B + 1) e; omega))).kept g3 (.inr (fun e => by have := hso (B + 1 + 1) e; omega))
        · exact Nat.le_trans hJ.out.size (Nat.le_trans g1.size (Nat.le_trans g2.size g3.size))
      replace hfin := Lib.hid hfin
      obtain ⟨A, K, c, rfl⟩ : ∃ A K c, vo = .slice A K c := by
        rcases h2.out.2 with ⟨rfl, h0⟩ | ⟨g, cap, _, rfl, _⟩
        · exact ⟨_, _, _, rfl⟩
        · exact ⟨_, _, _, rfl⟩
      have hfin2 : LxX w5 B rec s (((W.setCell ⟨B, 0, none⟩ (.slice A K c)).setCell ⟨B + 1, 0, none⟩ (.int .i64 (x.2.1 : Int))).setCell ⟨B + 1 + 1, 0, none⟩ (.int .i64 30)).drew := ⟨hfin.out.row, hfin.out.loop, hfin.out.off, hfin.out.old, hfin.out.size, hfin.out.os, hfin.out.tape, hfin.out.output⟩
      replace hfin2 := Lib.hid hfin2
      clear hfin
      gi_wp2
      gi_region
      all_goals (gi_wp2; exact hfin2.out)
    · have ec : tokC s x = cellTk s x := by unfold tokC; rw [if_neg h5]
      have e2 : errE x = 0 := by unfold errE; rw [if_neg h5]
      rw [ec] at hzb
      rw [ec, e2]
      obtain ⟨i0, hi, hz0, hz1, hz2⟩ := info_parts infoTok
      have hzc : ∀ (j : Nat) (u : Value), (cellTk s x)[j]? = some u → W.cell? ⟨z, j, none⟩ = some u := fun j u hu => by rw [cell_of_row W z j _ _ _ hzb]; simpa using hu
      unfold cellTk at hzc ⊢
      have cz0 := hzc 0 _ rfl
      have cz1 := hzc 1 _ rfl
      have cz2 := hzc 2 _ rfl
      have cz3 := hzc 3 _ rfl
      have hbW : b < W.heap.size := by omega
      have hlo := h2.lt
      rw [hs5] at h2 hlo
      replace hJ := Lib.hid hJ
      replace hzb := Lib.hid hzb
      replace hlo := Lib.hid hlo
      replace h3 := Lib.hid h3
      clear hzc ec e2 hvo hzne
      gi_wp2_with (gi_at_builtin; refine Hid.out ?_)
      refine Lib.hid ?_
      refine wpListIn_append_own_at _ rfl _ _ 35 rfl (B + 5 + 2) 24 i0 _ 4 40 Tryd.underlying35 hi hz0 hz1 hz2 rfl (by decide) vo pre.length (cellsTk s pre) rfl (h2.alloc _) ⟨W.heap.size, 0, none⟩ 1 1 (cellTk s x) rfl rfl (new_cells W _ _) (fun u hu => ?one) (by unfold maxLen; omega) (by omega) (by simp; omega) (fun v' w1 hown' hgrow _ hat => ?_)
      case one => simp only [cellTk, List.mem_cons, List.not_mem_nil, or_false] at hu; rcases hu with rfl | rfl | rfl | rfl <;> rfl
      rw [← cellsTk_one, ← cellsTk_app] at hown'
      obtain ⟨g', cap', rfl⟩ := ownsRow_succ hown'
      have hv1 := (h1.alloc (.cells (cellTk s x).toArray 24)).kept hgrow (h1.not_row (by decide) h2)
      have hc1 := hv1.cell
      have hf1 := hv1.frozen
      have hg1 : W.grownBy w1 vo.ownBlock := grownBy_trans (World.grownBy_alloc W _ _) hgrow
      have hgs := grownBy_setCell' w1 (B + 3) (.slice (some ⟨g', 0, none⟩) (pre.length + 1) cap')
      have hoth : ∀ k, k < W.heap.size → k ≠ B + 3 → some k ≠ vo.ownBlock → (w1.setCell ⟨B + 3, 0, none⟩ (.slice (some ⟨g', 0, none⟩) (pre.length + 1) cap')).heap[k]? = W.heap[k]? := fun k hk hne ho =>
        (hgs.block k (Nat.lt_of_lt_of_le hk hg1.size) (by simpa using hne)).trans (hg1.block k hk ho)
      have hno : ∀ k, k < B + 5 + 2 → some k ≠ vo.ownBlock := fun k hk e => by have := (hlo.out k e.symm).1; omega
      have hrow2 := hown'.kept hgs (.inr (hv1.not_row (by decide) hown').symm)
      have hsz2 : W.heap.size ≤ (w1.setCell ⟨B + 3, 0, none⟩ (.slice (some ⟨g', 0, none⟩) (pre.length + 1) cap')).heap.size := Nat.le_trans hg1.size hgs.size
      have hfin : LxJ w5 (B + 3) rec s (pre ++ [x]) b (w1.setCell ⟨B + 3, 0, none⟩ (.slice (some ⟨g', 0, none⟩) (pre.length + 1) cap')) := by
        have hb2 := hJ.out.b2
        rw [hs5] at hb2
        refine ⟨⟨_, hv1.set _, by rw [hs5, List.length_append]; exact hrow2, ?_⟩, ?_, (hoth _ (by omega) (by omega) (hno _ (by omega))).trans hJ.out.loop, (hoth _ (by omega) (by omega) (hno _ (by omega))).trans hJ.out.off, fun k hk hne => (hoth k (by omega) hne (hno k (by omega))).trans (hJ.out.old k hk hne), by rw [hs5]; omega, hJ.out.b2, hgs.os.trans (hg1.os.trans hJ.out.os), hgs.tape.trans (hg1.tape.trans hJ.out.tape), hgs.output.trans (hg1.output.trans hJ.out.output)⟩
        · rcases hat with e | e
          · rw [e]; exact h3.out
          · rw [e]; simp; omega
        · intro t ht
          rcases List.mem_append.1 ht with ht | ht
          · exact hJ.out.ok t ht
          · simp at ht; subst ht; exact h5
      have hbb := hoth b hbW (by have := hJ.out.b2; omega) (fun e => h3.out e.symm)
      replace hfin := Lib.hid hfin
      replace hbb := Lib.hid hbb
      replace hsz2 := Lib.hid hsz2
      clear hoth hno hrow2 hgs hg1
      gi_wp2
      exact ⟨hfin.out, by rw [hbb.out]; exact Array.getElem?_eq_getElem hbW, by first | exact hsz2.out | simpa using hsz2.out⟩
  case done =>
    intro rec b W hJ
    obtain ⟨vo, h1, h2, h3⟩ := hJ.row
    have hsz := hJ.size
    have hcO := h1.cell
    have hs5 := hsC.out
    rw [hs5] at hsz
    have hP := all_ok hs rfl hJ.ok
    have k2 : Boxed W B _ _ := (hJ.old B (by omega) (by omega)).trans b2
    have k3 : Boxed W (B + 1) _ _ := (hJ.old (B + 1) (by omega) (by omega)).trans b3
    have k4 : Boxed W (B + 1 + 1) _ _ := (hJ.old (B + 1 + 1) (by omega) (by omega)).trans b4
    have c2 := k2.cell
    have c3 := k3.cell
    have c4 := k4.cell
    have f2 := k2.frozen
    have f3 := k3.frozen
    have f4 := k4.frozen
    have l2 := k2.lt
    have l3 := k3.lt
    have l4 := k4.lt
    have d4 : ¬ B = B + 1 := by omega
    have d5 : ¬ B = B + 1 + 1 := by omega
    have d6 : ¬ B + 1 = B + 1 + 1 := by omega
    have q4 := Ne.symm d4
    have q5 := Ne.symm d5
    have q6 := Ne.symm d6
    obtain ⟨A, K, c, rfl⟩ : ∃ A K c, vo = .slice A K c := by
      rcases h2.2 with ⟨rfl, h0⟩ | ⟨g, cap, _, rfl, _⟩
      · exact ⟨_, _, _, rfl⟩
      · exact ⟨_, _, _, rfl⟩
    replace hJ := Lib.hid hJ
    replace h1 := Lib.hid h1
    replace h2 := Lib.hid h2
    replace h3 := Lib.hid h3
    replace hP := Lib.hid hP
    replace k2 := Lib.hid k2
    replace k3 := Lib.hid k3
    replace k4 := Lib.hid k4
    have hso : ∀ g, (Value.slice A K c).ownBlock = some g → B + 5 + 2 ≤ g ∧ g < W.heap.size := fun g hg => by have := h2.out.lt g hg; rw [hs5] at this; exact this
    obtain ⟨WE, hWE⟩ : ∃ WE, ((W.setCell ⟨B, 0, none⟩ (.slice A K c)).setCell ⟨B + 1, 0, none⟩ (.int .i64 0)).setCell ⟨B + 1 + 1, 0, none⟩ (.int .i64 0) = WE := ⟨_, rfl⟩
    have g1 := grownBy_setCell' W B (.slice A K c)
    have g2 := grownBy_setCell' (W.setCell ⟨B, 0, none⟩ (.slice A K c)) (B + 1) (.int .i64 0)
    have g3 := grownBy_setCell' ((W.setCell ⟨B, 0, none⟩ (.slice A K c)).setCell ⟨B + 1, 0, none⟩ (.int .i64 0)) (B + 1 + 1) (.int .i64 0)
    have hsz' : ∀ k, k < W.heap.size → k < (W.setCell ⟨B, 0, none⟩ (.slice A K c)).heap.size := fun k hk => Nat.lt_of_lt_of_le hk g1.size
    have hsz2 : ∀ k, k < W.heap.size → k < ((W.setCell ⟨B, 0, none⟩ (.slice A K c)).setCell ⟨B + 1, 0, none⟩ (.int .i64 0)).heap.size := fun k hk => Nat.lt_of_lt_of_le (hsz' k hk) g2.size
    have hk : ∀ k, k < W.heap.size → k ≠ B → k ≠ B + 1 → k ≠ B + 1 + 1 → WE.heap[k]? = W.heap[k]? := fun k hk n1 n2 n3 => by
      rw [← hWE]; exact (g3.block k (hsz2 k hk) (by simpa using n3)).trans ((g2.block k (hsz' k hk) (by simpa using n2)).trans (g1.block k hk (by simpa using n1)))
    have kk2 : Boxed WE B 35 (.slice A K c) := by rw [← hWE]; exact ((k2.out.set _).kept g2 (by simp)).kept g3 (by simp; omega)
    have kk3 : Boxed WE (B + 1) 3 (.int .i64 0) := by rw [← hWE]; exact ((k3.out.kept g1 (by simp)).set _).kept g3 (by simp)
    have kk4 : Boxed WE (B + 1 + 1) 25 (.int .i64 0) := by rw [← hWE]; exact ((k4.out.kept g1 (by simp; omega)).kept g2 (by simp)).set _
    have kr : WE.ownsRow (w5.heap.size + 2) 24 4 (.slice A K c) (seqL s).length (cellsTk s (seqL s)) := by rw [← hWE]; exact ((h2.out.kept g1 (.inr (fun e => by have := hso B e; omega))).kept g2 (.inr (fun e => by have := hso (B + 1) e; omega))).kept g3 (.inr (fun e => by have := hso (B + 1 + 1) e; omega))
    have kd := (hk _ (by omega) (by omega) (by omega) (by omega)).trans hJ.out.off
    have kold : ∀ k, k < B → WE.heap[k]? = w5.heap[k]? := fun k hkB => (hk k (by omega) (by omega) (by omega) (by omega)).trans (hJ.out.old k (by omega) (by omega))
    have kz : W.heap.size ≤ WE.heap.size := by rw [← hWE]; exact Nat.le_trans g1.size (Nat.le_trans g2.size g3.size)
    have ko : WE.os = w5.os := by rw [← hWE]; exact hJ.out.os
    have kt : WE.tape = w5.tape := by rw [← hWE]; exact hJ.out.tape
    have kou : WE.output = w5.output := by rw [← hWE]; exact hJ.out.output
    have hg := grownBy_putObj' WE w5.heap.size (.deferred none)
    have m2 := (kk2.kept hg (by simp; omega)).cell
    have m3 := (kk3.kept hg (by simp; omega)).cell
    have m4 := (kk4.kept hg (by simp; omega)).cell
    have hbw := hbC.out
    have hbs := hbw.size
    rw [hs5] at hbs
    have hBB := hB.out
    have hBel : Below w.heap.size w (WE.putObj w5.heap.size (.deferred none)) := ⟨hg.os.trans (ko.trans hbw.os), hg.tape.trans (kt.trans hbw.tape), hg.output.trans (kou.trans hbw.output), by rw [size_putObj]; omega,
      fun k hk => (World.putObj_heap_other (by omega)).trans ((kold k (by omega)).trans (hbw.block k (by omega)))⟩
    have hown := own_less (ownsRow_putObj kr (.deferred none) kd rfl) (base' := w.heap.size) (by omega)
    replace hBel := Lib.hid hBel
    replace hown := Lib.hid hown
    replace kd := Lib.hid kd
    replace m2 := Lib.hid m2
    replace m3 := Lib.hid m3
    replace m4 := Lib.hid m4
    clear hk kk2 kk3 kk4 kr kold kz ko kt kou hg g1 g2 g3 hsz' hsz2
    replace hWE := Lib.hid hWE
    go_wp2
    rw [hWE.out]
    have m2 := m2.out
    have m3 := m3.out
    have m4 := m4.out
    refine ⟨by simp, .inl ⟨_, _, rfl, run_takeDeferred kd.out, ?_⟩⟩
    refine ⟨.tuple #[.slice A K c, .int .i64 0, .int .i64 0], by simp [results, Tryd.results15, m2, m3, m4, go_sem], .slice A K c, ?_, hBel.out, ?_⟩
    · rw [hP.out]
    · rw [hP.out]; exact hown.out
  case stop =>
    intro rec WE hX
    obtain ⟨pre, t, vo, hseq, hpre, ht5, kk2, kk3, kk4, kr⟩ := hX.row
    have hsz := hX.size
    have hs5 := hsC.out
    rw [hs5] at hsz
    have hP := all_err (pre := pre) (t := t) (rest := []) hs (by rw [List.append_nil]; exact hseq) hpre ht5 rfl
    have kd := hX.off
    have kold := hX.old
    have kz := hX.size
    have ko := hX.os
    have kt := hX.tape
    have kou := hX.output
    have hg := grownBy_putObj' WE w5.heap.size (.deferred none)
    have m2 := (kk2.kept hg (by simp; omega)).cell
    have m3 := (kk3.kept hg (by simp; omega)).cell
    have m4 := (kk4.kept hg (by simp; omega)).cell
    have hbw := hbC.out
    have hbs := hbw.size
    rw [hs5] at hbs
    have hBB := hB.out
    have hBel : Below w.heap.size w (WE.putObj w5.heap.size (.deferred none)) := ⟨hg.os.trans (ko.trans hbw.os), hg.tape.trans (kt.trans hbw.tape), hg.output.trans (kou.trans hbw.output), by rw [size_putObj]; omega,
      fun k hk => (World.putObj_heap_other (by omega)).trans ((kold k (by omega)).trans (hbw.block k (by omega)))⟩
    have hown := own_less (ownsRow_putObj kr (.deferred none) kd rfl) (base' := w.heap.size) (by omega)
    refine ⟨by simp, .inl ⟨_, _, rfl, run_takeDeferred kd, ?_⟩⟩
    refine ⟨.tuple #[vo, .int .i64 (t.2.1 : Int), .int .i64 30], by simp [results, Tryd.results15, m2, m3, m4, go_sem], vo, ?_, hBel, ?_⟩
    · rw [hP]
    · rw [hP]; exact hown

set_option maxHeartbeats 1000000 in
set_option maxRecDepth 100000 in
theorem All_any (s : ByteArray) (w : World) :
    Calls Tryd.prog 15 #[.string s] w fun e w' => ∃ v, e = .returned (.tuple #[v, .int .i64 (allP s).2.1, .int .i64 (allP s).2.2]) ∧ Below w.heap.size w w' ∧
      w'.ownsRow w.heap.size 24 4 v (allP s).1.length (cellsTk s (allP s).1) := by
  by_cases hs : s.size ≤ 4096
  · exact all_main s hs w
  · have hck := fun W => check_any s 0 W
    have hc0 : chk s 0 = 21 := by unfold chk; rw [if_pos (by omega)]
    have hP : allP s = ([], 0, 21) := by unfold allP; rw [if_pos (by omega)]
    rw [hc0] at hck
    rw [hP]
    obtain ⟨B, hB⟩ : ∃ B, w.heap.size = B := ⟨_, rfl⟩
    replace hck := Lib.hid hck
    clear hP hc0
    go_enter Tryd.func15, Tryd.ntmps15
    go_upto_region 1 with fail
    try rw [hB]
    have b2 := ((Boxed.new w 35 (.slice none 0 0)).alloc (.cells #[.int .i64 0] 3)).alloc (.cells #[.int .i64 0] 25)
    have b3 := (Boxed.new (w.alloc (.cells #[.slice none 0 0] 35)) 3 (.int .i64 0)).alloc (.cells #[.int .i64 0] 25)
    have b4 := Boxed.new ((w.alloc (.cells #[.slice none 0 0] 35)).alloc (.cells #[.int .i64 0] 3)) 25 (.int .i64 0)
    have hbA : Below B w (((w.alloc (.cells #[.slice none 0 0] 35)).alloc (.cells #[.int .i64 0] 3)).alloc (.cells #[.int .i64 0] 25)) := (((Below.refl B w).alloc (by omega) _).alloc (by simp; omega) _).alloc (by simp; omega) _
    have e3 : (w.alloc (.cells #[.slice none 0 0] 35)).heap.size = B + 1 := by simp [hB]
    have e4 : ((w.alloc (.cells #[.slice none 0 0] 35)).alloc (.cells #[.int .i64 0] 3)).heap.size = B + 1 + 1 := by simp [hB]
    rw [hB] at b2
    rw [e3] at b3
    rw [e4] at b4
    generalize (((w.alloc (.cells #[.slice none 0 0] 35)).alloc (.cells #[.int .i64 0] 3)).alloc (.cells #[.int .i64 0] 25)) = w1 at b2 b3 b4 hbA ⊢
    clear e3 e4
    have c2 := b2.cell
    have c3 := b3.cell
    have c4 := b4.cell
    have f2 := b2.frozen
    have f3 := b3.frozen
    have f4 := b4.frozen
    have l2 := b2.lt
    have l3 := b3.lt
    have l4 := b4.lt
    have d4 : ¬ B = B + 1 := by omega
    have d5 : ¬ B = B + 1 + 1 := by omega
    have d6 : ¬ B + 1 = B + 1 + 1 := by omega
    have q4 := Ne.symm d4
    have q5 := Ne.symm d5
    have q6 := Ne.symm d6
    have hbE : Below B w (((w1.setCell ⟨B, 0, none⟩ (.slice none 0 0)).setCell ⟨B + 1, 0, none⟩ (.int .i64 0)).setCell ⟨B + 1 + 1, 0, none⟩ (.int .i64 21)) := ((hbA.setCell (Nat.le_refl B) _).setCell (Nat.le_succ B) _).setCell (by show B ≤ B + 1 + 1; omega) _
    have g1 := grownBy_setCell' w1 B (.slice none 0 0)
    have g2 := grownBy_setCell' (w1.setCell ⟨B, 0, none⟩ (.slice none 0 0)) (B + 1) (.int .i64 0)
    have g3 := grownBy_setCell' ((w1.setCell ⟨B, 0, none⟩ (.slice none 0 0)).setCell ⟨B + 1, 0, none⟩ (.int .i64 0)) (B + 1 + 1) (.int .i64 21)
    have m2 := (((b2.set (.slice none 0 0)).kept g2 (by simp)).kept g3 (by simp; omega)).cell
    have m3 := (((b3.kept g1 (by simp)).set (.int .i64 0)).kept g3 (by simp)).cell
    have m4 := (((b4.kept g1 (by simp; omega)).kept g2 (by simp)).set (.int .i64 21)).cell
    replace b2 := Lib.hid b2
    replace b3 := Lib.hid b3
    replace b4 := Lib.hid b4
    replace hbA := Lib.hid hbA
    replace hB := Lib.hid hB
    replace hbE := Lib.hid hbE
    replace m2 := Lib.hid m2
    replace m3 := Lib.hid m3
    replace m4 := Lib.hid m4
    clear g1 g2 g3
    go_wp2_with fail
    refine (hck.out _).mono ?_
    rintro e w' ⟨rfl, hwq⟩
    obtain rfl := hwq.symm
    clear hck hwq
    go_wp2
    generalize (((w1.setCell ⟨B, 0, none⟩ (.slice none 0 0)).setCell ⟨B + 1, 0, none⟩ (.int .i64 0)).setCell ⟨B + 1 + 1, 0, none⟩ (.int .i64 21)) = wE at hbE m2 m3 m4 ⊢
    have m2 := m2.out
    have m3 := m3.out
    have m4 := m4.out
    exact bodyPost_ret (v := .tuple #[.slice none 0 0, .int .i64 0, .int .i64 21]) (by simp [results, Tryd.results15, m2, m3, m4, go_sem]) rfl ⟨_, rfl, by rw [hB.out]; exact hbE.out, World.ownsRow_nil _ _ _ _⟩
end Go.Proofs.YtjeleebgifajkaaDoor
