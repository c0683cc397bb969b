/-
  TreesKinds: whatever list and number come in, not too great, the law answers true. Conditions: of bulk at most 1048576.
-/
import Derived.Test.YtmchfoedjajbdaaGreatZk12
set_option linter.unusedSimpArgs false
set_option linter.unusedVariables false
namespace Go.Proofs.YtmchfoedjajbdaaGreat
open Go Go.RowKit Go.ChangeMaps

section
variable {w : World}
set_option maxRecDepth 100000 in
theorem Bare2_any (s : ByteArray) : Calls Tryz.prog 21 #[.string s] w fun e w' => ∃ b, e = .returned (.slice (some ⟨b, 0, none⟩) 1 1) ∧ Blk w' b [.int .i64 1, .string s, .int .i64 0, .bool false, .slice none 0 0, .slice none 0 0] 66 ∧ w.heap.size ≤ b ∧ Below w.heap.size w w' := by
  have hk := Lib.hid (Blk.new w [.int .i64 1, .string s, .int .i64 0, .bool false, .slice none 0 0, .slice none 0 0] 66)
  have hb := Lib.hid ((Below.refl w.heap.size w).alloc (Nat.le_refl _) (.cells #[.int .i64 1, .string s, .int .i64 0, .bool false, .slice none 0 0, .slice none 0 0] 66))
  go_enter Tryz.func21, Tryz.ntmps21
  go_wp2
  go_ret
  exact ⟨_, rfl, hk.out, Nat.le_refl _, hb.out⟩
end
theorem _root_.Go.Proofs.YtmchfoedjajbdaaGreat.Blk.bel {w w' : World} {b : Nat} {cur : List Value} {t : TypeId} (h : Blk w b cur t) (k : Below w.heap.size w w') : Blk w' b cur t := (k.block b h.lt).trans h
section
variable {W0 : World}
/-- Check of a command alone. -/
theorem Check1 {w : World} {B : Nat} {k : Int} {b g : Bool} {n : ByteArray} {S W R L C : F} {x : Int} (hx : checkP (nd1 k b n g S W R L C) = x) (hs : Slc w (some ⟨B, 0, none⟩) 1 (nd1 k b n g S W R L C)) (ht : Ty (nd1 k b n g S W R L C) 0) (hw : wt (nd1 k b n g S W R L C) ≤ 4194304) (hy : byF (nd1 k b n g S W R L C) ≤ 1000000) :
    Calls Tryz.prog 9 #[.slice (some ⟨B, 0, none⟩) 1 1] w fun e w' => e = .returned (.int .i64 x) ∧ Below w.heap.size w w' := by
  have h := Check_any ht hs hw hy
  rw [hx, show (nd1 k b n g S W R L C).len = 1 from rfl] at h
  exact h
set_option maxRecDepth 100000 in
set_option maxHeartbeats 16000000 in
theorem lawKinds_any {f : F} {A : Option Addr} {c0 : Nat} {wh : Int} (ht : Ty f 0) (hs : Slc W0 A c0 f) (hw : wt f ≤ 1048576) (hi : I64 wh) :
    Calls Tryz.prog 6 #[.slice A f.len c0, .int .i64 wh] W0 fun e w' => e = .returned (.bool true) ∧ Below W0.heap.size W0 w' := by
  have hlw := len_wt f
  have hfew := fun w (h : Below W0.heap.size W0 w) => Few_any ht hw (hs.below h)
  have haw := fun w => awake_any (w := w)
  obtain ⟨q, hq⟩ : ∃ q, fewB f = q := ⟨_, rfl⟩
  rw [hq] at hfew
  obtain ⟨N, hN⟩ : ∃ N, f.len = N := ⟨_, rfl⟩
  rw [hN] at hfew hlw ⊢
  have h0 := Below.refl W0.heap.size W0
  have hN9 : (N : Int) ≤ 4194304 := by omega
  replace haw := Lib.hid haw
  cases q
  · clear hs ht hw hN hq
    go_enter Tryz.func6, Tryz.ntmps6
    go_wp2_with fail
    refine (hfew _ h0).mono ?_
    rintro e w1 ⟨rfl, hb1⟩
    clear hfew h0
    go_wp2_with fail
    refine (haw.out _).mono ?_
    rintro e w9 ⟨rfl, h9⟩
    have hE := Lib.hid (hb1.trans (h9.mono hb1.size))
    clear h9 hb1 haw
    go_wp2
    go_ret
    exact ⟨rfl, hE.out⟩
  have hfb : szF f ≤ 300 ∧ dpF f ≤ 40 ∧ byF f ≤ 2000 := by
    unfold fewB at hq
    simp only [Bool.and_eq_true, decide_eq_true_eq] at hq
    exact ⟨hq.1.1, hq.1.2, hq.2⟩
  have hck := fun w (h : Below W0.heap.size W0 w) => Check_any ht (hs.below h) (by omega) (by omega)
  rw [hN] at hck
  obtain ⟨x, hx⟩ : ∃ x, checkP f = x := ⟨_, rfl⟩
  rw [hx] at hck
  by_cases hx0 : x = 0
  case neg =>
    have g1 : (x != 0) = true := by simp [hx0]
    clear hs ht hw hN hq hfb hx
    go_enter Tryz.func6, Tryz.ntmps6
    go_wp2_with fail
    refine (hfew _ h0).mono ?_
    rintro e w1 ⟨rfl, hb1⟩
    have hck1 := hck w1 hb1
    clear hfew h0 hck
    go_wp2_with fail
    refine hck1.mono ?_
    rintro e w2 ⟨rfl, hb2⟩
    have h2 := hb1.trans (hb2.mono hb1.size)
    clear hck1 hb1 hb2
    go_wp2_with fail
    refine (haw.out _).mono ?_
    rintro e w9 ⟨rfl, h9⟩
    have hE := Lib.hid (h2.trans (h9.mono h2.size))
    clear h9 h2 haw
    go_wp2
    go_ret
    exact ⟨rfl, hE.out⟩
  subst hx0
  by_cases hN0 : N = 0
  · subst hN0
    clear hs ht hw hN hq hfb hx
    go_enter Tryz.func6, Tryz.ntmps6
    go_wp2_with fail
    refine (hfew _ h0).mono ?_
    rintro e w1 ⟨rfl, hb1⟩
    have hck1 := hck w1 hb1
    clear hfew h0 hck
    go_wp2_with fail
    refine hck1.mono ?_
    rintro e w2 ⟨rfl, hb2⟩
    have h2 := hb1.trans (hb2.mono hb1.size)
    clear hck1 hb1 hb2
    go_wp2_with fail
    refine (haw.out _).mono ?_
    rintro e w9 ⟨rfl, h9⟩
    have hE := Lib.hid (h2.trans (h9.mono h2.size))
    clear h9 h2 haw
    go_wp2
    go_ret
    exact ⟨rfl, hE.out⟩
  have hdp : dpF f ≤ 20 ∧ okF f 0 false = true := by
    unfold checkP at hx
    by_cases h1 : 20 < dpF f
    · rw [if_pos h1] at hx; exact absurd hx (by decide)
    · rw [if_neg h1] at hx
      cases ho : okF f 0 false with
      | true => exact ⟨by omega, rfl⟩
      | false => rw [ho] at hx; exact absurd hx (by decide)
  obtain ⟨j, hj, hjN⟩ : ∃ j : Nat, ((wh.tmod (N : Int) + (N : Int)).tmod (N : Int)) = (j : Int) ∧ j < N := by
    have hp : (0 : Int) < (N : Int) := by omega
    have h1 := Int.lt_tmod_of_pos wh hp
    have h2 := Int.tmod_lt_of_pos wh hp
    have h3 := Int.tmod_nonneg (N : Int) (a := wh.tmod (N : Int) + (N : Int)) (by omega)
    have h4 := Int.tmod_lt_of_pos (wh.tmod (N : Int) + (N : Int)) hp
    exact ⟨((wh.tmod (N : Int) + (N : Int)).tmod (N : Int)).toNat, by omega, by omega⟩
  have hm1 : -(4194304 : Int) < wh.tmod (N : Int) ∧ wh.tmod (N : Int) ≤ 4194304 := by
    have hp : (0 : Int) < (N : Int) := by omega
    have h1 := Int.lt_tmod_of_pos wh hp
    have h2 := Int.tmod_lt_of_pos wh hp
    omega
  obtain ⟨B, oo, rfl, hBl, hrw⟩ := hs.2.2 (by omega)
  have htd := ty_drop j ht
  obtain ⟨k, b, n, g, S, W, R, L, C, r, hd, hk64, htS, htW, htR, htL, htC, _⟩ := at_node htd (by rw [drop_len]; omega)
  have hrd := rw_drop j ht (by omega) hrw
  have hgood := good_of (by have h := ok_at ht (by decide) hdp.2 j (by omega); rw [hd] at h; exact h)
  have hdpd := dpF_drop j f
  have hwtd := wt_drop j f
  have hbyd := by_drop j f
  rw [hd] at hrd hdpd hwtd hbyd
  rw [show szT 0 = 9 from rfl] at hrd
  simp only [dpF] at hdpd
  simp only [wt] at hwtd
  simp only [byF] at hbyd
  have hdk : ∀ k b g, dpF (nd1 k b n g S W R L C) ≤ 20 := fun k b g => by simp only [nd1, dpF]; omega
  have hwk : ∀ k b g, wt (nd1 k b n g S W R L C) ≤ 4194304 := fun k b g => by simp only [nd1, wt]; omega
  have hyk : ∀ k b g, byF (nd1 k b n g S W R L C) ≤ 1000000 := fun k b g => by simp only [nd1, byF]; omega
  have htk : ∀ k b g, I64 k → Ty (nd1 k b n g S W R L C) 0 := fun k b g h => ⟨rfl, h, htS, htW, htR, htL, htC, trivial⟩
  obtain ⟨e0, e1, e2, e3, ⟨AS, cS, e4, hsS⟩, ⟨AW, cW, e5, hsW⟩, ⟨AR, cR, e6, hsR⟩, ⟨AL, cL, e7, hsL⟩, ⟨AC, cC, e8, hsC⟩, _⟩ := rw_node.1 hrd
  have hk0 : checkP (nd1 0 b n g S W R L C) = 1 := by rw [check_of (hdk 0 b g) (ok_no (own_kind (by decide)))]; rfl
  have hk14 : checkP (nd1 14 b n g S W R L C) = 1 := by rw [check_of (hdk 14 b g) (ok_no (own_kind (by decide)))]; rfl
  have hkb := check_of (hdk k true g) (ok_bang hgood)
  have hkg := check_of (hdk k b true) (ok_given hgood)
  have hkc := fun (C' : F) (hC : 0 < C'.len) (h2 : k ≠ 12) => ok_case (C' := C') hgood hC h2
  have kM : Hid (∀ w B, Below W0.heap.size W0 w → Blk w B [.int .i64 0, .bool b, .string n, .bool g, .slice AS S.len cS, .slice AW W.len cW, .slice AR R.len cR, .slice AL L.len cL, .slice AC C.len cC] 43 → Calls Tryz.prog 9 #[.slice (some ⟨B, 0, none⟩) 1 1] w fun e w' => e = .returned (.int .i64 (1)) ∧ Below w.heap.size w w') := Lib.hid (fun w B hb hB => Check1 hk0 (slc_node1 hB (hsS.below hb) (hsW.below hb) (hsR.below hb) (hsL.below hb) (hsC.below hb)) (htk _ _ _ (by unfold I64; omega)) (hwk _ _ _) (hyk _ _ _))
  have kO : Hid (∀ w B, Below W0.heap.size W0 w → Blk w B [.int .i64 14, .bool b, .string n, .bool g, .slice AS S.len cS, .slice AW W.len cW, .slice AR R.len cR, .slice AL L.len cL, .slice AC C.len cC] 43 → Calls Tryz.prog 9 #[.slice (some ⟨B, 0, none⟩) 1 1] w fun e w' => e = .returned (.int .i64 (1)) ∧ Below w.heap.size w w') := Lib.hid (fun w B hb hB => Check1 hk14 (slc_node1 hB (hsS.below hb) (hsW.below hb) (hsR.below hb) (hsL.below hb) (hsC.below hb)) (htk _ _ _ (by unfold I64; omega)) (hwk _ _ _) (hyk _ _ _))
  have kP : Hid (∀ w B, Below W0.heap.size W0 w → Blk w B [.int .i64 k, .bool true, .string n, .bool g, .slice AS S.len cS, .slice AW W.len cW, .slice AR R.len cR, .slice AL L.len cL, .slice AC C.len cC] 43 → Calls Tryz.prog 9 #[.slice (some ⟨B, 0, none⟩) 1 1] w fun e w' => e = .returned (.int .i64 (if decide (k = 2) then 0 else 1)) ∧ Below w.heap.size w w') := Lib.hid (fun w B hb hB => Check1 hkb (slc_node1 hB (hsS.below hb) (hsW.below hb) (hsR.below hb) (hsL.below hb) (hsC.below hb)) (htk _ _ _ hk64) (hwk _ _ _) (hyk _ _ _))
  have kQ : Hid (∀ w B, Below W0.heap.size W0 w → Blk w B [.int .i64 k, .bool b, .string n, .bool true, .slice AS S.len cS, .slice AW W.len cW, .slice AR R.len cR, .slice AL L.len cL, .slice AC C.len cC] 43 → Calls Tryz.prog 9 #[.slice (some ⟨B, 0, none⟩) 1 1] w fun e w' => e = .returned (.int .i64 (if decide (k = 11) then 0 else 1)) ∧ Below w.heap.size w w') := Lib.hid (fun w B hb hB => Check1 hkg (slc_node1 hB (hsS.below hb) (hsW.below hb) (hsR.below hb) (hsL.below hb) (hsC.below hb)) (htk _ _ _ hk64) (hwk _ _ _) (hyk _ _ _))
  have kR : Hid (k ≠ 12 → ∀ w B cb, Below W0.heap.size W0 w → Slc w (some ⟨cb, 0, none⟩) 1 (.case (.row (wdF ⟨#[97]⟩) .nil) .nil .nil) → Blk w B [.int .i64 k, .bool b, .string n, .bool g, .slice AS S.len cS, .slice AW W.len cW, .slice AR R.len cR, .slice AL L.len cL, .slice (some ⟨cb, 0, none⟩) 1 1] 43 → Calls Tryz.prog 9 #[.slice (some ⟨B, 0, none⟩) 1 1] w fun e w' => ∃ z : Int, z ≠ 0 ∧ e = .returned (.int .i64 z) ∧ Below w.heap.size w w') := Lib.hid (fun h12 w B cb hb hcs hB => by
    have hok := hkc (.case (.row (wdF ⟨#[97]⟩) .nil) .nil .nil) (by decide) h12
    have hne : checkP (nd1 k b n g S W R L (.case (.row (wdF ⟨#[97]⟩) .nil) .nil .nil)) ≠ 0 := by
      unfold checkP
      rw [hok]
      split <;> decide
    have hwc : wt (.case (.row (wdF ⟨#[97]⟩) .nil) .nil .nil) ≤ 5 ∧ byF (.case (.row (wdF ⟨#[97]⟩) .nil) .nil .nil) ≤ 5 := by decide +kernel
    refine (Check1 rfl (slc_node1 (C := .case (.row (wdF ⟨#[97]⟩) .nil) .nil .nil) hB (hsS.below hb) (hsW.below hb) (hsR.below hb) (hsL.below hb) hcs) ?_ ?_ ?_).mono fun e w' ⟨h1, h2⟩ => ⟨_, hne, h1, h2⟩
    · exact ⟨rfl, hk64, htS, htW, htR, htL, ⟨rfl, .inl ⟨rfl, ⟨rfl, by unfold I64; omega, by unfold I64; omega, trivial, trivial, trivial⟩, trivial⟩, trivial, trivial⟩, trivial⟩
    · simp only [nd1, wt] at hwc ⊢; omega
    · simp only [nd1, byF] at hwc ⊢; omega)
  generalize S.len = mS at *
  generalize W.len = mW at *
  generalize R.len = mR at *
  generalize L.len = mL at *
  generalize C.len = mC at *
  have hBl9 := fun w (h : Below W0.heap.size W0 w) => Nat.lt_of_lt_of_le hBl h.size
  have hcl : Hid (∀ w, Below W0.heap.size W0 w → w.cell? ⟨B, oo + j * 9, none⟩ = some (.int .i64 k) ∧ w.cell? ⟨B, oo + j * 9 + 1, none⟩ = some (.bool b) ∧ w.cell? ⟨B, oo + j * 9 + 2, none⟩ = some (.string n) ∧ w.cell? ⟨B, oo + j * 9 + 3, none⟩ = some (.bool g) ∧ w.cell? ⟨B, oo + j * 9 + 4, none⟩ = some (.slice AS mS cS) ∧ w.cell? ⟨B, oo + j * 9 + 5, none⟩ = some (.slice AW mW cW) ∧ w.cell? ⟨B, oo + j * 9 + 6, none⟩ = some (.slice AR mR cR) ∧ w.cell? ⟨B, oo + j * 9 + 7, none⟩ = some (.slice AL mL cL) ∧ w.cell? ⟨B, oo + j * 9 + 8, none⟩ = some (.slice AC mC cC) ∧ B < w.heap.size) := Lib.hid (fun w h => ⟨cell_below h hBl e0, cell_below h hBl e1, cell_below h hBl e2, cell_below h hBl e3, cell_below h hBl e4, cell_below h hBl e5, cell_below h hBl e6, cell_below h hBl e7, cell_below h hBl e8, Nat.lt_of_lt_of_le hBl h.size⟩)
  have hN2 : ((N : Int) == 0) = false := beq_eq_false_iff_ne.2 (by omega)
  have hN3 : ¬ (N : Int) = 0 := by omega
  have hwr : IntKind.i64.wrap (wh.tmod (N : Int) + (N : Int)) = wh.tmod (N : Int) + (N : Int) := by rw [IntKind.wrap_i64]; omega
  have hj0 : (0 : Int) ≤ (j : Int) := by omega
  have hj1 : (j : Int) < (N : Int) := by omega
  have hj2 : (j : Int) ≤ 4194304 := by omega
  replace hm1 := Lib.hid hm1
  clear hs ht hw hN hq hfb hx hdp htd hgood hdpd hwtd hbyd hdk hwk hyk htk hkb hkg hkc hk0 hk14 hd hrd hrw hsS hsW hsR hsL hsC htS htW htR htL htC e0 e1 e2 e3 e4 e5 e6 e7 e8 hBl hBl9 hlw
  go_enter Tryz.func6, Tryz.ntmps6
  go_wp2_with fail
  refine (hfew _ h0).mono ?_
  rintro e w1 ⟨rfl, hb1⟩
  have hck1 := hck w1 hb1
  clear hfew h0 hck
  go_wp2_with fail
  refine hck1.mono ?_
  rintro e w2 ⟨rfl, hb2⟩
  have h2 := hb1.trans (hb2.mono hb1.size)
  clear hck1 hb1 hb2
  obtain ⟨z0, z1, z2, z3, z4, z5, z6, z7, z8, zl⟩ := hcl.out w2 h2
  replace h2 := Lib.hid h2
  go_upto_region 4 with fail
  clear z0 z1 z2 z3 z4 z5 z6 z7 z8 zl
  have bn := Blk.new w2 [.int .i64 k, .bool b, .string n, .bool g, .slice AS mS cS, .slice AW mW cW, .slice AR mR cR, .slice AL mL cL, .slice AC mC cC] 43
  have hb := alloc_below w2 (.cells #[.int .i64 k, .bool b, .string n, .bool g, .slice AS mS cS, .slice AW mW cW, .slice AR mR cR, .slice AL mL cL, .slice AC mC cC] 43)
  generalize w2.alloc (.cells #[.int .i64 k, .bool b, .string n, .bool g, .slice AS mS cS, .slice AW mW cW, .slice AR mR cR, .slice AL mL cL, .slice AC mC cC] 43) = v1 at bn hb ⊢
  have hv1 := Lib.hid (h2.out.trans (hb.mono h2.out.size))
  clear hb h2
  generalize hz9 : w2.heap.size = zn at bn ⊢
  replace hz9 := Lib.hid hz9
  replace bn := Lib.hid bn
  have y0 := bn.out.cell (i := 0) rfl
  have y1 := bn.out.cell (i := 1) rfl
  have y2 := bn.out.cell (i := 2) rfl
  have y3 := bn.out.cell (i := 3) rfl
  have y4 := bn.out.cell (i := 4) rfl
  have y5 := bn.out.cell (i := 5) rfl
  have y6 := bn.out.cell (i := 6) rfl
  have y7 := bn.out.cell (i := 7) rfl
  have y8 := bn.out.cell (i := 8) rfl
  have yl := bn.out.lt
  go_upto_region 6 with fail
  clear y0 y1 y2 y3 y4 y5 y6 y7 y8 yl
  have bm := Blk.new v1 [.int .i64 0, .bool b, .string n, .bool g, .slice AS mS cS, .slice AW mW cW, .slice AR mR cR, .slice AL mL cL, .slice AC mC cC] 43
  have hb := alloc_below v1 (.cells #[.int .i64 0, .bool b, .string n, .bool g, .slice AS mS cS, .slice AW mW cW, .slice AR mR cR, .slice AL mL cL, .slice AC mC cC] 43)
  generalize v1.alloc (.cells #[.int .i64 0, .bool b, .string n, .bool g, .slice AS mS cS, .slice AW mW cW, .slice AR mR cR, .slice AL mL cL, .slice AC mC cC] 43) = v2 at bm hb ⊢
  have hv2 := Lib.hid (hv1.out.trans (hb.mono hv1.out.size))
  replace bn := Lib.hid (bn.out.bel hb)
  clear hb hv1
  generalize hz9 : v1.heap.size = zm at bm ⊢
  replace hz9 := Lib.hid hz9
  replace bm := Lib.hid bm
  have y0 := bn.out.cell (i := 0) rfl
  have y1 := bn.out.cell (i := 1) rfl
  have y2 := bn.out.cell (i := 2) rfl
  have y3 := bn.out.cell (i := 3) rfl
  have y4 := bn.out.cell (i := 4) rfl
  have y5 := bn.out.cell (i := 5) rfl
  have y6 := bn.out.cell (i := 6) rfl
  have y7 := bn.out.cell (i := 7) rfl
  have y8 := bn.out.cell (i := 8) rfl
  have yl := bn.out.lt
  go_upto_region 8 with fail
  clear y0 y1 y2 y3 y4 y5 y6 y7 y8 yl
  have bo := Blk.new v2 [.int .i64 14, .bool b, .string n, .bool g, .slice AS mS cS, .slice AW mW cW, .slice AR mR cR, .slice AL mL cL, .slice AC mC cC] 43
  have hb := alloc_below v2 (.cells #[.int .i64 14, .bool b, .string n, .bool g, .slice AS mS cS, .slice AW mW cW, .slice AR mR cR, .slice AL mL cL, .slice AC mC cC] 43)
  generalize v2.alloc (.cells #[.int .i64 14, .bool b, .string n, .bool g, .slice AS mS cS, .slice AW mW cW, .slice AR mR cR, .slice AL mL cL, .slice AC mC cC] 43) = v3 at bo hb ⊢
  have hv3 := Lib.hid (hv2.out.trans (hb.mono hv2.out.size))
  replace bn := Lib.hid (bn.out.bel hb)
  replace bm := Lib.hid (bm.out.bel hb)
  clear hb hv2
  generalize hz9 : v2.heap.size = zo at bo ⊢
  replace hz9 := Lib.hid hz9
  replace bo := Lib.hid bo
  have y0 := bn.out.cell (i := 0) rfl
  have y1 := bn.out.cell (i := 1) rfl
  have y2 := bn.out.cell (i := 2) rfl
  have y3 := bn.out.cell (i := 3) rfl
  have y4 := bn.out.cell (i := 4) rfl
  have y5 := bn.out.cell (i := 5) rfl
  have y6 := bn.out.cell (i := 6) rfl
  have y7 := bn.out.cell (i := 7) rfl
  have y8 := bn.out.cell (i := 8) rfl
  have yl := bn.out.lt
  go_upto_region 10 with fail
  clear y0 y1 y2 y3 y4 y5 y6 y7 y8 yl
  have bp := Blk.new v3 [.int .i64 k, .bool true, .string n, .bool g, .slice AS mS cS, .slice AW mW cW, .slice AR mR cR, .slice AL mL cL, .slice AC mC cC] 43
  have hb := alloc_below v3 (.cells #[.int .i64 k, .bool true, .string n, .bool g, .slice AS mS cS, .slice AW mW cW, .slice AR mR cR, .slice AL mL cL, .slice AC mC cC] 43)
  generalize v3.alloc (.cells #[.int .i64 k, .bool true, .string n, .bool g, .slice AS mS cS, .slice AW mW cW, .slice AR mR cR, .slice AL mL cL, .slice AC mC cC] 43) = v4 at bp hb ⊢
  have hv4 := Lib.hid (hv3.out.trans (hb.mono hv3.out.size))
  replace bn := Lib.hid (bn.out.bel hb)
  replace bm := Lib.hid (bm.out.bel hb)
  replace bo := Lib.hid (bo.out.bel hb)
  clear hb hv3
  generalize hz9 : v3.heap.size = zp at bp ⊢
  replace hz9 := Lib.hid hz9
  replace bp := Lib.hid bp
  have y0 := bn.out.cell (i := 0) rfl
  have y1 := bn.out.cell (i := 1) rfl
  have y2 := bn.out.cell (i := 2) rfl
  have y3 := bn.out.cell (i := 3) rfl
  have y4 := bn.out.cell (i := 4) rfl
  have y5 := bn.out.cell (i := 5) rfl
  have y6 := bn.out.cell (i := 6) rfl
  have y7 := bn.out.cell (i := 7) rfl
  have y8 := bn.out.cell (i := 8) rfl
  have yl := bn.out.lt
  go_upto_region 12 with fail
  clear y0 y1 y2 y3 y4 y5 y6 y7 y8 yl
  have bq := Blk.new v4 [.int .i64 k, .bool b, .string n, .bool true, .slice AS mS cS, .slice AW mW cW, .slice AR mR cR, .slice AL mL cL, .slice AC mC cC] 43
  have hb := alloc_below v4 (.cells #[.int .i64 k, .bool b, .string n, .bool true, .slice AS mS cS, .slice AW mW cW, .slice AR mR cR, .slice AL mL cL, .slice AC mC cC] 43)
  generalize v4.alloc (.cells #[.int .i64 k, .bool b, .string n, .bool true, .slice AS mS cS, .slice AW mW cW, .slice AR mR cR, .slice AL mL cL, .slice AC mC cC] 43) = v5 at bq hb ⊢
  have hv5 := Lib.hid (hv4.out.trans (hb.mono hv4.out.size))
  replace bn := Lib.hid (bn.out.bel hb)
  replace bm := Lib.hid (bm.out.bel hb)
  replace bo := Lib.hid (bo.out.bel hb)
  replace bp := Lib.hid (bp.out.bel hb)
  clear hb hv4
  generalize hz9 : v4.heap.size = zq at bq ⊢
  replace hz9 := Lib.hid hz9
  replace bq := Lib.hid bq
  have y0 := bn.out.cell (i := 0) rfl
  have y1 := bn.out.cell (i := 1) rfl
  have y2 := bn.out.cell (i := 2) rfl
  have y3 := bn.out.cell (i := 3) rfl
  have y4 := bn.out.cell (i := 4) rfl
  have y5 := bn.out.cell (i := 5) rfl
  have y6 := bn.out.cell (i := 6) rfl
  have y7 := bn.out.cell (i := 7) rfl
  have y8 := bn.out.cell (i := 8) rfl
  have yl := bn.out.lt
  go_upto_region 13 with fail
  clear y0 y1 y2 y3 y4 y5 y6 y7 y8 yl
  have ln := bn.out.lt
  have lm := bm.out.lt
  have lo := bo.out.lt
  have lp := bp.out.lt
  have lq := bq.out.lt
  have lw := hv5.out.size
  have br := Blk.new v5 [.int .i64 k, .bool b, .string n, .bool g, .slice AS mS cS, .slice AW mW cW, .slice AR mR cR, .slice AL mL cL, .slice AC mC cC] 43
  have hb := alloc_below v5 (.cells #[.int .i64 k, .bool b, .string n, .bool g, .slice AS mS cS, .slice AW mW cW, .slice AR mR cR, .slice AL mL cL, .slice AC mC cC] 43)
  generalize v5.alloc (.cells #[.int .i64 k, .bool b, .string n, .bool g, .slice AS mS cS, .slice AW mW cW, .slice AR mR cR, .slice AL mL cL, .slice AC mC cC] 43) = v6 at br hb ⊢
  have hv6 := Lib.hid (hv5.out.trans (hb.mono hv5.out.size))
  replace bn := Lib.hid (bn.out.bel hb)
  replace bm := Lib.hid (bm.out.bel hb)
  replace bo := Lib.hid (bo.out.bel hb)
  replace bp := Lib.hid (bp.out.bel hb)
  replace bq := Lib.hid (bq.out.bel hb)
  clear hb hv5
  generalize hz9 : v5.heap.size = zr at br ln lm lo lp lq lw ⊢
  replace hz9 := Lib.hid hz9
  replace br := Lib.hid br
  replace ln := Lib.hid ln
  replace lm := Lib.hid lm
  replace lo := Lib.hid lo
  replace lp := Lib.hid lp
  replace lq := Lib.hid lq
  replace lw := Lib.hid lw
  go_wp2_with fail
  refine (Bare2_any _).mono ?_
  rintro e v7 ⟨bw, rfl, bk, hle, hb⟩
  have lr : Hid (zr < bw) := Lib.hid (Nat.lt_of_lt_of_le br.out.lt hle)
  replace bn := Lib.hid (bn.out.bel hb)
  replace bm := Lib.hid (bm.out.bel hb)
  replace bo := Lib.hid (bo.out.bel hb)
  replace bp := Lib.hid (bp.out.bel hb)
  replace bq := Lib.hid (bq.out.bel hb)
  replace br := Lib.hid (br.out.bel hb)
  have hv7 := Lib.hid (hv6.out.trans (hb.mono hv6.out.size))
  clear hb hv6 hle
  have x8 := br.out.cell (i := 8) rfl
  have xl := br.out.lt
  have xf := br.out.frozen 8
  have st := Stp.set (S := fun b => b = zr) (w := v7) (b := zr) rfl 8 (.slice (some ⟨v7.heap.size + 1, 0, none⟩) 1 1)
  have b8 : Blk (v7.setCell ⟨zr, 8, none⟩ (.slice (some ⟨v7.heap.size + 1, 0, none⟩) 1 1)) zr [.int .i64 k, .bool b, .string n, .bool g, .slice AS mS cS, .slice AW mW cW, .slice AR mR cR, .slice AL mL cL, .slice (some ⟨v7.heap.size + 1, 0, none⟩) 1 1] 43 := br.out.set 8 _
  have sn : Blk (v7.setCell ⟨zr, 8, none⟩ (.slice (some ⟨v7.heap.size + 1, 0, none⟩) 1 1)) zn _ _ := (st.block zn bn.out.lt (Nat.ne_of_lt ln.out)).trans bn.out
  have sm : Blk (v7.setCell ⟨zr, 8, none⟩ (.slice (some ⟨v7.heap.size + 1, 0, none⟩) 1 1)) zm _ _ := (st.block zm bm.out.lt (Nat.ne_of_lt lm.out)).trans bm.out
  have so : Blk (v7.setCell ⟨zr, 8, none⟩ (.slice (some ⟨v7.heap.size + 1, 0, none⟩) 1 1)) zo _ _ := (st.block zo bo.out.lt (Nat.ne_of_lt lo.out)).trans bo.out
  have sp : Blk (v7.setCell ⟨zr, 8, none⟩ (.slice (some ⟨v7.heap.size + 1, 0, none⟩) 1 1)) zp _ _ := (st.block zp bp.out.lt (Nat.ne_of_lt lp.out)).trans bp.out
  have sq : Blk (v7.setCell ⟨zr, 8, none⟩ (.slice (some ⟨v7.heap.size + 1, 0, none⟩) 1 1)) zq _ _ := (st.block zq bq.out.lt (Nat.ne_of_lt lq.out)).trans bq.out
  have sk : Blk (v7.setCell ⟨zr, 8, none⟩ (.slice (some ⟨v7.heap.size + 1, 0, none⟩) 1 1)) bw _ _ := (st.block bw bk.lt (Nat.ne_of_gt lr.out)).trans bk
  have hv8 : Below W0.heap.size W0 (v7.setCell ⟨zr, 8, none⟩ (.slice (some ⟨v7.heap.size + 1, 0, none⟩) 1 1)) := hv7.out.setCell lw.out _
  have hsz : (v7.setCell ⟨zr, 8, none⟩ (.slice (some ⟨v7.heap.size + 1, 0, none⟩) 1 1)).heap.size = v7.heap.size := World.size_setCell ..
  obtain ⟨h1, h2, hb⟩ := two_new' (v7.setCell ⟨zr, 8, none⟩ (.slice (some ⟨v7.heap.size + 1, 0, none⟩) 1 1)) (.cells #[.slice (some ⟨bw, 0, none⟩) 1 1] 29) (.cells #[.slice (some ⟨v7.heap.size, 0, none⟩) 1 1, .slice none 0 0] 45)
  rw [hsz] at h1 h2
  replace st := Lib.hid st
  replace b8 := Lib.hid b8
  replace sk := Lib.hid sk
  replace h1 := Lib.hid h1
  replace h2 := Lib.hid h2
  replace hb := Lib.hid hb
  replace hsz := Lib.hid hsz
  replace sn := Lib.hid sn
  replace sm := Lib.hid sm
  replace so := Lib.hid so
  replace sp := Lib.hid sp
  replace sq := Lib.hid sq
  replace hv8 := Lib.hid hv8
  clear bn bm bo bp bq br ln lm lo lp lq lw lr bk hv7 st
  go_upto_region 14 with fail
  clear x8 xl xf
  generalize ((v7.setCell ⟨zr, 8, none⟩ (.slice (some ⟨v7.heap.size + 1, 0, none⟩) 1 1)).alloc (.cells #[.slice (some ⟨bw, 0, none⟩) 1 1] 29)).alloc (.cells #[.slice (some ⟨v7.heap.size, 0, none⟩) 1 1, .slice none 0 0] 45) = v9 at h1 h2 hb ⊢
  replace b8 := Lib.hid (b8.out.bel hb.out)
  replace sk := Lib.hid (sk.out.bel hb.out)
  replace sn := Lib.hid (sn.out.bel hb.out)
  replace sm := Lib.hid (sm.out.bel hb.out)
  replace so := Lib.hid (so.out.bel hb.out)
  replace sp := Lib.hid (sp.out.bel hb.out)
  replace sq := Lib.hid (sq.out.bel hb.out)
  have hv9 := Lib.hid (hv8.out.trans (hb.out.mono hv8.out.size))
  have h1' : Blk v9 v7.heap.size [.slice (some ⟨bw, 0, none⟩) 1 1] 29 := h1.out
  have hcs0 := slc_row1 (T := 29) (x := wdF ⟨#[97]⟩) h1' (slc_word sk.out)
  have hcs : Hid (Slc v9 (some ⟨v7.heap.size + 1, 0, none⟩) 1 (.case (.row (wdF ⟨#[97]⟩) .nil) .nil .nil)) := Lib.hid (by
    have h2' : Blk v9 (v7.heap.size + 1) _ _ := h2.out
    exact ⟨Nat.le_refl _, by decide, fun _ => ⟨v7.heap.size + 1, 0, rfl, h2'.lt, rw_case.2 ⟨⟨_, 1, h2'.cell (i := 0) rfl, hcs0⟩, ⟨none, 0, h2'.cell (i := 1) rfl, Slc.nil⟩, trivial⟩⟩⟩)
  clear hcs0 h1' h1 h2 hb hv8 hsz sk
  generalize v7.heap.size + 1 = cb at b8 hcs ⊢
  have hcells : Hid (∀ w, Below v9.heap.size v9 w → w.cell? ⟨zn, 0, none⟩ = some (.int .i64 k) ∧ w.cell? ⟨zn, 1, none⟩ = some (.bool b) ∧ w.cell? ⟨zn, 2, none⟩ = some (.string n) ∧ w.cell? ⟨zn, 3, none⟩ = some (.bool g) ∧ w.cell? ⟨zn, 4, none⟩ = some (.slice AS mS cS) ∧ w.cell? ⟨zn, 5, none⟩ = some (.slice AW mW cW) ∧ w.cell? ⟨zn, 6, none⟩ = some (.slice AR mR cR) ∧ w.cell? ⟨zn, 7, none⟩ = some (.slice AL mL cL) ∧ w.cell? ⟨zn, 8, none⟩ = some (.slice AC mC cC) ∧ w.cell? ⟨zm, 0, none⟩ = some (.int .i64 0) ∧ w.cell? ⟨zm, 1, none⟩ = some (.bool b) ∧ w.cell? ⟨zm, 2, none⟩ = some (.string n) ∧ w.cell? ⟨zm, 3, none⟩ = some (.bool g) ∧ w.cell? ⟨zm, 4, none⟩ = some (.slice AS mS cS) ∧ w.cell? ⟨zm, 5, none⟩ = some (.slice AW mW cW) ∧ w.cell? ⟨zm, 6, none⟩ = some (.slice AR mR cR) ∧ w.cell? ⟨zm, 7, none⟩ = some (.slice AL mL cL) ∧ w.cell? ⟨zm, 8, none⟩ = some (.slice AC mC cC) ∧ w.cell? ⟨zo, 0, none⟩ = some (.int .i64 14) ∧ w.cell? ⟨zo, 1, none⟩ = some (.bool b) ∧ w.cell? ⟨zo, 2, none⟩ = some (.string n) ∧ w.cell? ⟨zo, 3, none⟩ = some (.bool g) ∧ w.cell? ⟨zo, 4, none⟩ = some (.slice AS mS cS) ∧ w.cell? ⟨zo, 5, none⟩ = some (.slice AW mW cW) ∧ w.cell? ⟨zo, 6, none⟩ = some (.slice AR mR cR) ∧ w.cell? ⟨zo, 7, none⟩ = some (.slice AL mL cL) ∧ w.cell? ⟨zo, 8, none⟩ = some (.slice AC mC cC) ∧ w.cell? ⟨zp, 0, none⟩ = some (.int .i64 k) ∧ w.cell? ⟨zp, 1, none⟩ = some (.bool true) ∧ w.cell? ⟨zp, 2, none⟩ = some (.string n) ∧ w.cell? ⟨zp, 3, none⟩ = some (.bool g) ∧ w.cell? ⟨zp, 4, none⟩ = some (.slice AS mS cS) ∧ w.cell? ⟨zp, 5, none⟩ = some (.slice AW mW cW) ∧ w.cell? ⟨zp, 6, none⟩ = some (.slice AR mR cR) ∧ w.cell? ⟨zp, 7, none⟩ = some (.slice AL mL cL) ∧ w.cell? ⟨zp, 8, none⟩ = some (.slice AC mC cC) ∧ w.cell? ⟨zq, 0, none⟩ = some (.int .i64 k) ∧ w.cell? ⟨zq, 1, none⟩ = some (.bool b) ∧ w.cell? ⟨zq, 2, none⟩ = some (.string n) ∧ w.cell? ⟨zq, 3, none⟩ = some (.bool true) ∧ w.cell? ⟨zq, 4, none⟩ = some (.slice AS mS cS) ∧ w.cell? ⟨zq, 5, none⟩ = some (.slice AW mW cW) ∧ w.cell? ⟨zq, 6, none⟩ = some (.slice AR mR cR) ∧ w.cell? ⟨zq, 7, none⟩ = some (.slice AL mL cL) ∧ w.cell? ⟨zq, 8, none⟩ = some (.slice AC mC cC) ∧ w.cell? ⟨zr, 0, none⟩ = some (.int .i64 k) ∧ w.cell? ⟨zr, 1, none⟩ = some (.bool b) ∧ w.cell? ⟨zr, 2, none⟩ = some (.string n) ∧ w.cell? ⟨zr, 3, none⟩ = some (.bool g) ∧ w.cell? ⟨zr, 4, none⟩ = some (.slice AS mS cS) ∧ w.cell? ⟨zr, 5, none⟩ = some (.slice AW mW cW) ∧ w.cell? ⟨zr, 6, none⟩ = some (.slice AR mR cR) ∧ w.cell? ⟨zr, 7, none⟩ = some (.slice AL mL cL) ∧ w.cell? ⟨zr, 8, none⟩ = some (.slice (some ⟨cb, 0, none⟩) 1 1)) := Lib.hid (fun w h => by
    have a1 := sn.out.bel h
    have a2 := sm.out.bel h
    have a3 := so.out.bel h
    have a4 := sp.out.bel h
    have a5 := sq.out.bel h
    have a6 := b8.out.bel h
    exact ⟨a1.cell (i := 0) rfl, a1.cell (i := 1) rfl, a1.cell (i := 2) rfl, a1.cell (i := 3) rfl, a1.cell (i := 4) rfl, a1.cell (i := 5) rfl, a1.cell (i := 6) rfl, a1.cell (i := 7) rfl, a1.cell (i := 8) rfl, a2.cell (i := 0) rfl, a2.cell (i := 1) rfl, a2.cell (i := 2) rfl, a2.cell (i := 3) rfl, a2.cell (i := 4) rfl, a2.cell (i := 5) rfl, a2.cell (i := 6) rfl, a2.cell (i := 7) rfl, a2.cell (i := 8) rfl, a3.cell (i := 0) rfl, a3.cell (i := 1) rfl, a3.cell (i := 2) rfl, a3.cell (i := 3) rfl, a3.cell (i := 4) rfl, a3.cell (i := 5) rfl, a3.cell (i := 6) rfl, a3.cell (i := 7) rfl, a3.cell (i := 8) rfl, a4.cell (i := 0) rfl, a4.cell (i := 1) rfl, a4.cell (i := 2) rfl, a4.cell (i := 3) rfl, a4.cell (i := 4) rfl, a4.cell (i := 5) rfl, a4.cell (i := 6) rfl, a4.cell (i := 7) rfl, a4.cell (i := 8) rfl, a5.cell (i := 0) rfl, a5.cell (i := 1) rfl, a5.cell (i := 2) rfl, a5.cell (i := 3) rfl, a5.cell (i := 4) rfl, a5.cell (i := 5) rfl, a5.cell (i := 6) rfl, a5.cell (i := 7) rfl, a5.cell (i := 8) rfl, a6.cell (i := 0) rfl, a6.cell (i := 1) rfl, a6.cell (i := 2) rfl, a6.cell (i := 3) rfl, a6.cell (i := 4) rfl, a6.cell (i := 5) rfl, a6.cell (i := 6) rfl, a6.cell (i := 7) rfl, a6.cell (i := 8) rfl⟩)
  clear sn sm so sp sq b8
  by_cases h2 : k = 2
  · have h11 : ¬ k = 11 := by omega
    have h12 : ¬ k = 12 := by omega
    rw [show decide (k = 2) = true from decide_eq_true h2] at kP
    rw [show decide (k = 11) = false from decide_eq_false h11] at kQ
    simp only [if_true, if_false, Bool.false_eq_true] at kP kQ
    have g2 : (k == 2) = true := by simp [h2]
    have g11 : (k == 11) = false := beq_eq_false_iff_ne.2 h11
    have g12 : (k == 12) = false := beq_eq_false_iff_ne.2 h12
    replace h2 := Lib.hid h2
    replace h11 := Lib.hid h11
    replace h12 := Lib.hid h12
    have hS0 := drewN_below v9 1
    refine wp_region_held_drew (S := fun w => Below v9.heap.size v9 w) (by kernel_rfl) hS0 (fun _ => ?_)
    change Below v9.heap.size v9 v9.drew at hS0
    generalize v9.drew = vd at hS0 ⊢
    refine wpAnyH_take (i := 0) (oi := { dst := some 52, op := Op.load 43 (Operand.tmp 6), type := 43, pos := "law.go:178", after := #[], guard := none }) (v := .agg #[.int .i64 0, .bool b, .string n, .bool g, .slice AS mS cS, .slice AW mW cW, .slice AR mR cR, .slice AL mL cL, .slice AC mC cC]) rfl (by kernel_rfl) (by kernel_rfl) (by kernel_rfl) (fun _ _ _ h => h) (Or.inl ⟨by kernel_rfl, ?_⟩) hS0 ?_
    · intro W hW
      obtain ⟨yn0, yn1, yn2, yn3, yn4, yn5, yn6, yn7, yn8, ym0, ym1, ym2, ym3, ym4, ym5, ym6, ym7, ym8, yo0, yo1, yo2, yo3, yo4, yo5, yo6, yo7, yo8, yp0, yp1, yp2, yp3, yp4, yp5, yp6, yp7, yp8, yq0, yq1, yq2, yq3, yq4, yq5, yq6, yq7, yq8, yr0, yr1, yr2, yr3, yr4, yr5, yr6, yr7, yr8⟩ := hcells.out W hW
      clear hW
      go_simp
    try simp only [Act.put, List.setIfInBounds_toArray, List.set_cons_zero, List.set_cons_succ]
    refine wpAnyH_ready (rs := [1]) (by kernel_rfl) (by simp) ?_
    refine AllReadyH.cons (o := { dst := some 53, op := Op.buildSlice 22 1 #[(0, Operand.tmp 52)], type := 22, pos := "law.go:178", after := #[{ on := 0, ground := Ground.data }], guard := none }) rfl (fun K hK => ?_) AllReadyH.nil
    go_simp
    have bk53 := Blk.new vd [.int .i64 0, .bool b, .string n, .bool g, .slice AS mS cS, .slice AW mW cW, .slice AR mR cR, .slice AL mL cL, .slice AC mC cC] 43
    have hb53 := alloc_below vd (.cells #[.int .i64 0, .bool b, .string n, .bool g, .slice AS mS cS, .slice AW mW cW, .slice AR mR cR, .slice AL mL cL, .slice AC mC cC] 43)
    generalize vd.alloc (.cells #[.int .i64 0, .bool b, .string n, .bool g, .slice AS mS cS, .slice AW mW cW, .slice AR mR cR, .slice AL mL cL, .slice AC mC cC] 43) = x53 at bk53 hb53 ⊢
    have hS53 := hS0.trans (hb53.mono hS0.size)
    generalize hz53 : vd.heap.size = n53 at bk53 ⊢
    replace hz53 := Lib.hid hz53
    replace bk53 := Lib.hid bk53
    clear hb53
    refine hK.out _ _ hS53 (fun _ => ?_)
    clear hK K
    try simp only [Act.put, List.setIfInBounds_toArray, List.set_cons_zero, List.set_cons_succ]
    refine wpAnyH_ready (rs := [2]) (by kernel_rfl) (by simp) ?_
    refine AllReadyH.cons (o := { dst := some 54, op := Op.call { callee := Callee.value (Operand.func 9), args := #[Operand.tmp 53], argTypes := #[22] }, type := 25, pos := "law.go:178", after := #[{ on := 1, ground := Ground.data }], guard := none }) rfl (fun K hK => ?_) AllReadyH.nil
    go_simp
    (go_at_call 9; refine (kM.out _ _ (hv9.out.trans (hS53.mono hv9.out.size)) bk53.out).mono ?_; rintro e x54 ⟨rfl, hc54⟩; have hS54 := hS53.trans (hc54.mono hS53.size))
    go_wp2_with fail
    refine hK.out _ _ hS54 (fun _ => ?_)
    clear hK K
    try simp only [Act.put, List.setIfInBounds_toArray, List.set_cons_zero, List.set_cons_succ]
    refine wpAnyH_take (i := 3) (oi := { dst := some 55, op := Op.binOp BinOp.eql 25 (Operand.tmp 54) (Operand.const (Value.int IntKind.i64 1)) 25, type := 4, pos := "law.go:178", after := #[{ on := 2, ground := Ground.data }], guard := none }) (v := .bool true) rfl (by kernel_rfl) (by kernel_rfl) (by kernel_rfl) (fun _ _ _ h => h) (Or.inl ⟨by kernel_rfl, ?_⟩) hS54 ?_
    · intro W hW
      clear hW
      go_simp
    try simp only [Act.put, List.setIfInBounds_toArray, List.set_cons_zero, List.set_cons_succ]
    refine wpAnyH_take (i := 4) (oi := { dst := some 56, op := Op.move (Operand.tmp 55), type := 4, pos := "law.go:178", after := #[{ on := 3, ground := Ground.data }, { on := 2, ground := Ground.chain }], guard := none }) (v := .bool true) rfl (by kernel_rfl) (by kernel_rfl) (by kernel_rfl) (fun _ _ _ h => h) (Or.inl ⟨by kernel_rfl, ?_⟩) hS54 ?_
    · intro W hW
      clear hW
      go_simp
    try simp only [Act.put, List.setIfInBounds_toArray, List.set_cons_zero, List.set_cons_succ]
    refine wpAnyH_take (i := 5) (oi := { dst := some 57, op := Op.load 43 (Operand.tmp 7), type := 43, pos := "law.go:178", after := #[{ on := 4, ground := Ground.guard }], guard := some (4, true) }) (v := .agg #[.int .i64 14, .bool b, .string n, .bool g, .slice AS mS cS, .slice AW mW cW, .slice AR mR cR, .slice AL mL cL, .slice AC mC cC]) rfl (by kernel_rfl) (by kernel_rfl) (by kernel_rfl) (fun _ _ _ h => h) (Or.inl ⟨by kernel_rfl, ?_⟩) hS54 ?_
    · intro W hW
      obtain ⟨yn0, yn1, yn2, yn3, yn4, yn5, yn6, yn7, yn8, ym0, ym1, ym2, ym3, ym4, ym5, ym6, ym7, ym8, yo0, yo1, yo2, yo3, yo4, yo5, yo6, yo7, yo8, yp0, yp1, yp2, yp3, yp4, yp5, yp6, yp7, yp8, yq0, yq1, yq2, yq3, yq4, yq5, yq6, yq7, yq8, yr0, yr1, yr2, yr3, yr4, yr5, yr6, yr7, yr8⟩ := hcells.out W hW
      clear hW
      go_simp
    try simp only [Act.put, List.setIfInBounds_toArray, List.set_cons_zero, List.set_cons_succ]
    refine wpAnyH_ready (rs := [6]) (by kernel_rfl) (by simp) ?_
    refine AllReadyH.cons (o := { dst := some 58, op := Op.buildSlice 22 1 #[(0, Operand.tmp 57)], type := 22, pos := "law.go:178", after := #[{ on := 5, ground := Ground.data }, { on := 4, ground := Ground.guard }], guard := some (4, true) }) rfl (fun K hK => ?_) AllReadyH.nil
    go_simp
    have bk58 := Blk.new x54 [.int .i64 14, .bool b, .string n, .bool g, .slice AS mS cS, .slice AW mW cW, .slice AR mR cR, .slice AL mL cL, .slice AC mC cC] 43
    have hb58 := alloc_below x54 (.cells #[.int .i64 14, .bool b, .string n, .bool g, .slice AS mS cS, .slice AW mW cW, .slice AR mR cR, .slice AL mL cL, .slice AC mC cC] 43)
    generalize x54.alloc (.cells #[.int .i64 14, .bool b, .string n, .bool g, .slice AS mS cS, .slice AW mW cW, .slice AR mR cR, .slice AL mL cL, .slice AC mC cC] 43) = x58 at bk58 hb58 ⊢
    have hS58 := hS54.trans (hb58.mono hS54.size)
    generalize hz58 : x54.heap.size = n58 at bk58 ⊢
    replace hz58 := Lib.hid hz58
    replace bk58 := Lib.hid bk58
    clear hb58
    refine hK.out _ _ hS58 (fun _ => ?_)
    clear hK K
    try simp only [Act.put, List.setIfInBounds_toArray, List.set_cons_zero, List.set_cons_succ]
    refine wpAnyH_ready (rs := [7]) (by kernel_rfl) (by simp) ?_
    refine AllReadyH.cons (o := { dst := some 59, op := Op.call { callee := Callee.value (Operand.func 9), args := #[Operand.tmp 58], argTypes := #[22] }, type := 25, pos := "law.go:178", after := #[{ on := 6, ground := Ground.data }, { on := 4, ground := Ground.chain }, { on := 4, ground := Ground.guard }], guard := some (4, true) }) rfl (fun K hK => ?_) AllReadyH.nil
    go_simp
    (go_at_call 9; refine (kO.out _ _ (hv9.out.trans (hS58.mono hv9.out.size)) bk58.out).mono ?_; rintro e x59 ⟨rfl, hc59⟩; have hS59 := hS58.trans (hc59.mono hS58.size))
    go_wp2_with fail
    refine hK.out _ _ hS59 (fun _ => ?_)
    clear hK K
    try simp only [Act.put, List.setIfInBounds_toArray, List.set_cons_zero, List.set_cons_succ]
    refine wpAnyH_take (i := 8) (oi := { dst := some 60, op := Op.binOp BinOp.eql 25 (Operand.tmp 59) (Operand.const (Value.int IntKind.i64 1)) 25, type := 4, pos := "law.go:178", after := #[{ on := 7, ground := Ground.data }, { on := 4, ground := Ground.guard }], guard := some (4, true) }) (v := .bool true) rfl (by kernel_rfl) (by kernel_rfl) (by kernel_rfl) (fun _ _ _ h => h) (Or.inl ⟨by kernel_rfl, ?_⟩) hS59 ?_
    · intro W hW
      clear hW
      go_simp
    try simp only [Act.put, List.setIfInBounds_toArray, List.set_cons_zero, List.set_cons_succ]
    refine wpAnyH_take (i := 9) (oi := { dst := some 61, op := Op.pick (Operand.tmp 56) (Operand.tmp 60) (Operand.const (Value.bool false)), type := 4, pos := "law.go:178", after := #[{ on := 4, ground := Ground.data }, { on := 8, ground := Ground.data }], guard := none }) (v := .bool true) rfl (by kernel_rfl) (by kernel_rfl) (by kernel_rfl) (fun _ _ _ h => h) (Or.inl ⟨by kernel_rfl, ?_⟩) hS59 ?_
    · intro W hW
      clear hW
      go_simp
    try simp only [Act.put, List.setIfInBounds_toArray, List.set_cons_zero, List.set_cons_succ]
    refine wpAnyH_take (i := 10) (oi := { dst := some 62, op := Op.move (Operand.tmp 61), type := 4, pos := "law.go:178", after := #[{ on := 9, ground := Ground.data }, { on := 7, ground := Ground.chain }], guard := none }) (v := .bool true) rfl (by kernel_rfl) (by kernel_rfl) (by kernel_rfl) (fun _ _ _ h => h) (Or.inl ⟨by kernel_rfl, ?_⟩) hS59 ?_
    · intro W hW
      clear hW
      go_simp
    try simp only [Act.put, List.setIfInBounds_toArray, List.set_cons_zero, List.set_cons_succ]
    refine wpAnyH_take (i := 11) (oi := { dst := some 63, op := Op.load 43 (Operand.tmp 8), type := 43, pos := "law.go:178", after := #[{ on := 10, ground := Ground.guard }], guard := some (10, true) }) (v := .agg #[.int .i64 k, .bool true, .string n, .bool g, .slice AS mS cS, .slice AW mW cW, .slice AR mR cR, .slice AL mL cL, .slice AC mC cC]) rfl (by kernel_rfl) (by kernel_rfl) (by kernel_rfl) (fun _ _ _ h => h) (Or.inl ⟨by kernel_rfl, ?_⟩) hS59 ?_
    · intro W hW
      obtain ⟨yn0, yn1, yn2, yn3, yn4, yn5, yn6, yn7, yn8, ym0, ym1, ym2, ym3, ym4, ym5, ym6, ym7, ym8, yo0, yo1, yo2, yo3, yo4, yo5, yo6, yo7, yo8, yp0, yp1, yp2, yp3, yp4, yp5, yp6, yp7, yp8, yq0, yq1, yq2, yq3, yq4, yq5, yq6, yq7, yq8, yr0, yr1, yr2, yr3, yr4, yr5, yr6, yr7, yr8⟩ := hcells.out W hW
      clear hW
      go_simp
    try simp only [Act.put, List.setIfInBounds_toArray, List.set_cons_zero, List.set_cons_succ]
    refine wpAnyH_take (i := 15) (oi := { dst := some 67, op := Op.fieldAddr 43 (Operand.tmp 5) 0, type := 0, pos := "law.go:178", after := #[{ on := 10, ground := Ground.guard }], guard := some (10, true) }) (v := .pointer (some ⟨zn, 0, none⟩)) rfl (by kernel_rfl) (by kernel_rfl) (by kernel_rfl) (fun _ _ _ h => h) (Or.inl ⟨by kernel_rfl, ?_⟩) hS59 ?_
    · intro W hW
      clear hW
      go_simp
    try simp only [Act.put, List.setIfInBounds_toArray, List.set_cons_zero, List.set_cons_succ]
    refine wpAnyH_take (i := 16) (oi := { dst := some 68, op := Op.load 3 (Operand.tmp 67), type := 3, pos := "law.go:178", after := #[{ on := 15, ground := Ground.data }, { on := 10, ground := Ground.guard }], guard := some (10, true) }) (v := .int .i64 k) rfl (by kernel_rfl) (by kernel_rfl) (by kernel_rfl) (fun _ _ _ h => h) (Or.inl ⟨by kernel_rfl, ?_⟩) hS59 ?_
    · intro W hW
      obtain ⟨yn0, yn1, yn2, yn3, yn4, yn5, yn6, yn7, yn8, ym0, ym1, ym2, ym3, ym4, ym5, ym6, ym7, ym8, yo0, yo1, yo2, yo3, yo4, yo5, yo6, yo7, yo8, yp0, yp1, yp2, yp3, yp4, yp5, yp6, yp7, yp8, yq0, yq1, yq2, yq3, yq4, yq5, yq6, yq7, yq8, yr0, yr1, yr2, yr3, yr4, yr5, yr6, yr7, yr8⟩ := hcells.out W hW
      clear hW
      go_simp
    try simp only [Act.put, List.setIfInBounds_toArray, List.set_cons_zero, List.set_cons_succ]
    refine wpAnyH_take (i := 17) (oi := { dst := some 69, op := Op.binOp BinOp.eql 3 (Operand.tmp 68) (Operand.const (Value.int IntKind.i64 2)) 3, type := 4, pos := "law.go:178", after := #[{ on := 16, ground := Ground.data }, { on := 10, ground := Ground.guard }], guard := some (10, true) }) (v := .bool true) rfl (by kernel_rfl) (by kernel_rfl) (by kernel_rfl) (fun _ _ _ h => h) (Or.inl ⟨by kernel_rfl, ?_⟩) hS59 ?_
    · intro W hW
      clear hW
      go_simp
    try simp only [Act.put, List.setIfInBounds_toArray, List.set_cons_zero, List.set_cons_succ]
    refine wpAnyH_ready (rs := [12]) (by kernel_rfl) (by simp) ?_
    refine AllReadyH.cons (o := { dst := some 64, op := Op.buildSlice 22 1 #[(0, Operand.tmp 63)], type := 22, pos := "law.go:178", after := #[{ on := 11, ground := Ground.data }, { on := 10, ground := Ground.guard }], guard := some (10, true) }) rfl (fun K hK => ?_) AllReadyH.nil
    go_simp
    have bk64 := Blk.new x59 [.int .i64 k, .bool true, .string n, .bool g, .slice AS mS cS, .slice AW mW cW, .slice AR mR cR, .slice AL mL cL, .slice AC mC cC] 43
    have hb64 := alloc_below x59 (.cells #[.int .i64 k, .bool true, .string n, .bool g, .slice AS mS cS, .slice AW mW cW, .slice AR mR cR, .slice AL mL cL, .slice AC mC cC] 43)
    generalize x59.alloc (.cells #[.int .i64 k, .bool true, .string n, .bool g, .slice AS mS cS, .slice AW mW cW, .slice AR mR cR, .slice AL mL cL, .slice AC mC cC] 43) = x64 at bk64 hb64 ⊢
    have hS64 := hS59.trans (hb64.mono hS59.size)
    generalize hz64 : x59.heap.size = n64 at bk64 ⊢
    replace hz64 := Lib.hid hz64
    replace bk64 := Lib.hid bk64
    clear hb64
    refine hK.out _ _ hS64 (fun _ => ?_)
    clear hK K
    try simp only [Act.put, List.setIfInBounds_toArray, List.set_cons_zero, List.set_cons_succ]
    refine wpAnyH_ready (rs := [13]) (by kernel_rfl) (by simp) ?_
    refine AllReadyH.cons (o := { dst := some 65, op := Op.call { callee := Callee.value (Operand.func 9), args := #[Operand.tmp 64], argTypes := #[22] }, type := 25, pos := "law.go:178", after := #[{ on := 12, ground := Ground.data }, { on := 10, ground := Ground.chain }, { on := 10, ground := Ground.guard }], guard := some (10, true) }) rfl (fun K hK => ?_) AllReadyH.nil
    go_simp
    (go_at_call 9; refine (kP.out _ _ (hv9.out.trans (hS64.mono hv9.out.size)) bk64.out).mono ?_; rintro e x65 ⟨rfl, hc65⟩; have hS65 := hS64.trans (hc65.mono hS64.size))
    go_wp2_with fail
    refine hK.out _ _ hS65 (fun _ => ?_)
    clear hK K
    try simp only [Act.put, List.setIfInBounds_toArray, List.set_cons_zero, List.set_cons_succ]
    refine wpAnyH_take (i := 14) (oi := { dst := some 66, op := Op.binOp BinOp.eql 25 (Operand.tmp 65) (Operand.const (Value.int IntKind.i64 0)) 25, type := 4, pos := "law.go:178", after := #[{ on := 13, ground := Ground.data }, { on := 10, ground := Ground.guard }], guard := some (10, true) }) (v := .bool true) rfl (by kernel_rfl) (by kernel_rfl) (by kernel_rfl) (fun _ _ _ h => h) (Or.inl ⟨by kernel_rfl, ?_⟩) hS65 ?_
    · intro W hW
      clear hW
      go_simp
    try simp only [Act.put, List.setIfInBounds_toArray, List.set_cons_zero, List.set_cons_succ]
    refine wpAnyH_take (i := 18) (oi := { dst := some 70, op := Op.binOp BinOp.eql 4 (Operand.tmp 66) (Operand.tmp 69) 4, type := 4, pos := "law.go:178", after := #[{ on := 14, ground := Ground.data }, { on := 17, ground := Ground.data }, { on := 10, ground := Ground.guard }], guard := some (10, true) }) (v := .bool true) rfl (by kernel_rfl) (by kernel_rfl) (by kernel_rfl) (fun _ _ _ h => h) (Or.inl ⟨by kernel_rfl, ?_⟩) hS65 ?_
    · intro W hW
      clear hW
      go_simp
    try simp only [Act.put, List.setIfInBounds_toArray, List.set_cons_zero, List.set_cons_succ]
    refine wpAnyH_take (i := 19) (oi := { dst := some 71, op := Op.pick (Operand.tmp 62) (Operand.tmp 70) (Operand.const (Value.bool false)), type := 4, pos := "law.go:178", after := #[{ on := 10, ground := Ground.data }, { on := 18, ground := Ground.data }], guard := none }) (v := .bool true) rfl (by kernel_rfl) (by kernel_rfl) (by kernel_rfl) (fun _ _ _ h => h) (Or.inl ⟨by kernel_rfl, ?_⟩) hS65 ?_
    · intro W hW
      clear hW
      go_simp
    try simp only [Act.put, List.setIfInBounds_toArray, List.set_cons_zero, List.set_cons_succ]
    refine wpAnyH_take (i := 20) (oi := { dst := some 72, op := Op.move (Operand.tmp 71), type := 4, pos := "law.go:178", after := #[{ on := 19, ground := Ground.data }, { on := 13, ground := Ground.chain }], guard := none }) (v := .bool true) rfl (by kernel_rfl) (by kernel_rfl) (by kernel_rfl) (fun _ _ _ h => h) (Or.inl ⟨by kernel_rfl, ?_⟩) hS65 ?_
    · intro W hW
      clear hW
      go_simp
    try simp only [Act.put, List.setIfInBounds_toArray, List.set_cons_zero, List.set_cons_succ]
    refine wpAnyH_take (i := 21) (oi := { dst := some 73, op := Op.load 43 (Operand.tmp 9), type := 43, pos := "law.go:178", after := #[{ on := 20, ground := Ground.guard }], guard := some (20, true) }) (v := .agg #[.int .i64 k, .bool b, .string n, .bool true, .slice AS mS cS, .slice AW mW cW, .slice AR mR cR, .slice AL mL cL, .slice AC mC cC]) rfl (by kernel_rfl) (by kernel_rfl) (by kernel_rfl) (fun _ _ _ h => h) (Or.inl ⟨by kernel_rfl, ?_⟩) hS65 ?_
    · intro W hW
      obtain ⟨yn0, yn1, yn2, yn3, yn4, yn5, yn6, yn7, yn8, ym0, ym1, ym2, ym3, ym4, ym5, ym6, ym7, ym8, yo0, yo1, yo2, yo3, yo4, yo5, yo6, yo7, yo8, yp0, yp1, yp2, yp3, yp4, yp5, yp6, yp7, yp8, yq0, yq1, yq2, yq3, yq4, yq5, yq6, yq7, yq8, yr0, yr1, yr2, yr3, yr4, yr5, yr6, yr7, yr8⟩ := hcells.out W hW
      clear hW
      go_simp
    try simp only [Act.put, List.setIfInBounds_toArray, List.set_cons_zero, List.set_cons_succ]
    refine wpAnyH_take (i := 25) (oi := { dst := some 77, op := Op.fieldAddr 43 (Operand.tmp 5) 0, type := 0, pos := "law.go:178", after := #[{ on := 20, ground := Ground.guard }], guard := some (20, true) }) (v := .pointer (some ⟨zn, 0, none⟩)) rfl (by kernel_rfl) (by kernel_rfl) (by kernel_rfl) (fun _ _ _ h => h) (Or.inl ⟨by kernel_rfl, ?_⟩) hS65 ?_
    · intro W hW
      clear hW
      go_simp
    try simp only [Act.put, List.setIfInBounds_toArray, List.set_cons_zero, List.set_cons_succ]
    refine wpAnyH_take (i := 26) (oi := { dst := some 78, op := Op.load 3 (Operand.tmp 77), type := 3, pos := "law.go:178", after := #[{ on := 25, ground := Ground.data }, { on := 20, ground := Ground.guard }], guard := some (20, true) }) (v := .int .i64 k) rfl (by kernel_rfl) (by kernel_rfl) (by kernel_rfl) (fun _ _ _ h => h) (Or.inl ⟨by kernel_rfl, ?_⟩) hS65 ?_
    · intro W hW
      obtain ⟨yn0, yn1, yn2, yn3, yn4, yn5, yn6, yn7, yn8, ym0, ym1, ym2, ym3, ym4, ym5, ym6, ym7, ym8, yo0, yo1, yo2, yo3, yo4, yo5, yo6, yo7, yo8, yp0, yp1, yp2, yp3, yp4, yp5, yp6, yp7, yp8, yq0, yq1, yq2, yq3, yq4, yq5, yq6, yq7, yq8, yr0, yr1, yr2, yr3, yr4, yr5, yr6, yr7, yr8⟩ := hcells.out W hW
      clear hW
      go_simp
    try simp only [Act.put, List.setIfInBounds_toArray, List.set_cons_zero, List.set_cons_succ]
    refine wpAnyH_take (i := 27) (oi := { dst := some 79, op := Op.binOp BinOp.eql 3 (Operand.tmp 78) (Operand.const (Value.int IntKind.i64 11)) 3, type := 4, pos := "law.go:178", after := #[{ on := 26, ground := Ground.data }, { on := 20, ground := Ground.guard }], guard := some (20, true) }) (v := .bool false) rfl (by kernel_rfl) (by kernel_rfl) (by kernel_rfl) (fun _ _ _ h => h) (Or.inl ⟨by kernel_rfl, ?_⟩) hS65 ?_
    · intro W hW
      clear hW
      go_simp
    try simp only [Act.put, List.setIfInBounds_toArray, List.set_cons_zero, List.set_cons_succ]
    refine wpAnyH_ready (rs := [22]) (by kernel_rfl) (by simp) ?_
    refine AllReadyH.cons (o := { dst := some 74, op := Op.buildSlice 22 1 #[(0, Operand.tmp 73)], type := 22, pos := "law.go:178", after := #[{ on := 21, ground := Ground.data }, { on := 20, ground := Ground.guard }], guard := some (20, true) }) rfl (fun K hK => ?_) AllReadyH.nil
    go_simp
    have bk74 := Blk.new x65 [.int .i64 k, .bool b, .string n, .bool true, .slice AS mS cS, .slice AW mW cW, .slice AR mR cR, .slice AL mL cL, .slice AC mC cC] 43
    have hb74 := alloc_below x65 (.cells #[.int .i64 k, .bool b, .string n, .bool true, .slice AS mS cS, .slice AW mW cW, .slice AR mR cR, .slice AL mL cL, .slice AC mC cC] 43)
    generalize x65.alloc (.cells #[.int .i64 k, .bool b, .string n, .bool true, .slice AS mS cS, .slice AW mW cW, .slice AR mR cR, .slice AL mL cL, .slice AC mC cC] 43) = x74 at bk74 hb74 ⊢
    have hS74 := hS65.trans (hb74.mono hS65.size)
    generalize hz74 : x65.heap.size = n74 at bk74 ⊢
    replace hz74 := Lib.hid hz74
    replace bk74 := Lib.hid bk74
    clear hb74
    refine hK.out _ _ hS74 (fun _ => ?_)
    clear hK K
    try simp only [Act.put, List.setIfInBounds_toArray, List.set_cons_zero, List.set_cons_succ]
    refine wpAnyH_ready (rs := [23]) (by kernel_rfl) (by simp) ?_
    refine AllReadyH.cons (o := { dst := some 75, op := Op.call { callee := Callee.value (Operand.func 9), args := #[Operand.tmp 74], argTypes := #[22] }, type := 25, pos := "law.go:178", after := #[{ on := 22, ground := Ground.data }, { on := 20, ground := Ground.chain }, { on := 20, ground := Ground.guard }], guard := some (20, true) }) rfl (fun K hK => ?_) AllReadyH.nil
    go_simp
    (go_at_call 9; refine (kQ.out _ _ (hv9.out.trans (hS74.mono hv9.out.size)) bk74.out).mono ?_; rintro e x75 ⟨rfl, hc75⟩; have hS75 := hS74.trans (hc75.mono hS74.size))
    go_wp2_with fail
    refine hK.out _ _ hS75 (fun _ => ?_)
    clear hK K
    try simp only [Act.put, List.setIfInBounds_toArray, List.set_cons_zero, List.set_cons_succ]
    refine wpAnyH_take (i := 24) (oi := { dst := some 76, op := Op.binOp BinOp.eql 25 (Operand.tmp 75) (Operand.const (Value.int IntKind.i64 0)) 25, type := 4, pos := "law.go:178", after := #[{ on := 23, ground := Ground.data }, { on := 20, ground := Ground.guard }], guard := some (20, true) }) (v := .bool false) rfl (by kernel_rfl) (by kernel_rfl) (by kernel_rfl) (fun _ _ _ h => h) (Or.inl ⟨by kernel_rfl, ?_⟩) hS75 ?_
    · intro W hW
      clear hW
      go_simp
    try simp only [Act.put, List.setIfInBounds_toArray, List.set_cons_zero, List.set_cons_succ]
    refine wpAnyH_take (i := 28) (oi := { dst := some 80, op := Op.binOp BinOp.eql 4 (Operand.tmp 76) (Operand.tmp 79) 4, type := 4, pos := "law.go:178", after := #[{ on := 24, ground := Ground.data }, { on := 27, ground := Ground.data }, { on := 20, ground := Ground.guard }], guard := some (20, true) }) (v := .bool true) rfl (by kernel_rfl) (by kernel_rfl) (by kernel_rfl) (fun _ _ _ h => h) (Or.inl ⟨by kernel_rfl, ?_⟩) hS75 ?_
    · intro W hW
      clear hW
      go_simp
    try simp only [Act.put, List.setIfInBounds_toArray, List.set_cons_zero, List.set_cons_succ]
    refine wpAnyH_take (i := 29) (oi := { dst := some 81, op := Op.pick (Operand.tmp 72) (Operand.tmp 80) (Operand.const (Value.bool false)), type := 4, pos := "law.go:178", after := #[{ on := 20, ground := Ground.data }, { on := 28, ground := Ground.data }], guard := none }) (v := .bool true) rfl (by kernel_rfl) (by kernel_rfl) (by kernel_rfl) (fun _ _ _ h => h) (Or.inl ⟨by kernel_rfl, ?_⟩) hS75 ?_
    · intro W hW
      clear hW
      go_simp
    try simp only [Act.put, List.setIfInBounds_toArray, List.set_cons_zero, List.set_cons_succ]
    refine wpAnyH_take (i := 30) (oi := { dst := some 82, op := Op.move (Operand.tmp 81), type := 4, pos := "law.go:178", after := #[{ on := 29, ground := Ground.data }, { on := 23, ground := Ground.chain }], guard := none }) (v := .bool true) rfl (by kernel_rfl) (by kernel_rfl) (by kernel_rfl) (fun _ _ _ h => h) (Or.inl ⟨by kernel_rfl, ?_⟩) hS75 ?_
    · intro W hW
      clear hW
      go_simp
    try simp only [Act.put, List.setIfInBounds_toArray, List.set_cons_zero, List.set_cons_succ]
    refine wpAnyH_take (i := 31) (oi := { dst := some 83, op := Op.fieldAddr 43 (Operand.tmp 5) 0, type := 0, pos := "law.go:178", after := #[{ on := 30, ground := Ground.guard }], guard := some (30, true) }) (v := .pointer (some ⟨zn, 0, none⟩)) rfl (by kernel_rfl) (by kernel_rfl) (by kernel_rfl) (fun _ _ _ h => h) (Or.inl ⟨by kernel_rfl, ?_⟩) hS75 ?_
    · intro W hW
      clear hW
      go_simp
    try simp only [Act.put, List.setIfInBounds_toArray, List.set_cons_zero, List.set_cons_succ]
    refine wpAnyH_take (i := 32) (oi := { dst := some 84, op := Op.load 3 (Operand.tmp 83), type := 3, pos := "law.go:178", after := #[{ on := 31, ground := Ground.data }, { on := 30, ground := Ground.guard }], guard := some (30, true) }) (v := .int .i64 k) rfl (by kernel_rfl) (by kernel_rfl) (by kernel_rfl) (fun _ _ _ h => h) (Or.inl ⟨by kernel_rfl, ?_⟩) hS75 ?_
    · intro W hW
      obtain ⟨yn0, yn1, yn2, yn3, yn4, yn5, yn6, yn7, yn8, ym0, ym1, ym2, ym3, ym4, ym5, ym6, ym7, ym8, yo0, yo1, yo2, yo3, yo4, yo5, yo6, yo7, yo8, yp0, yp1, yp2, yp3, yp4, yp5, yp6, yp7, yp8, yq0, yq1, yq2, yq3, yq4, yq5, yq6, yq7, yq8, yr0, yr1, yr2, yr3, yr4, yr5, yr6, yr7, yr8⟩ := hcells.out W hW
      clear hW
      go_simp
    try simp only [Act.put, List.setIfInBounds_toArray, List.set_cons_zero, List.set_cons_succ]
    refine wpAnyH_take (i := 33) (oi := { dst := some 85, op := Op.binOp BinOp.eql 3 (Operand.tmp 84) (Operand.const (Value.int IntKind.i64 12)) 3, type := 4, pos := "law.go:178", after := #[{ on := 32, ground := Ground.data }, { on := 30, ground := Ground.guard }], guard := some (30, true) }) (v := .bool false) rfl (by kernel_rfl) (by kernel_rfl) (by kernel_rfl) (fun _ _ _ h => h) (Or.inl ⟨by kernel_rfl, ?_⟩) hS75 ?_
    · intro W hW
      clear hW
      go_simp
    try simp only [Act.put, List.setIfInBounds_toArray, List.set_cons_zero, List.set_cons_succ]
    refine wpAnyH_take (i := 34) (oi := { dst := some 86, op := Op.move (Operand.tmp 85), type := 4, pos := "law.go:178", after := #[{ on := 33, ground := Ground.data }, { on := 30, ground := Ground.chain }, { on := 30, ground := Ground.guard }], guard := some (30, true) }) (v := .bool false) rfl (by kernel_rfl) (by kernel_rfl) (by kernel_rfl) (fun _ _ _ h => h) (Or.inl ⟨by kernel_rfl, ?_⟩) hS75 ?_
    · intro W hW
      clear hW
      go_simp
    try simp only [Act.put, List.setIfInBounds_toArray, List.set_cons_zero, List.set_cons_succ]
    refine wpAnyH_take (i := 35) (oi := { dst := some 87, op := Op.load 43 (Operand.tmp 10), type := 43, pos := "law.go:178", after := #[{ on := 34, ground := Ground.guard }], guard := some (34, false) }) (v := .agg #[.int .i64 k, .bool b, .string n, .bool g, .slice AS mS cS, .slice AW mW cW, .slice AR mR cR, .slice AL mL cL, .slice (some ⟨cb, 0, none⟩) 1 1]) rfl (by kernel_rfl) (by kernel_rfl) (by kernel_rfl) (fun _ _ _ h => h) (Or.inl ⟨by kernel_rfl, ?_⟩) hS75 ?_
    · intro W hW
      obtain ⟨yn0, yn1, yn2, yn3, yn4, yn5, yn6, yn7, yn8, ym0, ym1, ym2, ym3, ym4, ym5, ym6, ym7, ym8, yo0, yo1, yo2, yo3, yo4, yo5, yo6, yo7, yo8, yp0, yp1, yp2, yp3, yp4, yp5, yp6, yp7, yp8, yq0, yq1, yq2, yq3, yq4, yq5, yq6, yq7, yq8, yr0, yr1, yr2, yr3, yr4, yr5, yr6, yr7, yr8⟩ := hcells.out W hW
      clear hW
      go_simp
    try simp only [Act.put, List.setIfInBounds_toArray, List.set_cons_zero, List.set_cons_succ]
    refine wpAnyH_ready (rs := [36]) (by kernel_rfl) (by simp) ?_
    refine AllReadyH.cons (o := { dst := some 88, op := Op.buildSlice 22 1 #[(0, Operand.tmp 87)], type := 22, pos := "law.go:178", after := #[{ on := 35, ground := Ground.data }, { on := 34, ground := Ground.guard }], guard := some (34, false) }) rfl (fun K hK => ?_) AllReadyH.nil
    go_simp
    have bk88 := Blk.new x75 [.int .i64 k, .bool b, .string n, .bool g, .slice AS mS cS, .slice AW mW cW, .slice AR mR cR, .slice AL mL cL, .slice (some ⟨cb, 0, none⟩) 1 1] 43
    have hb88 := alloc_below x75 (.cells #[.int .i64 k, .bool b, .string n, .bool g, .slice AS mS cS, .slice AW mW cW, .slice AR mR cR, .slice AL mL cL, .slice (some ⟨cb, 0, none⟩) 1 1] 43)
    generalize x75.alloc (.cells #[.int .i64 k, .bool b, .string n, .bool g, .slice AS mS cS, .slice AW mW cW, .slice AR mR cR, .slice AL mL cL, .slice (some ⟨cb, 0, none⟩) 1 1] 43) = x88 at bk88 hb88 ⊢
    have hS88 := hS75.trans (hb88.mono hS75.size)
    generalize hz88 : x75.heap.size = n88 at bk88 ⊢
    replace hz88 := Lib.hid hz88
    replace bk88 := Lib.hid bk88
    clear hb88
    refine hK.out _ _ hS88 (fun _ => ?_)
    clear hK K
    try simp only [Act.put, List.setIfInBounds_toArray, List.set_cons_zero, List.set_cons_succ]
    refine wpAnyH_ready (rs := [37]) (by kernel_rfl) (by simp) ?_
    refine AllReadyH.cons (o := { dst := some 89, op := Op.call { callee := Callee.value (Operand.func 9), args := #[Operand.tmp 88], argTypes := #[22] }, type := 25, pos := "law.go:178", after := #[{ on := 36, ground := Ground.data }, { on := 34, ground := Ground.chain }, { on := 34, ground := Ground.guard }], guard := some (34, false) }) rfl (fun K hK => ?_) AllReadyH.nil
    go_simp
    (go_at_call 9; refine ((kR.out h12.out _ _ _ (hv9.out.trans (hS88.mono hv9.out.size)) (hcs.out.below hS88) bk88.out)).mono ?_; rintro e x89 ⟨zz, hzz, rfl, hc89⟩; have g9 : (zz != 0) = true := (by simp [hzz]); have hS89 := hS88.trans (hc89.mono hS88.size))
    go_wp2_with fail
    refine hK.out _ _ hS89 (fun _ => ?_)
    clear hK K
    try simp only [Act.put, List.setIfInBounds_toArray, List.set_cons_zero, List.set_cons_succ]
    refine wpAnyH_take (i := 38) (oi := { dst := some 90, op := Op.binOp BinOp.neq 25 (Operand.tmp 89) (Operand.const (Value.int IntKind.i64 0)) 25, type := 4, pos := "law.go:178", after := #[{ on := 37, ground := Ground.data }, { on := 34, ground := Ground.guard }], guard := some (34, false) }) (v := .bool true) rfl (by kernel_rfl) (by kernel_rfl) (by kernel_rfl) (fun _ _ _ h => h) (Or.inl ⟨by kernel_rfl, ?_⟩) hS89 ?_
    · intro W hW
      clear hW
      go_simp
    try simp only [Act.put, List.setIfInBounds_toArray, List.set_cons_zero, List.set_cons_succ]
    refine wpAnyH_take (i := 39) (oi := { dst := some 91, op := Op.pick (Operand.tmp 86) (Operand.const (Value.bool true)) (Operand.tmp 90), type := 4, pos := "law.go:178", after := #[{ on := 34, ground := Ground.data }, { on := 38, ground := Ground.data }, { on := 30, ground := Ground.guard }], guard := some (30, true) }) (v := .bool true) rfl (by kernel_rfl) (by kernel_rfl) (by kernel_rfl) (fun _ _ _ h => h) (Or.inl ⟨by kernel_rfl, ?_⟩) hS89 ?_
    · intro W hW
      clear hW
      go_simp
    try simp only [Act.put, List.setIfInBounds_toArray, List.set_cons_zero, List.set_cons_succ]
    refine wpAnyH_take (i := 40) (oi := { dst := some 92, op := Op.pick (Operand.tmp 82) (Operand.tmp 91) (Operand.const (Value.bool false)), type := 4, pos := "law.go:178", after := #[{ on := 30, ground := Ground.data }, { on := 39, ground := Ground.data }], guard := none }) (v := .bool true) rfl (by kernel_rfl) (by kernel_rfl) (by kernel_rfl) (fun _ _ _ h => h) (Or.inl ⟨by kernel_rfl, ?_⟩) hS89 ?_
    · intro W hW
      clear hW
      go_simp
    try simp only [Act.put, List.setIfInBounds_toArray, List.set_cons_zero, List.set_cons_succ]
    refine wpAnyH_take (i := 41) (oi := { dst := some 93, op := Op.move (Operand.tmp 92), type := 4, pos := "law.go:178", after := #[{ on := 40, ground := Ground.data }, { on := 37, ground := Ground.chain }], guard := none }) (v := .bool true) rfl (by kernel_rfl) (by kernel_rfl) (by kernel_rfl) (fun _ _ _ h => h) (Or.inl ⟨by kernel_rfl, ?_⟩) hS89 ?_
    · intro W hW
      clear hW
      go_simp
    try simp only [Act.put, List.setIfInBounds_toArray, List.set_cons_zero, List.set_cons_succ]
    refine wpAnyH_ready (rs := [42]) (by kernel_rfl) (by simp) ?_
    refine AllReadyH.cons (o := { dst := some 94, op := Op.call { callee := Callee.value (Operand.func 8), args := #[], argTypes := #[] }, type := 4, pos := "law.go:178", after := #[{ on := 41, ground := Ground.chain }, { on := 41, ground := Ground.guard }], guard := some (41, true) }) rfl (fun K hK => ?_) AllReadyH.nil
    go_simp
    (go_at_call 8; refine (haw.out _).mono ?_; rintro e x94 ⟨rfl, hc94⟩; have hS94 := hS89.trans (hc94.mono hS89.size))
    go_wp2_with fail
    refine hK.out _ _ hS94 (fun _ => ?_)
    clear hK K
    try simp only [Act.put, List.setIfInBounds_toArray, List.set_cons_zero, List.set_cons_succ]
    refine wpAnyH_take (i := 43) (oi := { dst := some 95, op := Op.pick (Operand.tmp 93) (Operand.tmp 94) (Operand.const (Value.bool false)), type := 4, pos := "law.go:178", after := #[{ on := 41, ground := Ground.data }, { on := 42, ground := Ground.data }], guard := none }) (v := .bool true) rfl (by kernel_rfl) (by kernel_rfl) (by kernel_rfl) (fun _ _ _ h => h) (Or.inl ⟨by kernel_rfl, ?_⟩) hS94 ?_
    · intro W hW
      clear hW
      go_simp
    try simp only [Act.put, List.setIfInBounds_toArray, List.set_cons_zero, List.set_cons_succ]
    refine wpAnyH_take (i := 44) (oi := { dst := some 4, op := Op.assign (Operand.tmp 95), type := 4, pos := "law.go:178", after := #[{ on := 43, ground := Ground.data }, { on := 42, ground := Ground.chain }, { on := 0, ground := Ground.phase }, { on := 1, ground := Ground.phase }, { on := 2, ground := Ground.phase }, { on := 3, ground := Ground.phase }, { on := 4, ground := Ground.phase }, { on := 5, ground := Ground.phase }, { on := 6, ground := Ground.phase }, { on := 7, ground := Ground.phase }, { on := 8, ground := Ground.phase }, { on := 9, ground := Ground.phase }, { on := 10, ground := Ground.phase }, { on := 11, ground := Ground.phase }, { on := 12, ground := Ground.phase }, { on := 13, ground := Ground.phase }, { on := 14, ground := Ground.phase }, { on := 15, ground := Ground.phase }, { on := 16, ground := Ground.phase }, { on := 17, ground := Ground.phase }, { on := 18, ground := Ground.phase }, { on := 19, ground := Ground.phase }, { on := 20, ground := Ground.phase }, { on := 21, ground := Ground.phase }, { on := 22, ground := Ground.phase }, { on := 23, ground := Ground.phase }, { on := 24, ground := Ground.phase }, { on := 25, ground := Ground.phase }, { on := 26, ground := Ground.phase }, { on := 27, ground := Ground.phase }, { on := 28, ground := Ground.phase }, { on := 29, ground := Ground.phase }, { on := 30, ground := Ground.phase }, { on := 31, ground := Ground.phase }, { on := 32, ground := Ground.phase }, { on := 33, ground := Ground.phase }, { on := 34, ground := Ground.phase }, { on := 35, ground := Ground.phase }, { on := 36, ground := Ground.phase }, { on := 37, ground := Ground.phase }, { on := 38, ground := Ground.phase }, { on := 39, ground := Ground.phase }, { on := 40, ground := Ground.phase }, { on := 41, ground := Ground.phase }, { on := 42, ground := Ground.phase }, { on := 43, ground := Ground.phase }], guard := none }) (v := .bool true) rfl (by kernel_rfl) (by kernel_rfl) (by kernel_rfl) (fun _ _ _ h => h) (Or.inl ⟨by kernel_rfl, ?_⟩) hS94 ?_
    · intro W hW
      clear hW
      go_simp
    try simp only [Act.put, List.setIfInBounds_toArray, List.set_cons_zero, List.set_cons_succ]
    refine wpAnyH_done (by kernel_rfl) ?_ _
    have hE := Lib.hid (hv9.out.trans (hS94.mono hv9.out.size))
    go_wp2
    go_ret
    exact ⟨rfl, hE.out⟩
  by_cases h11 : k = 11
  · have h12 : ¬ k = 12 := by omega
    rw [show decide (k = 2) = false from decide_eq_false h2] at kP
    rw [show decide (k = 11) = true from decide_eq_true h11] at kQ
    simp only [if_true, if_false, Bool.false_eq_true] at kP kQ
    have g2 : (k == 2) = false := beq_eq_false_iff_ne.2 h2
    have g11 : (k == 11) = true := by simp [h11]
    have g12 : (k == 12) = false := beq_eq_false_iff_ne.2 h12
    replace h2 := Lib.hid h2
    replace h11 := Lib.hid h11
    replace h12 := Lib.hid h12
    have hS0 := drewN_below v9 1
    refine wp_region_held_drew (S := fun w => Below v9.heap.size v9 w) (by kernel_rfl) hS0 (fun _ => ?_)
    change Below v9.heap.size v9 v9.drew at hS0
    generalize v9.drew = vd at hS0 ⊢
    refine wpAnyH_take (i := 0) (oi := { dst := some 52, op := Op.load 43 (Operand.tmp 6), type := 43, pos := "law.go:178", after := #[], guard := none }) (v := .agg #[.int .i64 0, .bool b, .string n, .bool g, .slice AS mS cS, .slice AW mW cW, .slice AR mR cR, .slice AL mL cL, .slice AC mC cC]) rfl (by kernel_rfl) (by kernel_rfl) (by kernel_rfl) (fun _ _ _ h => h) (Or.inl ⟨by kernel_rfl, ?_⟩) hS0 ?_
    · intro W hW
      obtain ⟨yn0, yn1, yn2, yn3, yn4, yn5, yn6, yn7, yn8, ym0, ym1, ym2, ym3, ym4, ym5, ym6, ym7, ym8, yo0, yo1, yo2, yo3, yo4, yo5, yo6, yo7, yo8, yp0, yp1, yp2, yp3, yp4, yp5, yp6, yp7, yp8, yq0, yq1, yq2, yq3, yq4, yq5, yq6, yq7, yq8, yr0, yr1, yr2, yr3, yr4, yr5, yr6, yr7, yr8⟩ := hcells.out W hW
      clear hW
      go_simp
    try simp only [Act.put, List.setIfInBounds_toArray, List.set_cons_zero, List.set_cons_succ]
    refine wpAnyH_ready (rs := [1]) (by kernel_rfl) (by simp) ?_
    refine AllReadyH.cons (o := { dst := some 53, op := Op.buildSlice 22 1 #[(0, Operand.tmp 52)], type := 22, pos := "law.go:178", after := #[{ on := 0, ground := Ground.data }], guard := none }) rfl (fun K hK => ?_) AllReadyH.nil
    go_simp
    have bk53 := Blk.new vd [.int .i64 0, .bool b, .string n, .bool g, .slice AS mS cS, .slice AW mW cW, .slice AR mR cR, .slice AL mL cL, .slice AC mC cC] 43
    have hb53 := alloc_below vd (.cells #[.int .i64 0, .bool b, .string n, .bool g, .slice AS mS cS, .slice AW mW cW, .slice AR mR cR, .slice AL mL cL, .slice AC mC cC] 43)
    generalize vd.alloc (.cells #[.int .i64 0, .bool b, .string n, .bool g, .slice AS mS cS, .slice AW mW cW, .slice AR mR cR, .slice AL mL cL, .slice AC mC cC] 43) = x53 at bk53 hb53 ⊢
    have hS53 := hS0.trans (hb53.mono hS0.size)
    generalize hz53 : vd.heap.size = n53 at bk53 ⊢
    replace hz53 := Lib.hid hz53
    replace bk53 := Lib.hid bk53
    clear hb53
    refine hK.out _ _ hS53 (fun _ => ?_)
    clear hK K
    try simp only [Act.put, List.setIfInBounds_toArray, List.set_cons_zero, List.set_cons_succ]
    refine wpAnyH_ready (rs := [2]) (by kernel_rfl) (by simp) ?_
    refine AllReadyH.cons (o := { dst := some 54, op := Op.call { callee := Callee.value (Operand.func 9), args := #[Operand.tmp 53], argTypes := #[22] }, type := 25, pos := "law.go:178", after := #[{ on := 1, ground := Ground.data }], guard := none }) rfl (fun K hK => ?_) AllReadyH.nil
    go_simp
    (go_at_call 9; refine (kM.out _ _ (hv9.out.trans (hS53.mono hv9.out.size)) bk53.out).mono ?_; rintro e x54 ⟨rfl, hc54⟩; have hS54 := hS53.trans (hc54.mono hS53.size))
    go_wp2_with fail
    refine hK.out _ _ hS54 (fun _ => ?_)
    clear hK K
    try simp only [Act.put, List.setIfInBounds_toArray, List.set_cons_zero, List.set_cons_succ]
    refine wpAnyH_take (i := 3) (oi := { dst := some 55, op := Op.binOp BinOp.eql 25 (Operand.tmp 54) (Operand.const (Value.int IntKind.i64 1)) 25, type := 4, pos := "law.go:178", after := #[{ on := 2, ground := Ground.data }], guard := none }) (v := .bool true) rfl (by kernel_rfl) (by kernel_rfl) (by kernel_rfl) (fun _ _ _ h => h) (Or.inl ⟨by kernel_rfl, ?_⟩) hS54 ?_
    · intro W hW
      clear hW
      go_simp
    try simp only [Act.put, List.setIfInBounds_toArray, List.set_cons_zero, List.set_cons_succ]
    refine wpAnyH_take (i := 4) (oi := { dst := some 56, op := Op.move (Operand.tmp 55), type := 4, pos := "law.go:178", after := #[{ on := 3, ground := Ground.data }, { on := 2, ground := Ground.chain }], guard := none }) (v := .bool true) rfl (by kernel_rfl) (by kernel_rfl) (by kernel_rfl) (fun _ _ _ h => h) (Or.inl ⟨by kernel_rfl, ?_⟩) hS54 ?_
    · intro W hW
      clear hW
      go_simp
    try simp only [Act.put, List.setIfInBounds_toArray, List.set_cons_zero, List.set_cons_succ]
    refine wpAnyH_take (i := 5) (oi := { dst := some 57, op := Op.load 43 (Operand.tmp 7), type := 43, pos := "law.go:178", after := #[{ on := 4, ground := Ground.guard }], guard := some (4, true) }) (v := .agg #[.int .i64 14, .bool b, .string n, .bool g, .slice AS mS cS, .slice AW mW cW, .slice AR mR cR, .slice AL mL cL, .slice AC mC cC]) rfl (by kernel_rfl) (by kernel_rfl) (by kernel_rfl) (fun _ _ _ h => h) (Or.inl ⟨by kernel_rfl, ?_⟩) hS54 ?_
    · intro W hW
      obtain ⟨yn0, yn1, yn2, yn3, yn4, yn5, yn6, yn7, yn8, ym0, ym1, ym2, ym3, ym4, ym5, ym6, ym7, ym8, yo0, yo1, yo2, yo3, yo4, yo5, yo6, yo7, yo8, yp0, yp1, yp2, yp3, yp4, yp5, yp6, yp7, yp8, yq0, yq1, yq2, yq3, yq4, yq5, yq6, yq7, yq8, yr0, yr1, yr2, yr3, yr4, yr5, yr6, yr7, yr8⟩ := hcells.out W hW
      clear hW
      go_simp
    try simp only [Act.put, List.setIfInBounds_toArray, List.set_cons_zero, List.set_cons_succ]
    refine wpAnyH_ready (rs := [6]) (by kernel_rfl) (by simp) ?_
    refine AllReadyH.cons (o := { dst := some 58, op := Op.buildSlice 22 1 #[(0, Operand.tmp 57)], type := 22, pos := "law.go:178", after := #[{ on := 5, ground := Ground.data }, { on := 4, ground := Ground.guard }], guard := some (4, true) }) rfl (fun K hK => ?_) AllReadyH.nil
    go_simp
    have bk58 := Blk.new x54 [.int .i64 14, .bool b, .string n, .bool g, .slice AS mS cS, .slice AW mW cW, .slice AR mR cR, .slice AL mL cL, .slice AC mC cC] 43
    have hb58 := alloc_below x54 (.cells #[.int .i64 14, .bool b, .string n, .bool g, .slice AS mS cS, .slice AW mW cW, .slice AR mR cR, .slice AL mL cL, .slice AC mC cC] 43)
    generalize x54.alloc (.cells #[.int .i64 14, .bool b, .string n, .bool g, .slice AS mS cS, .slice AW mW cW, .slice AR mR cR, .slice AL mL cL, .slice AC mC cC] 43) = x58 at bk58 hb58 ⊢
    have hS58 := hS54.trans (hb58.mono hS54.size)
    generalize hz58 : x54.heap.size = n58 at bk58 ⊢
    replace hz58 := Lib.hid hz58
    replace bk58 := Lib.hid bk58
    clear hb58
    refine hK.out _ _ hS58 (fun _ => ?_)
    clear hK K
    try simp only [Act.put, List.setIfInBounds_toArray, List.set_cons_zero, List.set_cons_succ]
    refine wpAnyH_ready (rs := [7]) (by kernel_rfl) (by simp) ?_
    refine AllReadyH.cons (o := { dst := some 59, op := Op.call { callee := Callee.value (Operand.func 9), args := #[Operand.tmp 58], argTypes := #[22] }, type := 25, pos := "law.go:178", after := #[{ on := 6, ground := Ground.data }, { on := 4, ground := Ground.chain }, { on := 4, ground := Ground.guard }], guard := some (4, true) }) rfl (fun K hK => ?_) AllReadyH.nil
    go_simp
    (go_at_call 9; refine (kO.out _ _ (hv9.out.trans (hS58.mono hv9.out.size)) bk58.out).mono ?_; rintro e x59 ⟨rfl, hc59⟩; have hS59 := hS58.trans (hc59.mono hS58.size))
    go_wp2_with fail
    refine hK.out _ _ hS59 (fun _ => ?_)
    clear hK K
    try simp only [Act.put, List.setIfInBounds_toArray, List.set_cons_zero, List.set_cons_succ]
    refine wpAnyH_take (i := 8) (oi := { dst := some 60, op := Op.binOp BinOp.eql 25 (Operand.tmp 59) (Operand.const (Value.int IntKind.i64 1)) 25, type := 4, pos := "law.go:178", after := #[{ on := 7, ground := Ground.data }, { on := 4, ground := Ground.guard }], guard := some (4, true) }) (v := .bool true) rfl (by kernel_rfl) (by kernel_rfl) (by kernel_rfl) (fun _ _ _ h => h) (Or.inl ⟨by kernel_rfl, ?_⟩) hS59 ?_
    · intro W hW
      clear hW
      go_simp
    try simp only [Act.put, List.setIfInBounds_toArray, List.set_cons_zero, List.set_cons_succ]
    refine wpAnyH_take (i := 9) (oi := { dst := some 61, op := Op.pick (Operand.tmp 56) (Operand.tmp 60) (Operand.const (Value.bool false)), type := 4, pos := "law.go:178", after := #[{ on := 4, ground := Ground.data }, { on := 8, ground := Ground.data }], guard := none }) (v := .bool true) rfl (by kernel_rfl) (by kernel_rfl) (by kernel_rfl) (fun _ _ _ h => h) (Or.inl ⟨by kernel_rfl, ?_⟩) hS59 ?_
    · intro W hW
      clear hW
      go_simp
    try simp only [Act.put, List.setIfInBounds_toArray, List.set_cons_zero, List.set_cons_succ]
    refine wpAnyH_take (i := 10) (oi := { dst := some 62, op := Op.move (Operand.tmp 61), type := 4, pos := "law.go:178", after := #[{ on := 9, ground := Ground.data }, { on := 7, ground := Ground.chain }], guard := none }) (v := .bool true) rfl (by kernel_rfl) (by kernel_rfl) (by kernel_rfl) (fun _ _ _ h => h) (Or.inl ⟨by kernel_rfl, ?_⟩) hS59 ?_
    · intro W hW
      clear hW
      go_simp
    try simp only [Act.put, List.setIfInBounds_toArray, List.set_cons_zero, List.set_cons_succ]
    refine wpAnyH_take (i := 11) (oi := { dst := some 63, op := Op.load 43 (Operand.tmp 8), type := 43, pos := "law.go:178", after := #[{ on := 10, ground := Ground.guard }], guard := some (10, true) }) (v := .agg #[.int .i64 k, .bool true, .string n, .bool g, .slice AS mS cS, .slice AW mW cW, .slice AR mR cR, .slice AL mL cL, .slice AC mC cC]) rfl (by kernel_rfl) (by kernel_rfl) (by kernel_rfl) (fun _ _ _ h => h) (Or.inl ⟨by kernel_rfl, ?_⟩) hS59 ?_
    · intro W hW
      obtain ⟨yn0, yn1, yn2, yn3, yn4, yn5, yn6, yn7, yn8, ym0, ym1, ym2, ym3, ym4, ym5, ym6, ym7, ym8, yo0, yo1, yo2, yo3, yo4, yo5, yo6, yo7, yo8, yp0, yp1, yp2, yp3, yp4, yp5, yp6, yp7, yp8, yq0, yq1, yq2, yq3, yq4, yq5, yq6, yq7, yq8, yr0, yr1, yr2, yr3, yr4, yr5, yr6, yr7, yr8⟩ := hcells.out W hW
      clear hW
      go_simp
    try simp only [Act.put, List.setIfInBounds_toArray, List.set_cons_zero, List.set_cons_succ]
    refine wpAnyH_take (i := 15) (oi := { dst := some 67, op := Op.fieldAddr 43 (Operand.tmp 5) 0, type := 0, pos := "law.go:178", after := #[{ on := 10, ground := Ground.guard }], guard := some (10, true) }) (v := .pointer (some ⟨zn, 0, none⟩)) rfl (by kernel_rfl) (by kernel_rfl) (by kernel_rfl) (fun _ _ _ h => h) (Or.inl ⟨by kernel_rfl, ?_⟩) hS59 ?_
    · intro W hW
      clear hW
      go_simp
    try simp only [Act.put, List.setIfInBounds_toArray, List.set_cons_zero, List.set_cons_succ]
    refine wpAnyH_take (i := 16) (oi := { dst := some 68, op := Op.load 3 (Operand.tmp 67), type := 3, pos := "law.go:178", after := #[{ on := 15, ground := Ground.data }, { on := 10, ground := Ground.guard }], guard := some (10, true) }) (v := .int .i64 k) rfl (by kernel_rfl) (by kernel_rfl) (by kernel_rfl) (fun _ _ _ h => h) (Or.inl ⟨by kernel_rfl, ?_⟩) hS59 ?_
    · intro W hW
      obtain ⟨yn0, yn1, yn2, yn3, yn4, yn5, yn6, yn7, yn8, ym0, ym1, ym2, ym3, ym4, ym5, ym6, ym7, ym8, yo0, yo1, yo2, yo3, yo4, yo5, yo6, yo7, yo8, yp0, yp1, yp2, yp3, yp4, yp5, yp6, yp7, yp8, yq0, yq1, yq2, yq3, yq4, yq5, yq6, yq7, yq8, yr0, yr1, yr2, yr3, yr4, yr5, yr6, yr7, yr8⟩ := hcells.out W hW
      clear hW
      go_simp
    try simp only [Act.put, List.setIfInBounds_toArray, List.set_cons_zero, List.set_cons_succ]
    refine wpAnyH_take (i := 17) (oi := { dst := some 69, op := Op.binOp BinOp.eql 3 (Operand.tmp 68) (Operand.const (Value.int IntKind.i64 2)) 3, type := 4, pos := "law.go:178", after := #[{ on := 16, ground := Ground.data }, { on := 10, ground := Ground.guard }], guard := some (10, true) }) (v := .bool false) rfl (by kernel_rfl) (by kernel_rfl) (by kernel_rfl) (fun _ _ _ h => h) (Or.inl ⟨by kernel_rfl, ?_⟩) hS59 ?_
    · intro W hW
      clear hW
      go_simp
    try simp only [Act.put, List.setIfInBounds_toArray, List.set_cons_zero, List.set_cons_succ]
    refine wpAnyH_ready (rs := [12]) (by kernel_rfl) (by simp) ?_
    refine AllReadyH.cons (o := { dst := some 64, op := Op.buildSlice 22 1 #[(0, Operand.tmp 63)], type := 22, pos := "law.go:178", after := #[{ on := 11, ground := Ground.data }, { on := 10, ground := Ground.guard }], guard := some (10, true) }) rfl (fun K hK => ?_) AllReadyH.nil
    go_simp
    have bk64 := Blk.new x59 [.int .i64 k, .bool true, .string n, .bool g, .slice AS mS cS, .slice AW mW cW, .slice AR mR cR, .slice AL mL cL, .slice AC mC cC] 43
    have hb64 := alloc_below x59 (.cells #[.int .i64 k, .bool true, .string n, .bool g, .slice AS mS cS, .slice AW mW cW, .slice AR mR cR, .slice AL mL cL, .slice AC mC cC] 43)
    generalize x59.alloc (.cells #[.int .i64 k, .bool true, .string n, .bool g, .slice AS mS cS, .slice AW mW cW, .slice AR mR cR, .slice AL mL cL, .slice AC mC cC] 43) = x64 at bk64 hb64 ⊢
    have hS64 := hS59.trans (hb64.mono hS59.size)
    generalize hz64 : x59.heap.size = n64 at bk64 ⊢
    replace hz64 := Lib.hid hz64
    replace bk64 := Lib.hid bk64
    clear hb64
    refine hK.out _ _ hS64 (fun _ => ?_)
    clear hK K
    try simp only [Act.put, List.setIfInBounds_toArray, List.set_cons_zero, List.set_cons_succ]
    refine wpAnyH_ready (rs := [13]) (by kernel_rfl) (by simp) ?_
    refine AllReadyH.cons (o := { dst := some 65, op := Op.call { callee := Callee.value (Operand.func 9), args := #[Operand.tmp 64], argTypes := #[22] }, type := 25, pos := "law.go:178", after := #[{ on := 12, ground := Ground.data }, { on := 10, ground := Ground.chain }, { on := 10, ground := Ground.guard }], guard := some (10, true) }) rfl (fun K hK => ?_) AllReadyH.nil
    go_simp
    (go_at_call 9; refine (kP.out _ _ (hv9.out.trans (hS64.mono hv9.out.size)) bk64.out).mono ?_; rintro e x65 ⟨rfl, hc65⟩; have hS65 := hS64.trans (hc65.mono hS64.size))
    go_wp2_with fail
    refine hK.out _ _ hS65 (fun _ => ?_)
    clear hK K
    try simp only [Act.put, List.setIfInBounds_toArray, List.set_cons_zero, List.set_cons_succ]
    refine wpAnyH_take (i := 14) (oi := { dst := some 66, op := Op.binOp BinOp.eql 25 (Operand.tmp 65) (Operand.const (Value.int IntKind.i64 0)) 25, type := 4, pos := "law.go:178", after := #[{ on := 13, ground := Ground.data }, { on := 10, ground := Ground.guard }], guard := some (10, true) }) (v := .bool false) rfl (by kernel_rfl) (by kernel_rfl) (by kernel_rfl) (fun _ _ _ h => h) (Or.inl ⟨by kernel_rfl, ?_⟩) hS65 ?_
    · intro W hW
      clear hW
      go_simp
    try simp only [Act.put, List.setIfInBounds_toArray, List.set_cons_zero, List.set_cons_succ]
    refine wpAnyH_take (i := 18) (oi := { dst := some 70, op := Op.binOp BinOp.eql 4 (Operand.tmp 66) (Operand.tmp 69) 4, type := 4, pos := "law.go:178", after := #[{ on := 14, ground := Ground.data }, { on := 17, ground := Ground.data }, { on := 10, ground := Ground.guard }], guard := some (10, true) }) (v := .bool true) rfl (by kernel_rfl) (by kernel_rfl) (by kernel_rfl) (fun _ _ _ h => h) (Or.inl ⟨by kernel_rfl, ?_⟩) hS65 ?_
    · intro W hW
      clear hW
      go_simp
    try simp only [Act.put, List.setIfInBounds_toArray, List.set_cons_zero, List.set_cons_succ]
    refine wpAnyH_take (i := 19) (oi := { dst := some 71, op := Op.pick (Operand.tmp 62) (Operand.tmp 70) (Operand.const (Value.bool false)), type := 4, pos := "law.go:178", after := #[{ on := 10, ground := Ground.data }, { on := 18, ground := Ground.data }], guard := none }) (v := .bool true) rfl (by kernel_rfl) (by kernel_rfl) (by kernel_rfl) (fun _ _ _ h => h) (Or.inl ⟨by kernel_rfl, ?_⟩) hS65 ?_
    · intro W hW
      clear hW
      go_simp
    try simp only [Act.put, List.setIfInBounds_toArray, List.set_cons_zero, List.set_cons_succ]
    refine wpAnyH_take (i := 20) (oi := { dst := some 72, op := Op.move (Operand.tmp 71), type := 4, pos := "law.go:178", after := #[{ on := 19, ground := Ground.data }, { on := 13, ground := Ground.chain }], guard := none }) (v := .bool true) rfl (by kernel_rfl) (by kernel_rfl) (by kernel_rfl) (fun _ _ _ h => h) (Or.inl ⟨by kernel_rfl, ?_⟩) hS65 ?_
    · intro W hW
      clear hW
      go_simp
    try simp only [Act.put, List.setIfInBounds_toArray, List.set_cons_zero, List.set_cons_succ]
    refine wpAnyH_take (i := 21) (oi := { dst := some 73, op := Op.load 43 (Operand.tmp 9), type := 43, pos := "law.go:178", after := #[{ on := 20, ground := Ground.guard }], guard := some (20, true) }) (v := .agg #[.int .i64 k, .bool b, .string n, .bool true, .slice AS mS cS, .slice AW mW cW, .slice AR mR cR, .slice AL mL cL, .slice AC mC cC]) rfl (by kernel_rfl) (by kernel_rfl) (by kernel_rfl) (fun _ _ _ h => h) (Or.inl ⟨by kernel_rfl, ?_⟩) hS65 ?_
    · intro W hW
      obtain ⟨yn0, yn1, yn2, yn3, yn4, yn5, yn6, yn7, yn8, ym0, ym1, ym2, ym3, ym4, ym5, ym6, ym7, ym8, yo0, yo1, yo2, yo3, yo4, yo5, yo6, yo7, yo8, yp0, yp1, yp2, yp3, yp4, yp5, yp6, yp7, yp8, yq0, yq1, yq2, yq3, yq4, yq5, yq6, yq7, yq8, yr0, yr1, yr2, yr3, yr4, yr5, yr6, yr7, yr8⟩ := hcells.out W hW
      clear hW
      go_simp
    try simp only [Act.put, List.setIfInBounds_toArray, List.set_cons_zero, List.set_cons_succ]
    refine wpAnyH_take (i := 25) (oi := { dst := some 77, op := Op.fieldAddr 43 (Operand.tmp 5) 0, type := 0, pos := "law.go:178", after := #[{ on := 20, ground := Ground.guard }], guard := some (20, true) }) (v := .pointer (some ⟨zn, 0, none⟩)) rfl (by kernel_rfl) (by kernel_rfl) (by kernel_rfl) (fun _ _ _ h => h) (Or.inl ⟨by kernel_rfl, ?_⟩) hS65 ?_
    · intro W hW
      clear hW
      go_simp
    try simp only [Act.put, List.setIfInBounds_toArray, List.set_cons_zero, List.set_cons_succ]
    refine wpAnyH_take (i := 26) (oi := { dst := some 78, op := Op.load 3 (Operand.tmp 77), type := 3, pos := "law.go:178", after := #[{ on := 25, ground := Ground.data }, { on := 20, ground := Ground.guard }], guard := some (20, true) }) (v := .int .i64 k) rfl (by kernel_rfl) (by kernel_rfl) (by kernel_rfl) (fun _ _ _ h => h) (Or.inl ⟨by kernel_rfl, ?_⟩) hS65 ?_
    · intro W hW
      obtain ⟨yn0, yn1, yn2, yn3, yn4, yn5, yn6, yn7, yn8, ym0, ym1, ym2, ym3, ym4, ym5, ym6, ym7, ym8, yo0, yo1, yo2, yo3, yo4, yo5, yo6, yo7, yo8, yp0, yp1, yp2, yp3, yp4, yp5, yp6, yp7, yp8, yq0, yq1, yq2, yq3, yq4, yq5, yq6, yq7, yq8, yr0, yr1, yr2, yr3, yr4, yr5, yr6, yr7, yr8⟩ := hcells.out W hW
      clear hW
      go_simp
    try simp only [Act.put, List.setIfInBounds_toArray, List.set_cons_zero, List.set_cons_succ]
    refine wpAnyH_take (i := 27) (oi := { dst := some 79, op := Op.binOp BinOp.eql 3 (Operand.tmp 78) (Operand.const (Value.int IntKind.i64 11)) 3, type := 4, pos := "law.go:178", after := #[{ on := 26, ground := Ground.data }, { on := 20, ground := Ground.guard }], guard := some (20, true) }) (v := .bool true) rfl (by kernel_rfl) (by kernel_rfl) (by kernel_rfl) (fun _ _ _ h => h) (Or.inl ⟨by kernel_rfl, ?_⟩) hS65 ?_
    · intro W hW
      clear hW
      go_simp
    try simp only [Act.put, List.setIfInBounds_toArray, List.set_cons_zero, List.set_cons_succ]
    refine wpAnyH_ready (rs := [22]) (by kernel_rfl) (by simp) ?_
    refine AllReadyH.cons (o := { dst := some 74, op := Op.buildSlice 22 1 #[(0, Operand.tmp 73)], type := 22, pos := "law.go:178", after := #[{ on := 21, ground := Ground.data }, { on := 20, ground := Ground.guard }], guard := some (20, true) }) rfl (fun K hK => ?_) AllReadyH.nil
    go_simp
    have bk74 := Blk.new x65 [.int .i64 k, .bool b, .string n, .bool true, .slice AS mS cS, .slice AW mW cW, .slice AR mR cR, .slice AL mL cL, .slice AC mC cC] 43
    have hb74 := alloc_below x65 (.cells #[.int .i64 k, .bool b, .string n, .bool true, .slice AS mS cS, .slice AW mW cW, .slice AR mR cR, .slice AL mL cL, .slice AC mC cC] 43)
    generalize x65.alloc (.cells #[.int .i64 k, .bool b, .string n, .bool true, .slice AS mS cS, .slice AW mW cW, .slice AR mR cR, .slice AL mL cL, .slice AC mC cC] 43) = x74 at bk74 hb74 ⊢
    have hS74 := hS65.trans (hb74.mono hS65.size)
    generalize hz74 : x65.heap.size = n74 at bk74 ⊢
    replace hz74 := Lib.hid hz74
    replace bk74 := Lib.hid bk74
    clear hb74
    refine hK.out _ _ hS74 (fun _ => ?_)
    clear hK K
    try simp only [Act.put, List.setIfInBounds_toArray, List.set_cons_zero, List.set_cons_succ]
    refine wpAnyH_ready (rs := [23]) (by kernel_rfl) (by simp) ?_
    refine AllReadyH.cons (o := { dst := some 75, op := Op.call { callee := Callee.value (Operand.func 9), args := #[Operand.tmp 74], argTypes := #[22] }, type := 25, pos := "law.go:178", after := #[{ on := 22, ground := Ground.data }, { on := 20, ground := Ground.chain }, { on := 20, ground := Ground.guard }], guard := some (20, true) }) rfl (fun K hK => ?_) AllReadyH.nil
    go_simp
    (go_at_call 9; refine (kQ.out _ _ (hv9.out.trans (hS74.mono hv9.out.size)) bk74.out).mono ?_; rintro e x75 ⟨rfl, hc75⟩; have hS75 := hS74.trans (hc75.mono hS74.size))
    go_wp2_with fail
    refine hK.out _ _ hS75 (fun _ => ?_)
    clear hK K
    try simp only [Act.put, List.setIfInBounds_toArray, List.set_cons_zero, List.set_cons_succ]
    refine wpAnyH_take (i := 24) (oi := { dst := some 76, op := Op.binOp BinOp.eql 25 (Operand.tmp 75) (Operand.const (Value.int IntKind.i64 0)) 25, type := 4, pos := "law.go:178", after := #[{ on := 23, ground := Ground.data }, { on := 20, ground := Ground.guard }], guard := some (20, true) }) (v := .bool true) rfl (by kernel_rfl) (by kernel_rfl) (by kernel_rfl) (fun _ _ _ h => h) (Or.inl ⟨by kernel_rfl, ?_⟩) hS75 ?_
    · intro W hW
      clear hW
      go_simp
    try simp only [Act.put, List.setIfInBounds_toArray, List.set_cons_zero, List.set_cons_succ]
    refine wpAnyH_take (i := 28) (oi := { dst := some 80, op := Op.binOp BinOp.eql 4 (Operand.tmp 76) (Operand.tmp 79) 4, type := 4, pos := "law.go:178", after := #[{ on := 24, ground := Ground.data }, { on := 27, ground := Ground.data }, { on := 20, ground := Ground.guard }], guard := some (20, true) }) (v := .bool true) rfl (by kernel_rfl) (by kernel_rfl) (by kernel_rfl) (fun _ _ _ h => h) (Or.inl ⟨by kernel_rfl, ?_⟩) hS75 ?_
    · intro W hW
      clear hW
      go_simp
    try simp only [Act.put, List.setIfInBounds_toArray, List.set_cons_zero, List.set_cons_succ]
    refine wpAnyH_take (i := 29) (oi := { dst := some 81, op := Op.pick (Operand.tmp 72) (Operand.tmp 80) (Operand.const (Value.bool false)), type := 4, pos := "law.go:178", after := #[{ on := 20, ground := Ground.data }, { on := 28, ground := Ground.data }], guard := none }) (v := .bool true) rfl (by kernel_rfl) (by kernel_rfl) (by kernel_rfl) (fun _ _ _ h => h) (Or.inl ⟨by kernel_rfl, ?_⟩) hS75 ?_
    · intro W hW
      clear hW
      go_simp
    try simp only [Act.put, List.setIfInBounds_toArray, List.set_cons_zero, List.set_cons_succ]
    refine wpAnyH_take (i := 30) (oi := { dst := some 82, op := Op.move (Operand.tmp 81), type := 4, pos := "law.go:178", after := #[{ on := 29, ground := Ground.data }, { on := 23, ground := Ground.chain }], guard := none }) (v := .bool true) rfl (by kernel_rfl) (by kernel_rfl) (by kernel_rfl) (fun _ _ _ h => h) (Or.inl ⟨by kernel_rfl, ?_⟩) hS75 ?_
    · intro W hW
      clear hW
      go_simp
    try simp only [Act.put, List.setIfInBounds_toArray, List.set_cons_zero, List.set_cons_succ]
    refine wpAnyH_take (i := 31) (oi := { dst := some 83, op := Op.fieldAddr 43 (Operand.tmp 5) 0, type := 0, pos := "law.go:178", after := #[{ on := 30, ground := Ground.guard }], guard := some (30, true) }) (v := .pointer (some ⟨zn, 0, none⟩)) rfl (by kernel_rfl) (by kernel_rfl) (by kernel_rfl) (fun _ _ _ h => h) (Or.inl ⟨by kernel_rfl, ?_⟩) hS75 ?_
    · intro W hW
      clear hW
      go_simp
    try simp only [Act.put, List.setIfInBounds_toArray, List.set_cons_zero, List.set_cons_succ]
    refine wpAnyH_take (i := 32) (oi := { dst := some 84, op := Op.load 3 (Operand.tmp 83), type := 3, pos := "law.go:178", after := #[{ on := 31, ground := Ground.data }, { on := 30, ground := Ground.guard }], guard := some (30, true) }) (v := .int .i64 k) rfl (by kernel_rfl) (by kernel_rfl) (by kernel_rfl) (fun _ _ _ h => h) (Or.inl ⟨by kernel_rfl, ?_⟩) hS75 ?_
    · intro W hW
      obtain ⟨yn0, yn1, yn2, yn3, yn4, yn5, yn6, yn7, yn8, ym0, ym1, ym2, ym3, ym4, ym5, ym6, ym7, ym8, yo0, yo1, yo2, yo3, yo4, yo5, yo6, yo7, yo8, yp0, yp1, yp2, yp3, yp4, yp5, yp6, yp7, yp8, yq0, yq1, yq2, yq3, yq4, yq5, yq6, yq7, yq8, yr0, yr1, yr2, yr3, yr4, yr5, yr6, yr7, yr8⟩ := hcells.out W hW
      clear hW
      go_simp
    try simp only [Act.put, List.setIfInBounds_toArray, List.set_cons_zero, List.set_cons_succ]
    refine wpAnyH_take (i := 33) (oi := { dst := some 85, op := Op.binOp BinOp.eql 3 (Operand.tmp 84) (Operand.const (Value.int IntKind.i64 12)) 3, type := 4, pos := "law.go:178", after := #[{ on := 32, ground := Ground.data }, { on := 30, ground := Ground.guard }], guard := some (30, true) }) (v := .bool false) rfl (by kernel_rfl) (by kernel_rfl) (by kernel_rfl) (fun _ _ _ h => h) (Or.inl ⟨by kernel_rfl, ?_⟩) hS75 ?_
    · intro W hW
      clear hW
      go_simp
    try simp only [Act.put, List.setIfInBounds_toArray, List.set_cons_zero, List.set_cons_succ]
    refine wpAnyH_take (i := 34) (oi := { dst := some 86, op := Op.move (Operand.tmp 85), type := 4, pos := "law.go:178", after := #[{ on := 33, ground := Ground.data }, { on := 30, ground := Ground.chain }, { on := 30, ground := Ground.guard }], guard := some (30, true) }) (v := .bool false) rfl (by kernel_rfl) (by kernel_rfl) (by kernel_rfl) (fun _ _ _ h => h) (Or.inl ⟨by kernel_rfl, ?_⟩) hS75 ?_
    · intro W hW
      clear hW
      go_simp
    try simp only [Act.put, List.setIfInBounds_toArray, List.set_cons_zero, List.set_cons_succ]
    refine wpAnyH_take (i := 35) (oi := { dst := some 87, op := Op.load 43 (Operand.tmp 10), type := 43, pos := "law.go:178", after := #[{ on := 34, ground := Ground.guard }], guard := some (34, false) }) (v := .agg #[.int .i64 k, .bool b, .string n, .bool g, .slice AS mS cS, .slice AW mW cW, .slice AR mR cR, .slice AL mL cL, .slice (some ⟨cb, 0, none⟩) 1 1]) rfl (by kernel_rfl) (by kernel_rfl) (by kernel_rfl) (fun _ _ _ h => h) (Or.inl ⟨by kernel_rfl, ?_⟩) hS75 ?_
    · intro W hW
      obtain ⟨yn0, yn1, yn2, yn3, yn4, yn5, yn6, yn7, yn8, ym0, ym1, ym2, ym3, ym4, ym5, ym6, ym7, ym8, yo0, yo1, yo2, yo3, yo4, yo5, yo6, yo7, yo8, yp0, yp1, yp2, yp3, yp4, yp5, yp6, yp7, yp8, yq0, yq1, yq2, yq3, yq4, yq5, yq6, yq7, yq8, yr0, yr1, yr2, yr3, yr4, yr5, yr6, yr7, yr8⟩ := hcells.out W hW
      clear hW
      go_simp
    try simp only [Act.put, List.setIfInBounds_toArray, List.set_cons_zero, List.set_cons_succ]
    refine wpAnyH_ready (rs := [36]) (by kernel_rfl) (by simp) ?_
    refine AllReadyH.cons (o := { dst := some 88, op := Op.buildSlice 22 1 #[(0, Operand.tmp 87)], type := 22, pos := "law.go:178", after := #[{ on := 35, ground := Ground.data }, { on := 34, ground := Ground.guard }], guard := some (34, false) }) rfl (fun K hK => ?_) AllReadyH.nil
    go_simp
    have bk88 := Blk.new x75 [.int .i64 k, .bool b, .string n, .bool g, .slice AS mS cS, .slice AW mW cW, .slice AR mR cR, .slice AL mL cL, .slice (some ⟨cb, 0, none⟩) 1 1] 43
    have hb88 := alloc_below x75 (.cells #[.int .i64 k, .bool b, .string n, .bool g, .slice AS mS cS, .slice AW mW cW, .slice AR mR cR, .slice AL mL cL, .slice (some ⟨cb, 0, none⟩) 1 1] 43)
    generalize x75.alloc (.cells #[.int .i64 k, .bool b, .string n, .bool g, .slice AS mS cS, .slice AW mW cW, .slice AR mR cR, .slice AL mL cL, .slice (some ⟨cb, 0, none⟩) 1 1] 43) = x88 at bk88 hb88 ⊢
    have hS88 := hS75.trans (hb88.mono hS75.size)
    generalize hz88 : x75.heap.size = n88 at bk88 ⊢
    replace hz88 := Lib.hid hz88
    replace bk88 := Lib.hid bk88
    clear hb88
    refine hK.out _ _ hS88 (fun _ => ?_)
    clear hK K
    try simp only [Act.put, List.setIfInBounds_toArray, List.set_cons_zero, List.set_cons_succ]
    refine wpAnyH_ready (rs := [37]) (by kernel_rfl) (by simp) ?_
    refine AllReadyH.cons (o := { dst := some 89, op := Op.call { callee := Callee.value (Operand.func 9), args := #[Operand.tmp 88], argTypes := #[22] }, type := 25, pos := "law.go:178", after := #[{ on := 36, ground := Ground.data }, { on := 34, ground := Ground.chain }, { on := 34, ground := Ground.guard }], guard := some (34, false) }) rfl (fun K hK => ?_) AllReadyH.nil
    go_simp
    (go_at_call 9; refine ((kR.out h12.out _ _ _ (hv9.out.trans (hS88.mono hv9.out.size)) (hcs.out.below hS88) bk88.out)).mono ?_; rintro e x89 ⟨zz, hzz, rfl, hc89⟩; have g9 : (zz != 0) = true := (by simp [hzz]); have hS89 := hS88.trans (hc89.mono hS88.size))
    go_wp2_with fail
    refine hK.out _ _ hS89 (fun _ => ?_)
    clear hK K
    try simp only [Act.put, List.setIfInBounds_toArray, List.set_cons_zero, List.set_cons_succ]
    refine wpAnyH_take (i := 38) (oi := { dst := some 90, op := Op.binOp BinOp.neq 25 (Operand.tmp 89) (Operand.const (Value.int IntKind.i64 0)) 25, type := 4, pos := "law.go:178", after := #[{ on := 37, ground := Ground.data }, { on := 34, ground := Ground.guard }], guard := some (34, false) }) (v := .bool true) rfl (by kernel_rfl) (by kernel_rfl) (by kernel_rfl) (fun _ _ _ h => h) (Or.inl ⟨by kernel_rfl, ?_⟩) hS89 ?_
    · intro W hW
      clear hW
      go_simp
    try simp only [Act.put, List.setIfInBounds_toArray, List.set_cons_zero, List.set_cons_succ]
    refine wpAnyH_take (i := 39) (oi := { dst := some 91, op := Op.pick (Operand.tmp 86) (Operand.const (Value.bool true)) (Operand.tmp 90), type := 4, pos := "law.go:178", after := #[{ on := 34, ground := Ground.data }, { on := 38, ground := Ground.data }, { on := 30, ground := Ground.guard }], guard := some (30, true) }) (v := .bool true) rfl (by kernel_rfl) (by kernel_rfl) (by kernel_rfl) (fun _ _ _ h => h) (Or.inl ⟨by kernel_rfl, ?_⟩) hS89 ?_
    · intro W hW
      clear hW
      go_simp
    try simp only [Act.put, List.setIfInBounds_toArray, List.set_cons_zero, List.set_cons_succ]
    refine wpAnyH_take (i := 40) (oi := { dst := some 92, op := Op.pick (Operand.tmp 82) (Operand.tmp 91) (Operand.const (Value.bool false)), type := 4, pos := "law.go:178", after := #[{ on := 30, ground := Ground.data }, { on := 39, ground := Ground.data }], guard := none }) (v := .bool true) rfl (by kernel_rfl) (by kernel_rfl) (by kernel_rfl) (fun _ _ _ h => h) (Or.inl ⟨by kernel_rfl, ?_⟩) hS89 ?_
    · intro W hW
      clear hW
      go_simp
    try simp only [Act.put, List.setIfInBounds_toArray, List.set_cons_zero, List.set_cons_succ]
    refine wpAnyH_take (i := 41) (oi := { dst := some 93, op := Op.move (Operand.tmp 92), type := 4, pos := "law.go:178", after := #[{ on := 40, ground := Ground.data }, { on := 37, ground := Ground.chain }], guard := none }) (v := .bool true) rfl (by kernel_rfl) (by kernel_rfl) (by kernel_rfl) (fun _ _ _ h => h) (Or.inl ⟨by kernel_rfl, ?_⟩) hS89 ?_
    · intro W hW
      clear hW
      go_simp
    try simp only [Act.put, List.setIfInBounds_toArray, List.set_cons_zero, List.set_cons_succ]
    refine wpAnyH_ready (rs := [42]) (by kernel_rfl) (by simp) ?_
    refine AllReadyH.cons (o := { dst := some 94, op := Op.call { callee := Callee.value (Operand.func 8), args := #[], argTypes := #[] }, type := 4, pos := "law.go:178", after := #[{ on := 41, ground := Ground.chain }, { on := 41, ground := Ground.guard }], guard := some (41, true) }) rfl (fun K hK => ?_) AllReadyH.nil
    go_simp
    (go_at_call 8; refine (haw.out _).mono ?_; rintro e x94 ⟨rfl, hc94⟩; have hS94 := hS89.trans (hc94.mono hS89.size))
    go_wp2_with fail
    refine hK.out _ _ hS94 (fun _ => ?_)
    clear hK K
    try simp only [Act.put, List.setIfInBounds_toArray, List.set_cons_zero, List.set_cons_succ]
    refine wpAnyH_take (i := 43) (oi := { dst := some 95, op := Op.pick (Operand.tmp 93) (Operand.tmp 94) (Operand.const (Value.bool false)), type := 4, pos := "law.go:178", after := #[{ on := 41, ground := Ground.data }, { on := 42, ground := Ground.data }], guard := none }) (v := .bool true) rfl (by kernel_rfl) (by kernel_rfl) (by kernel_rfl) (fun _ _ _ h => h) (Or.inl ⟨by kernel_rfl, ?_⟩) hS94 ?_
    · intro W hW
      clear hW
      go_simp
    try simp only [Act.put, List.setIfInBounds_toArray, List.set_cons_zero, List.set_cons_succ]
    refine wpAnyH_take (i := 44) (oi := { dst := some 4, op := Op.assign (Operand.tmp 95), type := 4, pos := "law.go:178", after := #[{ on := 43, ground := Ground.data }, { on := 42, ground := Ground.chain }, { on := 0, ground := Ground.phase }, { on := 1, ground := Ground.phase }, { on := 2, ground := Ground.phase }, { on := 3, ground := Ground.phase }, { on := 4, ground := Ground.phase }, { on := 5, ground := Ground.phase }, { on := 6, ground := Ground.phase }, { on := 7, ground := Ground.phase }, { on := 8, ground := Ground.phase }, { on := 9, ground := Ground.phase }, { on := 10, ground := Ground.phase }, { on := 11, ground := Ground.phase }, { on := 12, ground := Ground.phase }, { on := 13, ground := Ground.phase }, { on := 14, ground := Ground.phase }, { on := 15, ground := Ground.phase }, { on := 16, ground := Ground.phase }, { on := 17, ground := Ground.phase }, { on := 18, ground := Ground.phase }, { on := 19, ground := Ground.phase }, { on := 20, ground := Ground.phase }, { on := 21, ground := Ground.phase }, { on := 22, ground := Ground.phase }, { on := 23, ground := Ground.phase }, { on := 24, ground := Ground.phase }, { on := 25, ground := Ground.phase }, { on := 26, ground := Ground.phase }, { on := 27, ground := Ground.phase }, { on := 28, ground := Ground.phase }, { on := 29, ground := Ground.phase }, { on := 30, ground := Ground.phase }, { on := 31, ground := Ground.phase }, { on := 32, ground := Ground.phase }, { on := 33, ground := Ground.phase }, { on := 34, ground := Ground.phase }, { on := 35, ground := Ground.phase }, { on := 36, ground := Ground.phase }, { on := 37, ground := Ground.phase }, { on := 38, ground := Ground.phase }, { on := 39, ground := Ground.phase }, { on := 40, ground := Ground.phase }, { on := 41, ground := Ground.phase }, { on := 42, ground := Ground.phase }, { on := 43, ground := Ground.phase }], guard := none }) (v := .bool true) rfl (by kernel_rfl) (by kernel_rfl) (by kernel_rfl) (fun _ _ _ h => h) (Or.inl ⟨by kernel_rfl, ?_⟩) hS94 ?_
    · intro W hW
      clear hW
      go_simp
    try simp only [Act.put, List.setIfInBounds_toArray, List.set_cons_zero, List.set_cons_succ]
    refine wpAnyH_done (by kernel_rfl) ?_ _
    have hE := Lib.hid (hv9.out.trans (hS94.mono hv9.out.size))
    go_wp2
    go_ret
    exact ⟨rfl, hE.out⟩
  by_cases h12 : k = 12
  · rw [show decide (k = 2) = false from decide_eq_false h2] at kP
    rw [show decide (k = 11) = false from decide_eq_false h11] at kQ
    simp only [if_true, if_false, Bool.false_eq_true] at kP kQ
    have g2 : (k == 2) = false := beq_eq_false_iff_ne.2 h2
    have g11 : (k == 11) = false := beq_eq_false_iff_ne.2 h11
    have g12 : (k == 12) = true := by simp [h12]
    replace h2 := Lib.hid h2
    replace h11 := Lib.hid h11
    replace h12 := Lib.hid h12
    have hS0 := drewN_below v9 1
    refine wp_region_held_drew (S := fun w => Below v9.heap.size v9 w) (by kernel_rfl) hS0 (fun _ => ?_)
    change Below v9.heap.size v9 v9.drew at hS0
    generalize v9.drew = vd at hS0 ⊢
    refine wpAnyH_take (i := 0) (oi := { dst := some 52, op := Op.load 43 (Operand.tmp 6), type := 43, pos := "law.go:178", after := #[], guard := none }) (v := .agg #[.int .i64 0, .bool b, .string n, .bool g, .slice AS mS cS, .slice AW mW cW, .slice AR mR cR, .slice AL mL cL, .slice AC mC cC]) rfl (by kernel_rfl) (by kernel_rfl) (by kernel_rfl) (fun _ _ _ h => h) (Or.inl ⟨by kernel_rfl, ?_⟩) hS0 ?_
    · intro W hW
      obtain ⟨yn0, yn1, yn2, yn3, yn4, yn5, yn6, yn7, yn8, ym0, ym1, ym2, ym3, ym4, ym5, ym6, ym7, ym8, yo0, yo1, yo2, yo3, yo4, yo5, yo6, yo7, yo8, yp0, yp1, yp2, yp3, yp4, yp5, yp6, yp7, yp8, yq0, yq1, yq2, yq3, yq4, yq5, yq6, yq7, yq8, yr0, yr1, yr2, yr3, yr4, yr5, yr6, yr7, yr8⟩ := hcells.out W hW
      clear hW
      go_simp
    try simp only [Act.put, List.setIfInBounds_toArray, List.set_cons_zero, List.set_cons_succ]
    refine wpAnyH_ready (rs := [1]) (by kernel_rfl) (by simp) ?_
    refine AllReadyH.cons (o := { dst := some 53, op := Op.buildSlice 22 1 #[(0, Operand.tmp 52)], type := 22, pos := "law.go:178", after := #[{ on := 0, ground := Ground.data }], guard := none }) rfl (fun K hK => ?_) AllReadyH.nil
    go_simp
    have bk53 := Blk.new vd [.int .i64 0, .bool b, .string n, .bool g, .slice AS mS cS, .slice AW mW cW, .slice AR mR cR, .slice AL mL cL, .slice AC mC cC] 43
    have hb53 := alloc_below vd (.cells #[.int .i64 0, .bool b, .string n, .bool g, .slice AS mS cS, .slice AW mW cW, .slice AR mR cR, .slice AL mL cL, .slice AC mC cC] 43)
    generalize vd.alloc (.cells #[.int .i64 0, .bool b, .string n, .bool g, .slice AS mS cS, .slice AW mW cW, .slice AR mR cR, .slice AL mL cL, .slice AC mC cC] 43) = x53 at bk53 hb53 ⊢
    have hS53 := hS0.trans (hb53.mono hS0.size)
    generalize hz53 : vd.heap.size = n53 at bk53 ⊢
    replace hz53 := Lib.hid hz53
    replace bk53 := Lib.hid bk53
    clear hb53
    refine hK.out _ _ hS53 (fun _ => ?_)
    clear hK K
    try simp only [Act.put, List.setIfInBounds_toArray, List.set_cons_zero, List.set_cons_succ]
    refine wpAnyH_ready (rs := [2]) (by kernel_rfl) (by simp) ?_
    refine AllReadyH.cons (o := { dst := some 54, op := Op.call { callee := Callee.value (Operand.func 9), args := #[Operand.tmp 53], argTypes := #[22] }, type := 25, pos := "law.go:178", after := #[{ on := 1, ground := Ground.data }], guard := none }) rfl (fun K hK => ?_) AllReadyH.nil
    go_simp
    (go_at_call 9; refine (kM.out _ _ (hv9.out.trans (hS53.mono hv9.out.size)) bk53.out).mono ?_; rintro e x54 ⟨rfl, hc54⟩; have hS54 := hS53.trans (hc54.mono hS53.size))
    go_wp2_with fail
    refine hK.out _ _ hS54 (fun _ => ?_)
    clear hK K
    try simp only [Act.put, List.setIfInBounds_toArray, List.set_cons_zero, List.set_cons_succ]
    refine wpAnyH_take (i := 3) (oi := { dst := some 55, op := Op.binOp BinOp.eql 25 (Operand.tmp 54) (Operand.const (Value.int IntKind.i64 1)) 25, type := 4, pos := "law.go:178", after := #[{ on := 2, ground := Ground.data }], guard := none }) (v := .bool true) rfl (by kernel_rfl) (by kernel_rfl) (by kernel_rfl) (fun _ _ _ h => h) (Or.inl ⟨by kernel_rfl, ?_⟩) hS54 ?_
    · intro W hW
      clear hW
      go_simp
    try simp only [Act.put, List.setIfInBounds_toArray, List.set_cons_zero, List.set_cons_succ]
    refine wpAnyH_take (i := 4) (oi := { dst := some 56, op := Op.move (Operand.tmp 55), type := 4, pos := "law.go:178", after := #[{ on := 3, ground := Ground.data }, { on := 2, ground := Ground.chain }], guard := none }) (v := .bool true) rfl (by kernel_rfl) (by kernel_rfl) (by kernel_rfl) (fun _ _ _ h => h) (Or.inl ⟨by kernel_rfl, ?_⟩) hS54 ?_
    · intro W hW
      clear hW
      go_simp
    try simp only [Act.put, List.setIfInBounds_toArray, List.set_cons_zero, List.set_cons_succ]
    refine wpAnyH_take (i := 5) (oi := { dst := some 57, op := Op.load 43 (Operand.tmp 7), type := 43, pos := "law.go:178", after := #[{ on := 4, ground := Ground.guard }], guard := some (4, true) }) (v := .agg #[.int .i64 14, .bool b, .string n, .bool g, .slice AS mS cS, .slice AW mW cW, .slice AR mR cR, .slice AL mL cL, .slice AC mC cC]) rfl (by kernel_rfl) (by kernel_rfl) (by kernel_rfl) (fun _ _ _ h => h) (Or.inl ⟨by kernel_rfl, ?_⟩) hS54 ?_
    · intro W hW
      obtain ⟨yn0, yn1, yn2, yn3, yn4, yn5, yn6, yn7, yn8, ym0, ym1, ym2, ym3, ym4, ym5, ym6, ym7, ym8, yo0, yo1, yo2, yo3, yo4, yo5, yo6, yo7, yo8, yp0, yp1, yp2, yp3, yp4, yp5, yp6, yp7, yp8, yq0, yq1, yq2, yq3, yq4, yq5, yq6, yq7, yq8, yr0, yr1, yr2, yr3, yr4, yr5, yr6, yr7, yr8⟩ := hcells.out W hW
      clear hW
      go_simp
    try simp only [Act.put, List.setIfInBounds_toArray, List.set_cons_zero, List.set_cons_succ]
    refine wpAnyH_ready (rs := [6]) (by kernel_rfl) (by simp) ?_
    refine AllReadyH.cons (o := { dst := some 58, op := Op.buildSlice 22 1 #[(0, Operand.tmp 57)], type := 22, pos := "law.go:178", after := #[{ on := 5, ground := Ground.data }, { on := 4, ground := Ground.guard }], guard := some (4, true) }) rfl (fun K hK => ?_) AllReadyH.nil
    go_simp
    have bk58 := Blk.new x54 [.int .i64 14, .bool b, .string n, .bool g, .slice AS mS cS, .slice AW mW cW, .slice AR mR cR, .slice AL mL cL, .slice AC mC cC] 43
    have hb58 := alloc_below x54 (.cells #[.int .i64 14, .bool b, .string n, .bool g, .slice AS mS cS, .slice AW mW cW, .slice AR mR cR, .slice AL mL cL, .slice AC mC cC] 43)
    generalize x54.alloc (.cells #[.int .i64 14, .bool b, .string n, .bool g, .slice AS mS cS, .slice AW mW cW, .slice AR mR cR, .slice AL mL cL, .slice AC mC cC] 43) = x58 at bk58 hb58 ⊢
    have hS58 := hS54.trans (hb58.mono hS54.size)
    generalize hz58 : x54.heap.size = n58 at bk58 ⊢
    replace hz58 := Lib.hid hz58
    replace bk58 := Lib.hid bk58
    clear hb58
    refine hK.out _ _ hS58 (fun _ => ?_)
    clear hK K
    try simp only [Act.put, List.setIfInBounds_toArray, List.set_cons_zero, List.set_cons_succ]
    refine wpAnyH_ready (rs := [7]) (by kernel_rfl) (by simp) ?_
    refine AllReadyH.cons (o := { dst := some 59, op := Op.call { callee := Callee.value (Operand.func 9), args := #[Operand.tmp 58], argTypes := #[22] }, type := 25, pos := "law.go:178", after := #[{ on := 6, ground := Ground.data }, { on := 4, ground := Ground.chain }, { on := 4, ground := Ground.guard }], guard := some (4, true) }) rfl (fun K hK => ?_) AllReadyH.nil
    go_simp
    (go_at_call 9; refine (kO.out _ _ (hv9.out.trans (hS58.mono hv9.out.size)) bk58.out).mono ?_; rintro e x59 ⟨rfl, hc59⟩; have hS59 := hS58.trans (hc59.mono hS58.size))
    go_wp2_with fail
    refine hK.out _ _ hS59 (fun _ => ?_)
    clear hK K
    try simp only [Act.put, List.setIfInBounds_toArray, List.set_cons_zero, List.set_cons_succ]
    refine wpAnyH_take (i := 8) (oi := { dst := some 60, op := Op.binOp BinOp.eql 25 (Operand.tmp 59) (Operand.const (Value.int IntKind.i64 1)) 25, type := 4, pos := "law.go:178", after := #[{ on := 7, ground := Ground.data }, { on := 4, ground := Ground.guard }], guard := some (4, true) }) (v := .bool true) rfl (by kernel_rfl) (by kernel_rfl) (by kernel_rfl) (fun _ _ _ h => h) (Or.inl ⟨by kernel_rfl, ?_⟩) hS59 ?_
    · intro W hW
      clear hW
      go_simp
    try simp only [Act.put, List.setIfInBounds_toArray, List.set_cons_zero, List.set_cons_succ]
    refine wpAnyH_take (i := 9) (oi := { dst := some 61, op := Op.pick (Operand.tmp 56) (Operand.tmp 60) (Operand.const (Value.bool false)), type := 4, pos := "law.go:178", after := #[{ on := 4, ground := Ground.data }, { on := 8, ground := Ground.data }], guard := none }) (v := .bool true) rfl (by kernel_rfl) (by kernel_rfl) (by kernel_rfl) (fun _ _ _ h => h) (Or.inl ⟨by kernel_rfl, ?_⟩) hS59 ?_
    · intro W hW
      clear hW
      go_simp
    try simp only [Act.put, List.setIfInBounds_toArray, List.set_cons_zero, List.set_cons_succ]
    refine wpAnyH_take (i := 10) (oi := { dst := some 62, op := Op.move (Operand.tmp 61), type := 4, pos := "law.go:178", after := #[{ on := 9, ground := Ground.data }, { on := 7, ground := Ground.chain }], guard := none }) (v := .bool true) rfl (by kernel_rfl) (by kernel_rfl) (by kernel_rfl) (fun _ _ _ h => h) (Or.inl ⟨by kernel_rfl, ?_⟩) hS59 ?_
    · intro W hW
      clear hW
      go_simp
    try simp only [Act.put, List.setIfInBounds_toArray, List.set_cons_zero, List.set_cons_succ]
    refine wpAnyH_take (i := 11) (oi := { dst := some 63, op := Op.load 43 (Operand.tmp 8), type := 43, pos := "law.go:178", after := #[{ on := 10, ground := Ground.guard }], guard := some (10, true) }) (v := .agg #[.int .i64 k, .bool true, .string n, .bool g, .slice AS mS cS, .slice AW mW cW, .slice AR mR cR, .slice AL mL cL, .slice AC mC cC]) rfl (by kernel_rfl) (by kernel_rfl) (by kernel_rfl) (fun _ _ _ h => h) (Or.inl ⟨by kernel_rfl, ?_⟩) hS59 ?_
    · intro W hW
      obtain ⟨yn0, yn1, yn2, yn3, yn4, yn5, yn6, yn7, yn8, ym0, ym1, ym2, ym3, ym4, ym5, ym6, ym7, ym8, yo0, yo1, yo2, yo3, yo4, yo5, yo6, yo7, yo8, yp0, yp1, yp2, yp3, yp4, yp5, yp6, yp7, yp8, yq0, yq1, yq2, yq3, yq4, yq5, yq6, yq7, yq8, yr0, yr1, yr2, yr3, yr4, yr5, yr6, yr7, yr8⟩ := hcells.out W hW
      clear hW
      go_simp
    try simp only [Act.put, List.setIfInBounds_toArray, List.set_cons_zero, List.set_cons_succ]
    refine wpAnyH_take (i := 15) (oi := { dst := some 67, op := Op.fieldAddr 43 (Operand.tmp 5) 0, type := 0, pos := "law.go:178", after := #[{ on := 10, ground := Ground.guard }], guard := some (10, true) }) (v := .pointer (some ⟨zn, 0, none⟩)) rfl (by kernel_rfl) (by kernel_rfl) (by kernel_rfl) (fun _ _ _ h => h) (Or.inl ⟨by kernel_rfl, ?_⟩) hS59 ?_
    · intro W hW
      clear hW
      go_simp
    try simp only [Act.put, List.setIfInBounds_toArray, List.set_cons_zero, List.set_cons_succ]
    refine wpAnyH_take (i := 16) (oi := { dst := some 68, op := Op.load 3 (Operand.tmp 67), type := 3, pos := "law.go:178", after := #[{ on := 15, ground := Ground.data }, { on := 10, ground := Ground.guard }], guard := some (10, true) }) (v := .int .i64 k) rfl (by kernel_rfl) (by kernel_rfl) (by kernel_rfl) (fun _ _ _ h => h) (Or.inl ⟨by kernel_rfl, ?_⟩) hS59 ?_
    · intro W hW
      obtain ⟨yn0, yn1, yn2, yn3, yn4, yn5, yn6, yn7, yn8, ym0, ym1, ym2, ym3, ym4, ym5, ym6, ym7, ym8, yo0, yo1, yo2, yo3, yo4, yo5, yo6, yo7, yo8, yp0, yp1, yp2, yp3, yp4, yp5, yp6, yp7, yp8, yq0, yq1, yq2, yq3, yq4, yq5, yq6, yq7, yq8, yr0, yr1, yr2, yr3, yr4, yr5, yr6, yr7, yr8⟩ := hcells.out W hW
      clear hW
      go_simp
    try simp only [Act.put, List.setIfInBounds_toArray, List.set_cons_zero, List.set_cons_succ]
    refine wpAnyH_take (i := 17) (oi := { dst := some 69, op := Op.binOp BinOp.eql 3 (Operand.tmp 68) (Operand.const (Value.int IntKind.i64 2)) 3, type := 4, pos := "law.go:178", after := #[{ on := 16, ground := Ground.data }, { on := 10, ground := Ground.guard }], guard := some (10, true) }) (v := .bool false) rfl (by kernel_rfl) (by kernel_rfl) (by kernel_rfl) (fun _ _ _ h => h) (Or.inl ⟨by kernel_rfl, ?_⟩) hS59 ?_
    · intro W hW
      clear hW
      go_simp
    try simp only [Act.put, List.setIfInBounds_toArray, List.set_cons_zero, List.set_cons_succ]
    refine wpAnyH_ready (rs := [12]) (by kernel_rfl) (by simp) ?_
    refine AllReadyH.cons (o := { dst := some 64, op := Op.buildSlice 22 1 #[(0, Operand.tmp 63)], type := 22, pos := "law.go:178", after := #[{ on := 11, ground := Ground.data }, { on := 10, ground := Ground.guard }], guard := some (10, true) }) rfl (fun K hK => ?_) AllReadyH.nil
    go_simp
    have bk64 := Blk.new x59 [.int .i64 k, .bool true, .string n, .bool g, .slice AS mS cS, .slice AW mW cW, .slice AR mR cR, .slice AL mL cL, .slice AC mC cC] 43
    have hb64 := alloc_below x59 (.cells #[.int .i64 k, .bool true, .string n, .bool g, .slice AS mS cS, .slice AW mW cW, .slice AR mR cR, .slice AL mL cL, .slice AC mC cC] 43)
    generalize x59.alloc (.cells #[.int .i64 k, .bool true, .string n, .bool g, .slice AS mS cS, .slice AW mW cW, .slice AR mR cR, .slice AL mL cL, .slice AC mC cC] 43) = x64 at bk64 hb64 ⊢
    have hS64 := hS59.trans (hb64.mono hS59.size)
    generalize hz64 : x59.heap.size = n64 at bk64 ⊢
    replace hz64 := Lib.hid hz64
    replace bk64 := Lib.hid bk64
    clear hb64
    refine hK.out _ _ hS64 (fun _ => ?_)
    clear hK K
    try simp only [Act.put, List.setIfInBounds_toArray, List.set_cons_zero, List.set_cons_succ]
    refine wpAnyH_ready (rs := [13]) (by kernel_rfl) (by simp) ?_
    refine AllReadyH.cons (o := { dst := some 65, op := Op.call { callee := Callee.value (Operand.func 9), args := #[Operand.tmp 64], argTypes := #[22] }, type := 25, pos := "law.go:178", after := #[{ on := 12, ground := Ground.data }, { on := 10, ground := Ground.chain }, { on := 10, ground := Ground.guard }], guard := some (10, true) }) rfl (fun K hK => ?_) AllReadyH.nil
    go_simp
    (go_at_call 9; refine (kP.out _ _ (hv9.out.trans (hS64.mono hv9.out.size)) bk64.out).mono ?_; rintro e x65 ⟨rfl, hc65⟩; have hS65 := hS64.trans (hc65.mono hS64.size))
    go_wp2_with fail
    refine hK.out _ _ hS65 (fun _ => ?_)
    clear hK K
    try simp only [Act.put, List.setIfInBounds_toArray, List.set_cons_zero, List.set_cons_succ]
    refine wpAnyH_take (i := 14) (oi := { dst := some 66, op := Op.binOp BinOp.eql 25 (Operand.tmp 65) (Operand.const (Value.int IntKind.i64 0)) 25, type := 4, pos := "law.go:178", after := #[{ on := 13, ground := Ground.data }, { on := 10, ground := Ground.guard }], guard := some (10, true) }) (v := .bool false) rfl (by kernel_rfl) (by kernel_rfl) (by kernel_rfl) (fun _ _ _ h => h) (Or.inl ⟨by kernel_rfl, ?_⟩) hS65 ?_
    · intro W hW
      clear hW
      go_simp
    try simp only [Act.put, List.setIfInBounds_toArray, List.set_cons_zero, List.set_cons_succ]
    refine wpAnyH_take (i := 18) (oi := { dst := some 70, op := Op.binOp BinOp.eql 4 (Operand.tmp 66) (Operand.tmp 69) 4, type := 4, pos := "law.go:178", after := #[{ on := 14, ground := Ground.data }, { on := 17, ground := Ground.data }, { on := 10, ground := Ground.guard }], guard := some (10, true) }) (v := .bool true) rfl (by kernel_rfl) (by kernel_rfl) (by kernel_rfl) (fun _ _ _ h => h) (Or.inl ⟨by kernel_rfl, ?_⟩) hS65 ?_
    · intro W hW
      clear hW
      go_simp
    try simp only [Act.put, List.setIfInBounds_toArray, List.set_cons_zero, List.set_cons_succ]
    refine wpAnyH_take (i := 19) (oi := { dst := some 71, op := Op.pick (Operand.tmp 62) (Operand.tmp 70) (Operand.const (Value.bool false)), type := 4, pos := "law.go:178", after := #[{ on := 10, ground := Ground.data }, { on := 18, ground := Ground.data }], guard := none }) (v := .bool true) rfl (by kernel_rfl) (by kernel_rfl) (by kernel_rfl) (fun _ _ _ h => h) (Or.inl ⟨by kernel_rfl, ?_⟩) hS65 ?_
    · intro W hW
      clear hW
      go_simp
    try simp only [Act.put, List.setIfInBounds_toArray, List.set_cons_zero, List.set_cons_succ]
    refine wpAnyH_take (i := 20) (oi := { dst := some 72, op := Op.move (Operand.tmp 71), type := 4, pos := "law.go:178", after := #[{ on := 19, ground := Ground.data }, { on := 13, ground := Ground.chain }], guard := none }) (v := .bool true) rfl (by kernel_rfl) (by kernel_rfl) (by kernel_rfl) (fun _ _ _ h => h) (Or.inl ⟨by kernel_rfl, ?_⟩) hS65 ?_
    · intro W hW
      clear hW
      go_simp
    try simp only [Act.put, List.setIfInBounds_toArray, List.set_cons_zero, List.set_cons_succ]
    refine wpAnyH_take (i := 21) (oi := { dst := some 73, op := Op.load 43 (Operand.tmp 9), type := 43, pos := "law.go:178", after := #[{ on := 20, ground := Ground.guard }], guard := some (20, true) }) (v := .agg #[.int .i64 k, .bool b, .string n, .bool true, .slice AS mS cS, .slice AW mW cW, .slice AR mR cR, .slice AL mL cL, .slice AC mC cC]) rfl (by kernel_rfl) (by kernel_rfl) (by kernel_rfl) (fun _ _ _ h => h) (Or.inl ⟨by kernel_rfl, ?_⟩) hS65 ?_
    · intro W hW
      obtain ⟨yn0, yn1, yn2, yn3, yn4, yn5, yn6, yn7, yn8, ym0, ym1, ym2, ym3, ym4, ym5, ym6, ym7, ym8, yo0, yo1, yo2, yo3, yo4, yo5, yo6, yo7, yo8, yp0, yp1, yp2, yp3, yp4, yp5, yp6, yp7, yp8, yq0, yq1, yq2, yq3, yq4, yq5, yq6, yq7, yq8, yr0, yr1, yr2, yr3, yr4, yr5, yr6, yr7, yr8⟩ := hcells.out W hW
      clear hW
      go_simp
    try simp only [Act.put, List.setIfInBounds_toArray, List.set_cons_zero, List.set_cons_succ]
    refine wpAnyH_take (i := 25) (oi := { dst := some 77, op := Op.fieldAddr 43 (Operand.tmp 5) 0, type := 0, pos := "law.go:178", after := #[{ on := 20, ground := Ground.guard }], guard := some (20, true) }) (v := .pointer (some ⟨zn, 0, none⟩)) rfl (by kernel_rfl) (by kernel_rfl) (by kernel_rfl) (fun _ _ _ h => h) (Or.inl ⟨by kernel_rfl, ?_⟩) hS65 ?_
    · intro W hW
      clear hW
      go_simp
    try simp only [Act.put, List.setIfInBounds_toArray, List.set_cons_zero, List.set_cons_succ]
    refine wpAnyH_take (i := 26) (oi := { dst := some 78, op := Op.load 3 (Operand.tmp 77), type := 3, pos := "law.go:178", after := #[{ on := 25, ground := Ground.data }, { on := 20, ground := Ground.guard }], guard := some (20, true) }) (v := .int .i64 k) rfl (by kernel_rfl) (by kernel_rfl) (by kernel_rfl) (fun _ _ _ h => h) (Or.inl ⟨by kernel_rfl, ?_⟩) hS65 ?_
    · intro W hW
      obtain ⟨yn0, yn1, yn2, yn3, yn4, yn5, yn6, yn7, yn8, ym0, ym1, ym2, ym3, ym4, ym5, ym6, ym7, ym8, yo0, yo1, yo2, yo3, yo4, yo5, yo6, yo7, yo8, yp0, yp1, yp2, yp3, yp4, yp5, yp6, yp7, yp8, yq0, yq1, yq2, yq3, yq4, yq5, yq6, yq7, yq8, yr0, yr1, yr2, yr3, yr4, yr5, yr6, yr7, yr8⟩ := hcells.out W hW
      clear hW
      go_simp
    try simp only [Act.put, List.setIfInBounds_toArray, List.set_cons_zero, List.set_cons_succ]
    refine wpAnyH_take (i := 27) (oi := { dst := some 79, op := Op.binOp BinOp.eql 3 (Operand.tmp 78) (Operand.const (Value.int IntKind.i64 11)) 3, type := 4, pos := "law.go:178", after := #[{ on := 26, ground := Ground.data }, { on := 20, ground := Ground.guard }], guard := some (20, true) }) (v := .bool false) rfl (by kernel_rfl) (by kernel_rfl) (by kernel_rfl) (fun _ _ _ h => h) (Or.inl ⟨by kernel_rfl, ?_⟩) hS65 ?_
    · intro W hW
      clear hW
      go_simp
    try simp only [Act.put, List.setIfInBounds_toArray, List.set_cons_zero, List.set_cons_succ]
    refine wpAnyH_ready (rs := [22]) (by kernel_rfl) (by simp) ?_
    refine AllReadyH.cons (o := { dst := some 74, op := Op.buildSlice 22 1 #[(0, Operand.tmp 73)], type := 22, pos := "law.go:178", after := #[{ on := 21, ground := Ground.data }, { on := 20, ground := Ground.guard }], guard := some (20, true) }) rfl (fun K hK => ?_) AllReadyH.nil
    go_simp
    have bk74 := Blk.new x65 [.int .i64 k, .bool b, .string n, .bool true, .slice AS mS cS, .slice AW mW cW, .slice AR mR cR, .slice AL mL cL, .slice AC mC cC] 43
    have hb74 := alloc_below x65 (.cells #[.int .i64 k, .bool b, .string n, .bool true, .slice AS mS cS, .slice AW mW cW, .slice AR mR cR, .slice AL mL cL, .slice AC mC cC] 43)
    generalize x65.alloc (.cells #[.int .i64 k, .bool b, .string n, .bool true, .slice AS mS cS, .slice AW mW cW, .slice AR mR cR, .slice AL mL cL, .slice AC mC cC] 43) = x74 at bk74 hb74 ⊢
    have hS74 := hS65.trans (hb74.mono hS65.size)
    generalize hz74 : x65.heap.size = n74 at bk74 ⊢
    replace hz74 := Lib.hid hz74
    replace bk74 := Lib.hid bk74
    clear hb74
    refine hK.out _ _ hS74 (fun _ => ?_)
    clear hK K
    try simp only [Act.put, List.setIfInBounds_toArray, List.set_cons_zero, List.set_cons_succ]
    refine wpAnyH_ready (rs := [23]) (by kernel_rfl) (by simp) ?_
    refine AllReadyH.cons (o := { dst := some 75, op := Op.call { callee := Callee.value (Operand.func 9), args := #[Operand.tmp 74], argTypes := #[22] }, type := 25, pos := "law.go:178", after := #[{ on := 22, ground := Ground.data }, { on := 20, ground := Ground.chain }, { on := 20, ground := Ground.guard }], guard := some (20, true) }) rfl (fun K hK => ?_) AllReadyH.nil
    go_simp
    (go_at_call 9; refine (kQ.out _ _ (hv9.out.trans (hS74.mono hv9.out.size)) bk74.out).mono ?_; rintro e x75 ⟨rfl, hc75⟩; have hS75 := hS74.trans (hc75.mono hS74.size))
    go_wp2_with fail
    refine hK.out _ _ hS75 (fun _ => ?_)
    clear hK K
    try simp only [Act.put, List.setIfInBounds_toArray, List.set_cons_zero, List.set_cons_succ]
    refine wpAnyH_take (i := 24) (oi := { dst := some 76, op := Op.binOp BinOp.eql 25 (Operand.tmp 75) (Operand.const (Value.int IntKind.i64 0)) 25, type := 4, pos := "law.go:178", after := #[{ on := 23, ground := Ground.data }, { on := 20, ground := Ground.guard }], guard := some (20, true) }) (v := .bool false) rfl (by kernel_rfl) (by kernel_rfl) (by kernel_rfl) (fun _ _ _ h => h) (Or.inl ⟨by kernel_rfl, ?_⟩) hS75 ?_
    · intro W hW
      clear hW
      go_simp
    try simp only [Act.put, List.setIfInBounds_toArray, List.set_cons_zero, List.set_cons_succ]
    refine wpAnyH_take (i := 28) (oi := { dst := some 80, op := Op.binOp BinOp.eql 4 (Operand.tmp 76) (Operand.tmp 79) 4, type := 4, pos := "law.go:178", after := #[{ on := 24, ground := Ground.data }, { on := 27, ground := Ground.data }, { on := 20, ground := Ground.guard }], guard := some (20, true) }) (v := .bool true) rfl (by kernel_rfl) (by kernel_rfl) (by kernel_rfl) (fun _ _ _ h => h) (Or.inl ⟨by kernel_rfl, ?_⟩) hS75 ?_
    · intro W hW
      clear hW
      go_simp
    try simp only [Act.put, List.setIfInBounds_toArray, List.set_cons_zero, List.set_cons_succ]
    refine wpAnyH_take (i := 29) (oi := { dst := some 81, op := Op.pick (Operand.tmp 72) (Operand.tmp 80) (Operand.const (Value.bool false)), type := 4, pos := "law.go:178", after := #[{ on := 20, ground := Ground.data }, { on := 28, ground := Ground.data }], guard := none }) (v := .bool true) rfl (by kernel_rfl) (by kernel_rfl) (by kernel_rfl) (fun _ _ _ h => h) (Or.inl ⟨by kernel_rfl, ?_⟩) hS75 ?_
    · intro W hW
      clear hW
      go_simp
    try simp only [Act.put, List.setIfInBounds_toArray, List.set_cons_zero, List.set_cons_succ]
    refine wpAnyH_take (i := 30) (oi := { dst := some 82, op := Op.move (Operand.tmp 81), type := 4, pos := "law.go:178", after := #[{ on := 29, ground := Ground.data }, { on := 23, ground := Ground.chain }], guard := none }) (v := .bool true) rfl (by kernel_rfl) (by kernel_rfl) (by kernel_rfl) (fun _ _ _ h => h) (Or.inl ⟨by kernel_rfl, ?_⟩) hS75 ?_
    · intro W hW
      clear hW
      go_simp
    try simp only [Act.put, List.setIfInBounds_toArray, List.set_cons_zero, List.set_cons_succ]
    refine wpAnyH_take (i := 31) (oi := { dst := some 83, op := Op.fieldAddr 43 (Operand.tmp 5) 0, type := 0, pos := "law.go:178", after := #[{ on := 30, ground := Ground.guard }], guard := some (30, true) }) (v := .pointer (some ⟨zn, 0, none⟩)) rfl (by kernel_rfl) (by kernel_rfl) (by kernel_rfl) (fun _ _ _ h => h) (Or.inl ⟨by kernel_rfl, ?_⟩) hS75 ?_
    · intro W hW
      clear hW
      go_simp
    try simp only [Act.put, List.setIfInBounds_toArray, List.set_cons_zero, List.set_cons_succ]
    refine wpAnyH_take (i := 32) (oi := { dst := some 84, op := Op.load 3 (Operand.tmp 83), type := 3, pos := "law.go:178", after := #[{ on := 31, ground := Ground.data }, { on := 30, ground := Ground.guard }], guard := some (30, true) }) (v := .int .i64 k) rfl (by kernel_rfl) (by kernel_rfl) (by kernel_rfl) (fun _ _ _ h => h) (Or.inl ⟨by kernel_rfl, ?_⟩) hS75 ?_
    · intro W hW
      obtain ⟨yn0, yn1, yn2, yn3, yn4, yn5, yn6, yn7, yn8, ym0, ym1, ym2, ym3, ym4, ym5, ym6, ym7, ym8, yo0, yo1, yo2, yo3, yo4, yo5, yo6, yo7, yo8, yp0, yp1, yp2, yp3, yp4, yp5, yp6, yp7, yp8, yq0, yq1, yq2, yq3, yq4, yq5, yq6, yq7, yq8, yr0, yr1, yr2, yr3, yr4, yr5, yr6, yr7, yr8⟩ := hcells.out W hW
      clear hW
      go_simp
    try simp only [Act.put, List.setIfInBounds_toArray, List.set_cons_zero, List.set_cons_succ]
    refine wpAnyH_take (i := 33) (oi := { dst := some 85, op := Op.binOp BinOp.eql 3 (Operand.tmp 84) (Operand.const (Value.int IntKind.i64 12)) 3, type := 4, pos := "law.go:178", after := #[{ on := 32, ground := Ground.data }, { on := 30, ground := Ground.guard }], guard := some (30, true) }) (v := .bool true) rfl (by kernel_rfl) (by kernel_rfl) (by kernel_rfl) (fun _ _ _ h => h) (Or.inl ⟨by kernel_rfl, ?_⟩) hS75 ?_
    · intro W hW
      clear hW
      go_simp
    try simp only [Act.put, List.setIfInBounds_toArray, List.set_cons_zero, List.set_cons_succ]
    refine wpAnyH_take (i := 34) (oi := { dst := some 86, op := Op.move (Operand.tmp 85), type := 4, pos := "law.go:178", after := #[{ on := 33, ground := Ground.data }, { on := 30, ground := Ground.chain }, { on := 30, ground := Ground.guard }], guard := some (30, true) }) (v := .bool true) rfl (by kernel_rfl) (by kernel_rfl) (by kernel_rfl) (fun _ _ _ h => h) (Or.inl ⟨by kernel_rfl, ?_⟩) hS75 ?_
    · intro W hW
      clear hW
      go_simp
    try simp only [Act.put, List.setIfInBounds_toArray, List.set_cons_zero, List.set_cons_succ]
    refine wpAnyH_take (i := 35) (oi := { dst := some 87, op := Op.load 43 (Operand.tmp 10), type := 43, pos := "law.go:178", after := #[{ on := 34, ground := Ground.guard }], guard := some (34, false) }) (v := undef) rfl (by kernel_rfl) (by kernel_rfl) (by kernel_rfl) (fun _ _ _ h => h) (Or.inr ⟨by kernel_rfl, rfl⟩) hS75 ?_
    try simp only [Act.put, List.setIfInBounds_toArray, List.set_cons_zero, List.set_cons_succ]
    refine wpAnyH_take (i := 36) (oi := { dst := some 88, op := Op.buildSlice 22 1 #[(0, Operand.tmp 87)], type := 22, pos := "law.go:178", after := #[{ on := 35, ground := Ground.data }, { on := 34, ground := Ground.guard }], guard := some (34, false) }) (v := undef) rfl (by kernel_rfl) (by kernel_rfl) (by kernel_rfl) (fun _ _ _ h => h) (Or.inr ⟨by kernel_rfl, rfl⟩) hS75 ?_
    try simp only [Act.put, List.setIfInBounds_toArray, List.set_cons_zero, List.set_cons_succ]
    refine wpAnyH_take (i := 37) (oi := { dst := some 89, op := Op.call { callee := Callee.value (Operand.func 9), args := #[Operand.tmp 88], argTypes := #[22] }, type := 25, pos := "law.go:178", after := #[{ on := 36, ground := Ground.data }, { on := 34, ground := Ground.chain }, { on := 34, ground := Ground.guard }], guard := some (34, false) }) (v := undef) rfl (by kernel_rfl) (by kernel_rfl) (by kernel_rfl) (fun _ _ _ h => h) (Or.inr ⟨by kernel_rfl, rfl⟩) hS75 ?_
    try simp only [Act.put, List.setIfInBounds_toArray, List.set_cons_zero, List.set_cons_succ]
    refine wpAnyH_take (i := 38) (oi := { dst := some 90, op := Op.binOp BinOp.neq 25 (Operand.tmp 89) (Operand.const (Value.int IntKind.i64 0)) 25, type := 4, pos := "law.go:178", after := #[{ on := 37, ground := Ground.data }, { on := 34, ground := Ground.guard }], guard := some (34, false) }) (v := undef) rfl (by kernel_rfl) (by kernel_rfl) (by kernel_rfl) (fun _ _ _ h => h) (Or.inr ⟨by kernel_rfl, rfl⟩) hS75 ?_
    try simp only [Act.put, List.setIfInBounds_toArray, List.set_cons_zero, List.set_cons_succ]
    refine wpAnyH_take (i := 39) (oi := { dst := some 91, op := Op.pick (Operand.tmp 86) (Operand.const (Value.bool true)) (Operand.tmp 90), type := 4, pos := "law.go:178", after := #[{ on := 34, ground := Ground.data }, { on := 38, ground := Ground.data }, { on := 30, ground := Ground.guard }], guard := some (30, true) }) (v := .bool true) rfl (by kernel_rfl) (by kernel_rfl) (by kernel_rfl) (fun _ _ _ h => h) (Or.inl ⟨by kernel_rfl, ?_⟩) hS75 ?_
    · intro W hW
      clear hW
      go_simp
    try simp only [Act.put, List.setIfInBounds_toArray, List.set_cons_zero, List.set_cons_succ]
    refine wpAnyH_take (i := 40) (oi := { dst := some 92, op := Op.pick (Operand.tmp 82) (Operand.tmp 91) (Operand.const (Value.bool false)), type := 4, pos := "law.go:178", after := #[{ on := 30, ground := Ground.data }, { on := 39, ground := Ground.data }], guard := none }) (v := .bool true) rfl (by kernel_rfl) (by kernel_rfl) (by kernel_rfl) (fun _ _ _ h => h) (Or.inl ⟨by kernel_rfl, ?_⟩) hS75 ?_
    · intro W hW
      clear hW
      go_simp
    try simp only [Act.put, List.setIfInBounds_toArray, List.set_cons_zero, List.set_cons_succ]
    refine wpAnyH_take (i := 41) (oi := { dst := some 93, op := Op.move (Operand.tmp 92), type := 4, pos := "law.go:178", after := #[{ on := 40, ground := Ground.data }, { on := 37, ground := Ground.chain }], guard := none }) (v := .bool true) rfl (by kernel_rfl) (by kernel_rfl) (by kernel_rfl) (fun _ _ _ h => h) (Or.inl ⟨by kernel_rfl, ?_⟩) hS75 ?_
    · intro W hW
      clear hW
      go_simp
    try simp only [Act.put, List.setIfInBounds_toArray, List.set_cons_zero, List.set_cons_succ]
    refine wpAnyH_ready (rs := [42]) (by kernel_rfl) (by simp) ?_
    refine AllReadyH.cons (o := { dst := some 94, op := Op.call { callee := Callee.value (Operand.func 8), args := #[], argTypes := #[] }, type := 4, pos := "law.go:178", after := #[{ on := 41, ground := Ground.chain }, { on := 41, ground := Ground.guard }], guard := some (41, true) }) rfl (fun K hK => ?_) AllReadyH.nil
    go_simp
    (go_at_call 8; refine (haw.out _).mono ?_; rintro e x94 ⟨rfl, hc94⟩; have hS94 := hS75.trans (hc94.mono hS75.size))
    go_wp2_with fail
    refine hK.out _ _ hS94 (fun _ => ?_)
    clear hK K
    try simp only [Act.put, List.setIfInBounds_toArray, List.set_cons_zero, List.set_cons_succ]
    refine wpAnyH_take (i := 43) (oi := { dst := some 95, op := Op.pick (Operand.tmp 93) (Operand.tmp 94) (Operand.const (Value.bool false)), type := 4, pos := "law.go:178", after := #[{ on := 41, ground := Ground.data }, { on := 42, ground := Ground.data }], guard := none }) (v := .bool true) rfl (by kernel_rfl) (by kernel_rfl) (by kernel_rfl) (fun _ _ _ h => h) (Or.inl ⟨by kernel_rfl, ?_⟩) hS94 ?_
    · intro W hW
      clear hW
      go_simp
    try simp only [Act.put, List.setIfInBounds_toArray, List.set_cons_zero, List.set_cons_succ]
    refine wpAnyH_take (i := 44) (oi := { dst := some 4, op := Op.assign (Operand.tmp 95), type := 4, pos := "law.go:178", after := #[{ on := 43, ground := Ground.data }, { on := 42, ground := Ground.chain }, { on := 0, ground := Ground.phase }, { on := 1, ground := Ground.phase }, { on := 2, ground := Ground.phase }, { on := 3, ground := Ground.phase }, { on := 4, ground := Ground.phase }, { on := 5, ground := Ground.phase }, { on := 6, ground := Ground.phase }, { on := 7, ground := Ground.phase }, { on := 8, ground := Ground.phase }, { on := 9, ground := Ground.phase }, { on := 10, ground := Ground.phase }, { on := 11, ground := Ground.phase }, { on := 12, ground := Ground.phase }, { on := 13, ground := Ground.phase }, { on := 14, ground := Ground.phase }, { on := 15, ground := Ground.phase }, { on := 16, ground := Ground.phase }, { on := 17, ground := Ground.phase }, { on := 18, ground := Ground.phase }, { on := 19, ground := Ground.phase }, { on := 20, ground := Ground.phase }, { on := 21, ground := Ground.phase }, { on := 22, ground := Ground.phase }, { on := 23, ground := Ground.phase }, { on := 24, ground := Ground.phase }, { on := 25, ground := Ground.phase }, { on := 26, ground := Ground.phase }, { on := 27, ground := Ground.phase }, { on := 28, ground := Ground.phase }, { on := 29, ground := Ground.phase }, { on := 30, ground := Ground.phase }, { on := 31, ground := Ground.phase }, { on := 32, ground := Ground.phase }, { on := 33, ground := Ground.phase }, { on := 34, ground := Ground.phase }, { on := 35, ground := Ground.phase }, { on := 36, ground := Ground.phase }, { on := 37, ground := Ground.phase }, { on := 38, ground := Ground.phase }, { on := 39, ground := Ground.phase }, { on := 40, ground := Ground.phase }, { on := 41, ground := Ground.phase }, { on := 42, ground := Ground.phase }, { on := 43, ground := Ground.phase }], guard := none }) (v := .bool true) rfl (by kernel_rfl) (by kernel_rfl) (by kernel_rfl) (fun _ _ _ h => h) (Or.inl ⟨by kernel_rfl, ?_⟩) hS94 ?_
    · intro W hW
      clear hW
      go_simp
    try simp only [Act.put, List.setIfInBounds_toArray, List.set_cons_zero, List.set_cons_succ]
    refine wpAnyH_done (by kernel_rfl) ?_ _
    have hE := Lib.hid (hv9.out.trans (hS94.mono hv9.out.size))
    go_wp2
    go_ret
    exact ⟨rfl, hE.out⟩
  rw [show decide (k = 2) = false from decide_eq_false h2] at kP
  rw [show decide (k = 11) = false from decide_eq_false h11] at kQ
  simp only [if_true, if_false, Bool.false_eq_true] at kP kQ
  have g2 : (k == 2) = false := beq_eq_false_iff_ne.2 h2
  have g11 : (k == 11) = false := beq_eq_false_iff_ne.2 h11
  have g12 : (k == 12) = false := beq_eq_false_iff_ne.2 h12
  replace h2 := Lib.hid h2
  replace h11 := Lib.hid h11
  replace h12 := Lib.hid h12
  have hS0 := drewN_below v9 1
  refine wp_region_held_drew (S := fun w => Below v9.heap.size v9 w) (by kernel_rfl) hS0 (fun _ => ?_)
  change Below v9.heap.size v9 v9.drew at hS0
  generalize v9.drew = vd at hS0 ⊢
  refine wpAnyH_take (i := 0) (oi := { dst := some 52, op := Op.load 43 (Operand.tmp 6), type := 43, pos := "law.go:178", after := #[], guard := none }) (v := .agg #[.int .i64 0, .bool b, .string n, .bool g, .slice AS mS cS, .slice AW mW cW, .slice AR mR cR, .slice AL mL cL, .slice AC mC cC]) rfl (by kernel_rfl) (by kernel_rfl) (by kernel_rfl) (fun _ _ _ h => h) (Or.inl ⟨by kernel_rfl, ?_⟩) hS0 ?_
  · intro W hW
    obtain ⟨yn0, yn1, yn2, yn3, yn4, yn5, yn6, yn7, yn8, ym0, ym1, ym2, ym3, ym4, ym5, ym6, ym7, ym8, yo0, yo1, yo2, yo3, yo4, yo5, yo6, yo7, yo8, yp0, yp1, yp2, yp3, yp4, yp5, yp6, yp7, yp8, yq0, yq1, yq2, yq3, yq4, yq5, yq6, yq7, yq8, yr0, yr1, yr2, yr3, yr4, yr5, yr6, yr7, yr8⟩ := hcells.out W hW
    clear hW
    go_simp
  try simp only [Act.put, List.setIfInBounds_toArray, List.set_cons_zero, List.set_cons_succ]
  refine wpAnyH_ready (rs := [1]) (by kernel_rfl) (by simp) ?_
  refine AllReadyH.cons (o := { dst := some 53, op := Op.buildSlice 22 1 #[(0, Operand.tmp 52)], type := 22, pos := "law.go:178", after := #[{ on := 0, ground := Ground.data }], guard := none }) rfl (fun K hK => ?_) AllReadyH.nil
  go_simp
  have bk53 := Blk.new vd [.int .i64 0, .bool b, .string n, .bool g, .slice AS mS cS, .slice AW mW cW, .slice AR mR cR, .slice AL mL cL, .slice AC mC cC] 43
  have hb53 := alloc_below vd (.cells #[.int .i64 0, .bool b, .string n, .bool g, .slice AS mS cS, .slice AW mW cW, .slice AR mR cR, .slice AL mL cL, .slice AC mC cC] 43)
  generalize vd.alloc (.cells #[.int .i64 0, .bool b, .string n, .bool g, .slice AS mS cS, .slice AW mW cW, .slice AR mR cR, .slice AL mL cL, .slice AC mC cC] 43) = x53 at bk53 hb53 ⊢
  have hS53 := hS0.trans (hb53.mono hS0.size)
  generalize hz53 : vd.heap.size = n53 at bk53 ⊢
  replace hz53 := Lib.hid hz53
  replace bk53 := Lib.hid bk53
  clear hb53
  refine hK.out _ _ hS53 (fun _ => ?_)
  clear hK K
  try simp only [Act.put, List.setIfInBounds_toArray, List.set_cons_zero, List.set_cons_succ]
  refine wpAnyH_ready (rs := [2]) (by kernel_rfl) (by simp) ?_
  refine AllReadyH.cons (o := { dst := some 54, op := Op.call { callee := Callee.value (Operand.func 9), args := #[Operand.tmp 53], argTypes := #[22] }, type := 25, pos := "law.go:178", after := #[{ on := 1, ground := Ground.data }], guard := none }) rfl (fun K hK => ?_) AllReadyH.nil
  go_simp
  (go_at_call 9; refine (kM.out _ _ (hv9.out.trans (hS53.mono hv9.out.size)) bk53.out).mono ?_; rintro e x54 ⟨rfl, hc54⟩; have hS54 := hS53.trans (hc54.mono hS53.size))
  go_wp2_with fail
  refine hK.out _ _ hS54 (fun _ => ?_)
  clear hK K
  try simp only [Act.put, List.setIfInBounds_toArray, List.set_cons_zero, List.set_cons_succ]
  refine wpAnyH_take (i := 3) (oi := { dst := some 55, op := Op.binOp BinOp.eql 25 (Operand.tmp 54) (Operand.const (Value.int IntKind.i64 1)) 25, type := 4, pos := "law.go:178", after := #[{ on := 2, ground := Ground.data }], guard := none }) (v := .bool true) rfl (by kernel_rfl) (by kernel_rfl) (by kernel_rfl) (fun _ _ _ h => h) (Or.inl ⟨by kernel_rfl, ?_⟩) hS54 ?_
  · intro W hW
    clear hW
    go_simp
  try simp only [Act.put, List.setIfInBounds_toArray, List.set_cons_zero, List.set_cons_succ]
  refine wpAnyH_take (i := 4) (oi := { dst := some 56, op := Op.move (Operand.tmp 55), type := 4, pos := "law.go:178", after := #[{ on := 3, ground := Ground.data }, { on := 2, ground := Ground.chain }], guard := none }) (v := .bool true) rfl (by kernel_rfl) (by kernel_rfl) (by kernel_rfl) (fun _ _ _ h => h) (Or.inl ⟨by kernel_rfl, ?_⟩) hS54 ?_
  · intro W hW
    clear hW
    go_simp
  try simp only [Act.put, List.setIfInBounds_toArray, List.set_cons_zero, List.set_cons_succ]
  refine wpAnyH_take (i := 5) (oi := { dst := some 57, op := Op.load 43 (Operand.tmp 7), type := 43, pos := "law.go:178", after := #[{ on := 4, ground := Ground.guard }], guard := some (4, true) }) (v := .agg #[.int .i64 14, .bool b, .string n, .bool g, .slice AS mS cS, .slice AW mW cW, .slice AR mR cR, .slice AL mL cL, .slice AC mC cC]) rfl (by kernel_rfl) (by kernel_rfl) (by kernel_rfl) (fun _ _ _ h => h) (Or.inl ⟨by kernel_rfl, ?_⟩) hS54 ?_
  · intro W hW
    obtain ⟨yn0, yn1, yn2, yn3, yn4, yn5, yn6, yn7, yn8, ym0, ym1, ym2, ym3, ym4, ym5, ym6, ym7, ym8, yo0, yo1, yo2, yo3, yo4, yo5, yo6, yo7, yo8, yp0, yp1, yp2, yp3, yp4, yp5, yp6, yp7, yp8, yq0, yq1, yq2, yq3, yq4, yq5, yq6, yq7, yq8, yr0, yr1, yr2, yr3, yr4, yr5, yr6, yr7, yr8⟩ := hcells.out W hW
    clear hW
    go_simp
  try simp only [Act.put, List.setIfInBounds_toArray, List.set_cons_zero, List.set_cons_succ]
  refine wpAnyH_ready (rs := [6]) (by kernel_rfl) (by simp) ?_
  refine AllReadyH.cons (o := { dst := some 58, op := Op.buildSlice 22 1 #[(0, Operand.tmp 57)], type := 22, pos := "law.go:178", after := #[{ on := 5, ground := Ground.data }, { on := 4, ground := Ground.guard }], guard := some (4, true) }) rfl (fun K hK => ?_) AllReadyH.nil
  go_simp
  have bk58 := Blk.new x54 [.int .i64 14, .bool b, .string n, .bool g, .slice AS mS cS, .slice AW mW cW, .slice AR mR cR, .slice AL mL cL, .slice AC mC cC] 43
  have hb58 := alloc_below x54 (.cells #[.int .i64 14, .bool b, .string n, .bool g, .slice AS mS cS, .slice AW mW cW, .slice AR mR cR, .slice AL mL cL, .slice AC mC cC] 43)
  generalize x54.alloc (.cells #[.int .i64 14, .bool b, .string n, .bool g, .slice AS mS cS, .slice AW mW cW, .slice AR mR cR, .slice AL mL cL, .slice AC mC cC] 43) = x58 at bk58 hb58 ⊢
  have hS58 := hS54.trans (hb58.mono hS54.size)
  generalize hz58 : x54.heap.size = n58 at bk58 ⊢
  replace hz58 := Lib.hid hz58
  replace bk58 := Lib.hid bk58
  clear hb58
  refine hK.out _ _ hS58 (fun _ => ?_)
  clear hK K
  try simp only [Act.put, List.setIfInBounds_toArray, List.set_cons_zero, List.set_cons_succ]
  refine wpAnyH_ready (rs := [7]) (by kernel_rfl) (by simp) ?_
  refine AllReadyH.cons (o := { dst := some 59, op := Op.call { callee := Callee.value (Operand.func 9), args := #[Operand.tmp 58], argTypes := #[22] }, type := 25, pos := "law.go:178", after := #[{ on := 6, ground := Ground.data }, { on := 4, ground := Ground.chain }, { on := 4, ground := Ground.guard }], guard := some (4, true) }) rfl (fun K hK => ?_) AllReadyH.nil
  go_simp
  (go_at_call 9; refine (kO.out _ _ (hv9.out.trans (hS58.mono hv9.out.size)) bk58.out).mono ?_; rintro e x59 ⟨rfl, hc59⟩; have hS59 := hS58.trans (hc59.mono hS58.size))
  go_wp2_with fail
  refine hK.out _ _ hS59 (fun _ => ?_)
  clear hK K
  try simp only [Act.put, List.setIfInBounds_toArray, List.set_cons_zero, List.set_cons_succ]
  refine wpAnyH_take (i := 8) (oi := { dst := some 60, op := Op.binOp BinOp.eql 25 (Operand.tmp 59) (Operand.const (Value.int IntKind.i64 1)) 25, type := 4, pos := "law.go:178", after := #[{ on := 7, ground := Ground.data }, { on := 4, ground := Ground.guard }], guard := some (4, true) }) (v := .bool true) rfl (by kernel_rfl) (by kernel_rfl) (by kernel_rfl) (fun _ _ _ h => h) (Or.inl ⟨by kernel_rfl, ?_⟩) hS59 ?_
  · intro W hW
    clear hW
    go_simp
  try simp only [Act.put, List.setIfInBounds_toArray, List.set_cons_zero, List.set_cons_succ]
  refine wpAnyH_take (i := 9) (oi := { dst := some 61, op := Op.pick (Operand.tmp 56) (Operand.tmp 60) (Operand.const (Value.bool false)), type := 4, pos := "law.go:178", after := #[{ on := 4, ground := Ground.data }, { on := 8, ground := Ground.data }], guard := none }) (v := .bool true) rfl (by kernel_rfl) (by kernel_rfl) (by kernel_rfl) (fun _ _ _ h => h) (Or.inl ⟨by kernel_rfl, ?_⟩) hS59 ?_
  · intro W hW
    clear hW
    go_simp
  try simp only [Act.put, List.setIfInBounds_toArray, List.set_cons_zero, List.set_cons_succ]
  refine wpAnyH_take (i := 10) (oi := { dst := some 62, op := Op.move (Operand.tmp 61), type := 4, pos := "law.go:178", after := #[{ on := 9, ground := Ground.data }, { on := 7, ground := Ground.chain }], guard := none }) (v := .bool true) rfl (by kernel_rfl) (by kernel_rfl) (by kernel_rfl) (fun _ _ _ h => h) (Or.inl ⟨by kernel_rfl, ?_⟩) hS59 ?_
  · intro W hW
    clear hW
    go_simp
  try simp only [Act.put, List.setIfInBounds_toArray, List.set_cons_zero, List.set_cons_succ]
  refine wpAnyH_take (i := 11) (oi := { dst := some 63, op := Op.load 43 (Operand.tmp 8), type := 43, pos := "law.go:178", after := #[{ on := 10, ground := Ground.guard }], guard := some (10, true) }) (v := .agg #[.int .i64 k, .bool true, .string n, .bool g, .slice AS mS cS, .slice AW mW cW, .slice AR mR cR, .slice AL mL cL, .slice AC mC cC]) rfl (by kernel_rfl) (by kernel_rfl) (by kernel_rfl) (fun _ _ _ h => h) (Or.inl ⟨by kernel_rfl, ?_⟩) hS59 ?_
  · intro W hW
    obtain ⟨yn0, yn1, yn2, yn3, yn4, yn5, yn6, yn7, yn8, ym0, ym1, ym2, ym3, ym4, ym5, ym6, ym7, ym8, yo0, yo1, yo2, yo3, yo4, yo5, yo6, yo7, yo8, yp0, yp1, yp2, yp3, yp4, yp5, yp6, yp7, yp8, yq0, yq1, yq2, yq3, yq4, yq5, yq6, yq7, yq8, yr0, yr1, yr2, yr3, yr4, yr5, yr6, yr7, yr8⟩ := hcells.out W hW
    clear hW
    go_simp
  try simp only [Act.put, List.setIfInBounds_toArray, List.set_cons_zero, List.set_cons_succ]
  refine wpAnyH_take (i := 15) (oi := { dst := some 67, op := Op.fieldAddr 43 (Operand.tmp 5) 0, type := 0, pos := "law.go:178", after := #[{ on := 10, ground := Ground.guard }], guard := some (10, true) }) (v := .pointer (some ⟨zn, 0, none⟩)) rfl (by kernel_rfl) (by kernel_rfl) (by kernel_rfl) (fun _ _ _ h => h) (Or.inl ⟨by kernel_rfl, ?_⟩) hS59 ?_
  · intro W hW
    clear hW
    go_simp
  try simp only [Act.put, List.setIfInBounds_toArray, List.set_cons_zero, List.set_cons_succ]
  refine wpAnyH_take (i := 16) (oi := { dst := some 68, op := Op.load 3 (Operand.tmp 67), type := 3, pos := "law.go:178", after := #[{ on := 15, ground := Ground.data }, { on := 10, ground := Ground.guard }], guard := some (10, true) }) (v := .int .i64 k) rfl (by kernel_rfl) (by kernel_rfl) (by kernel_rfl) (fun _ _ _ h => h) (Or.inl ⟨by kernel_rfl, ?_⟩) hS59 ?_
  · intro W hW
    obtain ⟨yn0, yn1, yn2, yn3, yn4, yn5, yn6, yn7, yn8, ym0, ym1, ym2, ym3, ym4, ym5, ym6, ym7, ym8, yo0, yo1, yo2, yo3, yo4, yo5, yo6, yo7, yo8, yp0, yp1, yp2, yp3, yp4, yp5, yp6, yp7, yp8, yq0, yq1, yq2, yq3, yq4, yq5, yq6, yq7, yq8, yr0, yr1, yr2, yr3, yr4, yr5, yr6, yr7, yr8⟩ := hcells.out W hW
    clear hW
    go_simp
  try simp only [Act.put, List.setIfInBounds_toArray, List.set_cons_zero, List.set_cons_succ]
  refine wpAnyH_take (i := 17) (oi := { dst := some 69, op := Op.binOp BinOp.eql 3 (Operand.tmp 68) (Operand.const (Value.int IntKind.i64 2)) 3, type := 4, pos := "law.go:178", after := #[{ on := 16, ground := Ground.data }, { on := 10, ground := Ground.guard }], guard := some (10, true) }) (v := .bool false) rfl (by kernel_rfl) (by kernel_rfl) (by kernel_rfl) (fun _ _ _ h => h) (Or.inl ⟨by kernel_rfl, ?_⟩) hS59 ?_
  · intro W hW
    clear hW
    go_simp
  try simp only [Act.put, List.setIfInBounds_toArray, List.set_cons_zero, List.set_cons_succ]
  refine wpAnyH_ready (rs := [12]) (by kernel_rfl) (by simp) ?_
  refine AllReadyH.cons (o := { dst := some 64, op := Op.buildSlice 22 1 #[(0, Operand.tmp 63)], type := 22, pos := "law.go:178", after := #[{ on := 11, ground := Ground.data }, { on := 10, ground := Ground.guard }], guard := some (10, true) }) rfl (fun K hK => ?_) AllReadyH.nil
  go_simp
  have bk64 := Blk.new x59 [.int .i64 k, .bool true, .string n, .bool g, .slice AS mS cS, .slice AW mW cW, .slice AR mR cR, .slice AL mL cL, .slice AC mC cC] 43
  have hb64 := alloc_below x59 (.cells #[.int .i64 k, .bool true, .string n, .bool g, .slice AS mS cS, .slice AW mW cW, .slice AR mR cR, .slice AL mL cL, .slice AC mC cC] 43)
  generalize x59.alloc (.cells #[.int .i64 k, .bool true, .string n, .bool g, .slice AS mS cS, .slice AW mW cW, .slice AR mR cR, .slice AL mL cL, .slice AC mC cC] 43) = x64 at bk64 hb64 ⊢
  have hS64 := hS59.trans (hb64.mono hS59.size)
  generalize hz64 : x59.heap.size = n64 at bk64 ⊢
  replace hz64 := Lib.hid hz64
  replace bk64 := Lib.hid bk64
  clear hb64
  refine hK.out _ _ hS64 (fun _ => ?_)
  clear hK K
  try simp only [Act.put, List.setIfInBounds_toArray, List.set_cons_zero, List.set_cons_succ]
  refine wpAnyH_ready (rs := [13]) (by kernel_rfl) (by simp) ?_
  refine AllReadyH.cons (o := { dst := some 65, op := Op.call { callee := Callee.value (Operand.func 9), args := #[Operand.tmp 64], argTypes := #[22] }, type := 25, pos := "law.go:178", after := #[{ on := 12, ground := Ground.data }, { on := 10, ground := Ground.chain }, { on := 10, ground := Ground.guard }], guard := some (10, true) }) rfl (fun K hK => ?_) AllReadyH.nil
  go_simp
  (go_at_call 9; refine (kP.out _ _ (hv9.out.trans (hS64.mono hv9.out.size)) bk64.out).mono ?_; rintro e x65 ⟨rfl, hc65⟩; have hS65 := hS64.trans (hc65.mono hS64.size))
  go_wp2_with fail
  refine hK.out _ _ hS65 (fun _ => ?_)
  clear hK K
  try simp only [Act.put, List.setIfInBounds_toArray, List.set_cons_zero, List.set_cons_succ]
  refine wpAnyH_take (i := 14) (oi := { dst := some 66, op := Op.binOp BinOp.eql 25 (Operand.tmp 65) (Operand.const (Value.int IntKind.i64 0)) 25, type := 4, pos := "law.go:178", after := #[{ on := 13, ground := Ground.data }, { on := 10, ground := Ground.guard }], guard := some (10, true) }) (v := .bool false) rfl (by kernel_rfl) (by kernel_rfl) (by kernel_rfl) (fun _ _ _ h => h) (Or.inl ⟨by kernel_rfl, ?_⟩) hS65 ?_
  · intro W hW
    clear hW
    go_simp
  try simp only [Act.put, List.setIfInBounds_toArray, List.set_cons_zero, List.set_cons_succ]
  refine wpAnyH_take (i := 18) (oi := { dst := some 70, op := Op.binOp BinOp.eql 4 (Operand.tmp 66) (Operand.tmp 69) 4, type := 4, pos := "law.go:178", after := #[{ on := 14, ground := Ground.data }, { on := 17, ground := Ground.data }, { on := 10, ground := Ground.guard }], guard := some (10, true) }) (v := .bool true) rfl (by kernel_rfl) (by kernel_rfl) (by kernel_rfl) (fun _ _ _ h => h) (Or.inl ⟨by kernel_rfl, ?_⟩) hS65 ?_
  · intro W hW
    clear hW
    go_simp
  try simp only [Act.put, List.setIfInBounds_toArray, List.set_cons_zero, List.set_cons_succ]
  refine wpAnyH_take (i := 19) (oi := { dst := some 71, op := Op.pick (Operand.tmp 62) (Operand.tmp 70) (Operand.const (Value.bool false)), type := 4, pos := "law.go:178", after := #[{ on := 10, ground := Ground.data }, { on := 18, ground := Ground.data }], guard := none }) (v := .bool true) rfl (by kernel_rfl) (by kernel_rfl) (by kernel_rfl) (fun _ _ _ h => h) (Or.inl ⟨by kernel_rfl, ?_⟩) hS65 ?_
  · intro W hW
    clear hW
    go_simp
  try simp only [Act.put, List.setIfInBounds_toArray, List.set_cons_zero, List.set_cons_succ]
  refine wpAnyH_take (i := 20) (oi := { dst := some 72, op := Op.move (Operand.tmp 71), type := 4, pos := "law.go:178", after := #[{ on := 19, ground := Ground.data }, { on := 13, ground := Ground.chain }], guard := none }) (v := .bool true) rfl (by kernel_rfl) (by kernel_rfl) (by kernel_rfl) (fun _ _ _ h => h) (Or.inl ⟨by kernel_rfl, ?_⟩) hS65 ?_
  · intro W hW
    clear hW
    go_simp
  try simp only [Act.put, List.setIfInBounds_toArray, List.set_cons_zero, List.set_cons_succ]
  refine wpAnyH_take (i := 21) (oi := { dst := some 73, op := Op.load 43 (Operand.tmp 9), type := 43, pos := "law.go:178", after := #[{ on := 20, ground := Ground.guard }], guard := some (20, true) }) (v := .agg #[.int .i64 k, .bool b, .string n, .bool true, .slice AS mS cS, .slice AW mW cW, .slice AR mR cR, .slice AL mL cL, .slice AC mC cC]) rfl (by kernel_rfl) (by kernel_rfl) (by kernel_rfl) (fun _ _ _ h => h) (Or.inl ⟨by kernel_rfl, ?_⟩) hS65 ?_
  · intro W hW
    obtain ⟨yn0, yn1, yn2, yn3, yn4, yn5, yn6, yn7, yn8, ym0, ym1, ym2, ym3, ym4, ym5, ym6, ym7, ym8, yo0, yo1, yo2, yo3, yo4, yo5, yo6, yo7, yo8, yp0, yp1, yp2, yp3, yp4, yp5, yp6, yp7, yp8, yq0, yq1, yq2, yq3, yq4, yq5, yq6, yq7, yq8, yr0, yr1, yr2, yr3, yr4, yr5, yr6, yr7, yr8⟩ := hcells.out W hW
    clear hW
    go_simp
  try simp only [Act.put, List.setIfInBounds_toArray, List.set_cons_zero, List.set_cons_succ]
  refine wpAnyH_take (i := 25) (oi := { dst := some 77, op := Op.fieldAddr 43 (Operand.tmp 5) 0, type := 0, pos := "law.go:178", after := #[{ on := 20, ground := Ground.guard }], guard := some (20, true) }) (v := .pointer (some ⟨zn, 0, none⟩)) rfl (by kernel_rfl) (by kernel_rfl) (by kernel_rfl) (fun _ _ _ h => h) (Or.inl ⟨by kernel_rfl, ?_⟩) hS65 ?_
  · intro W hW
    clear hW
    go_simp
  try simp only [Act.put, List.setIfInBounds_toArray, List.set_cons_zero, List.set_cons_succ]
  refine wpAnyH_take (i := 26) (oi := { dst := some 78, op := Op.load 3 (Operand.tmp 77), type := 3, pos := "law.go:178", after := #[{ on := 25, ground := Ground.data }, { on := 20, ground := Ground.guard }], guard := some (20, true) }) (v := .int .i64 k) rfl (by kernel_rfl) (by kernel_rfl) (by kernel_rfl) (fun _ _ _ h => h) (Or.inl ⟨by kernel_rfl, ?_⟩) hS65 ?_
  · intro W hW
    obtain ⟨yn0, yn1, yn2, yn3, yn4, yn5, yn6, yn7, yn8, ym0, ym1, ym2, ym3, ym4, ym5, ym6, ym7, ym8, yo0, yo1, yo2, yo3, yo4, yo5, yo6, yo7, yo8, yp0, yp1, yp2, yp3, yp4, yp5, yp6, yp7, yp8, yq0, yq1, yq2, yq3, yq4, yq5, yq6, yq7, yq8, yr0, yr1, yr2, yr3, yr4, yr5, yr6, yr7, yr8⟩ := hcells.out W hW
    clear hW
    go_simp
  try simp only [Act.put, List.setIfInBounds_toArray, List.set_cons_zero, List.set_cons_succ]
  refine wpAnyH_take (i := 27) (oi := { dst := some 79, op := Op.binOp BinOp.eql 3 (Operand.tmp 78) (Operand.const (Value.int IntKind.i64 11)) 3, type := 4, pos := "law.go:178", after := #[{ on := 26, ground := Ground.data }, { on := 20, ground := Ground.guard }], guard := some (20, true) }) (v := .bool false) rfl (by kernel_rfl) (by kernel_rfl) (by kernel_rfl) (fun _ _ _ h => h) (Or.inl ⟨by kernel_rfl, ?_⟩) hS65 ?_
  · intro W hW
    clear hW
    go_simp
  try simp only [Act.put, List.setIfInBounds_toArray, List.set_cons_zero, List.set_cons_succ]
  refine wpAnyH_ready (rs := [22]) (by kernel_rfl) (by simp) ?_
  refine AllReadyH.cons (o := { dst := some 74, op := Op.buildSlice 22 1 #[(0, Operand.tmp 73)], type := 22, pos := "law.go:178", after := #[{ on := 21, ground := Ground.data }, { on := 20, ground := Ground.guard }], guard := some (20, true) }) rfl (fun K hK => ?_) AllReadyH.nil
  go_simp
  have bk74 := Blk.new x65 [.int .i64 k, .bool b, .string n, .bool true, .slice AS mS cS, .slice AW mW cW, .slice AR mR cR, .slice AL mL cL, .slice AC mC cC] 43
  have hb74 := alloc_below x65 (.cells #[.int .i64 k, .bool b, .string n, .bool true, .slice AS mS cS, .slice AW mW cW, .slice AR mR cR, .slice AL mL cL, .slice AC mC cC] 43)
  generalize x65.alloc (.cells #[.int .i64 k, .bool b, .string n, .bool true, .slice AS mS cS, .slice AW mW cW, .slice AR mR cR, .slice AL mL cL, .slice AC mC cC] 43) = x74 at bk74 hb74 ⊢
  have hS74 := hS65.trans (hb74.mono hS65.size)
  generalize hz74 : x65.heap.size = n74 at bk74 ⊢
  replace hz74 := Lib.hid hz74
  replace bk74 := Lib.hid bk74
  clear hb74
  refine hK.out _ _ hS74 (fun _ => ?_)
  clear hK K
  try simp only [Act.put, List.setIfInBounds_toArray, List.set_cons_zero, List.set_cons_succ]
  refine wpAnyH_ready (rs := [23]) (by kernel_rfl) (by simp) ?_
  refine AllReadyH.cons (o := { dst := some 75, op := Op.call { callee := Callee.value (Operand.func 9), args := #[Operand.tmp 74], argTypes := #[22] }, type := 25, pos := "law.go:178", after := #[{ on := 22, ground := Ground.data }, { on := 20, ground := Ground.chain }, { on := 20, ground := Ground.guard }], guard := some (20, true) }) rfl (fun K hK => ?_) AllReadyH.nil
  go_simp
  (go_at_call 9; refine (kQ.out _ _ (hv9.out.trans (hS74.mono hv9.out.size)) bk74.out).mono ?_; rintro e x75 ⟨rfl, hc75⟩; have hS75 := hS74.trans (hc75.mono hS74.size))
  go_wp2_with fail
  refine hK.out _ _ hS75 (fun _ => ?_)
  clear hK K
  try simp only [Act.put, List.setIfInBounds_toArray, List.set_cons_zero, List.set_cons_succ]
  refine wpAnyH_take (i := 24) (oi := { dst := some 76, op := Op.binOp BinOp.eql 25 (Operand.tmp 75) (Operand.const (Value.int IntKind.i64 0)) 25, type := 4, pos := "law.go:178", after := #[{ on := 23, ground := Ground.data }, { on := 20, ground := Ground.guard }], guard := some (20, true) }) (v := .bool false) rfl (by kernel_rfl) (by kernel_rfl) (by kernel_rfl) (fun _ _ _ h => h) (Or.inl ⟨by kernel_rfl, ?_⟩) hS75 ?_
  · intro W hW
    clear hW
    go_simp
  try simp only [Act.put, List.setIfInBounds_toArray, List.set_cons_zero, List.set_cons_succ]
  refine wpAnyH_take (i := 28) (oi := { dst := some 80, op := Op.binOp BinOp.eql 4 (Operand.tmp 76) (Operand.tmp 79) 4, type := 4, pos := "law.go:178", after := #[{ on := 24, ground := Ground.data }, { on := 27, ground := Ground.data }, { on := 20, ground := Ground.guard }], guard := some (20, true) }) (v := .bool true) rfl (by kernel_rfl) (by kernel_rfl) (by kernel_rfl) (fun _ _ _ h => h) (Or.inl ⟨by kernel_rfl, ?_⟩) hS75 ?_
  · intro W hW
    clear hW
    go_simp
  try simp only [Act.put, List.setIfInBounds_toArray, List.set_cons_zero, List.set_cons_succ]
  refine wpAnyH_take (i := 29) (oi := { dst := some 81, op := Op.pick (Operand.tmp 72) (Operand.tmp 80) (Operand.const (Value.bool false)), type := 4, pos := "law.go:178", after := #[{ on := 20, ground := Ground.data }, { on := 28, ground := Ground.data }], guard := none }) (v := .bool true) rfl (by kernel_rfl) (by kernel_rfl) (by kernel_rfl) (fun _ _ _ h => h) (Or.inl ⟨by kernel_rfl, ?_⟩) hS75 ?_
  · intro W hW
    clear hW
    go_simp
  try simp only [Act.put, List.setIfInBounds_toArray, List.set_cons_zero, List.set_cons_succ]
  refine wpAnyH_take (i := 30) (oi := { dst := some 82, op := Op.move (Operand.tmp 81), type := 4, pos := "law.go:178", after := #[{ on := 29, ground := Ground.data }, { on := 23, ground := Ground.chain }], guard := none }) (v := .bool true) rfl (by kernel_rfl) (by kernel_rfl) (by kernel_rfl) (fun _ _ _ h => h) (Or.inl ⟨by kernel_rfl, ?_⟩) hS75 ?_
  · intro W hW
    clear hW
    go_simp
  try simp only [Act.put, List.setIfInBounds_toArray, List.set_cons_zero, List.set_cons_succ]
  refine wpAnyH_take (i := 31) (oi := { dst := some 83, op := Op.fieldAddr 43 (Operand.tmp 5) 0, type := 0, pos := "law.go:178", after := #[{ on := 30, ground := Ground.guard }], guard := some (30, true) }) (v := .pointer (some ⟨zn, 0, none⟩)) rfl (by kernel_rfl) (by kernel_rfl) (by kernel_rfl) (fun _ _ _ h => h) (Or.inl ⟨by kernel_rfl, ?_⟩) hS75 ?_
  · intro W hW
    clear hW
    go_simp
  try simp only [Act.put, List.setIfInBounds_toArray, List.set_cons_zero, List.set_cons_succ]
  refine wpAnyH_take (i := 32) (oi := { dst := some 84, op := Op.load 3 (Operand.tmp 83), type := 3, pos := "law.go:178", after := #[{ on := 31, ground := Ground.data }, { on := 30, ground := Ground.guard }], guard := some (30, true) }) (v := .int .i64 k) rfl (by kernel_rfl) (by kernel_rfl) (by kernel_rfl) (fun _ _ _ h => h) (Or.inl ⟨by kernel_rfl, ?_⟩) hS75 ?_
  · intro W hW
    obtain ⟨yn0, yn1, yn2, yn3, yn4, yn5, yn6, yn7, yn8, ym0, ym1, ym2, ym3, ym4, ym5, ym6, ym7, ym8, yo0, yo1, yo2, yo3, yo4, yo5, yo6, yo7, yo8, yp0, yp1, yp2, yp3, yp4, yp5, yp6, yp7, yp8, yq0, yq1, yq2, yq3, yq4, yq5, yq6, yq7, yq8, yr0, yr1, yr2, yr3, yr4, yr5, yr6, yr7, yr8⟩ := hcells.out W hW
    clear hW
    go_simp
  try simp only [Act.put, List.setIfInBounds_toArray, List.set_cons_zero, List.set_cons_succ]
  refine wpAnyH_take (i := 33) (oi := { dst := some 85, op := Op.binOp BinOp.eql 3 (Operand.tmp 84) (Operand.const (Value.int IntKind.i64 12)) 3, type := 4, pos := "law.go:178", after := #[{ on := 32, ground := Ground.data }, { on := 30, ground := Ground.guard }], guard := some (30, true) }) (v := .bool false) rfl (by kernel_rfl) (by kernel_rfl) (by kernel_rfl) (fun _ _ _ h => h) (Or.inl ⟨by kernel_rfl, ?_⟩) hS75 ?_
  · intro W hW
    clear hW
    go_simp
  try simp only [Act.put, List.setIfInBounds_toArray, List.set_cons_zero, List.set_cons_succ]
  refine wpAnyH_take (i := 34) (oi := { dst := some 86, op := Op.move (Operand.tmp 85), type := 4, pos := "law.go:178", after := #[{ on := 33, ground := Ground.data }, { on := 30, ground := Ground.chain }, { on := 30, ground := Ground.guard }], guard := some (30, true) }) (v := .bool false) rfl (by kernel_rfl) (by kernel_rfl) (by kernel_rfl) (fun _ _ _ h => h) (Or.inl ⟨by kernel_rfl, ?_⟩) hS75 ?_
  · intro W hW
    clear hW
    go_simp
  try simp only [Act.put, List.setIfInBounds_toArray, List.set_cons_zero, List.set_cons_succ]
  refine wpAnyH_take (i := 35) (oi := { dst := some 87, op := Op.load 43 (Operand.tmp 10), type := 43, pos := "law.go:178", after := #[{ on := 34, ground := Ground.guard }], guard := some (34, false) }) (v := .agg #[.int .i64 k, .bool b, .string n, .bool g, .slice AS mS cS, .slice AW mW cW, .slice AR mR cR, .slice AL mL cL, .slice (some ⟨cb, 0, none⟩) 1 1]) rfl (by kernel_rfl) (by kernel_rfl) (by kernel_rfl) (fun _ _ _ h => h) (Or.inl ⟨by kernel_rfl, ?_⟩) hS75 ?_
  · intro W hW
    obtain ⟨yn0, yn1, yn2, yn3, yn4, yn5, yn6, yn7, yn8, ym0, ym1, ym2, ym3, ym4, ym5, ym6, ym7, ym8, yo0, yo1, yo2, yo3, yo4, yo5, yo6, yo7, yo8, yp0, yp1, yp2, yp3, yp4, yp5, yp6, yp7, yp8, yq0, yq1, yq2, yq3, yq4, yq5, yq6, yq7, yq8, yr0, yr1, yr2, yr3, yr4, yr5, yr6, yr7, yr8⟩ := hcells.out W hW
    clear hW
    go_simp
  try simp only [Act.put, List.setIfInBounds_toArray, List.set_cons_zero, List.set_cons_succ]
  refine wpAnyH_ready (rs := [36]) (by kernel_rfl) (by simp) ?_
  refine AllReadyH.cons (o := { dst := some 88, op := Op.buildSlice 22 1 #[(0, Operand.tmp 87)], type := 22, pos := "law.go:178", after := #[{ on := 35, ground := Ground.data }, { on := 34, ground := Ground.guard }], guard := some (34, false) }) rfl (fun K hK => ?_) AllReadyH.nil
  go_simp
  have bk88 := Blk.new x75 [.int .i64 k, .bool b, .string n, .bool g, .slice AS mS cS, .slice AW mW cW, .slice AR mR cR, .slice AL mL cL, .slice (some ⟨cb, 0, none⟩) 1 1] 43
  have hb88 := alloc_below x75 (.cells #[.int .i64 k, .bool b, .string n, .bool g, .slice AS mS cS, .slice AW mW cW, .slice AR mR cR, .slice AL mL cL, .slice (some ⟨cb, 0, none⟩) 1 1] 43)
  generalize x75.alloc (.cells #[.int .i64 k, .bool b, .string n, .bool g, .slice AS mS cS, .slice AW mW cW, .slice AR mR cR, .slice AL mL cL, .slice (some ⟨cb, 0, none⟩) 1 1] 43) = x88 at bk88 hb88 ⊢
  have hS88 := hS75.trans (hb88.mono hS75.size)
  generalize hz88 : x75.heap.size = n88 at bk88 ⊢
  replace hz88 := Lib.hid hz88
  replace bk88 := Lib.hid bk88
  clear hb88
  refine hK.out _ _ hS88 (fun _ => ?_)
  clear hK K
  try simp only [Act.put, List.setIfInBounds_toArray, List.set_cons_zero, List.set_cons_succ]
  refine wpAnyH_ready (rs := [37]) (by kernel_rfl) (by simp) ?_
  refine AllReadyH.cons (o := { dst := some 89, op := Op.call { callee := Callee.value (Operand.func 9), args := #[Operand.tmp 88], argTypes := #[22] }, type := 25, pos := "law.go:178", after := #[{ on := 36, ground := Ground.data }, { on := 34, ground := Ground.chain }, { on := 34, ground := Ground.guard }], guard := some (34, false) }) rfl (fun K hK => ?_) AllReadyH.nil
  go_simp
  (go_at_call 9; refine ((kR.out h12.out _ _ _ (hv9.out.trans (hS88.mono hv9.out.size)) (hcs.out.below hS88) bk88.out)).mono ?_; rintro e x89 ⟨zz, hzz, rfl, hc89⟩; have g9 : (zz != 0) = true := (by simp [hzz]); have hS89 := hS88.trans (hc89.mono hS88.size))
  go_wp2_with fail
  refine hK.out _ _ hS89 (fun _ => ?_)
  clear hK K
  try simp only [Act.put, List.setIfInBounds_toArray, List.set_cons_zero, List.set_cons_succ]
  refine wpAnyH_take (i := 38) (oi := { dst := some 90, op := Op.binOp BinOp.neq 25 (Operand.tmp 89) (Operand.const (Value.int IntKind.i64 0)) 25, type := 4, pos := "law.go:178", after := #[{ on := 37, ground := Ground.data }, { on := 34, ground := Ground.guard }], guard := some (34, false) }) (v := .bool true) rfl (by kernel_rfl) (by kernel_rfl) (by kernel_rfl) (fun _ _ _ h => h) (Or.inl ⟨by kernel_rfl, ?_⟩) hS89 ?_
  · intro W hW
    clear hW
    go_simp
  try simp only [Act.put, List.setIfInBounds_toArray, List.set_cons_zero, List.set_cons_succ]
  refine wpAnyH_take (i := 39) (oi := { dst := some 91, op := Op.pick (Operand.tmp 86) (Operand.const (Value.bool true)) (Operand.tmp 90), type := 4, pos := "law.go:178", after := #[{ on := 34, ground := Ground.data }, { on := 38, ground := Ground.data }, { on := 30, ground := Ground.guard }], guard := some (30, true) }) (v := .bool true) rfl (by kernel_rfl) (by kernel_rfl) (by kernel_rfl) (fun _ _ _ h => h) (Or.inl ⟨by kernel_rfl, ?_⟩) hS89 ?_
  · intro W hW
    clear hW
    go_simp
  try simp only [Act.put, List.setIfInBounds_toArray, List.set_cons_zero, List.set_cons_succ]
  refine wpAnyH_take (i := 40) (oi := { dst := some 92, op := Op.pick (Operand.tmp 82) (Operand.tmp 91) (Operand.const (Value.bool false)), type := 4, pos := "law.go:178", after := #[{ on := 30, ground := Ground.data }, { on := 39, ground := Ground.data }], guard := none }) (v := .bool true) rfl (by kernel_rfl) (by kernel_rfl) (by kernel_rfl) (fun _ _ _ h => h) (Or.inl ⟨by kernel_rfl, ?_⟩) hS89 ?_
  · intro W hW
    clear hW
    go_simp
  try simp only [Act.put, List.setIfInBounds_toArray, List.set_cons_zero, List.set_cons_succ]
  refine wpAnyH_take (i := 41) (oi := { dst := some 93, op := Op.move (Operand.tmp 92), type := 4, pos := "law.go:178", after := #[{ on := 40, ground := Ground.data }, { on := 37, ground := Ground.chain }], guard := none }) (v := .bool true) rfl (by kernel_rfl) (by kernel_rfl) (by kernel_rfl) (fun _ _ _ h => h) (Or.inl ⟨by kernel_rfl, ?_⟩) hS89 ?_
  · intro W hW
    clear hW
    go_simp
  try simp only [Act.put, List.setIfInBounds_toArray, List.set_cons_zero, List.set_cons_succ]
  refine wpAnyH_ready (rs := [42]) (by kernel_rfl) (by simp) ?_
  refine AllReadyH.cons (o := { dst := some 94, op := Op.call { callee := Callee.value (Operand.func 8), args := #[], argTypes := #[] }, type := 4, pos := "law.go:178", after := #[{ on := 41, ground := Ground.chain }, { on := 41, ground := Ground.guard }], guard := some (41, true) }) rfl (fun K hK => ?_) AllReadyH.nil
  go_simp
  (go_at_call 8; refine (haw.out _).mono ?_; rintro e x94 ⟨rfl, hc94⟩; have hS94 := hS89.trans (hc94.mono hS89.size))
  go_wp2_with fail
  refine hK.out _ _ hS94 (fun _ => ?_)
  clear hK K
  try simp only [Act.put, List.setIfInBounds_toArray, List.set_cons_zero, List.set_cons_succ]
  refine wpAnyH_take (i := 43) (oi := { dst := some 95, op := Op.pick (Operand.tmp 93) (Operand.tmp 94) (Operand.const (Value.bool false)), type := 4, pos := "law.go:178", after := #[{ on := 41, ground := Ground.data }, { on := 42, ground := Ground.data }], guard := none }) (v := .bool true) rfl (by kernel_rfl) (by kernel_rfl) (by kernel_rfl) (fun _ _ _ h => h) (Or.inl ⟨by kernel_rfl, ?_⟩) hS94 ?_
  · intro W hW
    clear hW
    go_simp
  try simp only [Act.put, List.setIfInBounds_toArray, List.set_cons_zero, List.set_cons_succ]
  refine wpAnyH_take (i := 44) (oi := { dst := some 4, op := Op.assign (Operand.tmp 95), type := 4, pos := "law.go:178", after := #[{ on := 43, ground := Ground.data }, { on := 42, ground := Ground.chain }, { on := 0, ground := Ground.phase }, { on := 1, ground := Ground.phase }, { on := 2, ground := Ground.phase }, { on := 3, ground := Ground.phase }, { on := 4, ground := Ground.phase }, { on := 5, ground := Ground.phase }, { on := 6, ground := Ground.phase }, { on := 7, ground := Ground.phase }, { on := 8, ground := Ground.phase }, { on := 9, ground := Ground.phase }, { on := 10, ground := Ground.phase }, { on := 11, ground := Ground.phase }, { on := 12, ground := Ground.phase }, { on := 13, ground := Ground.phase }, { on := 14, ground := Ground.phase }, { on := 15, ground := Ground.phase }, { on := 16, ground := Ground.phase }, { on := 17, ground := Ground.phase }, { on := 18, ground := Ground.phase }, { on := 19, ground := Ground.phase }, { on := 20, ground := Ground.phase }, { on := 21, ground := Ground.phase }, { on := 22, ground := Ground.phase }, { on := 23, ground := Ground.phase }, { on := 24, ground := Ground.phase }, { on := 25, ground := Ground.phase }, { on := 26, ground := Ground.phase }, { on := 27, ground := Ground.phase }, { on := 28, ground := Ground.phase }, { on := 29, ground := Ground.phase }, { on := 30, ground := Ground.phase }, { on := 31, ground := Ground.phase }, { on := 32, ground := Ground.phase }, { on := 33, ground := Ground.phase }, { on := 34, ground := Ground.phase }, { on := 35, ground := Ground.phase }, { on := 36, ground := Ground.phase }, { on := 37, ground := Ground.phase }, { on := 38, ground := Ground.phase }, { on := 39, ground := Ground.phase }, { on := 40, ground := Ground.phase }, { on := 41, ground := Ground.phase }, { on := 42, ground := Ground.phase }, { on := 43, ground := Ground.phase }], guard := none }) (v := .bool true) rfl (by kernel_rfl) (by kernel_rfl) (by kernel_rfl) (fun _ _ _ h => h) (Or.inl ⟨by kernel_rfl, ?_⟩) hS94 ?_
  · intro W hW
    clear hW
    go_simp
  try simp only [Act.put, List.setIfInBounds_toArray, List.set_cons_zero, List.set_cons_succ]
  refine wpAnyH_done (by kernel_rfl) ?_ _
  have hE := Lib.hid (hv9.out.trans (hS94.mono hv9.out.size))
  go_wp2
  go_ret
  exact ⟨rfl, hE.out⟩
end
end Go.Proofs.YtmchfoedjajbdaaGreat
