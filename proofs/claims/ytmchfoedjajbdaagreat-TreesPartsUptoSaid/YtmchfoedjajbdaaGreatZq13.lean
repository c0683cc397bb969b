/-
  TreesParts: whatever comes in, the law answers true and leaves it as it was. Conditions: what comes in is of bulk at most 1048576.
-/
import Derived.Test.YtmchfoedjajbdaaGreatZq0
import Derived.Test.YtmchfoedjajbdaaGreatZq12
set_option linter.unusedSimpArgs false
set_option linter.unusedVariables false
namespace Go.Proofs.YtmchfoedjajbdaaGreat
open Go Go.RowKit Go.ChangeMaps

theorem drop_drop : ∀ (i j : Nat) (f : F), (f.drop i).drop j = f.drop (i + j)
  | 0, j, f => by rw [Nat.zero_add]; rfl
  | i + 1, j, f => by rw [show i + 1 + j = i + j + 1 by omega]; exact drop_drop i j f.tl
theorem take_all : ∀ (n : Nat) (f : F), f.len = n → f.take n = f
  | 0, f, h => by rw [len0 h]; rfl
  | n + 1, f, h => by
    cases f with
    | nil => rfl
    | _ => simp only [F.len, Nat.add_right_cancel_iff] at h; simp only [F.take]; rw [take_all n _ h]
/-- A slice of a row. -/
theorem slc_cut {w : World} {A : Option Addr} {c a b : Nat} {f : F} (ht : Ty f 0) (ha : a ≤ b) (hb : b ≤ f.len) (h : Slc w A c f) : Slc w (if c = a then A else A.map (·.add (a * 9))) (c - a) ((f.drop a).take (b - a)) := by
  have h1 := h.1
  have h2 := h.2.1
  have hl : ((f.drop a).take (b - a)).len = b - a := len_take _ _ (by rw [drop_len]; omega)
  refine ⟨by rw [hl]; omega, by omega, fun hn => ?_⟩
  rw [hl] at hn
  obtain ⟨B, o, rfl, hB, hr⟩ := h.2.2 (by omega)
  rw [if_neg (by omega)]
  exact ⟨B, o + a * 9, by simp [Addr.add], hB, rw_take _ _ _ _ (rw_drop a ht (by omega) hr)⟩
theorem cut_sz {a b : Nat} {f : F} (ha : a ≤ b) : szF ((f.drop a).take (b - a)) + szF (f.take a) + szF (f.drop b) = szF f := by
  have h1 := sz_take a f
  have h2 := sz_take (b - a) (f.drop a)
  rw [drop_drop, show a + (b - a) = b by omega] at h2
  omega
section
variable {W0 : World}
theorem parts_row {f : F} {A : Option Addr} {c0 B oo : Nat} (ht : Ty f 0) (hs : Slc W0 A c0 f) (hw : wt f ≤ 1048576) (hy : byF f ≤ 1000000) (hd : dpF f ≤ 20) (ho : okF f 0 false = true) (hBl : B < W0.heap.size) (hrw : Rw W0 f B oo) (j : Nat) (hj : j < f.len) :
    ∃ AL mL cL AC mC cC, mL ≤ 1048576 ∧ mC ≤ 1048576 ∧ (∀ w, Below W0.heap.size W0 w → w.cell? ⟨B, oo + j * 9 + 7, none⟩ = some (.slice AL mL cL) ∧ w.cell? ⟨B, oo + j * 9 + 8, none⟩ = some (.slice AC mC cC) ∧ B < w.heap.size) ∧
    (∀ q, q < mL → ∃ B2 o2 A1 m1 c1, AL = some ⟨B2, o2, none⟩ ∧ ∀ w, Below W0.heap.size W0 w → w.cell? ⟨B2, o2 + q, none⟩ = some (.slice A1 m1 c1) ∧ B2 < w.heap.size ∧ Calls Tryz.prog 20 #[.slice A1 m1 c1, .slice A f.len c0] w fun e w' => e = .returned (.bool true) ∧ Below w.heap.size w w') ∧
    (∀ q, q < mC → ∃ B2 o2 A1 m1 c1, AC = some ⟨B2, o2, none⟩ ∧ ∀ w, Below W0.heap.size W0 w → w.cell? ⟨B2, o2 + q * 2 + 1, none⟩ = some (.slice A1 m1 c1) ∧ B2 < w.heap.size ∧ Calls Tryz.prog 20 #[.slice A1 m1 c1, .slice A f.len c0] w fun e w' => e = .returned (.bool true) ∧ Below w.heap.size w w') := by
  have htd := ty_drop j ht
  obtain ⟨k, b, n, g, S, W, R, L, C, r, hfd, hk64, htS, htW, htR, htL, htC, _⟩ := at_node htd (by rw [drop_len]; omega)
  have hrd := rw_drop j ht (by omega) hrw
  have hwd := wt_drop j f
  rw [hfd] at hrd hwd
  rw [show szT 0 = 9 from rfl] at hrd
  simp only [wt] at hwd
  have hlL := len_wt L
  have hlC := len_wt C
  obtain ⟨e0, e1, e2, e3, _, _, _, ⟨AL, cL, e7, hsL⟩, ⟨AC, cC, e8, hsC⟩, _⟩ := rw_node.1 hrd
  refine ⟨AL, L.len, cL, AC, C.len, cC, by omega, by omega, fun w h => ⟨cell_below h hBl e7, cell_below h hBl e8, Nat.lt_of_lt_of_le hBl h.size⟩, fun q hq => ?_, fun q hq => ?_⟩
  · obtain ⟨B2, o2, rfl, hl2, hr2⟩ := hsL.2.2 (by omega)
    obtain ⟨x, r1, hld, htx, _⟩ := at_list (ty_drop q htL) (by rw [drop_len]; omega)
    have hrd2 := rw_drop q htL (by omega) hr2
    rw [hld, show szT 6 = 1 from rfl, Nat.mul_one] at hrd2
    obtain ⟨⟨A1, c1, e, hs1⟩, _⟩ := rw_row.1 hrd2
    have hp := part_list ht ho hj hfd hq hld
    exact ⟨B2, o2, A1, x.len, c1, rfl, fun w h => ⟨cell_below h hl2 e, Nat.lt_of_lt_of_le hl2 h.size, part_any hp ht (Slc.below hs1 h) (hs.below h) hw hy hd⟩⟩
  · obtain ⟨B2, o2, rfl, hl2, hr2⟩ := hsC.2.2 (by omega)
    obtain ⟨y, x, r1, hld, hty, htx, _⟩ := at_case (ty_drop q htC) (by rw [drop_len]; omega)
    have hrd2 := rw_drop q htC (by omega) hr2
    rw [hld, show szT 4 = 2 from rfl] at hrd2
    obtain ⟨_, ⟨A1, c1, e, hs1⟩, _⟩ := rw_case.1 hrd2
    have hp := part_case ht ho hj hfd hq hld
    exact ⟨B2, o2, A1, x.len, c1, rfl, fun w h => ⟨cell_below h hl2 e, Nat.lt_of_lt_of_le hl2 h.size, part_any hp ht (Slc.below hs1 h) (hs.below h) hw hy hd⟩⟩
set_option maxRecDepth 100000 in
set_option maxHeartbeats 16000000 in
theorem lawParts_any {f : F} {A : Option Addr} {c0 : Nat} {p q : Int} (ht : Ty f 0) (hs0 : Slc W0 A c0 f) (hw : wt f ≤ 1048576) (hp : I64 p) (hq : I64 q) :
    Calls Tryz.prog 5 #[.slice A f.len c0, .agg #[.int .i64 p, .int .i64 q]] W0 fun e w' => e = .returned (.bool true) ∧ Below W0.heap.size W0 w' := by
  have hlw := len_wt f
  have hb0 := alloc_below W0 (.cells #[.int .i64 p, .int .i64 q] 36)
  have hk := Blk.new W0 [.int .i64 p, .int .i64 q] 36
  have hs := hs0.below hb0
  go_enter Tryz.func5, Tryz.ntmps5
  replace hs0 := Lib.hid hs0
  replace hs := Lib.hid hs
  replace hb0 := Lib.hid hb0
  go_upto_region 1 with fail
  generalize W0.alloc (.cells #[.int .i64 p, .int .i64 q] 36) = w1 at hk hb0 hs ⊢
  generalize hzz : W0.heap.size = z at hk ⊢
  replace hzz := Lib.hid hzz
  have hfew := Lib.hid (fun w (h : Below w1.heap.size w1 w) => Few_any ht hw (hs.out.below h))
  have haw := Lib.hid (fun w => awake_any (w := w))
  obtain ⟨qf, hqf⟩ : ∃ q, fewB f = q := ⟨_, rfl⟩
  rw [hqf] at hfew
  obtain ⟨N, hN⟩ : ∃ N, f.len = N := ⟨_, rfl⟩
  rw [hN] at hfew hlw ⊢
  have hcl : Hid (∀ w, Below w1.heap.size w1 w → w.cell? ⟨z, 0, none⟩ = some (.int .i64 p) ∧ w.cell? ⟨z, 1, none⟩ = some (.int .i64 q) ∧ z < w.heap.size) := Lib.hid (fun w h => by
    have h1 : Blk w z _ _ := (h.block z hk.lt).trans hk
    exact ⟨h1.cell (i := 0) rfl, h1.cell (i := 1) rfl, h1.lt⟩)
  have h0 := Below.refl w1.heap.size w1
  have hN9 : (N : Int) ≤ 1048576 := by omega
  have hNc : N ≤ c0 := by have := hs.out.1; omega
  clear hk
  cases qf
  · clear hs hs0 ht hw hN hqf hcl
    go_wp2_with fail
    refine (hfew.out _ h0).mono ?_
    rintro e w2 ⟨rfl, hb1⟩
    clear hfew h0
    go_wp2_with fail
    refine (haw.out _).mono ?_
    rintro e w9 ⟨rfl, h9⟩
    have hE := Lib.hid (hb0.out.trans ((hb1.trans (h9.mono hb1.size)).mono hb0.out.size))
    clear h9 hb1 haw hb0
    go_wp2
    go_ret
    exact ⟨rfl, hE.out⟩
  have hfb : szF f ≤ 300 ∧ dpF f ≤ 40 ∧ byF f ≤ 2000 := by
    unfold fewB at hqf
    simp only [Bool.and_eq_true, decide_eq_true_eq] at hqf
    exact ⟨hqf.1.1, hqf.1.2, hqf.2⟩
  have hck := Lib.hid (fun w (h : Below w1.heap.size w1 w) => Check_any ht (hs.out.below h) (by omega) (by omega))
  rw [hN] at hck
  obtain ⟨x, hx⟩ : ∃ x, checkP f = x := ⟨_, rfl⟩
  rw [hx] at hck
  by_cases hx0 : x = 0
  case neg =>
    have g1 : (x != 0) = true := by simp [hx0]
    clear hs hs0 ht hw hN hqf hfb hx hcl
    go_wp2_with fail
    refine (hfew.out _ h0).mono ?_
    rintro e w2 ⟨rfl, hb1⟩
    have hck1 := hck.out w2 hb1
    clear hfew h0 hck
    go_wp2_with fail
    refine hck1.mono ?_
    rintro e w3 ⟨rfl, hb2⟩
    have h2 := hb1.trans (hb2.mono hb1.size)
    clear hck1 hb1 hb2
    go_wp2_with fail
    refine (haw.out _).mono ?_
    rintro e w9 ⟨rfl, h9⟩
    have hE := Lib.hid (hb0.out.trans ((h2.trans (h9.mono h2.size)).mono hb0.out.size))
    clear h9 h2 haw hb0
    go_wp2
    go_ret
    exact ⟨rfl, hE.out⟩
  subst hx0
  have hdp : dpF f ≤ 20 ∧ okF f 0 false = true := by
    unfold checkP at hx
    by_cases h1 : 20 < dpF f
    · rw [if_pos h1] at hx; exact absurd hx (by decide)
    · rw [if_neg h1] at hx
      cases ho : okF f 0 false with
      | true => exact ⟨by omega, rfl⟩
      | false => rw [ho] at hx; exact absurd hx (by decide)
  have hrow := Lib.hid (fun B oo (hBl : B < w1.heap.size) (hrw : Rw w1 f B oo) j hj => parts_row ht hs.out hw (by omega) hdp.1 hdp.2 hBl hrw j hj)
  rw [hN] at hrow
  have hsA := Lib.hid hs.out.2.2
  rw [hN] at hsA
  have hend : Hid (∀ a b : Nat, a ≤ b → b ≤ N → ∃ s1 s2 s3 s d1 d : Nat, s1 + s2 + s3 = s ∧ s ≤ 300 ∧ d1 ≤ d ∧ Hid (∀ w, Below w1.heap.size w1 w → Calls Tryz.prog 9 #[.slice (if c0 = a then A else Option.map (fun x => x.add (a * 9)) A) (b - a) (c0 - a)] w fun e w' => e = .returned (.int .i64 (0)) ∧ Below w.heap.size w w') ∧ Hid (∀ w, Below w1.heap.size w1 w → Calls Tryz.prog 11 #[.slice (if c0 = a then A else Option.map (fun x => x.add (a * 9)) A) (b - a) (c0 - a)] w fun e w' => e = .returned (.int .i64 ((s1 : Int))) ∧ Below w.heap.size w w') ∧ Hid (∀ w, Below w1.heap.size w1 w → Calls Tryz.prog 11 #[.slice (if c0 = 0 then A else Option.map (fun x => x.add 0) A) a c0] w fun e w' => e = .returned (.int .i64 ((s2 : Int))) ∧ Below w.heap.size w w') ∧ Hid (∀ w, Below w1.heap.size w1 w → Calls Tryz.prog 11 #[.slice (if c0 = b then A else Option.map (fun x => x.add (b * 9)) A) (N - b) (c0 - b)] w fun e w' => e = .returned (.int .i64 ((s3 : Int))) ∧ Below w.heap.size w w') ∧ Hid (∀ w, Below w1.heap.size w1 w → Calls Tryz.prog 11 #[.slice A N c0] w fun e w' => e = .returned (.int .i64 ((s : Int))) ∧ Below w.heap.size w w') ∧ Hid (∀ w, Below w1.heap.size w1 w → Calls Tryz.prog 13 #[.slice (if c0 = a then A else Option.map (fun x => x.add (a * 9)) A) (b - a) (c0 - a)] w fun e w' => e = .returned (.int .i64 ((d1 : Int))) ∧ Below w.heap.size w w') ∧ Hid (∀ w, Below w1.heap.size w1 w → Calls Tryz.prog 13 #[.slice A N c0] w fun e w' => e = .returned (.int .i64 ((d : Int))) ∧ Below w.heap.size w w')) := Lib.hid (fun a b hab hbN => by
    have hw4 : wt f ≤ 4194304 := by omega
    have hbf : b ≤ f.len := by omega
    have l1 : ((f.drop a).take (b - a)).len = b - a := len_take _ _ (by rw [drop_len]; omega)
    have l2 : (f.take a).len = a := len_take _ _ (by omega)
    have l3 : (f.drop b).len = N - b := by rw [drop_len]; omega
    have y1 := wt_take (b - a) (f.drop a)
    have y2 := wt_drop a f
    have y3 := wt_take a f
    have y4 := wt_drop b f
    have z1 := by_take (b - a) (f.drop a)
    have z2 := by_drop a f
    have x1 := dp_take (b - a) (f.drop a)
    have x2 := dpF_drop a f
    have t1 : Ty ((f.drop a).take (b - a)) 0 := ty_take _ _ (ty_drop a ht)
    have t2 : Ty (f.take a) 0 := ty_take _ _ ht
    have t3 : Ty (f.drop b) 0 := ty_drop b ht
    have m1 := slc_cut ht hab hbf hs.out
    have m2 : Slc w1 (if c0 = 0 then A else Option.map (fun x => x.add 0) A) c0 (f.take a) := by
      have h := slc_take (j := a) (by omega) hs.out
      rw [show (if c0 = 0 then A else Option.map (fun x => x.add 0) A) = A by
        split
        · rfl
        · cases A <;> rfl]
      exact h
    have m3 : Slc w1 (if c0 = b then A else Option.map (fun x => x.add (b * 9)) A) (c0 - b) (f.drop b) := by
      have h := slc_cut (a := b) (b := f.len) ht hbf (Nat.le_refl _) hs.out
      rw [take_all] at h
      · exact h
      · rw [drop_len]
    have hc1 : checkP ((f.drop a).take (b - a)) = 0 := by
      unfold checkP
      rw [if_neg (by have := hdp.1; omega), ok_take _ _ (ty_drop a ht) (ok_at ht (by decide) hdp.2 a (by omega))]
      rfl
    have k1 := fun w (h : Below w1.heap.size w1 w) => Check_any t1 (m1.below h) (by omega) (by omega)
    have k2 := fun w (h : Below w1.heap.size w1 w) => size_any t1 (m1.below h) (by omega)
    have k3 := fun w (h : Below w1.heap.size w1 w) => size_any t2 (m2.below h) (by omega)
    have k4 := fun w (h : Below w1.heap.size w1 w) => size_any t3 (m3.below h) (by omega)
    have k5 := fun w (h : Below w1.heap.size w1 w) => size_any ht (hs.out.below h) hw4
    have k6 := fun w (h : Below w1.heap.size w1 w) => deep_any t1 (m1.below h) (by omega)
    have k7 := fun w (h : Below w1.heap.size w1 w) => deep_any ht (hs.out.below h) hw4
    rw [hc1, l1] at k1
    rw [l1] at k2 k6
    rw [l2] at k3
    rw [l3] at k4
    rw [hN] at k5 k7
    exact ⟨_, _, _, _, _, _, cut_sz hab, hfb.1, by omega, Lib.hid k1, Lib.hid k2, Lib.hid k3, Lib.hid k4, Lib.hid k5, Lib.hid k6, Lib.hid k7⟩)
  clear hs hs0 ht hw hqf hfb hx hdp hN
  go_wp2_with fail
  refine (hfew.out _ h0).mono ?_
  rintro e w2 ⟨rfl, hb1⟩
  have hck1 := hck.out w2 hb1
  clear hfew h0 hck
  go_wp2_with fail
  refine hck1.mono ?_
  rintro e w3 ⟨rfl, hb2⟩
  have hB0 : Hid (Below w1.heap.size w1 w3) := Lib.hid (hb1.trans (hb2.mono hb1.size))
  clear hck1 hb1 hb2
  go_wp2
  go_loopw [5] (fun iv wr => ∃ j : Nat, j ≤ N ∧ iv = .int .i64 (j : Int) ∧ Hid (Below w1.heap.size w1 wr)) (fun iv _ => N - (intOf iv).toNat)
  case atStart => exact ⟨0, Nat.zero_le _, rfl, hB0⟩
  case round =>
    clear hB0
    obtain ⟨j, hj, rfl, hB⟩ := hrel
    by_cases hlt : j < N
    · have hj1 : (0 : Int) ≤ (j : Int) := by omega
      have hj2 : (j : Int) < (N : Int) := by omega
      obtain ⟨B, oo, rfl, hBl, hrw⟩ := hsA.out (by omega)
      obtain ⟨AL, mL, cL, AC, mC, cC, hmL, hmC, hcells, hL, hC⟩ := hrow.out B oo hBl hrw j hlt
      replace hcells := Lib.hid hcells
      replace hL := Lib.hid hL
      replace hC := Lib.hid hC
      clear hrow hrw hsA hend hcl hBl
      go_wp2
      go_loopw [6] (fun kv wr => ∃ u : Nat, u ≤ mL ∧ kv = .int .i64 (u : Int) ∧ Hid (Below w1.heap.size w1 wr)) (fun kv _ => mL - (intOf kv).toNat)
      case atStart => exact ⟨0, Nat.zero_le _, rfl, hB⟩
      case round =>
        clear hB
        obtain ⟨u, hu, rfl, hB⟩ := hrel
        obtain ⟨e7, e8, el⟩ := hcells.out _ hB.out
        by_cases hul : u < mL
        · have hu1 : (0 : Int) ≤ (u : Int) := by omega
          have hu2 : (u : Int) < (mL : Int) := by omega
          obtain ⟨B2, o2, A1, m1, c1, rfl, hcx⟩ := hL.out u hul
          obtain ⟨x1, x2, x3⟩ := hcx _ hB.out
          clear hcx
          go_wp2_with fail
          refine x3.mono ?_
          rintro e w5 ⟨rfl, hb5⟩
          have hBE := Lib.hid (hB.out.trans (hb5.mono hB.out.size))
          clear x1 x2 x3 e7 e8 el hb5 hB
          go_wp2
          go_roundw
          case rel => exact ⟨u + 1, by omega, by go_num, hBE⟩
          case measure => simp [intOf]; omega
        · obtain rfl : u = mL := by omega
          have hu3 : ¬ (u : Int) < (u : Int) := by omega
          go_wp2
          clear e7 e8 el hu3
          go_loopw [7] (fun kv wr => ∃ u : Nat, u ≤ mC ∧ kv = .int .i64 (u : Int) ∧ Hid (Below w1.heap.size w1 wr)) (fun kv _ => mC - (intOf kv).toNat)
          case atStart => exact ⟨0, Nat.zero_le _, rfl, hB⟩
          case round =>
            clear hB
            obtain ⟨v, hv, rfl, hB⟩ := hrel
            obtain ⟨e7, e8, el⟩ := hcells.out _ hB.out
            by_cases hvl : v < mC
            · have hu1 : (0 : Int) ≤ (v : Int) := by omega
              have hu2 : (v : Int) < (mC : Int) := by omega
              obtain ⟨B2, o2, A1, m1, c1, rfl, hcx⟩ := hC.out v hvl
              obtain ⟨x1, x2, x3⟩ := hcx _ hB.out
              clear hcx
              go_wp2_with fail
              refine x3.mono ?_
              rintro e w5 ⟨rfl, hb5⟩
              have hBE := Lib.hid (hB.out.trans (hb5.mono hB.out.size))
              clear x1 x2 x3 e7 e8 el hb5 hB
              go_wp2
              go_roundw
              case rel => exact ⟨v + 1, by omega, by go_num, hBE⟩
              case measure => simp [intOf]; omega
            · obtain rfl : v = mC := by omega
              have hu3 : ¬ (v : Int) < (v : Int) := by omega
              go_wp2
              clear e7 e8 el hu3
              go_roundw
              case rel => exact ⟨j + 1, by omega, by go_num, hB⟩
              case measure => simp [intOf]; omega
    · obtain rfl : j = N := by omega
      have hj3 : ¬ (j : Int) < (j : Int) := by omega
      clear hrow hsA
      obtain ⟨z0, z1, zl⟩ := hcl.out _ hB.out
      by_cases gp : p < 0
      · clear hend hcl
        go_wp2_with fail
        refine (haw.out _).mono ?_
        rintro e w9 ⟨rfl, h9⟩
        have hE := Lib.hid (hb0.out.trans ((hB.out.trans (h9.mono hB.out.size)).mono hb0.out.size))
        clear h9 haw hb0 hB z0 z1 zl
        go_wp2
        go_ret
        exact ⟨rfl, hE.out⟩
      by_cases gq : (j : Int) < q
      · clear hend hcl
        go_wp2_with fail
        refine (haw.out _).mono ?_
        rintro e w9 ⟨rfl, h9⟩
        have hE := Lib.hid (hb0.out.trans ((hB.out.trans (h9.mono hB.out.size)).mono hb0.out.size))
        clear h9 haw hb0 hB z0 z1 zl
        go_wp2
        go_ret
        exact ⟨rfl, hE.out⟩
      by_cases gr : q < p
      · clear hend hcl
        go_wp2_with fail
        refine (haw.out _).mono ?_
        rintro e w9 ⟨rfl, h9⟩
        have hE := Lib.hid (hb0.out.trans ((hB.out.trans (h9.mono hB.out.size)).mono hb0.out.size))
        clear h9 haw hb0 hB z0 z1 zl
        go_wp2
        go_ret
        exact ⟨rfl, hE.out⟩
      obtain ⟨a, rfl⟩ : ∃ a : Nat, p = a := ⟨p.toNat, by omega⟩
      obtain ⟨b, rfl⟩ : ∃ b : Nat, q = b := ⟨q.toNat, by omega⟩
      have hab : a ≤ b := by omega
      have hbN : b ≤ j := by omega
      have ha0 : (0 : Int) ≤ (a : Int) := by omega
      have hb1 : (0 : Int) ≤ (b : Int) := by omega
      have hab2 : (a : Int) ≤ (b : Int) := by omega
      have hbc : (b : Int) ≤ (c0 : Int) := by omega
      have hbj : (b : Int) ≤ (j : Int) := by omega
      have hac : (a : Int) ≤ (c0 : Int) := by omega
      have haj : (a : Int) ≤ (j : Int) := by omega
      go_upto_region 19 with fail
      clear z0 z1 zl
      obtain ⟨s1, s2, s3, s, d1, d, hsum, hs9, hdd, q1, q2, q3, q4, q5, q6, q7⟩ := hend.out a b hab hbN
      clear hend
      generalize hA1 : (if c0 = a then A else Option.map (fun x => x.add (a * 9)) A) = A1 at q1 q2 q6 ⊢
      obtain ⟨A2, hA2⟩ : ∃ A2, (if c0 = 0 then A else Option.map (fun x => x.add 0) A) = A2 := ⟨_, rfl⟩
      obtain ⟨A3, hA3⟩ : ∃ A3, (if c0 = b then A else Option.map (fun x => x.add (b * 9)) A) = A3 := ⟨_, rfl⟩
      rw [hA2] at q3
      rw [hA3] at q4
      clear hA1
      have hsum2 : (s1 : Int) + (s2 : Int) + (s3 : Int) = (s : Int) := by omega
      have hdd2 : (d1 : Int) ≤ (d : Int) := by omega
      have wr1 : IntKind.i64.wrap ((s1 : Int) + (s2 : Int)) = (s1 : Int) + (s2 : Int) := IntWalk.i64_in _ (by omega)
      have wr2 : IntKind.i64.wrap ((s1 : Int) + (s2 : Int) + (s3 : Int)) = (s1 : Int) + (s2 : Int) + (s3 : Int) := IntWalk.i64_in _ (by omega)
      have g111 : ((s1 : Int) + (s2 : Int) + (s3 : Int) == (s : Int)) = true := by rw [hsum2]; exact beq_self_eq_true _
      replace hsum2 := Lib.hid hsum2
      replace hsum := Lib.hid hsum
      have hS0 := hB.out.trans ((drewN_below wr 1).mono hB.out.size)
      refine wp_region_held_drew (S := fun w => Below w1.heap.size w1 w) (by kernel_rfl) hS0 (fun _ => ?_)
      change Below w1.heap.size w1 wr.drew at hS0
      generalize wr.drew = vd at hS0 ⊢
      refine wpAnyH_take (i := 0) (oi := { dst := some 91, op := Op.move (Operand.tmp 8), type := 22, pos := "law.go:154", after := #[], guard := none }) (v := .slice A1 (b - a) (c0 - a)) rfl (by kernel_rfl) (by kernel_rfl) (by kernel_rfl) (fun _ _ _ h => h) (Or.inl ⟨by kernel_rfl, ?_⟩) hS0 ?_
      · intro W hW
        clear hW
        go_simp
      try simp only [Act.put, List.setIfInBounds_toArray, List.set_cons_zero, List.set_cons_succ]
      refine wpAnyH_ready (rs := [1]) (by kernel_rfl) (by simp) ?_
      refine AllReadyH.cons (o := { dst := some 92, op := Op.call { callee := Callee.value (Operand.func 9), args := #[Operand.tmp 91], argTypes := #[22] }, type := 25, pos := "law.go:154", after := #[{ on := 0, ground := Ground.data }], guard := none }) rfl (fun K hK => ?_) AllReadyH.nil
      go_simp
      (go_at_call 9; refine (q1.out _ hS0).mono ?_; rintro e x92 ⟨rfl, hc92⟩; have hS92 := hS0.trans (hc92.mono hS0.size))
      go_wp2_with fail
      refine hK.out _ _ hS92 (fun _ => ?_)
      clear hK K
      try simp only [Act.put, List.setIfInBounds_toArray, List.set_cons_zero, List.set_cons_succ]
      refine wpAnyH_take (i := 2) (oi := { dst := some 93, op := Op.binOp BinOp.eql 25 (Operand.tmp 92) (Operand.const (Value.int IntKind.i64 0)) 25, type := 4, pos := "law.go:154", after := #[{ on := 1, ground := Ground.data }], guard := none }) (v := .bool true) rfl (by kernel_rfl) (by kernel_rfl) (by kernel_rfl) (fun _ _ _ h => h) (Or.inl ⟨by kernel_rfl, ?_⟩) hS92 ?_
      · intro W hW
        clear hW
        go_simp
      try simp only [Act.put, List.setIfInBounds_toArray, List.set_cons_zero, List.set_cons_succ]
      refine wpAnyH_take (i := 3) (oi := { dst := some 94, op := Op.move (Operand.tmp 93), type := 4, pos := "law.go:154", after := #[{ on := 2, ground := Ground.data }, { on := 1, ground := Ground.chain }], guard := none }) (v := .bool true) rfl (by kernel_rfl) (by kernel_rfl) (by kernel_rfl) (fun _ _ _ h => h) (Or.inl ⟨by kernel_rfl, ?_⟩) hS92 ?_
      · intro W hW
        clear hW
        go_simp
      try simp only [Act.put, List.setIfInBounds_toArray, List.set_cons_zero, List.set_cons_succ]
      refine wpAnyH_take (i := 4) (oi := { dst := some 95, op := Op.move (Operand.tmp 8), type := 22, pos := "law.go:154", after := #[{ on := 3, ground := Ground.guard }], guard := some (3, true) }) (v := .slice A1 (b - a) (c0 - a)) rfl (by kernel_rfl) (by kernel_rfl) (by kernel_rfl) (fun _ _ _ h => h) (Or.inl ⟨by kernel_rfl, ?_⟩) hS92 ?_
      · intro W hW
        clear hW
        go_simp
      try simp only [Act.put, List.setIfInBounds_toArray, List.set_cons_zero, List.set_cons_succ]
      refine wpAnyH_take (i := 6) (oi := { dst := some 97, op := Op.move (Operand.tmp 0), type := 22, pos := "law.go:154", after := #[{ on := 3, ground := Ground.guard }], guard := some (3, true) }) (v := .slice A j c0) rfl (by kernel_rfl) (by kernel_rfl) (by kernel_rfl) (fun _ _ _ h => h) (Or.inl ⟨by kernel_rfl, ?_⟩) hS92 ?_
      · intro W hW
        clear hW
        go_simp
      try simp only [Act.put, List.setIfInBounds_toArray, List.set_cons_zero, List.set_cons_succ]
      refine wpAnyH_take (i := 7) (oi := { dst := some 98, op := Op.indexAddr 36 (Operand.tmp 3) (Operand.const (Value.int IntKind.i64 0)), type := 0, pos := "law.go:154", after := #[{ on := 3, ground := Ground.guard }], guard := some (3, true) }) (v := .pointer (some ⟨z, 0, none⟩)) rfl (by kernel_rfl) (by kernel_rfl) (by kernel_rfl) (fun _ _ _ h => h) (Or.inl ⟨by kernel_rfl, ?_⟩) hS92 ?_
      · intro W hW
        clear hW
        go_simp
      try simp only [Act.put, List.setIfInBounds_toArray, List.set_cons_zero, List.set_cons_succ]
      refine wpAnyH_take (i := 8) (oi := { dst := some 99, op := Op.load 3 (Operand.tmp 98), type := 3, pos := "law.go:154", after := #[{ on := 7, ground := Ground.data }, { on := 3, ground := Ground.guard }], guard := some (3, true) }) (v := .int .i64 (a : Int)) rfl (by kernel_rfl) (by kernel_rfl) (by kernel_rfl) (fun _ _ _ h => h) (Or.inl ⟨by kernel_rfl, ?_⟩) hS92 ?_
      · intro W hW
        obtain ⟨y0, y1, yl⟩ := hcl.out W hW
        clear hW
        go_simp
      try simp only [Act.put, List.setIfInBounds_toArray, List.set_cons_zero, List.set_cons_succ]
      refine wpAnyH_take (i := 9) (oi := { dst := some 100, op := Op.slice 22 (Operand.tmp 97) none (some (Operand.tmp 99)) none, type := 22, pos := "law.go:154", after := #[{ on := 6, ground := Ground.data }, { on := 8, ground := Ground.data }, { on := 3, ground := Ground.guard }], guard := some (3, true) }) (v := .slice A2 a c0) rfl (by kernel_rfl) (by kernel_rfl) (by kernel_rfl) (fun _ _ _ h => h) (Or.inl ⟨by kernel_rfl, ?_⟩) hS92 ?_
      · intro W hW
        clear hW
        subst hA2
        go_simp
      try simp only [Act.put, List.setIfInBounds_toArray, List.set_cons_zero, List.set_cons_succ]
      refine wpAnyH_take (i := 12) (oi := { dst := some 103, op := Op.move (Operand.tmp 0), type := 22, pos := "law.go:154", after := #[{ on := 3, ground := Ground.guard }], guard := some (3, true) }) (v := .slice A j c0) rfl (by kernel_rfl) (by kernel_rfl) (by kernel_rfl) (fun _ _ _ h => h) (Or.inl ⟨by kernel_rfl, ?_⟩) hS92 ?_
      · intro W hW
        clear hW
        go_simp
      try simp only [Act.put, List.setIfInBounds_toArray, List.set_cons_zero, List.set_cons_succ]
      refine wpAnyH_take (i := 13) (oi := { dst := some 104, op := Op.indexAddr 36 (Operand.tmp 3) (Operand.const (Value.int IntKind.i64 1)), type := 0, pos := "law.go:154", after := #[{ on := 3, ground := Ground.guard }], guard := some (3, true) }) (v := .pointer (some ⟨z, 1, none⟩)) rfl (by kernel_rfl) (by kernel_rfl) (by kernel_rfl) (fun _ _ _ h => h) (Or.inl ⟨by kernel_rfl, ?_⟩) hS92 ?_
      · intro W hW
        clear hW
        go_simp
      try simp only [Act.put, List.setIfInBounds_toArray, List.set_cons_zero, List.set_cons_succ]
      refine wpAnyH_take (i := 14) (oi := { dst := some 105, op := Op.load 3 (Operand.tmp 104), type := 3, pos := "law.go:154", after := #[{ on := 13, ground := Ground.data }, { on := 3, ground := Ground.guard }], guard := some (3, true) }) (v := .int .i64 (b : Int)) rfl (by kernel_rfl) (by kernel_rfl) (by kernel_rfl) (fun _ _ _ h => h) (Or.inl ⟨by kernel_rfl, ?_⟩) hS92 ?_
      · intro W hW
        obtain ⟨y0, y1, yl⟩ := hcl.out W hW
        clear hW
        go_simp
      try simp only [Act.put, List.setIfInBounds_toArray, List.set_cons_zero, List.set_cons_succ]
      refine wpAnyH_take (i := 15) (oi := { dst := some 106, op := Op.slice 22 (Operand.tmp 103) (some (Operand.tmp 105)) none none, type := 22, pos := "law.go:154", after := #[{ on := 12, ground := Ground.data }, { on := 14, ground := Ground.data }, { on := 3, ground := Ground.guard }], guard := some (3, true) }) (v := .slice A3 (j - b) (c0 - b)) rfl (by kernel_rfl) (by kernel_rfl) (by kernel_rfl) (fun _ _ _ h => h) (Or.inl ⟨by kernel_rfl, ?_⟩) hS92 ?_
      · intro W hW
        clear hW
        subst hA3
        go_simp
      try simp only [Act.put, List.setIfInBounds_toArray, List.set_cons_zero, List.set_cons_succ]
      refine wpAnyH_take (i := 18) (oi := { dst := some 109, op := Op.move (Operand.tmp 0), type := 22, pos := "law.go:154", after := #[{ on := 3, ground := Ground.guard }], guard := some (3, true) }) (v := .slice A j c0) rfl (by kernel_rfl) (by kernel_rfl) (by kernel_rfl) (fun _ _ _ h => h) (Or.inl ⟨by kernel_rfl, ?_⟩) hS92 ?_
      · intro W hW
        clear hW
        go_simp
      try simp only [Act.put, List.setIfInBounds_toArray, List.set_cons_zero, List.set_cons_succ]
      refine wpAnyH_ready (rs := [5]) (by kernel_rfl) (by simp) ?_
      refine AllReadyH.cons (o := { dst := some 96, op := Op.call { callee := Callee.value (Operand.func 11), args := #[Operand.tmp 95], argTypes := #[22] }, type := 3, pos := "law.go:154", after := #[{ on := 4, ground := Ground.data }, { on := 3, ground := Ground.chain }, { on := 3, ground := Ground.guard }], guard := some (3, true) }) rfl (fun K hK => ?_) AllReadyH.nil
      go_simp
      (go_at_call 11; refine (q2.out _ hS92).mono ?_; rintro e x96 ⟨rfl, hc96⟩; have hS96 := hS92.trans (hc96.mono hS92.size))
      go_wp2_with fail
      refine hK.out _ _ hS96 (fun _ => ?_)
      clear hK K
      try simp only [Act.put, List.setIfInBounds_toArray, List.set_cons_zero, List.set_cons_succ]
      refine wpAnyH_ready (rs := [10]) (by kernel_rfl) (by simp) ?_
      refine AllReadyH.cons (o := { dst := some 101, op := Op.call { callee := Callee.value (Operand.func 11), args := #[Operand.tmp 100], argTypes := #[22] }, type := 3, pos := "law.go:154", after := #[{ on := 9, ground := Ground.data }, { on := 5, ground := Ground.chain }, { on := 3, ground := Ground.guard }], guard := some (3, true) }) rfl (fun K hK => ?_) AllReadyH.nil
      go_simp
      (go_at_call 11; refine (q3.out _ hS96).mono ?_; rintro e x101 ⟨rfl, hc101⟩; have hS101 := hS96.trans (hc101.mono hS96.size))
      go_wp2_with fail
      refine hK.out _ _ hS101 (fun _ => ?_)
      clear hK K
      try simp only [Act.put, List.setIfInBounds_toArray, List.set_cons_zero, List.set_cons_succ]
      refine wpAnyH_take (i := 11) (oi := { dst := some 102, op := Op.binOp BinOp.add 3 (Operand.tmp 96) (Operand.tmp 101) 3, type := 3, pos := "law.go:154", after := #[{ on := 5, ground := Ground.data }, { on := 10, ground := Ground.data }, { on := 3, ground := Ground.guard }], guard := some (3, true) }) (v := .int .i64 ((s1 : Int) + (s2 : Int))) rfl (by kernel_rfl) (by kernel_rfl) (by kernel_rfl) (fun _ _ _ h => h) (Or.inl ⟨by kernel_rfl, ?_⟩) hS101 ?_
      · intro W hW
        clear hW
        go_simp
      try simp only [Act.put, List.setIfInBounds_toArray, List.set_cons_zero, List.set_cons_succ]
      refine wpAnyH_ready (rs := [16]) (by kernel_rfl) (by simp) ?_
      refine AllReadyH.cons (o := { dst := some 107, op := Op.call { callee := Callee.value (Operand.func 11), args := #[Operand.tmp 106], argTypes := #[22] }, type := 3, pos := "law.go:154", after := #[{ on := 15, ground := Ground.data }, { on := 10, ground := Ground.chain }, { on := 3, ground := Ground.guard }], guard := some (3, true) }) rfl (fun K hK => ?_) AllReadyH.nil
      go_simp
      (go_at_call 11; refine (q4.out _ hS101).mono ?_; rintro e x107 ⟨rfl, hc107⟩; have hS107 := hS101.trans (hc107.mono hS101.size))
      go_wp2_with fail
      refine hK.out _ _ hS107 (fun _ => ?_)
      clear hK K
      try simp only [Act.put, List.setIfInBounds_toArray, List.set_cons_zero, List.set_cons_succ]
      refine wpAnyH_take (i := 17) (oi := { dst := some 108, op := Op.binOp BinOp.add 3 (Operand.tmp 102) (Operand.tmp 107) 3, type := 3, pos := "law.go:154", after := #[{ on := 11, ground := Ground.data }, { on := 16, ground := Ground.data }, { on := 3, ground := Ground.guard }], guard := some (3, true) }) (v := .int .i64 ((s1 : Int) + (s2 : Int) + (s3 : Int))) rfl (by kernel_rfl) (by kernel_rfl) (by kernel_rfl) (fun _ _ _ h => h) (Or.inl ⟨by kernel_rfl, ?_⟩) hS107 ?_
      · intro W hW
        clear hW
        go_simp
      try simp only [Act.put, List.setIfInBounds_toArray, List.set_cons_zero, List.set_cons_succ]
      refine wpAnyH_ready (rs := [19]) (by kernel_rfl) (by simp) ?_
      refine AllReadyH.cons (o := { dst := some 110, op := Op.call { callee := Callee.value (Operand.func 11), args := #[Operand.tmp 109], argTypes := #[22] }, type := 3, pos := "law.go:154", after := #[{ on := 18, ground := Ground.data }, { on := 16, ground := Ground.chain }, { on := 3, ground := Ground.guard }], guard := some (3, true) }) rfl (fun K hK => ?_) AllReadyH.nil
      go_simp
      (go_at_call 11; refine (q5.out _ hS107).mono ?_; rintro e x110 ⟨rfl, hc110⟩; have hS110 := hS107.trans (hc110.mono hS107.size))
      go_wp2_with fail
      refine hK.out _ _ hS110 (fun _ => ?_)
      clear hK K
      try simp only [Act.put, List.setIfInBounds_toArray, List.set_cons_zero, List.set_cons_succ]
      refine wpAnyH_take (i := 20) (oi := { dst := some 111, op := Op.binOp BinOp.eql 3 (Operand.tmp 108) (Operand.tmp 110) 3, type := 4, pos := "law.go:154", after := #[{ on := 17, ground := Ground.data }, { on := 19, ground := Ground.data }, { on := 3, ground := Ground.guard }], guard := some (3, true) }) (v := .bool true) rfl (by kernel_rfl) (by kernel_rfl) (by kernel_rfl) (fun _ _ _ h => h) (Or.inl ⟨by kernel_rfl, ?_⟩) hS110 ?_
      · intro W hW
        clear hW
        go_simp
      try simp only [Act.put, List.setIfInBounds_toArray, List.set_cons_zero, List.set_cons_succ]
      refine wpAnyH_take (i := 21) (oi := { dst := some 112, op := Op.pick (Operand.tmp 94) (Operand.tmp 111) (Operand.const (Value.bool false)), type := 4, pos := "law.go:154", after := #[{ on := 3, ground := Ground.data }, { on := 20, ground := Ground.data }], guard := none }) (v := .bool true) rfl (by kernel_rfl) (by kernel_rfl) (by kernel_rfl) (fun _ _ _ h => h) (Or.inl ⟨by kernel_rfl, ?_⟩) hS110 ?_
      · intro W hW
        clear hW
        go_simp
      try simp only [Act.put, List.setIfInBounds_toArray, List.set_cons_zero, List.set_cons_succ]
      refine wpAnyH_take (i := 22) (oi := { dst := some 113, op := Op.move (Operand.tmp 112), type := 4, pos := "law.go:154", after := #[{ on := 21, ground := Ground.data }, { on := 19, ground := Ground.chain }], guard := none }) (v := .bool true) rfl (by kernel_rfl) (by kernel_rfl) (by kernel_rfl) (fun _ _ _ h => h) (Or.inl ⟨by kernel_rfl, ?_⟩) hS110 ?_
      · intro W hW
        clear hW
        go_simp
      try simp only [Act.put, List.setIfInBounds_toArray, List.set_cons_zero, List.set_cons_succ]
      refine wpAnyH_take (i := 23) (oi := { dst := some 114, op := Op.move (Operand.tmp 8), type := 22, pos := "law.go:154", after := #[{ on := 22, ground := Ground.guard }], guard := some (22, true) }) (v := .slice A1 (b - a) (c0 - a)) rfl (by kernel_rfl) (by kernel_rfl) (by kernel_rfl) (fun _ _ _ h => h) (Or.inl ⟨by kernel_rfl, ?_⟩) hS110 ?_
      · intro W hW
        clear hW
        go_simp
      try simp only [Act.put, List.setIfInBounds_toArray, List.set_cons_zero, List.set_cons_succ]
      refine wpAnyH_take (i := 25) (oi := { dst := some 116, op := Op.move (Operand.tmp 0), type := 22, pos := "law.go:154", after := #[{ on := 22, ground := Ground.guard }], guard := some (22, true) }) (v := .slice A j c0) rfl (by kernel_rfl) (by kernel_rfl) (by kernel_rfl) (fun _ _ _ h => h) (Or.inl ⟨by kernel_rfl, ?_⟩) hS110 ?_
      · intro W hW
        clear hW
        go_simp
      try simp only [Act.put, List.setIfInBounds_toArray, List.set_cons_zero, List.set_cons_succ]
      refine wpAnyH_ready (rs := [24]) (by kernel_rfl) (by simp) ?_
      refine AllReadyH.cons (o := { dst := some 115, op := Op.call { callee := Callee.value (Operand.func 13), args := #[Operand.tmp 114], argTypes := #[22] }, type := 3, pos := "law.go:154", after := #[{ on := 23, ground := Ground.data }, { on := 22, ground := Ground.chain }, { on := 22, ground := Ground.guard }], guard := some (22, true) }) rfl (fun K hK => ?_) AllReadyH.nil
      go_simp
      (go_at_call 13; refine (q6.out _ hS110).mono ?_; rintro e x115 ⟨rfl, hc115⟩; have hS115 := hS110.trans (hc115.mono hS110.size))
      go_wp2_with fail
      refine hK.out _ _ hS115 (fun _ => ?_)
      clear hK K
      try simp only [Act.put, List.setIfInBounds_toArray, List.set_cons_zero, List.set_cons_succ]
      refine wpAnyH_ready (rs := [26]) (by kernel_rfl) (by simp) ?_
      refine AllReadyH.cons (o := { dst := some 117, op := Op.call { callee := Callee.value (Operand.func 13), args := #[Operand.tmp 116], argTypes := #[22] }, type := 3, pos := "law.go:154", after := #[{ on := 25, ground := Ground.data }, { on := 24, ground := Ground.chain }, { on := 22, ground := Ground.guard }], guard := some (22, true) }) rfl (fun K hK => ?_) AllReadyH.nil
      go_simp
      (go_at_call 13; refine (q7.out _ hS115).mono ?_; rintro e x117 ⟨rfl, hc117⟩; have hS117 := hS115.trans (hc117.mono hS115.size))
      go_wp2_with fail
      refine hK.out _ _ hS117 (fun _ => ?_)
      clear hK K
      try simp only [Act.put, List.setIfInBounds_toArray, List.set_cons_zero, List.set_cons_succ]
      refine wpAnyH_take (i := 27) (oi := { dst := some 118, op := Op.binOp BinOp.leq 3 (Operand.tmp 115) (Operand.tmp 117) 3, type := 4, pos := "law.go:154", after := #[{ on := 24, ground := Ground.data }, { on := 26, ground := Ground.data }, { on := 22, ground := Ground.guard }], guard := some (22, true) }) (v := .bool true) rfl (by kernel_rfl) (by kernel_rfl) (by kernel_rfl) (fun _ _ _ h => h) (Or.inl ⟨by kernel_rfl, ?_⟩) hS117 ?_
      · intro W hW
        clear hW
        go_simp
      try simp only [Act.put, List.setIfInBounds_toArray, List.set_cons_zero, List.set_cons_succ]
      refine wpAnyH_take (i := 28) (oi := { dst := some 119, op := Op.pick (Operand.tmp 113) (Operand.tmp 118) (Operand.const (Value.bool false)), type := 4, pos := "law.go:154", after := #[{ on := 22, ground := Ground.data }, { on := 27, ground := Ground.data }], guard := none }) (v := .bool true) rfl (by kernel_rfl) (by kernel_rfl) (by kernel_rfl) (fun _ _ _ h => h) (Or.inl ⟨by kernel_rfl, ?_⟩) hS117 ?_
      · intro W hW
        clear hW
        go_simp
      try simp only [Act.put, List.setIfInBounds_toArray, List.set_cons_zero, List.set_cons_succ]
      refine wpAnyH_take (i := 29) (oi := { dst := some 120, op := Op.move (Operand.tmp 119), type := 4, pos := "law.go:154", after := #[{ on := 28, ground := Ground.data }, { on := 26, ground := Ground.chain }], guard := none }) (v := .bool true) rfl (by kernel_rfl) (by kernel_rfl) (by kernel_rfl) (fun _ _ _ h => h) (Or.inl ⟨by kernel_rfl, ?_⟩) hS117 ?_
      · intro W hW
        clear hW
        go_simp
      try simp only [Act.put, List.setIfInBounds_toArray, List.set_cons_zero, List.set_cons_succ]
      refine wpAnyH_ready (rs := [30]) (by kernel_rfl) (by simp) ?_
      refine AllReadyH.cons (o := { dst := some 121, op := Op.call { callee := Callee.value (Operand.func 8), args := #[], argTypes := #[] }, type := 4, pos := "law.go:154", after := #[{ on := 29, ground := Ground.chain }, { on := 29, ground := Ground.guard }], guard := some (29, true) }) rfl (fun K hK => ?_) AllReadyH.nil
      go_simp
      (go_at_call 8; refine (haw.out _).mono ?_; rintro e x121 ⟨rfl, hc121⟩; have hS121 := hS117.trans (hc121.mono hS117.size))
      go_wp2_with fail
      refine hK.out _ _ hS121 (fun _ => ?_)
      clear hK K
      try simp only [Act.put, List.setIfInBounds_toArray, List.set_cons_zero, List.set_cons_succ]
      refine wpAnyH_take (i := 31) (oi := { dst := some 122, op := Op.pick (Operand.tmp 120) (Operand.tmp 121) (Operand.const (Value.bool false)), type := 4, pos := "law.go:154", after := #[{ on := 29, ground := Ground.data }, { on := 30, ground := Ground.data }], guard := none }) (v := .bool true) rfl (by kernel_rfl) (by kernel_rfl) (by kernel_rfl) (fun _ _ _ h => h) (Or.inl ⟨by kernel_rfl, ?_⟩) hS121 ?_
      · intro W hW
        clear hW
        go_simp
      try simp only [Act.put, List.setIfInBounds_toArray, List.set_cons_zero, List.set_cons_succ]
      refine wpAnyH_take (i := 32) (oi := { dst := some 4, op := Op.assign (Operand.tmp 122), type := 4, pos := "law.go:154", after := #[{ on := 31, ground := Ground.data }, { on := 30, ground := Ground.chain }, { on := 0, ground := Ground.phase }, { on := 1, ground := Ground.phase }, { on := 2, ground := Ground.phase }, { on := 3, ground := Ground.phase }, { on := 4, ground := Ground.phase }, { on := 5, ground := Ground.phase }, { on := 6, ground := Ground.phase }, { on := 7, ground := Ground.phase }, { on := 8, ground := Ground.phase }, { on := 9, ground := Ground.phase }, { on := 10, ground := Ground.phase }, { on := 11, ground := Ground.phase }, { on := 12, ground := Ground.phase }, { on := 13, ground := Ground.phase }, { on := 14, ground := Ground.phase }, { on := 15, ground := Ground.phase }, { on := 16, ground := Ground.phase }, { on := 17, ground := Ground.phase }, { on := 18, ground := Ground.phase }, { on := 19, ground := Ground.phase }, { on := 20, ground := Ground.phase }, { on := 21, ground := Ground.phase }, { on := 22, ground := Ground.phase }, { on := 23, ground := Ground.phase }, { on := 24, ground := Ground.phase }, { on := 25, ground := Ground.phase }, { on := 26, ground := Ground.phase }, { on := 27, ground := Ground.phase }, { on := 28, ground := Ground.phase }, { on := 29, ground := Ground.phase }, { on := 30, ground := Ground.phase }, { on := 31, ground := Ground.phase }], guard := none }) (v := .bool true) rfl (by kernel_rfl) (by kernel_rfl) (by kernel_rfl) (fun _ _ _ h => h) (Or.inl ⟨by kernel_rfl, ?_⟩) hS121 ?_
      · intro W hW
        clear hW
        go_simp
      try simp only [Act.put, List.setIfInBounds_toArray, List.set_cons_zero, List.set_cons_succ]
      refine wpAnyH_done (by kernel_rfl) ?_ _
      have hE := Lib.hid (hb0.out.trans (hS121.mono hb0.out.size))
      go_wp2
      go_ret
      exact ⟨rfl, hE.out⟩
end
end Go.Proofs.YtmchfoedjajbdaaGreat
/-
  TreesParts: whatever comes in, the law answers true and leaves it as it was. Conditions: what comes in is of bulk at most 1048576.
-/
set_option linter.unusedSimpArgs false
set_option linter.unusedVariables false
namespace Go.Proofs.YtmchfoedjajbdaaGreat.rowTreesParts
open Go Go.ChangeShapes Go.WideShapes Go.ChangeAt Go.RowKit
open Go.ChangeMaps (open_string shut_string)

set_option maxRecDepth 100000 in
theorem contract (H : Type) (enc : TypeId × Value → H) (W : World) (base : Nat) (args : Array Value) (ds gs : List (DataW H)) (before : List MemPlace)
    (hval : ∀ (j : Nat) t v, Tryz.f5.params[j]? = some t → args[j]? = some v → Value.okWide Tryz.prog W .any base t v)
    (hk : Rows.uptoSmall H (ds ++ gs) = true)
    (hW : DataW.Whole enc Tryz.prog Tryz.f5.params.toList Rows.treesPartsSpec.vars false W args.toList ds gs before) :
    Calls Tryz.prog 5 args W fun e W' => ∃ v, e = .returned v ∧ Rows.treesPartsSpec.post enc Tryz.prog Tryz.f5 false true false false W args v W' := by
  have hW' := hW
  obtain ⟨p, q, hA0, hV, rfl, hfz, hnd⟩ := hW
  have hA : DataW.TrodAll enc Tryz.prog W 0 (fun _ => true) true Tryz.f5.params.toList args.toList ds p := hA0
  rw [Tryz.params5] at hA hval
  obtain ⟨v0, vs0, d0, ds0, p0, q0, hargs, rfl, rfl, h0, r0⟩ := trodAll_cons hA
  obtain ⟨v1, vs1, d1, ds1, p1, q1, rfl, rfl, rfl, h1, r1⟩ := trodAll_cons r0
  obtain ⟨rfl, rfl, rfl⟩ := trodAll_nil r1
  obtain rfl : args = #[v0, v1] := by cases args; simp_all
  obtain ⟨rfl, rfl⟩ := trodVars_none hV
  clear hA0
  simp only [List.append_nil] at hW' hk
  have hbulk := upto_small hk
  simp only [Rows.uptoBulkAll] at hbulk
  have hlt : ∀ x ∈ p0 ++ p1, x.block < W.heap.size := fun x hx => by simpa [List.append_assoc] using hW'.lt x (by simpa [List.append_assoc] using hx)
  obtain ⟨f0, A0, c0, hv0, hs0, ht0, hb0⟩ := open_nodes (hval 0 _ v0 rfl rfl) h0 (fun x hx => hlt x (by simp [hx]))
  obtain ⟨n1, m1, hv1, hn1, hm1⟩ := open_twoI (hval 1 _ v1 rfl rfl) h1
  have hb1 := bulk_pos d1
  have t0 := fun (W' : World) (hb : Below W.heap.size W W') => Below.trod rowOut (by kernel_rfl) (of_decide_eq_true (by kernel_rfl)) h0 hb (fun x hx => hlt x (by simp [hx]))
  have t1 := fun (W' : World) (hb : Below W.heap.size W W') => Below.trod rowOut (by kernel_rfl) (of_decide_eq_true (by kernel_rfl)) h1 hb (fun x hx => hlt x (by simp [hx]))
  have e1 : (Rows.treesPartsSpec.fn H ([d0, d1] ++ [])).results = [.lit (.bool true)] := rfl
  have e2 : (Rows.treesPartsSpec.fn H ([d0, d1] ++ [])).args = [d0, d1] := rfl
  subst hv0 hv1
  refine (lawParts_any ht0 hs0 (by omega) hn1 hm1).mono fun e W' ⟨he, hb⟩ => ?_
  subst he
  refine ⟨_, rfl, _, _, _, [], p0 ++ (p1 ++ []), [], hW', ?_, ?_, rfl, hb.frame _, fun h => by cases h⟩
  · rw [e1]; exact trodAll_cons_mk (shut_bool Tryz.underlying4 _) trodAll_mk0
  · rw [e2]; exact trodAll_cons_mk (t0 _ hb) (trodAll_cons_mk (t1 _ hb) (trodAll_mk0))

theorem reads (os : Os) {H : Type} (enc : TypeId × Value → H) : ∃ places, DataW.whole enc Tryz.prog ((plainWorld os).forCall (fun _ _ => 0) ⟨#[], #[.slice none 0 0, .agg #[.int .i64 0, .int .i64 0]], []⟩).memory Tryz.f5.params.toList Rows.treesPartsSpec.vars false (#[.slice none 0 0, .agg #[.int .i64 0, .int .i64 0]] : Array Value).toList 8 = some ([.nil, .agg [.lit (.int .i64 0), .lit (.int .i64 0)]], [], places) :=
  ⟨[], by kernel_rfl⟩

set_option maxRecDepth 100000 in
theorem lifted (os : Os) (started : os.Started) (H : Type) (enc : TypeId × Value → H) (F : Stop.Interp) :
    ReturnsInHanded {} Tryz.checked os 5 .any ((Rows.OpenSpec.upto Rows.treesPartsSpec).preRow enc Tryz.prog Tryz.f5 Rows.treesPartsUptoRow.domain false Rows.treesPartsUptoRow.laid) (((Rows.OpenSpec.upto Rows.treesPartsSpec).at F).post enc Tryz.prog Tryz.f5 false true false false) := by
  obtain ⟨places, hx⟩ := reads os enc
  refine returnsInHanded_of_row (C := Tryz.checked) (s := Rows.OpenSpec.upto Rows.treesPartsSpec) rowOwn started (by kernel_rfl) Tryz.func5
    (witness_row_at (enc := enc) (C := Tryz.checked) false (plainWorld os) #[.slice none 0 0, .agg #[.int .i64 0, .int .i64 0]] rfl (by kernel_rfl) (by kernel_rfl) (by kernel_rfl)
      (OpenSpec.preRow_of_cond 8 hx (by kernel_rfl) (fun k hk => by cases hk; kernel_rfl) (by kernel_rfl) (laid_none _))) ?_
  intro W base args ds gs before hval hW _ hcond _ _ _ _
  exact contract H enc W base args ds gs before hval (hcond _ rfl) hW

theorem said : Rows.TreesPartsUptoSaid :=
  OpenClaim.holds_of_cond 5 Tryz.f5 rfl rfl rfl rfl rfl rfl rfl ⟨rfl, rfl, rfl, rfl, rfl⟩ rfl rfl rfl rfl rfl (by kernel_rfl) Tryz.func5 (by kernel_rfl)
    (of_decide_eq_true (by kernel_rfl)) (by unfold Func.isWrapper; first | (rw [if_pos (by decide +kernel)]; kernel_rfl) | (rw [if_neg (by decide +kernel)]; exact ⟨rfl, rfl⟩))
    (fun os started H enc _ F => by rw [OpenClaim.pre_eq_preRow]; exact lifted os started H enc F)

end Go.Proofs.YtmchfoedjajbdaaGreat.rowTreesParts
