/-
  trees.measured: what it counts, and how deep it looks. Conditions: not too great.
-/
import Derived.StillTailTactics
import Derived.Test.YtmchfoedjajbdaaGreatZq3
set_option linter.unusedSimpArgs false
set_option linter.unusedVariables false
namespace Go.Proofs.YtmchfoedjajbdaaGreat
open Go Go.RowKit Go.ChangeMaps

/-- What has been measured so far. -/
structure Ms (w0 w : World) (mb s d n bd : Nat) : Prop where
  fr : Below w0.heap.size w0 w
  lo : w0.heap.size ≤ mb
  blk : Blk w mb [.int .i64 (s : Int), .int .i64 (d : Int), .int .i64 (n : Int), .int .i64 (bd : Int)] 53
/-- No block but one is changed. -/
def Fm (mb : Nat) (w w' : World) : Prop := w.heap.size ≤ w'.heap.size ∧ ∀ b, b < w.heap.size → b ≠ mb → w'.heap[b]? = w.heap[b]?
theorem Fm.refl (mb : Nat) (w : World) : Fm mb w w := ⟨Nat.le_refl _, fun _ _ _ => rfl⟩
theorem Fm.trans {mb : Nat} {w w' w'' : World} (h : Fm mb w w') (k : Fm mb w' w'') : Fm mb w w'' := ⟨Nat.le_trans h.1 k.1, fun b hb hn => (k.2 b (Nat.lt_of_lt_of_le hb h.1) hn).trans (h.2 b hb hn)⟩
theorem Fm.of_below {mb : Nat} {w w' : World} (h : Below w.heap.size w w') : Fm mb w w' := ⟨h.size, fun b hb _ => h.block b hb⟩
theorem Fm.set (mb : Nat) (w : World) (i : Nat) (u : Value) : Fm mb w (w.setCell ⟨mb, i, none⟩ u) := by
  have k := Stp.set (S := fun b => b = mb) (w := w) rfl i u
  exact ⟨k.size, fun b hb hn => k.block b hb hn⟩
/-- What is measured behind a row so deep and so great. -/
def MPost (w0 w : World) (mb s d n bd x z : Nat) (w' : World) : Prop := ∃ s', Ms w0 w' mb s' (max d (min (n + x) bd)) n bd ∧ s' ≤ s + z ∧ (n + x ≤ bd → s' = s + z) ∧ Fm mb w w'
theorem Ms.below {w0 w w' : World} {mb s d n bd : Nat} (h : Ms w0 w mb s d n bd) (k : Below w.heap.size w w') : Ms w0 w' mb s d n bd := ⟨h.fr.trans (k.mono h.fr.size), h.lo, (k.block mb h.blk.lt).trans h.blk⟩
theorem Ms.setS {w0 w : World} {mb s d n bd : Nat} (h : Ms w0 w mb s d n bd) (s' : Nat) : Ms w0 (w.setCell ⟨mb, 0, none⟩ (.int .i64 (s' : Int))) mb s' d n bd := ⟨h.fr.setCell h.lo _, h.lo, h.blk.set 0 _⟩
theorem Ms.setD {w0 w : World} {mb s d n bd : Nat} (h : Ms w0 w mb s d n bd) (d' : Nat) : Ms w0 (w.setCell ⟨mb, 1, none⟩ (.int .i64 (d' : Int))) mb s d' n bd := ⟨h.fr.setCell h.lo _, h.lo, h.blk.set 1 _⟩
theorem Ms.setN {w0 w : World} {mb s d n bd : Nat} (h : Ms w0 w mb s d n bd) (n' : Nat) : Ms w0 (w.setCell ⟨mb, 2, none⟩ (.int .i64 (n' : Int))) mb s d n' bd := ⟨h.fr.setCell h.lo _, h.lo, h.blk.set 2 _⟩
theorem dp0 : ∀ f : F, dpF f = 0 → szF f = 0 := fun f => by
  induction f with
  | nil => intro _; rfl
  | node => intro h; simp only [dpF] at h; omega
  | piece => intro h; simp only [dpF] at h; omega
  | set n w r h1 h2 => intro h; simp only [dpF] at h; simp only [szF]; have := h1 (by omega); have := h2 (by omega); omega
  | redir d k w r h1 h2 => intro h; simp only [dpF] at h; simp only [szF]; have := h1 (by omega); have := h2 (by omega); omega
  | case W Y r h1 h2 h3 => intro h; simp only [dpF] at h; simp only [szF]; have := h1 (by omega); have := h2 (by omega); have := h3 (by omega); omega
  | row x r h1 h2 => intro h; simp only [dpF] at h; simp only [szF]; have := h1 (by omega); have := h2 (by omega); omega
theorem dpF_drop : ∀ (j : Nat) (f : F), dpF (f.drop j) ≤ dpF f
  | 0, _ => Nat.le_refl _
  | j + 1, f => Nat.le_trans (dpF_drop j f.tl) (dpF_tl f)
/-- How deep, and how great, what is in a row's first thing is. -/
def inD : F → Nat
  | .node _ _ _ _ S W R L C _ => max (dpF S) (max (dpF W) (max (dpF R) (max (dpF L) (dpF C))))
  | .piece _ _ _ _ K Y _ => max (dpF K) (dpF Y)
  | _ => 0
def inZ : F → Nat
  | .node _ _ _ _ S W R L C _ => szF S + szF W + szF R + szF L + szF C
  | .piece _ _ _ _ K Y _ => szF K + szF Y
  | _ => 0
theorem in_tl {f : F} {t : Nat} (ht : Ty f t) (h : t = 0 ∨ t = 1) (hp : 0 < f.len) : dpF f = max (1 + inD f) (dpF f.tl) ∧ szF f = 1 + inZ f + szF f.tl ∧ inZ f + 1 ≤ wt f ∧ inD f + 1 ≤ wt f := by
  cases f with
  | nil => exact absurd hp (Nat.lt_irrefl 0)
  | node k b n g S W R L C r =>
    have := sz_wt S; have := sz_wt W; have := sz_wt R; have := sz_wt L; have := sz_wt C
    have := dp_wt S; have := dp_wt W; have := dp_wt R; have := dp_wt L; have := dp_wt C
    simp only [dpF, szF, inD, inZ, F.tl, wt]; refine ⟨trivial, ?_, ?_, ?_⟩ <;> omega
  | piece k t o c K Y r =>
    have := sz_wt K; have := sz_wt Y; have := dp_wt K; have := dp_wt Y
    simp only [dpF, szF, inD, inZ, F.tl, wt]; refine ⟨trivial, ?_, ?_, ?_⟩ <;> omega
  | set => rcases h with rfl | rfl <;> exact absurd ht.1 (by decide)
  | redir => rcases h with rfl | rfl <;> exact absurd ht.1 (by decide)
  | case => rcases h with rfl | rfl <;> exact absurd ht.1 (by decide)
  | row => rcases h with rfl | rfl <;> (rcases ht with h | h <;> exact absurd h.1 (by decide))
theorem le_a {s a r y t K : Nat} (h : s + (a + r) + y ≤ t) (h2 : t ≤ K) : s + a ≤ K := by omega
theorem md_step {w0 : World} {mb n bd x s z d0 d' s' a rest e az rz y : Nat} (h1 : n ≤ bd) (hd : n ≤ d') (h5 : d' ≤ 4194304) (hT : max d' (min (n + max (max a rest) e) bd) = max d0 (min (n + x) bd)) (hz : s' + (az + rz) + y ≤ s + z) (hx : n + x ≤ bd → s' + (az + rz) + y = s + z) (ha : max a rest ≤ x) (hn : n + a ≤ 4194304) (wc w' : World) (hP : MPost w0 wc mb s' d' n bd a az w') :
    ∃ s2 d2, Ms w0 w' mb s2 d2 n bd ∧ (n ≤ d2 ∧ d2 ≤ 4194304 ∧ max d2 (min (n + max rest e) bd) = max d0 (min (n + x) bd) ∧ s2 + rz + y ≤ s + z ∧ (n + x ≤ bd → s2 + rz + y = s + z)) ∧ Fm mb wc w' := by
  obtain ⟨s2, a1, a2, a3, a4⟩ := hP
  exact ⟨s2, _, a1, ⟨by omega, by omega, by rw [← hT]; omega, by omega, fun h => by have := hx h; have := a3 (by omega); omega⟩, a4⟩
/-- The same of two, one behind the other. -/
theorem md_two {w0 : World} {mb n bd d' s' a b az bz s3 : Nat} (h1 : n ≤ bd) (h2 : n ≤ d') {wc wd w' : World} (c2 : s3 ≤ s' + az) (c3 : n + a ≤ bd → s3 = s' + az) (c4 : Fm mb wc wd) (hP : MPost w0 wd mb s3 (max d' (min (n + a) bd)) n bd b bz w') : MPost w0 wc mb s' d' n bd (max a b) (az + bz) w' := by
  obtain ⟨s2, a1, a2, a3, a4⟩ := hP
  refine ⟨s2, ?_, by omega, fun h => by have := c3 (by omega); have := a3 (by omega); omega, c4.trans a4⟩
  rw [show max d' (min (n + max a b) bd) = max (max d' (min (n + a) bd)) (min (n + b) bd) by omega]
  exact a1
def MOk (n0 : Nat) : Prop :=
  (∀ f, wt f < n0 → Ty f 0 → ∀ w0 A c w mb s d n bd, Slc w0 A c f → Ms w0 w mb s d n bd → n ≤ bd → n ≤ d → s + szF f ≤ 4194304 → n + wt f ≤ 4194304 → d ≤ 4194304 → bd ≤ 9223372036854775807 → Calls Tryz.prog 41 #[(.pointer (some ⟨mb, 0, none⟩)), .slice A f.len c] w fun e w' => e = .returned (.tuple #[]) ∧ MPost w0 w mb s d n bd (dpF f) (szF f) w') ∧
  (∀ f, wt f < n0 → Ty f 1 → ∀ w0 A c w mb s d n bd, Slc w0 A c f → Ms w0 w mb s d n bd → n ≤ bd → n ≤ d → s + szF f ≤ 4194304 → n + wt f ≤ 4194304 → d ≤ 4194304 → bd ≤ 9223372036854775807 → Calls Tryz.prog 103 #[(.pointer (some ⟨mb, 0, none⟩)), .slice A f.len c] w fun e w' => e = .returned (.tuple #[]) ∧ MPost w0 w mb s d n bd (dpF f) (szF f) w')
section
variable {n0 : Nat} {w0 w : World} {A : Option Addr} {c0 mb s d n bd : Nat} {f g : F}
set_option maxRecDepth 100000 in
set_option maxHeartbeats 8000000 in
theorem m_words (hn : MOk n0) (ht : Ty f 5) (hw : wt f ≤ n0) (hs : Slc w0 A c0 f) (hM : Ms w0 w mb s d n bd) (h1 : n ≤ bd) (h2 : n ≤ d) (h3 : s + szF f ≤ 4194304) (h4 : n + wt f ≤ 4194304) (h5 : d ≤ 4194304) (h6 : bd ≤ 9223372036854775807) :
    Calls Tryz.prog 104 #[(.pointer (some ⟨mb, 0, none⟩)), .slice A f.len c0] w fun e w' => e = .returned (.tuple #[]) ∧ MPost w0 w mb s d n bd (dpF f) (szF f) w' := by
  have hm := hs.1
  have hcm := hs.2.1
  unfold maxLen at hcm
  obtain ⟨N, hN⟩ : ∃ N, f.len = N := ⟨_, rfl⟩
  rw [hN] at hm ⊢
  have hdw := dp_wt f
  have hsw := sz_wt f
  obtain ⟨x, hx⟩ : ∃ x, dpF f = x := ⟨_, rfl⟩
  obtain ⟨z, hz⟩ : ∃ z, szF f = z := ⟨_, rfl⟩
  rw [hx, hz]
  rw [hx] at hdw
  rw [hz] at hsw
  have hM0 : Hid (Ms w0 w mb s d n bd) := Lib.hid hM
  have hI0 : Hid (n ≤ d ∧ d ≤ 4194304 ∧ max d (min (n + dpF (f.drop 0)) bd) = max d (min (n + x) bd) ∧ s + szF (f.drop 0) ≤ s + z ∧ (n + x ≤ bd → s + szF (f.drop 0) = s + z)) := Lib.hid ⟨h2, h5, by show max d (min (n + dpF f) bd) = _; rw [hx], by show s + szF f ≤ _; omega, fun _ => by show s + szF f = _; omega⟩
  replace hs := Lib.hid hs
  replace ht := Lib.hid ht
  replace hw := Lib.hid hw
  replace hN := Lib.hid hN
  have hB9 : Hid (n ≤ bd ∧ s + z ≤ 4194304 ∧ n + wt f ≤ 4194304 ∧ bd ≤ 9223372036854775807 ∧ x ≤ wt f ∧ z ≤ wt f) := Lib.hid ⟨h1, by omega, h4, h6, hdw, hsw⟩
  have hxd : Hid (dpF f ≤ x) := Lib.hid (Nat.le_of_eq hx)
  clear hM hx hz h1 h2 h3 h4 h5 h6 hdw hsw
  go_enter Tryz.func104, Tryz.ntmps104
  go_wp2
  go_loopw [8] (fun iv wr => ∃ q s' d' : Nat, q ≤ N ∧ iv = .int .i64 (q : Int) ∧ Hid (Ms w0 wr mb s' d' n bd) ∧ Hid (n ≤ d' ∧ d' ≤ 4194304 ∧ max d' (min (n + dpF (f.drop q)) bd) = max d (min (n + x) bd) ∧ s' + szF (f.drop q) ≤ s + z ∧ (n + x ≤ bd → s' + szF (f.drop q) = s + z)) ∧ Hid (Fm mb w wr)) (fun iv _ => N - (intOf iv).toNat)
  case atStart => exact ⟨0, s, d, Nat.zero_le _, rfl, hM0, hI0, Lib.hid (Fm.refl _ _)⟩
  case round =>
    clear hM0 hI0
    obtain ⟨q, s', d', hq, rfl, hM, hI, hST⟩ := hrel
    by_cases hlt : q < N
    · have hq1 : (0 : Int) ≤ (q : Int) := by omega
      have hq2 : (q : Int) < (N : Int) := by omega
      obtain ⟨B, o, rfl, hBl, hrw⟩ := hs.out.2.2 (by rw [hN.out]; omega)
      have hrd := rw_drop q ht.out (by rw [hN.out]; omega) hrw
      have htd := ty_drop q ht.out
      have hwd := wt_drop q f
      have hpd : 0 < (f.drop q).len := by rw [drop_len, hN.out]; omega
      have hnx := drop_tl q f
      have hI2 := hI.out
      have hb9 := hB9.out
      have hwf := hw.out
      have hdd := Nat.le_trans (dpF_drop q f) hxd.out
      rw [show szT 5 = 1 from rfl, Nat.mul_one] at hrd
      obtain ⟨x1, r1, hfd, htx, _⟩ := at_word htd hpd
      rw [hfd] at hrd hnx hI2 hwd hdd
      have hnx2 : r1 = f.drop (q + 1) := hnx
      simp only [wt] at hwd
      simp only [dpF, szF] at hI2 hdd
      rw [hnx2] at hI2
      obtain ⟨⟨Ax, cx, ex, hsx⟩, _⟩ := rw_row.1 hrd
      have hc := hn.2 x1 (by omega) htx w0 Ax cx wr mb s' d' n bd hsx hM.out (by omega) (by omega) (by omega) (by omega) (by omega) (by omega)
      have ex2 := cell_below hM.out.fr hBl ex
      have hl := Nat.lt_of_lt_of_le hBl hM.out.fr.size
      have hdx := dp_wt x1
      have hfin : ∀ w', MPost w0 wr mb s' d' n bd (dpF x1) (szF x1) w' → ∃ s2 d2, Ms w0 w' mb s2 d2 n bd ∧ (n ≤ d2 ∧ d2 ≤ 4194304 ∧ max d2 (min (n + dpF (f.drop (q + 1))) bd) = max d (min (n + x) bd) ∧ s2 + szF (f.drop (q + 1)) ≤ s + z ∧ (n + x ≤ bd → s2 + szF (f.drop (q + 1)) = s + z)) ∧ Fm mb wr w' := fun w' ⟨s2, a1, a2, a3, a4⟩ => ⟨s2, _, a1, by omega, a4⟩
      generalize x1.len = mx at hc ex2
      replace hfin := Lib.hid hfin
      clear hrw hrd htd hwd hpd hnx hfd hnx2 hI2 hsx htx ex hb9 hwf hI hM hdx hBl hdd
      go_wp2_with fail
      refine hc.mono ?_
      rintro e w5 ⟨rfl, hP⟩
      obtain ⟨s2, d2, hM2, hI2, hF5⟩ := hfin.out w5 hP
      have hSE := Lib.hid (hST.out.trans hF5)
      clear hF5 hST
      replace hM2 := Lib.hid hM2
      replace hI2 := Lib.hid hI2
      clear hc hP hfin ex2 hl
      go_wp2
      go_roundw
      case rel => exact ⟨q + 1, s2, d2, by omega, by go_num, hM2, hI2, hSE⟩
      case measure => simp [intOf]; omega
    · obtain rfl : q = N := by omega
      have hq3 : ¬ (q : Int) < (q : Int) := by omega
      have hI2 := hI.out
      rw [drop_end f hN.out.symm] at hI2
      simp only [dpF, szF] at hI2
      have hb9 := hB9.out
      have hfin : MPost w0 w mb s d n bd x z wr := ⟨s', by
        have h9 := hM.out
        rw [show max d (min (n + x) bd) = d' by omega]
        exact h9, by omega, by omega, hST.out⟩
      replace hfin := Lib.hid hfin
      clear hI2 hI hM hb9 hST
      go_wp2
      exact bodyPost_end (v := .tuple #[]) (results_none rfl _ _ _) rfl ⟨rfl, hfin.out⟩
set_option maxRecDepth 100000 in
set_option maxHeartbeats 16000000 in
theorem m_inNode {B0 o0 : Nat} (hn : MOk n0) (ht : Ty g 0) (hp : 0 < g.len) (hw : wt g ≤ n0) (hr : Rw w0 g B0 o0) (hB : B0 < w0.heap.size) (hM : Ms w0 w mb s d n bd) (h1 : n ≤ bd) (h2 : n ≤ d) (h3 : s + inZ g ≤ 4194304) (h4 : n + wt g ≤ 4194305) (h5 : d ≤ 4194304) (h6 : bd ≤ 9223372036854775807) :
    Calls Tryz.prog 61 #[(.pointer (some ⟨mb, 0, none⟩)), .pointer (some ⟨B0, o0, none⟩)] w fun e w' => e = .returned (.tuple #[]) ∧ MPost w0 w mb s d n bd (inD g) (inZ g) w' := by
  have hin := in_tl ht (.inl rfl) hp
  obtain ⟨k, b, n1, g1, S, W, R, L, C, r, rfl, _, htS, htW, htR, htL, htC, _⟩ := at_node ht hp
  obtain ⟨e0, e1, e2, e3, ⟨AS, cS, e4, hsS⟩, ⟨AW, cW, e5, hsW⟩, ⟨AR, cR, e6, hsR⟩, ⟨AL, cL, e7, hsL⟩, ⟨AC, cC, e8, hsC⟩, _⟩ := rw_node.1 hr
  obtain ⟨x, hx⟩ : ∃ x, inD (.node k b n1 g1 S W R L C r) = x := ⟨_, rfl⟩
  obtain ⟨z, hz⟩ : ∃ z, inZ (.node k b n1 g1 S W R L C r) = z := ⟨_, rfl⟩
  rw [hx, hz] at hin ⊢
  have hx2 : max (dpF S) (max (dpF W) (max (dpF R) (max (dpF L) (dpF C)))) = x := hx
  have hz2 : szF S + szF W + szF R + szF L + szF C = z := hz
  rw [hz] at h3
  simp only [wt] at hw h4 hin
  have hM0 : Hid (Ms w0 w mb s d n bd) := Lib.hid hM
  have hST0 : Hid (Fm mb w w) := Lib.hid (Fm.refl _ _)
  have hmS := hsS.1
  have hcmS := hsS.2.1
  unfold maxLen at hcmS
  have hwS : Hid (wt S < n0 ∧ n + wt S ≤ 4194304) := Lib.hid (by omega)
  obtain ⟨mS, hNS⟩ : ∃ N, S.len = N := ⟨_, rfl⟩
  rw [hNS] at hmS e4
  replace hsS := Lib.hid hsS
  replace htS := Lib.hid htS
  replace hNS := Lib.hid hNS
  have hmW := hsW.1
  have hcmW := hsW.2.1
  unfold maxLen at hcmW
  have hwW : Hid (wt W < n0 ∧ n + wt W ≤ 4194304) := Lib.hid (by omega)
  obtain ⟨mW, hNW⟩ : ∃ N, W.len = N := ⟨_, rfl⟩
  rw [hNW] at hmW e5
  replace hsW := Lib.hid hsW
  replace htW := Lib.hid htW
  replace hNW := Lib.hid hNW
  have hmR := hsR.1
  have hcmR := hsR.2.1
  unfold maxLen at hcmR
  have hwR : Hid (wt R < n0 ∧ n + wt R ≤ 4194304) := Lib.hid (by omega)
  obtain ⟨mR, hNR⟩ : ∃ N, R.len = N := ⟨_, rfl⟩
  rw [hNR] at hmR e6
  replace hsR := Lib.hid hsR
  replace htR := Lib.hid htR
  replace hNR := Lib.hid hNR
  have hmL := hsL.1
  have hcmL := hsL.2.1
  unfold maxLen at hcmL
  have hwL : Hid (wt L < n0 ∧ n + wt L ≤ 4194304) := Lib.hid (by omega)
  obtain ⟨mL, hNL⟩ : ∃ N, L.len = N := ⟨_, rfl⟩
  rw [hNL] at hmL e7
  replace hsL := Lib.hid hsL
  replace htL := Lib.hid htL
  replace hNL := Lib.hid hNL
  have hmC := hsC.1
  have hcmC := hsC.2.1
  unfold maxLen at hcmC
  have hwC : Hid (wt C < n0 ∧ n + wt C ≤ 4194304) := Lib.hid (by omega)
  obtain ⟨mC, hNC⟩ : ∃ N, C.len = N := ⟨_, rfl⟩
  rw [hNC] at hmC e8
  replace hsC := Lib.hid hsC
  replace htC := Lib.hid htC
  replace hNC := Lib.hid hNC
  have hwt : Hid (s + z ≤ 4194304 ∧ wt S + wt W + wt R + wt L + wt C + n ≤ 4194304 ∧ n ≤ bd ∧ bd ≤ 9223372036854775807 ∧ wt S + wt W + wt R + wt L + wt C < n0) := Lib.hid (by omega)
  have hcell := fun W9 (hb : Below w0.heap.size w0 W9) => (⟨cell_below hb hB e4, cell_below hb hB e5, cell_below hb hB e6, cell_below hb hB e7, cell_below hb hB e8, Nat.lt_of_lt_of_le hB hb.size⟩ : W9.cell? ⟨B0, o0 + 4, none⟩ = some (.slice AS mS cS) ∧ W9.cell? ⟨B0, o0 + 5, none⟩ = some (.slice AW mW cW) ∧ W9.cell? ⟨B0, o0 + 6, none⟩ = some (.slice AR mR cR) ∧ W9.cell? ⟨B0, o0 + 7, none⟩ = some (.slice AL mL cL) ∧ W9.cell? ⟨B0, o0 + 8, none⟩ = some (.slice AC mC cC) ∧ B0 < W9.heap.size)
  obtain ⟨e3', hE3⟩ : ∃ e, e = dpF C := ⟨_, rfl⟩
  obtain ⟨e2', hE2⟩ : ∃ e, e = max (dpF L) e3' := ⟨_, rfl⟩
  obtain ⟨e1', hE1⟩ : ∃ e, e = max (dpF R) e2' := ⟨_, rfl⟩
  obtain ⟨e0', hE0⟩ : ∃ e, e = max (dpF W) e1' := ⟨_, rfl⟩
  obtain ⟨y3, hY3⟩ : ∃ y, y = szF C := ⟨_, rfl⟩
  obtain ⟨y2, hY2⟩ : ∃ y, y = szF L + y3 := ⟨_, rfl⟩
  obtain ⟨y1, hY1⟩ : ∃ y, y = szF R + y2 := ⟨_, rfl⟩
  obtain ⟨y0, hY0⟩ : ∃ y, y = szF W + y1 := ⟨_, rfl⟩
  have hx3 : max (dpF S) e0' = x := by rw [hE0, hE1, hE2, hE3]; exact hx2
  have hT0 : Hid (n ≤ d ∧ d ≤ 4194304 ∧ max d (min (n + max (dpF S) e0') bd) = max d (min (n + x) bd) ∧ s + szF S + y0 ≤ s + z ∧ (n + x ≤ bd → s + szF S + y0 = s + z)) := Lib.hid ⟨h2, h5, by rw [hx3], by omega, fun _ => by omega⟩
  have hxd : Hid (dpF S ≤ x ∧ dpF W ≤ x ∧ dpF R ≤ x ∧ dpF L ≤ x ∧ dpF C ≤ x) := Lib.hid (by clear hT0; omega)
  replace hE0 := Lib.hid hE0
  replace hY0 := Lib.hid hY0
  replace hE1 := Lib.hid hE1
  replace hY1 := Lib.hid hY1
  replace hE2 := Lib.hid hE2
  replace hY2 := Lib.hid hY2
  replace hE3 := Lib.hid hE3
  replace hY3 := Lib.hid hY3
  replace hcell := Lib.hid hcell
  clear hM hx hz hx2 hx3 hz2 h1 h2 h3 h4 h5 h6 hw hin hr hB e0 e1 e2 e3 e4 e5 e6 e7 e8 ht hp
  obtain ⟨z4, z5, z6, z7, z8, zl⟩ := hcell.out w hM0.out.fr
  go_enter Tryz.func61, Tryz.ntmps61
  go_wp2
  clear z4 z5 z6 z7 z8 zl
  have hJ0 : Hid (n ≤ d ∧ d ≤ 4194304 ∧ max d (min (n + max (dpF (S.drop 0)) (e0')) bd) = max d (min (n + x) bd) ∧ s + szF (S.drop 0) + (y0) ≤ s + z ∧ (n + x ≤ bd → s + szF (S.drop 0) + (y0) = s + z)) := Lib.hid (by show n ≤ d ∧ d ≤ 4194304 ∧ max d (min (n + max (dpF (S)) (e0')) bd) = max d (min (n + x) bd) ∧ s + szF (S) + (y0) ≤ s + z ∧ (n + x ≤ bd → s + szF (S) + (y0) = s + z); have h9 := hT0.out; exact h9)
  go_loopw [17] (fun iv wr => ∃ q s' d' : Nat, q ≤ mS ∧ iv = .int .i64 (q : Int) ∧ Hid (Ms w0 wr mb s' d' n bd) ∧ Hid (n ≤ d' ∧ d' ≤ 4194304 ∧ max d' (min (n + max (dpF (S.drop q)) (e0')) bd) = max d (min (n + x) bd) ∧ s' + szF (S.drop q) + (y0) ≤ s + z ∧ (n + x ≤ bd → s' + szF (S.drop q) + (y0) = s + z)) ∧ Hid (Fm mb w wr)) (fun iv _ => mS - (intOf iv).toNat)
  case atStart => exact ⟨0, s, d, Nat.zero_le _, rfl, hM0, hJ0, hST0⟩
  case round =>
    clear hM0 hJ0 hT0 hST0
    obtain ⟨q0, s0', d0', hq, rfl, hM, hI, hST⟩ := hrel
    by_cases hlt : q0 < mS
    · skip
      have hq1 : (0 : Int) ≤ (q0 : Int) := by omega
      have hq2 : (q0 : Int) < (mS : Int) := by omega
      obtain ⟨B, o, rfl, hBl, hrw⟩ := hsS.out.2.2 (by rw [hNS.out]; omega)
      have hrd := rw_drop q0 htS.out (by rw [hNS.out]; omega) hrw
      have htd := ty_drop q0 htS.out
      have hwd := wt_drop q0 S
      have hpd : 0 < (S.drop q0).len := by rw [drop_len, hNS.out]; omega
      have hnx := drop_tl q0 S
      have hI2 := hI.out
      have hb9 := hwt.out
      have hdd := dpF_drop q0 S
      have hxd9 := hxd.out
      rw [show szT 2 = 2 from rfl] at hrd
      obtain ⟨k9, x1, r1, hfd, htx, _⟩ := at_set htd hpd
      rw [hfd] at hrd hnx hI2 hwd hdd
      have hnx2 : r1 = S.drop (q0 + 1) := hnx
      simp only [wt] at hwd
      simp only [dpF, szF] at hI2 hdd
      rw [hnx2] at hI2 hdd
      obtain ⟨ea, ⟨Ax, cx, ex, hsx⟩, _⟩ := rw_set.1 hrd
      obtain ⟨kd1, kd2, kT, kz, kx⟩ := hI2
      have hxle : wt x1 ≤ wt S := by clear kT kx hdd hxd9 hI kz; omega
      have hdl : n + dpF x1 ≤ 4194304 := by have := dp_wt x1; have := hwS.out.2; clear kT kx hdd hxd9 hI kz hb9; omega
      have hfin : ∀ wc w', MPost w0 wc mb s0' d0' n bd (dpF x1) (szF x1) w' → ∃ s2 d2, Ms w0 w' mb s2 d2 n bd ∧ (n ≤ d2 ∧ d2 ≤ 4194304 ∧ max d2 (min (n + max (dpF (S.drop (q0 + 1))) (e0')) bd) = max d (min (n + x) bd) ∧ s2 + szF (S.drop (q0 + 1)) + (y0) ≤ s + z ∧ (n + x ≤ bd → s2 + szF (S.drop (q0 + 1)) + (y0) = s + z)) ∧ Fm mb wc w' := fun wc w' hP => md_step hb9.2.2.1 kd1 kd2 kT kz kx (Nat.le_trans hdd hxd9.1) hdl wc w' hP
      have hc := fun W9 (hM9 : Ms w0 W9 mb s0' d0' n bd) => hn.2 x1 (Nat.lt_of_le_of_lt hxle hwS.out.1) htx w0 Ax cx W9 mb s0' d0' n bd hsx hM9 hb9.2.2.1 kd1 (le_a kz hb9.1) (Nat.le_trans (Nat.add_le_add_left hxle n) hwS.out.2) kd2 hb9.2.2.2.1
      have ea2 := cell_below hM.out.fr hBl ea
      skip
      have ex2 := cell_below hM.out.fr hBl ex
      have hl := Nat.lt_of_lt_of_le hBl hM.out.fr.size
      generalize x1.len = mx at hc ex2
      replace hfin := Lib.hid hfin
      replace hc := Lib.hid hc
      have hbA : Below wr.heap.size wr (wr.alloc (.cells #[.string k9, .slice Ax mx cx] 50)) := (Below.refl _ wr).alloc (Nat.le_refl _) _
      have bA : Blk (wr.alloc (.cells #[.string k9, .slice Ax mx cx] 50)) wr.heap.size [.string k9, .slice Ax mx cx] 50 := Blk.new wr _ _
      have hMA := Lib.hid (hM.out.below hbA)
      have hSA := Lib.hid (hST.out.trans (Fm.of_below hbA))
      replace bA := Lib.hid bA
      clear hST hrw hrd htd hwd hpd hnx hfd hnx2 kd1 kd2 kT kz kx hxle hdl hsx htx ex ea  hb9 hdd hxd9 hI hM hBl hbA
      go_upto_region 3 with fail
      clear ea2  ex2 hl
      generalize (wr.alloc (.cells #[.string k9, .slice Ax mx cx] 50)) = wA at bA hMA hSA ⊢
      generalize wr.heap.size = y at bA ⊢
      have y1 := bA.out.cell (i := 1) rfl
      have yl := bA.out.lt
      have hc2 := hc.out wA hMA.out
      go_wp2_with fail
      refine hc2.mono ?_
      rintro e w5 ⟨rfl, hP⟩
      obtain ⟨s2, d2, hM2, hI2, hF5⟩ := hfin.out _ w5 hP
      have hSE := Lib.hid (hSA.out.trans hF5)
      replace hM2 := Lib.hid hM2
      replace hI2 := Lib.hid hI2
      clear hc hc2 hP hfin y1 yl bA hMA hF5 hSA
      go_wp2
      go_roundw
      case rel => exact ⟨q0 + 1, s2, d2, by omega, by go_num, hM2, hI2, hSE⟩
      case measure => simp [intOf]; omega
    · skip
      obtain rfl : q0 = mS := by omega
      have hq3 : ¬ (q0 : Int) < (q0 : Int) := by omega
      have hI8 : Hid (n ≤ d0' ∧ d0' ≤ 4194304 ∧ max d0' (min (n + (e0')) bd) = max d (min (n + x) bd) ∧ s0' + (y0) ≤ s + z ∧ (n + x ≤ bd → s0' + (y0) = s + z)) := Lib.hid (by
        have h9 := hI.out
        rw [drop_end S hNS.out.symm] at h9
        simp only [dpF, szF] at h9
        omega)
      have hM8 := hM
      have hS8 := hST
      clear hI hM hlt hST
      obtain ⟨z4, z5, z6, z7, z8, zl⟩ := hcell.out _ hM8.out.fr
      clear z4 z5 z6 z7 z8 zl
      have hJ : Hid (n ≤ d0' ∧ d0' ≤ 4194304 ∧ max d0' (min (n + max (dpF (W)) (e1')) bd) = max d (min (n + x) bd) ∧ s0' + szF (W) + (y1) ≤ s + z ∧ (n + x ≤ bd → s0' + szF (W) + (y1) = s + z)) := Lib.hid (by have g1 := hE0.out; have g2 := hY0.out; have := hI8.out; omega)
      have hq := hwt.out
      have hxd9 := hxd.out
      have hdw := dp_wt W
      obtain ⟨kd1, kd2, kT, kz, kx⟩ := hJ.out
      have kT2 : max d0' (min (n + max (max (dpF W) 0) (e1')) bd) = max d (min (n + x) bd) := by rw [Nat.max_zero]; exact kT
      have hdl : n + dpF W ≤ 4194304 := Nat.le_trans (Nat.add_le_add_left hdw n) hwW.out.2
      have kz2 : s0' + (szF W + 0) + y1 ≤ s + z := kz
      have hc := m_words hn htW.out (Nat.le_of_lt hwW.out.1) hsW.out hM8.out hq.2.2.1 kd1 (le_a kz2 hq.1) hwW.out.2 kd2 hq.2.2.2.1
      rw [hNW.out] at hc
      have hfin : ∀ wc w', MPost w0 wc mb s0' d0' n bd (dpF W) (szF W) w' → ∃ s2 d2, Ms w0 w' mb s2 d2 n bd ∧ (n ≤ d2 ∧ d2 ≤ 4194304 ∧ max d2 (min (n + (e1')) bd) = max d (min (n + x) bd) ∧ s2 + (y1) ≤ s + z ∧ (n + x ≤ bd → s2 + (y1) = s + z)) ∧ Fm mb wc w' := fun wc w' hP => by
        obtain ⟨s2, d2, b1, ⟨b2, b3, b4, b5, b6⟩, b7⟩ := md_step hq.2.2.1 kd1 kd2 kT2 kz2 kx (by rw [Nat.max_zero]; exact hxd9.2.1) hdl wc w' hP
        rw [Nat.zero_max] at b4
        exact ⟨s2, d2, b1, ⟨b2, b3, b4, b5, b6⟩, b7⟩
      replace hfin := Lib.hid hfin
      obtain ⟨z4, z5, z6, z7, z8, zl⟩ := hcell.out _ hM8.out.fr
      clear hJ kd1 kd2 kT kT2 kz kz2 kx hdl hq hdw hxd9 hI8 hM8
      go_wp2_with fail
      refine hc.mono ?_
      rintro e w5 ⟨rfl, hP⟩
      obtain ⟨s2, d2, hM2, hI2, hF5⟩ := hfin.out _ w5 hP
      have hS2 := Lib.hid (hS8.out.trans hF5)
      replace hM2 := Lib.hid hM2
      replace hI2 := Lib.hid hI2
      clear hF5 hS8
      clear hc hP hfin z4 z5 z6 z7 z8 zl
      obtain ⟨z4, z5, z6, z7, z8, zl⟩ := hcell.out _ hM2.out.fr
      go_wp2
      clear z4 z5 z6 z7 z8 zl
      have hJ0 : Hid (n ≤ d2 ∧ d2 ≤ 4194304 ∧ max d2 (min (n + max (dpF (R.drop 0)) (e2')) bd) = max d (min (n + x) bd) ∧ s2 + szF (R.drop 0) + (y2) ≤ s + z ∧ (n + x ≤ bd → s2 + szF (R.drop 0) + (y2) = s + z)) := Lib.hid (by show n ≤ d2 ∧ d2 ≤ 4194304 ∧ max d2 (min (n + max (dpF (R)) (e2')) bd) = max d (min (n + x) bd) ∧ s2 + szF (R) + (y2) ≤ s + z ∧ (n + x ≤ bd → s2 + szF (R) + (y2) = s + z); have g1 := hE1.out; have g2 := hY1.out; have h9 := hI2.out; omega)
      go_loopw [37] (fun iv wr => ∃ q s' d' : Nat, q ≤ mR ∧ iv = .int .i64 (q : Int) ∧ Hid (Ms w0 wr mb s' d' n bd) ∧ Hid (n ≤ d' ∧ d' ≤ 4194304 ∧ max d' (min (n + max (dpF (R.drop q)) (e2')) bd) = max d (min (n + x) bd) ∧ s' + szF (R.drop q) + (y2) ≤ s + z ∧ (n + x ≤ bd → s' + szF (R.drop q) + (y2) = s + z)) ∧ Hid (Fm mb w wr)) (fun iv _ => mR - (intOf iv).toNat)
      case atStart => exact ⟨0, s2, d2, Nat.zero_le _, rfl, hM2, hJ0, hS2⟩
      case round =>
        clear hM2 hJ0 hI2 hS2
        obtain ⟨q2, s2', d2', hq, rfl, hM, hI, hST⟩ := hrel
        by_cases hlt : q2 < mR
        · skip
          have hq1 : (0 : Int) ≤ (q2 : Int) := by omega
          have hq2 : (q2 : Int) < (mR : Int) := by omega
          obtain ⟨B, o, rfl, hBl, hrw⟩ := hsR.out.2.2 (by rw [hNR.out]; omega)
          have hrd := rw_drop q2 htR.out (by rw [hNR.out]; omega) hrw
          have htd := ty_drop q2 htR.out
          have hwd := wt_drop q2 R
          have hpd : 0 < (R.drop q2).len := by rw [drop_len, hNR.out]; omega
          have hnx := drop_tl q2 R
          have hI2 := hI.out
          have hb9 := hwt.out
          have hdd := dpF_drop q2 R
          have hxd9 := hxd.out
          rw [show szT 3 = 3 from rfl] at hrd
          obtain ⟨k8, k9, x1, r1, hfd, _, _, htx, _⟩ := at_redir htd hpd
          rw [hfd] at hrd hnx hI2 hwd hdd
          have hnx2 : r1 = R.drop (q2 + 1) := hnx
          simp only [wt] at hwd
          simp only [dpF, szF] at hI2 hdd
          rw [hnx2] at hI2 hdd
          obtain ⟨ea, eb, ⟨Ax, cx, ex, hsx⟩, _⟩ := rw_redir.1 hrd
          obtain ⟨kd1, kd2, kT, kz, kx⟩ := hI2
          have hxle : wt x1 ≤ wt R := by clear kT kx hdd hxd9 hI kz; omega
          have hdl : n + dpF x1 ≤ 4194304 := by have := dp_wt x1; have := hwR.out.2; clear kT kx hdd hxd9 hI kz hb9; omega
          have hfin : ∀ wc w', MPost w0 wc mb s2' d2' n bd (dpF x1) (szF x1) w' → ∃ s2 d2, Ms w0 w' mb s2 d2 n bd ∧ (n ≤ d2 ∧ d2 ≤ 4194304 ∧ max d2 (min (n + max (dpF (R.drop (q2 + 1))) (e2')) bd) = max d (min (n + x) bd) ∧ s2 + szF (R.drop (q2 + 1)) + (y2) ≤ s + z ∧ (n + x ≤ bd → s2 + szF (R.drop (q2 + 1)) + (y2) = s + z)) ∧ Fm mb wc w' := fun wc w' hP => md_step hb9.2.2.1 kd1 kd2 kT kz kx (Nat.le_trans hdd hxd9.2.2.1) hdl wc w' hP
          have hc := fun W9 (hM9 : Ms w0 W9 mb s2' d2' n bd) => hn.2 x1 (Nat.lt_of_le_of_lt hxle hwR.out.1) htx w0 Ax cx W9 mb s2' d2' n bd hsx hM9 hb9.2.2.1 kd1 (le_a kz hb9.1) (Nat.le_trans (Nat.add_le_add_left hxle n) hwR.out.2) kd2 hb9.2.2.2.1
          have ea2 := cell_below hM.out.fr hBl ea
          have eb2 := cell_below hM.out.fr hBl eb
          have ex2 := cell_below hM.out.fr hBl ex
          have hl := Nat.lt_of_lt_of_le hBl hM.out.fr.size
          generalize x1.len = mx at hc ex2
          replace hfin := Lib.hid hfin
          replace hc := Lib.hid hc
          have hbA : Below wr.heap.size wr (wr.alloc (.cells #[.int .i64 k8, .int .i64 k9, .slice Ax mx cx] 69)) := (Below.refl _ wr).alloc (Nat.le_refl _) _
          have bA : Blk (wr.alloc (.cells #[.int .i64 k8, .int .i64 k9, .slice Ax mx cx] 69)) wr.heap.size [.int .i64 k8, .int .i64 k9, .slice Ax mx cx] 69 := Blk.new wr _ _
          have hMA := Lib.hid (hM.out.below hbA)
          have hSA := Lib.hid (hST.out.trans (Fm.of_below hbA))
          replace bA := Lib.hid bA
          clear hST hrw hrd htd hwd hpd hnx hfd hnx2 kd1 kd2 kT kz kx hxle hdl hsx htx ex ea eb hb9 hdd hxd9 hI hM hBl hbA
          go_upto_region 9 with fail
          clear ea2 eb2 ex2 hl
          generalize (wr.alloc (.cells #[.int .i64 k8, .int .i64 k9, .slice Ax mx cx] 69)) = wA at bA hMA hSA ⊢
          generalize wr.heap.size = y at bA ⊢
          have y1 := bA.out.cell (i := 2) rfl
          have yl := bA.out.lt
          have hc2 := hc.out wA hMA.out
          go_wp2_with fail
          refine hc2.mono ?_
          rintro e w5 ⟨rfl, hP⟩
          obtain ⟨s2, d2, hM2, hI2, hF5⟩ := hfin.out _ w5 hP
          have hSE := Lib.hid (hSA.out.trans hF5)
          replace hM2 := Lib.hid hM2
          replace hI2 := Lib.hid hI2
          clear hc hc2 hP hfin y1 yl bA hMA hF5 hSA
          go_wp2
          go_roundw
          case rel => exact ⟨q2 + 1, s2, d2, by omega, by go_num, hM2, hI2, hSE⟩
          case measure => simp [intOf]; omega
        · skip
          obtain rfl : q2 = mR := by omega
          have hq3 : ¬ (q2 : Int) < (q2 : Int) := by omega
          have hI8 : Hid (n ≤ d2' ∧ d2' ≤ 4194304 ∧ max d2' (min (n + (e2')) bd) = max d (min (n + x) bd) ∧ s2' + (y2) ≤ s + z ∧ (n + x ≤ bd → s2' + (y2) = s + z)) := Lib.hid (by
            have h9 := hI.out
            rw [drop_end R hNR.out.symm] at h9
            simp only [dpF, szF] at h9
            omega)
          have hM8 := hM
          have hS8 := hST
          clear hI hM hlt hST
          obtain ⟨z4, z5, z6, z7, z8, zl⟩ := hcell.out _ hM8.out.fr
          go_wp2
          clear z4 z5 z6 z7 z8 zl hq3
          have hJ0 : Hid (n ≤ d2' ∧ d2' ≤ 4194304 ∧ max d2' (min (n + max (dpF (L.drop 0)) (e3')) bd) = max d (min (n + x) bd) ∧ s2' + szF (L.drop 0) + (y3) ≤ s + z ∧ (n + x ≤ bd → s2' + szF (L.drop 0) + (y3) = s + z)) := Lib.hid (by show n ≤ d2' ∧ d2' ≤ 4194304 ∧ max d2' (min (n + max (dpF (L)) (e3')) bd) = max d (min (n + x) bd) ∧ s2' + szF (L) + (y3) ≤ s + z ∧ (n + x ≤ bd → s2' + szF (L) + (y3) = s + z); have g1 := hE2.out; have g2 := hY2.out; have h9 := hI8.out; omega)
          go_loopw [51] (fun iv wr => ∃ q s' d' : Nat, q ≤ mL ∧ iv = .int .i64 (q : Int) ∧ Hid (Ms w0 wr mb s' d' n bd) ∧ Hid (n ≤ d' ∧ d' ≤ 4194304 ∧ max d' (min (n + max (dpF (L.drop q)) (e3')) bd) = max d (min (n + x) bd) ∧ s' + szF (L.drop q) + (y3) ≤ s + z ∧ (n + x ≤ bd → s' + szF (L.drop q) + (y3) = s + z)) ∧ Hid (Fm mb w wr)) (fun iv _ => mL - (intOf iv).toNat)
          case atStart => exact ⟨0, s2', d2', Nat.zero_le _, rfl, hM8, hJ0, hS8⟩
          case round =>
            clear hM8 hJ0 hI8 hS8
            obtain ⟨q3, s3', d3', hq, rfl, hM, hI, hST⟩ := hrel
            by_cases hlt : q3 < mL
            · skip
              have hq1 : (0 : Int) ≤ (q3 : Int) := by omega
              have hq2 : (q3 : Int) < (mL : Int) := by omega
              obtain ⟨B, o, rfl, hBl, hrw⟩ := hsL.out.2.2 (by rw [hNL.out]; omega)
              have hrd := rw_drop q3 htL.out (by rw [hNL.out]; omega) hrw
              have htd := ty_drop q3 htL.out
              have hwd := wt_drop q3 L
              have hpd : 0 < (L.drop q3).len := by rw [drop_len, hNL.out]; omega
              have hnx := drop_tl q3 L
              have hI2 := hI.out
              have hb9 := hwt.out
              have hdd := dpF_drop q3 L
              have hxd9 := hxd.out
              rw [show szT 6 = 1 from rfl, Nat.mul_one] at hrd
              obtain ⟨x1, r1, hfd, htx, _⟩ := at_list htd hpd
              rw [hfd] at hrd hnx hI2 hwd hdd
              have hnx2 : r1 = L.drop (q3 + 1) := hnx
              simp only [wt] at hwd
              simp only [dpF, szF] at hI2 hdd
              rw [hnx2] at hI2 hdd
              obtain ⟨⟨Ax, cx, ex, hsx⟩, _⟩ := rw_row.1 hrd
              obtain ⟨kd1, kd2, kT, kz, kx⟩ := hI2
              have hxle : wt x1 ≤ wt L := by clear kT kx hdd hxd9 hI kz; omega
              have hdl : n + dpF x1 ≤ 4194304 := by have := dp_wt x1; have := hwL.out.2; clear kT kx hdd hxd9 hI kz hb9; omega
              have hfin : ∀ wc w', MPost w0 wc mb s3' d3' n bd (dpF x1) (szF x1) w' → ∃ s2 d2, Ms w0 w' mb s2 d2 n bd ∧ (n ≤ d2 ∧ d2 ≤ 4194304 ∧ max d2 (min (n + max (dpF (L.drop (q3 + 1))) (e3')) bd) = max d (min (n + x) bd) ∧ s2 + szF (L.drop (q3 + 1)) + (y3) ≤ s + z ∧ (n + x ≤ bd → s2 + szF (L.drop (q3 + 1)) + (y3) = s + z)) ∧ Fm mb wc w' := fun wc w' hP => md_step hb9.2.2.1 kd1 kd2 kT kz kx (Nat.le_trans hdd hxd9.2.2.2.1) hdl wc w' hP
              have hc := hn.1 x1 (Nat.lt_of_le_of_lt hxle hwL.out.1) htx w0 Ax cx wr mb s3' d3' n bd hsx hM.out hb9.2.2.1 kd1 (le_a kz hb9.1) (Nat.le_trans (Nat.add_le_add_left hxle n) hwL.out.2) kd2 hb9.2.2.2.1
              have ex2 := cell_below hM.out.fr hBl ex
              have hl := Nat.lt_of_lt_of_le hBl hM.out.fr.size
              generalize x1.len = mx at hc ex2
              replace hfin := Lib.hid hfin
              clear hrw hrd htd hwd hpd hnx hfd hnx2 kd1 kd2 kT kz kx hxle hdl hsx htx ex hb9 hdd hxd9 hI hM hBl
              go_wp2_with fail
              refine hc.mono ?_
              rintro e w5 ⟨rfl, hP⟩
              obtain ⟨s2, d2, hM2, hI2, hF5⟩ := hfin.out _ w5 hP
              have hSE := Lib.hid (hST.out.trans hF5)
              replace hM2 := Lib.hid hM2
              replace hI2 := Lib.hid hI2
              clear hc hP hfin ex2 hl hF5 hST
              go_wp2
              go_roundw
              case rel => exact ⟨q3 + 1, s2, d2, by omega, by go_num, hM2, hI2, hSE⟩
              case measure => simp [intOf]; omega
            · skip
              obtain rfl : q3 = mL := by omega
              have hq3 : ¬ (q3 : Int) < (q3 : Int) := by omega
              have hI8 : Hid (n ≤ d3' ∧ d3' ≤ 4194304 ∧ max d3' (min (n + (e3')) bd) = max d (min (n + x) bd) ∧ s3' + (y3) ≤ s + z ∧ (n + x ≤ bd → s3' + (y3) = s + z)) := Lib.hid (by
                have h9 := hI.out
                rw [drop_end L hNL.out.symm] at h9
                simp only [dpF, szF] at h9
                omega)
              have hM8 := hM
              have hS8 := hST
              clear hI hM hlt hST
              obtain ⟨z4, z5, z6, z7, z8, zl⟩ := hcell.out _ hM8.out.fr
              go_wp2
              clear z4 z5 z6 z7 z8 zl hq3
              have hJ0 : Hid (n ≤ d3' ∧ d3' ≤ 4194304 ∧ max d3' (min (n + max (dpF (C.drop 0)) (0)) bd) = max d (min (n + x) bd) ∧ s3' + szF (C.drop 0) + (0) ≤ s + z ∧ (n + x ≤ bd → s3' + szF (C.drop 0) + (0) = s + z)) := Lib.hid (by show n ≤ d3' ∧ d3' ≤ 4194304 ∧ max d3' (min (n + max (dpF (C)) (0)) bd) = max d (min (n + x) bd) ∧ s3' + szF (C) + (0) ≤ s + z ∧ (n + x ≤ bd → s3' + szF (C) + (0) = s + z); have g1 := hE3.out; have g2 := hY3.out; have h9 := hI8.out; omega)
              go_loopw [64] (fun iv wr => ∃ q s' d' : Nat, q ≤ mC ∧ iv = .int .i64 (q : Int) ∧ Hid (Ms w0 wr mb s' d' n bd) ∧ Hid (n ≤ d' ∧ d' ≤ 4194304 ∧ max d' (min (n + max (dpF (C.drop q)) (0)) bd) = max d (min (n + x) bd) ∧ s' + szF (C.drop q) + (0) ≤ s + z ∧ (n + x ≤ bd → s' + szF (C.drop q) + (0) = s + z)) ∧ Hid (Fm mb w wr)) (fun iv _ => mC - (intOf iv).toNat)
              case atStart => exact ⟨0, s3', d3', Nat.zero_le _, rfl, hM8, hJ0, hS8⟩
              case round =>
                clear hM8 hJ0 hI8 hS8
                obtain ⟨q4, s4', d4', hq, rfl, hM, hI, hST⟩ := hrel
                by_cases hlt : q4 < mC
                · skip
                  have hq1 : (0 : Int) ≤ (q4 : Int) := by omega
                  have hq2 : (q4 : Int) < (mC : Int) := by omega
                  obtain ⟨B, o, rfl, hBl, hrw⟩ := hsC.out.2.2 (by rw [hNC.out]; omega)
                  have hrd := rw_drop q4 htC.out (by rw [hNC.out]; omega) hrw
                  have htd := ty_drop q4 htC.out
                  have hwd := wt_drop q4 C
                  have hpd : 0 < (C.drop q4).len := by rw [drop_len, hNC.out]; omega
                  have hnx := drop_tl q4 C
                  have hI2 := hI.out
                  have hb9 := hwt.out
                  have hdd := dpF_drop q4 C
                  have hxd9 := hxd.out
                  rw [show szT 4 = 2 from rfl] at hrd
                  obtain ⟨W1, Y1, r1, hfd, htW1, htY1, _⟩ := at_case htd hpd
                  rw [hfd] at hrd hnx hI2 hwd hdd
                  have hnx2 : r1 = C.drop (q4 + 1) := hnx
                  simp only [wt] at hwd
                  simp only [dpF, szF] at hI2 hdd
                  rw [hnx2] at hI2 hdd
                  obtain ⟨⟨Ax, cx, ex, hsx⟩, ⟨Ay, cy, ey, hsy⟩, _⟩ := rw_case.1 hrd
                  obtain ⟨kd1, kd2, kT, kz, kx⟩ := hI2
                  have hxle : wt W1 + wt Y1 ≤ wt C := by clear kT kx hdd hxd9 hI kz; omega
                  have hdx := dp_wt W1
                  have hdy := dp_wt Y1
                  have hwX := hwC.out
                  have hdl : n + max (dpF W1) (dpF Y1) ≤ 4194304 := by clear kT kx hdd hxd9 hI kz hb9; omega
                  have kz2 : s4' + szF W1 + szF Y1 ≤ 4194304 := by have := hb9.1; clear kT kx hdd hxd9 hI hdl; omega
                  have hfin : ∀ wc w', MPost w0 wc mb s4' d4' n bd (max (dpF W1) (dpF Y1)) (szF W1 + szF Y1) w' → ∃ s2 d2, Ms w0 w' mb s2 d2 n bd ∧ (n ≤ d2 ∧ d2 ≤ 4194304 ∧ max d2 (min (n + max (dpF (C.drop (q4 + 1))) (0)) bd) = max d (min (n + x) bd) ∧ s2 + szF (C.drop (q4 + 1)) + (0) ≤ s + z ∧ (n + x ≤ bd → s2 + szF (C.drop (q4 + 1)) + (0) = s + z)) ∧ Fm mb wc w' := fun wc w' hP => md_step hb9.2.2.1 kd1 kd2 kT kz kx (Nat.le_trans hdd hxd9.2.2.2.2) hdl wc w' hP
                  have hc := fun W9 (hM9 : Ms w0 W9 mb s4' d4' n bd) => m_words hn htW1 (by clear kT kx hdd hxd9 hI hdl kz hb9; omega) hsx hM9 hb9.2.2.1 kd1 (Nat.le_trans (Nat.le_add_right _ _) kz2) (by clear kT kx hdd hxd9 hI hdl kz hb9; omega) kd2 hb9.2.2.2.1
                  have hd3 : max d4' (min (n + dpF W1) bd) ≤ 4194304 := by clear kT kx hdd hxd9 hI kz hb9; omega
                  have hn3 : n ≤ max d4' (min (n + dpF W1) bd) := Nat.le_trans kd1 (Nat.le_max_left _ _)
                  have hc3 := fun W9 s3 (hM9 : Ms w0 W9 mb s3 (max d4' (min (n + dpF W1) bd)) n bd) (b1 : s3 ≤ s4' + szF W1) => hn.1 Y1 (by clear kT kx hdd hxd9 hI hdl kz hb9; omega) htY1 w0 Ay cy W9 mb s3 _ n bd hsy hM9 hb9.2.2.1 hn3 (Nat.le_trans (Nat.add_le_add_right b1 _) kz2) (by clear kT kx hdd hxd9 hI hdl kz hb9; omega) hd3 hb9.2.2.2.1
                  have hfin2 : ∀ s3 wc wd w', s3 ≤ s4' + szF W1 → (n + dpF W1 ≤ bd → s3 = s4' + szF W1) → Fm mb wc wd → MPost w0 wd mb s3 (max d4' (min (n + dpF W1) bd)) n bd (dpF Y1) (szF Y1) w' → ∃ s2 d2, Ms w0 w' mb s2 d2 n bd ∧ (n ≤ d2 ∧ d2 ≤ 4194304 ∧ max d2 (min (n + max (dpF (C.drop (q4 + 1))) (0)) bd) = max d (min (n + x) bd) ∧ s2 + szF (C.drop (q4 + 1)) + (0) ≤ s + z ∧ (n + x ≤ bd → s2 + szF (C.drop (q4 + 1)) + (0) = s + z)) ∧ Fm mb wc w' := fun s3 wc wd w' c2 c3 c4 hP => hfin wc w' (md_two hb9.2.2.1 kd1 c2 c3 c4 hP)
                  have ex2 := cell_below hM.out.fr hBl ex
                  have ey2 := cell_below hM.out.fr hBl ey
                  have hl := Nat.lt_of_lt_of_le hBl hM.out.fr.size
                  generalize W1.len = mx at hc ex2
                  generalize Y1.len = my at hc3 ey2
                  replace hfin2 := Lib.hid hfin2
                  replace hc := Lib.hid hc
                  replace hc3 := Lib.hid hc3
                  have hbA : Below wr.heap.size wr (wr.alloc (.cells #[.slice Ax mx cx, .slice Ay my cy] 45)) := (Below.refl _ wr).alloc (Nat.le_refl _) _
                  have bA : Blk (wr.alloc (.cells #[.slice Ax mx cx, .slice Ay my cy] 45)) wr.heap.size [.slice Ax mx cx, .slice Ay my cy] 45 := Blk.new wr _ _
                  have hMA := Lib.hid (hM.out.below hbA)
                  have hSA := Lib.hid (hST.out.trans (Fm.of_below hbA))
                  clear hST
                  have hyne : Hid (wr.heap.size ≠ mb) := Lib.hid (by have := hM.out.blk.lt; omega)
                  replace bA := Lib.hid bA
                  clear hrw hrd htd hwd hpd hnx hfd hnx2 kd1 kd2 kT kz kx kz2 hxle hdl hd3 hn3 hwX hfin hsx hsy htW1 htY1 ex ey hb9 hdd hxd9 hI hM hdx hdy hBl hbA
                  go_upto_region 19 with fail
                  clear ex2 ey2 hl
                  generalize (wr.alloc (.cells #[.slice Ax mx cx, .slice Ay my cy] 45)) = wA at bA hMA hSA ⊢
                  generalize wr.heap.size = y at bA hyne ⊢
                  have y0 := bA.out.cell (i := 0) rfl
                  have yl := bA.out.lt
                  have hc2 := hc.out wA hMA.out
                  go_wp2_with fail
                  refine hc2.mono ?_
                  rintro e w5 ⟨rfl, hP⟩
                  obtain ⟨s3, hM3, c2, c3, c4⟩ := hP
                  have bA5 : Blk w5 y [.slice Ax mx cx, .slice Ay my cy] 45 := (c4.2 y bA.out.lt hyne.out).trans bA.out
                  have hcy := hc3.out w5 s3 hM3 c2
                  have hf2 := Lib.hid (fun w' => hfin2.out s3 wA w5 w' c2 c3 c4)
                  clear y0 yl hc hc2 hc3 hfin2 c2 c3 c4 bA hM3 hMA hyne
                  have y1 := bA5.cell (i := 1) rfl
                  have yl := bA5.lt
                  go_wp2_with fail
                  refine hcy.mono ?_
                  rintro e w6 ⟨rfl, hP⟩
                  obtain ⟨s2, d2, hM2, hI2, hF5⟩ := hf2.out w6 hP
                  have hSE := Lib.hid (hSA.out.trans hF5)
                  replace hM2 := Lib.hid hM2
                  replace hI2 := Lib.hid hI2
                  clear hcy hP hf2 y1 yl bA5 hF5 hSA
                  go_wp2
                  go_roundw
                  case rel => exact ⟨q4 + 1, s2, d2, by omega, by go_num, hM2, hI2, hSE⟩
                  case measure => simp [intOf]; omega
                · skip
                  obtain rfl : q4 = mC := by omega
                  have hq3 : ¬ (q4 : Int) < (q4 : Int) := by omega
                  have hfin : MPost w0 w mb s d n bd x z wr := by
                    have h9 := hI.out
                    rw [drop_end C hNC.out.symm] at h9
                    simp only [dpF, szF] at h9
                    have hb9 := hwt.out
                    refine ⟨s4', ?_, by omega, by omega, hST.out⟩
                    have h8 := hM.out
                    rw [show max d (min (n + x) bd) = d4' by omega]
                    exact h8
                  replace hfin := Lib.hid hfin
                  clear hI hM hST
                  go_wp2
                  exact bodyPost_end (v := .tuple #[]) (results_none rfl _ _ _) rfl ⟨rfl, hfin.out⟩
end
end Go.Proofs.YtmchfoedjajbdaaGreat
/-
  trees.measured, Size and Deep: how many commands and pieces, and how deep. Conditions: not too great.
-/
set_option linter.unusedSimpArgs false
set_option linter.unusedVariables false
namespace Go.Proofs.YtmchfoedjajbdaaGreat
open Go Go.RowKit Go.ChangeMaps

theorem el_step {w0 : World} {mb n bd x s z d0 d' s' a rest az rz : Nat} (h1 : n + 1 ≤ bd) (hd : n + 1 ≤ d') (h5 : d' ≤ 4194304) (hT : max d' (min (n + max (1 + a) rest) bd) = max d0 (min (n + x) bd)) (hz : s' + (1 + az + rz) ≤ s + z) (hx : n + x ≤ bd → s' + (1 + az + rz) = s + z) (ha : max (1 + a) rest ≤ x) (hn : n + 1 + a ≤ 4194304) (wc w' : World) (hP : MPost w0 wc mb (s' + 1) d' (n + 1) bd a az w') :
    ∃ s2 d2, Ms w0 w' mb s2 d2 (n + 1) bd ∧ (n + 1 ≤ d2 ∧ d2 ≤ 4194304 ∧ max d2 (min (n + rest) bd) = max d0 (min (n + x) bd) ∧ s2 + rz ≤ s + z ∧ (n + x ≤ bd → s2 + rz = s + z)) ∧ Fm mb wc w' := by
  obtain ⟨s2, a1, a2, a3, a4⟩ := hP
  exact ⟨s2, _, a1, ⟨by omega, by omega, by rw [← hT]; omega, by omega, fun h => by have := hx h; have := a3 (by omega); omega⟩, a4⟩
section
variable {n0 : Nat} {w0 w : World} {A : Option Addr} {c0 mb s d n bd : Nat} {f g : F}
set_option maxRecDepth 100000 in
set_option maxHeartbeats 8000000 in
theorem m_inPiece {B0 o0 : Nat} (hn : MOk n0) (ht : Ty g 1) (hp : 0 < g.len) (hw : wt g ≤ n0) (hr : Rw w0 g B0 o0) (hB : B0 < w0.heap.size) (hM : Ms w0 w mb s d n bd) (h1 : n ≤ bd) (h2 : n ≤ d) (h3 : s + inZ g ≤ 4194304) (h4 : n + wt g ≤ 4194305) (h5 : d ≤ 4194304) (h6 : bd ≤ 9223372036854775807) :
    Calls Tryz.prog 129 #[(.pointer (some ⟨mb, 0, none⟩)), .pointer (some ⟨B0, o0, none⟩)] w fun e w' => e = .returned (.tuple #[]) ∧ MPost w0 w mb s d n bd (inD g) (inZ g) w' := by
  obtain ⟨k, t, p, c, K, Y, r, rfl, _, _, htK, htY, _⟩ := at_piece ht hp
  obtain ⟨_, _, _, _, ⟨AK, cK, e4, hsK⟩, ⟨AY, cY, e5, hsY⟩, _⟩ := rw_piece.1 hr
  show Calls _ _ _ _ (fun e w' => _ ∧ MPost w0 w mb s d n bd (max (dpF K) (dpF Y)) (szF K + szF Y) w')
  have h3 : s + (szF K + szF Y) ≤ 4194304 := h3
  simp only [wt] at hw h4
  have hdK := dp_wt K
  have hdY := dp_wt Y
  have hc := fun W9 (hM9 : Ms w0 W9 mb s d n bd) => hn.2 K (by omega) htK w0 AK cK W9 mb s d n bd hsK hM9 h1 h2 (by omega) (by omega) h5 h6
  have hc2 := fun W9 s3 (hM9 : Ms w0 W9 mb s3 (max d (min (n + dpF K) bd)) n bd) (b1 : s3 ≤ s + szF K) => hn.1 Y (by omega) htY w0 AY cY W9 mb s3 _ n bd hsY hM9 h1 (by omega) (by omega) (by omega) (by omega) h6
  have hcell := fun W9 (hb : Below w0.heap.size w0 W9) => (⟨cell_below hb hB e4, cell_below hb hB e5, Nat.lt_of_lt_of_le hB hb.size⟩ : W9.cell? ⟨B0, o0 + 4, none⟩ = some (.slice AK K.len cK) ∧ W9.cell? ⟨B0, o0 + 5, none⟩ = some (.slice AY Y.len cY) ∧ B0 < W9.heap.size)
  have htwo := fun (s3 : Nat) (wd w' : World) (c2 : s3 ≤ s + szF K) (c3 : n + dpF K ≤ bd → s3 = s + szF K) (c4 : Fm mb w wd) (hP : MPost w0 wd mb s3 (max d (min (n + dpF K) bd)) n bd (dpF Y) (szF Y) w') => md_two h1 h2 c2 c3 c4 hP
  generalize K.len = mK at hc hcell
  generalize Y.len = mY at hc2 hcell
  generalize max (dpF K) (dpF Y) = x at htwo ⊢
  generalize szF K + szF Y = z at htwo ⊢
  obtain ⟨z4, z5, zl⟩ := hcell w hM.fr
  have hc1 := hc w hM
  replace htwo := Lib.hid htwo
  replace hcell := Lib.hid hcell
  replace hc2 := Lib.hid hc2
  clear hc hM h1 h2 h3 h4 h5 h6 hw hr hB e4 e5 hsK hsY hdK hdY ht hp
  go_enter Tryz.func129, Tryz.ntmps129
  go_wp2_with fail
  refine hc1.mono ?_
  rintro e w5 ⟨rfl, hP⟩
  obtain ⟨s3, hM3, c2, c3, c4⟩ := hP
  have hcy := hc2.out w5 s3 hM3 c2
  have hf2 := Lib.hid (fun w' hP => htwo.out s3 w5 w' c2 c3 c4 hP)
  have hfr := hM3.fr
  clear z4 z5 zl hc1 hc2 c2 c3 c4 hM3 htwo
  obtain ⟨z4, z5, zl⟩ := hcell.out w5 hfr
  clear hfr
  go_wp2_with fail
  refine hcy.mono ?_
  rintro e w6 ⟨rfl, hP⟩
  have hfin := Lib.hid (hf2.out w6 hP)
  clear hcy hP hf2 z4 z5 zl
  go_wp2
  exact bodyPost_end (v := .tuple #[]) (results_none rfl _ _ _) rfl ⟨rfl, hfin.out⟩
set_option maxRecDepth 100000 in
set_option maxHeartbeats 8000000 in
theorem m_eachN (hn : MOk n0) (ht : Ty f 0) (hw : wt f ≤ n0) (hs : Slc w0 A c0 f) (hM : Ms w0 w mb s d n bd) (h1 : n ≤ bd) (h2 : n ≤ d) (h3 : s + szF f ≤ 4194304) (h4 : n + wt f ≤ 4194304) (h5 : d ≤ 4194304) (h6 : bd ≤ 9223372036854775807) :
    Calls Tryz.prog 60 #[(.pointer (some ⟨mb, 0, none⟩)), .slice A f.len c0, .func (.func 61) #[(.pointer (some ⟨mb, 0, none⟩))] #[]] w fun e w' => e = .returned (.tuple #[]) ∧ MPost w0 w mb s d n bd (dpF f) (szF f) w' := by
  have hm := hs.1
  have hcm := hs.2.1
  unfold maxLen at hcm
  have hdw := dp_wt f
  have h0 := dp0 f
  obtain ⟨N, hN⟩ : ∃ N, f.len = N := ⟨_, rfl⟩
  rw [hN] at hm ⊢
  obtain ⟨x, hx⟩ : ∃ x, dpF f = x := ⟨_, rfl⟩
  obtain ⟨z, hz⟩ : ∃ z, szF f = z := ⟨_, rfl⟩
  rw [hx, hz]
  rw [hx] at hdw h0
  rw [hz] at h3 h0
  have q0 := hM.blk.cell (i := 0) rfl
  have q1 := hM.blk.cell (i := 1) rfl
  have q2 := hM.blk.cell (i := 2) rfl
  have q3 := hM.blk.cell (i := 3) rfl
  have yl := hM.blk.lt
  have f2 := hM.blk.frozen 2
  by_cases hnb : n = bd
  · subst hnb
    have e1 : ((n : Int) == (n : Int)) = true := beq_self_eq_true _
    have hfin := Lib.hid (fun nq => (⟨s, by rw [show max d (min (n + x) n) = d by omega]; exact hM.below (drewN_below w nq), by omega, fun h => by have := h0 (by omega); omega, Fm.of_below (drewN_below w nq)⟩ : MPost w0 w mb s d n n x z (w.drewN nq)))
    clear hM hs h0 hx hz hdw h1 h2 h3 h4 h5 ht hw
    go_enter Tryz.func60, Tryz.ntmps60
    go_upto_region 0 with fail
    go_quiet (fail)
    clear q0 q1 q2 q3 yl f2
    go_wp2
    exact bodyPost_ret (v := .tuple #[]) (results_none rfl _ _ _) rfl ⟨rfl, hfin.out _⟩
  · have e1 : ((n : Int) == (bd : Int)) = false := beq_eq_false_iff_ne.2 (by omega)
    by_cases hN0 : N = 0
    · subst hN0
      obtain rfl := len0 hN
      have hx0 : x = 0 := hx.symm
      have hz0 : z = 0 := hz.symm
      subst hx0 hz0
      have hfin := Lib.hid (fun nq => (⟨s, by rw [show max d (min (n + 0) bd) = d by omega]; exact hM.below (drewN_below w nq), by omega, fun h => by omega, Fm.of_below (drewN_below w nq)⟩ : MPost w0 w mb s d n bd 0 0 (w.drewN nq)))
      clear hM hs h0 hdw h1 h2 h3 h4 h5 ht hw hx hz
      go_enter Tryz.func60, Tryz.ntmps60
      go_upto_region 0 with fail
      go_quiet (fail)
      clear q0 q1 q2 q3 yl f2
      go_wp2
      exact bodyPost_ret (v := .tuple #[]) (results_none rfl _ _ _) rfl ⟨rfl, hfin.out _⟩
    · have e2 : ((N : Int) == 0) = false := beq_eq_false_iff_ne.2 (by omega)
      have hp0 : 0 < f.len := by rw [hN]; omega
      have hin0 := in_tl ht (.inl rfl) hp0
      have hx1 : 1 ≤ x := by omega
      have hnb2 : n < bd := by omega
      have hn1 : IntKind.i64.wrap ((n : Int) + 1) = (n : Int) + 1 := by rw [IntKind.wrap_i64]; omega
      have hM1 := fun nq => (hM.below (drewN_below w nq)).setN (n + 1)
      have hF1 := fun nq => (Fm.of_below (mb := mb) (drewN_below w nq)).trans (Fm.set mb (w.drewN nq) 2 (.int .i64 ((n + 1 : Nat) : Int)))
      have hB9 : Hid (n + 1 ≤ bd ∧ s + z ≤ 4194304 ∧ n + wt f ≤ 4194304 ∧ bd ≤ 9223372036854775807 ∧ wt f ≤ n0 ∧ n ≤ d ∧ d ≤ 4194304) := Lib.hid ⟨hnb2, h3, h4, h6, hw, h2, h5⟩
      have hxd : Hid (dpF f ≤ x ∧ dpF f = x ∧ szF f = z ∧ 1 ≤ x) := Lib.hid ⟨Nat.le_of_eq hx, hx, hz, hx1⟩
      replace hs := Lib.hid hs
      replace ht := Lib.hid ht
      replace hN := Lib.hid hN
      replace hM1 := Lib.hid hM1
      replace hF1 := Lib.hid hF1
      have hcast : ((n + 1 : Nat) : Int) = (n : Int) + 1 := by omega
      rw [hcast] at hM1 hF1
      replace hcast := Lib.hid hcast
      have hd0 : (d : Int) ≤ 4194304 := by omega
      clear h0 hx hz hdw h1 h2 h3 h4 h5 hw hin0 hp0 hM hx1 hnb2
      go_enter Tryz.func60, Tryz.ntmps60
      go_upto_region 0 with fail
      replace hn1 := Lib.hid hn1
      replace hd0 := Lib.hid hd0
      go_quiet (fail)
      replace hn1 := hn1.out
      go_upto_region 2 with fail
      have hM2 := hM1.out nq
      have hF2 := hF1.out nq
      clear q0 q1 q2 q3 yl f2 hM1 hF1 hn1
      generalize (w.drewN nq).setCell ⟨mb, 2, none⟩ (.int .i64 ((n : Int) + 1)) = w1 at hM2 hF2 ⊢
      have q1 := hM2.blk.cell (i := 1) rfl
      have q2 := hM2.blk.cell (i := 2) rfl
      have yl := hM2.blk.lt
      have f1 := hM2.blk.frozen 1
      rw [hcast.out] at q2
      replace hM2 := Lib.hid hM2
      replace hF2 := Lib.hid hF2
      clear e1 e2
      go_still_tail 12, (by kernel_rfl)
      change wpList _ _ _ _ _ (w1.drewN 1)
      obtain ⟨d1, hd1⟩ : ∃ d1, max d (n + 1) = d1 := ⟨_, rfl⟩
      have hif : (if (d : Int) < (n : Int) + 1 then (n : Int) + 1 else (d : Int)) = (d1 : Int) := by split <;> omega
      rw [hif]
      have hM3 := Lib.hid ((hM2.out.below (drewN_below w1 1)).setD d1)
      have hF3 := Lib.hid ((hF2.out.trans (Fm.of_below (mb := mb) (drewN_below w1 1))).trans (Fm.set mb (w1.drewN 1) 1 (.int .i64 (d1 : Int))))
      have hI3 : Hid (n + 1 ≤ d1 ∧ d1 ≤ 4194304 ∧ max d1 (min (n + dpF (f.drop 0)) bd) = max d (min (n + x) bd) ∧ s + szF (f.drop 0) ≤ s + z ∧ (n + x ≤ bd → s + szF (f.drop 0) = s + z)) := Lib.hid (by
        show n + 1 ≤ d1 ∧ d1 ≤ 4194304 ∧ max d1 (min (n + dpF f) bd) = max d (min (n + x) bd) ∧ s + szF f ≤ s + z ∧ (n + x ≤ bd → s + szF f = s + z)
        have k1 := hxd.out
        have k2 := hB9.out
        have k3 := dp_wt f
        rw [k1.2.1] at k3 ⊢
        rw [k1.2.2.1]
        refine ⟨by omega, by omega, by omega, Nat.le_refl _, fun _ => rfl⟩)
      clear hif hd1 hM2 hF2
      go_wp2_with fail
      clear q1 q2 yl f1
      generalize (w1.drewN 1).setCell ⟨mb, 1, none⟩ (.int .i64 (d1 : Int)) = w3 at hM3 hF3 ⊢
      go_loopw [42] (fun iv wr => ∃ q s' d' : Nat, q ≤ N ∧ iv = .int .i64 (q : Int) ∧ Hid (Ms w0 wr mb s' d' (n + 1) bd) ∧ Hid (n + 1 ≤ d' ∧ d' ≤ 4194304 ∧ max d' (min (n + dpF (f.drop q)) bd) = max d (min (n + x) bd) ∧ s' + szF (f.drop q) ≤ s + z ∧ (n + x ≤ bd → s' + szF (f.drop q) = s + z)) ∧ Hid (Fm mb w wr)) (fun iv _ => N - (intOf iv).toNat)
      case atStart => exact ⟨0, s, d1, Nat.zero_le _, rfl, hM3, hI3, hF3⟩
      case round =>
        clear hM3 hI3 hF3
        obtain ⟨q, s', d', hq, rfl, hM, hI, hST⟩ := hrel
        by_cases hlt : q < N
        · have hq1 : (0 : Int) ≤ (q : Int) := by omega
          have hq2 : (q : Int) < (N : Int) := by omega
          obtain ⟨B, o, rfl, hBl, hrw⟩ := hs.out.2.2 (by rw [hN.out]; omega)
          have hrd := rw_drop q ht.out (by rw [hN.out]; omega) hrw
          rw [show szT 0 = 9 from rfl] at hrd
          have htd := ty_drop q ht.out
          have hwd := wt_drop q f
          have hpd : 0 < (f.drop q).len := by rw [drop_len, hN.out]; omega
          have hnx : (f.drop q).tl = f.drop (q + 1) := drop_tl q f
          obtain ⟨hi1, hi2, hi3, hi4⟩ := in_tl htd (.inl rfl) hpd
          rw [hnx] at hi1 hi2
          have hb9 := hB9.out
          have hdd := Nat.le_trans (dpF_drop q f) hxd.out.1
          have hI2 := hI.out
          rw [hi1, hi2] at hI2
          rw [hi1] at hdd
          obtain ⟨k1, k2, k3, k4, k5⟩ := hI2
          have hs9 : s' + 1 + inZ (f.drop q) ≤ 4194304 := by clear k3 k5 hdd; omega
          have hw9 : wt (f.drop q) ≤ n0 := Nat.le_trans hwd hb9.2.2.2.2.1
          have hn9 : n + 1 + wt (f.drop q) ≤ 4194305 := by clear k3 k5 hdd; omega
          have hn8 : n + 1 + inD (f.drop q) ≤ 4194304 := by clear k3 k5 hdd; omega
          have hc := fun W9 (hM9 : Ms w0 W9 mb (s' + 1) d' (n + 1) bd) => m_inNode hn htd hpd hw9 hrd hBl hM9 hb9.1 k1 hs9 hn9 k2 hb9.2.2.2.1
          have hfin := Lib.hid (fun wc w' (hP : MPost w0 wc mb (s' + 1) d' (n + 1) bd (inD (f.drop q)) (inZ (f.drop q)) w') => el_step hb9.1 k1 k2 k3 k4 k5 hdd hn8 wc w' hP)
          have hws : IntKind.i64.wrap ((s' : Int) + 1) = (s' : Int) + 1 := by clear k3 k5 hdd; rw [IntKind.wrap_i64]; omega
          have hM4 := hM.out.setS (s' + 1)
          have hF4 := hST.out.trans (Fm.set mb wr 0 (.int .i64 ((s' + 1 : Nat) : Int)))
          have hcs : ((s' + 1 : Nat) : Int) = (s' : Int) + 1 := by omega
          rw [hcs] at hM4 hF4
          have q0 := hM.out.blk.cell (i := 0) rfl
          have yl := hM.out.blk.lt
          have f0 := hM.out.blk.frozen 0
          have hBw := Nat.lt_of_lt_of_le hBl hM.out.fr.size
          replace hc := Lib.hid hc
          replace hM4 := Lib.hid hM4
          replace hF4 := Lib.hid hF4
          replace hcs := Lib.hid hcs
          clear hrw hrd htd hwd hpd hnx hi1 hi2 hi3 hi4 hb9 hdd k1 k2 k3 k4 k5 hs9 hw9 hn9 hn8 hI hM hST hBl hn
          go_upto_region 7 with fail
          clear q0 yl f0 hws
          generalize wr.setCell ⟨mb, 0, none⟩ (.int .i64 ((s' : Int) + 1)) = w4 at hM4 hF4 ⊢
          have hc4 := hc.out w4 hM4.out
          clear hc
          go_wp2_with fail
          refine hc4.mono ?_
          rintro e w5 ⟨rfl, hP⟩
          obtain ⟨s2, d2, hM5, hI5, hF5⟩ := hfin.out w4 w5 hP
          replace hM5 := Lib.hid hM5
          replace hI5 := Lib.hid hI5
          have hF6 := Lib.hid (hF4.out.trans hF5)
          clear hF5 hF4 hM4 hP hc4 hfin
          go_wp2
          go_roundw
          case rel => exact ⟨q + 1, s2, d2, by omega, by go_num, hM5, hI5, hF6⟩
          case measure => simp [intOf]; omega
        · obtain rfl : q = N := by omega
          have hq3 : ¬ (q : Int) < (q : Int) := by omega
          have hI2 := hI.out
          rw [drop_end f hN.out.symm] at hI2
          simp only [dpF, szF] at hI2
          have hM4 := hM.out.setN n
          have hF4 := hST.out.trans (Fm.set mb wr 2 (.int .i64 (n : Int)))
          have hb9 := hB9.out
          have hfin : MPost w0 w mb s d n bd x z (wr.setCell ⟨mb, 2, none⟩ (.int .i64 (n : Int))) := ⟨s', by
            rw [show max d (min (n + x) bd) = d' by omega]
            exact hM4, by omega, by omega, hF4⟩
          have q2 := hM.out.blk.cell (i := 2) rfl
          rw [hcast.out] at q2
          have yl := hM.out.blk.lt
          have f2 := hM.out.blk.frozen 2
          have hws : wrap64 (n : Int) = (n : Int) := by have h := IntKind.wrap_i64 (n : Int); unfold wrap64; omega
          replace hfin := Lib.hid hfin
          clear hI2 hI hM hb9 hST hM4 hF4
          go_wp2
          exact bodyPost_end (v := .tuple #[]) (results_none rfl _ _ _) rfl ⟨rfl, hfin.out⟩
set_option maxRecDepth 100000 in
set_option maxHeartbeats 8000000 in
theorem m_eachP (hn : MOk n0) (ht : Ty f 1) (hw : wt f ≤ n0) (hs : Slc w0 A c0 f) (hM : Ms w0 w mb s d n bd) (h1 : n ≤ bd) (h2 : n ≤ d) (h3 : s + szF f ≤ 4194304) (h4 : n + wt f ≤ 4194304) (h5 : d ≤ 4194304) (h6 : bd ≤ 9223372036854775807) :
    Calls Tryz.prog 128 #[(.pointer (some ⟨mb, 0, none⟩)), .slice A f.len c0, .func (.func 129) #[(.pointer (some ⟨mb, 0, none⟩))] #[]] w fun e w' => e = .returned (.tuple #[]) ∧ MPost w0 w mb s d n bd (dpF f) (szF f) w' := by
  have hm := hs.1
  have hcm := hs.2.1
  unfold maxLen at hcm
  have hdw := dp_wt f
  have h0 := dp0 f
  obtain ⟨N, hN⟩ : ∃ N, f.len = N := ⟨_, rfl⟩
  rw [hN] at hm ⊢
  obtain ⟨x, hx⟩ : ∃ x, dpF f = x := ⟨_, rfl⟩
  obtain ⟨z, hz⟩ : ∃ z, szF f = z := ⟨_, rfl⟩
  rw [hx, hz]
  rw [hx] at hdw h0
  rw [hz] at h3 h0
  have q0 := hM.blk.cell (i := 0) rfl
  have q1 := hM.blk.cell (i := 1) rfl
  have q2 := hM.blk.cell (i := 2) rfl
  have q3 := hM.blk.cell (i := 3) rfl
  have yl := hM.blk.lt
  have f2 := hM.blk.frozen 2
  by_cases hnb : n = bd
  · subst hnb
    have e1 : ((n : Int) == (n : Int)) = true := beq_self_eq_true _
    have hfin := Lib.hid (fun nq => (⟨s, by rw [show max d (min (n + x) n) = d by omega]; exact hM.below (drewN_below w nq), by omega, fun h => by have := h0 (by omega); omega, Fm.of_below (drewN_below w nq)⟩ : MPost w0 w mb s d n n x z (w.drewN nq)))
    clear hM hs h0 hx hz hdw h1 h2 h3 h4 h5 ht hw
    go_enter Tryz.func128, Tryz.ntmps128
    go_upto_region 0 with fail
    go_quiet (fail)
    clear q0 q1 q2 q3 yl f2
    go_wp2
    exact bodyPost_ret (v := .tuple #[]) (results_none rfl _ _ _) rfl ⟨rfl, hfin.out _⟩
  · have e1 : ((n : Int) == (bd : Int)) = false := beq_eq_false_iff_ne.2 (by omega)
    by_cases hN0 : N = 0
    · subst hN0
      obtain rfl := len0 hN
      have hx0 : x = 0 := hx.symm
      have hz0 : z = 0 := hz.symm
      subst hx0 hz0
      have hfin := Lib.hid (fun nq => (⟨s, by rw [show max d (min (n + 0) bd) = d by omega]; exact hM.below (drewN_below w nq), by omega, fun h => by omega, Fm.of_below (drewN_below w nq)⟩ : MPost w0 w mb s d n bd 0 0 (w.drewN nq)))
      clear hM hs h0 hdw h1 h2 h3 h4 h5 ht hw hx hz
      go_enter Tryz.func128, Tryz.ntmps128
      go_upto_region 0 with fail
      go_quiet (fail)
      clear q0 q1 q2 q3 yl f2
      go_wp2
      exact bodyPost_ret (v := .tuple #[]) (results_none rfl _ _ _) rfl ⟨rfl, hfin.out _⟩
    · have e2 : ((N : Int) == 0) = false := beq_eq_false_iff_ne.2 (by omega)
      have hp0 : 0 < f.len := by rw [hN]; omega
      have hin0 := in_tl ht (.inr rfl) hp0
      have hx1 : 1 ≤ x := by omega
      have hnb2 : n < bd := by omega
      have hn1 : IntKind.i64.wrap ((n : Int) + 1) = (n : Int) + 1 := by rw [IntKind.wrap_i64]; omega
      have hM1 := fun nq => (hM.below (drewN_below w nq)).setN (n + 1)
      have hF1 := fun nq => (Fm.of_below (mb := mb) (drewN_below w nq)).trans (Fm.set mb (w.drewN nq) 2 (.int .i64 ((n + 1 : Nat) : Int)))
      have hB9 : Hid (n + 1 ≤ bd ∧ s + z ≤ 4194304 ∧ n + wt f ≤ 4194304 ∧ bd ≤ 9223372036854775807 ∧ wt f ≤ n0 ∧ n ≤ d ∧ d ≤ 4194304) := Lib.hid ⟨hnb2, h3, h4, h6, hw, h2, h5⟩
      have hxd : Hid (dpF f ≤ x ∧ dpF f = x ∧ szF f = z ∧ 1 ≤ x) := Lib.hid ⟨Nat.le_of_eq hx, hx, hz, hx1⟩
      replace hs := Lib.hid hs
      replace ht := Lib.hid ht
      replace hN := Lib.hid hN
      replace hM1 := Lib.hid hM1
      replace hF1 := Lib.hid hF1
      have hcast : ((n + 1 : Nat) : Int) = (n : Int) + 1 := by omega
      rw [hcast] at hM1 hF1
      replace hcast := Lib.hid hcast
      have hd0 : (d : Int) ≤ 4194304 := by omega
      clear h0 hx hz hdw h1 h2 h3 h4 h5 hw hin0 hp0 hM hx1 hnb2
      go_enter Tryz.func128, Tryz.ntmps128
      go_upto_region 0 with fail
      replace hn1 := Lib.hid hn1
      replace hd0 := Lib.hid hd0
      go_quiet (fail)
      replace hn1 := hn1.out
      go_upto_region 2 with fail
      have hM2 := hM1.out nq
      have hF2 := hF1.out nq
      clear q0 q1 q2 q3 yl f2 hM1 hF1 hn1
      generalize (w.drewN nq).setCell ⟨mb, 2, none⟩ (.int .i64 ((n : Int) + 1)) = w1 at hM2 hF2 ⊢
      have q1 := hM2.blk.cell (i := 1) rfl
      have q2 := hM2.blk.cell (i := 2) rfl
      have yl := hM2.blk.lt
      have f1 := hM2.blk.frozen 1
      rw [hcast.out] at q2
      replace hM2 := Lib.hid hM2
      replace hF2 := Lib.hid hF2
      clear e1 e2
      go_still_tail 12, (by kernel_rfl)
      change wpList _ _ _ _ _ (w1.drewN 1)
      obtain ⟨d1, hd1⟩ : ∃ d1, max d (n + 1) = d1 := ⟨_, rfl⟩
      have hif : (if (d : Int) < (n : Int) + 1 then (n : Int) + 1 else (d : Int)) = (d1 : Int) := by split <;> omega
      rw [hif]
      have hM3 := Lib.hid ((hM2.out.below (drewN_below w1 1)).setD d1)
      have hF3 := Lib.hid ((hF2.out.trans (Fm.of_below (mb := mb) (drewN_below w1 1))).trans (Fm.set mb (w1.drewN 1) 1 (.int .i64 (d1 : Int))))
      have hI3 : Hid (n + 1 ≤ d1 ∧ d1 ≤ 4194304 ∧ max d1 (min (n + dpF (f.drop 0)) bd) = max d (min (n + x) bd) ∧ s + szF (f.drop 0) ≤ s + z ∧ (n + x ≤ bd → s + szF (f.drop 0) = s + z)) := Lib.hid (by
        show n + 1 ≤ d1 ∧ d1 ≤ 4194304 ∧ max d1 (min (n + dpF f) bd) = max d (min (n + x) bd) ∧ s + szF f ≤ s + z ∧ (n + x ≤ bd → s + szF f = s + z)
        have k1 := hxd.out
        have k2 := hB9.out
        have k3 := dp_wt f
        rw [k1.2.1] at k3 ⊢
        rw [k1.2.2.1]
        refine ⟨by omega, by omega, by omega, Nat.le_refl _, fun _ => rfl⟩)
      clear hif hd1 hM2 hF2
      go_wp2_with fail
      clear q1 q2 yl f1
      generalize (w1.drewN 1).setCell ⟨mb, 1, none⟩ (.int .i64 (d1 : Int)) = w3 at hM3 hF3 ⊢
      go_loopw [42] (fun iv wr => ∃ q s' d' : Nat, q ≤ N ∧ iv = .int .i64 (q : Int) ∧ Hid (Ms w0 wr mb s' d' (n + 1) bd) ∧ Hid (n + 1 ≤ d' ∧ d' ≤ 4194304 ∧ max d' (min (n + dpF (f.drop q)) bd) = max d (min (n + x) bd) ∧ s' + szF (f.drop q) ≤ s + z ∧ (n + x ≤ bd → s' + szF (f.drop q) = s + z)) ∧ Hid (Fm mb w wr)) (fun iv _ => N - (intOf iv).toNat)
      case atStart => exact ⟨0, s, d1, Nat.zero_le _, rfl, hM3, hI3, hF3⟩
      case round =>
        clear hM3 hI3 hF3
        obtain ⟨q, s', d', hq, rfl, hM, hI, hST⟩ := hrel
        by_cases hlt : q < N
        · have hq1 : (0 : Int) ≤ (q : Int) := by omega
          have hq2 : (q : Int) < (N : Int) := by omega
          obtain ⟨B, o, rfl, hBl, hrw⟩ := hs.out.2.2 (by rw [hN.out]; omega)
          have hrd := rw_drop q ht.out (by rw [hN.out]; omega) hrw
          rw [show szT 1 = 6 from rfl] at hrd
          have htd := ty_drop q ht.out
          have hwd := wt_drop q f
          have hpd : 0 < (f.drop q).len := by rw [drop_len, hN.out]; omega
          have hnx : (f.drop q).tl = f.drop (q + 1) := drop_tl q f
          obtain ⟨hi1, hi2, hi3, hi4⟩ := in_tl htd (.inr rfl) hpd
          rw [hnx] at hi1 hi2
          have hb9 := hB9.out
          have hdd := Nat.le_trans (dpF_drop q f) hxd.out.1
          have hI2 := hI.out
          rw [hi1, hi2] at hI2
          rw [hi1] at hdd
          obtain ⟨k1, k2, k3, k4, k5⟩ := hI2
          have hs9 : s' + 1 + inZ (f.drop q) ≤ 4194304 := by clear k3 k5 hdd; omega
          have hw9 : wt (f.drop q) ≤ n0 := Nat.le_trans hwd hb9.2.2.2.2.1
          have hn9 : n + 1 + wt (f.drop q) ≤ 4194305 := by clear k3 k5 hdd; omega
          have hn8 : n + 1 + inD (f.drop q) ≤ 4194304 := by clear k3 k5 hdd; omega
          have hc := fun W9 (hM9 : Ms w0 W9 mb (s' + 1) d' (n + 1) bd) => m_inPiece hn htd hpd hw9 hrd hBl hM9 hb9.1 k1 hs9 hn9 k2 hb9.2.2.2.1
          have hfin := Lib.hid (fun wc w' (hP : MPost w0 wc mb (s' + 1) d' (n + 1) bd (inD (f.drop q)) (inZ (f.drop q)) w') => el_step hb9.1 k1 k2 k3 k4 k5 hdd hn8 wc w' hP)
          have hws : IntKind.i64.wrap ((s' : Int) + 1) = (s' : Int) + 1 := by clear k3 k5 hdd; rw [IntKind.wrap_i64]; omega
          have hM4 := hM.out.setS (s' + 1)
          have hF4 := hST.out.trans (Fm.set mb wr 0 (.int .i64 ((s' + 1 : Nat) : Int)))
          have hcs : ((s' + 1 : Nat) : Int) = (s' : Int) + 1 := by omega
          rw [hcs] at hM4 hF4
          have q0 := hM.out.blk.cell (i := 0) rfl
          have yl := hM.out.blk.lt
          have f0 := hM.out.blk.frozen 0
          have hBw := Nat.lt_of_lt_of_le hBl hM.out.fr.size
          replace hc := Lib.hid hc
          replace hM4 := Lib.hid hM4
          replace hF4 := Lib.hid hF4
          replace hcs := Lib.hid hcs
          clear hrw hrd htd hwd hpd hnx hi1 hi2 hi3 hi4 hb9 hdd k1 k2 k3 k4 k5 hs9 hw9 hn9 hn8 hI hM hST hBl hn
          go_upto_region 7 with fail
          clear q0 yl f0 hws
          generalize wr.setCell ⟨mb, 0, none⟩ (.int .i64 ((s' : Int) + 1)) = w4 at hM4 hF4 ⊢
          have hc4 := hc.out w4 hM4.out
          clear hc
          go_wp2_with fail
          refine hc4.mono ?_
          rintro e w5 ⟨rfl, hP⟩
          obtain ⟨s2, d2, hM5, hI5, hF5⟩ := hfin.out w4 w5 hP
          replace hM5 := Lib.hid hM5
          replace hI5 := Lib.hid hI5
          have hF6 := Lib.hid (hF4.out.trans hF5)
          clear hF5 hF4 hM4 hP hc4 hfin
          go_wp2
          go_roundw
          case rel => exact ⟨q + 1, s2, d2, by omega, by go_num, hM5, hI5, hF6⟩
          case measure => simp [intOf]; omega
        · obtain rfl : q = N := by omega
          have hq3 : ¬ (q : Int) < (q : Int) := by omega
          have hI2 := hI.out
          rw [drop_end f hN.out.symm] at hI2
          simp only [dpF, szF] at hI2
          have hM4 := hM.out.setN n
          have hF4 := hST.out.trans (Fm.set mb wr 2 (.int .i64 (n : Int)))
          have hb9 := hB9.out
          have hfin : MPost w0 w mb s d n bd x z (wr.setCell ⟨mb, 2, none⟩ (.int .i64 (n : Int))) := ⟨s', by
            rw [show max d (min (n + x) bd) = d' by omega]
            exact hM4, by omega, by omega, hF4⟩
          have q2 := hM.out.blk.cell (i := 2) rfl
          rw [hcast.out] at q2
          have yl := hM.out.blk.lt
          have f2 := hM.out.blk.frozen 2
          have hws : wrap64 (n : Int) = (n : Int) := by have h := IntKind.wrap_i64 (n : Int); unfold wrap64; omega
          replace hfin := Lib.hid hfin
          clear hI2 hI hM hb9 hST hM4 hF4
          go_wp2
          exact bodyPost_end (v := .tuple #[]) (results_none rfl _ _ _) rfl ⟨rfl, hfin.out⟩
end
end Go.Proofs.YtmchfoedjajbdaaGreat
/-
  trees.measured, Size and Deep: how many commands and pieces, and how deep.
-/
set_option linter.unusedSimpArgs false
set_option linter.unusedVariables false
namespace Go.Proofs.YtmchfoedjajbdaaGreat
open Go Go.RowKit Go.ChangeMaps

section
variable {n0 : Nat} {w0 w : World} {A : Option Addr} {c0 mb s d n bd : Nat} {f g : F}
set_option maxRecDepth 100000 in
set_option maxHeartbeats 8000000 in
theorem m_list (hn : MOk n0) (ht : Ty f 0) (hw : wt f ≤ n0) (hs : Slc w0 A c0 f) (hM : Ms w0 w mb s d n bd) (h1 : n ≤ bd) (h2 : n ≤ d) (h3 : s + szF f ≤ 4194304) (h4 : n + wt f ≤ 4194304) (h5 : d ≤ 4194304) (h6 : bd ≤ 9223372036854775807) :
    Calls Tryz.prog 41 #[(.pointer (some ⟨mb, 0, none⟩)), .slice A f.len c0] w fun e w' => e = .returned (.tuple #[]) ∧ MPost w0 w mb s d n bd (dpF f) (szF f) w' := by
  have hc := m_eachN hn ht hw hs hM h1 h2 h3 h4 h5 h6
  have yl := hM.blk.lt
  generalize f.len = N at hc ⊢
  generalize dpF f = x at hc ⊢
  generalize szF f = z at hc ⊢
  clear hs hM h1 h2 h3 h4 h5 h6 hn ht hw
  go_enter Tryz.func41, Tryz.ntmps41
  go_wp2_with fail
  refine hc.mono ?_
  rintro e w5 ⟨rfl, hP⟩
  replace hP := Lib.hid hP
  clear hc yl
  go_wp2
  exact bodyPost_end (v := .tuple #[]) (results_none rfl _ _ _) rfl ⟨rfl, hP.out⟩
set_option maxRecDepth 100000 in
set_option maxHeartbeats 8000000 in
theorem m_word (hn : MOk n0) (ht : Ty f 1) (hw : wt f ≤ n0) (hs : Slc w0 A c0 f) (hM : Ms w0 w mb s d n bd) (h1 : n ≤ bd) (h2 : n ≤ d) (h3 : s + szF f ≤ 4194304) (h4 : n + wt f ≤ 4194304) (h5 : d ≤ 4194304) (h6 : bd ≤ 9223372036854775807) :
    Calls Tryz.prog 103 #[(.pointer (some ⟨mb, 0, none⟩)), .slice A f.len c0] w fun e w' => e = .returned (.tuple #[]) ∧ MPost w0 w mb s d n bd (dpF f) (szF f) w' := by
  have hc := m_eachP hn ht hw hs hM h1 h2 h3 h4 h5 h6
  have yl := hM.blk.lt
  generalize f.len = N at hc ⊢
  generalize dpF f = x at hc ⊢
  generalize szF f = z at hc ⊢
  clear hs hM h1 h2 h3 h4 h5 h6 hn ht hw
  go_enter Tryz.func103, Tryz.ntmps103
  go_wp2_with fail
  refine hc.mono ?_
  rintro e w5 ⟨rfl, hP⟩
  replace hP := Lib.hid hP
  clear hc yl
  go_wp2
  exact bodyPost_end (v := .tuple #[]) (results_none rfl _ _ _) rfl ⟨rfl, hP.out⟩
theorem mOk : ∀ n0, MOk n0
  | 0 => ⟨fun _ h => absurd h (Nat.not_lt_zero _), fun _ h => absurd h (Nat.not_lt_zero _)⟩
  | n0 + 1 => ⟨fun _ hw ht _ _ _ _ _ _ _ _ _ hs hM h1 h2 h3 h4 h5 h6 => m_list (mOk n0) ht (Nat.le_of_lt_succ hw) hs hM h1 h2 h3 h4 h5 h6,
      fun _ hw ht _ _ _ _ _ _ _ _ _ hs hM h1 h2 h3 h4 h5 h6 => m_word (mOk n0) ht (Nat.le_of_lt_succ hw) hs hM h1 h2 h3 h4 h5 h6⟩
set_option maxRecDepth 100000 in
set_option maxHeartbeats 8000000 in
theorem measured_any (ht : Ty f 0) (hs : Slc w A c0 f) (h4 : wt f ≤ 4194304) (h6 : bd ≤ 9223372036854775807) :
    Calls Tryz.prog 24 #[.slice A f.len c0, .int .i64 (bd : Int)] w fun e w' => ∃ mb s', e = .returned (.pointer (some ⟨mb, 0, none⟩)) ∧ Ms w w' mb s' (min (dpF f) bd) 0 bd ∧ (dpF f ≤ bd → s' = szF f) := by
  have hsz := sz_wt f
  have hb : Below w.heap.size w (w.alloc (.cells #[.int .i64 0, .int .i64 0, .int .i64 0, .int .i64 (bd : Int)] 53)) := (Below.refl _ w).alloc (Nat.le_refl _) _
  have hM : Ms w (w.alloc (.cells #[.int .i64 0, .int .i64 0, .int .i64 0, .int .i64 (bd : Int)] 53)) w.heap.size 0 0 0 bd := ⟨hb, Nat.le_refl _, Blk.new w _ _⟩
  have hc := m_list (mOk (wt f)) ht (Nat.le_refl _) hs hM (Nat.zero_le _) (Nat.zero_le _) (by omega) (by omega) (by omega) h6
  have hfin : ∀ w', MPost w (w.alloc (.cells #[.int .i64 0, .int .i64 0, .int .i64 0, .int .i64 (bd : Int)] 53)) w.heap.size 0 0 0 bd (dpF f) (szF f) w' → ∃ s', Ms w w' w.heap.size s' (min (dpF f) bd) 0 bd ∧ (dpF f ≤ bd → s' = szF f) := fun w' ⟨s', a1, _, a3, _⟩ => ⟨s', by
    rw [Nat.zero_max, Nat.zero_add] at a1; exact a1, fun h => by have := a3 (by omega); omega⟩
  replace hfin := Lib.hid hfin
  have yl := hM.blk.lt
  generalize f.len = N at hc ⊢
  generalize dpF f = x at hc hfin ⊢
  generalize szF f = z at hc hfin ⊢
  clear hs ht h4 h6 hsz hb hM
  replace hc := Lib.hid hc
  go_enter Tryz.func24, Tryz.ntmps24
  go_wp2_with fail
  refine hc.out.mono ?_
  rintro e w5 ⟨rfl, hP⟩
  have hF := Lib.hid (hfin.out w5 hP)
  clear hP hc hfin yl
  go_wp2
  refine bodyPost_ret (v := .pointer (some ⟨w.heap.size, 0, none⟩)) (by simp [results, Tryz.results24, go_sem]) rfl ?_
  obtain ⟨s', a1, a2⟩ := hF.out
  exact ⟨_, s', rfl, a1, a2⟩
set_option maxRecDepth 100000 in
set_option maxHeartbeats 8000000 in
theorem size_any (ht : Ty f 0) (hs : Slc w A c0 f) (h4 : wt f ≤ 4194304) :
    Calls Tryz.prog 11 #[.slice A f.len c0] w fun e w' => e = .returned (.int .i64 (szF f : Int)) ∧ Below w.heap.size w w' := by
  have hd := dp_wt f
  have hc := measured_any (bd := 9223372036854775807) ht hs h4 (Nat.le_refl _)
  rw [show ((9223372036854775807 : Nat) : Int) = 9223372036854775807 from rfl] at hc
  generalize f.len = N at hc ⊢
  have hle : dpF f ≤ 9223372036854775807 := by omega
  generalize szF f = z at hc ⊢
  clear ht hs h4
  go_enter Tryz.func11, Tryz.ntmps11
  go_wp2_with fail
  refine hc.mono ?_
  rintro e w5 ⟨mb, s', rfl, hM, hz⟩
  rw [hz hle] at hM
  have q0 := hM.blk.cell (i := 0) rfl
  have yl := hM.blk.lt
  have hfr := Lib.hid hM.fr
  clear hM hz hc hle hd
  go_wp2
  refine bodyPost_ret (v := .int .i64 (z : Int)) (by simp [results, Tryz.results11, go_sem]) rfl ?_
  exact ⟨rfl, hfr.out⟩
set_option maxRecDepth 100000 in
set_option maxHeartbeats 8000000 in
theorem deep_any (ht : Ty f 0) (hs : Slc w A c0 f) (h4 : wt f ≤ 4194304) :
    Calls Tryz.prog 13 #[.slice A f.len c0] w fun e w' => e = .returned (.int .i64 (dpF f : Int)) ∧ Below w.heap.size w w' := by
  have hd := dp_wt f
  have hc := measured_any (bd := 9223372036854775807) ht hs h4 (Nat.le_refl _)
  rw [show ((9223372036854775807 : Nat) : Int) = 9223372036854775807 from rfl, show min (dpF f) 9223372036854775807 = dpF f by omega] at hc
  replace hc := hc.mono (fun e w' ⟨mb, s', h1, h2, _⟩ => (⟨mb, s', h1, h2⟩ : ∃ mb s', e = Ending.returned (.pointer (some ⟨mb, 0, none⟩)) ∧ Ms w w' mb s' (dpF f) 0 9223372036854775807))
  generalize dpF f = z at hc ⊢
  generalize f.len = N at hc ⊢
  clear ht hs h4
  go_enter Tryz.func13, Tryz.ntmps13
  go_wp2_with fail
  refine hc.mono ?_
  rintro e w5 ⟨mb, s', rfl, hM⟩
  have q0 := hM.blk.cell (i := 1) rfl
  have yl := hM.blk.lt
  have hfr := Lib.hid hM.fr
  clear hM hc hd
  go_wp2
  refine bodyPost_ret (v := .int .i64 (z : Int)) (by simp [results, Tryz.results13, go_sem]) rfl ?_
  exact ⟨rfl, hfr.out⟩
end
end Go.Proofs.YtmchfoedjajbdaaGreat
