/-
  trees: a judge's question of a piece. Conditions: not too great.
-/
import Derived.Test.YtmchfoedjajbdaaGreatZq8
set_option linter.unusedSimpArgs false
set_option linter.unusedVariables false
namespace Go.Proofs.YtmchfoedjajbdaaGreat
open Go Go.RowKit Go.ChangeMaps Go.MapKept

section
variable {n0 : Nat} {w0 w : World} {A : Option Addr} {c0 jb cm pm a : Nat} {f g : F} {v : Value}
set_option maxRecDepth 100000 in
set_option maxHeartbeats 4000000 in
theorem piece_none {k p m : Int} {t : ByteArray} {c : Bool} {AK AY : Option Addr} {mK cK mY cY : Nat} (hJ : Jd w0 w jb cm pm a)
    (hlk : look (pieL jb) k = none) :
    Calls Tryz.prog 133 #[.pointer (some ⟨jb, 0, none⟩), pcV k t p c (.slice AK mK cK) (.slice AY mY cY), .int .i64 m] w fun e w' => e = .returned (.bool false) ∧ Below w.heap.size w w' := by
  have hrun : ∀ W, KMap W pm (.int .i64) encI (pieL jb) → (Instr.lookup 73 (.map (some pm)) (.int .i64 k) true).run Tryz.prog W = .ok (.tuple #[.agg #[.int .i64 0, .int .i64 0, .nilFunc], .bool false]) W := fun W hk => by
    have h := hk.find keyI Tryz.underlying73 Tryz.underlying3 (Tryz.zeroValue96 W) true k
    rw [hlk] at h
    exact h
  unfold pcV
  replace hJ := Lib.hid hJ
  replace hrun := Lib.hid hrun
  clear hlk
  go_enter Tryz.func133, Tryz.ntmps133
  go_upto_region 1 with fail
  have hbk := Blk.new w [.int .i64 k, .string t, .int .i64 p, .bool c, .slice AK mK cK, .slice AY mY cY] 66
  have hB1 := (Below.refl w.heap.size w).alloc (Nat.le_refl _) (.cells #[.int .i64 k, .string t, .int .i64 p, .bool c, .slice AK mK cK, .slice AY mY cY] 66)
  have hJ1 := hJ.out.below hB1
  replace hB1 := Lib.hid hB1
  generalize w.alloc (.cells #[.int .i64 k, .string t, .int .i64 p, .bool c, .slice AK mK cK, .slice AY mY cY] 66) = w1 at hbk hB1 hJ1 ⊢
  generalize w.heap.size = z at hbk ⊢
  have z0 := hbk.cell (i := 0) rfl
  have zl := hbk.lt
  have j1 := hJ1.blk.cell (i := 1) rfl
  have jl := hJ1.blk.lt
  have hr1 := hrun.out w1.drew (hJ1.pie.keep rfl)
  have hr2 := fun o => hrun.out ((w1.alloc o).drew) (hJ1.pie.keep (((Below.refl _ w1).alloc (Nat.le_refl _) o).block pm hJ1.pie.lt))
  replace hbk := Lib.hid hbk
  replace hJ1 := Lib.hid hJ1
  go_cut [7, 8] from 9 to 19 (fun t7 t8 wx => ∃ zb : Nat, t7 = .pointer (some ⟨zb, 0, none⟩) ∧ t8 = .bool false ∧ Hid (Below w1.heap.size w1 wx ∧ Blk wx zb [.int .i64 0, .int .i64 0, .nilFunc] 96))
  case first =>
    go_region_held3 (fun w' => w'.cell? ⟨z, 0, none⟩ = some (.int .i64 k) ∧ w'.cell? ⟨jb, 1, none⟩ = some (.map (some pm)) ∧ (Instr.lookup 73 (.map (some pm)) (.int .i64 k) true).run Tryz.prog w' = .ok (.tuple #[.agg #[.int .i64 0, .int .i64 0, .nilFunc], .bool false]) w')
      (first | go_keep) (fail)
    all_goals (go_wp2_with fail)
    all_goals go_meet
    all_goals exact ⟨w1.heap.size, rfl, rfl, Lib.hid ⟨((Below.refl _ w1).alloc (Nat.le_refl _) _).trans (drewN_below _ 1 |>.mono (by rw [World.size_alloc]; omega)), (Blk.new w1 [.int .i64 0, .int .i64 0, .nilFunc] _)⟩⟩
  case rest =>
    obtain ⟨zb, rfl, rfl, hX⟩ := hcut
    have hB2 := Lib.hid (hB1.out.trans (hX.out.1.mono hB1.out.size))
    clear hX z0 zl j1 jl hr1 hr2 hbk hJ1 hB1 hrun hJ
    go_wp2_with fail
    go_quiet (fail)
    go_wp2
    go_ret
    exact ⟨rfl, hB2.out.trans ((drewN_below _ _).mono hB2.out.size)⟩
theorem okF_nil (m : Int) (b : Bool) : okF .nil m b = true := rfl
set_option maxRecDepth 100000 in
set_option maxHeartbeats 8000000 in
theorem jpiece_any {m : Int} (hn : JOk n0) (ht : Ty g 1) (hp : 0 < g.len) (hw : wt g ≤ n0) (hy : byF g ≤ 1000000) (hJ : Jd w0 w jb cm pm a) (ha : a + wt g ≤ 4194304) (hv : ElV w0 g v) :
    Calls Tryz.prog 133 #[.pointer (some ⟨jb, 0, none⟩), v, .int .i64 m] w fun e w' => e = .returned (.bool (okH g m (decide (0 < a)))) ∧ Below w.heap.size w w' := by
  obtain ⟨k, t, p, c, K, Y, r, rfl, _, _, htK, htY, _⟩ := at_piece ht hp
  obtain ⟨AK, cK, AY, cY, rfl, hsK, hsY⟩ := hv
  simp only [wt] at hw ha
  simp only [byF] at hy
  have hlK := len_wt K
  have hlY := len_wt Y
  have hwK := fun (i : Int) W (hb : Below w.heap.size w W) => hn.2 K i (by omega) htK (by omega) w0 AK cK W jb cm pm a hsK (hJ.below hb) (by omega)
  have hwY := fun W (hb : Jd w0 W jb cm pm (a + 1)) => hn.1 Y (by omega) htY (by omega) w0 AY cY W jb cm pm (a + 1) hsY hb (by omega)
  rw [show decide (0 < a + 1) = true from decide_eq_true (by omega)] at hwY
  generalize hG : decide (0 < a) = G at hwK ⊢
  clear hG
  by_cases h1 : k = 1
  · subst h1
    refine (piece_gen (FN := 72) (fl := 1) (pl := 15) (qv := pieceOwn m 1 t p c K && (okF K (placeK 1) G && okF Y 0 (G || decide (((1 : Int)) = 5)))) (enters_of Tryz.func72 (by kernel_rfl) rfl) hJ (by omega) (by omega) rfl ?_).mono fun e w' ⟨h1, h2⟩ => ⟨h1.trans (by rfl), h2⟩
    intro hpl hfl W hW
    have hz := pf_kids (k := 1) (by decide) hfl
    obtain rfl := len0 (hz.1 (by decide) (by decide) (by decide))
    obtain rfl := len0 (hz.2 (by decide))
    rw [okF_nil, okF_nil, Bool.and_true, Bool.and_true]
    exact jbare_any (by omega) rfl
  by_cases h2 : k = 2
  · subst h2
    refine (piece_gen (FN := 73) (fl := 1) (pl := 3) (qv := pieceOwn m 2 t p c K && (okF K (placeK 2) G && okF Y 0 (G || decide (((2 : Int)) = 5)))) (enters_of Tryz.func73 (by kernel_rfl) rfl) hJ (by omega) (by omega) rfl ?_).mono fun e w' ⟨h1, h2⟩ => ⟨h1.trans (by rfl), h2⟩
    intro hpl hfl W hW
    have hz := pf_kids (k := 2) (by decide) hfl
    obtain rfl := len0 (hz.1 (by decide) (by decide) (by decide))
    obtain rfl := len0 (hz.2 (by decide))
    exact jsingle_any
  by_cases h3 : k = 3
  · subst h3
    refine (piece_gen (FN := 74) (fl := 8) (pl := 3) (qv := pieceOwn m 3 t p c K && (okF K (placeK 3) G && okF Y 0 (G || decide (((3 : Int)) = 5)))) (enters_of Tryz.func74 (by kernel_rfl) rfl) hJ (by omega) (by omega) rfl ?_).mono fun e w' ⟨h1, h2⟩ => ⟨h1.trans (by rfl), h2⟩
    intro hpl hfl W hW
    have hz := pf_kids (k := 3) (by decide) hfl
    obtain rfl := len0 (hz.2 (by decide))
    exact jdouble_any (q := pieceOwn m 3 t p c K && (okF K (placeK 3) G && okF .nil 0 (G || decide ((3 : Int) = 5)))) (fun W2 hb => (hwK 4 W2 (hW.trans (hb.mono hW.size))).mono fun e w' ⟨h1, h2⟩ => ⟨h1.trans (by rw [okF_nil]; simp [pieceOwn, placeK]), h2⟩)
  by_cases h4 : k = 4
  · subst h4
    refine (piece_gen (FN := 75) (fl := 15) (pl := 15) (qv := pieceOwn m 4 t p c K && (okF K (placeK 4) G && okF Y 0 (G || decide (((4 : Int)) = 5)))) (enters_of Tryz.func75 (by kernel_rfl) rfl) hJ (by omega) (by omega) rfl ?_).mono fun e w' ⟨h1, h2⟩ => ⟨h1.trans (by rfl), h2⟩
    intro hpl hfl W hW
    have hz := pf_kids (k := 4) (by decide) hfl
    obtain rfl := len0 (hz.2 (by decide))
    refine jparam_any (u := okF K 2 G) (by omega) htK hsK (hJ.fr.trans (hW.mono hJ.fr.size)) (by omega) (fun h => by rw [len0 h]; rfl) (fun W2 hb => hwK 2 W2 (hW.trans (hb.mono hW.size))) ?_
    rw [okF_nil]; simp [pieceOwn, placeK]
  by_cases h5 : k = 5
  · subst h5
    refine (piece_gen (FN := 76) (fl := 16) (pl := 15) (qv := pieceOwn m 5 t p c K && (okF K (placeK 5) G && okF Y 0 (G || decide (((5 : Int)) = 5)))) (enters_of Tryz.func76 (by kernel_rfl) rfl) hJ (by omega) (by omega) rfl ?_).mono fun e w' ⟨h1, h2⟩ => ⟨h1.trans (by rfl), h2⟩
    intro hpl hfl W hW
    have hz := pf_kids (k := 5) (by decide) hfl
    obtain rfl := len0 (hz.1 (by decide) (by decide) (by decide))
    exact jcommand_any (q := pieceOwn m 5 t p c .nil && (okF .nil (placeK 5) G && okF Y 0 (G || decide ((5 : Int) = 5)))) (hJ.below hW) (by omega) (fun W2 hb => (hwY W2 hb).mono fun e w' ⟨h1, h2⟩ => ⟨h1.trans (by rw [okF_nil]; simp [pieceOwn]), h2⟩)
  by_cases h6 : k = 6
  · subst h6
    refine (piece_gen (FN := 77) (fl := 8) (pl := 15) (qv := pieceOwn m 6 t p c K && (okF K (placeK 6) G && okF Y 0 (G || decide (((6 : Int)) = 5)))) (enters_of Tryz.func77 (by kernel_rfl) rfl) hJ (by omega) (by omega) rfl ?_).mono fun e w' ⟨h1, h2⟩ => ⟨h1.trans (by rfl), h2⟩
    intro hpl hfl W hW
    have hz := pf_kids (k := 6) (by decide) hfl
    obtain rfl := len0 (hz.2 (by decide))
    refine jmath_any (u := okF K 8 G) (by omega) (by omega) htK hsK (hJ.fr.trans (hW.mono hJ.fr.size)) (fun W2 hb => hwK 8 W2 (hW.trans (hb.mono hW.size))) ?_
    rw [okF_nil]; simp [pieceOwn, placeK]
  have hno : okH (.piece k t p c K Y r) m G = false := by
    show (decide (1 ≤ k ∧ k ≤ 6) && _) = false
    rw [show decide (1 ≤ k ∧ k ≤ 6) = false from decide_eq_false (by omega)]; rfl
  rw [hno]
  exact piece_none hJ (by simp [look, pieL, Ne.symm h1, Ne.symm h2, Ne.symm h3, Ne.symm h4, Ne.symm h5, Ne.symm h6])
end
end Go.Proofs.YtmchfoedjajbdaaGreat
/-
  trees: a judge's walk over a word. Conditions: not too great.
-/
set_option linter.unusedSimpArgs false
set_option linter.unusedVariables false
namespace Go.Proofs.YtmchfoedjajbdaaGreat
open Go Go.RowKit Go.ChangeMaps

/-- Whether the piece ahead of a place is joined with the one there. -/
def jnB (f : F) : Nat → Bool
  | 0 => false
  | j + 1 => match f.drop j with
    | .piece k _ _ _ _ _ r => joinN k r
    | _ => false
theorem ok_word {f : F} {m : Int} {a : Bool} (ht : Ty f 1) (j : Nat) (hj : j < f.len) : okF (f.drop j) m a = ((okH (f.drop j) m a && !jnB f (j + 1)) && okF (f.drop (j + 1)) m a) := by
  have htd := ty_drop j ht
  have hnx := drop_tl j f
  have hlp : 0 < (f.drop j).len := by rw [drop_len]; omega
  have hjn : jnB f (j + 1) = match f.drop j with | .piece k _ _ _ _ _ r => joinN k r | _ => false := rfl
  obtain ⟨k, t, p, c, K, Y, r, hd, _⟩ := at_piece htd hlp
  rw [hjn]
  rw [hd] at hnx ⊢
  rw [← hnx]
  rfl
section
variable {n0 : Nat} {w0 w : World} {A : Option Addr} {c0 jb cm pm a : Nat} {f g : F} {v : Value}
set_option maxRecDepth 100000 in
set_option maxHeartbeats 16000000 in
theorem jword_any {m : Int} (hn : JOk n0) (ht : Ty f 1) (hw : wt f ≤ n0) (hy : byF f ≤ 1000000) (hs : Slc w0 A c0 f) (hJ : Jd w0 w jb cm pm a) (ha : a + wt f ≤ 4194304) :
    Calls Tryz.prog 114 #[.pointer (some ⟨jb, 0, none⟩), .slice A f.len c0, .int .i64 m] w fun e w' => e = .returned (.bool (okF f m (decide (0 < a)))) ∧ Below w.heap.size w w' := by
  have hm := hs.1
  have hcm := hs.2.1
  unfold maxLen at hcm
  have hlw := len_wt f
  obtain ⟨N, hN⟩ : ∃ N, f.len = N := ⟨_, rfl⟩
  obtain ⟨X, hX⟩ : ∃ X, okF f m (decide (0 < a)) = X := ⟨_, rfl⟩
  rw [hN] at hm hlw ⊢
  rw [hX]
  have hE : Hid (∀ j, j < N → ∀ W, Below w.heap.size w W → ∀ v, ElV w0 (f.drop j) v → Calls Tryz.prog 133 #[.pointer (some ⟨jb, 0, none⟩), v, .int .i64 m] W fun e w' => e = .returned (.bool (okH (f.drop j) m (decide (0 < a)))) ∧ Below W.heap.size W w') := Lib.hid (fun j hj W hb v hv => by
    have hwd := wt_drop j f
    have hyd := by_drop j f
    exact jpiece_any hn (ty_drop j ht) (by rw [drop_len, hN]; omega) (by omega) (by omega) (hJ.below hb) (by omega) hv)
  have hI0 : Hid (X = (!jnB f 0 && okF (f.drop 0) m (decide (0 < a)))) := Lib.hid (by rw [← hX]; simp [jnB, F.drop])
  have hB0 : Hid (Below w.heap.size w w) := Lib.hid (Below.refl _ _)
  have hfr := Lib.hid hJ.fr
  have hmN : (N : Int) ≤ 4194304 := by omega
  replace hs := Lib.hid hs
  replace ht := Lib.hid ht
  replace hN := Lib.hid hN
  clear hX hn hw hy hJ ha hlw
  go_enter Tryz.func114, Tryz.ntmps114
  go_wp2
  go_loopw [11] (fun iv wr => ∃ q : Nat, q ≤ N ∧ iv = .int .i64 (q : Int) ∧ Hid (Below w.heap.size w wr) ∧ Hid (X = (!jnB f q && okF (f.drop q) m (decide (0 < a))))) (fun iv _ => N - (intOf iv).toNat)
  case atStart => exact ⟨0, Nat.zero_le _, rfl, hB0, hI0⟩
  case round =>
    clear hB0 hI0
    obtain ⟨q, hq, rfl, hB, hI⟩ := hrel
    by_cases hlt : q < N
    · have hq1 : (0 : Int) ≤ (q : Int) := by omega
      have hq2 : (q : Int) < (N : Int) := by omega
      obtain ⟨B, o, rfl, hBl, hrw⟩ := hs.out.2.2 (by rw [hN.out]; omega)
      have hbr := hfr.out.trans (hB.out.mono hfr.out.size)
      have htd := ty_drop q ht.out
      have hpd : 0 < (f.drop q).len := by rw [drop_len, hN.out]; omega
      have hrd := rw_drop q ht.out (by rw [hN.out]; omega) hrw
      obtain ⟨k, t, p, c, AK, mK, cK, AY, mY, cY, e0, e1, e2, e3, e4, e5, hv⟩ := el_piece hrd htd hpd
      have hkd : ∀ kq, (match f.drop q with | .piece k' _ _ _ _ _ _ => joinP kq k' | _ => false) = joinP kq k := fun kq => by
        obtain ⟨k', t', p', c', K', Y', r', hd', _⟩ := at_piece htd hpd
        rw [hd'] at hv ⊢
        obtain ⟨_, _, _, _, he', _⟩ := hv
        simp only [Value.agg.injEq] at he'
        have := congrArg (fun x => x[0]?) he'
        simp at this
        rw [this]
      have hpc0 := hE.out q hlt
      have hst := ok_word (m := m) (a := decide (0 < a)) ht.out q (by rw [hN.out]; exact hlt)
      unfold szT at e0 e1 e2 e3 e4 e5
      replace e0 := cell_below hbr hBl e0
      replace e1 := cell_below hbr hBl e1
      replace e2 := cell_below hbr hBl e2
      replace e3 := cell_below hbr hBl e3
      replace e4 := cell_below hbr hBl e4
      replace e5 := cell_below hbr hBl e5
      have hl := Nat.lt_of_lt_of_le hBl hbr.size
      have hgo0 : X = (!jnB f q && ((okH (f.drop q) m (decide (0 < a)) && !jnB f (q + 1)) && okF (f.drop (q + 1)) m (decide (0 < a)))) := hI.out.trans (by rw [hst])
      generalize hQ : okH (f.drop q) m (decide (0 < a)) = Q at hpc0 hgo0
      have bA := Blk.new wr [.int .i64 k, .string t, .int .i64 p, .bool c, .slice AK mK cK, .slice AY mY cY] 66
      have hbA := (Below.refl wr.heap.size wr).alloc (Nat.le_refl _) (.cells #[.int .i64 k, .string t, .int .i64 p, .bool c, .slice AK mK cK, .slice AY mY cY] 66)
      have hBA := hB.out.trans (hbA.mono hB.out.size)
      have hpc1 := fun W (hb : Below w.heap.size w W) => hpc0 W hb _ hv
      replace bA := Lib.hid bA
      replace hBA := Lib.hid hBA
      replace hpc1 := Lib.hid hpc1
      replace hgo0 := Lib.hid hgo0
      replace hkd := Lib.hid hkd
      replace hrw := Lib.hid hrw
      replace hBl := Lib.hid hBl
      clear hI hbr htd hpd hrd hv hst hpc0 hbA hQ hB
      go_upto_region 4 with fail
      clear e0 e1 e2 e3 e4 e5 hl
      generalize wr.alloc (.cells #[.int .i64 k, .string t, .int .i64 p, .bool c, .slice AK mK cK, .slice AY mY cY] 66) = w1 at bA hBA ⊢
      generalize wr.heap.size = z at bA ⊢
      have hBw := hBA
      have hpc : Hid (∀ W, Below w1.heap.size w1 W → Calls Tryz.prog 133 #[.pointer (some ⟨jb, 0, none⟩), .agg #[.int .i64 k, .string t, .int .i64 p, .bool c, .slice AK mK cK, .slice AY mY cY], .int .i64 m] W fun e w' => e = .returned (.bool Q) ∧ Below W.heap.size W w') := Lib.hid (fun W hb => hpc1.out W (hBw.out.trans (hb.mono hBw.out.size)))
      clear hpc1 hBA
      cases q with
      | zero =>
        have hgo : Hid (X = (Q && (!jnB f (0 + 1) && okF (f.drop (0 + 1)) m (decide (0 < a))))) := Lib.hid (by rw [hgo0.out]; simp [jnB, Bool.and_assoc])
        have hcells : Hid (∀ W, Below w1.heap.size w1 W → W.cell? ⟨z, 0, none⟩ = some (.int .i64 k) ∧ W.cell? ⟨z, 1, none⟩ = some (.string t) ∧ W.cell? ⟨z, 2, none⟩ = some (.int .i64 p) ∧ W.cell? ⟨z, 3, none⟩ = some (.bool c) ∧ W.cell? ⟨z, 4, none⟩ = some (.slice AK mK cK) ∧ W.cell? ⟨z, 5, none⟩ = some (.slice AY mY cY) ∧ z < W.heap.size) := Lib.hid (fun W hb => by
          have h1 : Blk W z _ _ := (hb.block z bA.out.lt).trans bA.out
          exact ⟨h1.cell (i := 0) rfl, h1.cell (i := 1) rfl, h1.cell (i := 2) rfl, h1.cell (i := 3) rfl, h1.cell (i := 4) rfl, h1.cell (i := 5) rfl, h1.lt⟩)
        clear hgo0 hkd bA
        have hS0 := drewN_below w1 1
        refine wp_region_held_drew (S := fun W => Below w1.heap.size w1 W) (by kernel_rfl) hS0 (fun _ => ?_)
        refine wpAnyH_take (i := 0) (oi := { dst := some 16, op := Op.move (Operand.tmp 7), type := 3, pos := "check.go:94", after := #[], guard := none }) (v := .int .i64 0) rfl (by kernel_rfl) (by kernel_rfl) (by kernel_rfl) (fun _ _ _ h => h) (Or.inl ⟨by kernel_rfl, ?_⟩) hS0 ?_
        · intro W hW
          clear hW
          go_simp
        try simp only [Act.put, List.setIfInBounds_toArray, List.set_cons_zero, List.set_cons_succ]
        refine wpAnyH_take (i := 1) (oi := { dst := some 17, op := Op.binOp BinOp.gtr 3 (Operand.tmp 16) (Operand.const (Value.int IntKind.i64 0)) 3, type := 4, pos := "check.go:94", after := #[{ on := 0, ground := Ground.data }], guard := none }) (v := .bool false) rfl (by kernel_rfl) (by kernel_rfl) (by kernel_rfl) (fun _ _ _ h => h) (Or.inl ⟨by kernel_rfl, ?_⟩) hS0 ?_
        · intro W hW
          clear hW
          go_simp
        try simp only [Act.put, List.setIfInBounds_toArray, List.set_cons_zero, List.set_cons_succ]
        refine wpAnyH_take (i := 2) (oi := { dst := some 18, op := Op.move (Operand.tmp 17), type := 4, pos := "check.go:94", after := #[{ on := 1, ground := Ground.data }], guard := none }) (v := .bool false) rfl (by kernel_rfl) (by kernel_rfl) (by kernel_rfl) (fun _ _ _ h => h) (Or.inl ⟨by kernel_rfl, ?_⟩) hS0 ?_
        · intro W hW
          clear hW
          go_simp
        try simp only [Act.put, List.setIfInBounds_toArray, List.set_cons_zero, List.set_cons_succ]
        refine wpAnyH_take (i := 3) (oi := { dst := some 19, op := Op.move (Operand.tmp 1), type := 29, pos := "check.go:94", after := #[{ on := 2, ground := Ground.guard }], guard := some (2, true) }) (v := undef) rfl (by kernel_rfl) (by kernel_rfl) (by kernel_rfl) (fun _ _ _ h => h) (Or.inr ⟨by kernel_rfl, rfl⟩) hS0 ?_
        try simp only [Act.put, List.setIfInBounds_toArray, List.set_cons_zero, List.set_cons_succ]
        refine wpAnyH_take (i := 4) (oi := { dst := some 20, op := Op.move (Operand.tmp 7), type := 3, pos := "check.go:94", after := #[{ on := 2, ground := Ground.guard }], guard := some (2, true) }) (v := undef) rfl (by kernel_rfl) (by kernel_rfl) (by kernel_rfl) (fun _ _ _ h => h) (Or.inr ⟨by kernel_rfl, rfl⟩) hS0 ?_
        try simp only [Act.put, List.setIfInBounds_toArray, List.set_cons_zero, List.set_cons_succ]
        refine wpAnyH_take (i := 5) (oi := { dst := some 21, op := Op.binOp BinOp.sub 3 (Operand.tmp 20) (Operand.const (Value.int IntKind.i64 1)) 3, type := 3, pos := "check.go:94", after := #[{ on := 4, ground := Ground.data }, { on := 2, ground := Ground.guard }], guard := some (2, true) }) (v := undef) rfl (by kernel_rfl) (by kernel_rfl) (by kernel_rfl) (fun _ _ _ h => h) (Or.inr ⟨by kernel_rfl, rfl⟩) hS0 ?_
        try simp only [Act.put, List.setIfInBounds_toArray, List.set_cons_zero, List.set_cons_succ]
        refine wpAnyH_take (i := 6) (oi := { dst := some 22, op := Op.indexAddr 29 (Operand.tmp 19) (Operand.tmp 21), type := 0, pos := "check.go:94", after := #[{ on := 3, ground := Ground.data }, { on := 5, ground := Ground.data }, { on := 2, ground := Ground.guard }], guard := some (2, true) }) (v := undef) rfl (by kernel_rfl) (by kernel_rfl) (by kernel_rfl) (fun _ _ _ h => h) (Or.inr ⟨by kernel_rfl, rfl⟩) hS0 ?_
        try simp only [Act.put, List.setIfInBounds_toArray, List.set_cons_zero, List.set_cons_succ]
        refine wpAnyH_take (i := 7) (oi := { dst := some 23, op := Op.load 66 (Operand.tmp 22), type := 66, pos := "check.go:94", after := #[{ on := 6, ground := Ground.data }, { on := 2, ground := Ground.guard }], guard := some (2, true) }) (v := undef) rfl (by kernel_rfl) (by kernel_rfl) (by kernel_rfl) (fun _ _ _ h => h) (Or.inr ⟨by kernel_rfl, rfl⟩) hS0 ?_
        try simp only [Act.put, List.setIfInBounds_toArray, List.set_cons_zero, List.set_cons_succ]
        refine wpAnyH_take (i := 8) (oi := { dst := some 24, op := Op.load 66 (Operand.tmp 8), type := 66, pos := "check.go:94", after := #[{ on := 2, ground := Ground.guard }], guard := some (2, true) }) (v := undef) rfl (by kernel_rfl) (by kernel_rfl) (by kernel_rfl) (fun _ _ _ h => h) (Or.inr ⟨by kernel_rfl, rfl⟩) hS0 ?_
        try simp only [Act.put, List.setIfInBounds_toArray, List.set_cons_zero, List.set_cons_succ]
        refine wpAnyH_take (i := 9) (oi := { dst := some 25, op := Op.call { callee := Callee.value (Operand.func 132), args := #[Operand.tmp 23, Operand.tmp 24], argTypes := #[66, 66] }, type := 4, pos := "check.go:94", after := #[{ on := 7, ground := Ground.data }, { on := 8, ground := Ground.data }, { on := 2, ground := Ground.chain }, { on := 2, ground := Ground.guard }], guard := some (2, true) }) (v := undef) rfl (by kernel_rfl) (by kernel_rfl) (by kernel_rfl) (fun _ _ _ h => h) (Or.inr ⟨by kernel_rfl, rfl⟩) hS0 ?_
        try simp only [Act.put, List.setIfInBounds_toArray, List.set_cons_zero, List.set_cons_succ]
        refine wpAnyH_take (i := 10) (oi := { dst := some 26, op := Op.pick (Operand.tmp 18) (Operand.tmp 25) (Operand.const (Value.bool false)), type := 4, pos := "check.go:94", after := #[{ on := 2, ground := Ground.data }, { on := 9, ground := Ground.data }], guard := none }) (v := .bool false) rfl (by kernel_rfl) (by kernel_rfl) (by kernel_rfl) (fun _ _ _ h => h) (Or.inl ⟨by kernel_rfl, ?_⟩) hS0 ?_
        · intro W hW
          clear hW
          go_simp
        try simp only [Act.put, List.setIfInBounds_toArray, List.set_cons_zero, List.set_cons_succ]
        refine wpAnyH_take (i := 11) (oi := { dst := some 27, op := Op.move (Operand.tmp 26), type := 4, pos := "check.go:94", after := #[{ on := 10, ground := Ground.data }, { on := 9, ground := Ground.chain }], guard := none }) (v := .bool false) rfl (by kernel_rfl) (by kernel_rfl) (by kernel_rfl) (fun _ _ _ h => h) (Or.inl ⟨by kernel_rfl, ?_⟩) hS0 ?_
        · intro W hW
          clear hW
          go_simp
        try simp only [Act.put, List.setIfInBounds_toArray, List.set_cons_zero, List.set_cons_succ]
        refine wpAnyH_take (i := 12) (oi := { dst := some 28, op := Op.move (Operand.tmp 0), type := 56, pos := "check.go:94", after := #[{ on := 11, ground := Ground.guard }], guard := some (11, false) }) (v := .pointer (some ⟨jb, 0, none⟩)) rfl (by kernel_rfl) (by kernel_rfl) (by kernel_rfl) (fun _ _ _ h => h) (Or.inl ⟨by kernel_rfl, ?_⟩) hS0 ?_
        · intro W hW
          clear hW
          go_simp
        try simp only [Act.put, List.setIfInBounds_toArray, List.set_cons_zero, List.set_cons_succ]
        refine wpAnyH_take (i := 13) (oi := { dst := some 29, op := Op.load 66 (Operand.tmp 8), type := 66, pos := "check.go:94", after := #[{ on := 11, ground := Ground.guard }], guard := some (11, false) }) (v := .agg #[.int .i64 k, .string t, .int .i64 p, .bool c, .slice AK mK cK, .slice AY mY cY]) rfl (by kernel_rfl) (by kernel_rfl) (by kernel_rfl) (fun _ _ _ h => h) (Or.inl ⟨by kernel_rfl, ?_⟩) hS0 ?_
        · intro W hW
          obtain ⟨z0, z1, z2, z3, z4, z5, zl⟩ := hcells.out W hW
          clear hW
          go_simp
        try simp only [Act.put, List.setIfInBounds_toArray, List.set_cons_zero, List.set_cons_succ]
        refine wpAnyH_take (i := 14) (oi := { dst := some 30, op := Op.move (Operand.tmp 2), type := 3, pos := "check.go:94", after := #[{ on := 11, ground := Ground.guard }], guard := some (11, false) }) (v := .int .i64 m) rfl (by kernel_rfl) (by kernel_rfl) (by kernel_rfl) (fun _ _ _ h => h) (Or.inl ⟨by kernel_rfl, ?_⟩) hS0 ?_
        · intro W hW
          clear hW
          go_simp
        try simp only [Act.put, List.setIfInBounds_toArray, List.set_cons_zero, List.set_cons_succ]
        refine wpAnyH_ready (rs := [15]) (by kernel_rfl) (by simp) ?_
        refine AllReadyH.cons (o := { dst := some 31, op := Op.call { callee := Callee.value (Operand.func 133), args := #[Operand.tmp 28, Operand.tmp 29, Operand.tmp 30], argTypes := #[56, 66, 3] }, type := 4, pos := "check.go:94", after := #[{ on := 12, ground := Ground.data }, { on := 13, ground := Ground.data }, { on := 14, ground := Ground.data }, { on := 11, ground := Ground.chain }, { on := 11, ground := Ground.guard }], guard := some (11, false) }) rfl (fun K hK => ?_) AllReadyH.nil
        go_simp
        (go_at_call 133; refine (hpc.out _ hS0).mono ?_; rintro e w5 ⟨rfl, hb5⟩; have hS5 := hS0.trans (hb5.mono hS0.size))
        go_wp2_with fail
        refine hK.out _ _ hS5 (fun _ => ?_)
        clear hK K
        try simp only [Act.put, List.setIfInBounds_toArray, List.set_cons_zero, List.set_cons_succ]
        refine wpAnyH_take (i := 16) (oi := { dst := some 32, op := Op.unOp UnOp.not 4 (Operand.tmp 31), type := 4, pos := "check.go:94", after := #[{ on := 15, ground := Ground.data }, { on := 11, ground := Ground.guard }], guard := some (11, false) }) (v := .bool (!Q)) rfl (by kernel_rfl) (by kernel_rfl) (by kernel_rfl) (fun _ _ _ h => h) (Or.inl ⟨by kernel_rfl, ?_⟩) hS5 ?_
        · intro W hW
          clear hW
          go_simp
        try simp only [Act.put, List.setIfInBounds_toArray, List.set_cons_zero, List.set_cons_succ]
        refine wpAnyH_take (i := 17) (oi := { dst := some 33, op := Op.pick (Operand.tmp 27) (Operand.const (Value.bool true)) (Operand.tmp 32), type := 4, pos := "check.go:94", after := #[{ on := 11, ground := Ground.data }, { on := 16, ground := Ground.data }], guard := none }) (v := .bool (!Q)) rfl (by kernel_rfl) (by kernel_rfl) (by kernel_rfl) (fun _ _ _ h => h) (Or.inl ⟨by kernel_rfl, ?_⟩) hS5 ?_
        · intro W hW
          clear hW
          go_simp
        try simp only [Act.put, List.setIfInBounds_toArray, List.set_cons_zero, List.set_cons_succ]
        refine wpAnyH_done (by kernel_rfl) ?_ _
        cases Q
        · have hXf : X = false := by rw [hgo.out]; simp
          subst hXf
          have hfin := Lib.hid (hBw.out.trans (hS5.mono hBw.out.size))
          clear hcells hpc hS0 hS5 hb5 hgo 
          go_wp2
          go_ret
          exact ⟨rfl, hfin.out⟩
        · have hfin := Lib.hid (hBw.out.trans (hS5.mono hBw.out.size))
          have hI3 := Lib.hid ((by rw [hgo.out]; simp) : X = (!jnB f (0 + 1) && okF (f.drop (0 + 1)) m (decide (0 < a))))
          clear hcells hpc hS0 hS5 hb5 hgo 
          go_wp2
          go_roundw
          case rel => exact ⟨0 + 1, by omega, by go_num, hfin, hI3⟩
          case measure => simp [intOf]; omega
      | succ j =>
        obtain ⟨k1, t1, p1, c1, K1, Y1, r1, hd1, _⟩ := at_piece (ty_drop j ht.out) (by rw [drop_len, hN.out]; omega)
        have hrd1 := rw_drop j ht.out (by rw [hN.out]; omega) hrw.out
        have hnx1 := drop_tl j f
        have hjq : jnB f (j + 1) = joinP k1 k := by
          rw [← hkd.out k1, ← hnx1, hd1]
          show (match f.drop j with | .piece k _ _ _ _ _ r => joinN k r | _ => false) = _
          rw [hd1]
          cases r1 <;> rfl
        rw [hd1, show szT 1 = 6 from rfl] at hrd1
        obtain ⟨f0, f1, f2, f3, ⟨AK1, cK1, f4, _⟩, ⟨AY1, cY1, f5, _⟩, _⟩ := rw_piece.1 hrd1
        generalize K1.len = mK1 at f4
        generalize Y1.len = mY1 at f5
        have hjn := Lib.hid (fun W => areJoined_any (w := W) (k := k1) (p := p1) (k2 := k) (p2 := p) (t := t1) (t2 := t) (c := c1) (c2 := c) (AK := .slice AK1 mK1 cK1) (AY := .slice AY1 mY1 cY1) (AK2 := .slice AK mK cK) (AY2 := .slice AY mY cY))
        have hcells : Hid (∀ W, Below w1.heap.size w1 W → W.cell? ⟨z, 0, none⟩ = some (.int .i64 k) ∧ W.cell? ⟨z, 1, none⟩ = some (.string t) ∧ W.cell? ⟨z, 2, none⟩ = some (.int .i64 p) ∧ W.cell? ⟨z, 3, none⟩ = some (.bool c) ∧ W.cell? ⟨z, 4, none⟩ = some (.slice AK mK cK) ∧ W.cell? ⟨z, 5, none⟩ = some (.slice AY mY cY) ∧ z < W.heap.size ∧ W.cell? ⟨B, o + j * 6, none⟩ = some (.int .i64 k1) ∧ W.cell? ⟨B, o + j * 6 + 1, none⟩ = some (.string t1) ∧ W.cell? ⟨B, o + j * 6 + 2, none⟩ = some (.int .i64 p1) ∧ W.cell? ⟨B, o + j * 6 + 3, none⟩ = some (.bool c1) ∧ W.cell? ⟨B, o + j * 6 + 4, none⟩ = some (.slice AK1 mK1 cK1) ∧ W.cell? ⟨B, o + j * 6 + 5, none⟩ = some (.slice AY1 mY1 cY1) ∧ B < W.heap.size) := Lib.hid (fun W hb => by
          have h1 : Blk W z _ _ := (hb.block z bA.out.lt).trans bA.out
          have h2 := hfr.out.trans ((hBw.out.trans (hb.mono hBw.out.size)).mono hfr.out.size)
          exact ⟨h1.cell (i := 0) rfl, h1.cell (i := 1) rfl, h1.cell (i := 2) rfl, h1.cell (i := 3) rfl, h1.cell (i := 4) rfl, h1.cell (i := 5) rfl, h1.lt, cell_below h2 hBl.out f0, cell_below h2 hBl.out f1, cell_below h2 hBl.out f2, cell_below h2 hBl.out f3, cell_below h2 hBl.out f4, cell_below h2 hBl.out f5, Nat.lt_of_lt_of_le hBl.out h2.size⟩)
        have hj9 : ((j + 1 : Nat) : Int) - 1 = (j : Int) := by omega
        have hj8 : (0 : Int) ≤ (j : Int) := by omega
        have hj7 : (j : Int) < (N : Int) := by omega
        have hj6 : (0 : Int) < ((j + 1 : Nat) : Int) := by omega
        have hj5 : (j : Int) ≤ 4194304 := by omega
        have hj4 : IntKind.i64.wrap (j : Int) = (j : Int) := by rw [IntKind.wrap_i64]; omega
        have hgo1 := hgo0.out
        rw [hjq] at hgo1
        generalize joinP k1 k = jn at hjn hgo1
        clear hgo0 hkd bA hd1 hrd1 hnx1 hjq f0 f1 f2 f3 f4 f5
        cases jn
        · have hgo : Hid (X = (Q && (!jnB f (j + 1 + 1) && okF (f.drop (j + 1 + 1)) m (decide (0 < a))))) := Lib.hid (by rw [hgo1]; simp [Bool.and_assoc])
          clear hgo1
          have hS0 := drewN_below w1 1
          refine wp_region_held_drew (S := fun W => Below w1.heap.size w1 W) (by kernel_rfl) hS0 (fun _ => ?_)
          refine wpAnyH_take (i := 0) (oi := { dst := some 16, op := Op.move (Operand.tmp 7), type := 3, pos := "check.go:94", after := #[], guard := none }) (v := .int .i64 ((j + 1 : Nat) : Int)) rfl (by kernel_rfl) (by kernel_rfl) (by kernel_rfl) (fun _ _ _ h => h) (Or.inl ⟨by kernel_rfl, ?_⟩) hS0 ?_
          · intro W hW
            clear hW
            go_simp
          try simp only [Act.put, List.setIfInBounds_toArray, List.set_cons_zero, List.set_cons_succ]
          refine wpAnyH_take (i := 1) (oi := { dst := some 17, op := Op.binOp BinOp.gtr 3 (Operand.tmp 16) (Operand.const (Value.int IntKind.i64 0)) 3, type := 4, pos := "check.go:94", after := #[{ on := 0, ground := Ground.data }], guard := none }) (v := .bool true) rfl (by kernel_rfl) (by kernel_rfl) (by kernel_rfl) (fun _ _ _ h => h) (Or.inl ⟨by kernel_rfl, ?_⟩) hS0 ?_
          · intro W hW
            clear hW
            go_simp
          try simp only [Act.put, List.setIfInBounds_toArray, List.set_cons_zero, List.set_cons_succ]
          refine wpAnyH_take (i := 2) (oi := { dst := some 18, op := Op.move (Operand.tmp 17), type := 4, pos := "check.go:94", after := #[{ on := 1, ground := Ground.data }], guard := none }) (v := .bool true) rfl (by kernel_rfl) (by kernel_rfl) (by kernel_rfl) (fun _ _ _ h => h) (Or.inl ⟨by kernel_rfl, ?_⟩) hS0 ?_
          · intro W hW
            clear hW
            go_simp
          try simp only [Act.put, List.setIfInBounds_toArray, List.set_cons_zero, List.set_cons_succ]
          refine wpAnyH_take (i := 3) (oi := { dst := some 19, op := Op.move (Operand.tmp 1), type := 29, pos := "check.go:94", after := #[{ on := 2, ground := Ground.guard }], guard := some (2, true) }) (v := .slice (some ⟨B, o, none⟩) N c0) rfl (by kernel_rfl) (by kernel_rfl) (by kernel_rfl) (fun _ _ _ h => h) (Or.inl ⟨by kernel_rfl, ?_⟩) hS0 ?_
          · intro W hW
            clear hW
            go_simp
          try simp only [Act.put, List.setIfInBounds_toArray, List.set_cons_zero, List.set_cons_succ]
          refine wpAnyH_take (i := 4) (oi := { dst := some 20, op := Op.move (Operand.tmp 7), type := 3, pos := "check.go:94", after := #[{ on := 2, ground := Ground.guard }], guard := some (2, true) }) (v := .int .i64 ((j + 1 : Nat) : Int)) rfl (by kernel_rfl) (by kernel_rfl) (by kernel_rfl) (fun _ _ _ h => h) (Or.inl ⟨by kernel_rfl, ?_⟩) hS0 ?_
          · intro W hW
            clear hW
            go_simp
          try simp only [Act.put, List.setIfInBounds_toArray, List.set_cons_zero, List.set_cons_succ]
          refine wpAnyH_take (i := 5) (oi := { dst := some 21, op := Op.binOp BinOp.sub 3 (Operand.tmp 20) (Operand.const (Value.int IntKind.i64 1)) 3, type := 3, pos := "check.go:94", after := #[{ on := 4, ground := Ground.data }, { on := 2, ground := Ground.guard }], guard := some (2, true) }) (v := .int .i64 (j : Int)) rfl (by kernel_rfl) (by kernel_rfl) (by kernel_rfl) (fun _ _ _ h => h) (Or.inl ⟨by kernel_rfl, ?_⟩) hS0 ?_
          · intro W hW
            clear hW
            go_simp
          try simp only [Act.put, List.setIfInBounds_toArray, List.set_cons_zero, List.set_cons_succ]
          refine wpAnyH_take (i := 6) (oi := { dst := some 22, op := Op.indexAddr 29 (Operand.tmp 19) (Operand.tmp 21), type := 0, pos := "check.go:94", after := #[{ on := 3, ground := Ground.data }, { on := 5, ground := Ground.data }, { on := 2, ground := Ground.guard }], guard := some (2, true) }) (v := .pointer (some ⟨B, o + j * 6, none⟩)) rfl (by kernel_rfl) (by kernel_rfl) (by kernel_rfl) (fun _ _ _ h => h) (Or.inl ⟨by kernel_rfl, ?_⟩) hS0 ?_
          · intro W hW
            clear hW
            go_simp
          try simp only [Act.put, List.setIfInBounds_toArray, List.set_cons_zero, List.set_cons_succ]
          refine wpAnyH_take (i := 7) (oi := { dst := some 23, op := Op.load 66 (Operand.tmp 22), type := 66, pos := "check.go:94", after := #[{ on := 6, ground := Ground.data }, { on := 2, ground := Ground.guard }], guard := some (2, true) }) (v := .agg #[.int .i64 k1, .string t1, .int .i64 p1, .bool c1, .slice AK1 mK1 cK1, .slice AY1 mY1 cY1]) rfl (by kernel_rfl) (by kernel_rfl) (by kernel_rfl) (fun _ _ _ h => h) (Or.inl ⟨by kernel_rfl, ?_⟩) hS0 ?_
          · intro W hW
            obtain ⟨z0, z1, z2, z3, z4, z5, zl, q0, q1, q2, q3, q4, q5, ql⟩ := hcells.out W hW
            clear hW
            go_simp
          try simp only [Act.put, List.setIfInBounds_toArray, List.set_cons_zero, List.set_cons_succ]
          refine wpAnyH_take (i := 8) (oi := { dst := some 24, op := Op.load 66 (Operand.tmp 8), type := 66, pos := "check.go:94", after := #[{ on := 2, ground := Ground.guard }], guard := some (2, true) }) (v := .agg #[.int .i64 k, .string t, .int .i64 p, .bool c, .slice AK mK cK, .slice AY mY cY]) rfl (by kernel_rfl) (by kernel_rfl) (by kernel_rfl) (fun _ _ _ h => h) (Or.inl ⟨by kernel_rfl, ?_⟩) hS0 ?_
          · intro W hW
            obtain ⟨z0, z1, z2, z3, z4, z5, zl, q0, q1, q2, q3, q4, q5, ql⟩ := hcells.out W hW
            clear hW
            go_simp
          try simp only [Act.put, List.setIfInBounds_toArray, List.set_cons_zero, List.set_cons_succ]
          refine wpAnyH_ready (rs := [9]) (by kernel_rfl) (by simp) ?_
          refine AllReadyH.cons (o := { dst := some 25, op := Op.call { callee := Callee.value (Operand.func 132), args := #[Operand.tmp 23, Operand.tmp 24], argTypes := #[66, 66] }, type := 4, pos := "check.go:94", after := #[{ on := 7, ground := Ground.data }, { on := 8, ground := Ground.data }, { on := 2, ground := Ground.chain }, { on := 2, ground := Ground.guard }], guard := some (2, true) }) rfl (fun K hK => ?_) AllReadyH.nil
          go_simp
          (go_at_call 132; refine (hjn.out _).mono ?_; rintro e w4 ⟨rfl, hb4⟩; have hS4 := hS0.trans (hb4.mono hS0.size))
          go_wp2_with fail
          refine hK.out _ _ hS4 (fun _ => ?_)
          clear hK K
          try simp only [Act.put, List.setIfInBounds_toArray, List.set_cons_zero, List.set_cons_succ]
          refine wpAnyH_take (i := 10) (oi := { dst := some 26, op := Op.pick (Operand.tmp 18) (Operand.tmp 25) (Operand.const (Value.bool false)), type := 4, pos := "check.go:94", after := #[{ on := 2, ground := Ground.data }, { on := 9, ground := Ground.data }], guard := none }) (v := .bool false) rfl (by kernel_rfl) (by kernel_rfl) (by kernel_rfl) (fun _ _ _ h => h) (Or.inl ⟨by kernel_rfl, ?_⟩) hS4 ?_
          · intro W hW
            clear hW
            go_simp
          try simp only [Act.put, List.setIfInBounds_toArray, List.set_cons_zero, List.set_cons_succ]
          refine wpAnyH_take (i := 11) (oi := { dst := some 27, op := Op.move (Operand.tmp 26), type := 4, pos := "check.go:94", after := #[{ on := 10, ground := Ground.data }, { on := 9, ground := Ground.chain }], guard := none }) (v := .bool false) rfl (by kernel_rfl) (by kernel_rfl) (by kernel_rfl) (fun _ _ _ h => h) (Or.inl ⟨by kernel_rfl, ?_⟩) hS4 ?_
          · intro W hW
            clear hW
            go_simp
          try simp only [Act.put, List.setIfInBounds_toArray, List.set_cons_zero, List.set_cons_succ]
          refine wpAnyH_take (i := 12) (oi := { dst := some 28, op := Op.move (Operand.tmp 0), type := 56, pos := "check.go:94", after := #[{ on := 11, ground := Ground.guard }], guard := some (11, false) }) (v := .pointer (some ⟨jb, 0, none⟩)) rfl (by kernel_rfl) (by kernel_rfl) (by kernel_rfl) (fun _ _ _ h => h) (Or.inl ⟨by kernel_rfl, ?_⟩) hS4 ?_
          · intro W hW
            clear hW
            go_simp
          try simp only [Act.put, List.setIfInBounds_toArray, List.set_cons_zero, List.set_cons_succ]
          refine wpAnyH_take (i := 13) (oi := { dst := some 29, op := Op.load 66 (Operand.tmp 8), type := 66, pos := "check.go:94", after := #[{ on := 11, ground := Ground.guard }], guard := some (11, false) }) (v := .agg #[.int .i64 k, .string t, .int .i64 p, .bool c, .slice AK mK cK, .slice AY mY cY]) rfl (by kernel_rfl) (by kernel_rfl) (by kernel_rfl) (fun _ _ _ h => h) (Or.inl ⟨by kernel_rfl, ?_⟩) hS4 ?_
          · intro W hW
            obtain ⟨z0, z1, z2, z3, z4, z5, zl, q0, q1, q2, q3, q4, q5, ql⟩ := hcells.out W hW
            clear hW
            go_simp
          try simp only [Act.put, List.setIfInBounds_toArray, List.set_cons_zero, List.set_cons_succ]
          refine wpAnyH_take (i := 14) (oi := { dst := some 30, op := Op.move (Operand.tmp 2), type := 3, pos := "check.go:94", after := #[{ on := 11, ground := Ground.guard }], guard := some (11, false) }) (v := .int .i64 m) rfl (by kernel_rfl) (by kernel_rfl) (by kernel_rfl) (fun _ _ _ h => h) (Or.inl ⟨by kernel_rfl, ?_⟩) hS4 ?_
          · intro W hW
            clear hW
            go_simp
          try simp only [Act.put, List.setIfInBounds_toArray, List.set_cons_zero, List.set_cons_succ]
          refine wpAnyH_ready (rs := [15]) (by kernel_rfl) (by simp) ?_
          refine AllReadyH.cons (o := { dst := some 31, op := Op.call { callee := Callee.value (Operand.func 133), args := #[Operand.tmp 28, Operand.tmp 29, Operand.tmp 30], argTypes := #[56, 66, 3] }, type := 4, pos := "check.go:94", after := #[{ on := 12, ground := Ground.data }, { on := 13, ground := Ground.data }, { on := 14, ground := Ground.data }, { on := 11, ground := Ground.chain }, { on := 11, ground := Ground.guard }], guard := some (11, false) }) rfl (fun K hK => ?_) AllReadyH.nil
          go_simp
          (go_at_call 133; refine (hpc.out _ hS4).mono ?_; rintro e w5 ⟨rfl, hb5⟩; have hS5 := hS4.trans (hb5.mono hS4.size))
          go_wp2_with fail
          refine hK.out _ _ hS5 (fun _ => ?_)
          clear hK K
          try simp only [Act.put, List.setIfInBounds_toArray, List.set_cons_zero, List.set_cons_succ]
          refine wpAnyH_take (i := 16) (oi := { dst := some 32, op := Op.unOp UnOp.not 4 (Operand.tmp 31), type := 4, pos := "check.go:94", after := #[{ on := 15, ground := Ground.data }, { on := 11, ground := Ground.guard }], guard := some (11, false) }) (v := .bool (!Q)) rfl (by kernel_rfl) (by kernel_rfl) (by kernel_rfl) (fun _ _ _ h => h) (Or.inl ⟨by kernel_rfl, ?_⟩) hS5 ?_
          · intro W hW
            clear hW
            go_simp
          try simp only [Act.put, List.setIfInBounds_toArray, List.set_cons_zero, List.set_cons_succ]
          refine wpAnyH_take (i := 17) (oi := { dst := some 33, op := Op.pick (Operand.tmp 27) (Operand.const (Value.bool true)) (Operand.tmp 32), type := 4, pos := "check.go:94", after := #[{ on := 11, ground := Ground.data }, { on := 16, ground := Ground.data }], guard := none }) (v := .bool (!Q)) rfl (by kernel_rfl) (by kernel_rfl) (by kernel_rfl) (fun _ _ _ h => h) (Or.inl ⟨by kernel_rfl, ?_⟩) hS5 ?_
          · intro W hW
            clear hW
            go_simp
          try simp only [Act.put, List.setIfInBounds_toArray, List.set_cons_zero, List.set_cons_succ]
          refine wpAnyH_done (by kernel_rfl) ?_ _
          cases Q
          · have hXf : X = false := by rw [hgo.out]; simp
            subst hXf
            have hfin := Lib.hid (hBw.out.trans (hS5.mono hBw.out.size))
            clear hcells hpc hS0 hS5 hb5 hgo hjn hS4 hb4
            go_wp2
            go_ret
            exact ⟨rfl, hfin.out⟩
          · have hfin := Lib.hid (hBw.out.trans (hS5.mono hBw.out.size))
            have hI3 := Lib.hid ((by rw [hgo.out]; simp) : X = (!jnB f (j + 1 + 1) && okF (f.drop (j + 1 + 1)) m (decide (0 < a))))
            clear hcells hpc hS0 hS5 hb5 hgo hjn hS4 hb4
            go_wp2
            go_roundw
            case rel => exact ⟨(j + 1) + 1, by omega, by go_num, hfin, hI3⟩
            case measure => simp [intOf]; omega
        · have hXf : X = false := by rw [hgo1]; simp
          subst hXf
          clear hgo1
          have hS0 := drewN_below w1 1
          refine wp_region_held_drew (S := fun W => Below w1.heap.size w1 W) (by kernel_rfl) hS0 (fun _ => ?_)
          refine wpAnyH_take (i := 0) (oi := { dst := some 16, op := Op.move (Operand.tmp 7), type := 3, pos := "check.go:94", after := #[], guard := none }) (v := .int .i64 ((j + 1 : Nat) : Int)) rfl (by kernel_rfl) (by kernel_rfl) (by kernel_rfl) (fun _ _ _ h => h) (Or.inl ⟨by kernel_rfl, ?_⟩) hS0 ?_
          · intro W hW
            clear hW
            go_simp
          try simp only [Act.put, List.setIfInBounds_toArray, List.set_cons_zero, List.set_cons_succ]
          refine wpAnyH_take (i := 1) (oi := { dst := some 17, op := Op.binOp BinOp.gtr 3 (Operand.tmp 16) (Operand.const (Value.int IntKind.i64 0)) 3, type := 4, pos := "check.go:94", after := #[{ on := 0, ground := Ground.data }], guard := none }) (v := .bool true) rfl (by kernel_rfl) (by kernel_rfl) (by kernel_rfl) (fun _ _ _ h => h) (Or.inl ⟨by kernel_rfl, ?_⟩) hS0 ?_
          · intro W hW
            clear hW
            go_simp
          try simp only [Act.put, List.setIfInBounds_toArray, List.set_cons_zero, List.set_cons_succ]
          refine wpAnyH_take (i := 2) (oi := { dst := some 18, op := Op.move (Operand.tmp 17), type := 4, pos := "check.go:94", after := #[{ on := 1, ground := Ground.data }], guard := none }) (v := .bool true) rfl (by kernel_rfl) (by kernel_rfl) (by kernel_rfl) (fun _ _ _ h => h) (Or.inl ⟨by kernel_rfl, ?_⟩) hS0 ?_
          · intro W hW
            clear hW
            go_simp
          try simp only [Act.put, List.setIfInBounds_toArray, List.set_cons_zero, List.set_cons_succ]
          refine wpAnyH_take (i := 3) (oi := { dst := some 19, op := Op.move (Operand.tmp 1), type := 29, pos := "check.go:94", after := #[{ on := 2, ground := Ground.guard }], guard := some (2, true) }) (v := .slice (some ⟨B, o, none⟩) N c0) rfl (by kernel_rfl) (by kernel_rfl) (by kernel_rfl) (fun _ _ _ h => h) (Or.inl ⟨by kernel_rfl, ?_⟩) hS0 ?_
          · intro W hW
            clear hW
            go_simp
          try simp only [Act.put, List.setIfInBounds_toArray, List.set_cons_zero, List.set_cons_succ]
          refine wpAnyH_take (i := 4) (oi := { dst := some 20, op := Op.move (Operand.tmp 7), type := 3, pos := "check.go:94", after := #[{ on := 2, ground := Ground.guard }], guard := some (2, true) }) (v := .int .i64 ((j + 1 : Nat) : Int)) rfl (by kernel_rfl) (by kernel_rfl) (by kernel_rfl) (fun _ _ _ h => h) (Or.inl ⟨by kernel_rfl, ?_⟩) hS0 ?_
          · intro W hW
            clear hW
            go_simp
          try simp only [Act.put, List.setIfInBounds_toArray, List.set_cons_zero, List.set_cons_succ]
          refine wpAnyH_take (i := 5) (oi := { dst := some 21, op := Op.binOp BinOp.sub 3 (Operand.tmp 20) (Operand.const (Value.int IntKind.i64 1)) 3, type := 3, pos := "check.go:94", after := #[{ on := 4, ground := Ground.data }, { on := 2, ground := Ground.guard }], guard := some (2, true) }) (v := .int .i64 (j : Int)) rfl (by kernel_rfl) (by kernel_rfl) (by kernel_rfl) (fun _ _ _ h => h) (Or.inl ⟨by kernel_rfl, ?_⟩) hS0 ?_
          · intro W hW
            clear hW
            go_simp
          try simp only [Act.put, List.setIfInBounds_toArray, List.set_cons_zero, List.set_cons_succ]
          refine wpAnyH_take (i := 6) (oi := { dst := some 22, op := Op.indexAddr 29 (Operand.tmp 19) (Operand.tmp 21), type := 0, pos := "check.go:94", after := #[{ on := 3, ground := Ground.data }, { on := 5, ground := Ground.data }, { on := 2, ground := Ground.guard }], guard := some (2, true) }) (v := .pointer (some ⟨B, o + j * 6, none⟩)) rfl (by kernel_rfl) (by kernel_rfl) (by kernel_rfl) (fun _ _ _ h => h) (Or.inl ⟨by kernel_rfl, ?_⟩) hS0 ?_
          · intro W hW
            clear hW
            go_simp
          try simp only [Act.put, List.setIfInBounds_toArray, List.set_cons_zero, List.set_cons_succ]
          refine wpAnyH_take (i := 7) (oi := { dst := some 23, op := Op.load 66 (Operand.tmp 22), type := 66, pos := "check.go:94", after := #[{ on := 6, ground := Ground.data }, { on := 2, ground := Ground.guard }], guard := some (2, true) }) (v := .agg #[.int .i64 k1, .string t1, .int .i64 p1, .bool c1, .slice AK1 mK1 cK1, .slice AY1 mY1 cY1]) rfl (by kernel_rfl) (by kernel_rfl) (by kernel_rfl) (fun _ _ _ h => h) (Or.inl ⟨by kernel_rfl, ?_⟩) hS0 ?_
          · intro W hW
            obtain ⟨z0, z1, z2, z3, z4, z5, zl, q0, q1, q2, q3, q4, q5, ql⟩ := hcells.out W hW
            clear hW
            go_simp
          try simp only [Act.put, List.setIfInBounds_toArray, List.set_cons_zero, List.set_cons_succ]
          refine wpAnyH_take (i := 8) (oi := { dst := some 24, op := Op.load 66 (Operand.tmp 8), type := 66, pos := "check.go:94", after := #[{ on := 2, ground := Ground.guard }], guard := some (2, true) }) (v := .agg #[.int .i64 k, .string t, .int .i64 p, .bool c, .slice AK mK cK, .slice AY mY cY]) rfl (by kernel_rfl) (by kernel_rfl) (by kernel_rfl) (fun _ _ _ h => h) (Or.inl ⟨by kernel_rfl, ?_⟩) hS0 ?_
          · intro W hW
            obtain ⟨z0, z1, z2, z3, z4, z5, zl, q0, q1, q2, q3, q4, q5, ql⟩ := hcells.out W hW
            clear hW
            go_simp
          try simp only [Act.put, List.setIfInBounds_toArray, List.set_cons_zero, List.set_cons_succ]
          refine wpAnyH_ready (rs := [9]) (by kernel_rfl) (by simp) ?_
          refine AllReadyH.cons (o := { dst := some 25, op := Op.call { callee := Callee.value (Operand.func 132), args := #[Operand.tmp 23, Operand.tmp 24], argTypes := #[66, 66] }, type := 4, pos := "check.go:94", after := #[{ on := 7, ground := Ground.data }, { on := 8, ground := Ground.data }, { on := 2, ground := Ground.chain }, { on := 2, ground := Ground.guard }], guard := some (2, true) }) rfl (fun K hK => ?_) AllReadyH.nil
          go_simp
          (go_at_call 132; refine (hjn.out _).mono ?_; rintro e w4 ⟨rfl, hb4⟩; have hS4 := hS0.trans (hb4.mono hS0.size))
          go_wp2_with fail
          refine hK.out _ _ hS4 (fun _ => ?_)
          clear hK K
          try simp only [Act.put, List.setIfInBounds_toArray, List.set_cons_zero, List.set_cons_succ]
          refine wpAnyH_take (i := 10) (oi := { dst := some 26, op := Op.pick (Operand.tmp 18) (Operand.tmp 25) (Operand.const (Value.bool false)), type := 4, pos := "check.go:94", after := #[{ on := 2, ground := Ground.data }, { on := 9, ground := Ground.data }], guard := none }) (v := .bool true) rfl (by kernel_rfl) (by kernel_rfl) (by kernel_rfl) (fun _ _ _ h => h) (Or.inl ⟨by kernel_rfl, ?_⟩) hS4 ?_
          · intro W hW
            clear hW
            go_simp
          try simp only [Act.put, List.setIfInBounds_toArray, List.set_cons_zero, List.set_cons_succ]
          refine wpAnyH_take (i := 11) (oi := { dst := some 27, op := Op.move (Operand.tmp 26), type := 4, pos := "check.go:94", after := #[{ on := 10, ground := Ground.data }, { on := 9, ground := Ground.chain }], guard := none }) (v := .bool true) rfl (by kernel_rfl) (by kernel_rfl) (by kernel_rfl) (fun _ _ _ h => h) (Or.inl ⟨by kernel_rfl, ?_⟩) hS4 ?_
          · intro W hW
            clear hW
            go_simp
          try simp only [Act.put, List.setIfInBounds_toArray, List.set_cons_zero, List.set_cons_succ]
          refine wpAnyH_take (i := 12) (oi := { dst := some 28, op := Op.move (Operand.tmp 0), type := 56, pos := "check.go:94", after := #[{ on := 11, ground := Ground.guard }], guard := some (11, false) }) (v := undef) rfl (by kernel_rfl) (by kernel_rfl) (by kernel_rfl) (fun _ _ _ h => h) (Or.inr ⟨by kernel_rfl, rfl⟩) hS4 ?_
          try simp only [Act.put, List.setIfInBounds_toArray, List.set_cons_zero, List.set_cons_succ]
          refine wpAnyH_take (i := 13) (oi := { dst := some 29, op := Op.load 66 (Operand.tmp 8), type := 66, pos := "check.go:94", after := #[{ on := 11, ground := Ground.guard }], guard := some (11, false) }) (v := undef) rfl (by kernel_rfl) (by kernel_rfl) (by kernel_rfl) (fun _ _ _ h => h) (Or.inr ⟨by kernel_rfl, rfl⟩) hS4 ?_
          try simp only [Act.put, List.setIfInBounds_toArray, List.set_cons_zero, List.set_cons_succ]
          refine wpAnyH_take (i := 14) (oi := { dst := some 30, op := Op.move (Operand.tmp 2), type := 3, pos := "check.go:94", after := #[{ on := 11, ground := Ground.guard }], guard := some (11, false) }) (v := undef) rfl (by kernel_rfl) (by kernel_rfl) (by kernel_rfl) (fun _ _ _ h => h) (Or.inr ⟨by kernel_rfl, rfl⟩) hS4 ?_
          try simp only [Act.put, List.setIfInBounds_toArray, List.set_cons_zero, List.set_cons_succ]
          refine wpAnyH_take (i := 15) (oi := { dst := some 31, op := Op.call { callee := Callee.value (Operand.func 133), args := #[Operand.tmp 28, Operand.tmp 29, Operand.tmp 30], argTypes := #[56, 66, 3] }, type := 4, pos := "check.go:94", after := #[{ on := 12, ground := Ground.data }, { on := 13, ground := Ground.data }, { on := 14, ground := Ground.data }, { on := 11, ground := Ground.chain }, { on := 11, ground := Ground.guard }], guard := some (11, false) }) (v := undef) rfl (by kernel_rfl) (by kernel_rfl) (by kernel_rfl) (fun _ _ _ h => h) (Or.inr ⟨by kernel_rfl, rfl⟩) hS4 ?_
          try simp only [Act.put, List.setIfInBounds_toArray, List.set_cons_zero, List.set_cons_succ]
          refine wpAnyH_take (i := 16) (oi := { dst := some 32, op := Op.unOp UnOp.not 4 (Operand.tmp 31), type := 4, pos := "check.go:94", after := #[{ on := 15, ground := Ground.data }, { on := 11, ground := Ground.guard }], guard := some (11, false) }) (v := undef) rfl (by kernel_rfl) (by kernel_rfl) (by kernel_rfl) (fun _ _ _ h => h) (Or.inr ⟨by kernel_rfl, rfl⟩) hS4 ?_
          try simp only [Act.put, List.setIfInBounds_toArray, List.set_cons_zero, List.set_cons_succ]
          refine wpAnyH_take (i := 17) (oi := { dst := some 33, op := Op.pick (Operand.tmp 27) (Operand.const (Value.bool true)) (Operand.tmp 32), type := 4, pos := "check.go:94", after := #[{ on := 11, ground := Ground.data }, { on := 16, ground := Ground.data }], guard := none }) (v := .bool true) rfl (by kernel_rfl) (by kernel_rfl) (by kernel_rfl) (fun _ _ _ h => h) (Or.inl ⟨by kernel_rfl, ?_⟩) hS4 ?_
          · intro W hW
            clear hW
            go_simp
          try simp only [Act.put, List.setIfInBounds_toArray, List.set_cons_zero, List.set_cons_succ]
          refine wpAnyH_done (by kernel_rfl) ?_ _
          have hfin := Lib.hid (hBw.out.trans (hS4.mono hBw.out.size))
          clear hcells hpc hS0 hS4 hb4 hjn
          go_wp2
          go_ret
          exact ⟨rfl, hfin.out⟩
    · obtain rfl : q = N := by omega
      have hq3 : ¬ (q : Int) < (q : Int) := by omega
      have hXt : X = true := by
        have h := hI.out
        rw [drop_end f hN.out.symm] at h
        rw [h]
        cases q with
        | zero => rfl
        | succ j =>
          have hjn : jnB f (j + 1) = false := by
            obtain ⟨k1, t1, p1, c1, K1, Y1, r1, hd1, _⟩ := at_piece (ty_drop j ht.out) (by rw [drop_len, hN.out]; omega)
            have hnx1 := drop_tl j f
            rw [hd1] at hnx1
            have hr : r1 = .nil := by
              have h9 : r1 = f.drop (j + 1) := hnx1
              rw [h9, drop_end f hN.out.symm]
            show (match f.drop j with | .piece k _ _ _ _ _ r => joinN k r | _ => false) = _
            rw [hd1, hr]; rfl
          rw [hjn]; rfl
      subst hXt
      clear hI
      go_wp2
      go_ret
      exact ⟨rfl, hB.out⟩
end
end Go.Proofs.YtmchfoedjajbdaaGreat
