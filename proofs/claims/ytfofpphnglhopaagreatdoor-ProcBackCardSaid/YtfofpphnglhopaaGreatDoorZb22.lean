/-
  A part. Conditions: each theorem's own.
-/
import Derived.Test.YtfofpphnglhopaaGreatDoorZb0
import Derived.Test.YtfofpphnglhopaaGreatDoorZb21
set_option maxHeartbeats 8000000
set_option maxRecDepth 100000
namespace Go.Proofs.YtfofpphnglhopaaGreatDoor
open Go Go.RowKit Go.ChangeMaps
theorem PSt.len {most : Nat} {ps ps' : List Pt} {ns ns' : Nts} {mk mk' : List Nat} (t : PSt most ps ns mk ps' ns' mk') : mk.length ≤ mk'.length + 1 := by
  cases t with
  | same => omega
  | now v h1 h2 => omega
  | note v h1 h2 h3 => omega
  | mark => rw [List.length_append]; omega
  | undo h1 => rw [List.length_append]; simp
theorem Since.len {ps0 ps : List Pt} {ns0 ns : Nts} {mk0 mk : List Nat} (h : Since ps0 ns0 mk0 ps ns mk) : mk0.length < mk.length := by
  obtain ⟨ns1, mk1, e1, e2, e3, e4⟩ := h
  rw [e2, List.length_append, List.length_cons]; omega
theorem Since.undo {w : World} {B : Nat} {F : Nat → Prop} {c : Sy} {pb lb most nest N : Nat} {s : St} {ps0 ps : List Pt} {ns0 ns : Nts} {mk0 mk : List Nat} {m : Nat} (P : PI w B F c pb lb most nest s ps ns (mk ++ [m]) N) (h0 : ∀ p ∈ ps0, p.n ≤ mk0.length) (h : Since ps0 ns0 mk0 ps ns (mk ++ [m])) :
    (mk0.length < mk.length ∧ Since ps0 ns0 mk0 (back (ns.drop m) ps) (ns.take m) mk) ∨ (back (ns.drop m) ps = ps0 ∧ ns.take m = ns0 ∧ mk = mk0) := by
  have hl := h.len
  rw [List.length_append, List.length_singleton] at hl
  by_cases e : mk0.length < mk.length
  · have hL := P.l
    rw [List.reverse_append] at hL
    exact .inl ⟨e, PSt.since (PSt.undo (most := most) hL.1) h0 h e⟩
  · exact .inr (h.done (by omega))
theorem lawBack_any (l m : List Opd) (v u : Value) (w : World) (h : Ops w v l) (k : Ops w u m) :
    Calls Tryz.prog 4 #[v, u] w fun e w' => e = .returned (.bool true) ∧ w.grownBy w' none := by
  have hfew := few_any l v w w h (fun _ _ => rfl) (Nat.le_refl _)
  have hfex := few_any m u w w k (fun _ _ => rfl) (Nat.le_refl _)
  obtain ⟨A, c, rfl, hc, hcm⟩ := h.form
  obtain ⟨A2, cM, rfl, hcM, hcmM⟩ := k.form
  unfold maxLen at hcm hcmM
  have haw := fun W => awake9_any W
  by_cases hf : fewB l = true ∧ fewB m = true
  · obtain ⟨hf, hfm⟩ := hf
    rw [hf] at hfew
    rw [hfm] at hfex
    have hl50 := (few_true hf).1
    have hm50 := (few_true hfm).1
    have hops := Lib.hid h
    have hopm := Lib.hid k
    have hin : ∀ k (hk : k < l.length), In4 l[k] := fun k hk => h.2 _ (List.getElem_mem hk)
    have hinm : ∀ j (hk : j < m.length), In4 m[j] := fun j hk => k.2 _ (List.getElem_mem hk)
    replace hin := Lib.hid hin
    replace hinm := Lib.hid hinm
    have hbg : Calls Tryz.prog 17 #[.int .i64 1000] w _ := begun9_any 1000 (by decide) w
    have hq100 : ∀ k (hk : k < l.length), l[k].2.2.2.2.2.1.size ≤ 100 ∧ l[k].2.2.2.2.2.2.size ≤ 100 := fun k hk => (few_true hf).2 k hk
    have hqm100 : ∀ k (hk : k < m.length), m[k].2.2.2.2.2.1.size ≤ 100 ∧ m[k].2.2.2.2.2.2.size ≤ 100 := fun k hk => (few_true hfm).2 k hk
    replace hq100 := Lib.hid hq100
    replace hqm100 := Lib.hid hqm100
    clear h k hf hfm
    obtain ⟨KL, hKL⟩ : ∃ KL, l.length = KL := ⟨_, rfl⟩
    obtain ⟨KM, hKM⟩ : ∃ KM, m.length = KM := ⟨_, rfl⟩
    rw [hKL] at hc hl50 hfew hops ⊢
    rw [hKM] at hcM hm50 hfex hopm ⊢
    replace hKL := Lib.hid hKL
    replace hKM := Lib.hid hKM
    replace haw := Lib.hid haw
    replace hbg := Lib.hid hbg
    go_enter Tryz.func4, Tryz.ntmps4
    go_wp2_with fail
    refine hfew.mono ?_
    rintro e w' ⟨rfl, hw⟩
    obtain rfl := hw.symm
    clear hfew hw
    go_wp2_with fail
    refine hfex.mono ?_
    rintro e w' ⟨rfl, hw⟩
    obtain rfl := hw.symm
    clear hfex hw
    go_wp2_with fail
    refine hbg.out.mono ?_
    rintro e w0 ⟨fb, plb, tb, lb, pb, bb, ppb, rfl, F0, hP0, cc0⟩
    have g0 : w.grownBy w0 none := cc0.none (fun _ _ h => h)
    clear hbg
    unfold ptrV
    go_upto_region 4 with fail
    have gA : w0.grownBy (w0.alloc (.cells #[.pointer (some ⟨fb, 0, none⟩), .pointer (some ⟨plb, 0, none⟩), .pointer (some ⟨tb, 0, none⟩), .pointer (some ⟨lb, 0, none⟩), .pointer (some ⟨pb, 0, none⟩)] 48)) none := World.grownBy_alloc w0 _ _
    have zb : Blk (w0.alloc (.cells #[.pointer (some ⟨fb, 0, none⟩), .pointer (some ⟨plb, 0, none⟩), .pointer (some ⟨tb, 0, none⟩), .pointer (some ⟨lb, 0, none⟩), .pointer (some ⟨pb, 0, none⟩)] 48)) w0.heap.size [.pointer (some ⟨fb, 0, none⟩), .pointer (some ⟨plb, 0, none⟩), .pointer (some ⟨tb, 0, none⟩), .pointer (some ⟨lb, 0, none⟩), .pointer (some ⟨pb, 0, none⟩)] 48 := Blk.new w0 _ _
    generalize (w0.alloc (.cells #[.pointer (some ⟨fb, 0, none⟩), .pointer (some ⟨plb, 0, none⟩), .pointer (some ⟨tb, 0, none⟩), .pointer (some ⟨lb, 0, none⟩), .pointer (some ⟨pb, 0, none⟩)] 48)) = w1 at gA zb ⊢
    obtain ⟨z, hz⟩ : ∃ z, w0.heap.size = z := ⟨_, rfl⟩
    simp only [hz] at zb ⊢
    have g1 := grownBy_tr g0 gA
    obtain ⟨hP1, cP1⟩ := hP0.grown gA
    have kz1 : Hid (Kq w1 F0 pb z (wC fb plb tb lb pb) 48) := Lib.hid ⟨zb, fun h => by have := hP0.sys.lt h; omega, by have := hP0.prc.lt; omega, nl_world⟩
    have hI1 := Lib.hid (begunI hP1)
    obtain ⟨B, hBE⟩ : ∃ B, w.heap.size = B := ⟨_, rfl⟩
    have bl1 : Hid (Below B w w1) := Lib.hid (by rw [← hBE]; exact below_of_grown g1)
    rw [hBE] at hI1
    replace hBE := Lib.hid hBE
    clear hP0 cc0 gA g0 g1 hP1 cP1 zb hz
    go_wp2
    go_loopw [7] (fun nv wr => ∃ (n : Nat) (F : Nat → Prop) (s : St) (ps : List Pt) (ns : Nts) (mk : List Nat), n ≤ KL ∧ nv = .int .i64 (n : Int) ∧ Hid (PI wr B F (c9 fb plb tb) pb lb 1000 4 s ps ns mk (3 * n + 10)) ∧ Hid (Kq wr F pb z (wC fb plb tb lb pb) 48) ∧ Hid (Below B w wr)) (fun nv _ => KL - (intOf nv).toNat)
    case atStart => exact ⟨0, F0, _, _, _, _, Nat.zero_le _, rfl, hI1, kz1, bl1⟩
    case round =>
      clear hI1 kz1 bl1
      obtain ⟨n, F, s, ps, ns, mk, hn, rfl, hI, kz, bl⟩ := hrel
      by_cases hlt : n < KL
      · have hlt' : n < l.length := by rw [hKL.out]; exact hlt
        obtain ⟨b, off, hAE, hb, c0, c1, c2, c3, c4, c5, c6⟩ := ops_keep hops.out (wr := wr) (fun g hg => bl.out.block g (by rw [← hBE.out]; exact hg)) n hlt'
        subst hAE
        obtain ⟨hg1, hg2⟩ := hI.out.r.grown (grownBy_drewN (grownBy_re wr) 1)
        have hI2 : PI (wr.drewN 1) B F (c9 fb plb tb) pb lb 1000 4 s ps ns mk (3 * n + 10) := ⟨hg1, hI.out.i, hI.out.l, hI.out.m, hI.out.n, hI.out.cm, hI.out.cr⟩
        have hdo := does_any hI2 (by omega) plb l[n] (hin.out n hlt') (hq100.out n hlt').1 (hq100.out n hlt').2
        have hnext := fun (er : Int) (w' : World) (h : PDid B F (c9 fb plb tb) pb lb 1000 4 ps ns mk (3 * n + 10 + 3) (wr.drewN 1) (askP l[n].1) er w') => PDid.next hI2 (by omega) h
        have hbB : b < B := by rw [← hBE.out]; exact hb
        have hbr : b < wr.heap.size := Nat.lt_of_lt_of_le hbB hI.out.r.hB
        unfold opV at hdo
        obtain ⟨aq, haq⟩ : ∃ aq, askP l[n].1 = aq := ⟨_, rfl⟩
        rw [haq] at hdo hnext
        clear haq
        generalize l[n].1 = q0 at hdo c0
        generalize l[n].2.1 = q1 at hdo c1
        generalize l[n].2.2.1 = q2 at hdo c2
        generalize l[n].2.2.2.1 = q3 at hdo c3
        generalize l[n].2.2.2.2.1 = q4 at hdo c4
        generalize l[n].2.2.2.2.2.1 = q5 at hdo c5
        generalize l[n].2.2.2.2.2.2 = q6 at hdo c6
        unfold ptrV at hdo
        have z0 := kz.out.1.cell (i := 0) rfl
        have z1 := kz.out.1.cell (i := 1) rfl
        have z2 := kz.out.1.cell (i := 2) rfl
        have z3 := kz.out.1.cell (i := 3) rfl
        have z4 := kz.out.1.cell (i := 4) rfl
        have hzl := kz.out.1.lt
        have hkp : ∀ w' F', PCh B F F' pb wr w' → w'.cell? ⟨z, 0, none⟩ = some (.pointer (some ⟨fb, 0, none⟩)) ∧ w'.cell? ⟨z, 1, none⟩ = some (.pointer (some ⟨plb, 0, none⟩)) ∧ w'.cell? ⟨z, 2, none⟩ = some (.pointer (some ⟨tb, 0, none⟩)) ∧ w'.cell? ⟨z, 3, none⟩ = some (.pointer (some ⟨lb, 0, none⟩)) ∧ w'.cell? ⟨z, 4, none⟩ = some (.pointer (some ⟨pb, 0, none⟩)) ∧ w'.cell? ⟨b, off + n * 7, none⟩ = some (.int .i64 q0) ∧ w'.cell? ⟨b, off + n * 7 + 1, none⟩ = some (.int .i64 q1) ∧ w'.cell? ⟨b, off + n * 7 + 2, none⟩ = some (.int .i64 q2) ∧ w'.cell? ⟨b, off + n * 7 + 3, none⟩ = some (.int .i64 q3) ∧ w'.cell? ⟨b, off + n * 7 + 4, none⟩ = some (.int .i64 q4) ∧ w'.cell? ⟨b, off + n * 7 + 5, none⟩ = some (.string q5) ∧ w'.cell? ⟨b, off + n * 7 + 6, none⟩ = some (.string q6) := fun w' F' hC => by
            have hz := (kz.out.ch hC).1
            have hb' := hC.low b hbB
            exact ⟨hz.cell (i := 0) rfl, hz.cell (i := 1) rfl, hz.cell (i := 2) rfl, hz.cell (i := 3) rfl, hz.cell (i := 4) rfl, (World.cell?_of_block (a := ⟨b, off + n * 7, none⟩) hb').trans c0, (World.cell?_of_block (a := ⟨b, off + n * 7 + 1, none⟩) hb').trans c1, (World.cell?_of_block (a := ⟨b, off + n * 7 + 2, none⟩) hb').trans c2, (World.cell?_of_block (a := ⟨b, off + n * 7 + 3, none⟩) hb').trans c3, (World.cell?_of_block (a := ⟨b, off + n * 7 + 4, none⟩) hb').trans c4, (World.cell?_of_block (a := ⟨b, off + n * 7 + 5, none⟩) hb').trans c5, (World.cell?_of_block (a := ⟨b, off + n * 7 + 6, none⟩) hb').trans c6⟩
        replace hkp := Lib.hid hkp
        replace hdo := Lib.hid hdo
        replace hnext := Lib.hid hnext
        replace hg2 := Lib.hid hg2
        clear hg1 hI2
        have hi0 : (0 : Int) ≤ (n : Int) := by omega
        have hi1 : (n : Int) < (KL : Int) := by omega
        go_upto_region 9 with fail
        go_region_held3 (fun w' => w'.cell? ⟨z, 0, none⟩ = some (.pointer (some ⟨fb, 0, none⟩)) ∧ w'.cell? ⟨z, 1, none⟩ = some (.pointer (some ⟨plb, 0, none⟩)) ∧ w'.cell? ⟨z, 2, none⟩ = some (.pointer (some ⟨tb, 0, none⟩)) ∧ w'.cell? ⟨z, 3, none⟩ = some (.pointer (some ⟨lb, 0, none⟩)) ∧ w'.cell? ⟨z, 4, none⟩ = some (.pointer (some ⟨pb, 0, none⟩)) ∧ w'.cell? ⟨b, off + n * 7, none⟩ = some (.int .i64 q0) ∧ w'.cell? ⟨b, off + n * 7 + 1, none⟩ = some (.int .i64 q1) ∧ w'.cell? ⟨b, off + n * 7 + 2, none⟩ = some (.int .i64 q2) ∧ w'.cell? ⟨b, off + n * 7 + 3, none⟩ = some (.int .i64 q3) ∧ w'.cell? ⟨b, off + n * 7 + 4, none⟩ = some (.int .i64 q4) ∧ w'.cell? ⟨b, off + n * 7 + 5, none⟩ = some (.string q5) ∧ w'.cell? ⟨b, off + n * 7 + 6, none⟩ = some (.string q6))
          (first | go_keep | exact hk)
          ((go_at_call 18; refine hdo.out.mono ?_; rintro e w6 ⟨rn, rS, rer, rfl, hdid⟩; obtain ⟨F6, s6, ps6, ns6, mk6, hI6, hst, hC6, h43, hmore⟩ := hnext.out rer w6 hdid; have cT := hg2.out.trans hC6; have hk := hkp.out w6 F6 cT; replace hI6 := Lib.hid hI6; replace hst := Lib.hid hst; replace h43 := Lib.hid h43; replace hmore := Lib.hid hmore))
        have kz6 := Lib.hid (kz.out.ch cT)
        have bl6 := Lib.hid (below_tr bl.out cT.below)
        clear hk hkp hdo hC6 c0 c1 c2 c3 c4 c5 c6 z0 z1 z2 z3 z4 hbr hnext hdid hg2 hzl
        clear hI kz bl cT h43 hst hmore
        go_wp2
        go_roundw
        case rel => exact ⟨n + 1, F6, s6, ps6, ns6, mk6, by omega, by go_num, hI6, kz6, bl6⟩
        case measure => simp [intOf]; omega
      · obtain rfl : n = KL := by omega
        have hi1 : ¬ (n : Int) < (n : Int) := by omega
        obtain ⟨N1, hN⟩ : ∃ N, 3 * n + 10 = N := ⟨_, rfl⟩
        have hNb : N1 ≤ 160 := by omega
        rw [hN] at hI
        replace hN := Lib.hid hN
        clear hops hin hq100 hlt
        have htd := told_k hI.out (by omega) plb
        unfold ptrV at htd
        replace htd := Lib.hid htd
        have z0 := kz.out.1.cell (i := 0) rfl
        have z1 := kz.out.1.cell (i := 1) rfl
        have z2 := kz.out.1.cell (i := 2) rfl
        have z3 := kz.out.1.cell (i := 3) rfl
        have z4 := kz.out.1.cell (i := 4) rfl
        have hzl := kz.out.1.lt
        go_upto_region 10 with fail
        go_wp2_with fail
        refine htd.out.mono ?_
        rintro e w5 ⟨vw, rfl, hI5, cT5, hr5⟩
        have hX0 := fun (W : World) F' s' N' (Q : PI W B F' (c9 fb plb tb) pb lb 1000 4 s' ps ns mk N') => (congrArg (tI ps ns mk) (Q.ids_same hI.out))
        have kz5 := Lib.hid (kz.out.ch cT5)
        have bl5 := Lib.hid (below_tr bl.out cT5.below)
        generalize tI ps ns mk (sortI (ids s.hs)) = X at hr5 hX0
        replace hX0 := Lib.hid hX0
        replace hr5 := Lib.hid hr5
        have hmk := pr_marks hI5.r
        have hdm := dMark hI5
        unfold ptrV at hmk hdm
        have hp0 : ∀ p ∈ ps, p.n ≤ mk.length := fun p hp => by have := hI5.l.le p hp; rwa [List.length_reverse] at this
        replace hp0 := Lib.hid hp0
        replace hdm := Lib.hid hdm
        replace hI5 := Lib.hid hI5
        clear htd hI kz bl cT5 z0 z1 z2 z3 z4 hzl
        have z3 := kz5.out.1.cell (i := 3) rfl
        have z4 := kz5.out.1.cell (i := 4) rfl
        have hzl := kz5.out.1.lt
        go_wp2_with fail
        refine hmk.mono ?_
        rintro e w' ⟨rfl, hw⟩
        obtain rfl := hw.symm
        clear hmk hw
        go_wp2_with fail
        refine hdm.out.mono ?_
        rintro e w6 ⟨nn, er, rfl, hcase⟩
        clear hdm z3 z4 hzl
        rcases hcase with ⟨rfl, hM4, hP6, cT6⟩ | ⟨rfl, hM4, hP6, cT6⟩
        · have hI6 : Hid (PI w6 B F (c9 fb plb tb) pb lb 1000 4 s ps ns (mk ++ [ns.length]) N1) := Lib.hid ⟨hP6, hI5.out.i, (PSt.mark (most := 1000) ps ns mk).lv hI5.out.l, hI5.out.m, hI5.out.n, hI5.out.cm, hI5.out.cr⟩
          have kz6 := Lib.hid (kz5.out.ch cT6)
          have bl6 := Lib.hid (below_tr bl5.out cT6.below)
          have hr6 := Lib.hid (hr5.out.ch cT6)
          have hsn6 : Hid (Since ps ns mk ps ns (mk ++ [ns.length])) := Lib.hid since_mark
          clear hI5 kz5 bl5 hr5 cT6 hP6
          obtain ⟨M0, hM0⟩ : ∃ M, mk.length = M := ⟨_, rfl⟩
          rw [hM0] at hM4 ⊢
          obtain ⟨ps0, hps0⟩ : ∃ x, x = ps := ⟨_, rfl⟩
          obtain ⟨ns0, hns0⟩ : ∃ x, x = ns := ⟨_, rfl⟩
          obtain ⟨mk0, hmk0⟩ : ∃ x, x = mk := ⟨_, rfl⟩
          subst hps0 hns0 hmk0
          replace hM0 := Lib.hid hM0
          have hin0 : n ≤ 50 := by omega
          clear hi1 hn
          go_wp2
          go_loopw [12] (fun nv wr => ∃ (n : Nat) (F : Nat → Prop) (s : St) (ps : List Pt) (ns : Nts) (mk : List Nat), n ≤ KM ∧ nv = .int .i64 (n : Int) ∧ Hid (PI wr B F (c9 fb plb tb) pb lb 1000 4 s ps ns mk (N1 + 3 * n)) ∧ Hid (Kq wr F pb z (wC fb plb tb lb pb) 48) ∧ Hid (Below B w wr) ∧ Hid (KRow wr F pb vw X) ∧ Hid (Since ps0 ns0 mk0 ps ns mk)) (fun nv _ => KM - (intOf nv).toNat)
          case atStart => exact ⟨0, F, s, ps0, ns0, mk0 ++ [ns0.length], Nat.zero_le _, rfl, hI6, kz6, bl6, hr6, hsn6⟩
          case round =>
            clear hI6 kz6 bl6 hr6 hsn6
            obtain ⟨n, F, s, ps, ns, mk, hn, rfl, hI, kz, bl, hr, hsn⟩ := hrel
            by_cases hlt : n < KM
            · have hlt' : n < m.length := by rw [hKM.out]; exact hlt
              obtain ⟨b, off, hAE, hb, c0, c1, c2, c3, c4, c5, c6⟩ := ops_keep hopm.out (wr := wr) (fun g hg => bl.out.block g (by rw [← hBE.out]; exact hg)) n hlt'
              subst hAE
              have hinq := hinm.out n hlt'
              have hq100q := hqm100.out n hlt'
              generalize m[n] = q at hinq hq100q c0 c1 c2 c3 c4 c5 c6
              obtain ⟨q0, q1, q2, q3, q4, q5, q6⟩ := q
              dsimp only at hq100q c0 c1 c2 c3 c4 c5 c6
              have hbB : b < B := by rw [← hBE.out]; exact hb
              have hbr : b < wr.heap.size := Nat.lt_of_lt_of_le hbB hI.out.r.hB
              have hask := ask_any (q0, q1, q2, q3, q4, q5, q6) hinq wr
              unfold opV at hask
              dsimp only at hask
              have hi0 : (0 : Int) ≤ (n : Int) := by omega
              have hi1 : (n : Int) < (KM : Int) := by omega
              have hc1 := Lib.hid (⟨c0, c1, c2, c3, c4, c5, c6⟩ : _ ∧ _ ∧ _ ∧ _ ∧ _ ∧ _ ∧ _)
              replace hinq := Lib.hid hinq
              replace hq100q := Lib.hid hq100q
              go_wp2_with fail
              refine hask.mono ?_
              rintro e w2 ⟨rfl, g2⟩
              obtain ⟨hg1, cT2⟩ := hI.out.r.grown g2
              have hI2 : Hid (PI w2 B F (c9 fb plb tb) pb lb 1000 4 s ps ns mk (N1 + 3 * n)) := Lib.hid ⟨hg1, hI.out.i, hI.out.l, hI.out.m, hI.out.n, hI.out.cm, hI.out.cr⟩
              have kz2 := Lib.hid (kz.out.ch cT2)
              have bl2 := Lib.hid (below_tr bl.out cT2.below)
              have hr2 := Lib.hid (hr.out.ch cT2)
              have hb2 := cT2.low b hbB
              obtain ⟨c0', c1', c2', c3', c4', c5', c6'⟩ := hc1.out
              have hc2 := Lib.hid (And.intro ((World.cell?_of_block (a := ⟨b, off + n * 7, none⟩) hb2).trans c0') (And.intro ((World.cell?_of_block (a := ⟨b, off + n * 7 + 1, none⟩) hb2).trans c1') (And.intro ((World.cell?_of_block (a := ⟨b, off + n * 7 + 2, none⟩) hb2).trans c2') (And.intro ((World.cell?_of_block (a := ⟨b, off + n * 7 + 3, none⟩) hb2).trans c3') (And.intro ((World.cell?_of_block (a := ⟨b, off + n * 7 + 4, none⟩) hb2).trans c4') (And.intro ((World.cell?_of_block (a := ⟨b, off + n * 7 + 5, none⟩) hb2).trans c5') ((World.cell?_of_block (a := ⟨b, off + n * 7 + 6, none⟩) hb2).trans c6')))))))
              clear hask hg1 cT2 g2 hI kz bl hr hb2 c0 c1 c2 c3 c4 c5 c6 c0' c1' c2' c3' c4' c5' c6' hc1 hbr hb
              have hsl := hsn.out.len
              rw [hM0.out] at hsl
              by_cases hsk : askP q0 = 10 ∧ mk.length = M0 + 1
              · have ha2 : (askP q0 == 10) = true := by rw [beq_iff_eq]; exact hsk.1
                have hmm2 : ((mk.length : Int) == (M0 : Int) + 1) = true := by rw [beq_iff_eq]; omega
                have hmk := pr_marks hI2.out.r
                unfold ptrV at hmk
                have z3 := kz2.out.1.cell (i := 3) rfl
                have hzl := kz2.out.1.lt
                clear hsl hsk
                go_wp2_with fail
                refine hmk.mono ?_
                rintro e w' ⟨rfl, hw⟩
                obtain rfl := hw.symm
                clear hmk hw z3 hzl
                go_wp2
                go_roundw
                case rel => exact ⟨n + 1, F, s, ps, ns, mk, by omega, by go_num, Lib.hid ⟨hI2.out.r, hI2.out.i.le (by omega), hI2.out.l, hI2.out.m, by have := hI2.out.n; omega, hI2.out.cm, hI2.out.cr⟩, kz2, bl2, hr2, hsn⟩
                case measure => simp [intOf]; omega
              · have hlens : Hid (∀ mk' : List Nat, (askP q0 ≠ 10 → mk.length ≤ mk'.length) → mk.length ≤ mk'.length + 1 → mk0.length < mk'.length) := Lib.hid (fun mk' e1 e2 => by
                  have := hM0.out
                  by_cases e : askP q0 = 10
                  · have : mk.length ≠ M0 + 1 := fun q => hsk ⟨e, q⟩
                    omega
                  · have := e1 e
                    omega)
                have hcs : ((askP q0 == 10) = true ∧ ((mk.length : Int) == (M0 : Int) + 1) = false) ∨ (askP q0 == 10) = false := by
                  by_cases e : askP q0 = 10
                  · exact .inl ⟨by rw [beq_iff_eq]; exact e, by rw [beq_eq_false_iff_ne]; have : mk.length ≠ M0 + 1 := fun q => hsk ⟨e, q⟩; omega⟩
                  · exact .inr (by rw [beq_eq_false_iff_ne]; exact e)
                clear hsl hsk
                rcases hcs with ⟨ha2, hmm2⟩ | ha2
                case' inl =>
                  have hmk := pr_marks hI2.out.r
                  unfold ptrV at hmk
                  have z3 := kz2.out.1.cell (i := 3) rfl
                  have hzl := kz2.out.1.lt
                  go_wp2_with fail
                  refine hmk.mono ?_
                  rintro e w' ⟨rfl, hw⟩
                  obtain rfl := hw.symm
                  go_upto_region 19 with fail
                  clear hmk hw z3 hzl ha2 hmm2
                case' inr =>
                  go_upto_region 19 with fail
                  clear ha2
                all_goals
                  obtain ⟨hg1, hg2⟩ := hI2.out.r.grown (grownBy_drewN (grownBy_re w2) 1)
                  have hI3 : PI (w2.drewN 1) B F (c9 fb plb tb) pb lb 1000 4 s ps ns mk (N1 + 3 * n) := ⟨hg1, hI2.out.i, hI2.out.l, hI2.out.m, hI2.out.n, hI2.out.cm, hI2.out.cr⟩
                  have hdo := does_any hI3 (by omega) plb (q0, q1, q2, q3, q4, q5, q6) hinq.out hq100q.out.1 hq100q.out.2
                  have hnext := fun (er : Int) (w' : World) (h : PDid B F (c9 fb plb tb) pb lb 1000 4 ps ns mk (N1 + 3 * n + 3) (w2.drewN 1) (askP q0) er w') => PDid.next hI3 (by omega) h
                  unfold opV at hdo
                  dsimp only at hdo
                  unfold ptrV at hdo
                  have z0 := kz2.out.1.cell (i := 0) rfl
                  have z1 := kz2.out.1.cell (i := 1) rfl
                  have z2 := kz2.out.1.cell (i := 2) rfl
                  have z3 := kz2.out.1.cell (i := 3) rfl
                  have z4 := kz2.out.1.cell (i := 4) rfl
                  have hzl := kz2.out.1.lt
                  have hkp : ∀ w' F', PCh B F F' pb w2 w' → w'.cell? ⟨z, 0, none⟩ = some (.pointer (some ⟨fb, 0, none⟩)) ∧ w'.cell? ⟨z, 1, none⟩ = some (.pointer (some ⟨plb, 0, none⟩)) ∧ w'.cell? ⟨z, 2, none⟩ = some (.pointer (some ⟨tb, 0, none⟩)) ∧ w'.cell? ⟨z, 3, none⟩ = some (.pointer (some ⟨lb, 0, none⟩)) ∧ w'.cell? ⟨z, 4, none⟩ = some (.pointer (some ⟨pb, 0, none⟩)) ∧ w'.cell? ⟨b, off + n * 7, none⟩ = some (.int .i64 q0) ∧ w'.cell? ⟨b, off + n * 7 + 1, none⟩ = some (.int .i64 q1) ∧ w'.cell? ⟨b, off + n * 7 + 2, none⟩ = some (.int .i64 q2) ∧ w'.cell? ⟨b, off + n * 7 + 3, none⟩ = some (.int .i64 q3) ∧ w'.cell? ⟨b, off + n * 7 + 4, none⟩ = some (.int .i64 q4) ∧ w'.cell? ⟨b, off + n * 7 + 5, none⟩ = some (.string q5) ∧ w'.cell? ⟨b, off + n * 7 + 6, none⟩ = some (.string q6) := fun w' F' hC => by
                      have hz := (kz2.out.ch hC).1
                      have hb' := hC.low b hbB
                      obtain ⟨c0, c1, c2, c3, c4, c5, c6⟩ := hc2.out
                      exact ⟨hz.cell (i := 0) rfl, hz.cell (i := 1) rfl, hz.cell (i := 2) rfl, hz.cell (i := 3) rfl, hz.cell (i := 4) rfl, (World.cell?_of_block (a := ⟨b, off + n * 7, none⟩) hb').trans c0, (World.cell?_of_block (a := ⟨b, off + n * 7 + 1, none⟩) hb').trans c1, (World.cell?_of_block (a := ⟨b, off + n * 7 + 2, none⟩) hb').trans c2, (World.cell?_of_block (a := ⟨b, off + n * 7 + 3, none⟩) hb').trans c3, (World.cell?_of_block (a := ⟨b, off + n * 7 + 4, none⟩) hb').trans c4, (World.cell?_of_block (a := ⟨b, off + n * 7 + 5, none⟩) hb').trans c5, (World.cell?_of_block (a := ⟨b, off + n * 7 + 6, none⟩) hb').trans c6⟩
                  obtain ⟨c0, c1, c2, c3, c4, c5, c6⟩ := hc2.out
                  replace hkp := Lib.hid hkp
                  replace hdo := Lib.hid hdo
                  replace hnext := Lib.hid hnext
                  replace hg2 := Lib.hid hg2
                  clear hg1 hI3
                  have hbr : b < w2.heap.size := Nat.lt_of_lt_of_le hbB hI2.out.r.hB
                  go_region_held3 (fun w' => w'.cell? ⟨z, 0, none⟩ = some (.pointer (some ⟨fb, 0, none⟩)) ∧ w'.cell? ⟨z, 1, none⟩ = some (.pointer (some ⟨plb, 0, none⟩)) ∧ w'.cell? ⟨z, 2, none⟩ = some (.pointer (some ⟨tb, 0, none⟩)) ∧ w'.cell? ⟨z, 3, none⟩ = some (.pointer (some ⟨lb, 0, none⟩)) ∧ w'.cell? ⟨z, 4, none⟩ = some (.pointer (some ⟨pb, 0, none⟩)) ∧ w'.cell? ⟨b, off + n * 7, none⟩ = some (.int .i64 q0) ∧ w'.cell? ⟨b, off + n * 7 + 1, none⟩ = some (.int .i64 q1) ∧ w'.cell? ⟨b, off + n * 7 + 2, none⟩ = some (.int .i64 q2) ∧ w'.cell? ⟨b, off + n * 7 + 3, none⟩ = some (.int .i64 q3) ∧ w'.cell? ⟨b, off + n * 7 + 4, none⟩ = some (.int .i64 q4) ∧ w'.cell? ⟨b, off + n * 7 + 5, none⟩ = some (.string q5) ∧ w'.cell? ⟨b, off + n * 7 + 6, none⟩ = some (.string q6))
                    (first | go_keep | exact hk)
                    ((go_at_call 18; refine hdo.out.mono ?_; rintro e w6 ⟨rn, rS, rer, rfl, hdid⟩; obtain ⟨F6, s6, ps6, ns6, mk6, hI6, hst, hC6, h43, hmore⟩ := hnext.out rer w6 hdid; have cT := hg2.out.trans hC6; have hk := hkp.out w6 F6 cT; replace hI6 := Lib.hid hI6; replace hst := Lib.hid hst; clear h43; replace hmore := Lib.hid hmore))
                  have kz6 := Lib.hid (kz2.out.ch cT)
                  have bl6 := Lib.hid (below_tr bl2.out cT.below)
                  have hr6 := Lib.hid (hr2.out.ch cT)
                  have hsn6 := Lib.hid (hst.out.since hp0.out hsn.out (hlens.out _ hmore.out hst.out.len))
                  clear hk hkp hdo hC6 c0 c1 c2 c3 c4 c5 c6 z0 z1 z2 z3 z4 hbr hnext hdid hg2 hzl hmore hst hsn hlens hr2 cT hI2 kz2 bl2
                  go_wp2
                  go_roundw
                  case rel => exact ⟨n + 1, F6, s6, ps6, ns6, mk6, by omega, by go_num, hI6, kz6, bl6, hr6, hsn6⟩
                  case measure => simp [intOf]; omega
            · obtain rfl : n = KM := by omega
              have hi1 : ¬ (n : Int) < (n : Int) := by omega
              obtain ⟨N2, hN2⟩ : ∃ N, N1 + 3 * n = N := ⟨_, rfl⟩
              have hNb2 : N2 ≤ 310 := by omega
              rw [hN2] at hI
              replace hN2 := Lib.hid hN2
              have hor : Hid ((mk0.length < mk.length ∧ Since ps0 ns0 mk0 ps ns mk) ∨ (ps = ps0 ∧ ns = ns0 ∧ mk = mk0)) := Lib.hid (.inl ⟨hsn.out.len, hsn.out⟩)
              clear hsn hopm hinm hqm100 hlt
              go_wp2
              go_loopw [90] (fun _ wx => ∃ (F : Nat → Prop) (s : St) (ps : List Pt) (ns : Nts) (mk : List Nat), Hid (PI wx B F (c9 fb plb tb) pb lb 1000 4 s ps ns mk (N2)) ∧ Hid (Kq wx F pb z (wC fb plb tb lb pb) 48) ∧ Hid (Below B w wx) ∧ Hid (KRow wx F pb vw X) ∧ Hid ((mk0.length < mk.length ∧ Since ps0 ns0 mk0 ps ns mk) ∨ (ps = ps0 ∧ ns = ns0 ∧ mk = mk0))) (fun _ wx => marksOf lb wx)
              case atStart => exact ⟨F, s, ps, ns, mk, hI, kz, bl, hr, hor⟩
              case round =>
                clear hI kz bl hr hor
                obtain ⟨F, s, ps, ns, mk, hI, kz, bl, hr, hor⟩ := hrel
                have hmk := pr_marks hI.out.r
                have z3 := kz.out.1.cell (i := 3) rfl
                have z4 := kz.out.1.cell (i := 4) rfl
                have hzl := kz.out.1.lt
                unfold ptrV at hmk
                by_cases hgt : M0 < mk.length
                · have hgt2 : (M0 : Int) < (mk.length : Int) := by omega
                  have hsn : Since ps0 ns0 mk0 ps ns mk := by
                    rcases hor.out with ⟨_, q⟩ | ⟨_, _, q⟩
                    · exact q
                    · exfalso; have := hM0.out; rw [q] at hgt; omega
                  have hun := hI.out.undo (by omega) (fun e => by rw [e] at hgt; simp at hgt)
                  unfold ptrV at hun
                  replace hsn := Lib.hid hsn
                  go_wp2_with fail
                  refine hmk.mono ?_
                  rintro e w' ⟨rfl, hw⟩
                  obtain rfl := hw.symm
                  clear hmk hw
                  go_wp2_with fail
                  refine hun.mono ?_
                  rintro e w5 ⟨rfl, F5, s5, ps5, ns5, mk5, hI5, hln, hC5, mm, e1, e2, e3⟩
                  have kz5 := Lib.hid (kz.out.ch hC5)
                  have bl5 := Lib.hid (below_tr bl.out hC5.below)
                  have hr5 := Lib.hid (hr.out.ch hC5)
                  have hmm : Hid (marksOf lb w5 < marksOf lb wr) := Lib.hid (by rw [hI5.r.marksOf, hI.out.r.marksOf]; omega)
                  have hor5 : Hid ((mk0.length < mk5.length ∧ Since ps0 ns0 mk0 ps5 ns5 mk5) ∨ (ps5 = ps0 ∧ ns5 = ns0 ∧ mk5 = mk0)) := Lib.hid (by
                    have hIo := hI.out
                    have hso := hsn.out
                    rw [e1] at hIo hso
                    rw [e2, e3]
                    exact hso.undo hIo hp0.out)
                  replace hI5 := Lib.hid hI5
                  clear hun hC5 hI kz bl hr z3 z4 hzl hln hor hsn e1 e2 e3 hgt hgt2
                  go_wp2
                  go_roundw
                  case rel => exact ⟨F5, s5, ps5, ns5, mk5, hI5, kz5, bl5, hr5, hor5⟩
                  case measure => exact hmm.out
                · have hgt2 : ¬ (M0 : Int) < (mk.length : Int) := by omega
                  have hq : ps = ps0 ∧ ns = ns0 ∧ mk = mk0 := by
                    rcases hor.out with ⟨q, _⟩ | q
                    · exfalso; have := hM0.out; omega
                    · exact q
                  obtain ⟨rfl, rfl, rfl⟩ := hq
                  have htd := told_k hI.out (by omega) plb
                  unfold ptrV at htd
                  replace htd := Lib.hid htd
                  go_wp2_with fail
                  refine hmk.mono ?_
                  rintro e w' ⟨rfl, hw⟩
                  obtain rfl := hw.symm
                  clear hmk hw
                  clear z3 z4 hzl
                  have z0 := kz.out.1.cell (i := 0) rfl
                  have z1 := kz.out.1.cell (i := 1) rfl
                  have z2 := kz.out.1.cell (i := 2) rfl
                  have z3 := kz.out.1.cell (i := 3) rfl
                  have z4 := kz.out.1.cell (i := 4) rfl
                  have hzl := kz.out.1.lt
                  go_upto_region 23 with fail
                  go_wp2_with fail
                  refine htd.out.mono ?_
                  rintro e w7 ⟨vn, rfl, hI7, cT7, hr7⟩
                  rw [hX0.out _ _ _ _ hI.out] at hr7
                  obtain ⟨g1, cc1, cur1, rfl, hc1, hm1', hk1, hx1⟩ := hr7
                  obtain ⟨g2, cc2, cur2, rfl, hc2, hm2', hk2, hx2⟩ := hr.out.ch cT7
                  have bl7 := Lib.hid (below_tr bl.out cT7.below)
                  clear htd hI7 cT7 hr hX0 z0 z1 z2 z3 z4 hzl hor hp0
                  obtain ⟨XL, hXL⟩ : ∃ n, X.length = n := ⟨_, rfl⟩
                  rw [hXL] at hc1 hc2 ⊢
                  unfold maxLen at hm1' hm2'
                  replace hXL := Lib.hid hXL
                  go_wp2
                  go_loopw [14] (fun kv wr => ∃ k : Nat, k ≤ XL ∧ kv = .int .i64 (k : Int) ∧ Hid (w7.grownBy wr none)) (fun kv _ => XL - (intOf kv).toNat)
                  case atStart => exact ⟨0, Nat.zero_le _, rfl, Lib.hid (grownBy_re w7)⟩
                  case round =>
                    obtain ⟨k, hk, rfl, hD⟩ := hrel
                    by_cases hkl : k < XL
                    · have hkx : k < X.length := by rw [hXL.out]; exact hkl
                      have b1 : Blk wr g1 cur1 3 := (hD.out.block g1 hk1.1.lt (by simp)).trans hk1.1
                      have b2 : Blk wr g2 cur2 3 := (hD.out.block g2 hk2.1.lt (by simp)).trans hk2.1
                      have y1 := b1.cell (i := k) (hx1 k _ (List.getElem?_eq_getElem hkx))
                      have y2 := b2.cell (i := k) (hx2 k _ (List.getElem?_eq_getElem hkx))
                      have y3 := b1.lt
                      have y4 := b2.lt
                      generalize X[k] = x at y1 y2
                      clear b1 b2
                      have hi0 : (0 : Int) ≤ (k : Int) := by omega
                      have hi1 : (k : Int) < (XL : Int) := by omega
                      go_upto_region 29 with fail
                      go_quiet (fail)
                      go_wp2
                      go_roundw
                      case rel => exact ⟨k + 1, by omega, by go_num, Lib.hid (grownBy_drewN hD.out _)⟩
                      case measure => simp [intOf]; omega
                    · obtain rfl : k = XL := by omega
                      have hi1 : ¬ (k : Int) < (k : Int) := by omega
                      have hawx := Lib.hid (haw.out wr)
                      go_wp2_with fail
                      refine hawx.out.mono ?_
                      rintro e w6 ⟨rfl, g6⟩
                      have gE : Hid (w.grownBy w6 none) := Lib.hid (grownBy_tr (grownBy_tr (below_none (by rw [hBE.out]; exact bl7.out)) hD.out) g6)
                      clear hawx g6
                      go_wp2
                      go_ret
                      exact ⟨rfl, gE.out⟩
        · have hM5 : (mk.length : Int) = 4 := by omega
          rw [hM5]
          have hawx := Lib.hid (haw.out w6)
          have gq : Hid (w.grownBy w6 none) := Lib.hid (below_none (by rw [hBE.out]; exact below_tr bl5.out cT6.below))
          clear hM4 hP6 cT6 hI5 kz5 bl5 hr5 hX0
          go_wp2_with fail
          refine hawx.out.mono ?_
          rintro e w7 ⟨rfl, g7⟩
          have gE := Lib.hid (grownBy_tr gq.out g7)
          clear hawx g7 gq
          go_wp2
          go_ret
          exact ⟨rfl, gE.out⟩
  · have hawx := haw w
    obtain ⟨fb, hfb⟩ : ∃ b, fewB l = b := ⟨_, rfl⟩
    obtain ⟨fm, hfm⟩ : ∃ b, fewB m = b := ⟨_, rfl⟩
    rw [hfb] at hfew
    rw [hfm] at hfex
    have hcase : fb = false ∨ (fb = true ∧ fm = false) := by
      cases fb
      · exact .inl rfl
      · cases fm
        · exact .inr ⟨rfl, rfl⟩
        · exact absurd ⟨hfb, hfm⟩ hf
    clear h k hf hfb hfm haw
    rcases hcase with rfl | ⟨rfl, rfl⟩
    · clear hfex
      go_enter Tryz.func4, Tryz.ntmps4
      go_wp2_with fail
      refine hfew.mono ?_
      rintro e w' ⟨rfl, hw⟩
      obtain rfl := hw.symm
      clear hfew hw
      go_wp2_with fail
      refine hawx.mono ?_
      rintro e w' ⟨rfl, hg⟩
      replace hg := Lib.hid hg
      clear hawx
      go_wp2
      go_ret
      exact ⟨rfl, hg.out⟩
    · go_enter Tryz.func4, Tryz.ntmps4
      go_wp2_with fail
      refine hfew.mono ?_
      rintro e w' ⟨rfl, hw⟩
      obtain rfl := hw.symm
      clear hfew hw
      go_wp2_with fail
      refine hfex.mono ?_
      rintro e w' ⟨rfl, hw⟩
      obtain rfl := hw.symm
      clear hfex hw
      go_wp2_with fail
      refine hawx.mono ?_
      rintro e w' ⟨rfl, hg⟩
      replace hg := Lib.hid hg
      clear hawx
      go_wp2
      go_ret
      exact ⟨rfl, hg.out⟩
end Go.Proofs.YtfofpphnglhopaaGreatDoor
namespace Go.Proofs.YtfofpphnglhopaaGreatDoor.lawBack
open Go Go.ChangeShapes Go.WideShapes Go.ChangeAt Go.RowKit
open Go.ChangeMaps (open_string shut_string)
theorem contract (H : Type) (enc : TypeId × Value → H) (W : World) (base : Nat) (args : Array Value) (ds gs : List (DataW H)) (before : List MemPlace)
    (hval : ∀ (j : Nat) t v, Tryz.f4.params[j]? = some t → args[j]? = some v → Value.okWide Tryz.prog W .any base t v)
    (hW : DataW.Whole enc Tryz.prog Tryz.f4.params.toList Rows.procBackSpec.vars false W args.toList ds gs before) :
    Calls Tryz.prog 4 args W fun e W' => ∃ v, e = .returned v ∧ Rows.procBackSpec.post enc Tryz.prog Tryz.f4 false true false false W args v W' := by
  have hW' := hW
  obtain ⟨p, q, hA0, hV, rfl, hfz, hnd⟩ := hW
  have hA : DataW.TrodAll enc Tryz.prog W 0 (fun _ => true) true Tryz.f4.params.toList args.toList ds p := hA0
  rw [Tryz.params4] at hA hval
  obtain ⟨v0, vs0, d0, ds0, p0, q0, hargs, rfl, rfl, h0, r0⟩ := trodAll_cons hA
  obtain ⟨v1, vs1, d1, ds1, p1, q1, rfl, rfl, rfl, h1, r1⟩ := trodAll_cons r0
  obtain ⟨rfl, rfl, rfl⟩ := trodAll_nil r1
  obtain rfl : args = #[v0, v1] := by cases args; simp_all
  obtain ⟨rfl, rfl⟩ := trodVars_none hV
  clear hA0
  simp only [List.append_nil] at hW'
  have hlt : ∀ x ∈ p0 ++ p1, x.block < W.heap.size := fun x hx => by simpa using hW'.lt x (by simpa using hx)
  obtain ⟨l0, hl0⟩ := open_ops (hval 0 _ v0 rfl rfl) h0 (fun x hx => hlt x (by simp [hx]))
  obtain ⟨l1, hl1⟩ := open_ops (hval 1 _ v1 rfl rfl) h1 (fun x hx => hlt x (by simp [hx]))
  have t0 := fun (W' : World) (hb : Below W.heap.size W W') => Below.trod rowOut (by kernel_rfl) (of_decide_eq_true (by kernel_rfl)) h0 hb (fun x hx => hlt x (by simp [hx]))
  have t1 := fun (W' : World) (hb : Below W.heap.size W W') => Below.trod rowOut (by kernel_rfl) (of_decide_eq_true (by kernel_rfl)) h1 hb (fun x hx => hlt x (by simp [hx]))
  have e1 : (Rows.procBackSpec.fn H ([d0, d1] ++ [])).results = [.lit (.bool true)] := rfl
  have e2 : (Rows.procBackSpec.fn H ([d0, d1] ++ [])).args = [d0, d1] := rfl
  refine (lawBack_any l0 l1 v0 v1 W hl0 hl1).mono fun e W' ⟨he, hg⟩ => ?_
  have hb : Below W.heap.size W W' := ⟨hg.os, hg.tape, hg.output, hg.size, fun k hk => hg.block k hk (by simp)⟩
  subst he
  refine ⟨_, rfl, _, _, _, [], p0 ++ (p1 ++ []), [], hW', ?_, ?_, rfl, hb.frame _, fun h => by cases h⟩
  · rw [e1]; exact trodAll_cons_mk (shut_bool Tryz.underlying4 _) trodAll_mk0
  · rw [e2]; exact trodAll_cons_mk (t0 _ hb) (trodAll_cons_mk (t1 _ hb) trodAll_mk0)
theorem reads (os : Os) {H : Type} (enc : TypeId × Value → H) : ∃ places, DataW.whole enc Tryz.prog ((laidWorld os).forCall (fun _ _ => 0) ⟨#[], #[.slice none 0 0, .slice none 0 0], []⟩).memory Tryz.f4.params.toList Rows.procBackSpec.vars false #[Value.slice none 0 0, Value.slice none 0 0].toList 8 = some ([.nil, .nil], [], places) :=
  ⟨[], by kernel_rfl⟩
theorem lifted (os : Os) (started : os.Started) (H : Type) (enc : TypeId × Value → H) (F : Stop.Interp) :
    ReturnsInHanded {} Tryz.checked os 4 .any ((OpenSpec.ofChange Rows.procBackSpec).preRow enc Tryz.prog Tryz.f4 Rows.procBackRow.domain false Rows.procBackRow.laid) (((OpenSpec.ofChange Rows.procBackSpec).at F).post enc Tryz.prog Tryz.f4 false true false false) := by
  obtain ⟨places, hx⟩ := reads os enc
  refine returnsInHanded_of_row (C := Tryz.checked) (s := OpenSpec.ofChange Rows.procBackSpec) rowOwn started (by kernel_rfl) Tryz.func4
    (witness_row_at (enc := enc) (C := Tryz.checked) false (laidWorld os) #[.slice none 0 0, .slice none 0 0] rfl (by kernel_rfl) (by kernel_rfl) (by kernel_rfl)
      (OpenSpec.preRow_of_cond 8 hx (by kernel_rfl) (fun k hk => by cases hk) (by kernel_rfl) (laid_met os _))) ?_
  intro W base args ds gs before hval hW _ _ _ _ _ _
  exact contract H enc W base args ds gs before hval hW
theorem said : Rows.ProcBackSaid :=
  OpenClaim.holds_of_cond 4 Tryz.f4 rfl rfl rfl rfl rfl rfl rfl ⟨rfl, rfl, rfl, rfl, rfl⟩ rfl rfl rfl rfl rfl (by kernel_rfl) Tryz.func4 (by kernel_rfl)
    (of_decide_eq_true (by kernel_rfl)) (by unfold Func.isWrapper; first | (rw [if_pos (by decide +kernel)]; kernel_rfl) | (rw [if_neg (by decide +kernel)]; exact ⟨rfl, rfl⟩))
    (fun os started H enc _ F => by rw [OpenClaim.pre_eq_preRow]; exact lifted os started H enc F)
theorem plain (f : FuncId) (fn : Func) (hf : Tryz.pinned.checked.prog.funcNamed "whelk/whelklaw09.ProcBack" = some f) (hfn : Tryz.pinned.checked.prog.funcs[f]? = some fn) :
    true = Tryz.pinned.checked.prog.looks [] ∧ ∀ (j : Nat) t, fn.params[j]? = some t → Tryz.pinned.checked.prog.wantsStandIn t = false := by
  obtain rfl : f = 4 := Option.some.inj ((show Tryz.prog.funcNamed "whelk/whelklaw09.ProcBack" = some 4 by kernel_rfl).symm.trans hf) |>.symm
  obtain rfl : fn = Tryz.f4 := (Option.some.inj (Tryz.func4.symm.trans hfn)).symm
  refine ⟨by kernel_rfl, fun j t ht => ?_⟩
  rw [Tryz.params4] at ht
  have hm : t ∈ [43, 43] := by simpa using Array.mem_of_getElem? ht
  have hall : ([43, 43].all fun u => !Tryz.prog.wantsStandIn u) = true := by kernel_rfl
  exact (show Tryz.prog.wantsStandIn t = false by simpa using List.all_eq_true.1 hall t hm)
theorem card : Rows.ProcBackCardSaid :=
  Claim7.holds_tied_plain_at .later [] _ _ _ _ said (fun _ h => by cases h) (by kernel_rfl) (fun _ h => by cases h) procBack_row_tie rfl ⟨rfl, rfl⟩ (by kernel_rfl) rfl plain (by kernel_rfl)
end Go.Proofs.YtfofpphnglhopaaGreatDoor.lawBack
