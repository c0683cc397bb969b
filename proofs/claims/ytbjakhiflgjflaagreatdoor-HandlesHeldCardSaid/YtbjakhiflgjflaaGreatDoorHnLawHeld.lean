/-
  HandlesHeld: whatever calls come in, the law answers true and leaves the memory that was there as it was. Conditions: none.
-/
import Derived.Test.YtbjakhiflgjflaaGreatDoorHnAwake
import Derived.Test.YtbjakhiflgjflaaGreatDoorHnDoes2
import Derived.Test.YtbjakhiflgjflaaGreatDoorHnOps
import Derived.Test.YtbjakhiflgjflaaGreatDoorHnAll
import Derived.Test.YtbjakhiflgjflaaGreatDoorHnOwn
import Derived.Deep.RegionHeld3
import Derived.Deep.Cut
import Derived.Deep.DeepCutAuto
namespace Go.Proofs.YtbjakhiflgjflaaGreatDoor
open Go Go.RowKit Go.ChangeMaps

set_option maxHeartbeats 8000000 in
set_option maxRecDepth 100000 in
theorem lawHeld_any (l : List Opd) (v : Value) (w : World) (h : Ops w v l) :
    Calls Tryz.prog 4 #[v] w fun e w' => e = .returned (.bool true) ∧ w.grownBy w' none := by
  have hfew := few_any l v w h
  obtain ⟨A, c, rfl, hc, hcm⟩ := h.form
  unfold maxLen at hcm
  have haw := fun W => awake_any W
  by_cases hf : fewB l = true
  · rw [hf] at hfew
    have hl40 := (few_true hf).1
    have hq100 := (few_true hf).2
    have hops := h
    replace hops := Lib.hid hops
    have hin : ∀ k (hk : k < l.length), In4 l[k] := fun k hk => h.2 _ (List.getElem_mem hk)
    replace hin := Lib.hid hin
    replace hq100 := Lib.hid hq100
    clear h hf
    obtain ⟨KL, hKL⟩ : ∃ KL, l.length = KL := ⟨_, rfl⟩
    rw [hKL] at hc hl40 hfew hops ⊢
    replace hKL := Lib.hid hKL
    replace haw := Lib.hid haw
    have hbg := Lib.hid (begun_any w)
    go_enter Tryz.func4, Tryz.ntmps4
    go_wp2_with fail
    refine hfew.mono ?_
    rintro e w' ⟨rfl, hw⟩
    obtain rfl := hw.symm
    clear hfew hw
    go_wp2_with fail
    refine hbg.out.mono ?_
    rintro e w0 ⟨fb, plb, tb, rfl, F0, hS0, cc0⟩
    clear hbg
    unfold ptrV
    go_upto_region 4 with fail
    obtain ⟨z, hz⟩ : ∃ z, w0.heap.size = z := ⟨_, rfl⟩
    have gA : w0.grownBy (w0.alloc (.cells #[.pointer (some ⟨fb, 0, none⟩), .pointer (some ⟨plb, 0, none⟩), .pointer (some ⟨tb, 0, none⟩)] 29)) none := World.grownBy_alloc w0 _ _
    have zb : Blk (w0.alloc (.cells #[.pointer (some ⟨fb, 0, none⟩), .pointer (some ⟨plb, 0, none⟩), .pointer (some ⟨tb, 0, none⟩)] 29)) w0.heap.size [ptrV fb, ptrV plb, ptrV tb] 29 := Blk.new w0 _ _
    have hzF : ¬ F0 z := fun h => absurd (hS0.lt h) (by omega)
    generalize (w0.alloc (.cells #[.pointer (some ⟨fb, 0, none⟩), .pointer (some ⟨plb, 0, none⟩), .pointer (some ⟨tb, 0, none⟩)] 29)) = w1 at gA zb ⊢
    simp only [hz] at zb ⊢
    have hS1 := Lib.hid (hS0.grown gA)
    have kz1 : Hid (Kp w1 F0 z [ptrV fb, ptrV plb, ptrV tb] 29) := Lib.hid ⟨zb, hzF⟩
    have cc1 : Hid (Chg (fun _ => False) F0 w w1) := Lib.hid (cc0.trans (Chg.of_grown gA F0))
    clear hS0 cc0 gA zb hzF hz
    go_wp2
    go_loopw [5] (fun nv wr => ∃ (n : Nat) (F : Nat → Prop) (s : St), n ≤ KL ∧ nv = .int .i64 (n : Int) ∧ Hid (Sys wr F (begunC fb plb tb) s) ∧ Hid (Good ext8 s) ∧ Hid (Bnd s n) ∧ Hid (Kp wr F z [ptrV fb, ptrV plb, ptrV tb] 29) ∧ Hid (Chg (fun _ => False) F w wr)) (fun nv _ => KL - (intOf nv).toNat)
    case atStart => exact ⟨0, F0, begunS, Nat.zero_le _, rfl, hS1, Lib.hid good_begun, Lib.hid bnd_begun, kz1, cc1⟩
    case round =>
      clear hS1 kz1 cc1
      obtain ⟨n, F, s, hn, rfl, hS, hG, hB, kz, cc⟩ := hrel
      by_cases hlt : n < KL
      · have hlt' : n < l.length := by rw [hKL.out]; exact hlt
        obtain ⟨b, off, rfl, hb, c0, c1, c2, c3, c4, c5, c6, c7⟩ := ops_keep hops.out (wr := wr) (fun g hg => cc.out.block g hg nofun) n hlt'
        have hbF : ¬ F b := cc.out.foot b hb nofun
        have hbr : b < wr.heap.size := Nat.lt_of_lt_of_le hb cc.out.size
        have hdo := does_any (hS.out.keep (w' := wr.drewN 1) (Nat.le_refl _) fun _ _ => rfl) hG.out hB.out (by omega) (fun _ => Nat.zero_le _) l[n] (hin.out n hlt') (hq100.out n hlt')
        generalize l[n].1 = q0 at hdo c0
        generalize l[n].2.1 = q1 at hdo c1
        generalize l[n].2.2.1 = q2 at hdo c2
        generalize l[n].2.2.2.1 = q3 at hdo c3
        generalize l[n].2.2.2.2.1 = q4 at hdo c4
        generalize l[n].2.2.2.2.2.1 = q5 at hdo c5
        generalize l[n].2.2.2.2.2.2.1 = q6 at hdo c6
        generalize l[n].2.2.2.2.2.2.2 = q7 at hdo c7
        unfold ptrV at hdo
        have z0 := kz.out.1.cell (i := 0) rfl
        have z1 := kz.out.1.cell (i := 1) rfl
        have z2 := kz.out.1.cell (i := 2) rfl
        have hzl := kz.out.1.lt
        unfold ptrV at z0 z1 z2
        have hkp : ∀ w' F', Chg F F' wr w' → w'.cell? ⟨z, 0, none⟩ = some (.pointer (some ⟨fb, 0, none⟩)) ∧ w'.cell? ⟨z, 1, none⟩ = some (.pointer (some ⟨plb, 0, none⟩)) ∧ w'.cell? ⟨z, 2, none⟩ = some (.pointer (some ⟨tb, 0, none⟩)) ∧ w'.cell? ⟨b, off + n * 8, none⟩ = some (.int .i64 q0) ∧ w'.cell? ⟨b, off + n * 8 + 1, none⟩ = some (.int .i64 q1) ∧ w'.cell? ⟨b, off + n * 8 + 2, none⟩ = some (.int .i64 q2) ∧ w'.cell? ⟨b, off + n * 8 + 3, none⟩ = some (.int .i64 q3) ∧ w'.cell? ⟨b, off + n * 8 + 4, none⟩ = some (.bool q4) ∧ w'.cell? ⟨b, off + n * 8 + 5, none⟩ = some (.bool q5) ∧ w'.cell? ⟨b, off + n * 8 + 6, none⟩ = some (.bool q6) ∧ w'.cell? ⟨b, off + n * 8 + 7, none⟩ = some (.string q7) := fun w' F' hC => by
          have hz := (kz.out.chg hC).1
          exact ⟨hz.cell (i := 0) rfl, hz.cell (i := 1) rfl, hz.cell (i := 2) rfl, (cell_chg hC hbr hbF).trans c0, (cell_chg hC hbr hbF).trans c1, (cell_chg hC hbr hbF).trans c2, (cell_chg hC hbr hbF).trans c3, (cell_chg hC hbr hbF).trans c4, (cell_chg hC hbr hbF).trans c5, (cell_chg hC hbr hbF).trans c6, (cell_chg hC hbr hbF).trans c7⟩
        replace hkp := Lib.hid hkp
        replace hdo := Lib.hid hdo
        have hi0 : (0 : Int) ≤ (n : Int) := by omega
        have hi1 : (n : Int) < (KL : Int) := by omega
        go_upto_region 9 with fail
        go_region_held3 (fun w' => w'.cell? ⟨z, 0, none⟩ = some (.pointer (some ⟨fb, 0, none⟩)) ∧ w'.cell? ⟨z, 1, none⟩ = some (.pointer (some ⟨plb, 0, none⟩)) ∧ w'.cell? ⟨z, 2, none⟩ = some (.pointer (some ⟨tb, 0, none⟩)) ∧ w'.cell? ⟨b, off + n * 8, none⟩ = some (.int .i64 q0) ∧ w'.cell? ⟨b, off + n * 8 + 1, none⟩ = some (.int .i64 q1) ∧ w'.cell? ⟨b, off + n * 8 + 2, none⟩ = some (.int .i64 q2) ∧ w'.cell? ⟨b, off + n * 8 + 3, none⟩ = some (.int .i64 q3) ∧ w'.cell? ⟨b, off + n * 8 + 4, none⟩ = some (.bool q4) ∧ w'.cell? ⟨b, off + n * 8 + 5, none⟩ = some (.bool q5) ∧ w'.cell? ⟨b, off + n * 8 + 6, none⟩ = some (.bool q6) ∧ w'.cell? ⟨b, off + n * 8 + 7, none⟩ = some (.string q7))
          (first | go_keep | exact hk)
          ((go_at_call 13; refine hdo.out.mono ?_; rintro e w5 ⟨⟨ri, rS, rer, rfl⟩, F5, s5, hS5, hG5, hB5, cS⟩; have cT : Chg F F5 wr w5 := (Chg.drewN F wr 1).trans cS; have hk := hkp.out w5 F5 cT; replace hS5 := Lib.hid hS5; replace hG5 := Lib.hid hG5; replace hB5 := Lib.hid hB5))
        have kz5 := Lib.hid (kz.out.chg cT)
        have cc5 := Lib.hid (cc.out.trans cT)
        clear hk hkp hdo cS cT c0 c1 c2 c3 c4 c5 c6 c7 hS hG hB kz cc z0 z1 z2 hbF hbr
        have hmk := run_make9 w5
        go_upto_region 11 with fail
        have gB : w5.grownBy (w5.alloc (.cells (Array.replicate 9 (Value.int .i64 0)) 3)) none := World.grownBy_alloc w5 _ _
        have hb9 : Blk (w5.alloc (.cells (Array.replicate 9 (Value.int .i64 0)) 3)) w5.heap.size (cnt9 s5.hs []) 3 := Blk.new w5 _ _
        obtain ⟨hb, hhb⟩ : ∃ x, w5.heap.size = x := ⟨_, rfl⟩
        have hhF : ¬ F5 hb := fun h => absurd (hS5.out.lt h) (by omega)
        have hbz : hb ≠ z := by have := kz5.out.1.lt; omega
        have hwb : w.heap.size ≤ hb := by rw [← hhb]; exact cc5.out.size
        generalize (w5.alloc (.cells (Array.replicate 9 (Value.int .i64 0)) 3)) = w6 at gB hb9 ⊢
        simp only [hhb] at hb9 ⊢
        have hS6 := Lib.hid (hS5.out.grown gB)
        have kz6 := Lib.hid (kz5.out.grown gB)
        have cc6 := Lib.hid (cc5.out.trans (Chg.of_grown gB F5))
        have kh6 : Hid (Kp w6 F5 hb (cnt9 s5.hs []) 3) := Lib.hid ⟨hb9, hhF⟩
        have z0 := kz6.out.1.cell (i := 0) rfl
        have z2 := kz6.out.1.cell (i := 2) rfl
        have hzl := kz6.out.1.lt
        unfold ptrV at z0 z2
        have hal := Lib.hid (sys_All hS6.out)
        unfold ptrV at hal
        clear hmk gB hb9 hS5 kz5 cc5 hhb hhF
        go_wp2_with fail
        refine hal.out.mono ?_
        rintro e w7 ⟨va, rfl, hrow, hbl⟩
        have g7 := grown_of_below hbl
        obtain ⟨AA, ca, rfl, hca, hcam⟩ := hown_form hrow
        have hperm : Hid ((sortI (ids s5.hs)).Perm (ids s5.hs)) := Lib.hid (List.mergeSort_perm _ _)
        have hlen : (sortI (ids s5.hs)).length = s5.hs.length := by rw [hperm.out.length_eq]; unfold ids; rw [List.length_map]
        obtain ⟨LA, hLA⟩ : ∃ L, s5.hs.length = L := ⟨_, rfl⟩
        obtain ⟨sl, hsl⟩ : ∃ sl, sortI (ids s5.hs) = sl := ⟨_, rfl⟩
        rw [hLA] at hrow hca hlen ⊢
        rw [hsl] at hrow hperm hlen
        have hLAb : LA ≤ 2 * (n + 1) := by have := hS6.out.hsl; have := hB5.out.top; omega
        have hlook : Hid (∀ k (hk : k < sl.length), ∃ x, look s5.hs sl[k] = some x) := Lib.hid fun k hk => by
          have : sl[k] ∈ ids s5.hs := hperm.out.mem_iff.1 (List.getElem_mem hk)
          obtain ⟨p, hp, hpe⟩ := List.mem_map.1 this
          exact ⟨p.2, by rw [← hpe]; exact look_of_mem hS6.out.hsd hp⟩
        have hS7 := Lib.hid (hS6.out.grown g7)
        have kz7 := Lib.hid (kz6.out.grown g7)
        have cc7 := Lib.hid (cc6.out.trans (Chg.of_grown g7 F5))
        have kh7 := Lib.hid (kh6.out.grown g7)
        have hroF : ∀ g, (Value.slice AA LA ca).ownBlock = some g → ¬ F5 g ∧ g ≠ hb ∧ g ≠ z := fun g hg => by
          have h1 := (hown_block hrow hg).1
          have h2 := kh6.out.1.lt
          have h3 := kz6.out.1.lt
          exact ⟨fun h => absurd (hS6.out.lt h) (by omega), by omega, by omega⟩
        replace hroF := Lib.hid hroF
        replace hrow := Lib.hid hrow
        replace hlen := Lib.hid hlen
        replace hsl := Lib.hid hsl
        replace hLA := Lib.hid hLA
        unfold maxLen at hcam
        clear hal z0 z2 hzl hS6 kz6 cc6 kh6 hbl
        replace g7 := Lib.hid g7
        go_wp2
        go_loopw [10, 7, 8] (fun kv rv wv wx => ∃ (k : Nat), k ≤ LA ∧ kv = .int .i64 (k : Int) ∧ rv = .int .i64 ((sumI isRd s5.hs (sl.take k) : Nat) : Int) ∧ wv = .int .i64 ((sumI isWr s5.hs (sl.take k) : Nat) : Int) ∧ Hid (Kp wx F5 hb (cnt9 s5.hs (sl.take k)) 3) ∧ Hid (Chg (fun g => g = hb) (fun g => g = hb) w7 wx)) (fun kv _ _ _ => LA - (intOf kv).toNat)
        case atStart => exact ⟨0, Nat.zero_le _, rfl, rfl, rfl, kh7, Lib.hid (Chg.refl _ _)⟩
        case round =>
          obtain ⟨k, hk, rfl, rfl, rfl, kh, cx⟩ := hrel
          have hSx := Lib.hid (hS7.out.chgOff cx.out fun g hg => by rw [hg]; exact kh7.out.2)
          have kzx := Lib.hid (kz7.out.off cx.out fun e => hbz e.symm)
          have hrx := Lib.hid (hown_keep hrow.out fun g cur hg _ => cx.out.block g (hown_lt hrow.out hg) (hroF.out g hg).2.1)
          by_cases hkl : k < LA
          · have hks : k < sl.length := by rw [hlen.out]; exact hkl
            obtain ⟨x, hx⟩ := hlook.out k hks
            obtain ⟨ga, hAA, hga1, hga2, hgac⟩ := hown_at hrx.out (by omega)
            subst hAA
            have ci : wr.cell? ⟨ga, k, none⟩ = some (.int .i64 sl[k]) := hgac k _ (by rw [List.getElem?_map, List.getElem?_eq_getElem hks]; rfl)
            have hgF := hroF.out ga rfl
            have hst := fun (W : World) (hW : wr.grownBy W none) => op_Stat (hSx.out.grown hW) hG5.out hB5.out (by omega) hx
            have hxr := hG5.out.refs _ x hx
            have hvf : ∀ f : Hd → Nat, val f s5.hs sl[k] = f x := fun f => val_of hx
            have hR1 : sumI isRd s5.hs (sl.take (k + 1)) = sumI isRd s5.hs (sl.take k) + isRd x := by rw [sumI_succ hks, hvf]
            have hW1 : sumI isWr s5.hs (sl.take (k + 1)) = sumI isWr s5.hs (sl.take k) + isWr x := by rw [sumI_succ hks, hvf]
            have hRb : sumI isRd s5.hs (sl.take k) ≤ 2000 := by have := sumI_len (hs := s5.hs) isRd_le (sl.take k); rw [List.length_take] at this; omega
            have hWb : sumI isWr s5.hs (sl.take k) ≤ 2000 := by have := sumI_len (hs := s5.hs) isWr_le (sl.take k); rw [List.length_take] at this; omega
            obtain ⟨R, hR⟩ : ∃ R, sumI isRd s5.hs (sl.take k) = R := ⟨_, rfl⟩
            obtain ⟨Wn, hWn⟩ : ∃ R, sumI isWr s5.hs (sl.take k) = R := ⟨_, rfl⟩
            rw [hR] at hR1 hRb ⊢
            rw [hWn] at hW1 hWb ⊢
            have hi0 : (0 : Int) ≤ (k : Int) := by omega
            have hi1 : (k : Int) < (LA : Int) := by omega
            have z2 := kzx.out.1.cell (i := 2) rfl
            have hzl := kzx.out.1.lt
            unfold ptrV at z2 hst
            have hgw : ga ≠ wr.heap.size := by omega
            have hgw' : wr.heap.size ≠ ga := by omega
            have hzw : z ≠ wr.heap.size := by omega
            have hzw' : wr.heap.size ≠ z := by omega
            replace hst := Lib.hid hst
            replace hvf := Lib.hid hvf
            replace hR := Lib.hid hR
            replace hWn := Lib.hid hWn
            replace hR1 := Lib.hid hR1
            replace hW1 := Lib.hid hW1
            replace hx := Lib.hid hx
            clear hgac
            have hfin : ∀ m, Hid (val (nF m) s5.hs sl[k] = nF m x) := fun m => Lib.hid (hvf.out _)
            generalize hid : sl[k] = id at ci hst hx hfin hvf
            replace hid := Lib.hid hid
            go_upto_region 17 with fail
            go_cut [11, 12] from 56 to 66 (fun t11 t12 wx => ∃ (zi a : Nat) (r1 w1 m1 : Bool), t11 = .pointer (some ⟨zi, 0, none⟩) ∧ t12 = .int .i64 0 ∧ wr.heap.size ≤ zi ∧ Hid (wr.grownBy wx none) ∧ Blk wx zi [.int .i64 (kindOf x), .int .i64 (x.refs : Int), .int .i64 (a : Int), .int .i64 (nodeOf x), .bool r1, .bool w1, .bool m1] 46)
            case first =>
              have gW : wr.grownBy ((wr.alloc (.cells #[.int .i64 0, .int .i64 0, .int .i64 0, .int .i64 0, .bool false, .bool false, .bool false] 46)).drew) none := grownBy_drewN (World.grownBy_alloc wr _ _) 1
              have bz : Blk ((wr.alloc (.cells #[.int .i64 0, .int .i64 0, .int .i64 0, .int .i64 0, .bool false, .bool false, .bool false] 46)).drew) wr.heap.size [.int .i64 0, .int .i64 0, .int .i64 0, .int .i64 0, .bool false, .bool false, .bool false] 46 := Blk.new wr _ _
              have hst1 := Lib.hid (hst.out _ gW)
              have g0 : wr.grownBy wr.drew none := grownBy_drewN (grownBy_re wr) 1
              have hst0 := Lib.hid (hst.out _ g0)
              have hkk2 : ∀ w', wr.grownBy w' none → w'.cell? ⟨z, 2, none⟩ = some (.pointer (some ⟨tb, 0, none⟩)) ∧ w'.cell? ⟨ga, k, none⟩ = some (.int .i64 id) := fun w' hg => ⟨(World.cell?_of_block (a := ⟨z, 2, none⟩) (hg.block z hzl (by simp))).trans z2, (World.cell?_of_block (a := ⟨ga, k, none⟩) (hg.block ga hga2 (by simp))).trans ci⟩
              replace hkk2 := Lib.hid hkk2
              replace gW := Lib.hid gW
              replace g0 := Lib.hid g0
              replace bz := Lib.hid bz
              unfold info7 at hst1 hst0
              go_region_held3 (fun w' => w'.cell? ⟨z, 2, none⟩ = some (.pointer (some ⟨tb, 0, none⟩)) ∧ w'.cell? ⟨ga, k, none⟩ = some (.int .i64 id))
                (first | go_keep | exact hkk)
                (first
                  | (go_at_call 17; refine hst1.out.mono ?_; rintro e w5 ⟨a, r1, w1, m1, rfl, gB⟩; have gC := grownBy_tr gW.out gB; have b5 : Blk w5 wr.heap.size _ _ := (gB.block _ bz.out.lt (by simp)).trans bz.out; have y0 := b5.cell (i := 0) rfl; have y1 := b5.cell (i := 1) rfl; have y2 := b5.cell (i := 2) rfl; have y3 := b5.cell (i := 3) rfl; have y4 := b5.cell (i := 4) rfl; have y5 := b5.cell (i := 5) rfl; have y6 := b5.cell (i := 6) rfl; have u0 := b5.frozen 0; have u1 := b5.frozen 1; have u2 := b5.frozen 2; have u3 := b5.frozen 3; have u4 := b5.frozen 4; have u5 := b5.frozen 5; have u6 := b5.frozen 6; have hkk := hkk2.out w5 gC)
                  | (go_at_call 17; refine hst0.out.mono ?_; rintro e w5 ⟨a, r1, w1, m1, rfl, gB⟩; have gC := grownBy_tr g0.out gB; have hkk := hkk2.out w5 gC))
              all_goals (go_wp2_with fail)
              all_goals go_meet
              · exact ⟨w5.heap.size, a, r1, w1, m1, rfl, rfl, gC.size, Lib.hid (grownBy_tr gC (World.grownBy_alloc w5 _ _)), Blk.new w5 _ _⟩
              · exact ⟨wr.heap.size, a, r1, w1, m1, rfl, rfl, Nat.le_refl _, Lib.hid (grown_setNew (grown_setNew (grown_setNew (grown_setNew (grown_setNew (grown_setNew (grown_setNew gC (Nat.le_refl _) 0 _) (Nat.le_refl _) 1 _) (Nat.le_refl _) 2 _) (Nat.le_refl _) 3 _) (Nat.le_refl _) 4 _) (Nat.le_refl _) 5 _) (Nat.le_refl _) 6 _), ((((((b5.set 0 _).set 1 _).set 2 _).set 3 _).set 4 _).set 5 _).set 6 _⟩
            case rest =>
              obtain ⟨zi, a, r1, w1', m1, rfl, rfl, hzi, gX, bX⟩ := hcut
              have y0 := bX.cell (i := 0) rfl
              have y1 := bX.cell (i := 1) rfl
              have y3 := bX.cell (i := 3) rfl
              have yl := bX.lt
              have khX : Hid (Kp wc F5 hb (cnt9 s5.hs (sl.take k)) 3) := Lib.hid (kh.out.grown gX.out)
              have cxX : Hid (Chg (fun g => g = hb) (fun g => g = hb) w7 wc) := Lib.hid (cx.out.trans (Chg.of_grown gX.out _))
              have hways := hG5.out.ways hx.out
              have hrf : ¬ (x.refs : Int) < 1 := by omega
              clear bX gX kh cx hst hx
              rcases hways with ⟨j, hj1, hj8, hkd, hnd, h1, h2, h3⟩ | ⟨hkd, h1, h2, h3⟩ | ⟨hkd, h1, h2, h3⟩ | ⟨hkd, h1, h2, h3⟩
              · rw [hkd] at y0
                rw [hnd] at y3
                have hcn : cnt9 s5.hs (sl.take (k + 1)) = (cnt9 s5.hs (sl.take k)).set j (.int .i64 (((sumI (nF (j : Int)) s5.hs (sl.take k) : Nat) : Int) + 1)) := cnt9_file hks hj8 fun m => by rw [hid.out, (hfin m).out, h3]
                have cj := khX.out.1.cell (cnt9_at s5.hs (sl.take k) j hj8)
                have fj := khX.out.1.frozen j
                have cl := khX.out.1.lt
                have hjb : sumI (nF (j : Int)) s5.hs (sl.take k) ≤ 2000 := by have := sumI_len (hs := s5.hs) (nF_le (j : Int)) (sl.take k); rw [List.length_take] at this; omega
                generalize sumI (nF (j : Int)) s5.hs (sl.take k) = V at hcn cj hjb
                have hkN : Blk (wc.setCell ⟨hb, j, none⟩ (.int .i64 ((V : Int) + 1))) hb (cnt9 s5.hs (sl.take (k + 1))) 3 := by rw [hcn]; exact khX.out.1.set j _
                have hcN : Chg (fun g => g = hb) (fun g => g = hb) w7 (wc.setCell ⟨hb, j, none⟩ (.int .i64 ((V : Int) + 1))) := cxX.out.trans (Chg.set (F := fun g => g = hb) rfl j _)
                have hFN := khX.out.2
                replace hkN := Lib.hid hkN
                replace hcN := Lib.hid hcN
                replace hcn := Lib.hid hcn
                replace khX := Lib.hid trivial
                replace cxX := Lib.hid trivial
                clear h3 hfin hvf hkd hnd
                have j1 : ¬ (j : Int) < 1 := by omega
                have j2 : ¬ 8 < (j : Int) := by omega
                have j3 : (0 : Int) ≤ (j : Int) := by omega
                have j4 : (j : Int) < 9 := by omega
                go_upto_region 22 with fail
                go_region
                go_wp2
                go_roundw
                case rel => exact ⟨k + 1, by omega, by go_num, by rw [hR1.out, h1]; rfl, by rw [hW1.out, h2]; rfl, Lib.hid ⟨hkN.out, hFN⟩, Lib.hid (hcN.out.trans (Chg.drewN _ _ 1))⟩
                case measure => simp [intOf]; omega
              · rw [hkd] at y0
                have hcn : cnt9 s5.hs (sl.take (k + 1)) = cnt9 s5.hs (sl.take k) := cnt9_other hks fun m => by rw [hid.out, (hfin m).out, h3]
                replace hcn := Lib.hid hcn
                clear h3 hfin hvf
                have rb1 : (R : Int) ≤ 2000 := by omega
                have wb1 : (Wn : Int) ≤ 2000 := by omega
                go_wp2
                go_roundw
                case rel => exact ⟨k + 1, by omega, by go_num, by rw [hR1.out, h1, Int.natCast_add]; rfl, by rw [hW1.out, h2]; rfl, by rw [hcn.out]; exact khX, cxX⟩
                case measure => simp [intOf]; omega
              · rw [hkd] at y0
                have hcn : cnt9 s5.hs (sl.take (k + 1)) = cnt9 s5.hs (sl.take k) := cnt9_other hks fun m => by rw [hid.out, (hfin m).out, h3]
                replace hcn := Lib.hid hcn
                clear h3 hfin hvf
                have rb1 : (R : Int) ≤ 2000 := by omega
                have wb1 : (Wn : Int) ≤ 2000 := by omega
                go_wp2
                go_roundw
                case rel => exact ⟨k + 1, by omega, by go_num, by rw [hR1.out, h1]; rfl, by rw [hW1.out, h2, Int.natCast_add]; rfl, by rw [hcn.out]; exact khX, cxX⟩
                case measure => simp [intOf]; omega
              · rcases hkd with hkd | hkd
                · rw [hkd] at y0
                  have hcn : cnt9 s5.hs (sl.take (k + 1)) = cnt9 s5.hs (sl.take k) := cnt9_other hks fun m => by rw [hid.out, (hfin m).out, h3]
                  replace hcn := Lib.hid hcn
                  clear h3 hfin hvf
                  have rb1 : (R : Int) ≤ 2000 := by omega
                  have wb1 : (Wn : Int) ≤ 2000 := by omega
                  go_wp2
                  go_roundw
                  case rel => exact ⟨k + 1, by omega, by go_num, by rw [hR1.out, h1]; rfl, by rw [hW1.out, h2]; rfl, by rw [hcn.out]; exact khX, cxX⟩
                  case measure => simp [intOf]; omega
                · rw [hkd] at y0
                  have hcn : cnt9 s5.hs (sl.take (k + 1)) = cnt9 s5.hs (sl.take k) := cnt9_other hks fun m => by rw [hid.out, (hfin m).out, h3]
                  replace hcn := Lib.hid hcn
                  clear h3 hfin hvf
                  have rb1 : (R : Int) ≤ 2000 := by omega
                  have wb1 : (Wn : Int) ≤ 2000 := by omega
                  go_wp2
                  go_roundw
                  case rel => exact ⟨k + 1, by omega, by go_num, by rw [hR1.out, h1]; rfl, by rw [hW1.out, h2]; rfl, by rw [hcn.out]; exact khX, cxX⟩
                  case measure => simp [intOf]; omega
          · obtain rfl : k = LA := by omega
            obtain ⟨wq, rfl⟩ : ∃ x, x = wr := ⟨_, rfl⟩
            have hi1 : ¬ (k : Int) < (k : Int) := by omega
            have htk : sl.take k = sl := List.take_of_length_le (by rw [hlen.out]; exact Nat.le_refl _)
            have hTR : sumI isRd s5.hs sl = total isRd s5.hs := (sumI_perm hperm.out).trans (sumI_ids hSx.out.hsd)
            have hTW : sumI isWr s5.hs sl = total isWr s5.hs := (sumI_perm hperm.out).trans (sumI_ids hSx.out.hsd)
            have hTF : ∀ m, sumI (nF m) s5.hs sl = total (nF m) s5.hs := fun m => (sumI_perm hperm.out).trans (sumI_ids hSx.out.hsd)
            rw [htk] at kh ⊢
            rw [hTR, hTW]
            obtain ⟨o1, o2, o3⟩ := hG5.out.opens hSx.out.hsd
            have hbb : tally openOf s5.es ≤ n + 1 := Nat.le_trans (tally_one openOf_le s5.es) hB5.out.es
            have hbf := fun W (hW : wq.grownBy W none) => sys_Buffers (hSx.out.grown hW)
            generalize total isRd s5.hs = TR at o1 o3 ⊢
            generalize total isWr s5.hs = TW at o2 o3 ⊢
            generalize tally openOf s5.es = O at o1 o2 o3 hbb hbf
            have hns : ∀ W, wq.grownBy W none → ∀ j : Nat, Calls Tryz.prog 18 #[.pointer (some ⟨fb, 0, none⟩), .int .i64 (j : Int)] W fun e w' => ∃ (a b d er : Int), e = .returned (.tuple #[.agg #[.int .i64 a, .int .i64 b, .int .i64 d, .int .i64 ((sumI (nF (j : Int)) s5.hs sl : Nat) : Int)], .int .i64 er]) ∧ W.grownBy w' none := fun W hW j => by
              refine (sys_nstat (hSx.out.grown hW) hG5.out (j : Int)).mono ?_
              rintro e w' ⟨a, b, d, er, rfl, hg⟩
              refine ⟨a, b, d, er, ?_, hg⟩
              rw [hTF, show (if (look s5.nds (j : Int)).isSome = true then ext8 (j : Int) else 0) = 0 from by split <;> rfl]
              rfl
            replace hbf := Lib.hid hbf
            replace hns := Lib.hid hns
            clear hTR hTW hTF htk hkl hlook hrx
            go_wp2
            go_loopw [13] (fun jv wr => ∃ j : Nat, 1 ≤ j ∧ j ≤ 9 ∧ jv = .int .i64 (j : Int) ∧ Hid (wq.grownBy wr none)) (fun jv _ => 9 - (intOf jv).toNat)
            case atStart => exact ⟨1, Nat.le_refl _, by decide, rfl, Lib.hid (grownBy_re _)⟩
            case round =>
              obtain ⟨j, hj1, hj9, rfl, hgy⟩ := hrel
              have kzy := Lib.hid (kzx.out.grown hgy.out)
              have z0 := kzy.out.1.cell (i := 0) rfl
              have z1 := kzy.out.1.cell (i := 1) rfl
              have hzl := kzy.out.1.lt
              unfold ptrV at z0 z1
              by_cases hj8 : j ≤ 8
              · have j1 : (j : Int) ≤ 8 := by omega
                have hnx := Lib.hid (hns.out wr hgy.out j)
                have hcj := (kh.out.grown hgy.out).1.cell (cnt9_at s5.hs sl j hj8)
                have hcl := (kh.out.grown hgy.out).1.lt
                generalize sumI (nF (j : Int)) s5.hs sl = V at hnx hcj
                have hbne : hb < wr.heap.size := hcl
                clear hns hbf
                go_wp2_with fail
                refine hnx.out.mono ?_
                rintro e w8 ⟨a, b', d, er, rfl, gB⟩
                have g8 := grownBy_tr hgy.out gB
                have hcj8 : w8.cell? ⟨hb, j, none⟩ = _ := (World.cell?_of_block (a := ⟨hb, j, none⟩) (gB.block hb hcl (by simp))).trans hcj
                have hcl8 : hb < w8.heap.size := Nat.lt_of_lt_of_le hcl gB.size
                clear hnx gB z0 z1 hcj
                go_upto_region 31 with fail
                have g9 := grownBy_tr (w'' := (w8.alloc (.cells #[.int .i64 a, .int .i64 b', .int .i64 d, .int .i64 (V : Int)] 50))) g8 (World.grownBy_alloc w8 _ _)
                have i9 : Blk (w8.alloc (.cells #[.int .i64 a, .int .i64 b', .int .i64 d, .int .i64 (V : Int)] 50)) w8.heap.size [.int .i64 a, .int .i64 b', .int .i64 d, .int .i64 (V : Int)] 50 := Blk.new w8 _ _
                have hcj9 : (w8.alloc (.cells #[.int .i64 a, .int .i64 b', .int .i64 d, .int .i64 (V : Int)] 50)).cell? ⟨hb, j, none⟩ = _ := (World.cell?_of_block (a := ⟨hb, j, none⟩) (Below.heap_alloc w8 _ hb hcl8)).trans hcj8
                generalize (w8.alloc (.cells #[.int .i64 a, .int .i64 b', .int .i64 d, .int .i64 (V : Int)] 50)) = w9 at g9 i9 hcj9 ⊢
                generalize w8.heap.size = zi at i9 ⊢
                have i3 := i9.cell (i := 3) rfl
                have il := i9.lt
                have g10 := Lib.hid (grownBy_drewN g9 1)
                have j0 : (0 : Int) ≤ (j : Int) := by omega
                have j2 : (j : Int) < 9 := by omega
                clear g8 hcj8 i9 g9
                go_region
                go_wp2
                go_roundw
                case rel => exact ⟨j + 1, by omega, by omega, by go_num, g10⟩
                case measure => simp [intOf]; omega
              · obtain rfl : j = 9 := by omega
                have hbx : Hid (Calls Tryz.prog 19 #[.pointer (some ⟨plb, 0, none⟩)] wr fun e w' => e = .returned (.int .i64 (O : Int)) ∧ w' = wr) := Lib.hid (hbf.out wr hgy.out)
                have hSf := Lib.hid (hSx.out.grown hgy.out)
                have ccf : Hid (Chg (fun _ => False) F5 w wr) := Lib.hid ((cc7.out.beside cx.out fun g hg => by rw [hg]; exact hwb).trans (Chg.of_grown hgy.out F5))
                clear hbf hns
                have j1 : ¬ ((9 : Nat) : Int) ≤ 8 := by omega
                have k1 : ¬ (TR : Int) + (TW : Int) < (O : Int) := by omega
                by_cases hmx : TR ≤ TW
                · have k2 : (TR : Int) ≤ (TW : Int) := by omega
                  have k3 : ¬ (O : Int) < (TW : Int) := by omega
                  go_wp2_with fail
                  refine hbx.out.mono ?_
                  rintro e w' ⟨rfl, hw⟩
                  obtain rfl := hw.symm
                  clear hw
                  go_wp2_with fail
                  refine hbx.out.mono ?_
                  rintro e w' ⟨rfl, hw⟩
                  obtain rfl := hw.symm
                  clear hw
                  go_wp2
                  go_roundw
                  case rel => exact ⟨n + 1, F5, s5, by omega, by go_num, hSf, hG5, hB5, kzy, ccf⟩
                  case measure => simp [intOf]; omega
                · have k2 : ¬ (TR : Int) ≤ (TW : Int) := by omega
                  have k3 : ¬ (O : Int) < (TR : Int) := by omega
                  go_wp2_with fail
                  refine hbx.out.mono ?_
                  rintro e w' ⟨rfl, hw⟩
                  obtain rfl := hw.symm
                  clear hw
                  go_wp2_with fail
                  refine hbx.out.mono ?_
                  rintro e w' ⟨rfl, hw⟩
                  obtain rfl := hw.symm
                  clear hw
                  go_wp2
                  go_roundw
                  case rel => exact ⟨n + 1, F5, s5, by omega, by go_num, hSf, hG5, hB5, kzy, ccf⟩
                  case measure => simp [intOf]; omega
      · obtain rfl : n = KL := by omega
        have hi1 : ¬ (n : Int) < (n : Int) := by omega
        obtain ⟨wq, rfl⟩ : ∃ x, x = wr := ⟨_, rfl⟩
        have z0 := kz.out.1.cell (i := 0) rfl
        have z2 := kz.out.1.cell (i := 2) rfl
        have hzl := kz.out.1.lt
        unfold ptrV at z0 z2
        have hal := Lib.hid (sys_All hS.out)
        unfold ptrV at hal
        clear hops hin hq100
        go_wp2_with fail
        refine hal.out.mono ?_
        rintro e w7 ⟨va, rfl, hrow, hbl⟩
        have g7 := grown_of_below hbl
        obtain ⟨AA, ca, rfl, hca, hcam⟩ := hown_form hrow
        have hperm : Hid ((sortI (ids s.hs)).Perm (ids s.hs)) := Lib.hid (List.mergeSort_perm _ _)
        have hlen : (sortI (ids s.hs)).length = s.hs.length := by rw [hperm.out.length_eq]; unfold ids; rw [List.length_map]
        obtain ⟨LA, hLA⟩ : ∃ L, s.hs.length = L := ⟨_, rfl⟩
        obtain ⟨sl, hsl⟩ : ∃ sl, sortI (ids s.hs) = sl := ⟨_, rfl⟩
        rw [hLA] at hrow hca hlen ⊢
        rw [hsl] at hrow hperm hlen
        have hLAb : LA ≤ 2 * n := by have := hS.out.hsl; have := hB.out.top; omega
        have hlook : Hid (∀ k (hk : k < sl.length), ∃ x, look s.hs sl[k] = some x) := Lib.hid fun k hk => by
          have : sl[k] ∈ ids s.hs := hperm.out.mem_iff.1 (List.getElem_mem hk)
          obtain ⟨p, hp, hpe⟩ := List.mem_map.1 this
          exact ⟨p.2, by rw [← hpe]; exact look_of_mem hS.out.hsd hp⟩
        have hnd : Hid sl.Nodup := Lib.hid (hperm.out.nodup_iff.2 hS.out.nodup)
        have hS7 := Lib.hid (hS.out.grown g7)
        have kz7 := Lib.hid (kz.out.grown g7)
        have cc7 := Lib.hid (cc.out.trans (Chg.of_grown g7 F))
        have hro7 : Hid (Ro w7 F wq.heap.size (.slice AA LA ca) LA (sl.map encZ)) := Lib.hid ⟨hrow, fun g hg h => absurd (hS.out.lt h) (by have := (hown_block hrow hg).1; omega)⟩
        replace hlen := Lib.hid hlen
        replace hsl := Lib.hid hsl
        replace hLA := Lib.hid hLA
        unfold maxLen at hcam
        have hB7 := hB
        have hG7 := hG
        have hn40 := hl40
        clear hal z0 z2 hzl kz cc hbl hrow hS hlt
        replace g7 := Lib.hid trivial
        go_wp2
        go_loopw [17] (fun kv wr => ∃ (k : Nat) (F : Nat → Prop) (s' : St), k ≤ LA ∧ kv = .int .i64 (k : Int) ∧ Hid (Sys wr F (begunC fb plb tb) s') ∧ Hid (Good ext8 s') ∧ Hid (Bnd s' n) ∧ Hid (Kp wr F z [ptrV fb, ptrV plb, ptrV tb] 29) ∧ Hid (Chg (fun _ => False) F w wr) ∧ Hid (Ro wr F wq.heap.size (.slice AA LA ca) LA (sl.map encZ)) ∧ Hid (∀ i, look s'.hs i = if i ∈ sl.take k then none else look s.hs i)) (fun kv _ => LA - (intOf kv).toNat)
        case atStart => exact ⟨0, F, s, Nat.zero_le _, rfl, hS7, hG7, hB7, kz7, cc7, hro7, Lib.hid fun i => rfl⟩
        case round =>
          clear hS7 kz7 cc7 hro7 hB7 hG7 hG hB
          obtain ⟨k, F1, s1, hk, rfl, hS1, hG1, hB1, kz1, cc1, hro1, hlk1⟩ := hrel
          by_cases hkl : k < LA
          · have hks : k < sl.length := by rw [hlen.out]; exact hkl
            obtain ⟨x, hx0⟩ := hlook.out k hks
            have hx : look s1.hs sl[k] = some x := by rw [hlk1.out, if_neg (not_mem_take hnd.out hks)]; exact hx0
            obtain ⟨ga, hAA, hga1, hga2, hgac⟩ := hown_at hro1.out.1 (by omega)
            subst hAA
            have ci : wr.cell? ⟨ga, k, none⟩ = some (.int .i64 sl[k]) := hgac k _ (by rw [List.getElem?_map, List.getElem?_eq_getElem hks]; rfl)
            have hst := fun (W : World) (hW : wr.grownBy W none) => op_Stat (hS1.out.grown hW) hG1.out hB1.out (by omega) hx
            have hxr := hG1.out.refs _ x hx
            have hxb := hB1.out.refs _ x hx
            have hi0 : (0 : Int) ≤ (k : Int) := by omega
            have hi1 : (k : Int) < (LA : Int) := by omega
            have z2 := kz1.out.1.cell (i := 2) rfl
            have hzl := kz1.out.1.lt
            unfold ptrV at z2 hst
            have hgw : ga ≠ wr.heap.size := by omega
            have hgw' : wr.heap.size ≠ ga := by omega
            have hzw : z ≠ wr.heap.size := by omega
            have hzw' : wr.heap.size ≠ z := by omega
            replace hst := Lib.hid hst
            replace hx := Lib.hid hx
            clear hgac hx0
            generalize hid : sl[k] = id at ci hst hx
            replace hid := Lib.hid hid
            obtain ⟨wp, rfl⟩ : ∃ x, x = wr := ⟨_, rfl⟩
            go_upto_region 39 with fail
            go_cut [18, 19] from 153 to 163 (fun t11 t12 wx => ∃ (zi a : Nat) (r1 w1 m1 : Bool), t11 = .pointer (some ⟨zi, 0, none⟩) ∧ t12 = .int .i64 0 ∧ wp.heap.size ≤ zi ∧ Hid (wp.grownBy wx none) ∧ Blk wx zi [.int .i64 (kindOf x), .int .i64 (x.refs : Int), .int .i64 (a : Int), .int .i64 (nodeOf x), .bool r1, .bool w1, .bool m1] 46)
            case first =>
              have gW : wp.grownBy ((wp.alloc (.cells #[.int .i64 0, .int .i64 0, .int .i64 0, .int .i64 0, .bool false, .bool false, .bool false] 46)).drew) none := grownBy_drewN (World.grownBy_alloc wp _ _) 1
              have bz : Blk ((wp.alloc (.cells #[.int .i64 0, .int .i64 0, .int .i64 0, .int .i64 0, .bool false, .bool false, .bool false] 46)).drew) wp.heap.size [.int .i64 0, .int .i64 0, .int .i64 0, .int .i64 0, .bool false, .bool false, .bool false] 46 := Blk.new wp _ _
              have hst1 := Lib.hid (hst.out _ gW)
              have g0 : wp.grownBy wp.drew none := grownBy_drewN (grownBy_re wp) 1
              have hst0 := Lib.hid (hst.out _ g0)
              have hkk2 : ∀ w', wp.grownBy w' none → w'.cell? ⟨z, 2, none⟩ = some (.pointer (some ⟨tb, 0, none⟩)) ∧ w'.cell? ⟨ga, k, none⟩ = some (.int .i64 id) := fun w' hg => ⟨(World.cell?_of_block (a := ⟨z, 2, none⟩) (hg.block z hzl (by simp))).trans z2, (World.cell?_of_block (a := ⟨ga, k, none⟩) (hg.block ga hga2 (by simp))).trans ci⟩
              replace hkk2 := Lib.hid hkk2
              replace gW := Lib.hid gW
              replace g0 := Lib.hid g0
              replace bz := Lib.hid bz
              unfold info7 at hst1 hst0
              go_region_held3 (fun w' => w'.cell? ⟨z, 2, none⟩ = some (.pointer (some ⟨tb, 0, none⟩)) ∧ w'.cell? ⟨ga, k, none⟩ = some (.int .i64 id))
                (first | go_keep | exact hkk)
                (first
                  | (go_at_call 17; refine hst1.out.mono ?_; rintro e w5 ⟨a, r1, w1, m1, rfl, gB⟩; have gC := grownBy_tr gW.out gB; have b5 : Blk w5 wp.heap.size _ _ := (gB.block _ bz.out.lt (by simp)).trans bz.out; have y0 := b5.cell (i := 0) rfl; have y1 := b5.cell (i := 1) rfl; have y2 := b5.cell (i := 2) rfl; have y3 := b5.cell (i := 3) rfl; have y4 := b5.cell (i := 4) rfl; have y5 := b5.cell (i := 5) rfl; have y6 := b5.cell (i := 6) rfl; have u0 := b5.frozen 0; have u1 := b5.frozen 1; have u2 := b5.frozen 2; have u3 := b5.frozen 3; have u4 := b5.frozen 4; have u5 := b5.frozen 5; have u6 := b5.frozen 6; have hkk := hkk2.out w5 gC)
                  | (go_at_call 17; refine hst0.out.mono ?_; rintro e w5 ⟨a, r1, w1, m1, rfl, gB⟩; have gC := grownBy_tr g0.out gB; have hkk := hkk2.out w5 gC))
              all_goals (go_wp2_with fail)
              all_goals go_meet
              · exact ⟨w5.heap.size, a, r1, w1, m1, rfl, rfl, gC.size, Lib.hid (grownBy_tr gC (World.grownBy_alloc w5 _ _)), Blk.new w5 _ _⟩
              · exact ⟨wp.heap.size, a, r1, w1, m1, rfl, rfl, Nat.le_refl _, Lib.hid (grown_setNew (grown_setNew (grown_setNew (grown_setNew (grown_setNew (grown_setNew (grown_setNew gC (Nat.le_refl _) 0 _) (Nat.le_refl _) 1 _) (Nat.le_refl _) 2 _) (Nat.le_refl _) 3 _) (Nat.le_refl _) 4 _) (Nat.le_refl _) 5 _) (Nat.le_refl _) 6 _), ((((((b5.set 0 _).set 1 _).set 2 _).set 3 _).set 4 _).set 5 _).set 6 _⟩
            case rest =>
              obtain ⟨zi, a, r1, w1', m1, rfl, rfl, hzi, gX, bX⟩ := hcut
              have ki : Hid (Kp wc F1 zi [.int .i64 (kindOf x), .int .i64 (x.refs : Int), .int .i64 (a : Int), .int .i64 (nodeOf x), .bool r1, .bool w1', .bool m1] 46) := Lib.hid ⟨bX, fun h => absurd (hS1.out.lt h) (by omega)⟩
              have hSX := Lib.hid (hS1.out.grown gX.out)
              have kzX := Lib.hid (kz1.out.grown gX.out)
              have ccX := Lib.hid (cc1.out.trans (Chg.of_grown gX.out F1))
              have hroX := Lib.hid (hro1.out.grown gX.out)
              clear bX gX hst z2 hzl ci hga2 hgw hgw' hzw hzw' hS1 kz1 cc1 hro1
              obtain ⟨refs, kd⟩ := x
              obtain ⟨kn, hkn⟩ : ∃ q, kindOf ⟨refs, kd⟩ = q := ⟨_, rfl⟩
              obtain ⟨nn, hnn⟩ : ∃ q, nodeOf ⟨refs, kd⟩ = q := ⟨_, rfl⟩
              rw [hkn, hnn] at ki
              replace hkn := Lib.hid hkn
              replace hnn := Lib.hid hnn
              simp only at hxr hxb ki
              go_wp2
              go_loopw [20] (fun mv wr => ∃ (m : Nat) (F : Nat → Prop) (s2 : St), m ≤ refs ∧ mv = .int .i64 (m : Int) ∧ Hid (Sys wr F (begunC fb plb tb) s2) ∧ Hid (Good ext8 s2) ∧ Hid (Bnd s2 n) ∧ Hid (Kp wr F z [ptrV fb, ptrV plb, ptrV tb] 29) ∧ Hid (Kp wr F zi [.int .i64 kn, .int .i64 (refs : Int), .int .i64 (a : Int), .int .i64 nn, .bool r1, .bool w1', .bool m1] 46) ∧ Hid (Chg (fun _ => False) F w wr) ∧ Hid (Ro wr F wq.heap.size (.slice (some ⟨ga, 0, none⟩) LA ca) LA (sl.map encZ)) ∧ Hid (∀ i, i ≠ id → look s2.hs i = look s1.hs i) ∧ Hid (m < refs → look s2.hs id = some ⟨refs - m, kd⟩) ∧ Hid (m = refs → look s2.hs id = none)) (fun mv _ => refs - (intOf mv).toNat)
              case atStart => exact ⟨0, F1, s1, Nat.zero_le _, rfl, hSX, hG1, hB1, kzX, ki, ccX, hroX, Lib.hid fun _ _ => rfl, Lib.hid fun _ => hx.out, Lib.hid fun h => by omega⟩
              case round =>
                clear hSX hG1 hB1 kzX ki ccX hroX
                obtain ⟨m, F2, s2, hm, rfl, hS2, hG2, hB2, kz2, ki2, cc2, hro2, hlo, hlm, hle⟩ := hrel
                have y1 := ki2.out.1.cell (i := 1) rfl
                have yl := ki2.out.1.lt
                by_cases hmr : m < refs
                · obtain ⟨ga', hAA, hga1', hga2, hgac⟩ := hown_at hro2.out.1 (by omega)
                  cases hAA
                  have ci : wr.cell? ⟨ga, k, none⟩ = some (.int .i64 id) := hgac k _ (by rw [List.getElem?_map, List.getElem?_eq_getElem hks, hid.out]; rfl)
                  have hgF := hro2.out.2 ga rfl
                  have hun := op_UnrefX (hS2.out.keep (w' := wr.drewN 1) (Nat.le_refl _) fun _ _ => rfl) hG2.out hB2.out (by omega) (fun _ => Nat.zero_le _) (hlm.out hmr)
                  unfold ptrV at hun
                  have z2 := kz2.out.1.cell (i := 2) rfl
                  have hzl := kz2.out.1.lt
                  unfold ptrV at z2
                  have m1' : (m : Int) < (refs : Int) := by omega
                  have m2' : (m : Int) < 100 := by omega
                  have hkk2 : ∀ w' F', Chg F2 F' wr w' → w'.cell? ⟨z, 2, none⟩ = some (.pointer (some ⟨tb, 0, none⟩)) ∧ w'.cell? ⟨ga, k, none⟩ = some (.int .i64 id) := fun w' F' hC => ⟨(kz2.out.chg hC).1.cell (i := 2) rfl, (cell_chg hC hga2 hgF).trans ci⟩
                  replace hkk2 := Lib.hid hkk2
                  replace hun := Lib.hid hun
                  clear hgac
                  go_upto_region 43 with fail
                  go_region_held3 (fun w' => w'.cell? ⟨z, 2, none⟩ = some (.pointer (some ⟨tb, 0, none⟩)) ∧ w'.cell? ⟨ga, k, none⟩ = some (.int .i64 id))
                    (first | go_keep | exact hkk)
                    ((go_at_call 20; refine hun.out.mono ?_; rintro e w5 ⟨rfl, F3, s3, hS3, hG3, hB3, cS, hhs⟩; have cT : Chg F2 F3 wr w5 := (Chg.drewN F2 wr 1).trans cS; have hkk := hkk2.out w5 F3 cT; replace hS3 := Lib.hid hS3; replace hG3 := Lib.hid hG3; replace hB3 := Lib.hid hB3; replace hhs := Lib.hid hhs))
                  have kz3 := Lib.hid (kz2.out.chg cT)
                  have ki3 := Lib.hid (ki2.out.chg cT)
                  have cc3 := Lib.hid (cc2.out.trans cT)
                  have hro3 := Lib.hid (hro2.out.chg cT)
                  have hlo3 : Hid (∀ i, i ≠ id → look s3.hs i = look s1.hs i) := Lib.hid fun i hi => by rw [hhs.out, look_unrefd_other hi]; exact hlo.out i hi
                  have hlm3 : Hid (m + 1 < refs → look s3.hs id = some ⟨refs - (m + 1), kd⟩) := Lib.hid fun h => by rw [hhs.out, look_unrefd_more (hlm.out hmr) (by show refs - m ≠ 1; omega)]; show some (⟨refs - m - 1, kd⟩ : Hd) = _; rw [Nat.sub_sub]
                  have hle3 : Hid (m + 1 = refs → look s3.hs id = none) := Lib.hid fun h => by rw [hhs.out, look_unrefd_last (show refs - m = 1 by omega)]
                  clear hkk hkk2 hun cS cT ci z2 hgF hS2 hG2 hB2 kz2 ki2 cc2 hro2 y1 yl
                  go_wp2
                  go_roundw
                  case rel => exact ⟨m + 1, F3, s3, by omega, by go_num, hS3, hG3, hB3, kz3, ki3, cc3, hro3, hlo3, hlm3, hle3⟩
                  case measure => simp [intOf]; omega
                · obtain rfl : m = refs := by omega
                  have m1' : ¬ (m : Int) < (m : Int) := by omega
                  have hlk2 : Hid (∀ i, look s2.hs i = if i ∈ sl.take (k + 1) then none else look s.hs i) := Lib.hid fun i => by
                    rw [List.take_succ_eq_append_getElem hks, hid.out]
                    by_cases hi : i = id
                    · rw [hi, if_pos (List.mem_append_right _ (List.mem_singleton.2 rfl))]
                      exact hle.out rfl
                    · rw [hlo.out i hi, hlk1.out]
                      by_cases hm : i ∈ sl.take k
                      · rw [if_pos hm, if_pos (List.mem_append_left _ hm)]
                      · rw [if_neg hm, if_neg fun h => (List.mem_append.1 h).elim hm fun h => hi (List.mem_singleton.1 h)]
                  clear hlo hlm hle hlk1
                  go_wp2
                  go_roundw
                  case rel => exact ⟨k + 1, F2, s2, by omega, by go_num, hS2, hG2, hB2, kz2, cc2, hro2, hlk2⟩
                  case measure => simp [intOf]; omega
          · obtain rfl : k = LA := by omega
            have hi1 : ¬ (k : Int) < (k : Int) := by omega
            obtain ⟨wp, rfl⟩ : ∃ x, x = wr := ⟨_, rfl⟩
            have htk : sl.take k = sl := List.take_of_length_le (by rw [hlen.out]; exact Nat.le_refl _)
            have hnil : s1.hs = [] := hs_nil fun i => by
              rw [hlk1.out, htk]
              by_cases hi : i ∈ sl
              · rw [if_pos hi]
              · rw [if_neg hi]
                exact look_none.2 fun p hp e => hi (hperm.out.mem_iff.2 (by rw [← e]; exact List.mem_map.2 ⟨p, hp, rfl⟩))
            obtain ⟨o1, o2, o3⟩ := hG1.out.opens hS1.out.hsd
            rw [hnil] at o3
            have hO : tally openOf s1.es = 0 := Nat.le_zero.1 o3
            have hbf := fun W (hW : wp.grownBy W none) => (show Calls Tryz.prog 19 #[.pointer (some ⟨plb, 0, none⟩)] W fun e w' => e = .returned (.int .i64 0) ∧ w' = W by
              have := sys_Buffers (hS1.out.grown hW)
              rw [hO] at this
              exact this)
            have hhd := fun W (hW : wp.grownBy W none) => (show Calls Tryz.prog 21 #[.pointer (some ⟨plb, 0, none⟩)] W fun e w' => e = .returned (.int .i64 0) ∧ w' = W by
              have := sys_Held (hS1.out.grown hW)
              rw [held_none hO] at this
              exact this)
            have hal := fun W (hW : wp.grownBy W none) => (show Calls Tryz.prog 16 #[.pointer (some ⟨tb, 0, none⟩)] W fun e w' => (∃ A c, e = .returned (.slice A 0 c) ∧ c ≤ 9223372036854775807) ∧ W.grownBy w' none by
              refine (sys_All (hS1.out.grown hW)).mono ?_
              rintro e w' ⟨v, rfl, hrow, hbl⟩
              obtain ⟨A, c, rfl, hc, hcm⟩ := hown_form hrow
              rw [hnil]
              exact ⟨⟨A, c, rfl, by unfold maxLen at hcm; omega⟩, grown_of_below hbl⟩)
            have hns : ∀ W, wp.grownBy W none → ∀ j : Nat, Calls Tryz.prog 18 #[.pointer (some ⟨fb, 0, none⟩), .int .i64 (j : Int)] W fun e w' => ∃ (a b d er : Int), e = .returned (.tuple #[.agg #[.int .i64 a, .int .i64 b, .int .i64 d, .int .i64 0], .int .i64 er]) ∧ W.grownBy w' none := fun W hW j => by
              refine (sys_nstat (hS1.out.grown hW) hG1.out (j : Int)).mono ?_
              rintro e w' ⟨a, b, d, er, rfl, hg⟩
              refine ⟨a, b, d, er, ?_, hg⟩
              rw [hnil, show (if (look s1.nds (j : Int)).isSome = true then ext8 (j : Int) else 0) = 0 from by split <;> rfl]
              rfl
            have ccp := cc1
            have kzp := kz1
            replace hbf := Lib.hid hbf
            replace hhd := Lib.hid hhd
            replace hal := Lib.hid hal
            replace hns := Lib.hid hns
            clear hlk1 htk hnil o1 o2 o3 hO hS1 hG1 hB1 hro1 hlook hnd kz1 cc1
            go_wp2
            go_loopw [21] (fun jv wr => ∃ j : Nat, 1 ≤ j ∧ j ≤ 9 ∧ jv = .int .i64 (j : Int) ∧ Hid (wp.grownBy wr none)) (fun jv _ => 9 - (intOf jv).toNat)
            case atStart => exact ⟨1, Nat.le_refl _, by decide, rfl, Lib.hid (grownBy_re _)⟩
            case round =>
              obtain ⟨j, hj1, hj9, rfl, hgy⟩ := hrel
              have kzy := Lib.hid (kzp.out.grown hgy.out)
              have z0 := kzy.out.1.cell (i := 0) rfl
              have z1 := kzy.out.1.cell (i := 1) rfl
              have z2 := kzy.out.1.cell (i := 2) rfl
              have hzl := kzy.out.1.lt
              unfold ptrV at z0 z1 z2
              by_cases hj8 : j ≤ 8
              · have j1 : (j : Int) ≤ 8 := by omega
                have hnx := Lib.hid (hns.out wr hgy.out j)
                clear hns hbf hhd hal
                go_wp2_with fail
                refine hnx.out.mono ?_
                rintro e w8 ⟨a, b', d, er, rfl, gB⟩
                have g8 := grownBy_tr hgy.out gB
                clear hnx gB z0 z1 z2
                go_upto_region 49 with fail
                have g9 := grownBy_tr (w'' := (w8.alloc (.cells #[.int .i64 a, .int .i64 b', .int .i64 d, .int .i64 0] 50))) g8 (World.grownBy_alloc w8 _ _)
                have i9 : Blk (w8.alloc (.cells #[.int .i64 a, .int .i64 b', .int .i64 d, .int .i64 0] 50)) w8.heap.size [.int .i64 a, .int .i64 b', .int .i64 d, .int .i64 0] 50 := Blk.new w8 _ _
                generalize (w8.alloc (.cells #[.int .i64 a, .int .i64 b', .int .i64 d, .int .i64 0] 50)) = w9 at g9 i9 ⊢
                generalize w8.heap.size = zi at i9 ⊢
                have i3 := i9.cell (i := 3) rfl
                have il := i9.lt
                replace g9 := Lib.hid g9
                clear g8 i9
                go_wp2
                go_roundw
                case rel => exact ⟨j + 1, by omega, by omega, by go_num, g9⟩
                case measure => simp [intOf]; omega
              · obtain rfl : j = 9 := by omega
                have j1 : ¬ ((9 : Nat) : Int) ≤ 8 := by omega
                have halx := Lib.hid (hal.out wr hgy.out)
                clear hns hal
                go_wp2_with fail
                refine halx.out.mono ?_
                rintro e w8 ⟨⟨A8, c8, rfl, hc8⟩, gB⟩
                have g8 := Lib.hid (grownBy_tr hgy.out gB)
                have kz8 := kzy.out.grown gB
                have z1 := kz8.1.cell (i := 1) rfl
                have hzl := kz8.1.lt
                unfold ptrV at z1
                have hbx := Lib.hid (hbf.out w8 g8.out)
                have hhx := Lib.hid (hhd.out w8 g8.out)
                have hax := Lib.hid (haw.out w8)
                clear halx gB z0 kz8 hbf hhd z2
                go_wp2_with fail
                refine hbx.out.mono ?_
                rintro e w' ⟨rfl, hw⟩
                obtain rfl := hw.symm
                clear hw hbx
                go_wp2_with fail
                refine hhx.out.mono ?_
                rintro e w' ⟨rfl, hw⟩
                obtain rfl := hw.symm
                clear hw hhx
                go_wp2_with fail
                refine hax.out.mono ?_
                rintro e w9 ⟨rfl, g9⟩
                have gf : w.grownBy w9 none := grownBy_tr (ccp.out.none fun _ _ h => h) (grownBy_tr g8.out g9)
                replace gf := Lib.hid gf
                clear hax g9
                go_wp2
                go_ret
                exact ⟨rfl, gf.out⟩
  · have hf' : fewB l = false := by cases h : fewB l; rfl; exact absurd h hf
    rw [hf'] at hfew
    have hawx := haw w
    clear h hf hf' haw
    go_enter Tryz.func4, Tryz.ntmps4
    go_wp2_with fail
    refine hfew.mono ?_
    rintro e w' ⟨rfl, hw⟩
    obtain rfl := hw.symm
    clear hfew hw
    go_wp2_with fail
    refine hawx.mono ?_
    rintro e w' ⟨rfl, hg⟩
    replace hg := Lib.hid hg
    clear hawx
    go_wp2
    go_ret
    exact ⟨rfl, hg.out⟩
end Go.Proofs.YtbjakhiflgjflaaGreatDoor
