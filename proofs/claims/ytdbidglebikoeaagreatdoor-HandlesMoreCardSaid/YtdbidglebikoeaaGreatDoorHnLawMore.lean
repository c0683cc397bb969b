/-
  HandlesMore answers true, and leaves memory as it was. Conditions: none.
-/
import Derived.Test.YtdbidglebikoeaaGreatDoorHnAwake
import Derived.Test.YtdbidglebikoeaaGreatDoorHnMore
import Derived.Test.YtdbidglebikoeaaGreatDoorHnTexts
namespace Go.Proofs.YtdbidglebikoeaaGreatDoor
open Go Go.RowKit Go.ChangeMaps

def ndsM (h : Nat) (d : List UInt8) : Nds := [(1, rootN nl4), (2, leafN 2 [120, 121, 122]), (3, ⟨2, 1, h, 0, d, none, ⟨#[]⟩⟩), (4, leafN 3 [97]), (5, ⟨1, 1, 0, 1, [], some [], nm1 100⟩)]
def moreS (d : List UInt8) (A a1 : Nat) : St := ⟨ndsM 2 d, [], 0, [(1, ⟨1, .file 3 a1 false true true⟩), (2, ⟨1, .file 3 A false true false⟩)], [], 2, []⟩
theorem putW_end (d s : List UInt8) : putW d d.length s = d ++ s := by
  unfold putW putB
  by_cases h : s.length = 0
  · rw [if_pos h, List.eq_nil_of_length_eq_zero h, List.append_nil]
  · rw [if_neg h, List.take_append_of_le_length (Nat.le_refl _), List.take_length, List.drop_eq_nil_of_le (by simp), List.append_nil]
theorem putW_mid (d s : List UInt8) (a : Nat) (h : a ≤ d.length) : putW d a s = d.take a ++ s ++ d.drop (a + s.length) := by
  unfold putW putB
  by_cases hs : s.length = 0
  · rw [if_pos hs, List.eq_nil_of_length_eq_zero hs, List.append_nil, List.length_nil, Nat.add_zero, List.take_append_drop]
  · rw [if_neg hs, List.take_append_of_le_length h]
    congr 1
    by_cases hl : a + s.length ≤ d.length
    · rw [show a + s.length - d.length = 0 by omega, List.replicate_zero, List.append_nil]
    · rw [List.drop_eq_nil_of_le (by simp; omega), List.drop_eq_nil_of_le (by omega)]
theorem tl_app' (a b : ByteArray) : tl (a ++ b) = tl a ++ tl b := by
  unfold tl
  rw [ByteArray.data_append, Array.toList_append]
theorem tl_upto' (s : ByteArray) (k : Nat) : tl (s.extract 0 k) = (tl s).take k := by
  unfold tl
  simp [ByteArray.data_extract, Array.toList_extract, List.extract]
theorem mk_tl (s : ByteArray) : (⟨(tl s).toArray⟩ : ByteArray) = s := by unfold tl; simp
theorem usedM (h : Nat) (d : List UInt8) : usedN (ndsM h d) = 4 + d.length := by
  unfold usedN ndsM
  simp [total, rootN, root0, leafN]
  omega
set_option maxHeartbeats 4000000 in
set_option maxRecDepth 100000 in
theorem lawMore_any (l : List ByteArray) (v : Value) (w : World) (h : Txs w v l) :
    Calls Tryz.prog 6 #[v] w fun e w' => e = .returned (.bool true) ∧ w.grownBy w' none := by
  obtain ⟨A, c, rfl, hc, hcm⟩ := h.form
  unfold maxLen at hcm
  have haw := fun W => awake_any W
  have hbg := begun_any w
  have hat := fun wr (hm : ∀ b, b < w.heap.size → wr.heap[b]? = w.heap[b]?) k hk => h.at_ (wr := wr) hm k hk
  replace hat := Lib.hid hat
  replace haw := Lib.hid haw
  obtain ⟨KL, hKL⟩ : ∃ KL, l.length = KL := ⟨_, rfl⟩
  rw [hKL] at hc ⊢
  replace hKL := Lib.hid hKL
  clear h
  by_cases hlen : 10 < KL
  · have hi : (10 : Int) < (KL : Int) := by omega
    have hawx := haw.out w
    clear haw hbg hat
    go_enter Tryz.func6, Tryz.ntmps6
    go_wp2_with fail
    refine hawx.mono ?_
    rintro e w' ⟨rfl, hg⟩
    replace hg := Lib.hid hg
    clear hawx
    go_wp2
    go_ret
    exact ⟨rfl, hg.out⟩
  · have hi : ¬ (10 : Int) < (KL : Int) := by omega
    replace hbg := Lib.hid hbg
    go_enter Tryz.func6, Tryz.ntmps6
    go_wp2_with fail
    refine hbg.out.mono ?_
    rintro e w0 ⟨fb, plb, tb, rfl, F0, hS0, cc0⟩
    clear hbg
    unfold ptrV
    go_upto_region 4 with fail
    obtain ⟨z, hz⟩ : ∃ z, w0.heap.size = z := ⟨_, rfl⟩
    have gA : w0.grownBy (w0.alloc (.cells #[.pointer (some ⟨fb, 0, none⟩), .pointer (some ⟨plb, 0, none⟩), .pointer (some ⟨tb, 0, none⟩)] 29)) none := World.grownBy_alloc w0 _ _
    have zb : Blk (w0.alloc (.cells #[.pointer (some ⟨fb, 0, none⟩), .pointer (some ⟨plb, 0, none⟩), .pointer (some ⟨tb, 0, none⟩)] 29)) w0.heap.size [ptrV fb, ptrV plb, ptrV tb] 29 := Blk.new w0 _ _
    have hzF : ¬ F0 z := fun h => absurd (hS0.lt h) (by omega)
    generalize (w0.alloc (.cells #[.pointer (some ⟨fb, 0, none⟩), .pointer (some ⟨plb, 0, none⟩), .pointer (some ⟨tb, 0, none⟩)] 29)) = w1 at gA zb ⊢
    simp only [hz] at zb ⊢
    have kz : Kp w1 F0 z [ptrV fb, ptrV plb, ptrV tb] 29 := ⟨zb, hzF⟩
    have hS : Sys w1 F0 (begunC fb plb tb) begunS := hS0.grown gA
    have cc : Chg (fun _ => False) F0 w w1 := cc0.trans (Chg.of_grown gA F0)
    clear hS0 cc0 gA zb hzF hz
    have hop : Calls Tryz.prog 23 #[.pointer (some ⟨tb, 0, none⟩), .int .i64 3, .agg #[.bool false, .bool true, .bool true]] w1 fun e w' => e = .returned (.tuple #[.int .i64 1, .int .i64 0]) ∧ ∃ F', Sys w' F' (begunC fb plb tb) (⟨ndsM 1 [], [], 0, [(1, ⟨1, .file 3 0 false true true⟩)], [], 1, []⟩) ∧ Chg F0 F' w1 w' := sys_File_w hS rfl (by decide) (y := leafN 2 []) rfl rfl (by decide) (by decide) true
    have z2 := kz.1.cell (i := 2) rfl
    have zl := kz.1.lt
    unfold ptrV at z2
    replace hS := Lib.hid hS
    replace cc := Lib.hid cc
    replace kz := Lib.hid kz
    replace hop := Lib.hid hop
    go_wp2_with fail
    refine hop.out.mono ?_
    rintro e w2 ⟨rfl, F1, hS', cS⟩
    replace kz := kz.out.chg cS
    replace cc := cc.out.trans cS
    replace hS := hS'
    clear hop z2 zl cS hS'
    have hop : Calls Tryz.prog 23 #[.pointer (some ⟨tb, 0, none⟩), .int .i64 3, .agg #[.bool false, .bool true, .bool false]] w2 fun e w' => e = .returned (.tuple #[.int .i64 2, .int .i64 0]) ∧ ∃ F', Sys w' F' (begunC fb plb tb) (moreS [] 0 0) ∧ Chg F1 F' w2 w' := sys_File_w hS rfl (by decide) (y := ⟨2, 1, 1, 0, [], none, ⟨#[]⟩⟩) rfl rfl (by decide) (by decide) false
    have z2 := kz.1.cell (i := 2) rfl
    have zl := kz.1.lt
    unfold ptrV at z2
    replace hS := Lib.hid hS
    replace cc := Lib.hid cc
    replace kz := Lib.hid kz
    replace hop := Lib.hid hop
    go_wp2_with fail
    refine hop.out.mono ?_
    rintro e w3 ⟨rfl, F2, hS', cS⟩
    replace kz := kz.out.chg cS
    replace cc := cc.out.trans cS
    replace hS := hS'
    clear hop z2 zl cS hS'
    go_wp2
    go_loopw [9, 10, 11] (fun tv av nv wr => ∃ (n B a1 : Nat) (T : ByteArray) (F : Nat → Prop), n ≤ KL ∧ tv = .string T ∧ av = .int .i64 (B : Int) ∧ nv = .int .i64 (n : Int) ∧ B ≤ T.size ∧ T.size ≤ 5 * n ∧ Sys wr F (begunC fb plb tb) (moreS (tl T) B a1) ∧ Kp wr F z [ptrV fb, ptrV plb, ptrV tb] 29 ∧ Chg (fun _ => False) F w wr) (fun _ _ nv _ => KL - (intOf nv).toNat)
    case atStart => exact ⟨0, 0, 0, ⟨#[]⟩, F2, Nat.zero_le _, rfl, rfl, rfl, Nat.zero_le _, Nat.zero_le _, hS, kz, cc⟩
    case round =>
      obtain ⟨n, B, a1, T, F, hn, rfl, rfl, rfl, hB, hT5, hS, kz, cc⟩ := hrel
      by_cases hlt : n < KL
      · have hlt' : n < l.length := by rw [hKL.out]; exact hlt
        obtain ⟨b, off, rfl, hb, c0⟩ := hat.out wr (fun g hg => cc.block g hg nofun) n hlt'
        generalize l[n] = sv at c0
        have hbr : b < wr.heap.size := Nat.lt_of_lt_of_le hb cc.size
        have hi0 : (0 : Int) ≤ (n : Int) := by omega
        have hi1 : (n : Int) < (KL : Int) := by omega
        by_cases h5 : 5 < sv.size
        · have h5i : (5 : Int) < (sv.size : Int) := by omega
          have hawx := haw.out wr
          have hgr := cc.none fun _ _ h => h
          replace hgr := Lib.hid hgr
          replace hawx := Lib.hid hawx
          clear hS kz cc hat haw
          go_wp2_with fail
          refine hawx.out.mono ?_
          rintro e w' ⟨rfl, hg⟩
          have hg2 := grownBy_tr hgr.out hg
          replace hg2 := Lib.hid hg2
          clear hawx hg
          go_wp2
          go_ret
          exact ⟨rfl, hg2.out⟩
        · have h5i : ¬ (5 : Int) < (sv.size : Int) := by omega
          have hTL : (tl T).length = T.size := tl_len T
          have hsz : T.size ≤ 45 := by omega
          have kz2 := kz.1.cell (i := 2) rfl
          have kz0 := kz.1.cell (i := 0) rfl
          have zl := kz.1.lt
          unfold ptrV at kz2 kz0
          have j1 : T.size + sv.size ≤ 9223372036854775807 := by omega
          have j2 : ¬ 9223372036854775807 < T.size + sv.size := by omega
          by_cases hev : n % 2 = 0
          · have e2 : (n : Int).tmod 2 = 0 := by
              have := tmod_nat n 2
              rw [hev] at this
              simpa using this
            have hop : Calls Tryz.prog 27 #[.pointer (some ⟨tb, 0, none⟩), .int .i64 1, .string sv] (wr.drewN 1) fun e w' => e = .returned (.int .i64 0) ∧ ∃ F', Sys w' F' (begunC fb plb tb) (moreS (tl (T ++ sv)) B (T.size + sv.size)) ∧ Chg F F' wr w' := by
              have := sys_write_more (k := 1) (hS.keep (w' := wr.drewN 1) (Nat.le_refl _) fun _ _ => rfl) (x := ⟨1, .file 3 a1 false true true⟩) rfl rfl (y := ⟨2, 1, 2, 0, tl T, none, ⟨#[]⟩⟩) rfl rfl rfl sv (by show (tl T).length + sv.size ≤ 4096; omega) (by show usedN (ndsM 2 (tl T)) + sv.size ≤ 60; rw [usedM]; omega)
              refine this.mono ?_
              rintro e w' ⟨he, F', h1, h2⟩
              refine ⟨he, F', ?_, (Chg.drewN F wr 1).trans h2⟩
              rw [tl_app', ← putW_end, ← hTL]
              exact h1
            replace hop := Lib.hid hop
            replace hS := Lib.hid hS
            replace cc := Lib.hid cc
            replace kz := Lib.hid kz
            go_upto_region 17 with fail
            go_still_tail 7, (by kernel_rfl)
            change wpList _ _ _ _ _ (wr.drewN 1)
            go_wp2_with fail
            refine hop.out.mono ?_
            rintro e w5 ⟨rfl, F5, hS5, cS⟩
            have kz5 := kz.out.chg cS
            have cc5 := cc.out.trans cS
            have hrd : Calls Tryz.prog 31 #[.pointer (some ⟨fb, 0, none⟩), .int .i64 3, .int .i64 0, .int .i64 100] w5 fun e w' => e = .returned (.tuple #[.string (T ++ sv), .int .i64 0]) ∧ ∃ m, w' = w5.drewN m := by
              obtain ⟨_, _, _, hR, _⟩ := hS5
              obtain ⟨_, _, _, hT, _⟩ := hR.tree
              have := read_some hT (k := 3) (x := ⟨2, 1, 2, 0, tl (T ++ sv), none, ⟨#[]⟩⟩) rfl (show (2 : Nat) ≠ 1 by decide) 0 100 (by decide) (by decide)
              rw [List.drop_zero, List.take_of_length_le (by rw [tl_len]; simp; omega), mk_tl] at this
              exact this
            have y0 := kz5.1.cell (i := 0) rfl
            have yl := kz5.1.lt
            unfold ptrV at y0
            have hTs : (T ++ sv).size = T.size + sv.size := by simp
            replace hrd := Lib.hid hrd
            replace hS5 := Lib.hid hS5
            replace kz5 := Lib.hid kz5
            replace cc5 := Lib.hid cc5
            clear hop hS cc kz kz0 kz2 cS zl
            go_wp2_with fail
            refine hrd.out.mono ?_
            rintro e w6 ⟨rfl, m, rfl⟩
            have hS6 := hS5.out.keep (w' := w5.drewN m) (Nat.le_refl _) fun _ _ => rfl
            have kz6 := kz5.out.chg (Chg.drewN F5 w5 m)
            have cc6 := cc5.out.trans (Chg.drewN F5 w5 m)
            replace hS6 := Lib.hid hS6
            replace kz6 := Lib.hid kz6
            replace cc6 := Lib.hid cc6
            clear hrd hS5 kz5 cc5 y0
            generalize w5.drewN m = w6 at hS6 kz6 cc6 ⊢
            go_wp2
            go_roundw
            case rel => exact ⟨n + 1, B, T.size + sv.size, T ++ sv, F5, by omega, rfl, rfl, by go_num, by omega, by omega, hS6.out, kz6.out, cc6.out⟩
            case measure => simp [intOf]; omega
          · have e2 : (n : Int).tmod 2 = 1 := by
              have := tmod_nat n 2
              rw [show n % 2 = 1 by omega] at this
              simpa using this
            have i3 : ¬ (T.size : Int) < (B : Int) := by omega
            have j3 : (B : Int) ≤ (T.size : Int) := by omega
            have j4 : (0 : Int) ≤ (B : Int) := by omega
            have i5 : IntKind.i64.wrap ((B : Int) + (sv.size : Int)) = (B : Int) + (sv.size : Int) := by rw [IntKind.wrap_i64]; omega
            replace hS := Lib.hid hS
            replace cc := Lib.hid cc
            replace kz := Lib.hid kz
            clear j1 j2
            go_wp2
            go_loopw [9] (fun tv w2 => tv = .string T ∧ wr = w2) (fun _ _ => 0)
            case atStart => exact ⟨rfl, rfl⟩
            case round =>
              obtain ⟨rfl, rfl⟩ := hrel
              go_upto_region 21 with fail
              have hex : (T.extract 0 B).size = B := by rw [ByteArray.size_extract]; omega
              have j5 : (T.extract 0 B).size + sv.size ≤ 9223372036854775807 := by omega
              have j6 : ¬ 9223372036854775807 < (T.extract 0 B).size + sv.size := by omega
              go_quiet (fail)
              obtain ⟨NW, hNW⟩ : ∃ NW, T.extract 0 B ++ sv = NW := ⟨_, rfl⟩
              rw [hNW]
              have hNs : NW.size = B + sv.size := by rw [← hNW, ByteArray.size_append, hex]
              have hNl : tl NW = (tl T).take B ++ tl sv := by rw [← hNW, tl_app', tl_upto']
              have hS2 := hS.out.keep (w' := wr.drewN nq) (Nat.le_refl _) fun _ _ => rfl
              have kzz := kz.out.chg (Chg.drewN F wr nq)
              have cc2 := cc.out.trans (Chg.drewN F wr nq)
              replace c0 : (wr.drewN nq).cell? _ = _ := c0
              replace kz2 : (wr.drewN nq).cell? _ = _ := kz2
              replace hbr : b < (wr.drewN nq).heap.size := hbr
              replace zl : z < (wr.drewN nq).heap.size := zl
              clear hS kz cc kz0 hex j5 j6
              generalize wr.drewN nq = w2 at hS2 kzz cc2 c0 kz2 hbr zl ⊢
              replace hNW := Lib.hid hNW
              by_cases hls : NW.size < T.size
              · have i4 : (NW.size : Int) < (T.size : Int) := by omega
                have hex2 : (T.extract (B + sv.size) T.size).size = T.size - (B + sv.size) := by rw [ByteArray.size_extract]; omega
                have j7 : NW.size + (T.extract (B + sv.size) T.size).size ≤ 9223372036854775807 := by omega
                have j8 : ¬ 9223372036854775807 < NW.size + (T.extract (B + sv.size) T.size).size := by omega
                have j9 : (NW.size : Int) ≤ (T.size : Int) := by omega
                have j10 : (0 : Int) ≤ (NW.size : Int) := by omega
                have hTs : (NW ++ T.extract (B + sv.size) T.size).size = T.size := by rw [ByteArray.size_append, hex2]; omega
                have htl : tl (NW ++ T.extract (B + sv.size) T.size) = putW (tl T) B (tl sv) := by
                  rw [tl_app', hNl, putW_mid _ _ _ (by omega), tl_from, tl_len]
                have hop : Calls Tryz.prog 27 #[.pointer (some ⟨tb, 0, none⟩), .int .i64 2, .string sv] (w2.drewN 1) fun e w' => e = .returned (.int .i64 0) ∧ ∃ F', Sys w' F' (begunC fb plb tb) (moreS (tl (NW ++ T.extract (B + sv.size) T.size)) (B + sv.size) a1) ∧ Chg F F' w2 w' := by
                  have := sys_write_file (k := 2) (hS2.keep (w' := w2.drewN 1) (Nat.le_refl _) fun _ _ => rfl) (x := ⟨1, .file 3 B false true false⟩) rfl rfl (y := ⟨2, 1, 2, 0, tl T, none, ⟨#[]⟩⟩) rfl rfl sv (by omega) (by show usedN (ndsM 2 (tl T)) + (B + sv.size - (tl T).length) ≤ 60; rw [usedM]; omega)
                  refine this.mono ?_
                  rintro e w' ⟨he, F', h1, h2⟩
                  refine ⟨he, F', ?_, (Chg.drewN F w2 1).trans h2⟩
                  rw [htl]
                  exact h1
                replace hop := Lib.hid hop
                replace hS2 := Lib.hid hS2
                replace cc2 := Lib.hid cc2
                replace kzz := Lib.hid kzz
                go_upto_region 26 with fail
                go_still_tail 7, (by kernel_rfl)
                change wpList _ _ _ _ _ (w2.drewN 1)
                go_wp2_with fail
                refine hop.out.mono ?_
                rintro e w5 ⟨rfl, F5, hS5, cS⟩
                have kz5 := kzz.out.chg cS
                have cc5 := cc2.out.trans cS
                have hrd : Calls Tryz.prog 31 #[.pointer (some ⟨fb, 0, none⟩), .int .i64 3, .int .i64 0, .int .i64 100] w5 fun e w' => e = .returned (.tuple #[.string (NW ++ T.extract (B + sv.size) T.size), .int .i64 0]) ∧ ∃ m, w' = w5.drewN m := by
                  obtain ⟨_, _, _, hR, _⟩ := hS5
                  obtain ⟨_, _, _, hT, _⟩ := hR.tree
                  have := read_some hT (k := 3) (x := ⟨2, 1, 2, 0, tl (NW ++ T.extract (B + sv.size) T.size), none, ⟨#[]⟩⟩) rfl (show (2 : Nat) ≠ 1 by decide) 0 100 (by decide) (by decide)
                  rw [List.drop_zero, List.take_of_length_le (by rw [tl_len]; omega), mk_tl] at this
                  exact this
                have y0 := kz5.1.cell (i := 0) rfl
                have yl := kz5.1.lt
                unfold ptrV at y0
                replace hrd := Lib.hid hrd
                replace hS5 := Lib.hid hS5
                replace kz5 := Lib.hid kz5
                replace cc5 := Lib.hid cc5
                clear hop hS2 cc2 kzz cS
                go_wp2_with fail
                refine hrd.out.mono ?_
                rintro e w6 ⟨rfl, m, rfl⟩
                have hS6 := hS5.out.keep (w' := w5.drewN m) (Nat.le_refl _) fun _ _ => rfl
                have kz6 := kz5.out.chg (Chg.drewN F5 w5 m)
                have cc6 := cc5.out.trans (Chg.drewN F5 w5 m)
                replace hS6 := Lib.hid hS6
                replace kz6 := Lib.hid kz6
                replace cc6 := Lib.hid cc6
                clear hrd hS5 kz5 cc5 y0
                generalize w5.drewN m = w6 at hS6 kz6 cc6 ⊢
                go_wp2
                go_roundw
                case rel => exact ⟨n + 1, (B + sv.size), a1, NW ++ T.extract (B + sv.size) T.size, F5, by omega, rfl, by go_num, by go_num, by omega, by omega, hS6.out, kz6.out, cc6.out⟩
                case measure => simp [intOf]; omega
              · have i4 : ¬ (NW.size : Int) < (T.size : Int) := by omega
                have htl : tl NW = putW (tl T) B (tl sv) := by
                  rw [hNl, putW_mid _ _ _ (by omega), List.drop_eq_nil_of_le (by rw [tl_len, tl_len]; omega), List.append_nil]
                have hop : Calls Tryz.prog 27 #[.pointer (some ⟨tb, 0, none⟩), .int .i64 2, .string sv] (w2.drewN 1) fun e w' => e = .returned (.int .i64 0) ∧ ∃ F', Sys w' F' (begunC fb plb tb) (moreS (tl (NW)) (B + sv.size) a1) ∧ Chg F F' w2 w' := by
                  have := sys_write_file (k := 2) (hS2.keep (w' := w2.drewN 1) (Nat.le_refl _) fun _ _ => rfl) (x := ⟨1, .file 3 B false true false⟩) rfl rfl (y := ⟨2, 1, 2, 0, tl T, none, ⟨#[]⟩⟩) rfl rfl sv (by omega) (by show usedN (ndsM 2 (tl T)) + (B + sv.size - (tl T).length) ≤ 60; rw [usedM]; omega)
                  refine this.mono ?_
                  rintro e w' ⟨he, F', h1, h2⟩
                  refine ⟨he, F', ?_, (Chg.drewN F w2 1).trans h2⟩
                  rw [htl]
                  exact h1
                replace hop := Lib.hid hop
                replace hS2 := Lib.hid hS2
                replace cc2 := Lib.hid cc2
                replace kzz := Lib.hid kzz
                go_upto_region 26 with fail
                go_still_tail 7, (by kernel_rfl)
                change wpList _ _ _ _ _ (w2.drewN 1)
                go_wp2_with fail
                refine hop.out.mono ?_
                rintro e w5 ⟨rfl, F5, hS5, cS⟩
                have kz5 := kzz.out.chg cS
                have cc5 := cc2.out.trans cS
                have hrd : Calls Tryz.prog 31 #[.pointer (some ⟨fb, 0, none⟩), .int .i64 3, .int .i64 0, .int .i64 100] w5 fun e w' => e = .returned (.tuple #[.string (NW), .int .i64 0]) ∧ ∃ m, w' = w5.drewN m := by
                  obtain ⟨_, _, _, hR, _⟩ := hS5
                  obtain ⟨_, _, _, hT, _⟩ := hR.tree
                  have := read_some hT (k := 3) (x := ⟨2, 1, 2, 0, tl (NW), none, ⟨#[]⟩⟩) rfl (show (2 : Nat) ≠ 1 by decide) 0 100 (by decide) (by decide)
                  rw [List.drop_zero, List.take_of_length_le (by rw [tl_len]; omega), mk_tl] at this
                  exact this
                have y0 := kz5.1.cell (i := 0) rfl
                have yl := kz5.1.lt
                unfold ptrV at y0
                replace hrd := Lib.hid hrd
                replace hS5 := Lib.hid hS5
                replace kz5 := Lib.hid kz5
                replace cc5 := Lib.hid cc5
                clear hop hS2 cc2 kzz cS
                go_wp2_with fail
                refine hrd.out.mono ?_
                rintro e w6 ⟨rfl, m, rfl⟩
                have hS6 := hS5.out.keep (w' := w5.drewN m) (Nat.le_refl _) fun _ _ => rfl
                have kz6 := kz5.out.chg (Chg.drewN F5 w5 m)
                have cc6 := cc5.out.trans (Chg.drewN F5 w5 m)
                replace hS6 := Lib.hid hS6
                replace kz6 := Lib.hid kz6
                replace cc6 := Lib.hid cc6
                clear hrd hS5 kz5 cc5 y0
                generalize w5.drewN m = w6 at hS6 kz6 cc6 ⊢
                go_wp2
                go_roundw
                case rel => exact ⟨n + 1, (B + sv.size), a1, NW, F5, by omega, rfl, by go_num, by go_num, by omega, by omega, hS6.out, kz6.out, cc6.out⟩
                case measure => simp [intOf]; omega
      · obtain rfl : n = KL := by omega
        have hi1 : ¬ (n : Int) < (n : Int) := by omega
        have hawx := haw.out wr
        have hgr := cc.none fun _ _ h => h
        replace hgr := Lib.hid hgr
        replace hawx := Lib.hid hawx
        clear hS kz cc hat haw
        go_wp2_with fail
        refine hawx.out.mono ?_
        rintro e w' ⟨rfl, hg⟩
        have hg2 := grownBy_tr hgr.out hg
        replace hg2 := Lib.hid hg2
        clear hawx hg
        go_wp2
        go_ret
        exact ⟨rfl, hg2.out⟩
end Go.Proofs.YtdbidglebikoeaaGreatDoor
