/-
  A path is walked: walk, Walk, place. Conditions: what stays so of a tree; paths of up to a million bytes.
-/
import Derived.Deep.DeepCutAuto
import Derived.Test.YtglcfbefpnphaaaGreatDoorZn10
import Derived.Test.YtglcfbefpnphaaaGreatDoorZn12
namespace Go.Proofs.YtglcfbefpnphaaaGreatDoor
open Go Go.RowKit

theorem beqL (l m : List UInt8) : (l == m) = decide (l = m) := by
  by_cases h : l = m
  · subst h; simp
  · rw [decide_eq_false h, beq_eq_false_iff_ne]; exact h
theorem intOf_nat (n : Nat) : (intOf (.int .i64 (n : Int))).toNat = n := by simp [intOf]
theorem intOf_succ (n : Nat) : (intOf (.int .i64 ((n : Int) + 1))).toNat = n + 1 := by simp [intOf]
def lenS (v : Value) : Nat := match v with | .string s => s.size | _ => 0
section
variable {w : World} {lab : Nat → TL} {F : Nat → Prop} {fb most room mb : Nat} {nds : Nds} {mem : Int → NM}
set_option maxHeartbeats 4000000 in
set_option maxRecDepth 100000 in
theorem walk_any (h : TreeR w lab fb most room nds mb mem) (T : TOk nds) (fo : Bool) (a : Int) (hx : ∃ x, look nds a = some x) (s : ByteArray) (hs : s.size ≤ 1000000) :
    Calls Tryz.prog 119 #[.pointer (some ⟨fb, 0, none⟩), .int .i64 a, .string s, .bool fo] w fun e w' => e = .returned (.tuple #[.int .i64 (walkP nds fo (wM (tl s) 0 + 1) a (tl s) 0).1, .int .i64 (walkP nds fo (wM (tl s) 0 + 1) a (tl s) 0).2]) ∧ w.grownBy w' none := by
  obtain ⟨R, hR⟩ : ∃ R, walkP nds fo (wM (tl s) 0 + 1) a (tl s) 0 = R := ⟨_, rfl⟩
  rw [hR]
  obtain ⟨R1, R2⟩ := R
  have hS : wM (tl s) 0 ≤ 2056 + s.size := by unfold wM; rw [tl_len]; omega
  replace hR := Lib.hid hR
  replace hS := Lib.hid hS
  replace h := Lib.hid h
  replace hx := Lib.hid hx
  have hg0 : w.grownBy w none := grownBy_re w
  replace hg0 := Lib.hid hg0
  go_enter Tryz.func119, Tryz.ntmps119
  go_wp2
  go_step3
  go_wp2
  go_step3
  go_wp2
  go_loopw [1, 2, 10] (fun av rv lv wr => ∃ (a : Int) (rest : ByteArray) (links f : Nat), av = .int .i64 a ∧ rv = .string rest ∧ lv = .int .i64 (links : Int) ∧ links ≤ 8 ∧ Hid (∃ x, look nds a = some x) ∧ Hid (walkP nds fo f a (tl rest) links = (R1, R2)) ∧ Hid (wM (tl rest) links < f) ∧ Hid (wM (tl rest) links ≤ 2056 + s.size) ∧ Hid (w.grownBy wr none)) (fun _ rv lv _ => (8 - (intOf lv).toNat) * 257 + lenS rv)
  case atStart => exact ⟨a, s, 0, _, rfl, rfl, rfl, by omega, hx, hR, Lib.hid (Nat.lt_succ_self _), hS, hg0⟩
  case round =>
    clear hx hR hg0 hS
    obtain ⟨a, rest, links, f, rfl, rfl, rfl, hl8, hx, hR, hf, hM, hg⟩ := hrel
    obtain ⟨f, rfl⟩ : ∃ f', f = f' + 1 := ⟨f - 1, by have := hf.out; omega⟩
    replace hR := hR.out
    replace hf := hf.out
    replace hM := hM.out
    replace hx := hx.out
    obtain ⟨x, hx⟩ := hx
    have hsz : rest.size ≤ 1002056 := by unfold wM at hM; rw [tl_len] at hM; omega
    unfold walkP at hR
    have he := tl_empty rest
    by_cases h0 : tl rest = []
    · rw [if_pos h0] at hR
      obtain ⟨rfl, rfl⟩ := Prod.mk.inj hR
      rw [decide_eq_true h0] at he
      clear hx hR hf hM h0 h
      go_wp2
      first | go_ret2 | (rw [Exit.noGoto_ret]; go_ret2)
      exact ⟨rfl, hg.out⟩
    rw [if_neg h0, hx] at hR
    simp only at hR
    rw [decide_eq_false h0] at he
    have hh := h.out.grown hg.out
    have f0 := hh.fs.cell (i := 0) rfl
    have hfl := hh.fs.lt
    have hN := hh.nd a x hx
    have hfi := hh.find_some hx
    have c0 := hN.blk.cell (show (bodyC x (mem a))[0]? = some _ from rfl)
    have hbl := hN.blk.lt
    obtain ⟨kb, hkb⟩ : ∃ kb, (mem a).blk = kb := ⟨_, rfl⟩
    rw [hkb] at hfi c0 hbl
    have hcl := cutB_lt h0
    have hst : wM (cutB (tl rest)) links < f := by have := wM_step hcl links; omega
    by_cases h1 : x.kind ≠ 1
    · rw [if_pos h1] at hR
      obtain ⟨rfl, rfl⟩ := Prod.mk.inj hR
      have e1 : ((x.kind : Int) == 1) = false := by simp; omega
      clear hx hR hf hM h0 h hN hh hkb hcl hst h1
      go_wp2
      first | go_ret2 | (rw [Exit.noGoto_ret]; go_ret2)
      exact ⟨rfl, hg.out⟩
    rw [if_neg h1] at hR
    replace h1 : x.kind = 1 := by omega
    rw [h1] at c0
    have hcp := cutPart_any rest wr
    replace hR := Lib.hid hR
    replace hst := Lib.hid hst
    replace hf := Lib.hid hf
    replace hM := Lib.hid hM
    replace h0 := Lib.hid h0
    replace hN := Lib.hid hN
    replace hh := Lib.hid hh
    replace hcl := Lib.hid hcl
    replace hkb := Lib.hid hkb
    go_wp2_with fail
    refine hcp.mono ?_
    rintro e w1 ⟨⟨P, Q, rfl, hP, hQ⟩, g1⟩
    replace hg := Lib.hid (grownBy_tr hg.out g1)
    replace hh := Lib.hid (hh.out.grown g1)
    have hN1 := hh.out.nd a x hx
    have f0' := hh.out.fs.cell (i := 0) rfl
    have hfl' := hh.out.fs.lt
    have c5 := hN1.blk.cell (show (bodyC x (mem a))[5]? = some _ from rfl)
    have hbl' := hN1.blk.lt
    rw [hkb.out] at c5 hbl'
    replace hR := hR.out
    replace hst := hst.out
    rw [← hP, ← hQ] at hR
    rw [← hQ] at hst
    have hQl : Hid ((tl Q).length < (tl rest).length) := Lib.hid (by rw [hQ]; exact hcl.out)
    have hQm : Hid (lenS (.string Q) < lenS (.string rest)) := Lib.hid (by have := hQl.out; rw [tl_len, tl_len] at this; exact this)
    have q0 : (P.toList == []) = decide (tl P = []) := by rw [ByteArray.toList_eq]; show (tl P == []) = _; rw [beqL]
    have q1 : (P.toList == [46]) = decide (tl P = [46]) := by rw [ByteArray.toList_eq]; show (tl P == [46]) = _; rw [beqL]
    have q2 : (P.toList == [46, 46]) = decide (tl P = [46, 46]) := by rw [ByteArray.toList_eq]; show (tl P == [46, 46]) = _; rw [beqL]
    have q0' := tl_empty P
    clear hcp f0 hfl hfi c0 hbl hN he hP hQ
    by_cases h2 : tl P = []
    · rw [if_pos h2] at hR
      obtain ⟨rfl, rfl⟩ := Prod.mk.inj hR
      rw [decide_eq_true h2] at q0 q0'
      clear hR h2 q1 q2 h
      go_wp2
      first | go_ret2 | (rw [Exit.noGoto_ret]; go_ret2)
      exact ⟨rfl, hg.out⟩
    rw [if_neg h2] at hR
    rw [decide_eq_false h2] at q0 q0'
    have hM2 : Hid (wM (tl Q) links ≤ 2056 + s.size) := Lib.hid (by have := wM_step hQl.out links; have := hM.out; omega)
    by_cases h3 : tl P = [46]
    · rw [if_pos h3] at hR
      rw [decide_eq_true h3] at q1
      replace hR := Lib.hid hR
      replace hst := Lib.hid hst
      have hx' : Hid (∃ x, look nds a = some x) := Lib.hid ⟨x, hx⟩
      clear h2 h3 q2 h hx
      go_wp2
      all_goals (
        go_roundw
        first
          | (case rel => exact ⟨a, Q, links, f, rfl, rfl, rfl, hl8, hx', hR, hst, hM2, hg⟩
             case measure => have := hQm.out; simp [intOf]; omega)
          | exact ⟨⟨a, Q, links, f, rfl, rfl, rfl, hl8, hx', hR, hst, hM2, hg⟩, by have := hQm.out; simp [intOf]; omega⟩)
    rw [if_neg h3] at hR
    rw [decide_eq_false h3] at q1
    by_cases h4 : tl P = [46, 46]
    · rw [if_pos h4] at hR
      rw [decide_eq_true h4] at q2
      by_cases h5 : x.par = 0
      · rw [if_pos h5] at hR
        obtain ⟨rfl, rfl⟩ := Prod.mk.inj hR
        rw [h5] at c5
        clear hR h2 h3 h4 h hx h5 hst
        go_wp2
        first | go_ret2 | (rw [Exit.noGoto_ret]; go_ret2)
        exact ⟨rfl, hg.out⟩
      · rw [if_neg h5] at hR
        have e5 : ((x.par : Int) == 0) = false := by simp; omega
        obtain ⟨p, hp, _⟩ := T.par a x hx h1 h5
        replace hR := Lib.hid hR
        replace hst := Lib.hid hst
        have hx' : Hid (∃ y, look nds (x.par : Int) = some y) := Lib.hid ⟨p, hp⟩
        clear h2 h3 h4 h hx h5 hp
        go_wp2
        all_goals (
          go_roundw
          first
            | (case rel => exact ⟨x.par, Q, links, f, rfl, rfl, rfl, hl8, hx', hR, hst, hM2, hg⟩
               case measure => have := hQm.out; simp [intOf]; omega)
            | exact ⟨⟨x.par, Q, links, f, rfl, rfl, rfl, hl8, hx', hR, hst, hM2, hg⟩, by have := hQm.out; simp [intOf]; omega⟩)
    rw [if_neg h4] at hR
    rw [decide_eq_false h4] at q2
    have hfd := findD_any hh.out hx (T.dirAt hx h1) P
    rw [hkb.out] at hfd
    rcases findP_e (nmsOf x) (tl P) with ⟨r1, n, r2, r3⟩ | ⟨r1, r2⟩
    · rw [if_neg (by rw [r1]; simp), r2] at hR
      rw [r1, r2] at hfd
      obtain ⟨_, y, hy⟩ := T.ent a x hx _ r3
      simp only at hy
      rw [hy] at hR
      simp only at hR
      have hNy := hh.out.nd _ y hy
      have hfy := hh.out.find_some hy
      have y0 := hNy.blk.cell (show (bodyC y (mem n))[0]? = some _ from rfl)
      have y3 := hNy.blk.cell (show (bodyC y (mem n))[3]? = some _ from rfl)
      have hyl := hNy.blk.lt
      have hrow := hNy.data
      generalize (mem n).blk = nb at hfy y0 y3 hyl
      generalize (mem n).dv = dv at y3 hrow
      have hqe := tl_empty Q
      have hqE : (Q.toList == []) = decide (tl Q = []) := by rw [ByteArray.toList_eq]; show (tl Q == []) = _; rw [beqL]
      by_cases h6 : y.kind ≠ 3 ∨ (tl Q = [] ∧ fo = false)
      · rw [if_pos h6] at hR
        replace hR := Lib.hid hR
        replace hst := Lib.hid hst
        have hx' : Hid (∃ y, look nds (n : Int) = some y) := Lib.hid ⟨y, hy⟩
        replace h6 : ((y.kind : Int) == 3) = false ∨ (((y.kind : Int) == 3) = true ∧ Q.toList.isEmpty = true ∧ (Q.toList == []) = true ∧ fo = false) := by
          by_cases hk3 : y.kind = 3
          · rcases h6 with h6 | h6
            · exact absurd hk3 h6
            · exact .inr ⟨by rw [hk3]; rfl, by rw [hqe]; simpa using h6.1, by rw [hqE]; simpa using h6.1, h6.2⟩
          · exact .inl (by simp; omega)
        clear h2 h3 h4 h hx hy hqe hqE hrow y3 hNy r3
        rcases h6 with h6 | ⟨h6, h7, h7', rfl⟩
        · go_wp2_with fail
          refine hfd.mono ?_
          rintro e w' ⟨rfl, hw⟩
          obtain rfl := hw.symm
          go_wp2
          all_goals (
            go_roundw
            first
              | (case rel => exact ⟨n, Q, links, f, rfl, rfl, rfl, hl8, hx', hR, hst, hM2, hg⟩
                 case measure => have := hQm.out; simp [intOf]; omega)
              | exact ⟨⟨n, Q, links, f, rfl, rfl, rfl, hl8, hx', hR, hst, hM2, hg⟩, by have := hQm.out; simp [intOf]; omega⟩)
        · go_wp2_with fail
          refine hfd.mono ?_
          rintro e w' ⟨rfl, hw⟩
          obtain rfl := hw.symm
          go_wp2
          all_goals (
            go_roundw
            first
              | (case rel => exact ⟨n, Q, links, f, rfl, rfl, rfl, hl8, hx', hR, hst, hM2, hg⟩
                 case measure => have := hQm.out; simp [intOf]; omega)
              | exact ⟨⟨n, Q, links, f, rfl, rfl, rfl, hl8, hx', hR, hst, hM2, hg⟩, by have := hQm.out; simp [intOf]; omega⟩)
      · rw [if_neg h6] at hR
        replace h6 : y.kind = 3 ∧ (Q.toList.isEmpty = false ∧ (Q.toList == []) = false ∨ Q.toList.isEmpty = true ∧ (Q.toList == []) = true ∧ fo = true) := by
          have hk3 : y.kind = 3 := Classical.byContradiction fun e => h6 (.inl e)
          refine ⟨hk3, ?_⟩
          by_cases hq : tl Q = []
          · refine .inr ⟨by rw [hqe]; simpa using hq, by rw [hqE]; simpa using hq, ?_⟩
            cases fo
            · exact absurd (.inr ⟨hq, rfl⟩) h6
            · rfl
          · exact .inl ⟨by rw [hqe]; simpa using hq, by rw [hqE]; simpa using hq⟩
        obtain ⟨hk3, h6⟩ := h6
        rw [hk3] at y0
        by_cases h7 : links = 8
        · rw [if_pos h7] at hR
          obtain ⟨rfl, rfl⟩ := Prod.mk.inj hR
          subst h7
          clear h2 h3 h4 h hx hy hqe hqE hrow y3 hNy r3 hR hst
          rcases h6 with ⟨h6, h7⟩ | ⟨h6, h7, rfl⟩
          · go_wp2_with fail
            refine hfd.mono ?_
            rintro e w' ⟨rfl, hw⟩
            obtain rfl := hw.symm
            go_wp2
            first | go_ret2 | (rw [Exit.noGoto_ret]; go_ret2)
            exact ⟨rfl, hg.out⟩
          · go_wp2_with fail
            refine hfd.mono ?_
            rintro e w' ⟨rfl, hw⟩
            obtain rfl := hw.symm
            go_wp2
            first | go_ret2 | (rw [Exit.noGoto_ret]; go_ret2)
            exact ⟨rfl, hg.out⟩
        · rw [if_neg h7] at hR
          have e8 : ((links : Int) == 8) = false := by simp; omega
          have hcv := conv_row hrow
          obtain ⟨X, hX⟩ : ∃ X : ByteArray, (⟨y.data.toArray⟩ : ByteArray) = X := ⟨_, rfl⟩
          have hXl : tl X = y.data := by rw [← hX]; rfl
          rw [hX] at hcv
          rw [← hXl] at hR
          have hbg := begin_any a X w1
          have htx : tl (X ++ Q) = tl X ++ tl Q := by simp [tl]
          have hxq : (X ++ Q).size = X.size + Q.size := by rw [← tl_len, htx, List.length_append, tl_len, tl_len]
          have hlk : Hid (beginP a (tl X) = beginP a (tl X)) := Lib.hid rfl
          have hroot := T.root
          rcases beginP_e a (tl X) with ⟨b1, b2, b3⟩ | ⟨b1, b2⟩
          · rw [if_neg (by rw [b1]; simp), ← htx] at hR
            rw [b1] at hbg
            have hxs : ¬ 9223372036854775807 < X.size + Q.size := by have q := hQl.out; rw [tl_len, tl_len] at q; rw [tl_len] at b3; omega
            have hml := wM_link (t := tl X) hQl.out b3 (links := links) (by omega)
            rw [← htx] at hml
            have hf2 : Hid (wM (tl (X ++ Q)) (links + 1) < f) := Lib.hid (by have := hf.out; omega)
            have hM3 : Hid (wM (tl (X ++ Q)) (links + 1) ≤ 2056 + s.size) := Lib.hid (by have := hM.out; omega)
            have hme : Hid ((8 - (links + 1)) * 257 + lenS (.string (X ++ Q)) < (8 - links) * 257 + lenS (.string rest)) := Lib.hid (by unfold wM at hml; rw [tl_len, tl_len] at hml; exact hml)
            obtain ⟨a2, ha2⟩ : ∃ a2, (beginP a (tl X)).1 = a2 := ⟨_, rfl⟩
            rw [ha2] at hR hbg b2
            have hx' : Hid (∃ x, look nds a2 = some x) := Lib.hid (by
              obtain ⟨r, hr, _⟩ := hroot
              rcases b2 with rfl | rfl
              · exact ⟨r, hr⟩
              · exact ⟨x, hx⟩)
            replace hR := Lib.hid hR
            have hl8' : links + 1 ≤ 8 := by omega
            clear h2 h3 h4 h hx hy hqe hqE hrow hNy r3 hst htx hml hlk hroot ha2 b2 hXl hX hxq b1 b3
            rcases h6 with ⟨h6, h7⟩ | ⟨h6, h7, rfl⟩
            · go_wp2_with fail
              refine hfd.mono ?_
              rintro e w' ⟨rfl, hw⟩
              obtain rfl := hw.symm
              go_wp2_with fail
              refine hbg.mono ?_
              rintro e w' ⟨rfl, hw⟩
              obtain rfl := hw.symm
              go_wp2
              all_goals (
                go_roundw
                first
                  | (case rel => exact ⟨a2, X ++ Q, links + 1, f, rfl, rfl, by go_num, hl8', hx', hR, hf2, hM3, hg⟩
                     case measure => rw [intOf_succ, intOf_nat]; exact hme.out)
                  | exact ⟨⟨a2, X ++ Q, links + 1, f, rfl, rfl, by go_num, hl8', hx', hR, hf2, hM3, hg⟩, by have := hme.out; simp [intOf]; omega⟩)
            · go_wp2_with fail
              refine hfd.mono ?_
              rintro e w' ⟨rfl, hw⟩
              obtain rfl := hw.symm
              go_wp2_with fail
              refine hbg.mono ?_
              rintro e w' ⟨rfl, hw⟩
              obtain rfl := hw.symm
              go_wp2
              all_goals (
                go_roundw
                first
                  | (case rel => exact ⟨a2, X ++ Q, links + 1, f, rfl, rfl, by go_num, hl8', hx', hR, hf2, hM3, hg⟩
                     case measure => rw [intOf_succ, intOf_nat]; exact hme.out)
                  | exact ⟨⟨a2, X ++ Q, links + 1, f, rfl, rfl, by go_num, hl8', hx', hR, hf2, hM3, hg⟩, by have := hme.out; simp [intOf]; omega⟩)
          · have hne : (beginP a (tl X)).2 ≠ 0 := by rcases b2 with b2 | b2 <;> rw [b2] <;> decide
            rw [if_pos hne] at hR
            have hne2 : ((beginP a (tl X)).2 == 0) = false := by rw [beq_eq_false_iff_ne]; exact hne
            rw [b1] at hbg
            obtain ⟨E, hE⟩ : ∃ E, (beginP a (tl X)).2 = E := ⟨_, rfl⟩
            rw [hE] at hR hbg hne2
            clear hE b2
            obtain ⟨rfl, rfl⟩ := Prod.mk.inj hR
            clear h2 h3 h4 h hx hy hqe hqE hrow hNy r3 hst htx hlk hroot hXl hX hxq b1 hR hne
            rcases h6 with ⟨h6, h7⟩ | ⟨h6, h7, rfl⟩
            · go_wp2_with fail
              refine hfd.mono ?_
              rintro e w' ⟨rfl, hw⟩
              obtain rfl := hw.symm
              go_wp2_with fail
              refine hbg.mono ?_
              rintro e w' ⟨rfl, hw⟩
              obtain rfl := hw.symm
              go_wp2
              first | go_ret2 | (rw [Exit.noGoto_ret]; go_ret2)
              exact ⟨rfl, hg.out⟩
            · go_wp2_with fail
              refine hfd.mono ?_
              rintro e w' ⟨rfl, hw⟩
              obtain rfl := hw.symm
              go_wp2_with fail
              refine hbg.mono ?_
              rintro e w' ⟨rfl, hw⟩
              obtain rfl := hw.symm
              go_wp2
              first | go_ret2 | (rw [Exit.noGoto_ret]; go_ret2)
              exact ⟨rfl, hg.out⟩
    · have hne : (findP (nmsOf x) (tl P)).2 ≠ 0 := by rcases r2 with r2 | r2 <;> rw [r2] <;> decide
      rw [if_pos hne] at hR
      rw [r1] at hfd
      have hne2 : ((findP (nmsOf x) (tl P)).2 == 0) = false := by rw [beq_eq_false_iff_ne]; exact hne
      obtain ⟨E, hE⟩ : ∃ E, (findP (nmsOf x) (tl P)).2 = E := ⟨_, rfl⟩
      rw [hE] at hR hfd hne2
      clear hE r2
      obtain ⟨rfl, rfl⟩ := Prod.mk.inj hR
      clear h2 h3 h4 h hx hR hst r1 hne
      go_wp2_with fail
      refine hfd.mono ?_
      rintro e w' ⟨rfl, hw⟩
      obtain rfl := hw.symm
      go_wp2
      first | go_ret2 | (rw [Exit.noGoto_ret]; go_ret2)
      exact ⟨rfl, hg.out⟩
theorem Walk_any (h : TreeR w lab fb most room nds mb mem) (T : TOk nds) (fo : Bool) (a : Int) (s : ByteArray) (hs : s.size ≤ 1000000) :
    Calls Tryz.prog 69 #[.pointer (some ⟨fb, 0, none⟩), .int .i64 a, .string s, .bool fo] w fun e w' => e = .returned (.tuple #[.int .i64 (WalkQ nds a (tl s) fo).1, .int .i64 (WalkQ nds a (tl s) fo).2]) ∧ w.grownBy w' none := by
  have hst := start_any h a s
  obtain ⟨R, hR⟩ : ∃ R, WalkQ nds a (tl s) fo = R := ⟨_, rfl⟩
  rw [hR]
  unfold WalkQ at hR
  obtain ⟨S, hS⟩ : ∃ S, startP nds a (tl s) = S := ⟨_, rfl⟩
  rw [hS] at hst hR
  obtain ⟨S1, S2⟩ := S
  simp only at hst hR
  by_cases h0 : S2 = 0
  · subst h0
    rw [if_neg (by simp)] at hR
    have hx : ∃ x, look nds S1 = some x := by
      unfold startP at hS
      cases hx : look nds a with
      | none => rw [hx] at hS; simp at hS
      | some x =>
        rw [hx] at hS
        simp only at hS
        split at hS
        · simp at hS
        · rcases beginP_e a (tl s) with ⟨_, b2, _⟩ | ⟨_, b2⟩
          · rw [hS] at b2
            obtain ⟨r, hr, _⟩ := T.root
            simp only at b2
            rcases b2 with rfl | rfl
            · exact ⟨r, hr⟩
            · exact ⟨x, hx⟩
          · rw [hS] at b2
            simp at b2
    have hw := walk_any h T fo S1 hx s hs
    rw [hR] at hw
    obtain ⟨R1, R2⟩ := R
    clear h hS hR hx
    go_enter Tryz.func69, Tryz.ntmps69
    go_wp2_with fail
    refine hst.mono ?_
    rintro e w' ⟨rfl, hw'⟩
    obtain rfl := hw'.symm
    clear hst hw'
    go_wp2_with fail
    refine hw.mono ?_
    rintro e w' ⟨rfl, hg⟩
    clear hw
    replace hg := Lib.hid hg
    go_wp2
    go_ret2
    exact ⟨rfl, hg.out⟩
  · rw [if_pos h0] at hR
    subst hR
    have e0 : (S2 == 0) = false := by rw [beq_eq_false_iff_ne]; exact h0
    clear h hS h0
    go_enter Tryz.func69, Tryz.ntmps69
    go_wp2_with fail
    refine hst.mono ?_
    rintro e w' ⟨rfl, hw⟩
    obtain rfl := hw.symm
    clear hst hw
    go_wp2
    go_ret2
    exact ⟨rfl, grownBy_re _⟩
end
end Go.Proofs.YtglcfbefpnphaaaGreatDoor
/-
  What is opened: modeOf, openFile, Open. Conditions: each theorem's own.
-/
namespace Go.Proofs.YtglcfbefpnphaaaGreatDoor
open Go Go.RowKit Go.ChangeMaps

def modeV (k : Nat) : Value := .agg #[.bool (decide (k = 1 ∨ k = 4)), .bool (decide (k ≠ 1)), .bool (decide (k = 3))]
set_option maxRecDepth 100000 in
theorem modeOf_1 (w : World) : Calls Tryz.prog 147 #[.int .i64 1] w fun e w' => e = .returned (.agg #[.bool true, .bool false, .bool false]) ∧ w.grownBy w' none := by
  obtain ⟨z, hz⟩ : ∃ z, w.heap.size = z := ⟨_, rfl⟩
  have b1 : Blk (w.alloc (.cells #[.bool false, .bool false, .bool false] 38)) z [.bool false, .bool false, .bool false] 38 := by rw [← hz]; exact Blk.new w _ _
  have g1 : w.grownBy (w.alloc (.cells #[.bool false, .bool false, .bool false] 38)) none := World.grownBy_alloc w _ _
  replace hz := Lib.hid hz
  go_enter Tryz.func147, Tryz.ntmps147
  go_upto_region 1 with fail
  try simp only [hz.out]
  generalize (w.alloc (.cells #[.bool false, .bool false, .bool false] 38)) = w1 at b1 g1 ⊢
  have z0 := b1.cell (i := 0) rfl
  have z1 := b1.cell (i := 1) rfl
  have z2 := b1.cell (i := 2) rfl
  have f0 := b1.frozen 0
  have f1 := b1.frozen 1
  have f2 := b1.frozen 2
  have hzl := b1.lt
  replace b1 := Lib.hid b1
  replace g1 := Lib.hid g1
  go_wp2
  have b3 := ((b1.out.set 0 (.bool true)).set 1 (.bool false)).set 2 (.bool false)
  have g3 := grown_setNew (grown_setNew (grown_setNew g1.out (Nat.le_of_eq hz.out) 0 (.bool true)) (Nat.le_of_eq hz.out) 1 (.bool false)) (Nat.le_of_eq hz.out) 2 (.bool false)
  generalize ((w1.setCell ⟨z, 0, none⟩ (.bool true)).setCell ⟨z, 1, none⟩ (.bool false)).setCell ⟨z, 2, none⟩ (.bool false) = w3 at b3 g3 ⊢
  have e0 := b3.cell (i := 0) rfl
  have e1 := b3.cell (i := 1) rfl
  have e2 := b3.cell (i := 2) rfl
  exact bodyPost_ret (v := .agg #[.bool true, .bool false, .bool false]) (by simp [results, Tryz.results147, go_sem, e0, e1, e2]) rfl ⟨rfl, g3⟩
set_option maxRecDepth 100000 in
theorem modeOf_2 (w : World) : Calls Tryz.prog 147 #[.int .i64 2] w fun e w' => e = .returned (.agg #[.bool false, .bool true, .bool false]) ∧ w.grownBy w' none := by
  obtain ⟨z, hz⟩ : ∃ z, w.heap.size = z := ⟨_, rfl⟩
  have b1 : Blk (w.alloc (.cells #[.bool false, .bool false, .bool false] 38)) z [.bool false, .bool false, .bool false] 38 := by rw [← hz]; exact Blk.new w _ _
  have g1 : w.grownBy (w.alloc (.cells #[.bool false, .bool false, .bool false] 38)) none := World.grownBy_alloc w _ _
  replace hz := Lib.hid hz
  go_enter Tryz.func147, Tryz.ntmps147
  go_upto_region 1 with fail
  try simp only [hz.out]
  generalize (w.alloc (.cells #[.bool false, .bool false, .bool false] 38)) = w1 at b1 g1 ⊢
  have z0 := b1.cell (i := 0) rfl
  have z1 := b1.cell (i := 1) rfl
  have z2 := b1.cell (i := 2) rfl
  have f0 := b1.frozen 0
  have f1 := b1.frozen 1
  have f2 := b1.frozen 2
  have hzl := b1.lt
  replace b1 := Lib.hid b1
  replace g1 := Lib.hid g1
  go_wp2
  have b3 := ((b1.out.set 0 (.bool false)).set 1 (.bool true)).set 2 (.bool false)
  have g3 := grown_setNew (grown_setNew (grown_setNew g1.out (Nat.le_of_eq hz.out) 0 (.bool false)) (Nat.le_of_eq hz.out) 1 (.bool true)) (Nat.le_of_eq hz.out) 2 (.bool false)
  generalize ((w1.setCell ⟨z, 0, none⟩ (.bool false)).setCell ⟨z, 1, none⟩ (.bool true)).setCell ⟨z, 2, none⟩ (.bool false) = w3 at b3 g3 ⊢
  have e0 := b3.cell (i := 0) rfl
  have e1 := b3.cell (i := 1) rfl
  have e2 := b3.cell (i := 2) rfl
  exact bodyPost_ret (v := .agg #[.bool false, .bool true, .bool false]) (by simp [results, Tryz.results147, go_sem, e0, e1, e2]) rfl ⟨rfl, g3⟩
set_option maxRecDepth 100000 in
theorem modeOf_3 (w : World) : Calls Tryz.prog 147 #[.int .i64 3] w fun e w' => e = .returned (.agg #[.bool false, .bool true, .bool true]) ∧ w.grownBy w' none := by
  obtain ⟨z, hz⟩ : ∃ z, w.heap.size = z := ⟨_, rfl⟩
  have b1 : Blk (w.alloc (.cells #[.bool false, .bool false, .bool false] 38)) z [.bool false, .bool false, .bool false] 38 := by rw [← hz]; exact Blk.new w _ _
  have g1 : w.grownBy (w.alloc (.cells #[.bool false, .bool false, .bool false] 38)) none := World.grownBy_alloc w _ _
  replace hz := Lib.hid hz
  go_enter Tryz.func147, Tryz.ntmps147
  go_upto_region 1 with fail
  try simp only [hz.out]
  generalize (w.alloc (.cells #[.bool false, .bool false, .bool false] 38)) = w1 at b1 g1 ⊢
  have z0 := b1.cell (i := 0) rfl
  have z1 := b1.cell (i := 1) rfl
  have z2 := b1.cell (i := 2) rfl
  have f0 := b1.frozen 0
  have f1 := b1.frozen 1
  have f2 := b1.frozen 2
  have hzl := b1.lt
  replace b1 := Lib.hid b1
  replace g1 := Lib.hid g1
  go_wp2
  have b3 := ((b1.out.set 0 (.bool false)).set 1 (.bool true)).set 2 (.bool true)
  have g3 := grown_setNew (grown_setNew (grown_setNew g1.out (Nat.le_of_eq hz.out) 0 (.bool false)) (Nat.le_of_eq hz.out) 1 (.bool true)) (Nat.le_of_eq hz.out) 2 (.bool true)
  generalize ((w1.setCell ⟨z, 0, none⟩ (.bool false)).setCell ⟨z, 1, none⟩ (.bool true)).setCell ⟨z, 2, none⟩ (.bool true) = w3 at b3 g3 ⊢
  have e0 := b3.cell (i := 0) rfl
  have e1 := b3.cell (i := 1) rfl
  have e2 := b3.cell (i := 2) rfl
  exact bodyPost_ret (v := .agg #[.bool false, .bool true, .bool true]) (by simp [results, Tryz.results147, go_sem, e0, e1, e2]) rfl ⟨rfl, g3⟩
set_option maxRecDepth 100000 in
theorem modeOf_4 (w : World) : Calls Tryz.prog 147 #[.int .i64 4] w fun e w' => e = .returned (.agg #[.bool true, .bool true, .bool false]) ∧ w.grownBy w' none := by
  obtain ⟨z, hz⟩ : ∃ z, w.heap.size = z := ⟨_, rfl⟩
  have b1 : Blk (w.alloc (.cells #[.bool false, .bool false, .bool false] 38)) z [.bool false, .bool false, .bool false] 38 := by rw [← hz]; exact Blk.new w _ _
  have g1 : w.grownBy (w.alloc (.cells #[.bool false, .bool false, .bool false] 38)) none := World.grownBy_alloc w _ _
  replace hz := Lib.hid hz
  go_enter Tryz.func147, Tryz.ntmps147
  go_upto_region 1 with fail
  try simp only [hz.out]
  generalize (w.alloc (.cells #[.bool false, .bool false, .bool false] 38)) = w1 at b1 g1 ⊢
  have z0 := b1.cell (i := 0) rfl
  have z1 := b1.cell (i := 1) rfl
  have z2 := b1.cell (i := 2) rfl
  have f0 := b1.frozen 0
  have f1 := b1.frozen 1
  have f2 := b1.frozen 2
  have hzl := b1.lt
  replace b1 := Lib.hid b1
  replace g1 := Lib.hid g1
  go_wp2
  have b3 := ((b1.out.set 0 (.bool true)).set 1 (.bool true)).set 2 (.bool false)
  have g3 := grown_setNew (grown_setNew (grown_setNew g1.out (Nat.le_of_eq hz.out) 0 (.bool true)) (Nat.le_of_eq hz.out) 1 (.bool true)) (Nat.le_of_eq hz.out) 2 (.bool false)
  generalize ((w1.setCell ⟨z, 0, none⟩ (.bool true)).setCell ⟨z, 1, none⟩ (.bool true)).setCell ⟨z, 2, none⟩ (.bool false) = w3 at b3 g3 ⊢
  have e0 := b3.cell (i := 0) rfl
  have e1 := b3.cell (i := 1) rfl
  have e2 := b3.cell (i := 2) rfl
  exact bodyPost_ret (v := .agg #[.bool true, .bool true, .bool false]) (by simp [results, Tryz.results147, go_sem, e0, e1, e2]) rfl ⟨rfl, g3⟩
theorem modeOf_any (k : Nat) (h1 : 1 ≤ k) (h4 : k ≤ 4) (w : World) : Calls Tryz.prog 147 #[.int .i64 (k : Int)] w fun e w' => e = .returned (modeV k) ∧ w.grownBy w' none := by
  rcases (by omega : k = 1 ∨ k = 2 ∨ k = 3 ∨ k = 4) with rfl | rfl | rfl | rfl
  · exact modeOf_1 w
  · exact modeOf_2 w
  · exact modeOf_3 w
  · exact modeOf_4 w

section
variable {fb tb lb pb : Nat} {ps : List Pt} {w : World}
set_option maxHeartbeats 4000000 in
set_option maxRecDepth 100000 in
/-- openFile, by what Walk, Make, File and Cut do: NS says what stands behind the first two, RF behind File, R at the end. -/
theorem openFile_any (hp : PB w pb fb tb lb ps) {d : Pt} (hd : ps[16]? = some d) (path : ByteArray) (kind : Nat) (h1 : 1 ≤ kind) (h4 : kind ≤ 4) (W1 W2 : Int) (NS : Int → Int → World → Prop) (RF : Int → Int → Int → World → Prop) (R : Int → Int → World → Prop)
    (hW : ∀ w1, w.grownBy w1 none → Calls Tryz.prog 69 #[.pointer (some ⟨fb, 0, none⟩), .int .i64 d.v, .string path, .bool true] w1 fun e w' => e = .returned (.tuple #[.int .i64 W1, .int .i64 W2]) ∧ w.grownBy w' none)
    (hWN : ∀ w', w.grownBy w' none → ¬ (W2 = 10 ∧ kind ≠ 1) → NS W1 W2 w')
    (hM : W2 = 10 → kind ≠ 1 → ∀ w1, w.grownBy w1 none → Calls Tryz.prog 43 #[.pointer (some ⟨fb, 0, none⟩), .int .i64 d.v, .string path, .int .i64 2, .string ⟨#[]⟩] w1 fun e w' => ∃ n er, e = .returned (.tuple #[.int .i64 n, .int .i64 er]) ∧ NS n er w')
    (hNP : ∀ n er w1, NS n er w1 → PB w1 pb fb tb lb ps)
    (hN : ∀ n er w1, NS n er w1 → er ≠ 0 → R 0 er w1)
    (hF : ∀ n w1 w2, NS n 0 w1 → w1.grownBy w2 none → Calls Tryz.prog 34 #[.pointer (some ⟨tb, 0, none⟩), .int .i64 n, modeV kind] w2 fun e w' => ∃ id er, e = .returned (.tuple #[.int .i64 id, .int .i64 er]) ∧ RF n id er w')
    (hFP : ∀ n id er w1, RF n id er w1 → PB w1 pb fb tb lb ps)
    (hC : kind = 2 → ∀ n id w1, RF n id 0 w1 → Calls Tryz.prog 148 #[.pointer (some ⟨fb, 0, none⟩), .int .i64 n, .int .i64 0] w1 fun e w' => (∃ er, e = .returned (.int .i64 er)) ∧ R id 0 w')
    (hR : ∀ n id er w1, RF n id er w1 → er ≠ 0 ∨ kind ≠ 2 → R id er w1) :
    Calls Tryz.prog 117 #[ptrV pb, .string path, .int .i64 (kind : Int)] w fun e w' => ∃ id er, e = .returned (.tuple #[.int .i64 id, .int .i64 er]) ∧ R id er w' := by
  have c0 : w.cell? ⟨pb, 0, none⟩ = some (.pointer (some ⟨fb, 0, none⟩)) := hp.cell (i := 0) rfl
  have c35 : w.cell? ⟨pb, 35, none⟩ = some (.int .i64 d.v) := hp.cell (procC_v (fb := fb) (tb := tb) (lb := lb) hd)
  have hpl := hp.lt
  have hmo := fun w => modeOf_any kind h1 h4 w
  replace hW := Lib.hid hW
  replace hWN := Lib.hid hWN
  replace hM := Lib.hid hM
  replace hNP := Lib.hid hNP
  replace hN := Lib.hid hN
  replace hF := Lib.hid hF
  replace hFP := Lib.hid hFP
  replace hC := Lib.hid hC
  replace hR := Lib.hid hR
  replace hmo := Lib.hid hmo
  replace hp := Lib.hid hp
  unfold ptrV
  go_enter Tryz.func117, Tryz.ntmps117
  go_upto_region 1 with fail
  have g0 : w.grownBy w.drew none := grownBy_drewN (grownBy_re w) 1
  have hW0 := hW.out w.drew g0
  have hk0 : w.drew.cell? ⟨pb, 0, none⟩ = some (.pointer (some ⟨fb, 0, none⟩)) ∧ w.drew.cell? ⟨pb, 35, none⟩ = some (.int .i64 d.v) := ⟨c0, c35⟩
  replace hW0 := Lib.hid hW0
  replace g0 := Lib.hid g0
  go_region_held3 (fun w' => w'.cell? ⟨pb, 0, none⟩ = some (.pointer (some ⟨fb, 0, none⟩)) ∧ w'.cell? ⟨pb, 35, none⟩ = some (.int .i64 d.v))
    (first | go_keep | exact hk0 | exact hkk)
    ((go_at_call 69; refine hW0.out.mono ?_; rintro e w5 ⟨rfl, g5⟩; have hkk : w5.cell? ⟨pb, 0, none⟩ = some (.pointer (some ⟨fb, 0, none⟩)) ∧ w5.cell? ⟨pb, 35, none⟩ = some (.int .i64 d.v) := ⟨(World.cell?_of_block (a := ⟨pb, 0, none⟩) (g5.block pb hpl (by simp))).trans c0, (World.cell?_of_block (a := ⟨pb, 35, none⟩) (g5.block pb hpl (by simp))).trans c35⟩))
  have hp5 : PB w5 pb fb tb lb ps := (g5.block pb hpl (by simp)).trans hp.out
  replace g5 := Lib.hid g5
  replace hp5 := Lib.hid hp5
  clear hk0 hW0 g0 hW c0 c35
  have hpl5 := hp5.out.lt
  obtain ⟨d0, d35⟩ := hkk
  have e10 : (W2 == 10) = decide (W2 = 10) := by
    by_cases h : W2 = 10
    · subst h; rfl
    · rw [decide_eq_false h, beq_eq_false_iff_ne]; exact h
  have ek1 : ((kind : Int) == 1) = decide (kind = 1) := by
    by_cases h : kind = 1
    · subst h; rfl
    · rw [decide_eq_false h, beq_eq_false_iff_ne]; omega
  have ek2 : ((kind : Int) == 2) = decide (kind = 2) := by
    by_cases h : kind = 2
    · subst h; rfl
    · rw [decide_eq_false h, beq_eq_false_iff_ne]; omega
  obtain ⟨cb, hcb⟩ : ∃ cb, decide (W2 = 10 ∧ kind ≠ 1) = cb := ⟨_, rfl⟩
  go_upto_region 2 with fail
  go_cut [30] from 25 to 29 (fun t30 wx => t30 = .bool cb ∧ wx = w5)
  case first =>
    by_cases hc1 : W2 = 10
    · by_cases hc2 : kind = 1
      · obtain rfl : cb = false := by rw [← hcb]; simp [hc2]
        rw [decide_eq_true hc1] at e10
        rw [decide_eq_true hc2] at ek1
        clear hc1 hc2 ek2 hcb
        go_wp2_with fail
        go_meet
        first
          | exact ⟨rfl, rfl⟩
          | exact ⟨by show Value.bool (!((kind : Int) == 1)) = _; rw [ek1]; rfl, rfl⟩
      · obtain rfl : cb = true := by rw [← hcb]; simp [hc1, hc2]
        rw [decide_eq_true hc1] at e10
        rw [decide_eq_false hc2] at ek1
        clear hc1 hc2 ek2 hcb
        go_wp2_with fail
        go_meet
        first
          | exact ⟨rfl, rfl⟩
          | exact ⟨by show Value.bool (!((kind : Int) == 1)) = _; rw [ek1]; rfl, rfl⟩
    · obtain rfl : cb = false := by rw [← hcb]; simp [hc1]
      rw [decide_eq_false hc1] at e10
      clear hc1 ek2 hcb
      go_wp2_with fail
      go_meet
      first
          | exact ⟨rfl, rfl⟩
          | exact ⟨by show Value.bool (!((kind : Int) == 1)) = _; rw [ek1]; rfl, rfl⟩
  case rest =>
  obtain ⟨rfl, hwc⟩ := hcut
  obtain rfl := hwc.symm
  clear hwc
  replace hcb := Lib.hid hcb
  go_upto_if 30 with fail
  go_cut [8, 9] from 31 to 44 (fun t8 t9 wx => ∃ n er, t8 = .int .i64 n ∧ t9 = .int .i64 er ∧ Hid (NS n er wx))
  case first =>
    cases cb with
    | true =>
      have hc := of_decide_eq_true hcb.out
      obtain ⟨hc1, hc2⟩ := hc
      have g6 : w.grownBy w5.drew none := grownBy_drewN g5.out 1
      have hM6 := hM.out hc1 hc2 w5.drew g6
      have hk0 : w5.drew.cell? ⟨pb, 0, none⟩ = some (.pointer (some ⟨fb, 0, none⟩)) ∧ w5.drew.cell? ⟨pb, 35, none⟩ = some (.int .i64 d.v) := ⟨d0, d35⟩
      replace hM6 := Lib.hid hM6
      clear hc1 hc2 ek2 ek1 e10 hM g6
      go_upto_region 3 with fail
      go_region_held3 (fun w' => w'.cell? ⟨pb, 0, none⟩ = some (.pointer (some ⟨fb, 0, none⟩)) ∧ w'.cell? ⟨pb, 35, none⟩ = some (.int .i64 d.v))
        (first | go_keep | exact hk0 | exact hkk)
        ((go_at_call 43; refine hM6.out.mono ?_; rintro e w7 ⟨n, er, rfl, hNS⟩; have hp7 := hNP.out n er w7 hNS; have hkk : w7.cell? ⟨pb, 0, none⟩ = some (.pointer (some ⟨fb, 0, none⟩)) ∧ w7.cell? ⟨pb, 35, none⟩ = some (.int .i64 d.v) := ⟨hp7.cell (i := 0) rfl, hp7.cell (procC_v (fb := fb) (tb := tb) (lb := lb) hd)⟩))
      go_wp2_with fail
      go_meet
      exact ⟨n, er, rfl, rfl, Lib.hid hNS⟩
    | false =>
      have hc := of_decide_eq_false hcb.out
      have hNS := hWN.out w5 g5.out hc
      replace hNS := Lib.hid hNS
      clear hc ek1 ek2 e10
      go_wp2_with fail
      go_meet
      exact ⟨_, _, rfl, rfl, hNS⟩
  case rest =>
    clear hcb
    obtain ⟨n, er, rfl, rfl, hNS⟩ := hcut
    have hpc := hNP.out n er wc hNS.out
    clear hWN hM hpl5 hp5 g5 d0 d35 hpl hp ek1 e10
    by_cases her : er = 0
    · subst her
      have g6 : wc.grownBy wc.drew none := grownBy_drewN (grownBy_re wc) 1
      have c1 : wc.cell? ⟨pb, 1, none⟩ = some (.pointer (some ⟨tb, 0, none⟩)) := hpc.cell (i := 1) rfl
      have hk0 : wc.drew.cell? ⟨pb, 1, none⟩ = some (.pointer (some ⟨tb, 0, none⟩)) := c1
      have hpl := hpc.lt
      replace hpc := Lib.hid hpc
      replace g6 := Lib.hid g6
      go_upto_region 6 with fail
      go_region_held3 (fun w' => w'.cell? ⟨pb, 1, none⟩ = some (.pointer (some ⟨tb, 0, none⟩)))
        (first | go_keep | exact hk0 | exact hkk | exact hkk2)
        (first
          | (go_at_call 147; refine (hmo.out _).mono ?_; rintro e w6 ⟨rfl, g7⟩; have g8 := grownBy_tr g6.out g7; have hkk : w6.cell? ⟨pb, 1, none⟩ = some (.pointer (some ⟨tb, 0, none⟩)) := (World.cell?_of_block (a := ⟨pb, 1, none⟩) (g8.block pb hpl (by simp))).trans c1)
          | (go_at_call 34; refine (hF.out n wc _ hNS.out g8).mono ?_; rintro e w7 ⟨id, er, rfl, hRF⟩; have hp7 := hFP.out n id er w7 hRF; have hkk2 : w7.cell? ⟨pb, 1, none⟩ = some (.pointer (some ⟨tb, 0, none⟩)) := hp7.cell (i := 1) rfl))
      have f0 : w7.cell? ⟨pb, 0, none⟩ = some (.pointer (some ⟨fb, 0, none⟩)) := hp7.cell (i := 0) rfl
      have hpl7 := hp7.lt
      replace hp7 := Lib.hid hp7
      replace hRF := Lib.hid hRF
      clear hk0 hkk hkk2 c1 hpl g7 g8 g6 hF hNS hpc
      by_cases her : er = 0
      · subst her
        by_cases hk2 : kind = 2
        · have hCc := hC.out hk2 n id w7 hRF.out
          rw [decide_eq_true hk2] at ek2
          replace hCc := Lib.hid hCc
          clear hk2
          go_wp2_with fail
          refine hCc.out.mono ?_
          rintro e w8 ⟨⟨er, rfl⟩, hRR⟩
          replace hRR := Lib.hid hRR
          clear f0 hCc
          go_wp2
          go_ret2
          exact ⟨_, _, rfl, hRR.out⟩
        · have hRR := hR.out n id 0 w7 hRF.out (.inr hk2)
          rw [decide_eq_false hk2] at ek2
          replace hRR := Lib.hid hRR
          clear hk2
          go_wp2
          go_ret2
          exact ⟨_, _, rfl, hRR.out⟩
      · have hRR := hR.out n id er w7 hRF.out (.inl her)
        have e0 : (er == 0) = false := by rw [beq_eq_false_iff_ne]; exact her
        replace hRR := Lib.hid hRR
        clear her
        go_wp2
        go_ret2
        exact ⟨_, _, rfl, hRR.out⟩
    · have hRR := hN.out n er wc hNS.out her
      have e0 : (er == 0) = false := by rw [beq_eq_false_iff_ne]; exact her
      replace hRR := Lib.hid hRR
      clear her hpc
      go_wp2
      go_ret2
      exact ⟨_, _, rfl, hRR.out⟩
end
end Go.Proofs.YtglcfbefpnphaaaGreatDoor
