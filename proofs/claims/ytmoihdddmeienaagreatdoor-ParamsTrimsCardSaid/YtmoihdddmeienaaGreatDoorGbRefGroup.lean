/-
  The reference's group reads what is behind a [ . Conditions: at most a million bytes; the place lies in the text.
-/
import Derived.Test.YtmoihdddmeienaaGreatDoorGbRef3
import Derived.Test.YtmoihdddmeienaaGreatDoorGbGroup
import Derived.Test.YtmoihdddmeienaaGreatDoorGbItems
import Derived.Test.YtmoihdddmeienaaGreatDoorMkTexts
import Derived.Test.YtmoihdddmeienaaGreatDoorMkLast
namespace Go.Proofs.YtmoihdddmeienaaGreatDoor
open Go Go.RowKit

theorem elemRCh : Tryz.prog.underlying 28 = some (.slice (Tryz.prog.elem 28)) := by kernel_rfl
theorem sizeRCh (W : World) : (sizeOf (Tryz.prog.elem 28)).run Tryz.prog W = .ok 2 W := by kernel_rfl

/-- What the reference's group answers. -/
def GroupRefPost (w : World) (l : List Ch) (path : Bool) (i : Nat) (e : Ending) (w' : World) : Prop :=
  Below w.heap.size w w' ∧
    ((groupP path l (i + 1) = none ∧ e = .returned (.tuple #[.agg zit, .int .i64 0])) ∨
     (∃ (rs : List Rg) (n : Nat) (v : Value), groupP path l (i + 1) = some ((4, 0, bareAt l (i + 1) 33, rs), n) ∧ e = .returned (.tuple #[.agg #[.int .i64 4, .int .u8 0, .bool (bareAt l (i + 1) 33), v], .int .i64 ((i + 1 + n : Nat) : Int)]) ∧
        w'.ownsRow w.heap.size 88 2 v rs.length (cellsRg rs)))

/-- The two blocks of group: the result's, and what is being made. -/
structure GrW (w wr : World) (no : Bool) (rv : Value) (acc : List Rg) : Prop where
  low : Below w.heap.size w wr
  res : wr.heap[w.heap.size]? = some (.cells zit 64 (0, 0))
  out : XW wr (w.heap.size + 1) 4 0 no rv acc
theorem GrW.below {w wr w' : World} {no : Bool} {rv : Value} {acc : List Rg} (h : GrW w wr no rv acc) (hb : Below wr.heap.size wr w') : GrW w w' no rv acc :=
  ⟨h.low.trans (hb.mono h.low.size), (hb.block _ (Array.getElem?_eq_some_iff.1 h.res).1).trans h.res, h.out.below hb⟩
theorem GrW.lt {w wr : World} {no : Bool} {rv : Value} {acc : List Rg} (h : GrW w wr no rv acc) : w.heap.size + 1 < wr.heap.size := (Array.getElem?_eq_some_iff.1 h.out.item).1
theorem GrW.q {w wr : World} {no : Bool} {rv : Value} {acc : List Rg} (h : GrW w wr no rv acc) : wr.cell? ⟨w.heap.size, 0, none⟩ = some (.int .i64 0) ∧ wr.cell? ⟨w.heap.size, 1, none⟩ = some (.int .u8 0) ∧ wr.cell? ⟨w.heap.size, 2, none⟩ = some (.bool false) ∧ wr.cell? ⟨w.heap.size, 3, none⟩ = some (.slice none 0 0) ∧ ∀ k, wr.frozen? ⟨w.heap.size, k, none⟩ = false := by
  refine ⟨?_, ?_, ?_, ?_, fun k => frozen_of_row _ _ _ _ _ h.res⟩ <;> (rw [cell_of_row _ _ _ _ _ _ h.res]; rfl)
theorem GrW.o {w wr : World} {no : Bool} {rv : Value} {acc : List Rg} (h : GrW w wr no rv acc) : wr.cell? ⟨w.heap.size + 1, 0, none⟩ = some (.int .i64 4) ∧ wr.cell? ⟨w.heap.size + 1, 1, none⟩ = some (.int .u8 0) ∧ wr.cell? ⟨w.heap.size + 1, 2, none⟩ = some (.bool no) ∧ wr.cell? ⟨w.heap.size + 1, 3, none⟩ = some rv := by
  refine ⟨?_, ?_, ?_, ?_⟩ <;> (rw [cell_of_row _ _ _ _ _ _ h.out.item]; rfl)
theorem GrW.set {w wr : World} {no : Bool} {rv : Value} {acc : List Rg} (h : GrW w wr no rv acc) (a b c d : Value) : Below w.heap.size w (set4 wr w.heap.size a b c d) ∧ (set4 wr w.heap.size a b c d).heap[w.heap.size]? = some (.cells #[a, b, c, d] 64 (0, 0)) ∧ (set4 wr w.heap.size a b c d).ownsRow w.heap.size 88 2 rv acc.length (cellsRg acc) := by
  have hg := grown_set4 (w := w) (r := none) ⟨h.low.os, h.low.tape, h.low.output, h.low.size, fun k hk _ => h.low.block k hk⟩ (Nat.le_refl w.heap.size) a b c d
  refine ⟨⟨hg.os, hg.tape, hg.output, hg.size, fun k hk => hg.block k hk (by simp)⟩, set4_heap h.res, ?_⟩
  refine (own_base h.out.rgs (show w.heap.size ≤ w.heap.size + 1 + 1 by omega)).kept (set4_grown wr w.heap.size a b c d) (.inr fun e => ?_)
  have := (h.out.rgs.lt _ e).1
  omega

theorem set_second {W : World} {g : Nat} {a b y : Value} {t : TypeId} (h : W.heap[g]? = some (.cells #[a, b] t (0, 0))) : (W.setCell ⟨g, 1, none⟩ y).heap[g]? = some (.cells #[a, y] t (0, 0)) := heap_setCell_same W g 1 _ _ y h
theorem GrW.app {w wr w4 : World} {no : Bool} {rv v4 : Value} {acc m : List Rg} (h : GrW w wr no rv acc)
    (hown : w4.ownsRow (w.heap.size + 1 + 1) 88 2 v4 (acc.length + m.length) (cellsRg acc ++ cellsRg m)) (hg : wr.grownBy w4 rv.ownBlock) :
    GrW w (w4.setCell ⟨w.heap.size + 1, 3, none⟩ v4) no v4 (acc ++ m) ∧ w4.cell? ⟨w.heap.size + 1, 3, none⟩ = some rv ∧ w4.frozen? ⟨w.heap.size + 1, 3, none⟩ = false := by
  have hlt := h.lt
  have hne : ∀ g, rv.ownBlock = some g → w.heap.size + 1 + 1 ≤ g := fun g e => (h.out.rgs.lt g e).1
  have hi : w4.heap[w.heap.size + 1]? = some (.cells #[.int .i64 4, .int .u8 ((0 : UInt8).toNat : Int), .bool no, rv] 64 (0, 0)) := (hg.block (w.heap.size + 1) hlt (fun e => by have := hne _ e.symm; omega)).trans h.out.item
  have hr : w4.heap[w.heap.size]? = some (.cells zit 64 (0, 0)) := (hg.block w.heap.size (by omega) (fun e => by have := hne _ e.symm; omega)).trans h.res
  have hb : Below w.heap.size w w4 := h.low.grown hg h.low.size (fun g e => by have := hne g e; omega)
  have hset := heap_setCell_same w4 (w.heap.size + 1) 3 _ _ v4 hi
  refine ⟨⟨hb.setCell (p := ⟨w.heap.size + 1, 3, none⟩) (by simp) _, (heap_setCell_other w4 ⟨w.heap.size + 1, 3, none⟩ w.heap.size v4 (by simp)).trans hr, hset, ?_⟩, by rw [cell_of_row _ _ _ _ _ _ hi]; rfl, frozen_of_row _ _ _ _ _ hi⟩
  rw [List.length_append, cellsRg_append]
  refine hown.kept (row := some (w.heap.size + 1)) ⟨rfl, rfl, rfl, by simp [World.setCell], fun j _ hj => heap_setCell_other w4 ⟨w.heap.size + 1, 3, none⟩ j _ (fun e => hj (by rw [e]))⟩ (.inr fun e => ?_)
  have := (hown.lt _ e).1
  omega

set_option maxHeartbeats 8000000 in
set_option maxRecDepth 100000 in
theorem groupRef_any {w : World} (l : List Ch) (v : Value) (B : Nat) (ht : Tx w B v l) (hB : B ≤ w.heap.size) (i : Nat) (path : Bool) (hl : l.length ≤ 1000000) (hi : i < l.length) :
    Calls Tryz.prog 24 #[v, .int .i64 (i : Int), .bool path] w (GroupRefPost w l path i) := by
  obtain ⟨A, c, rfl, hc, hcm⟩ := ht.form
  unfold maxLen at hcm
  obtain ⟨j0, hj, hy0, hy1, hy2⟩ := info_parts infoRRange
  obtain ⟨no, hno⟩ : ∃ no, bareAt l (i + 1) 33 = no := ⟨_, rfl⟩
  have his := fun W (hW : Tx W B (.slice A l.length c) l) => isRef_any hW (i + 1) 33 hl (by omega)
  rw [hno] at his
  have hG : groupP path l (i + 1) = (scan path l (if no then i + 1 + 1 else i + 1)).map fun r => ((4, 0, no, r.1), r.2 - (i + 1)) := by unfold groupP; rw [hno]
  obtain ⟨b, hbdef⟩ : ∃ b, b = (if no then i + 1 + 1 else i + 1) := ⟨_, rfl⟩
  rw [← hbdef] at hG
  have hG := Lib.hid hG
  have hbi : i + 1 ≤ b ∧ b ≤ l.length ∧ b ≤ i + 2 := by
    rw [hbdef]
    cases no with
    | true => have := bareAt_lt hno; simp; omega
    | false => simp; omega
  have hnoH := Lib.hid hno
  have hb0 : Below w.heap.size w ((w.alloc (.cells zit 64)).alloc (.cells #[.int .i64 4, .int .u8 0, .bool no, .slice none 0 0] 64)) := ((Below.refl _ w).alloc (Nat.le_refl _) _).alloc (by simp) _
  have hW0 : GrW w ((w.alloc (.cells zit 64)).alloc (.cells #[.int .i64 4, .int .u8 0, .bool no, .slice none 0 0] 64)) no (.slice none 0 0) [] := by
    refine ⟨hb0, ?_, ?_, World.ownsRow_nil _ _ _ _⟩
    · rw [Below.heap_alloc _ _ _ (by simp)]
      exact heap_alloc_new w _
    · have := heap_alloc_new (w.alloc (.cells zit 64)) (.cells #[.int .i64 4, .int .u8 0, .bool no, .slice none 0 0] 64)
      rw [World.size_alloc] at this
      exact this
  have ht1 := ht.below ((((Below.refl _ w).alloc (Nat.le_refl _) (.cells zit 64)).alloc (by simp) (.cells #[.int .i64 4, .int .u8 0, .bool false, .slice none 0 0] 64)).mono hB)
  go_enter Tryz.func24, Tryz.ntmps24
  go_wp2_with fail
  refine (his _ ht1).mono ?_
  rintro e w1 ⟨rfl, rfl⟩
  clear his ht1
  go_upto_if 19 with fail
  go_cut [1] from 20 to 22 (fun s1 wx => s1 = .int .i64 (b : Int) ∧ wx = (w.alloc (.cells zit 64)).alloc (.cells #[.int .i64 4, .int .u8 0, .bool no, .slice none 0 0] 64))
  case first =>
    as_aux_lemma =>
      cases no
      · go_wp2
        go_meet
        exact ⟨by rw [hbdef]; go_num, rfl⟩
      · go_wp2
        go_meet
        exact ⟨by rw [hbdef]; go_num, rfl⟩
  case rest =>
    obtain ⟨rfl, rfl⟩ := hcut
    have hgrp0 : GrpAt path l b b true [] := ⟨rfl, rfl⟩
    clear hbdef hno
    generalize ((w.alloc (.cells zit 64)).alloc (.cells #[.int .i64 4, .int .u8 0, .bool no, .slice none 0 0] 64)) = W0 at hW0 ⊢
    clear hb0
    go_wp2_with fail
    go_loopw [1] (fun iv wr => ∃ (k : Nat) (f : Bool) (acc : List Rg) (rv : Value), iv = .int .i64 k ∧ b ≤ k ∧ k ≤ l.length ∧ (f = true → k = b) ∧ (f = false → b < k) ∧ acc.length ≤ 4 * k ∧ GrW w wr no rv acc ∧ Hid (GrpAt path l b k f acc)) (fun iv _ => l.length - (intOf iv).toNat)
    case atStart => exact ⟨b, true, [], _, rfl, Nat.le_refl _, hbi.2.1, fun _ => rfl, (fun h => nomatch h), by simp, hW0, hgrp0⟩
    case round =>
      clear hW0 hgrp0
      obtain ⟨k, f, acc, rv, rfl, hbk, hkl, hf1, hf2, hal, hW, hgrp⟩ := hrel
      have htw := (ht.below (hW.low.mono hB))
      have hszw := hW.low.size
      by_cases hlt : k < l.length
      · skip
        go_upto_region 8 with fail
        go_cut [35] from 24 to 178 (fun s35 wx => wx = wr ∧ ∃ t : Bool, s35 = .bool t ∧ Hid (t = true → f = false ∧ bareAt l k 93 = true) ∧ Hid (t = false → Fb l k f))
        case first =>
          as_aux_lemma =>
            cases f with
            | true =>
              have e1 := hf1 rfl
              have hng : ¬ (b : Int) < (k : Int) := by omega
              clear e1 hf1 hf2 hgrp
              go_wp2
              go_meet
              exact ⟨rfl, false, rfl, (fun h => nomatch h), fun _ => .inl rfl⟩
            | false =>
              have e1 := hf2 rfl
              have hng : (b : Int) < (k : Int) := by omega
              have his := fun W (hW : Tx W B (.slice A l.length c) l) => isRef_any hW k 93 hl (by omega)
              cases e93 : bareAt l k 93
              all_goals
                rw [e93] at his
                have e93 := Lib.hid e93
                clear hgrp
                go_wp2_with fail
                refine (his _ htw).mono ?_
                rintro e w1 ⟨rfl, rfl⟩
                clear his
                go_wp2
                go_meet
                first
                  | exact ⟨rfl, false, rfl, (fun h => nomatch h), fun _ => .inr e93.out⟩
                  | exact ⟨rfl, true, rfl, (fun _ => ⟨rfl, e93.out⟩), fun h => nomatch h⟩
                  | exact ⟨rfl, true, rfl, (fun _ => ⟨trivial, e93.out⟩), fun h => nomatch h⟩
                  | exact ⟨rfl, true, rfl, (fun _ => e93.out), fun h => nomatch h⟩
        case rest =>
          obtain ⟨hwc, t, rfl, hta, htb⟩ := hcut
          have hwc := hwc.symm
          subst hwc
          cases t with
          | true =>
            obtain ⟨rfl, e93⟩ := hta.out rfl
            have hgo : Hid (groupP path l (i + 1) = some ((4, 0, bareAt l (i + 1) 33, acc), k + 1 - (i + 1))) := by
              have := hgrp.out
              unfold GrpAt at this
              rw [if_neg (by simp)] at this
              rw [Hid, hG.out, this.1 e93, hnoH.out]
              rfl
            have en : i + 1 + (k + 1 - (i + 1)) = k + 1 := by have := hf2 rfl; omega
            have en := Lib.hid en
            obtain ⟨q0, q1, q2, q3, qf⟩ := hW.q
            obtain ⟨o0, o1, o2, o3⟩ := hW.o
            obtain ⟨Av, cv, rfl⟩ := own_formN hW.out.rgs
            have hset := hW.set (.int .i64 4) (.int .u8 0) (.bool no) (.slice Av acc.length cv)
            clear hgrp hW htw hta htb e93
            go_wp2
            clear q0 q1 q2 q3 qf o0 o1 o2 o3
            change bodyPost _ _ _ _ _ (set4 wr w.heap.size (.int .i64 4) (.int .u8 0) (.bool no) (.slice Av acc.length cv))
            obtain ⟨s1, s2, s3⟩ := hset
            have hcell := set4_cells s2
            generalize set4 wr w.heap.size (.int .i64 4) (.int .u8 0) (.bool no) (.slice Av acc.length cv) = w9 at s1 s2 s3 hcell ⊢
            obtain ⟨e0, e1, e2, e3⟩ := hcell
            exact bodyPost_ret (v := .tuple #[.agg #[.int .i64 4, .int .u8 0, .bool no, .slice Av acc.length cv], .int .i64 ((i + 1 + (k + 1 - (i + 1)) : Nat) : Int)]) (by rw [en.out]; simp [results, Tryz.results24, go_sem, e0, e1, e2, e3]) rfl ⟨s1, .inr ⟨acc, _, _, hgo.out, by rw [hnoH.out], s3⟩⟩
          | false =>
            have hfb := Lib.hid (htb.out rfl)
            clear hta htb hf1 hf2
            go_wp2_with fail
            go_loop [10] (fun jv => ∃ j : Nat, Hid (k + 2 ≤ j ∧ j ≤ l.length + 2) ∧ Hid (lowEnd l (k + 2) = lowEnd l j) ∧ jv = .int .i64 j) (fun jv => l.length + 2 - (intOf jv).toNat)
            case atStart => exact ⟨k + 2, ⟨Nat.le_refl _, by omega⟩, rfl, by go_num⟩
            case round =>
              obtain ⟨j, hj12, hjl, rfl⟩ := hrel
              obtain ⟨hj1, hj2⟩ := hj12.out
              clear hj12
              go_upto_region 11 with fail
              go_cut [68] from 41 to 70 (fun s68 wy => wy = wr ∧ ∃ t : Bool, s68 = .bool t ∧ Hid (t = true → j < l.length ∧ lowEnd l j = lowEnd l (j + 1)) ∧ Hid (t = false → lowEnd l j = j))
              case first =>
                as_aux_lemma =>
                  clear hgrp hfb hG hnoH
                  by_cases hlt2 : j < l.length
                  · obtain ⟨blk, off, rfl, hblk, g0, g1⟩ := htw.at_ hlt2
                    have hs1 := Lib.hid (fun hc => lowEnd_here hlt2 hc)
                    have hs2 := Lib.hid (fun hc => lowEnd_stop hlt2 hc)
                    generalize l[j] = z at g0 g1 hs1 hs2
                    obtain ⟨x, q⟩ := z
                    simp only at g0 g1
                    by_cases hlow : q = false ∧ 97 ≤ x.toNat ∧ x.toNat ≤ 122
                    · obtain ⟨rfl, ha, hz⟩ := hlow
                      have hnext := Lib.hid (hs1.out (by simp [lowCh, ha, hz]))
                      clear hs1 hs2
                      have haI : (97 : Int) ≤ (x.toNat : Int) := by omega
                      have hzI : (x.toNat : Int) ≤ 122 := by omega
                      go_wp2
                      go_meet
                      exact ⟨rfl, true, rfl, (fun _ => ⟨hlt2, hnext.out⟩), fun h => nomatch h⟩
                    · have hstop : lowEnd l j = j := hs2.out (by
                        simp only [lowCh, Bool.and_eq_false_iff, Bool.not_eq_false', decide_eq_false_iff_not]
                        by_cases hq : q = true
                        · exact .inl hq
                        · right
                          by_cases ha : 97 ≤ x.toNat
                          · right; intro hz; exact hlow ⟨by simpa using hq, ha, hz⟩
                          · left; exact ha)
                      have hend := Lib.hid hstop
                      have hcase : q = true ∨ (q = false ∧ ¬ (97 : Int) ≤ (x.toNat : Int)) ∨ (q = false ∧ (97 : Int) ≤ (x.toNat : Int) ∧ ¬ (x.toNat : Int) ≤ 122) := by
                        cases q
                        · right
                          by_cases ha : 97 ≤ x.toNat
                          · right; exact ⟨rfl, by omega, fun hz => hlow ⟨rfl, ha, by omega⟩⟩
                          · left; exact ⟨rfl, by omega⟩
                        · exact .inl rfl
                      clear hlow hstop hs1 hs2
                      rcases hcase with rfl | ⟨rfl, hx1⟩ | ⟨rfl, hx1, hx2⟩
                      all_goals
                        go_wp2
                        go_meet
                        exact ⟨rfl, false, rfl, (fun h => nomatch h), fun _ => hend.out⟩
                  · have hend := Lib.hid (lowEnd_end hlt2)
                    go_wp2
                    go_meet
                    exact ⟨rfl, false, rfl, (fun h => nomatch h), fun _ => hend.out⟩
              case rest =>
                obtain ⟨hwc, t, rfl, ht1, ht2⟩ := hcut
                have hwc := hwc.symm
                subst hwc
                cases t with
                | true =>
                  obtain ⟨hlt2, hn⟩ := ht1.out rfl
                  have hn := Lib.hid hn
                  clear hgrp hfb hG hnoH
                  go_wp2
                  go_round
                  case rel => exact ⟨j + 1, ⟨by omega, by omega⟩, hjl.out.trans hn.out, by go_num⟩
                  case measure => simp [intOf]; omega
                | false =>
                  have hle : Hid (lowEnd l (k + 2) = j) := hjl.out.trans (ht2.out rfl)
                  clear ht1 ht2 hjl
                  have hnext := Lib.hid (fun h0 => grpAt_next hgrp.out hfb.out hlt h0)
                  have hfail : Hid ((thingP path l k).2 = 0 → groupP path l (i + 1) = none) := fun h0 => by
                    have hs : scan path l k = none := by rw [scan_eq hlt, if_pos h0]
                    rw [hG.out, grpAt_fail hgrp.out hfb.out hs]; rfl
                  have htend := thing_end (path := path) hlt
                  have htl4 := thing_len path l k
                  clear hgrp hfb hG hnoH
                  go_upto_region 13 with fail
                  go_cut [96] from 24 to 178 (fun s96 wy => wy = wr ∧ ∃ t : Bool, s96 = .bool t ∧ Hid (t = true → classNm l k = (l.drop (k + 2)).take (j - (k + 2)) ∧ k + 2 < j ∧ j < l.length) ∧ Hid (t = false → classNm l k = []))
                  case first =>
                    as_aux_lemma =>
                      have hC : Hid (classNm l k = if bareAt l k 91 && bareAt l (k + 1) 58 && bareAt l j 58 && bareAt l (j + 1) 93 then (l.drop (k + 2)).take (j - (k + 2)) else []) := by rw [Hid, ← hle.out]; rfl
                      have h1 := isRef_any htw k 91 hl (by omega)
                      have h2 := isRef_any htw (k + 1) 58 hl (by omega)
                      have h3 := isRef_any htw j 58 hl (by omega)
                      have h4 := isRef_any htw (j + 1) 93 hl (by omega)
                      have hj58 : bareAt l j 58 = true → j < l.length := fun h => bareAt_lt h
                      have hj58 := Lib.hid hj58
                      clear hnext hfail hle
                      generalize bareAt l k 91 = e1 at h1 hC
                      generalize bareAt l (k + 1) 58 = e2 at h2 hC
                      generalize bareAt l j 58 = e3 at h3 hC hj58
                      generalize bareAt l (j + 1) 93 = e4 at h4 hC
                      cases e1 with
                      | false =>
                        have hN : Hid (classNm l k = []) := by rw [Hid, hC.out]; rfl
                        clear hC hj58 h2 h3 h4
                        go_wp2_with fail
                        refine h1.mono ?_
                        rintro e w1 ⟨rfl, rfl⟩
                        clear h1
                        go_wp2
                        go_meet
                        exact ⟨rfl, false, rfl, (fun h => nomatch h), fun _ => hN.out⟩
                      | true =>
                        cases e2 with
                        | false =>
                          have hN : Hid (classNm l k = []) := by rw [Hid, hC.out]; rfl
                          clear hC hj58 h3 h4
                          go_wp2_with fail
                          refine h1.mono ?_
                          rintro e w1 ⟨rfl, rfl⟩
                          clear h1
                          go_wp2_with fail
                          refine h2.mono ?_
                          rintro e w1 ⟨rfl, rfl⟩
                          clear h2
                          go_wp2
                          go_meet
                          exact ⟨rfl, false, rfl, (fun h => nomatch h), fun _ => hN.out⟩
                        | true =>
                          by_cases hgt : k + 2 < j
                          · have hgI : (k : Int) + 2 < (j : Int) := by omega
                            cases e3 with
                            | false =>
                              have hN : Hid (classNm l k = []) := by rw [Hid, hC.out]; rfl
                              clear hC hj58 h4
                              go_wp2_with fail
                              refine h1.mono ?_
                              rintro e w1 ⟨rfl, rfl⟩
                              clear h1
                              go_wp2_with fail
                              refine h2.mono ?_
                              rintro e w1 ⟨rfl, rfl⟩
                              clear h2
                              go_wp2_with fail
                              refine h3.mono ?_
                              rintro e w1 ⟨rfl, rfl⟩
                              clear h3
                              go_wp2
                              go_meet
                              exact ⟨rfl, false, rfl, (fun h => nomatch h), fun _ => hN.out⟩
                            | true =>
                              have hjlt := Lib.hid (hj58.out rfl)
                              clear hj58
                              cases e4
                              all_goals
                                have hN := Lib.hid hC.out
                                clear hC
                                go_wp2_with fail
                                refine h1.mono ?_
                                rintro e w1 ⟨rfl, rfl⟩
                                clear h1
                                go_wp2_with fail
                                refine h2.mono ?_
                                rintro e w1 ⟨rfl, rfl⟩
                                clear h2
                                go_wp2_with fail
                                refine h3.mono ?_
                                rintro e w1 ⟨rfl, rfl⟩
                                clear h3
                                go_wp2_with fail
                                refine h4.mono ?_
                                rintro e w1 ⟨rfl, rfl⟩
                                clear h4
                                go_wp2
                                go_meet
                                first
                                  | exact ⟨rfl, false, rfl, (fun h => nomatch h), fun _ => by rw [hN.out]; rfl⟩
                                  | exact ⟨rfl, true, rfl, (fun _ => ⟨by rw [hN.out]; rfl, hgt, hjlt.out⟩), fun h => nomatch h⟩
                          · have hgI : ¬ (k : Int) + 2 < (j : Int) := by omega
                            have hN : Hid (classNm l k = []) := by
                              rw [Hid, hC.out, show j - (k + 2) = 0 by omega, List.take_zero]
                              split <;> rfl
                            clear hC hj58 h3 h4
                            go_wp2_with fail
                            refine h1.mono ?_
                            rintro e w1 ⟨rfl, rfl⟩
                            clear h1
                            go_wp2_with fail
                            refine h2.mono ?_
                            rintro e w1 ⟨rfl, rfl⟩
                            clear h2
                            go_wp2
                            go_meet
                            exact ⟨rfl, false, rfl, (fun h => nomatch h), fun _ => hN.out⟩
                  case rest =>
                    obtain ⟨hwc, t, rfl, hta, htb⟩ := hcut
                    have hwc := hwc.symm
                    subst hwc
                    cases t with
                    | true =>
                      obtain ⟨hnm, hgt, hjlt⟩ := hta.out rfl
                      as_aux_lemma =>
                        obtain ⟨v2, hr2, ht2⟩ := cut_lh elemRCh sizeRCh htw (lo := k + 2) (hi := j) (by omega) (by omega)
                        have hnl : (classNm l k).length = j - (k + 2) := by rw [hnm, List.length_take, List.length_drop]; omega
                        have hne : classNm l k ≠ [] := fun e => by rw [e] at hnl; simp at hnl; omega
                        have hth : thingP path l k = if classR (plainS (classNm l k)) = [] then ([], 0) else (classR (plainS (classNm l k)), (classNm l k).length + 4) := by
                          unfold thingP; rw [if_pos hne]
                        rw [← hnm] at ht2
                        rw [hnl] at hth
                        rw [show ((k + 2 : Nat) : Int) = (k : Int) + 2 by omega] at hr2
                        have hpl := rplain_any (classNm l k) v2 B wr ht2 (by omega) (by omega)
                        generalize plainS (classNm l k) = nm at hpl hth
                        clear hnm hnl hne hta htb hle ht2
                        have hth0 := hth
                        clear hth
                        have hth := Lib.hid hth0
                        clear hth0
                        go_wp2_with fail
                        refine hpl.mono ?_
                        rintro e w2 ⟨rfl, hb2⟩
                        have hW2 := hW.below hb2
                        clear hpl hW hr2 htw
                        go_wp2_with fail
                        refine (classRef_any nm w2).mono ?_
                        rintro e w3 ⟨v3, rfl, hown3, hb3⟩
                        have hW := hW2.below hb3
                        clear hW2
                        cases hcl : classR nm with
                        | nil =>
                          have hnone : Hid (groupP path l (i + 1) = none) := hfail.out (by rw [hth.out, hcl]; rfl)
                          clear hfail hnext hth hown3 hcl
                          simp only [List.isEmpty_nil, Bool.not_true]
                          obtain ⟨q0, q1, q2, q3, qf⟩ := hW.q
                          have hset := hW.set (.int .i64 0) (.int .u8 0) (.bool false) (.slice none 0 0)
                          clear hW
                          go_wp2
                          clear q0 q1 q2 q3 qf
                          change bodyPost _ _ _ _ _ (set4 w3 w.heap.size (.int .i64 0) (.int .u8 0) (.bool false) (.slice none 0 0))
                          obtain ⟨s1, s2, s3⟩ := hset
                          have hcell := set4_cells s2
                          generalize set4 w3 w.heap.size (.int .i64 0) (.int .u8 0) (.bool false) (.slice none 0 0) = w9 at s1 s2 s3 hcell ⊢
                          obtain ⟨e0, e1, e2, e3⟩ := hcell
                          exact bodyPost_ret (v := .tuple #[.agg #[.int .i64 0, .int .u8 0, .bool false, .slice none 0 0], .int .i64 0]) (by simp [results, Tryz.results24, go_sem, e0, e1, e2, e3]) rfl ⟨s1, .inl ⟨hnone.out, rfl⟩⟩
                        | cons r0 rs0 =>
                          have hnx : Hid (GrpAt path l b (j + 2) false (acc ++ (r0 :: rs0))) := by
                            have := hnext.out (by rw [hth.out, hcl]; simp)
                            rw [hth.out, hcl, if_neg (by simp)] at this
                            simp only [show k + (j - (k + 2) + 4) = j + 2 by omega] at this
                            exact this
                          have hl4 : (r0 :: rs0).length ≤ 4 := by rw [hth.out, hcl, if_neg (by simp)] at htl4; exact htl4
                          have hje : j + 2 ≤ l.length := by
                            rw [hth.out, hcl, if_neg (by simp)] at htend
                            simp only at htend
                            omega
                          rw [hcl] at hown3
                          clear hfail hnext hth hcl
                          simp only [List.isEmpty_cons, Bool.not_false]
                          generalize r0 :: rs0 = tr at hown3 hnx hl4
                          have hts : Sl w3 w3.heap.size 2 v3 tr.length (cellsRg tr) := Sl.of_own hown3
                          obtain ⟨A3, c3, rfl⟩ := own_formN hown3
                          obtain ⟨o0, o1, o2, o3⟩ := hW.o
                          obtain ⟨Av, cv, rfl⟩ := own_formN hW.out.rgs
                          have hownA := hW.out.rgs
                          have hlow3 := hW.low.size
                          have hltw := hW.lt
                          clear hown3 o0 o1 o2
                          go_wp2_with (at_builtin; refine wpList_append_sl _ rfl _ _ 62 rfl (w.heap.size + 1 + 1) 88 j0 _ 2 2 Tryz.underlying62 hj hy0 hy1 hy2 rfl (by decide) _ _ _ rfl hownA _ _ _ _ rfl hts (cellsRg_one _) ?c3 ?c4 ?c5 ?_)
                          case c3 => simp only [maxLen]; omega
                          case c4 => omega
                          case c5 => omega
                          intro v4 w4 hown4 hgrow4
                          obtain ⟨hW5, o4, of4⟩ := hW.app hown4 hgrow4
                          obtain ⟨A4, c4, rfl⟩ := own_formN hown4
                          clear hW hownA hown4 hgrow4 o3 hts
                          go_wp2
                          clear o4 of4
                          generalize w4.setCell ⟨w.heap.size + 1, 3, none⟩ (.slice A4 (acc.length + tr.length) c4) = w5 at hW5 ⊢
                          go_roundw
                          case rel => exact ⟨j + 2, false, acc ++ tr, _, by go_num, by omega, hje, (fun h => nomatch h), fun _ => by omega, by rw [List.length_append]; omega, hW5, hnx.out⟩
                          case measure => simp [intOf]; omega
                    | false =>
                      have hnm := Lib.hid (htb.out rfl)
                      clear hta htb hle
                      have hth : thingP path l k = if path && (byteAt l k == 47 || byteAt l (k + byteN l k - 1) == 47) then ([], 0) else if (byteAt l (k + byteN l k - 1)).toNat < (byteAt l k).toNat then ([], byteN l k) else ([(byteAt l k, byteAt l (k + byteN l k - 1))], byteN l k) := by
                        unfold thingP; rw [if_neg (by rw [hnm.out]; simp)]
                      have hxk : byteAt l k = l[k].1 := by unfold byteAt; rw [List.getElem?_eq_getElem hlt]
                      obtain ⟨blk, off, rfl, hblk, g0, g1⟩ := htw.at_ hlt
                      rw [← hxk] at g0
                      obtain ⟨n, hn⟩ : ∃ n, byteN l k = n := ⟨_, rfl⟩
                      obtain ⟨x, hx⟩ : ∃ x, byteAt l k = x := ⟨_, rfl⟩
                      obtain ⟨y, hy⟩ : ∃ y, byteAt l (k + n - 1) = y := ⟨_, rfl⟩
                      have hn13 : (n = 3 ∧ bareAt l (k + 1) 45 = true ∧ k + 2 < l.length ∧ bareAt l (k + 2) 93 = false) ∨ (n = 1 ∧ (bareAt l (k + 1) 45 = true → k + 2 < l.length → bareAt l (k + 2) 93 = true)) := by
                        rw [← hn]
                        unfold byteN
                        split
                        · rename_i h
                          simp only [Bool.and_eq_true, decide_eq_true_eq, Bool.not_eq_true'] at h
                          exact .inl ⟨rfl, h.1, h.2.1, h.2.2⟩
                        · rename_i h
                          refine .inr ⟨rfl, fun h1 h2 => ?_⟩
                          cases h3 : bareAt l (k + 2) 93 with
                          | true => rfl
                          | false => exact absurd (by simp [h1, h2, h3]) h
                      rw [hn, hx, hy] at hth
                      rw [hx] at g0
                      have hy1 : n = 1 → y = x := fun h => by rw [← hy, ← hx, h]; rfl
                      have hy3 : n = 3 → y = byteAt l (k + 2) := fun h => by rw [← hy, h]; rfl
                      have hblk2 : blk < wr.heap.size := by omega
                      have hthH := Lib.hid hth
                      have hn13H := Lib.hid hn13
                      have hy1H := Lib.hid hy1
                      have hy3H := Lib.hid hy3
                      have hnz : Hid (¬ n = 0) := by rcases hn13 with h | h <;> (have := h.1; rw [Hid]; omega)
                      have hnz3 : Hid (n ≤ 3) := by rcases hn13 with h | h <;> (have := h.1; rw [Hid]; omega)
                      clear hn hx hy hxk g1 hnm hth hn13 hy1 hy3
                      go_wp2_with fail
                      refine wp_region_last (L := 12) (S := (fun w' : World => w'.cell? ⟨blk, off + k * 2, none⟩ = some (.int .u8 (x.toNat : Int)))) (by kernel_rfl) ?_
                      have hS0 : (fun w' : World => w'.cell? ⟨blk, off + k * 2, none⟩ = some (.int .u8 (x.toNat : Int))) wr.drew := g0
                      refine wpAnyT_take (i := 0) (v := .slice (some ⟨blk, off, none⟩) l.length c) rfl (by kernel_rfl) (by kernel_rfl) (by kernel_rfl) (by kernel_rfl) (fun _ _ _ h => h) (Or.inl ⟨by rfl, ?_⟩) hS0 ?_
                      · intro W hW
                        have k0 := hW
                        clear hS0
                        go_simp
                        try (intro hx; exfalso; omega)
                      try simp only [Act.put, List.setIfInBounds_toArray]
                      refine wpAnyT_take (i := 1) (v := .int .i64 (k : Int)) rfl (by kernel_rfl) (by kernel_rfl) (by kernel_rfl) (by kernel_rfl) (fun _ _ _ h => h) (Or.inl ⟨by rfl, ?_⟩) hS0 ?_
                      · intro W hW
                        have k0 := hW
                        clear hS0
                        go_simp
                        try (intro hx; exfalso; omega)
                      try simp only [Act.put]
                      refine wpAnyT_take (i := 2) (v := .pointer (some ⟨blk, off + k * 2, none⟩)) rfl (by kernel_rfl) (by kernel_rfl) (by kernel_rfl) (by kernel_rfl) (fun _ _ _ h => h) (Or.inl ⟨by rfl, ?_⟩) hS0 ?_
                      · intro W hW
                        have k0 := hW
                        clear hS0
                        go_simp
                        try (intro hx; exfalso; omega)
                      try simp only [Act.put]
                      refine wpAnyT_take (i := 3) (v := .pointer (some ⟨blk, off + k * 2, none⟩)) rfl (by kernel_rfl) (by kernel_rfl) (by kernel_rfl) (by kernel_rfl) (fun _ _ _ h => h) (Or.inl ⟨by rfl, ?_⟩) hS0 ?_
                      · intro W hW
                        have k0 := hW
                        clear hS0
                        go_simp
                        try (intro hx; exfalso; omega)
                      try simp only [Act.put]
                      refine wpAnyT_take (i := 4) (v := .int .u8 (x.toNat : Int)) rfl (by kernel_rfl) (by kernel_rfl) (by kernel_rfl) (by kernel_rfl) (fun _ _ _ h => h) (Or.inl ⟨by rfl, ?_⟩) hS0 ?_
                      · intro W hW
                        have k0 := hW
                        clear hS0
                        go_simp
                        try (intro hx; exfalso; omega)
                      try simp only [Act.put]
                      refine wpAnyT_take (i := 5) (v := .slice (some ⟨blk, off, none⟩) l.length c) rfl (by kernel_rfl) (by kernel_rfl) (by kernel_rfl) (by kernel_rfl) (fun _ _ _ h => h) (Or.inl ⟨by rfl, ?_⟩) hS0 ?_
                      · intro W hW
                        have k0 := hW
                        clear hS0
                        go_simp
                        try (intro hx; exfalso; omega)
                      try simp only [Act.put]
                      refine wpAnyT_take (i := 6) (v := .int .i64 (k : Int)) rfl (by kernel_rfl) (by kernel_rfl) (by kernel_rfl) (by kernel_rfl) (fun _ _ _ h => h) (Or.inl ⟨by rfl, ?_⟩) hS0 ?_
                      · intro W hW
                        have k0 := hW
                        clear hS0
                        go_simp
                        try (intro hx; exfalso; omega)
                      try simp only [Act.put]
                      refine wpAnyT_take (i := 7) (v := .pointer (some ⟨blk, off + k * 2, none⟩)) rfl (by kernel_rfl) (by kernel_rfl) (by kernel_rfl) (by kernel_rfl) (fun _ _ _ h => h) (Or.inl ⟨by rfl, ?_⟩) hS0 ?_
                      · intro W hW
                        have k0 := hW
                        clear hS0
                        go_simp
                        try (intro hx; exfalso; omega)
                      try simp only [Act.put]
                      refine wpAnyT_take (i := 8) (v := .pointer (some ⟨blk, off + k * 2, none⟩)) rfl (by kernel_rfl) (by kernel_rfl) (by kernel_rfl) (by kernel_rfl) (fun _ _ _ h => h) (Or.inl ⟨by rfl, ?_⟩) hS0 ?_
                      · intro W hW
                        have k0 := hW
                        clear hS0
                        go_simp
                        try (intro hx; exfalso; omega)
                      try simp only [Act.put]
                      refine wpAnyT_take (i := 9) (v := .int .u8 (x.toNat : Int)) rfl (by kernel_rfl) (by kernel_rfl) (by kernel_rfl) (by kernel_rfl) (fun _ _ _ h => h) (Or.inl ⟨by rfl, ?_⟩) hS0 ?_
                      · intro W hW
                        have k0 := hW
                        clear hS0
                        go_simp
                        try (intro hx; exfalso; omega)
                      try simp only [Act.put]
                      refine wpAnyT_take (i := 10) (v := .agg #[.int .u8 (x.toNat : Int), .int .u8 (x.toNat : Int)]) rfl (by kernel_rfl) (by kernel_rfl) (by kernel_rfl) (by kernel_rfl) (fun _ _ _ h => h) (Or.inl ⟨by rfl, ?_⟩) hS0 ?_
                      · intro W hW
                        have k0 := hW
                        clear hS0
                        go_simp
                        try (intro hx; exfalso; omega)
                      try simp only [Act.put]
                      clear hS0
                      refine wpAnyT_one (i := 11) rfl (by kernel_rfl) rfl ?_
                      go_simp
                      refine wpAnyT_one (i := 12) rfl (by kernel_rfl) rfl ?_
                      go_simp
                      refine wpAnyT_done (by kernel_rfl) ?_ _
                      have hbX : Below wr.heap.size wr ((wr.alloc (.cells #[.int .u8 (x.toNat : Int), .int .u8 (x.toNat : Int)] 88)).drew) := ((Below.refl _ wr).alloc (Nat.le_refl _) _).drew
                      have hX0 : ((wr.alloc (.cells #[.int .u8 (x.toNat : Int), .int .u8 (x.toNat : Int)] 88)).drew).heap[wr.heap.size]? = some (.cells #[.int .u8 (x.toNat : Int), .int .u8 (x.toNat : Int)] 88 (0, 0)) := heap_alloc_new wr _
                      generalize ((wr.alloc (.cells #[.int .u8 (x.toNat : Int), .int .u8 (x.toNat : Int)] 88)).drew) = wA at hbX hX0 ⊢
                      have htA := htw.below (hbX.mono (by omega))
                      have hgr1 := hW.lt
                      have hd1 := isRef_any htA (k + 1) 45 hl (by omega)
                      have hd2 := isRef_any htA (k + 1 + 1) 93 hl (by omega)
                      clear g0 htw
                      obtain ⟨gr, hgr0⟩ : ∃ g, g = wr.heap.size := ⟨_, rfl⟩
                      rw [← hgr0] at hbX hX0 hgr1 ⊢
                      have hgr := Lib.hid hgr0
                      clear hgr0
                      go_upto_region 21 with fail
                      go_cut [146] from 24 to 178 (fun s146 wy => wy = wA ∧ ∃ t : Bool, s146 = .bool t ∧ Hid (t = true → n = 3 ∧ k + 1 + 1 < l.length) ∧ Hid (t = false → n = 1))
                      case first =>
                        as_aux_lemma =>
                          have hn3 : Hid (bareAt l (k + 1) 45 = true → k + 1 + 1 < l.length → bareAt l (k + 1 + 1) 93 = false → n = 3) := fun a1 a2 a3 => by
                            rcases hn13H.out with h | h
                            · exact h.1
                            · have := h.2 a1 a2; rw [show k + 2 = k + 1 + 1 by omega, a3] at this; cases this
                          have hn1 : Hid (bareAt l (k + 1) 45 = false ∨ ¬ k + 1 + 1 < l.length ∨ bareAt l (k + 1 + 1) 93 = true → n = 1) := fun a => by
                            rcases hn13H.out with h | h
                            · rcases a with a | a | a
                              · rw [h.2.1] at a; cases a
                              · exact absurd h.2.2.1 a
                              · rw [show k + 1 + 1 = k + 2 by omega, h.2.2.2] at a; cases a
                            · exact h.1
                          clear hn13H hthH hnext hfail hy1H hy3H hW hX0 hbX
                          cases e1 : bareAt l (k + 1) 45 with
                          | false =>
                            rw [e1] at hd1
                            have hN := Lib.hid (hn1.out (.inl e1))
                            clear hn3 hn1 hd2 e1
                            go_wp2_with fail
                            refine hd1.mono ?_
                            rintro e w1 ⟨rfl, rfl⟩
                            clear hd1
                            go_wp2
                            go_meet
                            exact ⟨rfl, false, rfl, (fun h => nomatch h), fun _ => hN.out⟩
                          | true =>
                            rw [e1] at hd1
                            by_cases h2 : k + 1 + 1 < l.length
                            · have h2I : (k : Int) + 1 + 1 < (l.length : Int) := by omega
                              cases e2 : bareAt l (k + 1 + 1) 93
                              all_goals
                                rw [e2] at hd2
                                have e12 := Lib.hid (And.intro e1 e2)
                                clear e1 e2
                                go_wp2_with fail
                                refine hd1.mono ?_
                                rintro e w1 ⟨rfl, rfl⟩
                                clear hd1
                                go_wp2_with fail
                                refine hd2.mono ?_
                                rintro e w1 ⟨rfl, rfl⟩
                                clear hd2
                                go_wp2
                                go_meet
                                first
                                  | exact ⟨rfl, true, rfl, (fun _ => ⟨hn3.out e12.out.1 h2 e12.out.2, h2⟩), fun h => nomatch h⟩
                                  | exact ⟨rfl, false, rfl, (fun h => nomatch h), fun _ => hn1.out (.inr (.inr e12.out.2))⟩
                            · have h2I : ¬ (k : Int) + 1 + 1 < (l.length : Int) := by omega
                              have hN := Lib.hid (hn1.out (.inr (.inl h2)))
                              clear hn3 hn1 hd2 e1
                              go_wp2_with fail
                              refine hd1.mono ?_
                              rintro e w1 ⟨rfl, rfl⟩
                              clear hd1
                              go_wp2
                              go_meet
                              exact ⟨rfl, false, rfl, (fun h => nomatch h), fun _ => hN.out⟩
                      case rest =>
                        obtain ⟨hwc, t, rfl, hta, htb⟩ := hcut
                        have hwc := hwc.symm
                        subst hwc
                        clear hd1 hd2
                        go_upto_if 146 with fail
                        go_cut [1] from 24 to 178 (fun s1 wy => s1 = .int .i64 ((k + n : Nat) : Int) ∧ Hid (Below gr wA wy ∧ wy.heap[gr]? = some (.cells #[.int .u8 (x.toNat : Int), .int .u8 (y.toNat : Int)] 88 (0, 0))))
                        case first =>
                          as_aux_lemma =>
                            clear hthH hnext hfail hn13H hW hbX
                            cases t with
                            | false =>
                              have hn1 := htb.out rfl
                              have hyx := hy1H.out hn1
                              subst hn1 hyx
                              clear hta htb hy1H hy3H
                              go_wp2
                              go_meet
                              exact ⟨by go_num, Below.refl _ _, hX0⟩
                            | true =>
                              obtain ⟨hn3, hlt2⟩ := hta.out rfl
                              have hyb := hy3H.out hn3
                              obtain ⟨blk3, off3, hA3, hblk3, g2, _⟩ := htA.at_ hlt2
                              injection hA3 with hA3
                              injection hA3 with e1 e2 _
                              subst e1 e2
                              have hyl : y = l[k + 1 + 1].1 := by rw [hyb]; unfold byteAt; rw [List.getElem?_eq_getElem hlt2]
                              rw [← hyl] at g2
                              subst hn3
                              have r1 : wA.cell? ⟨gr, 1, none⟩ = some (.int .u8 (x.toNat : Int)) := by rw [cell_of_row wA _ _ _ _ _ hX0]; rfl
                              have f1 : wA.frozen? ⟨gr, 1, none⟩ = false := frozen_of_row wA _ _ _ _ hX0
                              have hset0 := set_second (y := .int .u8 (y.toNat : Int)) hX0
                              have hbs : Below gr wA (wA.setCell ⟨gr, 1, none⟩ (.int .u8 (y.toNat : Int))) := (Below.refl _ _).setCell (p := ⟨gr, 1, none⟩) (Nat.le_refl _) _
                              have hset := Lib.hid hset0
                              clear hta htb hy1H hy3H hyb hyl hset0
                              go_wp2
                              go_meet
                              exact ⟨by go_num, hbs, hset.out⟩
                        case rest =>
                          obtain ⟨rfl, hcut2⟩ := hcut
                          obtain ⟨hbY, hY⟩ := hcut2.out
                          clear hcut2 hta htb hn13H hy1H hy3H
                          have hW := hW.below (show Below wr.heap.size wr wc by have := hbX.trans hbY; rwa [hgr.out] at this)
                          have r0 : wc.cell? ⟨gr, 0, none⟩ = some (.int .u8 (x.toNat : Int)) := by rw [cell_of_row wc _ _ _ _ _ hY]; rfl
                          have r1 : wc.cell? ⟨gr, 1, none⟩ = some (.int .u8 (y.toNat : Int)) := by rw [cell_of_row wc _ _ _ _ _ hY]; rfl
                          clear hbX hX0 hbY hY htA
                          obtain ⟨wD, hwD⟩ : ∃ x, x = wc := ⟨_, rfl⟩
                          subst hwD
                          as_aux_lemma =>
                            go_upto_region 24 with fail
                            go_cut [166] from 24 to 178 (fun s166 wy => wy = wD ∧ ∃ t : Bool, s166 = .bool t ∧ Hid (t = (path && (x == 47 || y == 47))))
                            case first =>
                              as_aux_lemma =>
                                clear hthH hnext hfail hW
                                have i47 : ((47 : UInt8).toNat : Int) = 47 := rfl
                                cases path with
                                | false =>
                                  go_wp2
                                  go_meet
                                  exact ⟨rfl, false, rfl, rfl⟩
                                | true =>
                                  by_cases hx : x = 47
                                  · subst hx
                                    clear i47
                                    go_wp2
                                    go_meet
                                    exact ⟨rfl, true, rfl, by simp [Hid]⟩
                                  · have ix : ¬ (x.toNat : Int) = 47 := fun e => hx (UInt8.toNat.inj (by omega))
                                    have jx : ((x.toNat : Int) == 47) = false := beq_eq_false_iff_ne.2 ix
                                    by_cases hy : y = 47
                                    · subst hy
                                      clear i47
                                      go_wp2
                                      go_meet
                                      exact ⟨rfl, true, rfl, by simp [Hid]⟩
                                    · have iy : ¬ (y.toNat : Int) = 47 := fun e => hy (UInt8.toNat.inj (by omega))
                                      have jy : ((y.toNat : Int) == 47) = false := beq_eq_false_iff_ne.2 iy
                                      clear i47
                                      go_wp2
                                      go_meet
                                      exact ⟨rfl, false, rfl, by simp [Hid, hx, hy]⟩
                            case rest =>
                              obtain ⟨hwc, t, rfl, htp⟩ := hcut
                              have hwc := hwc.symm
                              subst hwc
                              have hth2 := hthH.out
                              rw [← htp.out] at hth2
                              clear hthH htp
                              cases t with
                              | true =>
                                have hnone : Hid (groupP path l (i + 1) = none) := hfail.out (by rw [hth2]; rfl)
                                clear hfail hnext hth2 htend htl4
                                obtain ⟨q0, q1, q2, q3, qf⟩ := hW.q
                                have hset := hW.set (.int .i64 0) (.int .u8 0) (.bool false) (.slice none 0 0)
                                clear hW
                                go_wp2
                                clear q0 q1 q2 q3 qf
                                change bodyPost _ _ _ _ _ (set4 wD w.heap.size (.int .i64 0) (.int .u8 0) (.bool false) (.slice none 0 0))
                                obtain ⟨s1, s2, s3⟩ := hset
                                have hcell := set4_cells s2
                                generalize set4 wD w.heap.size (.int .i64 0) (.int .u8 0) (.bool false) (.slice none 0 0) = w9 at s1 s2 s3 hcell ⊢
                                obtain ⟨e0, e1, e2, e3⟩ := hcell
                                exact bodyPost_ret (v := .tuple #[.agg #[.int .i64 0, .int .u8 0, .bool false, .slice none 0 0], .int .i64 0]) (by simp [results, Tryz.results24, go_sem, e0, e1, e2, e3]) rfl ⟨s1, .inl ⟨hnone.out, rfl⟩⟩
                              | false =>
                                simp only [Bool.false_eq_true, if_false] at hth2
                                have hle2 : k + n ≤ l.length := by
                                  have := htend
                                  rw [hth2] at this
                                  split at this <;> exact this
                                have hn0 : ¬ n = 0 := hnz.out
                                have hn3' : n ≤ 3 := hnz3.out
                                have hnx := hnext.out (by rw [hth2]; split <;> exact hn0)
                                rw [hth2] at hnx
                                clear hfail hnext
                                by_cases hxy : y.toNat < x.toNat
                                · have hnx2 : Hid (GrpAt path l b (k + n) false acc) := by
                                    rw [if_pos hxy] at hnx
                                    simpa [Hid] using hnx
                                  have hxyI : ¬ (x.toNat : Int) ≤ (y.toNat : Int) := by omega
                                  clear hnx hth2 htend htl4
                                  go_wp2
                                  go_roundw
                                  case rel => exact ⟨k + n, false, acc, rv, by go_num, by omega, hle2, (fun h => nomatch h), fun _ => by omega, by omega, hW, hnx2.out⟩
                                  case measure => simp [intOf]; omega
                                · have hnx2 : Hid (GrpAt path l b (k + n) false (acc ++ [(x, y)])) := by
                                    rw [if_neg hxy] at hnx
                                    exact hnx
                                  have hxyI : (x.toNat : Int) ≤ (y.toNat : Int) := by omega
                                  clear hnx hth2 htend htl4
                                  obtain ⟨o0, o1, o2, o3⟩ := hW.o
                                  obtain ⟨Av, cv, rfl⟩ := own_formN hW.out.rgs
                                  have hWE := hW.below ((Below.refl _ wD).alloc (Nat.le_refl _) (.cells #[.int .u8 (x.toNat : Int), .int .u8 (y.toNat : Int)] 88))
                                  have hownE := hWE.out.rgs
                                  have hnewE := new_cells wD #[.int .u8 (x.toNat : Int), .int .u8 (y.toNat : Int)] 88
                                  have hltE := hW.lt
                                  clear o0 o1 o2 hW
                                  go_wp2_with (at_builtin; refine wpList_append_own _ rfl _ _ 62 rfl (w.heap.size + 1 + 1) 88 j0 _ 2 2 Tryz.underlying62 hj hy0 hy1 hy2 rfl (by decide) _ _ _ rfl hownE ⟨wD.heap.size, 0, none⟩ 1 1 (cr (x, y)) rfl rfl hnewE ?d2 ?d3 ?d4 ?d5 ?_)
                                  case d2 => simp [cr, Value.oneCell']
                                  case d3 => simp only [maxLen]; omega
                                  case d4 => omega
                                  case d5 => first | omega | (simp; omega)
                                  intro v4 w4 hown4 hgrow4 _
                                  have hone : cellsRg [(x, y)] = cr (x, y) := by simp [cellsRg]
                                  obtain ⟨hW5, o4, of4⟩ := hWE.app (m := [(x, y)]) (by rw [hone]; exact hown4) hgrow4
                                  obtain ⟨A4, c4, rfl⟩ := own_formN hown4
                                  clear hWE hownE hown4 hgrow4 o3 hnewE hone r0 r1
                                  go_wp2
                                  clear o4 of4
                                  generalize w4.setCell ⟨w.heap.size + 1, 3, none⟩ (.slice A4 (acc.length + 1) c4) = w5 at hW5 ⊢
                                  go_roundw
                                  case rel => exact ⟨k + n, false, acc ++ [(x, y)], _, by go_num, by omega, hle2, (fun h => nomatch h), fun _ => by omega, by rw [List.length_append]; simp; omega, hW5, hnx2.out⟩
                                  case measure => simp [intOf]; omega
      · have hnone : Hid (groupP path l (i + 1) = none) := by
          rw [Hid, hG.out]
          have hfb : Fb l k f := .inr (bareAt_none hlt 93)
          rw [grpAt_fail hgrp.out hfb (scan_far (by omega))]; rfl
        obtain ⟨q0, q1, q2, q3, qf⟩ := hW.q
        have hset := hW.set (.int .i64 0) (.int .u8 0) (.bool false) (.slice none 0 0)
        clear hgrp hW htw
        go_wp2
        clear q0 q1 q2 q3 qf
        change bodyPost _ _ _ _ _ (set4 wr w.heap.size (.int .i64 0) (.int .u8 0) (.bool false) (.slice none 0 0))
        obtain ⟨s1, s2, s3⟩ := hset
        have hcell := set4_cells s2
        generalize set4 wr w.heap.size (.int .i64 0) (.int .u8 0) (.bool false) (.slice none 0 0) = w9 at s1 s2 s3 hcell ⊢
        obtain ⟨e0, e1, e2, e3⟩ := hcell
        exact bodyPost_ret (v := .tuple #[.agg #[.int .i64 0, .int .u8 0, .bool false, .slice none 0 0], .int .i64 0]) (by simp [results, Tryz.results24, go_sem, e0, e1, e2, e3]) rfl ⟨s1, .inl ⟨hnone.out, rfl⟩⟩
end Go.Proofs.YtmoihdddmeienaaGreatDoor
