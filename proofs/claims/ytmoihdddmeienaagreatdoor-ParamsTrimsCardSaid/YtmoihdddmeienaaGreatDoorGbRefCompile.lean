/-
  The reference's Compile makes the pattern out of a marked text. Conditions: at most a million bytes.
-/
import Derived.Test.YtmoihdddmeienaaGreatDoorGbRefGroup
namespace Go.Proofs.YtmoihdddmeienaaGreatDoor
open Go Go.RowKit

theorem bareAt_other {l : List Ch} {k : Nat} {a b : UInt8} (h : bareAt l k a = true) (hne : a ≠ b) : bareAt l k b = false := by
  have hk := bareAt_lt h
  rw [bareAt_some hk] at h ⊢
  rw [Bool.and_eq_true, beq_iff_eq] at h
  rw [h.1]
  simp [hne]
theorem item_star {path : Bool} {l : List Ch} {k : Nat} (h : bareAt l k 42 = true) : itemP path l k = ((3, 0, false, []), 1) := by
  unfold itemP; rw [bareAt_other h (by decide), h]; rfl
theorem item_any' {path : Bool} {l : List Ch} {k : Nat} (h : bareAt l k 63 = true) : itemP path l k = ((2, 0, false, []), 1) := by
  unfold itemP; rw [h]; rfl
theorem item_group {path : Bool} {l : List Ch} {k : Nat} {r : It × Nat} (h : bareAt l k 91 = true) (hg : groupP path l (k + 1) = some r) : itemP path l k = (r.1, r.2 + 1) := by
  unfold itemP; rw [bareAt_other h (show (91 : UInt8) ≠ 63 by decide), bareAt_other h (show (91 : UInt8) ≠ 42 by decide), bareAt_other h (show (91 : UInt8) ≠ 92 by decide), h, hg]; rfl
theorem item_open {path : Bool} {l : List Ch} {k : Nat} (h : bareAt l k 91 = true) (hg : groupP path l (k + 1) = none) : itemP path l k = ((1, byteAt l k, false, []), 1) := by
  unfold itemP; rw [bareAt_other h (show (91 : UInt8) ≠ 63 by decide), bareAt_other h (show (91 : UInt8) ≠ 42 by decide), bareAt_other h (show (91 : UInt8) ≠ 92 by decide), h, hg]; rfl
theorem item_back {path : Bool} {l : List Ch} {k : Nat} (h : bareAt l k 92 = true) (hk : k + 1 < l.length) : itemP path l k = ((1, byteAt l (k + 1), false, []), 2) := by
  unfold itemP; rw [bareAt_other h (show (92 : UInt8) ≠ 63 by decide), bareAt_other h (show (92 : UInt8) ≠ 42 by decide), h, decide_eq_true hk]; rfl
theorem item_plain {path : Bool} {l : List Ch} {k : Nat} (h1 : bareAt l k 42 = false) (h2 : bareAt l k 63 = false) (h3 : bareAt l k 91 = false) (h4 : bareAt l k 92 = false ∨ ¬ k + 1 < l.length) : itemP path l k = ((1, byteAt l k, false, []), 1) := by
  unfold itemP
  rw [h2, h1, h3]
  rcases h4 with h | h
  · rw [h]; rfl
  · rw [decide_eq_false h]; simp

set_option maxHeartbeats 8000000 in
set_option maxRecDepth 100000 in
theorem compileRef_any (l : List Ch) (path : Bool) (v : Value) (B : Nat) (w : World) (ht : Tx w B v l) (hB : B ≤ w.heap.size) (hl : l.length ≤ 1000000) :
    Calls Tryz.prog 14 #[v, .bool path] w fun e w' => ∃ v', e = .returned v' ∧ Its w' w'.heap.size v' (compileP path l) ∧ Below w.heap.size w w' := by
  obtain ⟨A, c, rfl, hc, hcm⟩ := ht.form
  unfold maxLen at hcm
  obtain ⟨i0, hi, hz0, hz1, hz2⟩ := info_parts infoRItem
  obtain ⟨P, hP⟩ : ∃ P, compileP path l = P := ⟨_, rfl⟩
  have hP0 := compile_compK path l
  rw [hP] at hP0 ⊢
  clear hP
  have hstep := Lib.hid (fun k out (h : k < l.length) => compK_step (path := path) (l := l) (k := k) (out := out) h)
  go_enter Tryz.func14, Tryz.ntmps14
  go_wp2
  go_loopw [5, 6] (fun o iv wr => ∃ (k : Nat) (out : List It) (us : List Value), iv = .int .i64 k ∧ k ≤ l.length ∧ out.length ≤ k ∧ Below w.heap.size w wr ∧ OwnRI wr w.heap.size o out us ∧ Hid (P = compK path l k out)) (fun _ iv _ => l.length - (intOf iv).toNat)
  case atStart => exact ⟨0, [], [], rfl, Nat.zero_le _, Nat.le_refl _, Below.refl _ _, ⟨rfl, World.ownsRow_nil _ _ _ _, by simp⟩, hP0⟩
  case round =>
    clear hP0
    obtain ⟨k, out, us, rfl, hk, hok, hbW, hown, hcomp⟩ := hrel
    have hsz := hbW.size
    by_cases hlt : k < l.length
    · have htw := ht.below (hbW.mono hB)
      have hst := hstep.out k out hlt
      rw [← hcomp.out] at hst
      clear hcomp hstep
      have h42 := isRef_any htw k 42 hl (by omega)
      cases e42 : bareAt l k 42 with
      | true =>
        rw [e42] at h42
        rw [item_star (path := path) e42] at hst
        by_cases hls : lastStar out = true
        · have hcm2 : Hid (P = compK path l (k + 1) out) := by
            rw [Hid, hst]; simp [stepOut, isStar, hls]
          obtain ⟨m, hm⟩ : ∃ m, out.length = m + 1 := by
            cases out with
            | nil => cases hls
            | cons a t => exact ⟨t.length, rfl⟩
          have hl3 : (out[m]'(by omega)).1 = 3 := by
            rw [lastStar_get hm] at hls
            simpa [isStar] using hls
          have hrow := hown.2.1
          rw [hm] at hrow
          obtain ⟨g, cap, hov⟩ := own_succ' hrow
          subst hov
          have g0 := hrow.cellAt (m * 4) (by omega)
          rw [(cellsIt_at out us hown.1 m (by omega)).1, hl3] at g0
          have hokm : m + 1 ≤ k := by omega
          clear hst hls hl3 e42 hrow hm
          go_wp2_with fail
          refine h42.mono ?_
          rintro e w1 ⟨rfl, rfl⟩
          clear h42
          go_wp2
          go_roundw
          case rel => exact ⟨k + 1, out, us, by go_num, by omega, by omega, hbW, hown, hcm2.out⟩
          case measure => simp [intOf]; omega
        · have hcm2 : Hid (P = compK path l (k + 1) (out ++ [(3, 0, false, [])])) := by
            rw [Hid, hst]; simp [stepOut, isStar, hls]
          by_cases hnil : out = []
          · subst hnil
            obtain ⟨A0, c0, hov⟩ := own_formN hown.2.1
            subst hov
            clear hst hls e42
            go_wp2_with fail
            refine h42.mono ?_
            rintro e w1 ⟨rfl, rfl⟩
            clear h42
            have hm4 := hown.below ((Below.refl _ w1).alloc (Nat.le_refl _) (.cells #[.int .i64 3, .int .u8 0, .bool false, .slice none 0 0] 64))
            have hu4 : (w1.alloc (.cells #[.int .i64 3, .int .u8 0, .bool false, .slice none 0 0] 64)).ownsRow w.heap.size 88 2 (.slice none 0 0) ((3, 0, false, []) : It).2.2.2.length (cellsRg ((3, 0, false, []) : It).2.2.2) := World.ownsRow_nil _ _ _ _
            have hb4 := hbW.alloc hbW.size (.cells #[.int .i64 3, .int .u8 0, .bool false, .slice none 0 0] 64)
            have hnew : ∀ (j : Nat) (u : Value), (ci (3, 0, false, []) (.slice none 0 0))[j]? = some u → (w1.alloc (.cells #[.int .i64 3, .int .u8 0, .bool false, .slice none 0 0] 64)).cell? ((⟨w1.heap.size, 0, none⟩ : Addr).add j) = some u := new_cells w1 #[.int .i64 3, .int .u8 0, .bool false, .slice none 0 0] _
            have hrow4 := hm4.2.1
            go_wp2_with (at_builtin; refine wpList_append_own _ rfl _ _ 40 rfl w.heap.size 64 i0 _ 4 40 Tryz.underlying40 hi hz0 hz1 hz2 rfl (by decide) _ _ _ rfl hrow4 ⟨w1.heap.size, 0, none⟩ 1 1 (ci (3, 0, false, []) (.slice none 0 0)) rfl rfl hnew ?c2 ?c3 ?c4 ?c5 ?_)
            case c2 => simp [ci, Value.oneCell']
            case c3 => simp only [maxLen]; omega
            case c4 => omega
            case c5 => have := hb4.size; omega
            intro v9 w9 hown9 hgrow9 _
            have hO9 := ownRI_snoc (x := (3, 0, false, [])) hm4 hu4 hown9 hgrow9
            have hb9 : Below w.heap.size w w9 := hb4.grown hgrow9 hb4.size (fun g h => (hm4.2.1.lt g h).1)
            clear hrow4 hm4 hu4 hnew hown9 hgrow9 hb4 hown hbW
            go_wp2
            go_roundw
            case rel => exact ⟨k + 1, [] ++ [(3, 0, false, [])], _, by go_num, by omega, by simp, hb9, hO9, hcm2.out⟩
            case measure => simp [intOf]; omega
          · obtain ⟨m, hm⟩ : ∃ m, out.length = m + 1 := by
              cases out with
              | nil => exact absurd rfl hnil
              | cons a t => exact ⟨t.length, rfl⟩
            have hl3 : ¬ (out[m]'(by omega)).1 = 3 := by
              rw [lastStar_get hm] at hls
              simpa [isStar] using hls
            have hrow := hown.2.1
            rw [hm] at hrow
            obtain ⟨g, cap, hov⟩ := own_succ' hrow
            subst hov
            have g0 := hrow.cellAt (m * 4) (by omega)
            rw [(cellsIt_at out us hown.1 m (by omega)).1] at g0
            generalize (out[m]'(by omega)).1 = z at g0 hl3
            have j3 : (z == 3) = false := beq_eq_false_iff_ne.2 hl3
            have j4 : (z != 3) = true := bne_iff_ne.2 hl3
            have hokm : m + 1 ≤ k := by omega
            clear hst hls e42 hrow hm hnil
            go_wp2_with fail
            refine h42.mono ?_
            rintro e w1 ⟨rfl, rfl⟩
            clear h42
            have hm4 := hown.below ((Below.refl _ w1).alloc (Nat.le_refl _) (.cells #[.int .i64 3, .int .u8 0, .bool false, .slice none 0 0] 64))
            have hu4 : (w1.alloc (.cells #[.int .i64 3, .int .u8 0, .bool false, .slice none 0 0] 64)).ownsRow w.heap.size 88 2 (.slice none 0 0) ((3, 0, false, []) : It).2.2.2.length (cellsRg ((3, 0, false, []) : It).2.2.2) := World.ownsRow_nil _ _ _ _
            have hb4 := hbW.alloc hbW.size (.cells #[.int .i64 3, .int .u8 0, .bool false, .slice none 0 0] 64)
            have hnew : ∀ (j : Nat) (u : Value), (ci (3, 0, false, []) (.slice none 0 0))[j]? = some u → (w1.alloc (.cells #[.int .i64 3, .int .u8 0, .bool false, .slice none 0 0] 64)).cell? ((⟨w1.heap.size, 0, none⟩ : Addr).add j) = some u := new_cells w1 #[.int .i64 3, .int .u8 0, .bool false, .slice none 0 0] _
            have hrow4 := hm4.2.1
            go_wp2_with (at_builtin; refine wpList_append_own _ rfl _ _ 40 rfl w.heap.size 64 i0 _ 4 40 Tryz.underlying40 hi hz0 hz1 hz2 rfl (by decide) _ _ _ rfl hrow4 ⟨w1.heap.size, 0, none⟩ 1 1 (ci (3, 0, false, []) (.slice none 0 0)) rfl rfl hnew ?c2 ?c3 ?c4 ?c5 ?_)
            case c2 => simp [ci, Value.oneCell']
            case c3 => simp only [maxLen]; omega
            case c4 => omega
            case c5 => have := hb4.size; omega
            intro v9 w9 hown9 hgrow9 _
            have hO9 := ownRI_snoc (x := (3, 0, false, [])) hm4 hu4 hown9 hgrow9
            have hb9 : Below w.heap.size w w9 := hb4.grown hgrow9 hb4.size (fun g h => (hm4.2.1.lt g h).1)
            clear hrow4 hm4 hu4 hnew hown9 hgrow9 hb4 hown hbW
            go_wp2
            go_roundw
            case rel => exact ⟨k + 1, out ++ [(3, 0, false, [])], _, by go_num, by omega, by rw [List.length_append]; simp; omega, hb9, hO9, hcm2.out⟩
            case measure => simp [intOf]; omega
      | false =>
        rw [e42] at h42
        obtain ⟨A9, c9, hov⟩ := own_formN hown.2.1
        subst hov
        have h63 := isRef_any htw k 63 hl (by omega)
        cases e63 : bareAt l k 63 with
        | true =>
          rw [e63] at h63
          rw [item_any' (path := path) e63] at hst
          have hcm2 : Hid (P = compK path l (k + 1) (out ++ [(2, 0, false, [])])) := by
            rw [Hid, hst]; simp [stepOut, isStar]
          clear hst e42 e63
          go_wp2_with fail
          refine h42.mono ?_
          rintro e w1 ⟨rfl, rfl⟩
          clear h42
          go_wp2_with fail
          refine h63.mono ?_
          rintro e w1 ⟨rfl, rfl⟩
          clear h63
          have hm4 := hown.below ((Below.refl _ w1).alloc (Nat.le_refl _) (.cells #[.int .i64 2, .int .u8 0, .bool false, .slice none 0 0] 64))
          have hu4 : (w1.alloc (.cells #[.int .i64 2, .int .u8 0, .bool false, .slice none 0 0] 64)).ownsRow w.heap.size 88 2 (.slice none 0 0) ((2, 0, false, []) : It).2.2.2.length (cellsRg ((2, 0, false, []) : It).2.2.2) := World.ownsRow_nil _ _ _ _
          have hb4 := hbW.alloc hbW.size (.cells #[.int .i64 2, .int .u8 0, .bool false, .slice none 0 0] 64)
          have hnew : ∀ (j : Nat) (u : Value), (ci (2, 0, false, []) (.slice none 0 0))[j]? = some u → (w1.alloc (.cells #[.int .i64 2, .int .u8 0, .bool false, .slice none 0 0] 64)).cell? ((⟨w1.heap.size, 0, none⟩ : Addr).add j) = some u := new_cells w1 #[.int .i64 2, .int .u8 0, .bool false, .slice none 0 0] _
          have hrow4 := hm4.2.1
          go_wp2_with (at_builtin; refine wpList_append_own _ rfl _ _ 40 rfl w.heap.size 64 i0 _ 4 40 Tryz.underlying40 hi hz0 hz1 hz2 rfl (by decide) _ _ _ rfl hrow4 ⟨w1.heap.size, 0, none⟩ 1 1 (ci (2, 0, false, []) (.slice none 0 0)) rfl rfl hnew ?c2 ?c3 ?c4 ?c5 ?_)
          case c2 => simp [ci, Value.oneCell']
          case c3 => simp only [maxLen]; omega
          case c4 => omega
          case c5 => have := hb4.size; omega
          intro v9 w9 hown9 hgrow9 _
          have hO9 := ownRI_snoc (x := (2, 0, false, [])) hm4 hu4 hown9 hgrow9
          have hb9 : Below w.heap.size w w9 := hb4.grown hgrow9 hb4.size (fun g h => (hm4.2.1.lt g h).1)
          clear hrow4 hm4 hu4 hnew hown9 hgrow9 hb4 hown hbW
          go_wp2
          go_roundw
          case rel => exact ⟨k + 1, out ++ [(2, 0, false, [])], _, by go_num, by omega, by rw [List.length_append]; simp; omega, hb9, hO9, hcm2.out⟩
          case measure => simp [intOf]; omega
        | false =>
          rw [e63] at h63
          have h91 := isRef_any htw k 91 hl (by omega)
          have h92 := fun W (hW : Tx W B (.slice A l.length c) l) => isRef_any hW k 92 hl (by omega)
          cases e91 : bareAt l k 91 with
          | true =>
            rw [e91] at h91
            rw [bareAt_other e91 (show (91 : UInt8) ≠ 92 by decide)] at h92
            have hgp := groupRef_any l (.slice A l.length c) B htw (by omega) k path hl hlt
            have hbx := byteAt_get hlt
            have hso := Lib.hid hst
            clear hst
            go_wp2_with fail
            refine h42.mono ?_
            rintro e w1 ⟨rfl, rfl⟩
            clear h42
            go_wp2_with fail
            refine h63.mono ?_
            rintro e w1 ⟨rfl, rfl⟩
            clear h63
            go_wp2_with fail
            refine h91.mono ?_
            rintro e w1 ⟨rfl, rfl⟩
            clear h91
            go_wp2_with fail
            refine hgp.mono ?_
            rintro e w2 ⟨hb2, (⟨hg, rfl⟩ | ⟨rs, n, v2, hg, rfl, hown2⟩)⟩
            · have hbA := hbW.trans (hb2.mono hsz)
              have hownA := hown.below hb2
              have htA := htw.below (hb2.mono (by omega))
              have hso2 := hso.out
              rw [item_open e91 hg] at hso2
              have hcm2 : Hid (P = compK path l (k + 1) (out ++ [(1, byteAt l k, false, [])])) := by
                rw [Hid, hso2]; simp [stepOut, isStar]
              clear hso hso2 hbW hown htw hb2 hgp hg e91 e42 e63
              have hbW := hbA.alloc hbA.size (.cells zit 64)
              have hownB := hownA.below ((Below.refl _ w2).alloc (Nat.le_refl _) (.cells zit 64))
              have htB := htA.below (((Below.refl _ w2).alloc (Nat.le_refl _) (.cells zit 64)).mono (show B ≤ w2.heap.size by have := hbA.size; omega))
              obtain ⟨blk, off, rfl, hblk, g0, g1⟩ := htB.at_ hlt
              rw [← hbx] at g0
              generalize byteAt l k = x at g0 hcm2
              clear hbA hownA htA hbx g1
              go_wp2_with fail
              refine (h92 _ htB).mono ?_
              rintro e w3 ⟨rfl, rfl⟩
              clear h92
              generalize w2.alloc (.cells zit 64) = w4 at *
              have hm4 := hownB.below ((Below.refl _ w4).alloc (Nat.le_refl _) (.cells #[.int .i64 1, .int .u8 (x.toNat : Int), .bool false, .slice none 0 0] 64))
              have hu4 : (w4.alloc (.cells #[.int .i64 1, .int .u8 (x.toNat : Int), .bool false, .slice none 0 0] 64)).ownsRow w.heap.size 88 2 (.slice none 0 0) ((1, x, false, []) : It).2.2.2.length (cellsRg ((1, x, false, []) : It).2.2.2) := World.ownsRow_nil _ _ _ _
              have hb4 := hbW.alloc hbW.size (.cells #[.int .i64 1, .int .u8 (x.toNat : Int), .bool false, .slice none 0 0] 64)
              have hnew : ∀ (j : Nat) (u : Value), (ci (1, x, false, []) (.slice none 0 0))[j]? = some u → (w4.alloc (.cells #[.int .i64 1, .int .u8 (x.toNat : Int), .bool false, .slice none 0 0] 64)).cell? ((⟨w4.heap.size, 0, none⟩ : Addr).add j) = some u := new_cells w4 #[.int .i64 1, .int .u8 (x.toNat : Int), .bool false, .slice none 0 0] _
              have hrow4 := hm4.2.1
              go_wp2_with (at_builtin; refine wpList_append_own _ rfl _ _ 40 rfl w.heap.size 64 i0 _ 4 40 Tryz.underlying40 hi hz0 hz1 hz2 rfl (by decide) _ _ _ rfl hrow4 ⟨w4.heap.size, 0, none⟩ 1 1 (ci (1, x, false, []) (.slice none 0 0)) rfl rfl hnew ?c2 ?c3 ?c4 ?c5 ?_)
              case c2 => simp [ci, Value.oneCell']
              case c3 => simp only [maxLen]; omega
              case c4 => omega
              case c5 => have := hb4.size; omega
              intro v9 w9 hown9 hgrow9 _
              have hO9 := ownRI_snoc (x := (1, x, false, [])) hm4 hu4 hown9 hgrow9
              have hb9 : Below w.heap.size w w9 := hb4.grown hgrow9 hb4.size (fun g h => (hm4.2.1.lt g h).1)
              clear hrow4 hm4 hu4 hnew hown9 hgrow9 hb4 hownB hbW
              go_wp2
              go_roundw
              case rel => exact ⟨k + 1, out ++ [(1, x, false, [])], _, by go_num, by omega, by rw [List.length_append]; simp; omega, hb9, hO9, hcm2.out⟩
              case measure => simp [intOf]; omega
            · have hbA := hbW.trans (hb2.mono hsz)
              have hownA := hown.below hb2
              have hso2 := hso.out
              have hpos := groupP_pos hg
              simp only at hpos
              rw [item_group e91 hg] at hso2
              have hcm2 : Hid (P = compK path l (k + 1 + n) (out ++ [(4, 0, bareAt l (k + 1) 33, rs)])) := by
                rw [Hid, hso2, show k + 1 + n = k + (n + 1) by omega]; simp [stepOut, isStar]
              have hown3 := own_base hown2 hsz
              obtain ⟨A2, c2, rfl⟩ := own_formN hown3
              generalize bareAt l (k + 1) 33 = nb at hcm2 ⊢
              clear hso hso2 hbx hbW hown htw hb2 hgp hg e91 e42 e63 hown2 h92
              have hbW := hbA.alloc hbA.size (.cells #[.int .i64 4, .int .u8 0, .bool nb, .slice A2 rs.length c2] 64)
              have hownB := hownA.below ((Below.refl _ w2).alloc (Nat.le_refl _) (.cells #[.int .i64 4, .int .u8 0, .bool nb, .slice A2 rs.length c2] 64))
              have hu3 := own_below hown3 ((Below.refl _ w2).alloc (Nat.le_refl _) (.cells #[.int .i64 4, .int .u8 0, .bool nb, .slice A2 rs.length c2] 64))
              have hcg := heap_alloc_new w2 (.cells #[.int .i64 4, .int .u8 0, .bool nb, .slice A2 rs.length c2] 64)
              have hcg0 : ∀ j u, (#[.int .i64 4, .int .u8 0, .bool nb, .slice A2 rs.length c2] : Array Value)[j]? = some u → (w2.alloc (.cells #[.int .i64 4, .int .u8 0, .bool nb, .slice A2 rs.length c2] 64)).cell? ⟨w2.heap.size, j, none⟩ = some u := fun j u hu => by rw [cell_of_row _ _ _ _ _ _ hcg]; exact hu
              have x0 := hcg0 0 _ rfl
              have x1 := hcg0 1 _ rfl
              have x2 := hcg0 2 _ rfl
              have x3 := hcg0 3 _ rfl
              clear hcg0 hcg
              have hng : (0 : Int) < ((k + 1 + n : Nat) : Int) := by omega
              clear hbA hownA hown3
              have hm4 := hownB.below ((Below.refl _ (w2.alloc (.cells #[.int .i64 4, .int .u8 0, .bool nb, .slice A2 rs.length c2] 64))).alloc (Nat.le_refl _) (.cells #[.int .i64 4, .int .u8 0, .bool nb, .slice A2 rs.length c2] 64))
              have hu4 : ((w2.alloc (.cells #[.int .i64 4, .int .u8 0, .bool nb, .slice A2 rs.length c2] 64)).alloc (.cells #[.int .i64 4, .int .u8 0, .bool nb, .slice A2 rs.length c2] 64)).ownsRow w.heap.size 88 2 (.slice A2 rs.length c2) ((4, 0, nb, rs) : It).2.2.2.length (cellsRg ((4, 0, nb, rs) : It).2.2.2) := own_below hu3 ((Below.refl _ (w2.alloc (.cells #[.int .i64 4, .int .u8 0, .bool nb, .slice A2 rs.length c2] 64))).alloc (Nat.le_refl _) (.cells #[.int .i64 4, .int .u8 0, .bool nb, .slice A2 rs.length c2] 64))
              have hb4 := hbW.alloc hbW.size (.cells #[.int .i64 4, .int .u8 0, .bool nb, .slice A2 rs.length c2] 64)
              have hnew : ∀ (j : Nat) (u : Value), (ci (4, 0, nb, rs) (.slice A2 rs.length c2))[j]? = some u → ((w2.alloc (.cells #[.int .i64 4, .int .u8 0, .bool nb, .slice A2 rs.length c2] 64)).alloc (.cells #[.int .i64 4, .int .u8 0, .bool nb, .slice A2 rs.length c2] 64)).cell? ((⟨w2.heap.size + 1, 0, none⟩ : Addr).add j) = some u := by
                have := new_cells (w2.alloc (.cells #[.int .i64 4, .int .u8 0, .bool nb, .slice A2 rs.length c2] 64)) #[.int .i64 4, .int .u8 0, .bool nb, .slice A2 rs.length c2] 64
                rw [World.size_alloc] at this
                exact this
              have hrow4 := hm4.2.1
              go_wp2_with (at_builtin; refine wpList_append_own _ rfl _ _ 40 rfl w.heap.size 64 i0 _ 4 40 Tryz.underlying40 hi hz0 hz1 hz2 rfl (by decide) _ _ _ rfl hrow4 ⟨w2.heap.size + 1, 0, none⟩ 1 1 (ci (4, 0, nb, rs) (.slice A2 rs.length c2)) rfl rfl hnew ?c2 ?c3 ?c4 ?c5 ?_)
              case c2 => simp [ci, Value.oneCell']
              case c3 => simp only [maxLen]; omega
              case c4 => omega
              case c5 => have := hb4.size; omega
              intro v9 w9 hown9 hgrow9 _
              have hO9 := ownRI_snoc (x := (4, 0, nb, rs)) hm4 hu4 hown9 hgrow9
              have hb9 : Below w.heap.size w w9 := hb4.grown hgrow9 hb4.size (fun g h => (hm4.2.1.lt g h).1)
              clear hrow4 hm4 hu4 hnew hown9 hgrow9 hb4 hownB hbW
              go_wp2
              go_roundw
              case rel => exact ⟨k + 1 + n, out ++ [(4, 0, nb, rs)], _, by go_num, by omega, by rw [List.length_append]; simp; omega, hb9, hO9, hcm2.out⟩
              case measure => simp [intOf]; omega
          | false =>
            rw [e91] at h91
            have h92' := h92 _ htw
            clear h92
            cases e92 : bareAt l k 92 with
            | true =>
              rw [e92] at h92'
              by_cases hk1 : k + 1 < l.length
              · rw [item_back e92 hk1] at hst
                have hcm2 : Hid (P = compK path l (k + 2) (out ++ [(1, byteAt l (k + 1), false, [])])) := by
                  rw [Hid, hst]; simp [stepOut, isStar]
                have hbx := byteAt_get hk1
                obtain ⟨blk, off, rfl, hblk, g0, g1⟩ := htw.at_ hk1
                rw [← hbx] at g0
                generalize byteAt l (k + 1) = x at g0 hcm2
                have hk1I : (k : Int) + 1 < (l.length : Int) := by omega
                clear hst hbx e42 e63 e91 e92 g1
                go_wp2_with fail
                refine h42.mono ?_
                rintro e w1 ⟨rfl, rfl⟩
                clear h42
                go_wp2_with fail
                refine h63.mono ?_
                rintro e w1 ⟨rfl, rfl⟩
                clear h63
                go_wp2_with fail
                refine h91.mono ?_
                rintro e w1 ⟨rfl, rfl⟩
                clear h91
                go_wp2_with fail
                refine h92'.mono ?_
                rintro e w1 ⟨rfl, rfl⟩
                clear h92'
                have hm4 := hown.below ((Below.refl _ w1).alloc (Nat.le_refl _) (.cells #[.int .i64 1, .int .u8 (x.toNat : Int), .bool false, .slice none 0 0] 64))
                have hu4 : (w1.alloc (.cells #[.int .i64 1, .int .u8 (x.toNat : Int), .bool false, .slice none 0 0] 64)).ownsRow w.heap.size 88 2 (.slice none 0 0) ((1, x, false, []) : It).2.2.2.length (cellsRg ((1, x, false, []) : It).2.2.2) := World.ownsRow_nil _ _ _ _
                have hb4 := hbW.alloc hbW.size (.cells #[.int .i64 1, .int .u8 (x.toNat : Int), .bool false, .slice none 0 0] 64)
                have hnew : ∀ (j : Nat) (u : Value), (ci (1, x, false, []) (.slice none 0 0))[j]? = some u → (w1.alloc (.cells #[.int .i64 1, .int .u8 (x.toNat : Int), .bool false, .slice none 0 0] 64)).cell? ((⟨w1.heap.size, 0, none⟩ : Addr).add j) = some u := new_cells w1 #[.int .i64 1, .int .u8 (x.toNat : Int), .bool false, .slice none 0 0] _
                have hrow4 := hm4.2.1
                go_wp2_with (at_builtin; refine wpList_append_own _ rfl _ _ 40 rfl w.heap.size 64 i0 _ 4 40 Tryz.underlying40 hi hz0 hz1 hz2 rfl (by decide) _ _ _ rfl hrow4 ⟨w1.heap.size, 0, none⟩ 1 1 (ci (1, x, false, []) (.slice none 0 0)) rfl rfl hnew ?c2 ?c3 ?c4 ?c5 ?_)
                case c2 => simp [ci, Value.oneCell']
                case c3 => simp only [maxLen]; omega
                case c4 => omega
                case c5 => have := hb4.size; omega
                intro v9 w9 hown9 hgrow9 _
                have hO9 := ownRI_snoc (x := (1, x, false, [])) hm4 hu4 hown9 hgrow9
                have hb9 : Below w.heap.size w w9 := hb4.grown hgrow9 hb4.size (fun g h => (hm4.2.1.lt g h).1)
                clear hrow4 hm4 hu4 hnew hown9 hgrow9 hb4 hown hbW
                go_wp2
                go_roundw
                case rel => exact ⟨k + 2, out ++ [(1, x, false, [])], _, by go_num, by omega, by rw [List.length_append]; simp; omega, hb9, hO9, hcm2.out⟩
                case measure => simp [intOf]; omega
              · rw [item_plain e42 e63 e91 (.inr hk1)] at hst
                have hk1I : ¬ (k : Int) + 1 < (l.length : Int) := by omega
                have hcm2 : Hid (P = compK path l (k + 1) (out ++ [(1, byteAt l k, false, [])])) := by
                  rw [Hid, hst]; simp [stepOut, isStar]
                have hbx := byteAt_get hlt
                obtain ⟨blk, off, rfl, hblk, g0, g1⟩ := htw.at_ hlt
                rw [← hbx] at g0
                generalize byteAt l k = x at g0 hcm2
                clear hst hbx e42 e63 e91 e92 g1
                go_wp2_with fail
                refine h42.mono ?_
                rintro e w1 ⟨rfl, rfl⟩
                clear h42
                go_wp2_with fail
                refine h63.mono ?_
                rintro e w1 ⟨rfl, rfl⟩
                clear h63
                go_wp2_with fail
                refine h91.mono ?_
                rintro e w1 ⟨rfl, rfl⟩
                clear h91
                go_wp2_with fail
                refine h92'.mono ?_
                rintro e w1 ⟨rfl, rfl⟩
                clear h92'
                have hm4 := hown.below ((Below.refl _ w1).alloc (Nat.le_refl _) (.cells #[.int .i64 1, .int .u8 (x.toNat : Int), .bool false, .slice none 0 0] 64))
                have hu4 : (w1.alloc (.cells #[.int .i64 1, .int .u8 (x.toNat : Int), .bool false, .slice none 0 0] 64)).ownsRow w.heap.size 88 2 (.slice none 0 0) ((1, x, false, []) : It).2.2.2.length (cellsRg ((1, x, false, []) : It).2.2.2) := World.ownsRow_nil _ _ _ _
                have hb4 := hbW.alloc hbW.size (.cells #[.int .i64 1, .int .u8 (x.toNat : Int), .bool false, .slice none 0 0] 64)
                have hnew : ∀ (j : Nat) (u : Value), (ci (1, x, false, []) (.slice none 0 0))[j]? = some u → (w1.alloc (.cells #[.int .i64 1, .int .u8 (x.toNat : Int), .bool false, .slice none 0 0] 64)).cell? ((⟨w1.heap.size, 0, none⟩ : Addr).add j) = some u := new_cells w1 #[.int .i64 1, .int .u8 (x.toNat : Int), .bool false, .slice none 0 0] _
                have hrow4 := hm4.2.1
                go_wp2_with (at_builtin; refine wpList_append_own _ rfl _ _ 40 rfl w.heap.size 64 i0 _ 4 40 Tryz.underlying40 hi hz0 hz1 hz2 rfl (by decide) _ _ _ rfl hrow4 ⟨w1.heap.size, 0, none⟩ 1 1 (ci (1, x, false, []) (.slice none 0 0)) rfl rfl hnew ?c2 ?c3 ?c4 ?c5 ?_)
                case c2 => simp [ci, Value.oneCell']
                case c3 => simp only [maxLen]; omega
                case c4 => omega
                case c5 => have := hb4.size; omega
                intro v9 w9 hown9 hgrow9 _
                have hO9 := ownRI_snoc (x := (1, x, false, [])) hm4 hu4 hown9 hgrow9
                have hb9 : Below w.heap.size w w9 := hb4.grown hgrow9 hb4.size (fun g h => (hm4.2.1.lt g h).1)
                clear hrow4 hm4 hu4 hnew hown9 hgrow9 hb4 hown hbW
                go_wp2
                go_roundw
                case rel => exact ⟨k + 1, out ++ [(1, x, false, [])], _, by go_num, by omega, by rw [List.length_append]; simp; omega, hb9, hO9, hcm2.out⟩
                case measure => simp [intOf]; omega
            | false =>
              rw [e92] at h92'
              rw [item_plain e42 e63 e91 (.inl e92)] at hst
              have hk1I := hk
              have hcm2 : Hid (P = compK path l (k + 1) (out ++ [(1, byteAt l k, false, [])])) := by
                rw [Hid, hst]; simp [stepOut, isStar]
              have hbx := byteAt_get hlt
              obtain ⟨blk, off, rfl, hblk, g0, g1⟩ := htw.at_ hlt
              rw [← hbx] at g0
              generalize byteAt l k = x at g0 hcm2
              clear hst hbx e42 e63 e91 e92 g1
              go_wp2_with fail
              refine h42.mono ?_
              rintro e w1 ⟨rfl, rfl⟩
              clear h42
              go_wp2_with fail
              refine h63.mono ?_
              rintro e w1 ⟨rfl, rfl⟩
              clear h63
              go_wp2_with fail
              refine h91.mono ?_
              rintro e w1 ⟨rfl, rfl⟩
              clear h91
              go_wp2_with fail
              refine h92'.mono ?_
              rintro e w1 ⟨rfl, rfl⟩
              clear h92'
              have hm4 := hown.below ((Below.refl _ w1).alloc (Nat.le_refl _) (.cells #[.int .i64 1, .int .u8 (x.toNat : Int), .bool false, .slice none 0 0] 64))
              have hu4 : (w1.alloc (.cells #[.int .i64 1, .int .u8 (x.toNat : Int), .bool false, .slice none 0 0] 64)).ownsRow w.heap.size 88 2 (.slice none 0 0) ((1, x, false, []) : It).2.2.2.length (cellsRg ((1, x, false, []) : It).2.2.2) := World.ownsRow_nil _ _ _ _
              have hb4 := hbW.alloc hbW.size (.cells #[.int .i64 1, .int .u8 (x.toNat : Int), .bool false, .slice none 0 0] 64)
              have hnew : ∀ (j : Nat) (u : Value), (ci (1, x, false, []) (.slice none 0 0))[j]? = some u → (w1.alloc (.cells #[.int .i64 1, .int .u8 (x.toNat : Int), .bool false, .slice none 0 0] 64)).cell? ((⟨w1.heap.size, 0, none⟩ : Addr).add j) = some u := new_cells w1 #[.int .i64 1, .int .u8 (x.toNat : Int), .bool false, .slice none 0 0] _
              have hrow4 := hm4.2.1
              go_wp2_with (at_builtin; refine wpList_append_own _ rfl _ _ 40 rfl w.heap.size 64 i0 _ 4 40 Tryz.underlying40 hi hz0 hz1 hz2 rfl (by decide) _ _ _ rfl hrow4 ⟨w1.heap.size, 0, none⟩ 1 1 (ci (1, x, false, []) (.slice none 0 0)) rfl rfl hnew ?c2 ?c3 ?c4 ?c5 ?_)
              case c2 => simp [ci, Value.oneCell']
              case c3 => simp only [maxLen]; omega
              case c4 => omega
              case c5 => have := hb4.size; omega
              intro v9 w9 hown9 hgrow9 _
              have hO9 := ownRI_snoc (x := (1, x, false, [])) hm4 hu4 hown9 hgrow9
              have hb9 : Below w.heap.size w w9 := hb4.grown hgrow9 hb4.size (fun g h => (hm4.2.1.lt g h).1)
              clear hrow4 hm4 hu4 hnew hown9 hgrow9 hb4 hown hbW
              go_wp2
              go_roundw
              case rel => exact ⟨k + 1, out ++ [(1, x, false, [])], _, by go_num, by omega, by rw [List.length_append]; simp; omega, hb9, hO9, hcm2.out⟩
              case measure => simp [intOf]; omega
    · have hend : compK path l k out = out := compK_end (by omega)
      have hPo := hcomp.out
      rw [hend] at hPo
      subst hPo
      clear hcomp
      go_wp2
      go_ret
      exact ⟨_, rfl, hown.read, hbW⟩
end Go.Proofs.YtmoihdddmeienaaGreatDoor
