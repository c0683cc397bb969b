/-
  The document's answer in memory: without a name; Enter. Conditions: fewer than a hundred thousand names.
-/
import Derived.Test.YtigmdfdcflkggaaGreatZp11
set_option linter.unusedSimpArgs false
set_option linter.unusedVariables false
namespace Go.Proofs.YtigmdfdcflkggaaGreat
open Go Go.RowKit Go.ChangeMaps

theorem dropK_snoc {α : Type} {L : Es α} {k : ByteArray} {j : Nat} (hj : j < L.length) : dropK (L.take (j + 1)) k = dropK (L.take j) k ++ (if L[j].1 = k then [] else [L[j]]) := by
  rw [List.take_succ_eq_append_getElem hj]
  unfold dropK
  rw [List.filter_append]
  congr 1
  by_cases e : L[j].1 = k
  · rw [if_pos e, List.filter_cons_of_neg (by simpa using e)]; rfl
  · rw [if_neg e, List.filter_cons_of_pos (by simpa using e)]; rfl
def keepT (L : Es ByteArray) : Es ByteArray := L.filter fun p => !decide (0 < p.2.size)
theorem keepT_snoc {L : Es ByteArray} {j : Nat} (hj : j < L.length) : keepT (L.take (j + 1)) = keepT (L.take j) ++ (if 0 < L[j].2.size then [] else [L[j]]) := by
  rw [List.take_succ_eq_append_getElem hj]
  unfold keepT
  rw [List.filter_append]
  congr 1
  by_cases e : 0 < L[j].2.size
  · rw [if_pos e, List.filter_cons_of_neg (by rw [decide_eq_true e]; decide)]; rfl
  · rw [if_neg e, List.filter_cons_of_pos (by rw [decide_eq_false e]; rfl)]; rfl
theorem own_base {w : World} {base base' : Nat} {e : TypeId} {size n : Nat} {v : Value} {xs : List Value} (h : w.ownsRow base e size v n xs) (hb : base' ≤ base) : w.ownsRow base' e size v n xs := by
  refine ⟨h.1, ?_⟩
  rcases h.2 with hn | ⟨g, cap, cur, rfl, hg, rest⟩
  · exact .inl hn
  · exact .inr ⟨g, cap, cur, rfl, by omega, rest⟩
theorem keepT_length (L : Es ByteArray) : (keepT L).length ≤ L.length := List.length_filter_le _ _
section
variable {W w w' : World} {rb : Nat} {r : Rf}
set_option maxRecDepth 100000 in
set_option maxHeartbeats 4000000 in
theorem without_any {y n c : Nat} {A : Option Addr} {L : Es ByteArray} (h : W.ownsRow y 95 2 (.slice A n c) n (flat eP L)) (hn : L.length = n) (hl : n ≤ 90000) (k : ByteArray) :
    Calls Tryz.prog 113 #[.slice A n c, .string k] W fun e w' => ∃ A' c', e = .returned (.slice A' (dropK L k).length c') ∧ w'.ownsRow W.heap.size 95 2 (.slice A' (dropK L k).length c') (dropK L k).length (flat eP (dropK L k)) ∧ Below W.heap.size W w' := by
  obtain ⟨_, c', e9, hc, hcm⟩ := own_form h
  cases e9
  unfold maxLen at hcm
  obtain ⟨z, hz⟩ : ∃ z, W.heap.size = z := ⟨_, rfl⟩
  rw [hz]
  have hat0 := fun (w2 : World) (hb : Below z W w2) => ownBelow h (hz ▸ hb)
  replace hat0 := Lib.hid hat0
  replace hn := Lib.hid hn
  replace hz := Lib.hid hz
  clear h
  go_enter Tryz.func113, Tryz.ntmps113
  have hP0 : Hid (W.ownsRow z 95 2 (.slice none 0 0) 0 (flat eP (dropK (L.take 0) k))) := Lib.hid (World.ownsRow_nil _ _ _ _)
  have hm0 : Hid ((dropK (L.take 0) k).length = 0) := Lib.hid rfl
  have hb0 : Hid (Below z W W) := Lib.hid (Below.refl _ _)
  go_wp2
  go_loopw [5, 6] (fun ov nv wr => ∃ j m : Nat, j ≤ n ∧ nv = .int .i64 (j : Int) ∧ Hid (wr.ownsRow z 95 2 ov m (flat eP (dropK (L.take j) k))) ∧ Hid ((dropK (L.take j) k).length = m) ∧ Hid (Below z W wr)) (fun _ nv _ => n - (intOf nv).toNat)
  case atStart => exact ⟨0, 0, Nat.zero_le _, rfl, hP0, hm0, hb0⟩
  case round =>
    clear hP0 hb0 hm0
    obtain ⟨j, m, hj, rfl, hP, hm, hb⟩ := hrel
    obtain ⟨AO, cO, hov, hcO, hcOm⟩ := own_form hP.out
    subst hov
    unfold maxLen at hcOm
    have hzr : z ≤ wr.heap.size := by have := hb.out.size; have := hz.out; omega
    have hrow := hat0.out wr hb.out
    have hdl : m ≤ 100000 := by
      have := dropK_length (L.take j) k
      rw [List.length_take, hm.out] at this
      omega
    by_cases hlt : j < n
    · have hjn : j < L.length := by rw [hn.out]; exact hlt
      obtain ⟨g, rfl, _, hgl, hat⟩ := own_flat eP_len hrow (by omega)
      have hjl := List.getElem?_eq_getElem hjn
      have c0 : wr.cell? ⟨g, j * 2, none⟩ = some _ := hat j _ hjl 0 _ rfl
      have c1 : wr.cell? ⟨g, j * 2 + 1, none⟩ = some _ := hat j _ hjl 1 _ rfl
      have hj1 : (0 : Int) ≤ (j : Int) := by omega
      have hj2 : (j : Int) < (n : Int) := by omega
      have hsn := dropK_snoc (k := k) hjn
      generalize L[j] = p at c0 c1 hsn
      obtain ⟨k1, x1⟩ := p
      dsimp only at c0 c1 hsn
      clear hjl hat hrow
      by_cases hk : k1 = k
      · have hs := str_eq hk
        rw [if_pos hk, List.append_nil] at hsn
        rw [← hsn] at hP hm
        clear hsn hdl hk
        have hPE := hP
        have hmE := hm
        have hbE := hb
        go_wp2
        go_roundw
        case rel => exact ⟨j + 1, _, by omega, by go_num, hPE, hmE, hbE⟩
        case measure => simp [intOf]; omega
      · have hs := str_ne hk
        rw [if_neg hk] at hsn
        obtain ⟨A2, c2, w2, hrun, hP2, hb2⟩ := row_p hP.out hm.out hdl hb.out hzr k1 x1
        have hmE : Hid ((dropK (L.take (j + 1)) k).length = m + 1) := Lib.hid (by rw [hsn, List.length_append, hm.out]; rfl)
        rw [← hsn] at hP2
        replace hrun := Lib.hid hrun
        have hPE := Lib.hid hP2
        have hbE := Lib.hid hb2
        clear hdl hsn hP hb hP2 hb2 hm
        go_wp2_with (at_builtin; refine wpList_append_of rfl _ _ 74 74 rfl _ _ _ w2 rfl rfl hrun.out ?_)
        clear hrun
        go_roundw
        case rel => exact ⟨j + 1, _, by omega, by go_num, hPE, hmE, hbE⟩
        case measure => simp [intOf]; omega
    · obtain rfl : j = n := by omega
      have hj2 : ¬ (j : Int) < (j : Int) := by omega
      have hfull : L.take j = L := by rw [← hn.out]; exact List.take_length
      rw [hfull] at hP hm
      have hfin := Lib.hid (And.intro hP.out hb.out)
      have hm2 := hm.out
      subst hm2
      replace hfin := Lib.hid (And.intro hP.out hb.out)
      clear hP hb hm
      go_wp2
      go_ret
      exact ⟨_, _, rfl, hfin.out⟩
set_option maxRecDepth 100000 in
set_option maxHeartbeats 4000000 in
theorem rEnter_any (h : RfA W rb r) (hl : r.t.length ≤ 90000) :
    Calls Tryz.prog 59 #[ptrV rb] W fun e w' => e = .returned (.tuple #[]) ∧ RfA w' rb { r with t := keepT r.t } ∧ Stp (fun b => b = rb) W w' := by
  obtain ⟨sv, sf, sa, st, h⟩ := h
  obtain ⟨A, c, hst, hc, hcm⟩ := own_form h.rt
  subst hst
  obtain ⟨z, hz⟩ : ∃ z, W.heap.size = z := ⟨_, rfl⟩
  have hrb := h.blk.lt
  rw [hz] at hrb
  have hall := fun (w2 : World) (hb : Below z W w2) => h.below (hz ▸ hb)
  have hat0 := fun (w2 : World) (hb : Below z W w2) => (hall w2 hb).rt
  have hc0 : ∀ (w2 : World), Below z W w2 → w2.cell? ⟨rb, 3, none⟩ = some (.slice A r.t.length c) := fun w2 hb => (hall w2 hb).blk.cell (i := 3) rfl
  obtain ⟨n, hn⟩ : ∃ n, r.t.length = n := ⟨_, rfl⟩
  obtain ⟨L, hL⟩ : ∃ L, r.t = L := ⟨_, rfl⟩
  rw [hn] at hl hc hat0 hc0
  rw [hL] at hat0 hn ⊢
  unfold maxLen at hcm
  unfold ptrV
  replace hall := Lib.hid hall
  replace hat0 := Lib.hid hat0
  replace hc0 := Lib.hid hc0
  replace hn := Lib.hid hn
  replace hz := Lib.hid hz
  replace hL := Lib.hid hL
  clear h
  go_enter Tryz.func59, Tryz.ntmps59
  have hP0 : Hid (W.ownsRow z 95 2 (.slice none 0 0) 0 (flat eP (keepT (L.take 0)))) := Lib.hid (World.ownsRow_nil _ _ _ _)
  have hm0 : Hid ((keepT (L.take 0)).length = 0) := Lib.hid rfl
  have hb0 : Hid (Below z W W) := Lib.hid (Below.refl _ _)
  go_wp2
  go_loopw [2, 3] (fun ov nv wr => ∃ j m : Nat, j ≤ n ∧ nv = .int .i64 (j : Int) ∧ Hid (wr.ownsRow z 95 2 ov m (flat eP (keepT (L.take j)))) ∧ Hid ((keepT (L.take j)).length = m) ∧ Hid (Below z W wr)) (fun _ nv _ => n - (intOf nv).toNat)
  case atStart => exact ⟨0, 0, Nat.zero_le _, rfl, hP0, hm0, hb0⟩
  case round =>
    clear hP0 hb0 hm0
    obtain ⟨j, m, hj, rfl, hP, hm, hb⟩ := hrel
    obtain ⟨AO, cO, hov, hcO, hcOm⟩ := own_form hP.out
    subst hov
    unfold maxLen at hcOm
    have hzr : z ≤ wr.heap.size := by have := hb.out.size; have := hz.out; omega
    have hrow := hat0.out wr hb.out
    have cr : wr.cell? ⟨rb, 3, none⟩ = some (.slice A n c) := hc0.out wr hb.out
    have crl : rb < wr.heap.size := by have := hb.out.size; have := hz.out; omega
    have hdl : m ≤ 100000 := by
      have := keepT_length (L.take j)
      rw [List.length_take, hm.out] at this
      omega
    by_cases hlt : j < n
    · have hjn : j < L.length := by rw [hn.out]; exact hlt
      obtain ⟨g, rfl, _, hgl, hat⟩ := own_flat eP_len hrow (by omega)
      have hjl := List.getElem?_eq_getElem hjn
      have c0 : wr.cell? ⟨g, j * 2, none⟩ = some _ := hat j _ hjl 0 _ rfl
      have c1 : wr.cell? ⟨g, j * 2 + 1, none⟩ = some _ := hat j _ hjl 1 _ rfl
      have hj1 : (0 : Int) ≤ (j : Int) := by omega
      have hj2 : (j : Int) < (n : Int) := by omega
      have hsn := keepT_snoc hjn
      generalize L[j] = p at c0 c1 hsn
      obtain ⟨k1, x1⟩ := p
      dsimp only at c0 c1 hsn
      clear hjl hat hrow
      by_cases hk : 0 < x1.size
      · have hs := bytesIs hk
        rw [if_pos hk, List.append_nil] at hsn
        rw [← hsn] at hP hm
        clear hsn hdl hk
        have hPE := hP
        have hmE := hm
        have hbE := hb
        go_wp2
        go_roundw
        case rel => exact ⟨j + 1, _, by omega, by go_num, hPE, hmE, hbE⟩
        case measure => simp [intOf]; omega
      · have hk2 := hk
        obtain rfl := noBytes hk2
        rw [if_neg hk] at hsn
        obtain ⟨A2, c2, w2, hrun, hP2, hb2⟩ := row_p hP.out hm.out hdl hb.out hzr k1 ⟨#[]⟩
        have hmE : Hid ((keepT (L.take (j + 1))).length = m + 1) := Lib.hid (by rw [hsn, List.length_append, hm.out]; rfl)
        rw [← hsn] at hP2
        replace hrun := Lib.hid hrun
        have hPE := Lib.hid hP2
        have hbE := Lib.hid hb2
        clear hdl hsn hP hb hP2 hb2 hm
        go_wp2_with (at_builtin; refine wpList_append_of rfl _ _ 74 74 rfl _ _ _ w2 rfl rfl hrun.out ?_)
        clear hrun
        go_roundw
        case rel => exact ⟨j + 1, _, by omega, by go_num, hPE, hmE, hbE⟩
        case measure => simp [intOf]; omega
    · obtain rfl : j = n := by omega
      have hj2 : ¬ (j : Int) < (j : Int) := by omega
      have hfull : L.take j = L := by rw [← hn.out]; exact List.take_length
      rw [hfull] at hP hm
      have hA := hall.out wr hb.out
      have hfz := hA.blk.frozen 3
      obtain ⟨hR, hS⟩ := hA.set (r' := { r with t := keepT L }) (st' := .slice AO m cO) 3 (.slice AO m cO) rfl hA.rv hA.rf hA.ra (by have := own_base hP.out (Nat.zero_le _); rw [← hm.out] at this ⊢; exact this) hA.ga
      have hSt : Stp (fun b => b = rb) W (wr.setCell ⟨rb, 3, none⟩ (.slice AO m cO)) := Stp.trans (S := fun b => b = rb) (S' := fun b => b = rb) (Stp.mono (S := fun _ => False) ⟨hb.out.os, hb.out.tape, hb.out.output, by have := hb.out.size; have := hz.out; omega, fun b hb' _ => hb.out.block b (by have := hz.out; omega)⟩ (fun _ _ h => h.elim)) hS (fun _ _ h => h)
      have hfin := Lib.hid (And.intro hR hSt)
      clear hA hR hS hSt hP hb hm
      go_wp2
      exact bodyPost_end (v := .tuple #[]) (results_none rfl _ _ _) rfl ⟨rfl, ⟨_, _, _, _, hfin.out.1⟩, hfin.out.2⟩
set_option maxRecDepth 100000 in
set_option maxHeartbeats 8000000 in
theorem rUnsetFunc_ok (h : RfA W rb r) (hl : r.f.length ≤ 90000) (k : ByteArray) (hnm : Calls Tryz.prog 76 #[.string k] W fun e w' => e = .returned (.bool true) ∧ w' = W) (hx : (look r.f k).isSome = true) :
    Calls Tryz.prog 54 #[ptrV rb, .string k] W fun e w' => e = .returned (.int .i64 0) ∧ RfA w' rb { r with f := dropK r.f k } ∧ Stp (fun b => b = rb) W w' := by
  have hfu := rFunc_any h k
  rw [hx] at hfu
  obtain ⟨sv, sf, sa, st, h⟩ := h
  obtain ⟨A, c, hst, hc, hcm⟩ := own_form h.rf
  subst hst
  obtain ⟨n, hn⟩ : ∃ n, r.f.length = n := ⟨_, rfl⟩
  obtain ⟨L, hL⟩ : ∃ L, r.f = L := ⟨_, rfl⟩
  rw [hL]
  unfold maxLen at hcm
  obtain ⟨NX, hNX⟩ : ∃ NX, (look r.f k).getD noN = NX := ⟨_, rfl⟩
  rw [hNX] at hfu
  obtain ⟨y0, y1⟩ := NX
  unfold ptrV encN at hfu
  dsimp only at hfu
  clear hNX
  have hW := fun (w2 : World) (hb : Below W.heap.size W w2) => h.below hb
  have hrb0 := h.blk.lt
  unfold ptrV
  replace hW := Lib.hid hW
  clear h hx
  go_enter Tryz.func54, Tryz.ntmps54
  go_wp2_with fail
  refine hnm.mono ?_
  rintro e w' ⟨rfl, hwq⟩
  obtain rfl := hwq.symm
  clear hnm hwq
  go_wp2_with fail
  refine hfu.mono ?_
  rintro e w1 ⟨rfl, hb1⟩
  go_upto_region 4 with fail
  have hbA : Below W.heap.size W (w1.alloc (.cells #[.int .i64 y0, .bool false, .string y1, .bool false, .slice none 0 0, .slice none 0 0, .slice none 0 0, .slice none 0 0, .slice none 0 0] 88)) := hb1.alloc hb1.size _
  generalize (w1.alloc (.cells #[.int .i64 y0, .bool false, .string y1, .bool false, .slice none 0 0, .slice none 0 0, .slice none 0 0, .slice none 0 0, .slice none 0 0] 88)) = wA at hbA ⊢
  have hA0 := hW.out wA hbA
  obtain ⟨z, hz⟩ : ∃ z, wA.heap.size = z := ⟨_, rfl⟩
  have hrb : rb < z := by have := hA0.blk.lt; omega
  have hall := fun (w2 : World) (hb : Below z wA w2) => hA0.below (hz ▸ hb)
  have hat0 := fun (w2 : World) (hb : Below z wA w2) => (hall w2 hb).rf
  have hc0 : ∀ (w2 : World), Below z wA w2 → w2.cell? ⟨rb, 1, none⟩ = some (.slice A r.f.length c) := fun w2 hb => (hall w2 hb).blk.cell (i := 1) rfl
  rw [hn] at hl hc hat0 hc0
  rw [hL] at hat0 hn
  replace hall := Lib.hid hall
  replace hat0 := Lib.hid hat0
  replace hc0 := Lib.hid hc0
  replace hn := Lib.hid hn
  replace hz := Lib.hid hz
  replace hL := Lib.hid hL
  replace hbA := Lib.hid hbA
  clear hfu hW hA0 hb1
  have hP0 : Hid (wA.ownsRow z 139 10 (.slice none 0 0) 0 (flat eF (dropK (L.take 0) k))) := Lib.hid (World.ownsRow_nil _ _ _ _)
  have hm0 : Hid ((dropK (L.take 0) k).length = 0) := Lib.hid rfl
  have hb0 : Hid (Below z wA wA) := Lib.hid (Below.refl _ _)
  go_wp2
  go_loopw [7, 8] (fun ov nv wr => ∃ j m : Nat, j ≤ n ∧ nv = .int .i64 (j : Int) ∧ Hid (wr.ownsRow z 139 10 ov m (flat eF (dropK (L.take j) k))) ∧ Hid ((dropK (L.take j) k).length = m) ∧ Hid (Below z wA wr)) (fun _ nv _ => n - (intOf nv).toNat)
  case atStart => exact ⟨0, 0, Nat.zero_le _, rfl, hP0, hm0, hb0⟩
  case round =>
    clear hP0 hb0 hm0
    obtain ⟨j, m, hj, rfl, hP, hm, hb⟩ := hrel
    obtain ⟨AO, cO, hov, hcO, hcOm⟩ := own_form hP.out
    subst hov
    unfold maxLen at hcOm
    have hzr : z ≤ wr.heap.size := by have := hb.out.size; have := hz.out; omega
    have hrow := hat0.out wr hb.out
    have cr : wr.cell? ⟨rb, 1, none⟩ = some (.slice A n c) := hc0.out wr hb.out
    have crl : rb < wr.heap.size := by have := hb.out.size; have := hz.out; omega
    have hdl : m ≤ 100000 := by
      have := dropK_length (L.take j) k
      rw [List.length_take, hm.out] at this
      omega
    by_cases hlt : j < n
    · have hjn : j < L.length := by rw [hn.out]; exact hlt
      obtain ⟨g, rfl, _, hgl, hat⟩ := own_flat eF_len hrow (by omega)
      have hjl := List.getElem?_eq_getElem hjn
      have c0 : wr.cell? ⟨g, j * 10, none⟩ = some _ := hat j _ hjl 0 _ rfl
      have c1 : wr.cell? ⟨g, j * 10 + 1, none⟩ = some _ := hat j _ hjl 1 _ rfl
      have c2 : wr.cell? ⟨g, j * 10 + 2, none⟩ = some _ := hat j _ hjl 2 _ rfl
      have c3 : wr.cell? ⟨g, j * 10 + 3, none⟩ = some _ := hat j _ hjl 3 _ rfl
      have c4 : wr.cell? ⟨g, j * 10 + 4, none⟩ = some _ := hat j _ hjl 4 _ rfl
      have c5 : wr.cell? ⟨g, j * 10 + 5, none⟩ = some _ := hat j _ hjl 5 _ rfl
      have c6 : wr.cell? ⟨g, j * 10 + 6, none⟩ = some _ := hat j _ hjl 6 _ rfl
      have c7 : wr.cell? ⟨g, j * 10 + 7, none⟩ = some _ := hat j _ hjl 7 _ rfl
      have c8 : wr.cell? ⟨g, j * 10 + 8, none⟩ = some _ := hat j _ hjl 8 _ rfl
      have c9 : wr.cell? ⟨g, j * 10 + 9, none⟩ = some _ := hat j _ hjl 9 _ rfl
      have hj1 : (0 : Int) ≤ (j : Int) := by omega
      have hj2 : (j : Int) < (n : Int) := by omega
      have hsn := dropK_snoc (k := k) hjn
      generalize L[j] = p at c0 c1 c2 c3 c4 c5 c6 c7 c8 c9 hsn
      obtain ⟨k1, ⟨x0, x1⟩⟩ := p
      dsimp only at c0 c1 c2 c3 c4 c5 c6 c7 c8 c9 hsn
      clear hjl hat hrow
      by_cases hk : k1 = k
      · have hs := str_eq hk
        rw [if_pos hk, List.append_nil] at hsn
        rw [← hsn] at hP hm
        clear hsn hdl hk
        have hPE := hP
        have hmE := hm
        have hbE := hb
        go_wp2
        go_roundw
        case rel => exact ⟨j + 1, _, by omega, by go_num, hPE, hmE, hbE⟩
        case measure => simp [intOf]; omega
      · have hs := str_ne hk
        rw [if_neg hk] at hsn
        obtain ⟨A2, c2, w2, hrun, hP2, hb2⟩ := row_f hP.out hm.out hdl hb.out hzr k1 x0 x1
        have hmE : Hid ((dropK (L.take (j + 1)) k).length = m + 1) := Lib.hid (by rw [hsn, List.length_append, hm.out]; rfl)
        rw [← hsn] at hP2
        replace hrun := Lib.hid hrun
        have hPE := Lib.hid hP2
        have hbE := Lib.hid hb2
        clear hdl hsn hP hb hP2 hb2 hm
        go_wp2_with (at_builtin; refine wpList_append_of rfl _ _ 73 73 rfl _ _ _ w2 rfl rfl hrun.out ?_)
        clear hrun
        go_roundw
        case rel => exact ⟨j + 1, _, by omega, by go_num, hPE, hmE, hbE⟩
        case measure => simp [intOf]; omega
    · obtain rfl : j = n := by omega
      have hj2 : ¬ (j : Int) < (j : Int) := by omega
      have hfull : L.take j = L := by rw [← hn.out]; exact List.take_length
      rw [hfull] at hP hm
      have hA := hall.out wr hb.out
      have hfz := hA.blk.frozen 1
      obtain ⟨hR, hS⟩ := hA.set (r' := { r with f := dropK L k }) (sf' := .slice AO m cO) 1 (.slice AO m cO) rfl hA.rv (by have := own_base hP.out (Nat.zero_le _); rw [← hm.out] at this ⊢; exact this) hA.ra hA.rt hA.ga
      have hbW : Below W.heap.size W wr := hbA.out.trans (hb.out.mono (by have := hz.out; have := hbA.out.size; omega))
      have hSt : Stp (fun b => b = rb) W (wr.setCell ⟨rb, 1, none⟩ (.slice AO m cO)) := Stp.trans (S := fun b => b = rb) (S' := fun b => b = rb) (Stp.mono (S := fun _ => False) ⟨hbW.os, hbW.tape, hbW.output, hbW.size, fun b hb' _ => hbW.block b hb'⟩ (fun _ _ h => h.elim)) hS (fun _ _ h => h)
      have hfin := Lib.hid (And.intro hR hSt)
      clear hA hR hS hSt hP hb hm hbW
      go_wp2
      go_ret
      exact ⟨rfl, ⟨_, _, _, _, hfin.out.1⟩, hfin.out.2⟩
set_option maxRecDepth 100000 in
set_option maxHeartbeats 8000000 in
theorem rSetFunc_ok (h : RfA W rb r) (hl : r.f.length ≤ 90000) (k : ByteArray) (y0 : Int) (y1 : ByteArray) (hnm : ∀ W', Calls Tryz.prog 76 #[.string k] W' fun e w' => e = .returned (.bool true) ∧ w' = W') :
    Calls Tryz.prog 53 #[ptrV rb, .string k, encN ⟨y0, y1⟩] W fun e w' => e = .returned (.int .i64 0) ∧ RfA w' rb { r with f := dropK r.f k ++ [(k, ⟨y0, y1⟩)] } ∧ Stp (fun b => b = rb) W w' := by
  obtain ⟨sv, sf, sa, st, h⟩ := h
  obtain ⟨A, c, hst, hc, hcm⟩ := own_form h.rf
  subst hst
  obtain ⟨n, hn⟩ : ∃ n, r.f.length = n := ⟨_, rfl⟩
  obtain ⟨L, hL⟩ : ∃ L, r.f = L := ⟨_, rfl⟩
  rw [hL]
  unfold maxLen at hcm
  have hrb0 := h.blk.lt
  obtain ⟨zb, hzb⟩ : ∃ z, W.heap.size = z := ⟨_, rfl⟩
  have bN : Blk (W.alloc (.cells #[.int .i64 y0, .bool false, .string y1, .bool false, .slice none 0 0, .slice none 0 0, .slice none 0 0, .slice none 0 0, .slice none 0 0] 88)) zb [.int .i64 y0, .bool false, .string y1, .bool false, .slice none 0 0, .slice none 0 0, .slice none 0 0, .slice none 0 0, .slice none 0 0] 88 := by rw [← hzb]; exact Blk.new W _ _
  have hbA : Below W.heap.size W (W.alloc (.cells #[.int .i64 y0, .bool false, .string y1, .bool false, .slice none 0 0, .slice none 0 0, .slice none 0 0, .slice none 0 0, .slice none 0 0] 88)) := Below.of_alloc W _
  have hA0 := h.below hbA
  unfold ptrV encN
  replace bN := Lib.hid bN
  clear h
  go_enter Tryz.func53, Tryz.ntmps53
  go_upto_region 1 with fail
  try rw [hzb]
  generalize (W.alloc (.cells #[.int .i64 y0, .bool false, .string y1, .bool false, .slice none 0 0, .slice none 0 0, .slice none 0 0, .slice none 0 0, .slice none 0 0] 88)) = wA at hbA hA0 bN ⊢
  have hnmA := hnm wA
  obtain ⟨z, hz⟩ : ∃ z, wA.heap.size = z := ⟨_, rfl⟩
  have hrb : rb < z := by have := hA0.blk.lt; omega
  have hzbz : zb < z := by have := bN.out.lt; omega
  have hall := fun (w2 : World) (hb : Below z wA w2) => hA0.below (hz ▸ hb)
  have hat0 := fun (w2 : World) (hb : Below z wA w2) => (hall w2 hb).rf
  have hc0 : ∀ (w2 : World), Below z wA w2 → w2.cell? ⟨rb, 1, none⟩ = some (.slice A r.f.length c) := fun w2 hb => (hall w2 hb).blk.cell (i := 1) rfl
  rw [hn] at hl hc hat0 hc0
  rw [hL] at hat0 hn
  replace hall := Lib.hid hall
  replace hat0 := Lib.hid hat0
  replace hc0 := Lib.hid hc0
  replace hn := Lib.hid hn
  replace hz := Lib.hid hz
  replace hL := Lib.hid hL
  replace hbA := Lib.hid hbA
  clear hA0 hnm
  go_wp2_with fail
  refine hnmA.mono ?_
  rintro e w' ⟨rfl, hwq⟩
  obtain rfl := hwq.symm
  clear hnmA hwq
  have hP0 : Hid (wA.ownsRow z 139 10 (.slice none 0 0) 0 (flat eF (dropK (L.take 0) k))) := Lib.hid (World.ownsRow_nil _ _ _ _)
  have hm0 : Hid ((dropK (L.take 0) k).length = 0) := Lib.hid rfl
  have hb0 : Hid (Below z wA wA) := Lib.hid (Below.refl _ _)
  go_wp2
  go_loopw [7, 8] (fun ov nv wr => ∃ j m : Nat, j ≤ n ∧ nv = .int .i64 (j : Int) ∧ Hid (wr.ownsRow z 139 10 ov m (flat eF (dropK (L.take j) k))) ∧ Hid ((dropK (L.take j) k).length = m) ∧ Hid (Below z wA wr)) (fun _ nv _ => n - (intOf nv).toNat)
  case atStart => exact ⟨0, 0, Nat.zero_le _, rfl, hP0, hm0, hb0⟩
  case round =>
    clear hP0 hb0 hm0
    obtain ⟨j, m, hj, rfl, hP, hm, hb⟩ := hrel
    obtain ⟨AO, cO, hov, hcO, hcOm⟩ := own_form hP.out
    subst hov
    unfold maxLen at hcOm
    have hzr : z ≤ wr.heap.size := by have := hb.out.size; have := hz.out; omega
    have hrow := hat0.out wr hb.out
    have cr : wr.cell? ⟨rb, 1, none⟩ = some (.slice A n c) := hc0.out wr hb.out
    have crl : rb < wr.heap.size := by have := hb.out.size; have := hz.out; omega
    have hdl : m ≤ 100000 := by
      have := dropK_length (L.take j) k
      rw [List.length_take, hm.out] at this
      omega
    by_cases hlt : j < n
    · have hjn : j < L.length := by rw [hn.out]; exact hlt
      obtain ⟨g, rfl, _, hgl, hat⟩ := own_flat eF_len hrow (by omega)
      have hjl := List.getElem?_eq_getElem hjn
      have c0 : wr.cell? ⟨g, j * 10, none⟩ = some _ := hat j _ hjl 0 _ rfl
      have c1 : wr.cell? ⟨g, j * 10 + 1, none⟩ = some _ := hat j _ hjl 1 _ rfl
      have c2 : wr.cell? ⟨g, j * 10 + 2, none⟩ = some _ := hat j _ hjl 2 _ rfl
      have c3 : wr.cell? ⟨g, j * 10 + 3, none⟩ = some _ := hat j _ hjl 3 _ rfl
      have c4 : wr.cell? ⟨g, j * 10 + 4, none⟩ = some _ := hat j _ hjl 4 _ rfl
      have c5 : wr.cell? ⟨g, j * 10 + 5, none⟩ = some _ := hat j _ hjl 5 _ rfl
      have c6 : wr.cell? ⟨g, j * 10 + 6, none⟩ = some _ := hat j _ hjl 6 _ rfl
      have c7 : wr.cell? ⟨g, j * 10 + 7, none⟩ = some _ := hat j _ hjl 7 _ rfl
      have c8 : wr.cell? ⟨g, j * 10 + 8, none⟩ = some _ := hat j _ hjl 8 _ rfl
      have c9 : wr.cell? ⟨g, j * 10 + 9, none⟩ = some _ := hat j _ hjl 9 _ rfl
      have hj1 : (0 : Int) ≤ (j : Int) := by omega
      have hj2 : (j : Int) < (n : Int) := by omega
      have hsn := dropK_snoc (k := k) hjn
      generalize L[j] = p at c0 c1 c2 c3 c4 c5 c6 c7 c8 c9 hsn
      obtain ⟨k1, ⟨x0, x1⟩⟩ := p
      dsimp only at c0 c1 c2 c3 c4 c5 c6 c7 c8 c9 hsn
      clear hjl hat hrow
      by_cases hk : k1 = k
      · have hs := str_eq hk
        rw [if_pos hk, List.append_nil] at hsn
        rw [← hsn] at hP hm
        clear hsn hdl hk
        have hPE := hP
        have hmE := hm
        have hbE := hb
        go_wp2
        go_roundw
        case rel => exact ⟨j + 1, _, by omega, by go_num, hPE, hmE, hbE⟩
        case measure => simp [intOf]; omega
      · have hs := str_ne hk
        rw [if_neg hk] at hsn
        obtain ⟨A2, c2, w2, hrun, hP2, hb2⟩ := row_f hP.out hm.out hdl hb.out hzr k1 x0 x1
        have hmE : Hid ((dropK (L.take (j + 1)) k).length = m + 1) := Lib.hid (by rw [hsn, List.length_append, hm.out]; rfl)
        rw [← hsn] at hP2
        replace hrun := Lib.hid hrun
        have hPE := Lib.hid hP2
        have hbE := Lib.hid hb2
        clear hdl hsn hP hb hP2 hb2 hm
        go_wp2_with (at_builtin; refine wpList_append_of rfl _ _ 73 73 rfl _ _ _ w2 rfl rfl hrun.out ?_)
        clear hrun
        go_roundw
        case rel => exact ⟨j + 1, _, by omega, by go_num, hPE, hmE, hbE⟩
        case measure => simp [intOf]; omega
    · obtain rfl : j = n := by omega
      have hj2 : ¬ (j : Int) < (j : Int) := by omega
      have hfull : L.take j = L := by rw [← hn.out]; exact List.take_length
      rw [hfull] at hP hm
      obtain ⟨A3, c3, w3, hrun, hP3, hb3⟩ := row_f hP.out hm.out hdl hb.out hzr k y0 y1
      have bNr : Blk wr zb [.int .i64 y0, .bool false, .string y1, .bool false, .slice none 0 0, .slice none 0 0, .slice none 0 0, .slice none 0 0, .slice none 0 0] 88 := (hb.out.block zb hzbz).trans bN.out
      have n0 := bNr.cell (i := 0) rfl
      have n1 := bNr.cell (i := 1) rfl
      have n2 := bNr.cell (i := 2) rfl
      have n3 := bNr.cell (i := 3) rfl
      have n4 := bNr.cell (i := 4) rfl
      have n5 := bNr.cell (i := 5) rfl
      have n6 := bNr.cell (i := 6) rfl
      have n7 := bNr.cell (i := 7) rfl
      have n8 := bNr.cell (i := 8) rfl
      have nl := bNr.lt
      have hA := hall.out w3 hb3
      have hfz := hA.blk.frozen 1
      have hcr3 := hA.blk.lt
      have cr3 : w3.cell? ⟨rb, 1, none⟩ = some (.slice A r.f.length c) := hA.blk.cell (i := 1) rfl
      have hc3 : m + 1 ≤ c3 ∧ c3 ≤ 2 ^ 63 - 1 := by
        obtain ⟨_, _, e9, q1, q2⟩ := own_form hP3
        cases e9
        exact ⟨q1, q2⟩
      have hlm : (dropK L k ++ [(k, (⟨y0, y1⟩ : Nd))]).length = m + 1 := by rw [List.length_append, hm.out]; rfl
      obtain ⟨hR, hS⟩ := hA.set (r' := { r with f := dropK L k ++ [(k, ⟨y0, y1⟩)] }) (sf' := .slice A3 (m + 1) c3) 1 (.slice A3 (m + 1) c3) rfl hA.rv (by show w3.ownsRow 0 _ 10 _ (dropK L k ++ [(k, (⟨y0, y1⟩ : Nd))]).length _; rw [hlm]; exact own_base hP3 (Nat.zero_le _)) hA.ra hA.rt hA.ga
      have hbW : Below W.heap.size W w3 := hbA.out.trans (hb3.mono (by have := hz.out; have := hbA.out.size; omega))
      have hSt : Stp (fun b => b = rb) W (w3.setCell ⟨rb, 1, none⟩ (.slice A3 (m + 1) c3)) := Stp.trans (S := fun b => b = rb) (S' := fun b => b = rb) (Stp.mono (S := fun _ => False) ⟨hbW.os, hbW.tape, hbW.output, hbW.size, fun b hb' _ => hbW.block b hb'⟩ (fun _ _ h => h.elim)) hS (fun _ _ h => h)
      have hfin := Lib.hid (And.intro hR hSt)
      replace hrun := Lib.hid hrun
      clear hA hR hS hSt hP hb hm hbW hP3 hb3 bNr hlm
      go_wp2_with (at_builtin; refine wpList_append_of rfl _ _ 73 73 rfl _ _ _ w3 rfl rfl hrun.out ?_)
      go_ret
      exact ⟨rfl, ⟨_, _, _, _, hfin.out.1⟩, hfin.out.2⟩
end
end Go.Proofs.YtigmdfdcflkggaaGreat
