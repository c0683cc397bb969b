/-
  The document's answer in memory: without, Delete, Set. Conditions: few keys, numbers within their bounds.
-/
import Derived.Test.YtcobfimafpfbpaaUdRef3
import Derived.Laws.Cover1
import Derived.Sort.Walk0
namespace Go.Proofs.Ytcobfimafpfbpaa
open Go Go.Proofs Go.RowKit Go.ChangeMaps

/-- One pair more, in a row of the call's own. -/
theorem row_more {w wr : World} {z : Nat} {v : Value} {L : Es} (hz : w.heap.size = z) (h : PairsAt wr z v L) (hL : L.length ≤ 100000) (hb : Below z w wr) (p : ByteArray × Int) :
    ∃ v' w2, (Builtin.append_ #[42, 42] 42 #[v, .slice (some ⟨wr.heap.size, 0, none⟩) 1 1]).run Try.prog (wr.alloc (.cells #[.string p.1, .int .i64 p.2] 78)) = .ok v' w2 ∧ PairsAt w2 z v' (L ++ [p]) ∧ Below z w w2 := by
  have hzr : z ≤ wr.heap.size := by have := hb.size; omega
  have hz1 : Blk (wr.alloc (.cells #[.string p.1, .int .i64 p.2] 78)) wr.heap.size (pairC p) 78 := Blk.new wr _ _
  have h1 : PairsAt (wr.alloc (.cells #[.string p.1, .int .i64 p.2] 78)) z v L := World.ownsRow.alloc h _
  have hb1 := hb.alloc hzr (.cells #[.string p.1, .int .i64 p.2] 78)
  obtain ⟨v', w2, hrun, hP, hS, _⟩ := pairs_append h1 hL (by simp; omega) p hz1
  exact ⟨v', w2, hrun, hP, ⟨hS.os.trans hb1.os, hS.tape.trans hb1.tape, hS.output.trans hb1.output, Nat.le_trans hb1.size hS.size, fun b hb' => (hS.block b (Nat.lt_of_lt_of_le hb' (by simp; omega)) fun e => by have := (own_block h1 e).1; omega).trans (hb1.block b hb')⟩⟩

section
variable {w w' : World} {B rb : Nat} {vL wv hv : Value} {r : Rg}
set_option maxRecDepth 100000 in
set_option maxHeartbeats 2000000 in
theorem without_any (h : RefAt w B rb vL wv hv r) (k : ByteArray) :
    Calls Try.prog 58 #[ptrV rb, .string k] w fun e w' => ∃ v, e = .returned v ∧ PairsAt w' w.heap.size v (dropK r.L k) ∧ Below w.heap.size w w' := by
  obtain ⟨z, hz⟩ : ∃ z, w.heap.size = z := ⟨_, rfl⟩
  rw [hz]
  obtain ⟨A, cc, rfl, hcc, hccm⟩ := own_form h.pl
  have c2 : w.cell? ⟨rb, 2, none⟩ = some (.slice A r.L.length cc) := h.blk.cell (i := 2) rfl
  have hlt := h.blk.lt
  have hll := h.ll
  have hrbz : rb < z := by omega
  have hat : ∀ (W : World), Below z w W → PairsAt W B (.slice A r.L.length cc) r.L := fun W hW => own_keep h.pl fun g cur _ hg => hW.block g (by rw [← hz]; exact (Array.getElem?_eq_some_iff.1 hg).1)
  have hc2 : ∀ (W : World), Below z w W → W.cell? ⟨rb, 2, none⟩ = some (.slice A r.L.length cc) := fun W hW => (hW.cell hrbz).trans c2
  clear h c2
  generalize r.L = L at hcc hat hll hc2 ⊢
  obtain ⟨K, hK⟩ : ∃ K, L.length = K := ⟨_, rfl⟩
  rw [hK] at hc2 hcc hll hat
  unfold maxLen at hccm
  unfold ptrV
  replace hat := Lib.hid hat
  replace hc2 := Lib.hid hc2
  replace hK := Lib.hid hK
  have hP0 : PairsAt w z (.slice none 0 0) (dropK (L.take 0) k) := World.ownsRow_nil _ _ _ _
  have hb0 : Below z w w := Below.refl _ _
  replace hP0 := Lib.hid hP0
  replace hb0 := Lib.hid hb0
  replace hz := Lib.hid hz
  go_enter Try.func58, Try.ntmps58
  go_wp2
  go_loopw [5, 6] (fun ov nv wr => ∃ i : Nat, i ≤ K ∧ nv = .int .i64 (i : Int) ∧ Hid (PairsAt wr z ov (dropK (L.take i) k)) ∧ Hid (Below z w wr)) (fun _ nv _ => K - (intOf nv).toNat)
  case atStart => exact ⟨0, Nat.zero_le _, rfl, hP0, hb0⟩
  case round =>
    clear hP0 hb0
    obtain ⟨i, hi, rfl, hP, hb⟩ := hrel
    obtain ⟨AO, cO, hov, hcO, hcOm⟩ := own_form hP.out
    have hrl : rb < wr.heap.size := by have := hb.out.size; omega
    have c2 := hc2.out wr hb.out
    have hdl : (dropK (L.take i) k).length ≤ 100000 := by
      have := dropK_length (L.take i) k
      rw [List.length_take] at this
      omega
    by_cases hlt2 : i < K
    · have hlt' : i < L.length := by rw [hK.out]; exact hlt2
      obtain ⟨hdr, g, rfl, hg, h0, h1⟩ := (hat.out wr hb.out).at_ i hlt'
      clear hdr
      have htk : L.take (i + 1) = L.take i ++ [L[i]] := List.take_succ_eq_append_getElem hlt'
      have hdk : dropK (L.take (i + 1)) k = dropK (L.take i) k ++ (if L[i].1 = k then [] else [L[i]]) := by
        rw [htk]
        unfold dropK
        rw [List.filter_append]
        congr 1
        by_cases e : L[i].1 = k
        · rw [if_pos e, List.filter_cons_of_neg (by simpa using e)]; rfl
        · rw [if_neg e, List.filter_cons_of_pos (by simpa using e)]; rfl
      have hmo := row_more hz.out hP.out hdl hb.out L[i]
      clear htk
      generalize L[i] = p at h0 h1 hdk hmo
      obtain ⟨k1, v1⟩ := p
      simp only at h0 h1 hdk hmo
      by_cases hk : k1 = k
      · have hs := str_eq hk
        rw [if_pos hk, List.append_nil] at hdk
        rw [← hdk] at hP
        subst hov
        clear hk hmo hdk hdl
        go_wp2
        go_roundw
        case rel => exact ⟨i + 1, by omega, by go_num, hP, hb⟩
        case measure => simp [intOf]; omega
      · have hs := str_ne hk
        rw [if_neg hk] at hdk
        obtain ⟨v', w2, hrun, hP2, hb2⟩ := hmo
        rw [← hdk] at hP2
        obtain ⟨A2, c2', rfl, hc2', hc2m⟩ := own_form hP2
        subst hov
        unfold maxLen at hcOm hc2m
        replace hrun := Lib.hid hrun
        replace hP2 := Lib.hid hP2
        replace hb2 := Lib.hid hb2
        replace hP := Lib.hid hP
        clear hk hdk hdl
        go_wp2_with (at_builtin; refine wpList_append_of rfl _ _ 42 42 rfl _ _ _ w2 rfl rfl hrun.out ?_)
        go_roundw
        case rel => exact ⟨i + 1, by omega, by go_num, hP2, hb2⟩
        case measure => simp [intOf]; omega
    · obtain rfl : i = K := by omega
      have hfull : L.take i = L := by rw [← hK.out]; exact List.take_length
      rw [hfull] at hP
      subst hov
      unfold maxLen at hcOm
      go_wp2
      go_ret
      exact ⟨_, rfl, hP.out, hb.out⟩
def Rg.del (r : Rg) (k : ByteArray) : Int × Rg := if look r.L k = none then (0, r) else if r.full then (43, r) else (0, { r.noted with L := dropK r.L k })
def Rg.put (r : Rg) (k : ByteArray) (v : Int) : Int × Rg := if r.full then (43, r) else (0, { r.noted with L := insL k v (dropK r.L k) })
/-- What there is has another row. -/
theorem RefAt.newL (h : RefAt w B rb vL wv hv r) {v : Value} {L : Es} (hP : PairsAt w B v L) (hl : L.length ≤ 100000) : RefAt (w.setCell ⟨rb, 2, none⟩ v) B rb v wv hv { r with L := L } ∧ FrR B hv w (w.setCell ⟨rb, 2, none⟩ v) := by
  have hS : Stp (fun b => b = rb) w (w.setCell ⟨rb, 2, none⟩ v) := Stp.set (S := fun b => b = rb) rfl 2 _
  exact ⟨{ h with
    blk := h.blk.set 2 v
    pl := h.inRb hS (by decide) hP
    wrow := h.inRb hS (by decide) h.wrow
    each := fun y hy => h.inRb hS (by decide) (h.each y hy)
    hrow := h.inRb hS (by decide) h.hrow
    ll := hl }, Fr.of_stp hS fun b _ hb => by subst hb; exact ⟨h.hB, .inr ⟨_, _, _, h.blk, .inl rfl⟩⟩⟩
set_option maxRecDepth 100000 in
set_option maxHeartbeats 2000000 in
theorem rDelete_any (h : RefAt w B rb vL wv hv r) (k : ByteArray) :
    Calls Try.prog 39 #[ptrV rb, .string k] w fun e w' => e = .returned (.int .i64 (r.del k).1) ∧ ∃ vL', RefAt w' B rb vL' wv hv (r.del k).2 ∧ FrR B hv w w' := by
  have hg := rGet_any h k
  have hn := rnote_any h
  cases hx : look r.L k with
  | none =>
    rw [show r.del k = (0, r) from if_pos hx]
    rw [hx] at hg
    simp only [Option.getD_none, Option.isSome_none] at hg
    replace h := Lib.hid h
    unfold ptrV at hg ⊢
    clear hn hx
    go_enter Try.func39, Try.ntmps39
    go_wp2_with fail
    refine hg.mono ?_
    rintro e w' ⟨rfl, hw⟩
    obtain rfl := hw.symm
    go_wp2
    go_ret
    exact ⟨rfl, vL, h.out, Fr.refl _ _ _ _⟩
  | some x =>
    have hx2 : ¬ look r.L k = none := by rw [hx]; simp
    rw [hx] at hg
    simp only [Option.getD_some, Option.isSome_some] at hg
    by_cases hf : r.full
    · rw [show r.del k = (43, r) by unfold Rg.del; rw [if_neg hx2, if_pos hf]]
      rw [if_pos hf, if_pos hf] at hn
      unfold ptrV at hg hn ⊢
      clear hx hx2 hf h
      go_enter Try.func39, Try.ntmps39
      go_wp2_with fail
      refine hg.mono ?_
      rintro e w' ⟨rfl, hw⟩
      obtain rfl := hw.symm
      go_wp2_with fail
      refine hn.mono ?_
      rintro e w2 ⟨rfl, hR, hF⟩
      replace hR := Lib.hid hR
      replace hF := Lib.hid hF
      go_wp2
      go_ret
      exact ⟨rfl, vL, hR.out, hF.out⟩
    · rw [show r.del k = (0, { r.noted with L := dropK r.L k }) by unfold Rg.del; rw [if_neg hx2, if_neg hf]]
      rw [if_neg hf, if_neg hf] at hn
      have hln := dropK_length r.L k
      have hll := h.ll
      have hnl : r.noted.L = r.L := rfl
      generalize r.noted = q at hn hnl ⊢
      unfold ptrV at hg hn ⊢
      clear hx hx2 hf h
      go_enter Try.func39, Try.ntmps39
      go_wp2_with fail
      refine hg.mono ?_
      rintro e w' ⟨rfl, hw⟩
      obtain rfl := hw.symm
      go_wp2_with fail
      refine hn.mono ?_
      rintro e w2 ⟨rfl, hR, hF⟩
      have hwo := without_any hR k
      rw [hnl] at hwo
      unfold ptrV at hwo
      replace hR := Lib.hid hR
      replace hF := Lib.hid hF
      clear hg hn
      go_wp2_with fail
      refine hwo.mono ?_
      rintro e w3 ⟨v, rfl, hP, hb⟩
      have hR3 := hR.out.below hb
      obtain ⟨hR4, hF4⟩ := hR3.newL (own_base hP hR.out.lt) (by omega)
      have hF5 := (hF.out.trans (Fr.of_below hb)).trans hF4
      obtain ⟨AV, cV, rfl, _, _⟩ := own_form hP
      have c2 : w3.cell? ⟨rb, 2, none⟩ = some vL := hR3.blk.cell (i := 2) rfl
      have f2 := hR3.blk.frozen 2
      have hlt := hR3.blk.lt
      replace hR4 := Lib.hid hR4
      replace hF5 := Lib.hid hF5
      clear hwo hP hb hR3 hF4 hR hF hnl
      go_wp2
      go_ret
      exact ⟨rfl, _, hR4.out, hF5.out⟩

def gtK (k : ByteArray) (p : ByteArray × Int) : Prop := bytesOf p.1 > bytesOf k
theorem insL_none {k : ByteArray} {v : Int} {l : Es} (h : ∀ p ∈ l, ¬ gtK k p) : insL k v l = l ++ [(k, v)] := by
  induction l with
  | nil => rfl
  | cons q l ih =>
    unfold insL
    rw [if_neg (show ¬ bytesOf q.1 > bytesOf k from h q (List.mem_cons_self ..)), ih fun p hp => h p (List.mem_cons_of_mem _ hp)]; rfl
theorem insL_first {k : ByteArray} {v : Int} {l : Es} {p : ByteArray × Int} (h : ∀ q ∈ l, ¬ gtK k q) (hp : gtK k p) : insL k v (l ++ [p]) = l ++ [(k, v)] ++ [p] := by
  induction l with
  | nil =>
    show insL k v [p] = _
    unfold insL
    rw [if_pos (show bytesOf p.1 > bytesOf k from hp)]; rfl
  | cons q l ih =>
    show insL k v (q :: (l ++ [p])) = _
    unfold insL
    rw [if_neg (show ¬ bytesOf q.1 > bytesOf k from h q (List.mem_cons_self ..)), ih fun p hp => h p (List.mem_cons_of_mem _ hp)]; rfl
theorem insL_later {k : ByteArray} {v : Int} {l : Es} {p : ByteArray × Int} (h : ∃ q ∈ l, gtK k q) : insL k v (l ++ [p]) = insL k v l ++ [p] := by
  induction l with
  | nil => obtain ⟨_, h, _⟩ := h; cases h
  | cons q l ih =>
    show insL k v (q :: (l ++ [p])) = insL k v (q :: l) ++ [p]
    unfold insL
    by_cases hq : bytesOf q.1 > bytesOf k
    · rw [if_pos hq, if_pos hq]; rfl
    · rw [if_neg hq, if_neg hq, ih]
      · rfl
      · obtain ⟨x, hx, hg⟩ := h
        rcases List.mem_cons.1 hx with rfl | hx
        · exact absurd hg hq
        · exact ⟨x, hx, hg⟩
theorem less_eq (a b : ByteArray) : Op.bytesLess a.toList b.toList = decide (bytesOf a < bytesOf b) := by
  rw [ByteArray.toList_eq, ByteArray.toList_eq]
  exact bytesLess_eq _ _
set_option maxRecDepth 100000 in
set_option maxHeartbeats 4000000 in
theorem rSet_any (h : RefAt w B rb vL wv hv r) (k : ByteArray) (v : Int) (hlen : r.L.length ≤ 99999) :
    Calls Try.prog 41 #[ptrV rb, .string k, .int .i64 v] w fun e w' => e = .returned (.int .i64 (r.put k v).1) ∧ ∃ vL', RefAt w' B rb vL' wv hv (r.put k v).2 ∧ FrR B hv w w' := by
  have hn := rnote_any h
  by_cases hf : r.full
  · rw [show r.put k v = (43, r) from if_pos hf]
    rw [if_pos hf, if_pos hf] at hn
    unfold ptrV at hn ⊢
    clear hf h
    go_enter Try.func41, Try.ntmps41
    go_wp2_with fail
    refine hn.mono ?_
    rintro e w2 ⟨rfl, hR, hF⟩
    replace hR := Lib.hid hR
    replace hF := Lib.hid hF
    go_wp2
    go_ret
    exact ⟨rfl, vL, hR.out, hF.out⟩
  · rw [show r.put k v = (0, { r.noted with L := insL k v (dropK r.L k) }) from if_neg hf]
    rw [if_neg hf, if_neg hf] at hn
    have hln := dropK_length r.L k
    have hnl : r.noted.L = r.L := rfl
    have hne : ∀ p ∈ dropK r.L k, p.1 ≠ k := dropK_none
    generalize r.noted = q at hn hnl ⊢
    obtain ⟨M, hM⟩ : ∃ M, dropK r.L k = M := ⟨_, rfl⟩
    rw [hM] at hln hne ⊢
    unfold ptrV at hn ⊢
    clear hf h
    go_enter Try.func41, Try.ntmps41
    go_wp2_with fail
    refine hn.mono ?_
    rintro e w2 ⟨rfl, hR, hF⟩
    have hwo := without_any hR k
    rw [hnl, hM] at hwo
    unfold ptrV at hwo
    replace hR := Lib.hid hR
    replace hF := Lib.hid hF
    clear hn hM hnl
    go_wp2_with fail
    refine hwo.mono ?_
    rintro e w3 ⟨vM, rfl, hPM, hb3⟩
    have hR3 := hR.out.below hb3
    have hF3 := hF.out.trans (Fr.of_below hb3)
    obtain ⟨z, hz⟩ : ∃ z, w3.heap.size = z := ⟨_, rfl⟩
    have hatM : ∀ (W : World), Below z w3 W → PairsAt W w2.heap.size vM M := fun W hW => own_keep hPM fun g cur _ hg => hW.block g (by rw [← hz]; exact (Array.getElem?_eq_some_iff.1 hg).1)
    obtain ⟨AM, cM, rfl, hcM, hcMm⟩ := own_form hPM
    obtain ⟨K, hK⟩ : ∃ K, M.length = K := ⟨_, rfl⟩
    rw [hK] at hcM hln ⊢
    have hP0 : PairsAt w3 z (.slice none 0 0) (M.take 0) := World.ownsRow_nil _ _ _ _
    have hno0 : ∀ p ∈ M.take 0, ¬ gtK k p := fun p hp => by cases hp
    have hb0 : Below z w3 w3 := Below.refl _ _
    unfold maxLen at hcMm
    replace hatM := Lib.hid hatM
    replace hK := Lib.hid hK
    replace hP0 := Lib.hid hP0
    replace hno0 := Lib.hid hno0
    replace hb0 := Lib.hid hb0
    replace hz := Lib.hid hz
    replace hR3 := Lib.hid hR3
    replace hF3 := Lib.hid hF3
    replace hne := Lib.hid hne
    clear hwo hPM hb3 hR hF
    go_wp2
    go_loopw [9, 10, 11] (fun ov dv nv wr => ∃ i : Nat, i ≤ K ∧ nv = .int .i64 (i : Int) ∧ (dv = .bool false ∧ Hid (∀ p ∈ M.take i, ¬ gtK k p) ∧ Hid (PairsAt wr z ov (M.take i)) ∨ dv = .bool true ∧ Hid (∃ p ∈ M.take i, gtK k p) ∧ Hid (PairsAt wr z ov (insL k v (M.take i)))) ∧ Hid (Below z w3 wr)) (fun _ _ nv _ => K - (intOf nv).toNat)
    case atStart => exact ⟨0, Nat.zero_le _, rfl, .inl ⟨rfl, hno0, hP0⟩, hb0⟩
    case round =>
      clear hno0 hP0 hb0
      obtain ⟨i, hi, rfl, hcase, hb⟩ := hrel
      by_cases hlt2 : i < K
      · have hlt' : i < M.length := by rw [hK.out]; exact hlt2
        have hPM := hatM.out wr hb.out
        rw [hK.out] at hPM
        obtain ⟨hdr, g, rfl, hg, h0, h1⟩ := hPM.at_ i hlt'
        clear hdr hPM
        have htk : M.take (i + 1) = M.take i ++ [M[i]] := List.take_succ_eq_append_getElem hlt'
        have hnei := hne.out M[i] (List.getElem_mem hlt')
        have hmi : M[i] ∈ M.take (i + 1) := by rw [htk]; exact List.mem_append_right _ (List.mem_singleton.2 rfl)
        have htl : (M.take i).length ≤ 99999 := by rw [List.length_take]; omega
        obtain ⟨p, hpe⟩ : ∃ p, M[i] = p := ⟨_, rfl⟩
        rw [hpe] at h0 h1 htk hnei hmi
        replace hpe := Lib.hid hpe
        have hse := str_ne hnei
        have hle := less_eq p.1 k
        rcases hcase with ⟨rfl, hno, hP⟩ | ⟨rfl, hex, hP⟩
        · by_cases hgt : gtK k p
          · have hl2 : Op.bytesLess p.1.toList k.toList = false := by rw [hle, decide_eq_false_iff_not]; exact blt_asymm hgt
            obtain ⟨v1, u1, hrun1, hP1, hb1⟩ := row_more hz.out hP.out (by omega) hb.out (k, v)
            obtain ⟨v2, u2, hrun2, hP2, hb2⟩ := row_more hz.out hP1 (by rw [List.length_append]; simp; omega) hb1 p
            rw [← insL_first hno.out hgt, ← htk] at hP2
            have hex2 : ∃ p ∈ M.take (i + 1), gtK k p := ⟨p, hmi, hgt⟩
            obtain ⟨AO, cO, hov, hcO, hcOm⟩ := own_form hP.out
            obtain ⟨A1, c1, rfl, hc1, hc1m⟩ := own_form hP1
            obtain ⟨A2, c2, rfl, hc2, hc2m⟩ := own_form hP2
            have hPMu := hatM.out u1 hb1
            rw [hK.out] at hPMu
            obtain ⟨hdr, g', eg, hgu, h0u, h1u⟩ := hPMu.at_ i hlt'
            cases eg
            clear hdr hPMu
            rw [hpe.out] at h0u h1u
            have eX0 : (M.take i).length = i := by rw [List.length_take]; omega
            have eX1 : (M.take i ++ [(k, v)]).length = i + 1 := by rw [List.length_append, eX0]; rfl
            have eX2 : (insL k v (M.take (i + 1))).length = i + 2 := by rw [insL_length, List.length_take]; omega
            rw [eX0] at hov hcO
            subst hov
            rw [eX1] at hrun1 hrun2 hc1
            rw [eX2] at hrun2 hP2 hc2
            clear eX0 eX1 eX2
            obtain ⟨k1, x1⟩ := p
            simp only at h0 h1 hl2 hse hrun2 h0u h1u
            unfold maxLen at hcOm hc1m hc2m
            replace hrun1 := Lib.hid hrun1
            replace hrun2 := Lib.hid hrun2
            replace hP2 := Lib.hid hP2
            replace hb2 := Lib.hid hb2
            replace hex2 := Lib.hid hex2
            clear hle hgt htk hmi hnei hno hP hP1 hb1
            go_wp2_with (first | (at_builtin; refine wpList_append_of rfl _ _ 42 42 rfl _ _ _ u1 rfl rfl hrun1.out ?_) | (at_builtin; refine wpList_append_of rfl _ _ 42 42 rfl _ _ _ u2 rfl rfl hrun2.out ?_))
            go_roundw
            case rel => exact ⟨i + 1, by omega, by go_num, .inr ⟨rfl, hex2, hP2⟩, hb2⟩
            case measure => simp [intOf]; omega
          · have hl2 : Op.bytesLess p.1.toList k.toList = true := by
              rw [hle, decide_eq_true_iff]
              exact Classical.byContradiction fun hn => hnei (bytesOf_inj (List.le_antisymm (List.not_lt.1 hgt) (List.not_lt.1 hn)))
            obtain ⟨v2, u2, hrun2, hP2, hb2⟩ := row_more hz.out hP.out (by omega) hb.out p
            rw [← htk] at hP2
            have hno2 : ∀ q ∈ M.take (i + 1), ¬ gtK k q := fun q hq => by
              rw [htk] at hq
              rcases List.mem_append.1 hq with hq | hq
              · exact hno.out q hq
              · rw [List.mem_singleton.1 hq]; exact hgt
            obtain ⟨AO, cO, hov, hcO, hcOm⟩ := own_form hP.out
            obtain ⟨A2, c2, rfl, hc2, hc2m⟩ := own_form hP2
            have eX0 : (M.take i).length = i := by rw [List.length_take]; omega
            have eX2 : (M.take (i + 1)).length = i + 1 := by rw [List.length_take]; omega
            rw [eX0] at hov hcO
            subst hov
            rw [eX2] at hrun2 hP2 hc2
            clear eX0 eX2
            obtain ⟨k1, x1⟩ := p
            simp only at h0 h1 hl2 hse hrun2
            unfold maxLen at hcOm hc2m
            replace hrun2 := Lib.hid hrun2
            replace hP2 := Lib.hid hP2
            replace hb2 := Lib.hid hb2
            replace hno2 := Lib.hid hno2
            clear hle hgt htk hmi hnei hno hP
            go_wp2_with (at_builtin; refine wpList_append_of rfl _ _ 42 42 rfl _ _ _ u2 rfl rfl hrun2.out ?_)
            go_roundw
            case rel => exact ⟨i + 1, by omega, by go_num, .inl ⟨rfl, hno2, hP2⟩, hb2⟩
            case measure => simp [intOf]; omega
        · obtain ⟨v2, u2, hrun2, hP2, hb2⟩ := row_more hz.out hP.out (by rw [insL_length]; omega) hb.out p
          rw [← insL_later hex.out, ← htk] at hP2
          have hex2 : ∃ p ∈ M.take (i + 1), gtK k p := by
            obtain ⟨q, hq, hg⟩ := hex.out
            exact ⟨q, by rw [htk]; exact List.mem_append_left _ hq, hg⟩
          obtain ⟨AO, cO, hov, hcO, hcOm⟩ := own_form hP.out
          obtain ⟨A2, c2, rfl, hc2, hc2m⟩ := own_form hP2
          have eX0 : (insL k v (M.take i)).length = i + 1 := by rw [insL_length, List.length_take]; omega
          have eX2 : (insL k v (M.take (i + 1))).length = i + 2 := by rw [insL_length, List.length_take]; omega
          rw [eX0] at hov hcO
          subst hov
          rw [eX2] at hrun2 hP2 hc2
          clear eX0 eX2
          obtain ⟨k1, x1⟩ := p
          simp only at h0 h1 hrun2
          unfold maxLen at hcOm hc2m
          replace hrun2 := Lib.hid hrun2
          replace hP2 := Lib.hid hP2
          replace hb2 := Lib.hid hb2
          replace hex2 := Lib.hid hex2
          clear hle hse htk hmi hnei hex hP
          go_wp2_with (at_builtin; refine wpList_append_of rfl _ _ 42 42 rfl _ _ _ u2 rfl rfl hrun2.out ?_)
          go_roundw
          case rel => exact ⟨i + 1, by omega, by go_num, .inr ⟨rfl, hex2, hP2⟩, hb2⟩
          case measure => simp [intOf]; omega
      · obtain rfl : i = K := by omega
        have hfull : M.take i = M := by rw [← hK.out]; exact List.take_length
        rw [hfull] at hcase
        have hbz := hb.out
        have hR4 := hR3.out.below (by rw [hz.out]; exact hbz)
        have hF4 := hF3.out.trans (Fr.of_below (B := B) (T := RT) (M := fun b => hv.ownBlock = some b) (by rw [hz.out]; exact hbz))
        rcases hcase with ⟨rfl, hno, hP⟩ | ⟨rfl, hex, hP⟩
        · obtain ⟨v1, u1, hrun1, hP1, hb1⟩ := row_more hz.out hP.out (by rw [hK.out]; omega) hbz (k, v)
          rw [← insL_none hno.out] at hP1
          have hb1' : Below w3.heap.size w3 u1 := by rw [hz.out]; exact hb1
          have hR5 := hR3.out.below hb1'
          have hF5 := hF3.out.trans (Fr.of_below (B := B) (T := RT) (M := fun b => hv.ownBlock = some b) hb1')
          obtain ⟨hR6, hF6⟩ := hR5.newL (own_base hP1 (by have := hR3.out.lt; have := hz.out; omega)) (by rw [insL_length, hK.out]; omega)
          have hF7 := hF5.trans hF6
          obtain ⟨AO, cO, hov, hcO, hcOm⟩ := own_form hP.out
          obtain ⟨A1, c1, rfl, hc1, hc1m⟩ := own_form hP1
          have eX1 : (insL k v M).length = i + 1 := by rw [insL_length, hK.out]
          rw [hK.out] at hov hcO
          subst hov
          rw [eX1] at hrun1 hR6 hF7 hc1
          clear eX1
          have c2 : u1.cell? ⟨rb, 2, none⟩ = some vL := hR5.blk.cell (i := 2) rfl
          have f2 := hR5.blk.frozen 2
          have hlt := hR5.blk.lt
          unfold maxLen at hcOm hc1m
          replace hrun1 := Lib.hid hrun1
          replace hR6 := Lib.hid hR6
          replace hF7 := Lib.hid hF7
          clear hno hP hP1 hb1 hb1' hR5 hF5 hF6 hR4 hF4 hbz hb hfull
          go_wp2_with (at_builtin; refine wpList_append_of rfl _ _ 42 42 rfl _ _ _ u1 rfl rfl hrun1.out ?_)
          go_ret
          refine ⟨rfl, ?_⟩
          first
            | exact ⟨_, hR6.out, hF7.out⟩
            | exact ⟨⟨_, hR6.out⟩, hF7.out⟩
        · obtain ⟨hR6, hF6⟩ := hR4.newL (own_base hP.out (by have := hR3.out.lt; have := hz.out; omega)) (by rw [insL_length, hK.out]; omega)
          have hF7 := hF4.trans hF6
          obtain ⟨AO, cO, hov, hcO, hcOm⟩ := own_form hP.out
          have eX1 : (insL k v M).length = i + 1 := by rw [insL_length, hK.out]
          rw [eX1] at hov hcO
          subst hov
          clear eX1
          have c2 : wr.cell? ⟨rb, 2, none⟩ = some vL := hR4.blk.cell (i := 2) rfl
          have f2 := hR4.blk.frozen 2
          have hlt := hR4.blk.lt
          unfold maxLen at hcOm
          replace hR6 := Lib.hid hR6
          replace hF7 := Lib.hid hF7
          clear hex hP hR4 hF4 hF6 hbz hb hfull
          go_wp2
          go_ret
          refine ⟨rfl, ?_⟩
          first
            | exact ⟨_, hR6.out, hF7.out⟩
            | exact ⟨⟨_, hR6.out⟩, hF7.out⟩
end
end Go.Proofs.Ytcobfimafpfbpaa
