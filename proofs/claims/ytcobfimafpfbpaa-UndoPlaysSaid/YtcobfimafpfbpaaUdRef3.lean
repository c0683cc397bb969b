/-
  The document's answer in memory: Undo, SetCell, Get. Conditions: few marks, numbers within their bounds.
-/
import Derived.Test.YtcobfimafpfbpaaUdRef2
namespace Go.Proofs.Ytcobfimafpfbpaa
open Go Go.Proofs Go.RowKit Go.ChangeMaps

theorem own_head {w : World} {base : Nat} {e : TypeId} {size n c : Nat} {A : Option Addr} {xs : List Value} (h : w.ownsRow base e size (.slice A n c) n xs) (k : Nat) (hk : k ≤ n) : w.ownsRow base e size (.slice A k c) k (xs.take (k * size)) := by
  have hm : k * size ≤ n * size := Nat.mul_le_mul_right _ hk
  refine ⟨by rw [List.length_take, h.1]; omega, ?_⟩
  rcases h.2 with ⟨h1, h2⟩ | ⟨g, cap, cur, h1, hb, hg, h3, h4, h5, h6⟩
  · cases h1
    exact .inl ⟨by rw [show k = 0 by omega], by omega⟩
  · cases h1
    exact .inr ⟨g, c, cur, rfl, hb, hg, by omega, h4, h5, by rw [← h6, List.take_take, Nat.min_eq_left hm]⟩
section
variable {w w' : World} {B rb : Nat} {vL wv hv : Value} {r : Rg}
/-- What changes the block of the document's answer alone keeps its rows. -/
theorem RefAt.inRb (h : RefAt w B rb vL wv hv r) (hS : Stp (fun b => b = rb) w w') {e : TypeId} (he : e ≠ 48) {base size n : Nat} {v : Value} {xs : List Value} (ho : w.ownsRow base e size v n xs) : w'.ownsRow base e size v n xs :=
  own_keep ho fun g cur hg hb => hS.block g (Array.getElem?_eq_some_iff.1 hb).1 (fun e1 => by
    subst e1
    obtain ⟨_, cur', hb'⟩ := own_block ho hg
    exact hb'.ne h.blk he rfl)
set_option maxRecDepth 100000 in
theorem rUndo_none (h : RefAt w B rb vL wv hv r) (hw : r.was = []) :
    Calls Try.prog 38 #[ptrV rb] w fun e w' => e = .returned (.int .i64 1) ∧ w' = w := by
  obtain ⟨A, cc, rfl, hcc, hccm⟩ := own_form h.wrow
  have c4 : w.cell? ⟨rb, 4, none⟩ = some (.slice A r.was.length cc) := h.blk.cell (i := 4) rfl
  have hlt := h.blk.lt
  rw [hw] at c4 hcc
  simp only [List.length_nil] at c4 hcc
  unfold maxLen at hccm
  unfold ptrV
  clear h hw
  go_enter Try.func38, Try.ntmps38
  go_wp2
  go_ret
  exact ⟨rfl, rfl⟩
set_option maxRecDepth 100000 in
set_option maxHeartbeats 2000000 in
theorem rUndo_last {ws : List Ws} {x : Ws} {hs : List Nat} {m : Nat} (h : RefAt w B rb vL wv hv r) (hw : r.was = ws ++ [x]) (hh : r.had = hs ++ [m]) :
    Calls Try.prog 38 #[ptrV rb] w fun e w' => e = .returned (.int .i64 0) ∧ ∃ wv' hv', RefAt w' B rb x.1 wv' hv' { r with L := x.2.1, s := x.2.2, n := m, was := ws, had := hs } ∧ FrR B hv w w' ∧ hv'.ownBlock = hv.ownBlock := by
  have hKw : r.was.length = ws.length + 1 := by rw [hw]; simp
  have hKh : r.had.length = hs.length + 1 := by rw [hh]; simp
  have hwr := h.wrow
  have hhr := h.hrow
  rw [hKw, hw, cellsS_append] at hwr
  rw [hKh, hh, List.map_append] at hhr
  obtain ⟨K, hK⟩ : ∃ K, ws.length = K := ⟨_, rfl⟩
  obtain ⟨KH, hKH⟩ : ∃ K, hs.length = K := ⟨_, rfl⟩
  rw [hK] at hwr hKw
  rw [hKH] at hhr hKh
  have hkk : KH = K := by have := h.hl; omega
  subst hkk
  obtain ⟨A, cc, rfl, hcc, hccm⟩ := own_form hwr
  obtain ⟨AH, cH, rfl, hcH, hcHm⟩ := own_form hhr
  obtain ⟨g, rfl, _, hgl, hgc⟩ := own_at hwr (Nat.succ_pos _)
  obtain ⟨gH, rfl, _, hgHl, hgHc⟩ := own_at hhr (Nat.succ_pos _)
  have hcl : (cellsS ws).length = KH * 2 := by rw [cellsS_length, hK]
  have e0 : w.cell? ⟨g, KH * 2, none⟩ = some x.1 := hgc _ _ (by rw [← hcl, List.getElem?_append_right (Nat.le_refl _), Nat.sub_self]; rfl)
  have e1 : w.cell? ⟨g, KH * 2 + 1, none⟩ = some (.string x.2.2) := hgc _ _ (by rw [List.getElem?_append_right (by omega), hcl, show KH * 2 + 1 - KH * 2 = 1 by omega]; rfl)
  have e2 : w.cell? ⟨gH, KH, none⟩ = some (.int .i64 (m : Int)) := hgHc _ _ (by rw [List.getElem?_append_right (by rw [List.length_map, hKH]; exact Nat.le_refl _), List.length_map, hKH, Nat.sub_self]; rfl)
  have hgr : g ≠ rb := by
    obtain ⟨_, cur, hb⟩ := own_block hwr (g := g) rfl
    exact hb.ne h.blk (by decide)
  have hgHr : gH ≠ rb := by
    obtain ⟨_, cur, hb⟩ := own_block hhr (g := gH) rfl
    exact hb.ne h.blk (by decide)
  have hxm : x ∈ r.was := by rw [hw]; simp
  have hmm : m ∈ r.had := by rw [hh]; simp
  have hpx := h.each x hxm
  obtain ⟨AX, cX, hvX, hcX, hcXm⟩ := own_form hpx
  rw [hvX] at e0
  have c4 : w.cell? ⟨rb, 4, none⟩ = some (.slice (some ⟨g, 0, none⟩) (KH + 1) cc) := h.blk.cell (i := 4) rfl
  have c6 : w.cell? ⟨rb, 6, none⟩ = some (.slice (some ⟨gH, 0, none⟩) (KH + 1) cH) := h.blk.cell (i := 6) rfl
  have c2 : w.cell? ⟨rb, 2, none⟩ = some vL := h.blk.cell (i := 2) rfl
  have c3 : w.cell? ⟨rb, 3, none⟩ = some (.string r.s) := h.blk.cell (i := 3) rfl
  have c5 : w.cell? ⟨rb, 5, none⟩ = some (.int .i64 (r.n : Int)) := h.blk.cell (i := 5) rfl
  have f2 := h.blk.frozen 2
  have f3 := h.blk.frozen 3
  have f4 := h.blk.frozen 4
  have f5 := h.blk.frozen 5
  have f6 := h.blk.frozen 6
  have hlt := h.blk.lt
  have hk1024 : KH < 1024 := by have := h.nest1; omega
  have hb6 := ((((h.blk.set 2 (.slice AX x.2.1.length cX)).set 3 (.string x.2.2)).set 5 (.int .i64 (m : Int))).set 4 (.slice (some ⟨g, 0, none⟩) KH cc)).set 6 (.slice (some ⟨gH, 0, none⟩) KH cH)
  have hS : Stp (fun b => b = rb) w (((((w.setCell ⟨rb, 2, none⟩ (.slice AX x.2.1.length cX)).setCell ⟨rb, 3, none⟩ (.string x.2.2)).setCell ⟨rb, 5, none⟩ (.int .i64 (m : Int))).setCell ⟨rb, 4, none⟩ (.slice (some ⟨g, 0, none⟩) KH cc)).setCell ⟨rb, 6, none⟩ (.slice (some ⟨gH, 0, none⟩) KH cH)) :=
    ((((Stp.set (S := fun b => b = rb) rfl 2 _).trans (Stp.set (S := fun b => b = rb) rfl 3 _) (fun _ _ h => h)).trans (Stp.set (S := fun b => b = rb) rfl 5 _) (fun _ _ h => h)).trans (Stp.set (S := fun b => b = rb) rfl 4 _) (fun _ _ h => h)).trans (Stp.set (S := fun b => b = rb) rfl 6 _) (fun _ _ h => h)
  have hfin : Hid (∃ wv' hv', RefAt (((((w.setCell ⟨rb, 2, none⟩ (.slice AX x.2.1.length cX)).setCell ⟨rb, 3, none⟩ (.string x.2.2)).setCell ⟨rb, 5, none⟩ (.int .i64 (m : Int))).setCell ⟨rb, 4, none⟩ (.slice (some ⟨g, 0, none⟩) KH cc)).setCell ⟨rb, 6, none⟩ (.slice (some ⟨gH, 0, none⟩) KH cH)) B rb x.1 wv' hv' { r with L := x.2.1, s := x.2.2, n := m, was := ws, had := hs } ∧
      FrR B (.slice (some ⟨gH, 0, none⟩) (KH + 1) cH) w (((((w.setCell ⟨rb, 2, none⟩ (.slice AX x.2.1.length cX)).setCell ⟨rb, 3, none⟩ (.string x.2.2)).setCell ⟨rb, 5, none⟩ (.int .i64 (m : Int))).setCell ⟨rb, 4, none⟩ (.slice (some ⟨g, 0, none⟩) KH cc)).setCell ⟨rb, 6, none⟩ (.slice (some ⟨gH, 0, none⟩) KH cH)) ∧ hv'.ownBlock = (Value.slice (some ⟨gH, 0, none⟩) (KH + 1) cH).ownBlock) := by
    refine ⟨.slice (some ⟨g, 0, none⟩) KH cc, .slice (some ⟨gH, 0, none⟩) KH cH, ⟨h.hB, ?_, h.inRb hS (by decide) hpx, ?_, fun y hy => h.inRb hS (by decide) (h.each y (by rw [hw]; exact List.mem_append_left _ hy)), ?_, ?_, ?_, h.el x hxm, h.most1, h.hm m hmm, fun n hn => h.hm n (by rw [hh]; exact List.mem_append_left _ hn), fun y hy => h.el y (by rw [hw]; exact List.mem_append_left _ hy)⟩, Fr.of_stp hS (fun b _ hb => by subst hb; exact ⟨h.hB, .inr ⟨_, _, _, h.blk, .inl rfl⟩⟩), rfl⟩
    · rw [hvX]; exact hb6
    · have := own_head (h.inRb hS (by decide) hwr) KH (Nat.le_succ _)
      rw [← hcl, List.take_left'  rfl] at this
      show World.ownsRow _ B 44 2 (.slice (some ⟨g, 0, none⟩) KH cc) ws.length (cellsS ws)
      rw [hK]
      exact this
    · have := own_head (h.inRb hS (by decide) hhr) KH (Nat.le_succ _)
      rw [List.take_left' (by rw [List.length_map, hKH, Nat.mul_one])] at this
      show World.ownsRow _ B 3 1 (.slice (some ⟨gH, 0, none⟩) KH cH) hs.length _
      rw [hKH]
      exact this
    · show hs.length = ws.length
      omega
    · show ws.length ≤ 1024
      omega
  unfold maxLen at hccm hcHm hcXm
  generalize x.2.1.length = KX at e0 hb6 hS hfin hcX
  generalize x.2.2 = xs at e1 hb6 hS hfin
  unfold ptrV
  clear hS hb6 hvX hpx hmm hxm hcl hwr hhr hKw hKh hgc hgHc hK hKH h hw hh
  go_enter Try.func38, Try.ntmps38
  go_wp2
  go_ret
  exact ⟨rfl, hfin.out⟩
set_option maxRecDepth 100000 in
theorem rSetCell_any (h : RefAt w B rb vL wv hv r) (x : ByteArray) :
    Calls Try.prog 40 #[ptrV rb, .string x] w fun e w' => e = .returned (.int .i64 (if r.full then 43 else 0)) ∧ RefAt w' B rb vL wv hv (if r.full then r else { r.noted with s := x }) ∧ FrR B hv w w' := by
  have hn := rnote_any h
  have hpar : r.noted.most = r.most := rfl
  by_cases hf : r.full
  · rw [if_pos hf, if_pos hf] at hn
    rw [if_pos hf, if_pos hf]
    unfold ptrV at hn ⊢
    replace hn := Lib.hid hn
    clear h hf
    go_enter Try.func40, Try.ntmps40
    go_wp2_with fail
    refine hn.out.mono ?_
    rintro e w' ⟨rfl, hR, hF⟩
    replace hR := Lib.hid hR
    replace hF := Lib.hid hF
    go_wp2
    go_ret
    exact ⟨rfl, hR.out, hF.out⟩
  · rw [if_neg hf, if_neg hf] at hn
    rw [if_neg hf, if_neg hf]
    unfold ptrV at hn ⊢
    replace hn := Lib.hid hn
    clear h hf hpar
    generalize r.noted = q at hn ⊢
    go_enter Try.func40, Try.ntmps40
    go_wp2_with fail
    refine hn.out.mono ?_
    rintro e w1 ⟨rfl, hR, hF⟩
    have c3 : w1.cell? ⟨rb, 3, none⟩ = some (.string q.s) := hR.blk.cell (i := 3) rfl
    have f3 := hR.blk.frozen 3
    have hlt := hR.blk.lt
    have hS : Stp (fun b => b = rb) w1 (w1.setCell ⟨rb, 3, none⟩ (.string x)) := Stp.set (S := fun b => b = rb) rfl 3 _
    have hR2 : RefAt (w1.setCell ⟨rb, 3, none⟩ (.string x)) B rb vL wv hv { q with s := x } :=
      { hR with
        blk := hR.blk.set 3 (.string x)
        pl := hR.inRb hS (by decide) hR.pl
        wrow := hR.inRb hS (by decide) hR.wrow
        each := fun y hy => hR.inRb hS (by decide) (hR.each y hy)
        hrow := hR.inRb hS (by decide) hR.hrow }
    have hF2 : FrR B hv w (w1.setCell ⟨rb, 3, none⟩ (.string x)) := Fr.trans hF (Fr.of_stp hS fun b _ hb => by subst hb; exact ⟨hR.hB, .inr ⟨_, _, _, hR.blk, .inl rfl⟩⟩)
    replace hR2 := Lib.hid hR2
    replace hF2 := Lib.hid hF2
    clear hn hR hF hS
    go_wp2
    go_ret
    exact ⟨rfl, hR2.out, hF2.out⟩
theorem look_first {L : Es} {k : ByteArray} {i : Nat} (hi : i < L.length) (hno : ∀ j (h : j < L.length), j < i → L[j].1 ≠ k) (hk : L[i].1 = k) : look L k = some L[i].2 := by
  have e : L = L.take i ++ L.drop i := (List.take_append_drop i L).symm
  have h1 : look (L.take i) k = none := look_none.2 fun p hp => by
    obtain ⟨j, hj, rfl⟩ := List.getElem_of_mem hp
    rw [List.length_take] at hj
    rw [List.getElem_take]
    exact hno j (by omega) (by omega)
  have h2 : look (L.drop i) k = some L[i].2 := by
    rw [List.drop_eq_getElem_cons hi]
    unfold look
    rw [if_pos hk]
  have h3 : look (L.take i ++ L.drop i) k = some L[i].2 := by rw [look_app, h1, h2]; rfl
  rw [← e] at h3
  exact h3
set_option maxRecDepth 100000 in
set_option maxHeartbeats 1000000 in
theorem rGet_any (h : RefAt w B rb vL wv hv r) (k : ByteArray) :
    Calls Try.prog 18 #[ptrV rb, .string k] w fun e w' => e = .returned (.tuple #[.int .i64 ((look r.L k).getD 0), .bool (look r.L k).isSome]) ∧ w' = w := by
  obtain ⟨A, cc, rfl, hcc, hccm⟩ := own_form h.pl
  have c2 : w.cell? ⟨rb, 2, none⟩ = some (.slice A r.L.length cc) := h.blk.cell (i := 2) rfl
  have hlt := h.blk.lt
  have hpl := h.pl
  have hll := h.ll
  clear h
  generalize r.L = L at c2 hcc hpl hll ⊢
  obtain ⟨RV, hRV⟩ : ∃ V, look L k = V := ⟨_, rfl⟩
  rw [hRV]
  obtain ⟨K, hK⟩ : ∃ K, L.length = K := ⟨_, rfl⟩
  rw [hK] at c2 hcc hll
  have hat := fun i hi => hpl.at_ i hi
  unfold maxLen at hccm
  unfold ptrV
  replace hat := Lib.hid hat
  replace hK := Lib.hid hK
  replace hRV := Lib.hid hRV
  clear hpl
  go_enter Try.func18, Try.ntmps18
  go_wp2
  go_loopw [6] (fun nv wr => ∃ i : Nat, i ≤ K ∧ nv = .int .i64 (i : Int) ∧ wr = w ∧ Hid (∀ j (h : j < L.length), j < i → L[j].1 ≠ k)) (fun nv _ => K - (intOf nv).toNat)
  case atStart => exact ⟨0, Nat.zero_le _, rfl, rfl, Lib.hid (fun j _ h => absurd h (Nat.not_lt_zero _))⟩
  case round =>
    obtain ⟨i, hi, rfl, hwr, hno⟩ := hrel
    obtain rfl := hwr.symm
    clear hwr
    by_cases hlt2 : i < K
    · have hlt' : i < L.length := by rw [hK.out]; exact hlt2
      obtain ⟨hdr, g, rfl, hg, h0, h1⟩ := hat.out i hlt'
      clear hdr
      have hfst := fun hk => look_first hlt' hno.out hk
      have hno2 : L[i].1 ≠ k → Hid (∀ j (h : j < L.length), j < i + 1 → L[j].1 ≠ k) := fun e j h hj => by
        rcases Nat.lt_or_ge j i with h' | h'
        · exact hno.out j h h'
        · obtain rfl : j = i := by omega
          exact e
      generalize L[i] = p at h0 h1 hfst hno2
      obtain ⟨k1, v1⟩ := p
      simp only at h0 h1 hfst hno2
      by_cases hk : k1 = k
      · have hs := str_eq hk
        have hv : RV = some v1 := by rw [← hRV.out]; exact hfst hk
        subst hv
        clear hno2 hfst hno hk
        go_wp2
        go_ret2
        exact ⟨rfl, rfl⟩
      · have hs := str_ne hk
        have hno3 := hno2 hk
        clear hno2 hfst hno
        go_wp2
        go_roundw
        case rel => exact ⟨i + 1, by omega, by go_num, trivial, hno3⟩
        case measure => simp [intOf]; omega
    · obtain rfl : i = K := by omega
      have hv : RV = none := by
        rw [← hRV.out]
        refine look_none.2 fun p hp => ?_
        obtain ⟨j, hj, rfl⟩ := List.getElem_of_mem hp
        exact hno.out j hj (by have := hK.out; omega)
      subst hv
      go_wp2
      go_ret2
      exact ⟨rfl, rfl⟩
end
end Go.Proofs.Ytcobfimafpfbpaa
