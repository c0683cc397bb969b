/-
  The document's answer in memory: Mark. Conditions: few marks, numbers within their bounds.
-/
import Derived.Test.YtcobfimafpfbpaaUdRef
namespace Go.Proofs.Ytcobfimafpfbpaa
open Go Go.Proofs Go.RowKit Go.ChangeMaps

theorem infoState : (Try.prog.info? 44).map (fun i => (i.zero, i.size, i.bytes)) = some (some (.agg #[.slice none 0 0, .string ⟨#[]⟩]), 2, 40) := by kernel_rfl
theorem infoNum : (Try.prog.info? 3).map (fun i => (i.zero, i.size, i.bytes)) = some (some (.int .i64 0), 1, 8) := by kernel_rfl
theorem blk_drew {w : World} {b : Nat} {cur : List Value} {t : TypeId} (h : Blk w b cur t) : Blk w.drew b cur t := h
section
variable {w w' : World} {B rb : Nat} {vL wv hv : Value} {r : Rg}
theorem own_append {t e : TypeId} {size bytes : Nat} {zv : Value} (ht : Try.prog.underlying t = some (.slice e)) (hinf : (Try.prog.info? e).map (fun i => (i.zero, i.size, i.bytes)) = some (some zv, size, bytes)) (hzs : zv.cells.size = size) (hsz : 0 < size)
    {base n : Nat} {v : Value} {xs news : List Value} (h : w.ownsRow base e size v n xs) (hn : n ≤ 100000) (hbt : bytes ≤ 1000) (hB : base ≤ w.heap.size) {z : Nat} (hz : Blk w z news e) (hnl : news.length = size) (h1 : ∀ u ∈ news, u.oneCell' = true) :
    ∃ v' w', (Builtin.append_ #[t, t] t #[v, .slice (some ⟨z, 0, none⟩) 1 1]).run Try.prog w = .ok v' w' ∧ w'.ownsRow base e size v' (n + 1) (xs ++ news) ∧ Stp (fun b => v.ownBlock = some b) w w' ∧ (v'.ownBlock = v.ownBlock ∨ v'.ownBlock = some w.heap.size) := by
  obtain ⟨i0, hi, hz0, hz1, hz2⟩ := info_parts hinf
  obtain ⟨v', w', h1, h2, h3, _, h5⟩ := run_append_own_at (P := Try.prog) w base t t e i0 _ size bytes ht hi hz0 hz1 hz2 hzs hsz v n xs h ⟨z, 0, none⟩ 1 1 news (by rw [hnl, Nat.one_mul])
    (fun j u hu => by rw [add_plain0, Nat.zero_add]; exact hz.cell hu) h1 (Nat.le_trans (by omega : n + 1 ≤ 100001) (by decide)) (Nat.le_trans (Nat.mul_le_mul (by omega : n + 1 ≤ 100001) hbt) (by decide)) hB
  exact ⟨v', w', h1, h2, stp_grown h3, h5⟩
/-- A mark more, in memory. -/
theorem mark_mem (h : RefAt w B rb vL wv hv r) (hn : r.was.length < 1024) :
    ∃ wv' hv' w1 w2 w3 w4 w5 w6, w.alloc (.cells #[vL, .string r.s] 44) = w1 ∧ (Builtin.append_ #[45, 45] 45 #[wv, .slice (some ⟨w.heap.size, 0, none⟩) 1 1]).run Try.prog w1 = .ok wv' w2 ∧ w2.setCell ⟨rb, 4, none⟩ wv' = w3 ∧
      w3.drew.alloc (.cells #[.int .i64 (r.n : Int)] 3) = w4 ∧ (Builtin.append_ #[46, 46] 46 #[hv, .slice (some ⟨w3.heap.size, 0, none⟩) 1 1]).run Try.prog w4 = .ok hv' w5 ∧ w5.setCell ⟨rb, 6, none⟩ hv' = w6 ∧
      Blk w1 rb (allC r vL wv hv) 48 ∧ Blk w2 rb (allC r vL wv hv) 48 ∧ Blk w3 rb (allC r vL wv' hv) 48 ∧ Blk w4 rb (allC r vL wv' hv) 48 ∧ Blk w5 rb (allC r vL wv' hv) 48 ∧
      (∃ A c, wv' = .slice A (r.was.length + 1) c ∧ c ≤ maxLen) ∧ (∃ A c, hv' = .slice A (r.had.length + 1) c ∧ c ≤ maxLen) ∧
      RefAt w6 B rb vL wv' hv' { r with was := r.was ++ [(vL, r.L, r.s)], had := r.had ++ [r.n] } ∧ FrR B hv w w6 ∧ (hv'.ownBlock = hv.ownBlock ∨ ∃ g, hv'.ownBlock = some g ∧ w.heap.size ≤ g) := by
  have hBw := h.lt
  obtain ⟨AL, cL, hvL, _⟩ := own_form h.pl
  have hone : ∀ u ∈ [vL, Value.string r.s], u.oneCell' = true := by
    intro u hu
    rcases List.mem_cons.1 hu with rfl | hu
    · rw [hvL]; rfl
    · rw [List.mem_singleton.1 hu]; rfl
  -- the row of marks
  have hz1 : Blk (w.alloc (.cells #[vL, .string r.s] 44)) w.heap.size [vL, .string r.s] 44 := Blk.new w _ _
  have hk1 := h.below ((Below.refl w.heap.size w).alloc (Nat.le_refl _) (.cells #[vL, .string r.s] 44))
  have hF1 : FrR B hv w (w.alloc (.cells #[vL, .string r.s] 44)) := Fr.alloc _ _ _ _ _
  have hs1 : (w.alloc (.cells #[vL, .string r.s] 44)).heap.size = w.heap.size + 1 := by simp
  obtain ⟨w1, hw1⟩ : ∃ w1, w.alloc (.cells #[vL, .string r.s] 44) = w1 := ⟨_, rfl⟩
  rw [hw1] at hz1 hk1 hF1 hs1
  obtain ⟨wv', w2, hrun1, ho2, hS2, how2⟩ := own_append Try.underlying45 infoState rfl (by decide) hk1.wrow (by omega) (by decide) (by omega) hz1 rfl hone
  have hne2 : ∀ g cur t, Blk w1 g cur t → t ≠ 44 → ¬ wv.ownBlock = some g := fun g cur t hb ht e => by
    obtain ⟨_, cur', hb'⟩ := own_block hk1.wrow e
    exact hb'.ne hb (Ne.symm ht) rfl
  have b2 : Blk w2 rb _ _ := hk1.blk.stp hS2 (hne2 _ _ _ hk1.blk (by decide))
  have hF2 : FrR B hv w1 w2 := Fr.of_stp hS2 fun b _ hb => by
    obtain ⟨h1, cur, h2⟩ := own_block hk1.wrow hb
    exact ⟨h1, .inr ⟨_, _, _, h2, .inr rfl⟩⟩
  have b3 := b2.set 4 wv'
  have hS3 : Stp (fun b => b = rb) w2 (w2.setCell ⟨rb, 4, none⟩ wv') := Stp.set (S := fun b => b = rb) rfl 4 _
  obtain ⟨w3, hw3⟩ : ∃ w3, w2.setCell ⟨rb, 4, none⟩ wv' = w3 := ⟨_, rfl⟩
  rw [hw3] at b3 hS3
  replace b3 : Blk w3 rb (allC r vL wv' hv) 48 := b3
  have hF3 : FrR B hv w2 w3 := Fr.of_stp hS3 fun b _ hb => by subst hb; exact ⟨h.hB, .inr ⟨_, _, _, b2, .inl rfl⟩⟩
  have keep3 : ∀ {e size n v xs}, w1.ownsRow B e size v n xs → e ≠ 44 → e ≠ 48 → w3.ownsRow B e size v n xs := fun {e size n v xs} ho h1 h2 => own_keep ho fun g cur hg hb => by
    obtain ⟨_, cur', hb'⟩ := own_block ho hg
    exact (hS3.block g (by have := hS2.size; have := hb'.lt; omega) (fun e => by subst e; exact hb'.ne hk1.blk h2 rfl)).trans (hS2.block g hb'.lt (hne2 _ _ _ hb' h1))
  have ow3 : w3.ownsRow B 44 2 wv' (r.was.length + 1) (cellsS r.was ++ [vL, .string r.s]) := own_keep ho2 fun g cur hg hb => hS3.block g (Array.getElem?_eq_some_iff.1 hb).1 (fun e => by
    subst e
    obtain ⟨_, cur', hb'⟩ := own_block ho2 hg
    exact hb'.ne b2 (by decide) rfl)
  have ol3 := keep3 hk1.pl (by decide) (by decide)
  have oh3 := keep3 hk1.hrow (by decide) (by decide)
  have oe3 : ∀ x ∈ r.was, PairsAt w3 B x.1 x.2.1 := fun x hx => keep3 (hk1.each x hx) (by decide) (by decide)
  -- the row of numbers
  have hz4 : Blk (w3.drew.alloc (.cells #[.int .i64 (r.n : Int)] 3)) w3.heap.size [.int .i64 (r.n : Int)] 3 := Blk.new w3.drew _ _
  have b4 : Blk (w3.drew.alloc (.cells #[.int .i64 (r.n : Int)] 3)) rb (allC r vL wv' hv) 48 := Blk.alloc (w := w3.drew) b3 _
  have hA4 : ∀ {e size n v xs}, w3.ownsRow B e size v n xs → (w3.drew.alloc (.cells #[.int .i64 (r.n : Int)] 3)).ownsRow B e size v n xs := fun ho => World.ownsRow.alloc (w := w3.drew) ho _
  have hF4 : FrR B hv w3 (w3.drew.alloc (.cells #[.int .i64 (r.n : Int)] 3)) := (Fr.drew _ _ _ w3).trans (Fr.alloc _ _ _ _ _)
  have hs4 : (w3.drew.alloc (.cells #[.int .i64 (r.n : Int)] 3)).heap.size = w3.heap.size + 1 := by
    show (w3.drew.alloc _).heap.size = w3.drew.heap.size + 1
    simp
  obtain ⟨w4, hw4⟩ : ∃ w4, w3.drew.alloc (.cells #[.int .i64 (r.n : Int)] 3) = w4 := ⟨_, rfl⟩
  rw [hw4] at hz4 b4 hF4 hs4
  simp only [hw4] at hA4
  have hsz3 : w1.heap.size ≤ w3.heap.size := Nat.le_trans hS2.size hS3.size
  have oh4 := hA4 oh3
  obtain ⟨hv', w5, hrun2, ho5, hS5, how5⟩ := own_append Try.underlying46 infoNum rfl (by decide) oh4 (by have := h.hl; omega) (by decide) (by omega) hz4 rfl (by intro u hu; rw [List.mem_singleton.1 hu]; rfl)
  have hne5 : ∀ g cur t, Blk w4 g cur t → t ≠ 3 → ¬ hv.ownBlock = some g := fun g cur t hb ht e => by
    obtain ⟨_, cur', hb'⟩ := own_block oh4 e
    exact hb'.ne hb (Ne.symm ht) rfl
  have b5 : Blk w5 rb _ _ := b4.stp hS5 (hne5 _ _ _ b4 (by decide))
  have hF5 : FrR B hv w4 w5 := Fr.of_stp hS5 fun b _ hb => ⟨(own_block oh4 hb).1, .inl hb⟩
  have b6 := b5.set 6 hv'
  have hS6 : Stp (fun b => b = rb) w5 (w5.setCell ⟨rb, 6, none⟩ hv') := Stp.set (S := fun b => b = rb) rfl 6 _
  obtain ⟨w6, hw6⟩ : ∃ w6, w5.setCell ⟨rb, 6, none⟩ hv' = w6 := ⟨_, rfl⟩
  rw [hw6] at b6 hS6
  replace b6 : Blk w6 rb (allC r vL wv' hv') 48 := b6
  have hF6 : FrR B hv w5 w6 := Fr.of_stp hS6 fun b _ hb => by subst hb; exact ⟨h.hB, .inr ⟨_, _, _, b5, .inl rfl⟩⟩
  have keep6 : ∀ {e size n v xs}, w4.ownsRow B e size v n xs → e ≠ 3 → e ≠ 48 → w6.ownsRow B e size v n xs := fun {e size n v xs} ho h1 h2 => own_keep ho fun g cur hg hb => by
    obtain ⟨_, cur', hb'⟩ := own_block ho hg
    exact (hS6.block g (by have := hS5.size; have := hb'.lt; omega) (fun e => by subst e; exact hb'.ne b4 h2 rfl)).trans (hS5.block g hb'.lt (hne5 _ _ _ hb' h1))
  have ow6 := keep6 (hA4 ow3) (by decide) (by decide)
  have ol6 := keep6 (hA4 ol3) (by decide) (by decide)
  have oe6 : ∀ x ∈ r.was, PairsAt w6 B x.1 x.2.1 := fun x hx => keep6 (hA4 (oe3 x hx)) (by decide) (by decide)
  have oh6 : w6.ownsRow B 3 1 hv' (r.had.length + 1) ((r.had.map fun n : Nat => Value.int .i64 (n : Int)) ++ [.int .i64 (r.n : Int)]) := own_keep ho5 fun g cur hg hb => hS6.block g (Array.getElem?_eq_some_iff.1 hb).1 (fun e => by
    subst e
    obtain ⟨_, cur', hb'⟩ := own_block ho5 hg
    exact hb'.ne b5 (by decide) rfl)
  refine ⟨wv', hv', w1, w2, w3, w4, w5, w6, hw1, hrun1, hw3, hw4, hrun2, hw6, hk1.blk, b2, b3, b4, b5, ?_, ?_, ?_, ((((hF1.trans hF2).trans hF3).trans hF4).trans hF5).trans hF6, ?_⟩
  · obtain ⟨A, c, h1, _, h2⟩ := own_form ow3
    exact ⟨A, c, h1, h2⟩
  · obtain ⟨A, c, h1, _, h2⟩ := own_form oh6
    exact ⟨A, c, h1, h2⟩
  · refine ⟨h.hB, b6, ol6, ?_, fun x hx => ?_, ?_, ?_, ?_, h.ll, h.most1, h.n1, fun n hn => ?_, fun x hx => ?_⟩
    · rw [List.length_append, cellsS_append]
      exact ow6
    · rcases List.mem_append.1 hx with hx | hx
      · exact oe6 x hx
      · rw [List.mem_singleton.1 hx]; exact ol6
    · rw [List.length_append, List.map_append]
      exact oh6
    · rw [List.length_append, List.length_append, h.hl]; rfl
    · rw [List.length_append]
      show r.was.length + 1 ≤ 1024
      omega
    · rcases List.mem_append.1 hn with hn | hn
      · exact h.hm n hn
      · rw [List.mem_singleton.1 hn]; exact h.n1
    · rcases List.mem_append.1 hx with hx | hx
      · exact h.el x hx
      · rw [List.mem_singleton.1 hx]; exact h.ll
  · rcases how5 with e | e
    · exact .inl e
    · exact .inr ⟨_, e, by omega⟩

set_option maxRecDepth 100000 in
theorem rMark_full (h : RefAt w B rb vL wv hv r) (hn : r.was.length = r.nest) :
    Calls Try.prog 37 #[ptrV rb] w fun e w' => e = .returned (.tuple #[.int .i64 0, .int .i64 42]) ∧ ∃ n, w' = w.drewN n := by
  obtain ⟨A, cc, rfl, hcc, hccm⟩ := own_form h.wrow
  have c1 : w.cell? ⟨rb, 1, none⟩ = some (.int .i64 (r.nest : Int)) := h.blk.cell (i := 1) rfl
  have c4 : w.cell? ⟨rb, 4, none⟩ = some (.slice A r.was.length cc) := h.blk.cell (i := 4) rfl
  have hlt := h.blk.lt
  rw [← hn] at c1
  unfold maxLen at hccm
  unfold ptrV
  clear h hn
  generalize r.was.length = K at c1 c4 hcc
  go_enter Try.func37, Try.ntmps37
  go_wp2_with fail
  go_quiet (fail)
  go_wp2
  go_ret2
  exact ⟨rfl, _, rfl⟩
set_option maxRecDepth 100000 in
set_option maxHeartbeats 4000000 in
theorem rMark_add (h : RefAt w B rb vL wv hv r) (hn : r.was.length < r.nest) (hn2 : r.nest ≤ 1024) :
    Calls Try.prog 37 #[ptrV rb] w fun e w' => e = .returned (.tuple #[.int .i64 ((r.was.length : Int) + 1), .int .i64 0]) ∧ ∃ wv' hv', RefAt w' B rb vL wv' hv' { r with was := r.was ++ [(vL, r.L, r.s)], had := r.had ++ [r.n] } ∧ FrR B hv w w' ∧ (hv'.ownBlock = hv.ownBlock ∨ ∃ g, hv'.ownBlock = some g ∧ w.heap.size ≤ g) := by
  have hmem := fun n => mark_mem (h.below (drewN_below w n)) (by omega)
  obtain ⟨A, cc, rfl, hcc, hccm⟩ := own_form h.wrow
  obtain ⟨AH, cH, rfl, hcH, hcHm⟩ := own_form h.hrow
  obtain ⟨AL, cL, rfl, hcL, hcLm⟩ := own_form h.pl
  have c1 : w.cell? ⟨rb, 1, none⟩ = some (.int .i64 (r.nest : Int)) := h.blk.cell (i := 1) rfl
  have c4 : w.cell? ⟨rb, 4, none⟩ = some (.slice A r.was.length cc) := h.blk.cell (i := 4) rfl
  have hlt := h.blk.lt
  have b0 := h.blk
  obtain ⟨K, hK⟩ : ∃ K, r.was.length = K := ⟨_, rfl⟩
  obtain ⟨KH, hKH⟩ : ∃ K, r.had.length = K := ⟨_, rfl⟩
  obtain ⟨KL, hKL⟩ : ∃ K, r.L.length = K := ⟨_, rfl⟩
  rw [hK] at c4 hcc hn b0 hmem ⊢
  rw [hKH] at hcH b0 hmem ⊢
  rw [hKL] at hcL b0 hmem ⊢
  have hlti : (K : Int) < (r.nest : Int) := by omega
  unfold maxLen at hccm hcHm hcLm
  replace hmem := Lib.hid hmem
  replace b0 := Lib.hid b0
  replace hK := Lib.hid hK
  replace hKH := Lib.hid hKH
  replace hKL := Lib.hid hKL
  unfold ptrV
  clear h
  go_enter Try.func37, Try.ntmps37
  go_wp2_with fail
  go_quiet (fail)
  go_wp2_with fail
  clear c1 c4
  obtain ⟨q0, hq0⟩ : ∃ q, w.drewN nq = q := ⟨_, rfl⟩
  obtain ⟨q1, hq1⟩ : ∃ q, q0.drew = q := ⟨_, rfl⟩
  have hq : w.drewN (nq + 1) = q1 := by rw [← hq1, ← hq0]; rfl
  rw [hq0]
  obtain ⟨wv', hv', w1, w2, w3, w4, w5, w6, e1, r1, e3, e4, r2, e6, k1, k2, k3, k4, k5, ⟨A', c', rfl, hc'⟩, ⟨AH', cH', rfl, hcH'⟩, hR, hF, how⟩ := hmem.out (nq + 1)
  have hszq : (w.drewN (nq + 1)).heap.size = w.heap.size := rfl
  have k0 : Blk (w.drewN (nq + 1)) rb _ _ := b0.out
  rw [hszq] at how
  have hF' : FrR B (.slice AH KH cH) w w6 := Fr.trans (Fr.drewN _ _ _ w (nq + 1)) hF
  rw [hq] at e1 r1 k0
  have m2 : q1.cell? ⟨rb, 2, none⟩ = some (.slice AL KL cL) := k0.cell (i := 2) rfl
  have m3 : q1.cell? ⟨rb, 3, none⟩ = some (.string r.s) := k0.cell (i := 3) rfl
  have m4 : q1.cell? ⟨rb, 4, none⟩ = some (.slice A K cc) := k0.cell (i := 4) rfl
  have ml := k0.lt
  have a2 : w1.cell? ⟨rb, 2, none⟩ = some (.slice AL KL cL) := k1.cell (i := 2) rfl
  have a3 : w1.cell? ⟨rb, 3, none⟩ = some (.string r.s) := k1.cell (i := 3) rfl
  have a4 : w1.cell? ⟨rb, 4, none⟩ = some (.slice A K cc) := k1.cell (i := 4) rfl
  have d2 : w2.cell? ⟨rb, 2, none⟩ = some (.slice AL KL cL) := k2.cell (i := 2) rfl
  have d3 : w2.cell? ⟨rb, 3, none⟩ = some (.string r.s) := k2.cell (i := 3) rfl
  have d4 : w2.cell? ⟨rb, 4, none⟩ = some (.slice A K cc) := k2.cell (i := 4) rfl
  have d4f := k2.frozen 4
  have dl := k2.lt
  unfold maxLen at hc' hcH'
  have hRF : Hid (∃ wv' hv', RefAt w6 B rb (.slice AL KL cL) wv' hv' { r with was := r.was ++ [(.slice AL KL cL, r.L, r.s)], had := r.had ++ [r.n] } ∧ FrR B (.slice AH KH cH) w w6 ∧ (hv'.ownBlock = (Value.slice AH KH cH).ownBlock ∨ ∃ g, hv'.ownBlock = some g ∧ w.heap.size ≤ g)) := ⟨_, _, hR, hF', how⟩
  have s3 := k3.lt
  replace e1 := Lib.hid e1
  replace r1 := Lib.hid r1
  replace e3 := Lib.hid e3
  replace e4 := Lib.hid e4
  replace r2 := Lib.hid r2
  replace e6 := Lib.hid e6
  replace k3 := Lib.hid k3
  replace k4 := Lib.hid k4
  replace k5 := Lib.hid k5
  replace hq1 := Lib.hid hq1
  generalize r.s = s at m3 a3 d3 e1
  clear k0 k1 k2 hR hF hF' how hq hq0 hszq hmem b0
  refine wp_region_last (L := 13) (S := (fun w' : World => w'.cell? ⟨rb, 2, none⟩ = some (.slice AL KL cL) ∧ w'.cell? ⟨rb, 3, none⟩ = some (.string s) ∧ w'.cell? ⟨rb, 4, none⟩ = some (.slice A K cc))) (by kernel_rfl) ?_
  rw [hq1.out]
  have hS0 : (fun w' : World => w'.cell? ⟨rb, 2, none⟩ = some (.slice AL KL cL) ∧ w'.cell? ⟨rb, 3, none⟩ = some (.string s) ∧ w'.cell? ⟨rb, 4, none⟩ = some (.slice A K cc)) q1 := ⟨m2, m3, m4⟩
  refine wpAnyT_takeT (n := 40) (i := 0) (v := .pointer (some ⟨rb, 0, none⟩)) rfl (by kernel_rfl) (by kernel_rfl) (by kernel_rfl) (by kernel_rfl) (by kernel_rfl) (fun _ _ _ h => h) (Or.inl ⟨by rfl, ?_⟩) hS0 ?_
  · intro W hW
    obtain ⟨k0, k1, k2⟩ := hW
    clear hS0 m2 m3 m4 a2 a3 a4 d2 d3 d4
    go_simp
    try (intro hx; exfalso; omega)
  try simp only [Act.put, List.setIfInBounds_toArray]
  refine wpAnyT_takeT (n := 40) (i := 1) (v := .pointer (some ⟨rb, 0, none⟩)) rfl (by kernel_rfl) (by kernel_rfl) (by kernel_rfl) (by kernel_rfl) (by kernel_rfl) (fun _ _ _ h => h) (Or.inl ⟨by rfl, ?_⟩) hS0 ?_
  · intro W hW
    obtain ⟨k0, k1, k2⟩ := hW
    clear hS0 m2 m3 m4 a2 a3 a4 d2 d3 d4
    go_simp
    try (intro hx; exfalso; omega)
  try simp only [Act.put]
  refine wpAnyT_takeT (n := 40) (i := 2) (v := .pointer (some ⟨rb, 0, none⟩)) rfl (by kernel_rfl) (by kernel_rfl) (by kernel_rfl) (by kernel_rfl) (by kernel_rfl) (fun _ _ _ h => h) (Or.inl ⟨by rfl, ?_⟩) hS0 ?_
  · intro W hW
    obtain ⟨k0, k1, k2⟩ := hW
    clear hS0 m2 m3 m4 a2 a3 a4 d2 d3 d4
    go_simp
    try (intro hx; exfalso; omega)
  try simp only [Act.put]
  refine wpAnyT_takeT (n := 40) (i := 3) (v := .pointer (some ⟨rb, 4, none⟩)) rfl (by kernel_rfl) (by kernel_rfl) (by kernel_rfl) (by kernel_rfl) (by kernel_rfl) (fun _ _ _ h => h) (Or.inl ⟨by rfl, ?_⟩) hS0 ?_
  · intro W hW
    obtain ⟨k0, k1, k2⟩ := hW
    clear hS0 m2 m3 m4 a2 a3 a4 d2 d3 d4
    go_simp
    try (intro hx; exfalso; omega)
  try simp only [Act.put]
  refine wpAnyT_takeT (n := 40) (i := 4) (v := .slice A K cc) rfl (by kernel_rfl) (by kernel_rfl) (by kernel_rfl) (by kernel_rfl) (by kernel_rfl) (fun _ _ _ h => h) (Or.inl ⟨by rfl, ?_⟩) hS0 ?_
  · intro W hW
    obtain ⟨k0, k1, k2⟩ := hW
    clear hS0 m2 m3 m4 a2 a3 a4 d2 d3 d4
    go_simp
    try (intro hx; exfalso; omega)
  try simp only [Act.put]
  refine wpAnyT_takeT (n := 40) (i := 5) (v := .pointer (some ⟨rb, 0, none⟩)) rfl (by kernel_rfl) (by kernel_rfl) (by kernel_rfl) (by kernel_rfl) (by kernel_rfl) (fun _ _ _ h => h) (Or.inl ⟨by rfl, ?_⟩) hS0 ?_
  · intro W hW
    obtain ⟨k0, k1, k2⟩ := hW
    clear hS0 m2 m3 m4 a2 a3 a4 d2 d3 d4
    go_simp
    try (intro hx; exfalso; omega)
  try simp only [Act.put]
  refine wpAnyT_takeT (n := 40) (i := 6) (v := .pointer (some ⟨rb, 0, none⟩)) rfl (by kernel_rfl) (by kernel_rfl) (by kernel_rfl) (by kernel_rfl) (by kernel_rfl) (fun _ _ _ h => h) (Or.inl ⟨by rfl, ?_⟩) hS0 ?_
  · intro W hW
    obtain ⟨k0, k1, k2⟩ := hW
    clear hS0 m2 m3 m4 a2 a3 a4 d2 d3 d4
    go_simp
    try (intro hx; exfalso; omega)
  try simp only [Act.put]
  refine wpAnyT_takeT (n := 40) (i := 7) (v := .pointer (some ⟨rb, 2, none⟩)) rfl (by kernel_rfl) (by kernel_rfl) (by kernel_rfl) (by kernel_rfl) (by kernel_rfl) (fun _ _ _ h => h) (Or.inl ⟨by rfl, ?_⟩) hS0 ?_
  · intro W hW
    obtain ⟨k0, k1, k2⟩ := hW
    clear hS0 m2 m3 m4 a2 a3 a4 d2 d3 d4
    go_simp
    try (intro hx; exfalso; omega)
  try simp only [Act.put]
  refine wpAnyT_takeT (n := 40) (i := 8) (v := .agg #[.slice AL KL cL, .string s]) rfl (by kernel_rfl) (by kernel_rfl) (by kernel_rfl) (by kernel_rfl) (by kernel_rfl) (fun _ _ _ h => h) (Or.inl ⟨by rfl, ?_⟩) hS0 ?_
  · intro W hW
    obtain ⟨k0, k1, k2⟩ := hW
    clear hS0 m2 m3 m4 a2 a3 a4 d2 d3 d4
    go_simp
    try (intro hx; exfalso; omega)
  try simp only [Act.put]
  clear hS0
  refine wpAnyT_one (i := 9) rfl (by kernel_rfl) rfl ?_
  go_simp
  rw [e1.out]
  try refine ⟨⟨a2, a3, a4⟩, ?_⟩
  refine wpAnyT_one (i := 10) rfl (by kernel_rfl) rfl ?_
  refine wp_append_of (.tmp 18) (.tmp 23) 45 45 rfl _ _ _ w2 rfl rfl r1.out ?_
  refine ⟨fun _ => ⟨d2, d3, d4⟩, ?_⟩
  clear m2 m3 m4 a2 a3 a4
  try simp only [Act.put, List.setIfInBounds_toArray]
  refine wpAnyT_one (i := 11) rfl (by kernel_rfl) rfl ?_
  go_simp
  refine wpAnyT_one (i := 12) rfl (by kernel_rfl) rfl ?_
  go_simp
  refine wpAnyT_one (i := 13) rfl (by kernel_rfl) rfl ?_
  go_simp
  rw [e3.out]
  refine wpAnyT_done (by kernel_rfl) ?_ _
  clear d2 d3 d4 d4f dl
  obtain ⟨q2, hq2⟩ : ∃ q, w3.drew = q := ⟨_, rfl⟩
  have g0 := blk_drew k3.out
  rw [hq2] at g0
  have gs : w3.heap.size = q2.heap.size := by rw [← hq2]; rfl
  have e4' := e4.out
  have r2' := r2.out
  rw [hq2] at e4'
  rw [gs] at r2'
  replace e4' := Lib.hid e4'
  replace r2' := Lib.hid r2'
  have g5 : q2.cell? ⟨rb, 5, none⟩ = some (.int .i64 (r.n : Int)) := g0.cell (i := 5) rfl
  have g6 : q2.cell? ⟨rb, 6, none⟩ = some (.slice AH KH cH) := g0.cell (i := 6) rfl
  have gl := g0.lt
  have a5 : w4.cell? ⟨rb, 5, none⟩ = some (.int .i64 (r.n : Int)) := k4.out.cell (i := 5) rfl
  have a6 : w4.cell? ⟨rb, 6, none⟩ = some (.slice AH KH cH) := k4.out.cell (i := 6) rfl
  have d5 : w5.cell? ⟨rb, 5, none⟩ = some (.int .i64 (r.n : Int)) := k5.out.cell (i := 5) rfl
  have d6 : w5.cell? ⟨rb, 6, none⟩ = some (.slice AH KH cH) := k5.out.cell (i := 6) rfl
  have d6f := k5.out.frozen 6
  have dl5 := k5.out.lt
  have k6 := k5.out.set 6 (.slice AH' (KH + 1) cH')
  rw [e6.out] at k6
  have l4 : w6.cell? ⟨rb, 4, none⟩ = some (.slice A' (K + 1) c') := k6.cell (i := 4) rfl
  have l4l := k6.lt
  replace hq2 := Lib.hid hq2
  generalize r.n = NN at g5 a5 d5 e4'
  clear g0 gs e4 r2 k3 k4 k5 k6
  go_wp2_with fail
  refine wp_region_last (L := 13) (S := (fun w' : World => w'.cell? ⟨rb, 5, none⟩ = some (.int .i64 (NN : Int)) ∧ w'.cell? ⟨rb, 6, none⟩ = some (.slice AH KH cH))) (by kernel_rfl) ?_
  rw [hq2.out]
  have hS0 : (fun w' : World => w'.cell? ⟨rb, 5, none⟩ = some (.int .i64 (NN : Int)) ∧ w'.cell? ⟨rb, 6, none⟩ = some (.slice AH KH cH)) q2 := ⟨g5, g6⟩
  refine wpAnyT_takeT (n := 45) (i := 0) (v := .pointer (some ⟨rb, 0, none⟩)) rfl (by kernel_rfl) (by kernel_rfl) (by kernel_rfl) (by kernel_rfl) (by kernel_rfl) (fun _ _ _ h => h) (Or.inl ⟨by rfl, ?_⟩) hS0 ?_
  · intro W hW
    obtain ⟨k0, k1⟩ := hW
    clear hS0 g5 g6 a5 a6 d5 d6 l4
    go_simp
    try (intro hx; exfalso; omega)
  try simp only [Act.put, List.setIfInBounds_toArray]
  refine wpAnyT_takeT (n := 45) (i := 1) (v := .pointer (some ⟨rb, 0, none⟩)) rfl (by kernel_rfl) (by kernel_rfl) (by kernel_rfl) (by kernel_rfl) (by kernel_rfl) (fun _ _ _ h => h) (Or.inl ⟨by rfl, ?_⟩) hS0 ?_
  · intro W hW
    obtain ⟨k0, k1⟩ := hW
    clear hS0 g5 g6 a5 a6 d5 d6 l4
    go_simp
    try (intro hx; exfalso; omega)
  try simp only [Act.put]
  refine wpAnyT_takeT (n := 45) (i := 2) (v := .pointer (some ⟨rb, 0, none⟩)) rfl (by kernel_rfl) (by kernel_rfl) (by kernel_rfl) (by kernel_rfl) (by kernel_rfl) (fun _ _ _ h => h) (Or.inl ⟨by rfl, ?_⟩) hS0 ?_
  · intro W hW
    obtain ⟨k0, k1⟩ := hW
    clear hS0 g5 g6 a5 a6 d5 d6 l4
    go_simp
    try (intro hx; exfalso; omega)
  try simp only [Act.put]
  refine wpAnyT_takeT (n := 45) (i := 3) (v := .pointer (some ⟨rb, 6, none⟩)) rfl (by kernel_rfl) (by kernel_rfl) (by kernel_rfl) (by kernel_rfl) (by kernel_rfl) (fun _ _ _ h => h) (Or.inl ⟨by rfl, ?_⟩) hS0 ?_
  · intro W hW
    obtain ⟨k0, k1⟩ := hW
    clear hS0 g5 g6 a5 a6 d5 d6 l4
    go_simp
    try (intro hx; exfalso; omega)
  try simp only [Act.put]
  refine wpAnyT_takeT (n := 45) (i := 4) (v := .slice AH KH cH) rfl (by kernel_rfl) (by kernel_rfl) (by kernel_rfl) (by kernel_rfl) (by kernel_rfl) (fun _ _ _ h => h) (Or.inl ⟨by rfl, ?_⟩) hS0 ?_
  · intro W hW
    obtain ⟨k0, k1⟩ := hW
    clear hS0 g5 g6 a5 a6 d5 d6 l4
    go_simp
    try (intro hx; exfalso; omega)
  try simp only [Act.put]
  refine wpAnyT_takeT (n := 45) (i := 5) (v := .pointer (some ⟨rb, 0, none⟩)) rfl (by kernel_rfl) (by kernel_rfl) (by kernel_rfl) (by kernel_rfl) (by kernel_rfl) (fun _ _ _ h => h) (Or.inl ⟨by rfl, ?_⟩) hS0 ?_
  · intro W hW
    obtain ⟨k0, k1⟩ := hW
    clear hS0 g5 g6 a5 a6 d5 d6 l4
    go_simp
    try (intro hx; exfalso; omega)
  try simp only [Act.put]
  refine wpAnyT_takeT (n := 45) (i := 6) (v := .pointer (some ⟨rb, 0, none⟩)) rfl (by kernel_rfl) (by kernel_rfl) (by kernel_rfl) (by kernel_rfl) (by kernel_rfl) (fun _ _ _ h => h) (Or.inl ⟨by rfl, ?_⟩) hS0 ?_
  · intro W hW
    obtain ⟨k0, k1⟩ := hW
    clear hS0 g5 g6 a5 a6 d5 d6 l4
    go_simp
    try (intro hx; exfalso; omega)
  try simp only [Act.put]
  refine wpAnyT_takeT (n := 45) (i := 7) (v := .pointer (some ⟨rb, 5, none⟩)) rfl (by kernel_rfl) (by kernel_rfl) (by kernel_rfl) (by kernel_rfl) (by kernel_rfl) (fun _ _ _ h => h) (Or.inl ⟨by rfl, ?_⟩) hS0 ?_
  · intro W hW
    obtain ⟨k0, k1⟩ := hW
    clear hS0 g5 g6 a5 a6 d5 d6 l4
    go_simp
    try (intro hx; exfalso; omega)
  try simp only [Act.put]
  refine wpAnyT_takeT (n := 45) (i := 8) (v := .int .i64 (NN : Int)) rfl (by kernel_rfl) (by kernel_rfl) (by kernel_rfl) (by kernel_rfl) (by kernel_rfl) (fun _ _ _ h => h) (Or.inl ⟨by rfl, ?_⟩) hS0 ?_
  · intro W hW
    obtain ⟨k0, k1⟩ := hW
    clear hS0 g5 g6 a5 a6 d5 d6 l4
    go_simp
    try (intro hx; exfalso; omega)
  try simp only [Act.put]
  clear hS0
  refine wpAnyT_one (i := 9) rfl (by kernel_rfl) rfl ?_
  go_simp
  rw [e4'.out]
  try refine ⟨⟨a5, a6⟩, ?_⟩
  refine wpAnyT_one (i := 10) rfl (by kernel_rfl) rfl ?_
  refine wp_append_of (.tmp 31) (.tmp 36) 46 46 rfl _ _ _ w5 rfl rfl r2'.out ?_
  refine ⟨fun _ => ⟨d5, d6⟩, ?_⟩
  clear g5 g6 a5 a6
  try simp only [Act.put, List.setIfInBounds_toArray]
  refine wpAnyT_one (i := 11) rfl (by kernel_rfl) rfl ?_
  go_simp
  refine wpAnyT_one (i := 12) rfl (by kernel_rfl) rfl ?_
  go_simp
  refine wpAnyT_one (i := 13) rfl (by kernel_rfl) rfl ?_
  go_simp
  rw [e6.out]
  refine wpAnyT_done (by kernel_rfl) ?_ _
  clear d5 d6 d6f dl5
  go_wp2
  go_ret2
  exact ⟨rfl, hRF.out⟩
end
end Go.Proofs.Ytcobfimafpfbpaa
