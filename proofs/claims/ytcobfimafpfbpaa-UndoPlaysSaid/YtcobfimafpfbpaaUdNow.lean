/-
  now: what things have, as pairs by rising keys and a cell's text. Conditions: fewer than a hundred thousand keys.
-/
import Derived.Test.YtcobfimafpfbpaaUdPairs
namespace Go.Proofs.Ytcobfimafpfbpaa
open Go Go.Proofs Go.RowKit Go.ChangeMaps

theorem encStr_of (k : ByteArray) : encStr (bytesOf k) = .string k := by
  show Value.string ⟨(bytesOf k).toArray⟩ = _
  rw [show (⟨(bytesOf k).toArray⟩ : ByteArray) = k from of_bytes k]
/-- The keys of things, as a slice. -/
theorem th_keys {w : World} {B : Nat} {Q : Nat → Prop} {a : Ad} {pot : Nat} {t : Tg} {L : Es} (h : ThAt w B Q a pot t) (hc : Canon t.cur.f L) (hp : pot ≤ 100000) :
    Calls Try.prog 30 #[ptrV a.m] w fun e w' => ∃ v, e = .returned v ∧ w'.ownsRow w.heap.size 9 1 v L.length (L.map fun p => .string p.1) ∧ Below w.heap.size w w' := by
  obtain ⟨ms, fs, es, h1, h2, h3, h4, h5, h6, h7, h8, h9⟩ := h
  have hap : es.Pairwise (fun p q => p.1 ≠ q.1) := by
    have := h2.map.apart
    unfold encE at this
    rw [List.pairwise_map] at this
    exact this
  have hf : look es = t.cur.f := funext h4
  obtain ⟨k1, k2⟩ := (hf ▸ hc : Canon (look es) L).keys hap
  have hkb : ∀ p ∈ es, p.1.size ≤ 100 := fun p hp => h8.kb p.1 p.2 (by rw [← h4]; exact look_of_mem hap hp)
  refine (Keys_any h2 hkb (by omega)).mono ?_
  rintro e w' ⟨v, rfl, hr, hb⟩
  rw [k1, k2, List.map_map] at hr
  refine ⟨v, rfl, ?_, hb⟩
  have e : L.map (encStr ∘ fun p => bytesOf p.1) = L.map fun p => Value.string p.1 := List.map_congr_left fun p _ => encStr_of p.1
  rw [e] at hr
  exact hr
theorem canon_get {f : ByteArray → Option Int} {L : Es} (h : Canon f L) {i : Nat} (hi : i < L.length) : f L[i].1 = some L[i].2 := (h.mem L[i]).1 (List.getElem_mem _)
/-- A row of texts. -/
theorem own_str {w : World} {base n c : Nat} {A : Option Addr} {L : Es} (h : w.ownsRow base 9 1 (.slice A n c) L.length (L.map fun p => .string p.1)) {i : Nat} (hi : i < L.length) : n = L.length ∧ ∃ g, A = some ⟨g, 0, none⟩ ∧ base ≤ g ∧ g < w.heap.size ∧ w.cell? ⟨g, i, none⟩ = some (.string L[i].1) := by
  obtain ⟨A', c', e, _⟩ := own_form h
  obtain ⟨rfl, rfl, rfl⟩ := Value.slice.inj e
  obtain ⟨g, h1, h2, h3, h4⟩ := own_at h (by omega)
  exact ⟨rfl, g, h1, h2, h3, h4 i _ (by rw [List.getElem?_map, List.getElem?_eq_getElem hi]; rfl)⟩

set_option maxRecDepth 100000 in
set_option maxHeartbeats 4000000 in
theorem now_any {w : World} {B : Nat} {Q : Nat → Prop} {a : Ad} {pot : Nat} {t : Tg} {L : Es} (h : ThAt w B Q a pot t) (hc : Canon t.cur.f L) (hL : L.length ≤ 100000) (hp : pot ≤ 100000) :
    Calls Try.prog 19 #[thV a] w fun e w' => ∃ v, e = .returned (.agg #[v, .string t.cur.s]) ∧ PairsAt w' w.heap.size v L ∧ Below w.heap.size w w' := by
  obtain ⟨z, hz⟩ : ∃ z, w.heap.size = z := ⟨_, rfl⟩
  rw [hz]
  have hthb : ∀ W, Below z w W → ThAt W B Q a pot t := fun W hW => h.below (by rw [hz]; exact hW)
  -- the boxes of t and of what comes out
  have b0 : Blk ((w.alloc (.cells #[ptrV a.l, ptrV a.m, ptrV a.c] 29)).alloc (.cells #[.slice none 0 0, .string ⟨#[]⟩] 44)) z [ptrV a.l, ptrV a.m, ptrV a.c] 29 := by rw [← hz]; exact (Blk.new w _ _).alloc _
  have b1 : Blk ((w.alloc (.cells #[ptrV a.l, ptrV a.m, ptrV a.c] 29)).alloc (.cells #[.slice none 0 0, .string ⟨#[]⟩] 44)) (z + 1) [.slice none 0 0, .string ⟨#[]⟩] 44 := by
    have := Blk.new (w.alloc (.cells #[ptrV a.l, ptrV a.m, ptrV a.c] 29)) [.slice none 0 0, .string ⟨#[]⟩] 44
    rw [show (w.alloc (.cells #[ptrV a.l, ptrV a.m, ptrV a.c] 29)).heap.size = z + 1 by simp [hz]] at this
    exact this
  have hs0 : ((w.alloc (.cells #[ptrV a.l, ptrV a.m, ptrV a.c] 29)).alloc (.cells #[.slice none 0 0, .string ⟨#[]⟩] 44)).heap.size = z + 2 := by simp [hz]
  have hb0 := ((Below.refl z w).alloc (by omega) (.cells #[ptrV a.l, ptrV a.m, ptrV a.c] 29)).alloc (by simp; omega) (.cells #[.slice none 0 0, .string ⟨#[]⟩] 44)
  obtain ⟨w0, hw0⟩ : ∃ w0, (w.alloc (.cells #[ptrV a.l, ptrV a.m, ptrV a.c] 29)).alloc (.cells #[.slice none 0 0, .string ⟨#[]⟩] 44) = w0 := ⟨_, rfl⟩
  rw [hw0] at b0 b1 hs0 hb0
  have hcg := th_cget (hthb w0 hb0)
  have hzl := b0.lt
  have c1 : w0.cell? ⟨z, 1, none⟩ = some (.pointer (some ⟨a.m, 0, none⟩)) := b0.cell (i := 1) rfl
  have c2 : w0.cell? ⟨z, 2, none⟩ = some (.pointer (some ⟨a.c, 0, none⟩)) := b0.cell (i := 2) rfl
  -- the box of s
  have b02 := b0.alloc (.cells #[.slice none 0 0, .string t.cur.s] 44)
  have b12 := b1.alloc (.cells #[.slice none 0 0, .string t.cur.s] 44)
  have b22 : Blk (w0.alloc (.cells #[.slice none 0 0, .string t.cur.s] 44)) (z + 2) [.slice none 0 0, .string t.cur.s] 44 := by rw [← hs0]; exact Blk.new w0 _ _
  have hs2 : (w0.alloc (.cells #[.slice none 0 0, .string t.cur.s] 44)).heap.size = z + 3 := by simp [hs0]
  have hb2 := hb0.alloc (by omega) (.cells #[.slice none 0 0, .string t.cur.s] 44)
  obtain ⟨w2, hw2⟩ : ∃ w2, w0.alloc (.cells #[.slice none 0 0, .string t.cur.s] 44) = w2 := ⟨_, rfl⟩
  rw [hw2] at b02 b12 b22 hs2 hb2
  have hky := th_keys (hthb w2 hb2) hc hp
  rw [hs2] at hky
  have hzl2 := b02.lt
  have d1 : w2.cell? ⟨z, 1, none⟩ = some (.pointer (some ⟨a.m, 0, none⟩)) := b02.cell (i := 1) rfl
  have hcget : ∀ i (hi : i < L.length), t.cur.f L[i].1 = some L[i].2 := fun i hi => canon_get hc hi
  obtain ⟨s, hs⟩ : ∃ s, t.cur.s = s := ⟨_, rfl⟩
  rw [hs] at hcg hw2 b22 ⊢
  obtain ⟨KL, hKL⟩ : ∃ K, L.length = K := ⟨_, rfl⟩
  rw [hKL] at hL
  replace hKL := Lib.hid hKL
  replace hz := Lib.hid hz
  replace hthb := Lib.hid hthb
  replace hw0 := Lib.hid hw0
  replace hw2 := Lib.hid hw2
  replace hs0 := Lib.hid hs0
  replace hs2 := Lib.hid hs2
  replace b02 := Lib.hid b02
  replace b12 := Lib.hid b12
  replace b22 := Lib.hid b22
  replace hb2 := Lib.hid hb2
  replace hcget := Lib.hid hcget
  unfold ptrV at hcg hky hw0
  replace hky := Lib.hid hky
  unfold thV ptrV
  clear h hc hs b0 b1 hb0
  go_enter Try.func19, Try.ntmps19
  go_upto_region 1 with fail
  rw [hz.out, hw0.out]
  go_wp2_with fail
  refine hcg.mono ?_
  rintro e w' ⟨rfl, hw⟩
  obtain rfl := hw.symm
  clear hw hcg
  go_upto_region 2 with fail
  rw [hs0.out, hw2.out]
  clear c1 c2 hzl
  go_wp2_with fail
  refine hky.out.mono ?_
  rintro e w4 ⟨kv, rfl, hrow, hb4⟩
  obtain ⟨A, cc, rfl, hcc, hccm⟩ := own_form hrow
  have hb4' : Below w2.heap.size w2 w4 := by rw [hs2.out]; exact hb4
  have b04 : Blk w4 z _ _ := (hb4'.block z b02.out.lt).trans b02.out
  have b14 : Blk w4 (z + 1) _ _ := (hb4'.block (z + 1) b12.out.lt).trans b12.out
  have b24 : Blk w4 (z + 2) _ _ := (hb4'.block (z + 2) b22.out.lt).trans b22.out
  have hbz4 : Below z w w4 := hb2.out.trans (hb4.mono (by omega))
  unfold maxLen at hccm
  rw [hKL.out] at hcc ⊢
  have hP4 : PairsAt w4 (z + 2) (.slice none 0 0) (L.take 0) := World.ownsRow_nil _ _ _ _
  replace hrow := Lib.hid hrow
  replace b04 := Lib.hid b04
  replace b14 := Lib.hid b14
  replace b24 := Lib.hid b24
  replace hbz4 := Lib.hid hbz4
  replace hP4 := Lib.hid hP4
  clear hky hb4 hb4' d1 hzl2 b02 b12 b22 hb2
  go_wp2
  go_loopw [5] (fun nv wr => ∃ (i : Nat) (vL : Value), i ≤ KL ∧ nv = .int .i64 (i : Int) ∧ Hid (PairsAt wr (z + 2) vL (L.take i)) ∧ Hid (Blk wr (z + 2) [vL, .string s] 44) ∧ Hid (Fr (z + 2) PT (fun _ => False) w4 wr)) (fun nv _ => KL - (intOf nv).toNat)
  case atStart => exact ⟨0, _, Nat.zero_le _, rfl, hP4, b24, Fr.refl _ _ _ _⟩
  case round =>
    clear hP4 b24
    obtain ⟨i, vL, hi, rfl, hP, hZ, hF⟩ := hrel
    have hbw : Below (z + 2) w4 wr := hF.out.below (by have := b14.out.lt; omega)
    have b0r : Blk wr z _ _ := (hbw.block z (by omega)).trans b04.out
    have b1r : Blk wr (z + 1) _ _ := (hbw.block (z + 1) (by omega)).trans b14.out
    have hbzr : Below z w wr := hbz4.out.trans (hbw.mono (by omega))
    have e1 : wr.cell? ⟨z, 1, none⟩ = some (.pointer (some ⟨a.m, 0, none⟩)) := b0r.cell (i := 1) rfl
    have hzlr := b0r.lt
    by_cases hlt : i < KL
    · have hlt' : i < L.length := by rw [hKL.out]; exact hlt
      have hrr := own_fr hrow.out hF.out (not_PT (by decide)) (fun _ _ h => h)
      obtain ⟨_, g, rfl, hg1, hg2, hg3⟩ := own_str hrr hlt'
      have hge := fun n => th_get (hthb.out (wr.drewN n) (hbzr.trans (below_drewN (Below.refl _ wr) n))) L[i].1
      simp only [hcget.out i hlt', Option.getD_some, Option.isSome_some] at hge
      have htk : L.take (i + 1) = L.take i ++ [L[i]] := List.take_succ_eq_append_getElem hlt'
      generalize L[i] = p at hge htk hg3
      obtain ⟨key, val⟩ := p
      simp only at hge hg3
      have hne : g ≠ z + 2 := by
        obtain ⟨_, cur, hb⟩ := own_block hrr (g := g) rfl
        exact hb.ne hZ.out (by decide)
      unfold ptrV at hge
      replace hge := Lib.hid hge
      replace htk := Lib.hid htk
      replace hrr := Lib.hid hrr
      replace hbw := Lib.hid hbw
      replace b0r := Lib.hid b0r
      replace b1r := Lib.hid b1r
      replace hbzr := Lib.hid hbzr
      go_wp2_with fail
      go_quiet ((go_at_call 17; refine Calls.quiet_of_same (hge.out _)))
      go_wp2_with fail
      obtain ⟨q0, hq0⟩ : ∃ w1, wr.drewN nq = w1 := ⟨_, rfl⟩
      obtain ⟨q1, hq1⟩ : ∃ w1, q0.drew = w1 := ⟨_, rfl⟩
      have hq : wr.drewN (nq + 1) = q1 := by rw [← hq1, ← hq0]; rfl
      have hP1 : PairsAt q1 (z + 2) vL (L.take i) := by rw [← hq]; exact hP.out
      have hZ1 : Blk q1 (z + 2) [vL, .string s] 44 := by rw [← hq]; exact hZ.out
      have hF1 : Fr (z + 2) PT (fun _ => False) w4 q1 := by rw [← hq]; exact hF.out.trans (Fr.drewN _ _ _ _ _)
      have hg31 : q1.cell? ⟨g, i, none⟩ = some (.string key) := by rw [← hq]; exact hg3
      have hrr1 := own_fr hrr.out (Fr.drewN (z + 2) PT (fun _ => False) wr (nq + 1)) (not_PT (by decide)) (fun _ _ h => h)
      rw [hq] at hrr1
      have hg21 : g < q1.heap.size := by rw [← hq]; exact hg2
      rw [hq0]
      obtain ⟨v', W1, W2, W3, hW1, hrun, hfa, hfb, hZa, hZb, hW3, hPc, hZc, hFc⟩ := box_step hP1 hZ1 (Nat.le_refl _) (by rw [List.length_take]; omega) (key, val)
      obtain ⟨AL, cL, rfl, hcL, hcLm⟩ := own_form hP1
      have hil : (L.take i).length = i := by rw [List.length_take]; omega
      rw [hil] at hZ1 hrun hZa hZb hcL
      obtain ⟨AL2, cL2, rfl, hcL2, hcLm2⟩ := own_form hPc
      unfold maxLen at hcLm hcLm2
      have m0 : q1.cell? ⟨z + 2, 0, none⟩ = some (.slice AL i cL) := hZ1.cell (i := 0) rfl
      have ml := hZ1.lt
      have ka0 : W1.cell? ⟨z + 2, 0, none⟩ = some (.slice AL i cL) := hZa.cell (i := 0) rfl
      have kb0 : W2.cell? ⟨z + 2, 0, none⟩ = some (.slice AL i cL) := hZb.cell (i := 0) rfl
      have kbf := hZb.frozen 0
      have kbl := hZb.lt
      have keepc : ∀ W, Fr (z + 2) PT (fun _ => False) q1 W → W.cell? ⟨g, i, none⟩ = some (.string key) := fun W hW => by
        obtain ⟨_, cur, hb⟩ := own_block hrr1 (g := g) rfl
        exact (World.cell?_of_block (a := ⟨g, i, none⟩) ((hb.fr hW (not_PT (by decide)) (fun h => h)).trans hb.symm)).trans hg31
      have ka1 := keepc W1 hfa
      have kb1 := keepc W2 hfb
      have hl2 : (L.take i ++ [(key, val)]).length = i + 1 := by rw [List.length_append, hil]; rfl
      rw [hl2] at hrun hZc hW3 hPc hcL2
      rw [← htk.out] at hPc
      simp only at hW1
      have hF3 := hF1.trans hFc
      replace hF3 := Lib.hid hF3
      replace hPc := Lib.hid hPc
      replace hZc := Lib.hid hZc
      replace hrun := Lib.hid hrun
      replace hW1 := Lib.hid hW1
      replace hW3 := Lib.hid hW3
      replace hq1 := Lib.hid hq1
      clear keepc hfa hfb hZa hZb hFc hF1 hrr1 hP1 hZ1 hP hZ hF hrr hq hq0 htk hge hg3 hg2 e1 hzlr
      refine wp_region_last (L := 11) (S := (fun w' : World => w'.cell? ⟨z + 2, 0, none⟩ = some (.slice AL i cL) ∧ w'.cell? ⟨g, i, none⟩ = some (.string key))) (by kernel_rfl) ?_
      rw [hq1.out]
      have hS0 : (fun w' : World => w'.cell? ⟨z + 2, 0, none⟩ = some (.slice AL i cL) ∧ w'.cell? ⟨g, i, none⟩ = some (.string key)) q1 := ⟨m0, hg31⟩
      refine wpAnyT_takeT (n := 40) (i := 0) (v := .pointer (some ⟨z + 2, 0, none⟩)) rfl (by kernel_rfl) (by kernel_rfl) (by kernel_rfl) (by kernel_rfl) (by kernel_rfl) (fun _ _ _ h => h) (Or.inl ⟨by rfl, ?_⟩) hS0 ?_
      · intro W hW
        obtain ⟨k0, k1⟩ := hW
        clear hS0 m0 hg31 ka0 ka1 kb0 kb1
        go_simp
        try (intro hx; exfalso; omega)
      try simp only [Act.put, List.setIfInBounds_toArray]
      refine wpAnyT_takeT (n := 40) (i := 1) (v := .slice AL i cL) rfl (by kernel_rfl) (by kernel_rfl) (by kernel_rfl) (by kernel_rfl) (by kernel_rfl) (fun _ _ _ h => h) (Or.inl ⟨by rfl, ?_⟩) hS0 ?_
      · intro W hW
        obtain ⟨k0, k1⟩ := hW
        clear hS0 m0 hg31 ka0 ka1 kb0 kb1
        go_simp
        try (intro hx; exfalso; omega)
      try simp only [Act.put]
      refine wpAnyT_takeT (n := 40) (i := 2) (v := .slice (some ⟨g, 0, none⟩) KL cc) rfl (by kernel_rfl) (by kernel_rfl) (by kernel_rfl) (by kernel_rfl) (by kernel_rfl) (fun _ _ _ h => h) (Or.inl ⟨by rfl, ?_⟩) hS0 ?_
      · intro W hW
        obtain ⟨k0, k1⟩ := hW
        clear hS0 m0 hg31 ka0 ka1 kb0 kb1
        go_simp
        try (intro hx; exfalso; omega)
      try simp only [Act.put]
      refine wpAnyT_takeT (n := 40) (i := 3) (v := .int .i64 (i : Int)) rfl (by kernel_rfl) (by kernel_rfl) (by kernel_rfl) (by kernel_rfl) (by kernel_rfl) (fun _ _ _ h => h) (Or.inl ⟨by rfl, ?_⟩) hS0 ?_
      · intro W hW
        obtain ⟨k0, k1⟩ := hW
        clear hS0 m0 hg31 ka0 ka1 kb0 kb1
        go_simp
        try (intro hx; exfalso; omega)
      try simp only [Act.put]
      refine wpAnyT_takeT (n := 40) (i := 4) (v := .pointer (some ⟨g, i, none⟩)) rfl (by kernel_rfl) (by kernel_rfl) (by kernel_rfl) (by kernel_rfl) (by kernel_rfl) (fun _ _ _ h => h) (Or.inl ⟨by rfl, ?_⟩) hS0 ?_
      · intro W hW
        obtain ⟨k0, k1⟩ := hW
        clear hS0 m0 hg31 ka0 ka1 kb0 kb1
        go_simp
        try (intro hx; exfalso; omega)
      try simp only [Act.put]
      refine wpAnyT_takeT (n := 40) (i := 5) (v := .string key) rfl (by kernel_rfl) (by kernel_rfl) (by kernel_rfl) (by kernel_rfl) (by kernel_rfl) (fun _ _ _ h => h) (Or.inl ⟨by rfl, ?_⟩) hS0 ?_
      · intro W hW
        obtain ⟨k0, k1⟩ := hW
        clear hS0 m0 hg31 ka0 ka1 kb0 kb1
        go_simp
        try (intro hx; exfalso; omega)
      try simp only [Act.put]
      refine wpAnyT_takeT (n := 40) (i := 6) (v := .int .i64 val) rfl (by kernel_rfl) (by kernel_rfl) (by kernel_rfl) (by kernel_rfl) (by kernel_rfl) (fun _ _ _ h => h) (Or.inl ⟨by rfl, ?_⟩) hS0 ?_
      · intro W hW
        obtain ⟨k0, k1⟩ := hW
        clear hS0 m0 hg31 ka0 ka1 kb0 kb1
        go_simp
        try (intro hx; exfalso; omega)
      try simp only [Act.put]
      refine wpAnyT_takeT (n := 40) (i := 7) (v := .agg #[.string key, .int .i64 val]) rfl (by kernel_rfl) (by kernel_rfl) (by kernel_rfl) (by kernel_rfl) (by kernel_rfl) (fun _ _ _ h => h) (Or.inl ⟨by rfl, ?_⟩) hS0 ?_
      · intro W hW
        obtain ⟨k0, k1⟩ := hW
        clear hS0 m0 hg31 ka0 ka1 kb0 kb1
        go_simp
        try (intro hx; exfalso; omega)
      try simp only [Act.put]
      clear hS0
      refine wpAnyT_one (i := 8) rfl (by kernel_rfl) rfl ?_
      go_simp
      rw [hW1.out]
      try refine ⟨⟨ka0, ka1⟩, ?_⟩
      refine wpAnyT_one (i := 9) rfl (by kernel_rfl) rfl ?_
      refine wp_append_of (.tmp 32) (.tmp 39) 42 42 rfl _ _ _ W2 rfl rfl hrun.out ?_
      refine ⟨fun _ => ⟨kb0, kb1⟩, ?_⟩
      clear m0 hg31 ka0 ka1
      try simp only [Act.put, List.setIfInBounds_toArray]
      refine wpAnyT_one (i := 10) rfl (by kernel_rfl) rfl ?_
      go_simp
      refine wpAnyT_one (i := 11) rfl (by kernel_rfl) rfl ?_
      go_simp
      rw [hW3.out]
      refine wpAnyT_done (by kernel_rfl) ?_ _
      clear kb0 kb1 kbf
      go_wp2
      go_roundw
      case rel => exact ⟨i + 1, _, by omega, by go_num, hPc, hZc, hF3⟩
      case measure => simp [intOf]; omega
    · obtain rfl : i = KL := by omega
      have hfull : L.take i = L := by rw [← hKL.out]; exact List.take_length
      have hPr := hP.out
      rw [hfull] at hPr
      have z0 : wr.cell? ⟨z + 2, 0, none⟩ = some vL := hZ.out.cell (i := 0) rfl
      have z1 : wr.cell? ⟨z + 2, 1, none⟩ = some (.string s) := hZ.out.cell (i := 1) rfl
      have zl := hZ.out.lt
      have y0 : wr.cell? ⟨z + 1, 0, none⟩ = some (.slice none 0 0) := b1r.cell (i := 0) rfl
      have y1 : wr.cell? ⟨z + 1, 1, none⟩ = some (.string ⟨#[]⟩) := b1r.cell (i := 1) rfl
      have y0f := b1r.frozen 0
      have y1f := b1r.frozen 1
      have yl := b1r.lt
      obtain ⟨AL, cL, rfl, hcL, hcLm⟩ := own_form hPr
      unfold maxLen at hcLm
      have hS : Stp (fun b => b = z + 1) wr ((wr.setCell ⟨z + 1, 0, none⟩ (.slice AL L.length cL)).setCell ⟨z + 1, 1, none⟩ (.string s)) := (Stp.set (S := fun b => b = z + 1) rfl 0 _).trans (Stp.set (S := fun b => b = z + 1) rfl 1 _) (fun _ _ h => h)
      have b9 := (b1r.set 0 (.slice AL L.length cL)).set 1 (.string s)
      have hP9 : PairsAt ((wr.setCell ⟨z + 1, 0, none⟩ (.slice AL L.length cL)).setCell ⟨z + 1, 1, none⟩ (.string s)) z (.slice AL L.length cL) L := own_keep (own_base hPr (by omega)) fun g cur hg _ => hS.block g (own_block hPr hg).2.choose_spec.lt (by have := (own_block hPr hg).1; omega)
      have hb9 : Below z w ((wr.setCell ⟨z + 1, 0, none⟩ (.slice AL L.length cL)).setCell ⟨z + 1, 1, none⟩ (.string s)) := ⟨hS.os.trans hbzr.os, hS.tape.trans hbzr.tape, hS.output.trans hbzr.output, Nat.le_trans hbzr.size hS.size, fun b hb => (hS.block b (Nat.lt_of_lt_of_le hb (by have := hz.out; have := hbzr.size; omega)) (by omega)).trans (hbzr.block b hb)⟩
      obtain ⟨W9, hW9⟩ : ∃ W9, (wr.setCell ⟨z + 1, 0, none⟩ (.slice AL L.length cL)).setCell ⟨z + 1, 1, none⟩ (.string s) = W9 := ⟨_, rfl⟩
      rw [hW9] at hP9 hb9 b9
      have x0 : W9.cell? ⟨z + 1, 0, none⟩ = some (.slice AL L.length cL) := b9.cell (i := 0) rfl
      have x1 : W9.cell? ⟨z + 1, 1, none⟩ = some (.string s) := b9.cell (i := 1) rfl
      replace hP9 := Lib.hid hP9
      replace hb9 := Lib.hid hb9
      replace hW9 := Lib.hid hW9
      clear hS b9 hPr hP hZ hF hbw b0r hbzr b1r
      go_wp2
      rw [hW9.out]
      exact bodyPost_ret (v := .agg #[.slice AL L.length cL, .string s]) (by simp [results, Try.results19, go_sem, x0, x1]) rfl ⟨_, rfl, hP9.out, hb9.out⟩
end Go.Proofs.Ytcobfimafpfbpaa
