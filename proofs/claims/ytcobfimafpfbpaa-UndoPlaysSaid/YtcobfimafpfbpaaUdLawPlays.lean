/-
  UndoPlays answers true, and leaves memory as it was. Conditions: numbers of 64 bits.
-/
import Derived.Test.YtcobfimafpfbpaaUdAsked
import Derived.Test.YtcobfimafpfbpaaUdLawFull
namespace Go.Proofs.Ytcobfimafpfbpaa
open Go Go.Proofs Go.RowKit Go.ChangeMaps

theorem not_logT2 {ty : TypeId} (h : (ty == 82 || ty == 86 || ty == 1 || ty == 88) = false) : ¬ LogT ty := by
  intro k
  rcases k with k | k | k | k <;> (subst k; revert h; decide)
section
variable {w w' : World} {B : Nat} {Q : Nat → Prop} {a : Ad} {pot : Nat} {t : Tg}
theorem NoteAt.keepQ {mb cb : Nat} {v : Value} {n : Nt} (h : NoteAt w Q mb cb v n) (k : ∀ b cur ty, Blk w b cur ty → NoteT ty → (ty = 3 → Q b) → Blk w' b cur ty) : NoteAt w' Q mb cb v n := by
  cases n with
  | put key x =>
    obtain ⟨b0, b1, b2, b3, hv, hQ, h0, h1, h2, h3⟩ := h
    exact ⟨b0, b1, b2, b3, hv, hQ, k _ _ _ h0 (.inl rfl) (fun e => absurd e (by decide)), k _ _ _ h1 (.inr (.inl rfl)) (fun _ => hQ), k _ _ _ h2 (.inr (.inr (.inl rfl))) (fun e => absurd e (by decide)), k _ _ _ h3 (.inr (.inr (.inr (.inl rfl)))) (fun e => absurd e (by decide))⟩
  | del key =>
    obtain ⟨b0, b1, b2, b3, hv, h0, h2, h3⟩ := h
    exact ⟨b0, b1, b2, b3, hv, k _ _ _ h0 (.inl rfl) (fun e => absurd e (by decide)), k _ _ _ h2 (.inr (.inr (.inl rfl))) (fun e => absurd e (by decide)), k _ _ _ h3 (.inr (.inr (.inr (.inl rfl)))) (fun e => absurd e (by decide))⟩
  | cell s =>
    obtain ⟨b0, b1, hv, h0, h1⟩ := h
    exact ⟨b0, b1, hv, k _ _ _ h0 (.inr (.inr (.inr (.inl rfl)))) (fun e => absurd e (by decide)), k _ _ _ h1 (.inr (.inr (.inr (.inr rfl)))) (fun e => absurd e (by decide))⟩
/-- What the document's answer changes is none of things'. -/
theorem ThAt.ref {B' : Nat} {hv : Value} (h : ThAt w B Q a pot t) (f : FrR B' hv w w') (hQ : ∀ b, Q b → ¬ hv.ownBlock = some b) (hi : ∀ b, hv.ownBlock = some b → ∃ cur, Blk w b cur 3) : ThAt w' B Q a pot t := by
  obtain ⟨ms, fs, es, h1, h2, h3, h4, h5, h6, h7, h8, h9⟩ := h
  have hk : ∀ b cur ty, Blk w b cur ty → ¬ RT ty → (ty = 3 → Q b) → Blk w' b cur ty := fun b cur ty hb hr hq => hb.fr f hr fun e => by
    obtain ⟨cur', hb'⟩ := hi b e
    by_cases hty : ty = 3
    · exact hQ b (hq hty) e
    · exact hb'.ne hb (Ne.symm hty) rfl
  have kl : KeepL w w' := ⟨f.size, fun b cur ty fz hb ht => f.keep b (Array.getElem?_eq_some_iff.1 hb).1 (.inr ⟨fun e => by
      obtain ⟨cur', hb'⟩ := hi b e
      have := hb'.symm.trans hb
      simp only [Option.some.injEq, Obj.cells.injEq] at this
      rw [← this.2.1] at ht
      exact absurd ht (not_logT2 (by decide)), fun cur' ty' f' hb' => by
      rw [hb] at hb'
      simp only [Option.some.injEq, Obj.cells.injEq] at hb'
      rw [← hb'.2.1]
      intro hr
      rcases hr with hr | hr <;> (rw [hr] at ht; exact absurd ht (not_logT2 (by decide)))⟩)⟩
  refine ⟨ms, fs, es, h1.keep kl, ?_, ⟨h3.hB, hk _ _ _ h3.blk (not_RT (by decide)) (fun e => absurd e (by decide))⟩, h4, h5, fun i n hin => ?_, h7, h8, h9⟩
  · have hmb := hk _ _ _ h2.blk (not_RT (by decide)) (fun e => absurd e (by decide))
    refine ⟨h2.hB, h2.hO, hmb, h2.map.keep (f.keep _ h2.map.lt (.inr ⟨fun e => ?_, fun _ _ _ hc => absurd hc h2.map.no_cells⟩))⟩
    obtain ⟨cur', hb'⟩ := hi _ e
    exact h2.map.no_cells hb'
  · obtain ⟨v, hv, hn⟩ := h6 i n hin
    refine ⟨v, hv, hn.keepQ fun b cur ty hb ht hq => hk b cur ty hb (fun hr => ?_) hq⟩
    rcases hr with rfl | rfl <;> (rcases ht with ht | ht | ht | ht | ht <;> exact absurd ht (by decide))
end

set_option maxHeartbeats 4000000 in
set_option maxRecDepth 100000 in
theorem lawPlays_far (l : List Opd) (m n : Int) (v : Value) (w : World) (h : Ops w v l) (hn : fewB l = false) :
    Calls Try.prog 3 #[v, .int .i64 m, .int .i64 n] w fun e w' => e = .returned (.bool true) ∧ Below w.heap.size w w' := by
  have haw := awake_any w
  have hfw := few_any l v w h
  obtain ⟨A, c, rfl, hc, hcm⟩ := h.form
  rw [hn] at hfw
  clear h
  go_enter Try.func3, Try.ntmps3
  go_wp2_with fail
  refine hfw.mono ?_
  rintro e w' ⟨rfl, hw⟩
  obtain rfl := hw.symm
  clear hfw hw
  go_wp2_with fail
  refine haw.mono ?_
  rintro e w' ⟨rfl, hb⟩
  replace hb := Lib.hid hb
  go_wp2
  go_ret
  exact ⟨rfl, hb.out⟩
set_option maxHeartbeats 4000000 in
set_option maxRecDepth 100000 in
theorem lawPlays_no (l : List Opd) (m n : Int) (v : Value) (w : World) (h : Ops w v l) (hf : fewB l = true) (hn : m < 0 ∨ 1048576 < m ∨ n < 1 ∨ 1024 < n) :
    Calls Try.prog 3 #[v, .int .i64 m, .int .i64 n] w fun e w' => e = .returned (.bool true) ∧ Below w.heap.size w w' := by
  have haw := fun W => awake_any W
  have hfw := few_any l v w h
  rw [hf] at hfw
  obtain ⟨A, c, rfl, hc, hcm⟩ := h.form
  have hnew := begun_no m n w hn
  have hrn := fun W => rNew_no m n W hn
  replace haw := Lib.hid haw
  replace hrn := Lib.hid hrn
  clear h hn
  go_enter Try.func3, Try.ntmps3
  go_wp2_with fail
  refine hfw.mono ?_
  rintro e w' ⟨rfl, hw⟩
  obtain rfl := hw.symm
  clear hfw hw
  go_wp2_with fail
  refine hnew.mono ?_
  rintro e w1 ⟨m1, c1, rfl, hb1⟩
  have hb2 := hb1.alloc hb1.size (.cells #[.pointer none, ptrV m1, ptrV c1] 29)
  have hzb : Blk (w1.alloc (.cells #[.pointer none, ptrV m1, ptrV c1] 29)) w1.heap.size [.pointer none, ptrV m1, ptrV c1] 29 := Blk.new w1 _ _
  unfold ptrV at hb2 hzb ⊢
  clear hnew hb1
  go_upto_region 4 with fail
  obtain ⟨z, hz⟩ : ∃ z, w1.heap.size = z := ⟨_, rfl⟩
  rw [hz] at hzb ⊢
  generalize w1.alloc (.cells #[.pointer none, .pointer (some ⟨m1, 0, none⟩), .pointer (some ⟨c1, 0, none⟩)] 29) = v0 at hzb hb2 ⊢
  have c0 : v0.cell? ⟨z, 0, none⟩ = some (.pointer none) := hzb.cell (i := 0) rfl
  have hzl := hzb.lt
  have hr := hrn.out v0
  have ha := haw.out v0
  replace hb2 := Lib.hid hb2
  replace ha := Lib.hid ha
  clear hz hzb
  go_wp2_with fail
  refine hr.mono ?_
  rintro e w' ⟨rfl, hw⟩
  obtain rfl := hw.symm
  clear hr hw
  go_wp2_with fail
  refine ha.out.mono ?_
  rintro e w' ⟨rfl, hb⟩
  have hfin := hb2.out.trans (hb.mono hb2.out.size)
  replace hfin := Lib.hid hfin
  clear hb ha
  go_wp2
  go_ret
  exact ⟨rfl, hfin.out⟩

set_option maxHeartbeats 8000000 in
set_option maxRecDepth 100000 in
theorem lawPlays_ok (l : List Opd) (M N : Nat) (v : Value) (w : World) (h : Ops w v l) (hf : fewB l = true) (hM : M ≤ 1048576) (hN1 : 1 ≤ N) (hN2 : N ≤ 1024) :
    Calls Try.prog 3 #[v, .int .i64 (M : Int), .int .i64 (N : Int)] w fun e w' => e = .returned (.bool true) ∧ Below w.heap.size w w' := by
  have haw := fun W => awake_any W
  have hfw := few_any l v w h
  rw [hf] at hfw
  obtain ⟨hl60, hkeys⟩ := few_true hf
  have hin : ∀ k (hk : k < l.length), In64 l[k].1 := fun k hk => (h.2 _ (List.getElem_mem hk)).1
  obtain ⟨A, c, rfl, hc, hcm⟩ := h.form
  have hat := fun w' i hi (hb : Below w.heap.size w w') => h.at_ hb i hi
  have hnew := begun_ok M N (fun b => b < w.heap.size + 0) w hM hN1 hN2
  have hrn := fun W (hB : w.heap.size ≤ W.heap.size) => rNew_yes M N w.heap.size W hM hN1 hN2 hB
  clear h hf
  obtain ⟨KL, hKL⟩ : ∃ K, l.length = K := ⟨_, rfl⟩
  rw [hKL] at hc hl60 hfw ⊢
  unfold maxLen at hcm
  unfold thV ptrV at hnew
  unfold ptrV at hrn
  replace haw := Lib.hid haw
  replace hat := Lib.hid hat
  replace hnew := Lib.hid hnew
  replace hrn := Lib.hid hrn
  replace hKL := Lib.hid hKL
  replace hkeys := Lib.hid hkeys
  replace hin := Lib.hid hin
  go_enter Try.func3, Try.ntmps3
  go_wp2_with fail
  refine hfw.mono ?_
  rintro e w' ⟨rfl, hw⟩
  obtain rfl := hw.symm
  clear hfw hw
  go_wp2_with fail
  refine hnew.out.mono ?_
  rintro e w1 ⟨a, rfl, hT1, hb1⟩
  have hL0 := ThL.start hT1 hb1
  unfold ptrV at hL0
  clear hnew hT1 hb1
  go_upto_region 4 with fail
  obtain ⟨z, hz⟩ : ∃ z, w1.heap.size = z := ⟨_, rfl⟩
  rw [hz] at hL0 ⊢
  generalize w1.alloc (.cells #[.pointer (some ⟨a.l, 0, none⟩), .pointer (some ⟨a.m, 0, none⟩), .pointer (some ⟨a.c, 0, none⟩)] 29) = v0 at hL0 ⊢
  have hr := hrn.out v0 hL0.below.size
  replace hL0 := Lib.hid hL0
  replace hr := Lib.hid hr
  clear hz
  go_wp2_with fail
  refine hr.out.mono ?_
  rintro e w2 ⟨rfl, hR2, hb2⟩
  obtain ⟨rb, hrb⟩ : ∃ rb, v0.heap.size = rb := ⟨_, rfl⟩
  have hL2 := hL0.out.same hb2
  rw [hrb] at hR2 ⊢
  have c0 := hL2.c0
  have hzl := hL2.zb.lt
  have hcor : Corr (new0 M N) ⟨M, N, [], ⟨#[]⟩, [], 0, []⟩ := ⟨rfl, rfl, Canon.nil, rfl, rfl, rfl, rfl, fun i x p hx _ => (by cases hx)⟩
  replace hL2 := Lib.hid hL2
  replace hR2 := Lib.hid hR2
  replace hcor := Lib.hid hcor
  clear hr hb2 hrb hL0
  go_wp2
  clear c0 hzl
  go_loopw [11] (fun nv wr => ∃ (i pot : Nat) (Q : Nat → Prop) (t : Tg) (vL wv hv : Value) (r : Rg), i ≤ KL ∧ nv = .int .i64 (i : Int) ∧ pot ≤ 2 * i ∧ t.nest = N ∧ Hid (ThL w wr Q a z pot t) ∧ Hid (RefAt wr w.heap.size rb vL wv hv r) ∧ Hid (Corr t r) ∧ Hid (∀ b, Q b → ¬ hv.ownBlock = some b)) (fun nv _ => KL - (intOf nv).toNat)
  case atStart => exact ⟨0, 0, _, _, _, _, _, _, Nat.zero_le _, rfl, Nat.zero_le _, rfl, hL2, hR2, hcor, Lib.hid (fun b _ e => by cases e)⟩
  case round =>
    clear hL2 hR2 hcor
    obtain ⟨i, pot, Q, t, vL, wv, hv, r, hi, rfl, hpot, hnest, hL, hR, hC, hQ⟩ := hrel
    have c0 := hL.out.c0
    have c1 := hL.out.c1
    have c2 := hL.out.c2
    have hzl := hL.out.zb.lt
    by_cases hlt : i < KL
    · have hlt' : i < l.length := by rw [hKL.out]; exact hlt
      have hio := hin.out i hlt'
      have hko := hkeys.out i hlt'
      have hati := fun w' hb => hat.out w' i hlt' hb
      generalize l[i] = o at hio hko hati
      obtain ⟨b, off, rfl, hbl, e0, e1, e2⟩ := hati wr hL.out.below
      have hdo := fun n => does_any (hL.out.th.below (drewN_below wr n)) o hio hko
      have hkp : ∀ w', Below w.heap.size w w' → ThL w w' (moreQ Q wr) a z (pot + 2) (t.step o).2.2 → OpAt w' z a b off i o := fun w' hb hT => by
        obtain ⟨b', off', he, _, h0, h1, h2⟩ := hati w' hb
        cases he
        exact ⟨hT.c0, hT.c1, hT.c2, h0, h1, h2⟩
      have hrl : r.L.length ≤ 99999 := by
        obtain ⟨L0, hL0, hl0⟩ := th_canon hL.out.th
        rw [hC.out.can.unique hL0]; omega
      have hg0 := hL.out.th.good
      have has := fun W (hR' : RefAt W w.heap.size rb vL wv hv r) => asked_any hR' hC.out (by omega) hg0 hrl o hio
      obtain ⟨q0, q1, q2⟩ := o
      unfold opV thV ptrV at hdo
      unfold opV ptrV at has
      unfold OpAt at hkp
      simp only at e0 e1 e2 hdo hkp has
      have hstep : ∀ n w', ThAt w' w.heap.size (moreQ Q (wr.drewN n)) a (pot + 2) (t.step (q0, q1, q2)).2.2 → FrT w.heap.size a.o (wr.drewN n) w' → ThL w w' (moreQ Q wr) a z (pot + 2) (t.step (q0, q1, q2)).2.2 := fun n w' h1 h2 => (hL.out.same (drewN_below wr n)).step h1 h2
      replace hdo := Lib.hid hdo
      replace hkp := Lib.hid hkp
      replace hstep := Lib.hid hstep
      replace hati := Lib.hid hati
      replace has := Lib.hid has
      replace hg0 := Lib.hid hg0
      go_upto_region 12 with fail
      go_region_held3 (fun w' => w'.cell? ⟨z, 0, none⟩ = some (.pointer (some ⟨a.l, 0, none⟩)) ∧ w'.cell? ⟨z, 1, none⟩ = some (.pointer (some ⟨a.m, 0, none⟩)) ∧ w'.cell? ⟨z, 2, none⟩ = some (.pointer (some ⟨a.c, 0, none⟩)) ∧ w'.cell? ⟨b, off + i * 3, none⟩ = some (.int .i64 q0) ∧ w'.cell? ⟨b, off + i * 3 + 1, none⟩ = some (.string q1) ∧ w'.cell? ⟨b, off + i * 3 + 2, none⟩ = some (.int .i64 q2))
        (first | go_keep | exact hk)
        ((go_at_call 12; refine (hdo.out _).mono ?_; rintro e w5 ⟨rfl, hT5, hF5⟩; have hL5 := hstep.out _ w5 hT5 hF5; have hk := hkp.out w5 hL5.below hL5))
      replace hF5 : FrT w.heap.size a.o wr w5 := Fr.trans (Fr.drewN _ _ _ wr _) hF5
      have hR5 : RefAt w5 w.heap.size rb vL wv hv r := hR.out.fr hF5 (not_thT (by decide)) (not_thT (by decide)) (not_thT (by decide)) (not_thT (by decide)) (fun _ _ _ hb => hL.out.th.ne_o hb)
      have hQ5 : ∀ b, moreQ Q wr b → ¬ hv.ownBlock = some b := fun b hb e => by
        rcases hb with hb | hb
        · exact hQ.out b hb e
        · obtain ⟨_, cur, hx⟩ := own_block hR.out.hrow e
          have := hx.lt
          omega
      obtain ⟨b', off', eb, hbl5, e05, e15, e25⟩ := hati.out w5 hL5.below
      cases eb
      have has5 := has.out w5 hR5
      have hnst : (t.step (q0, q1, q2)).2.2.nest = N := by rw [(step_par t _).2, hnest]
      generalize (t.step (q0, q1, q2)).2.2 = t' at hL5 has5 hnst ⊢
      generalize (t.step (q0, q1, q2)).2.1 = f at has5 ⊢
      generalize (t.step (q0, q1, q2)).1 = nn at has5 ⊢
      replace hL5 := Lib.hid hL5
      replace hR5 := Lib.hid hR5
      replace hQ5 := Lib.hid hQ5
      replace has5 := Lib.hid has5
      clear hstep hdo hkp hk hT5 hF5 hL hR hC hQ has hg0 c0 c1 c2 e0 e1 e2
      go_wp2_with fail
      refine has5.out.mono ?_
      rintro e w6 ⟨rfl, vL', wv', hv', r', hR6, hC6, hF6, ho6⟩
      have hint : ∀ b, hv.ownBlock = some b → ∃ cur, Blk w5 b cur 3 := fun b e => by
        obtain ⟨_, cur, hx⟩ := own_block hR5.out.hrow e
        exact ⟨cur, hx⟩
      have hT6 := (hL5.out.th.mono (Q' := fun b => moreQ Q wr b ∧ b < w5.heap.size) (Nat.le_refl _) (fun b hb hq => ⟨hq, hb⟩)).ref hF6 (fun b hb => hQ5.out b hb.1) hint
      have hQ6 : ∀ b, (moreQ Q wr b ∧ b < w5.heap.size) → ¬ hv'.ownBlock = some b := fun b hb e => by
        rcases ho6 with ho | ⟨g, hg, hge⟩
        · rw [ho] at e
          exact hQ5.out b hb.1 e
        · rw [hg] at e
          cases e
          exact absurd hb.2 (by omega)
      have hzb6 : Blk w6 z [ptrV a.l, ptrV a.m, ptrV a.c] 29 := hL5.out.zb.fr hF6 (not_RT (by decide)) (fun e => by
        obtain ⟨cur, hx⟩ := hint _ e
        exact hx.ne hL5.out.zb (by decide) rfl)
      have hbw6 : Below w.heap.size w w6 := hL5.out.below.trans (hF6.below hL5.out.below.size)
      have hL6 : ThL w w6 (fun b => moreQ Q wr b ∧ b < w5.heap.size) a z (pot + 2) t' := ⟨hT6, hzb6, hL5.out.ne, hbw6, hL5.out.hz⟩
      obtain ⟨AW, cW, hwv, hcW, hcWm⟩ := own_form hR6.wrow
      obtain ⟨AL, cL, hvL, hcL, hcLm⟩ := own_form hR6.pl
      have hrl6 := hR6.ll
      have hsm := fun n => same_any (sc := r'.s) (hL6.th.below (drewN_below w6 n)) hC6.can hrl6 (by omega) (hR6.below (drewN_below w6 n)).pl
      rw [show decide (r'.L = r'.L ∧ t'.cur.s = r'.s) = true by simp [hC6.s]] at hsm
      have hmkW := fun W (hb : Below w6.heap.size w6 W) => th_marks (hL6.th.below hb)
      have hlnW := fun W (hb : Below w6.heap.size w6 W) => th_lenN (hL6.th.below hb)
      have hgeW := fun W (hb : Below w6.heap.size w6 W) => th_get (hL6.th.below hb) q1
      have hrgW := fun W (hb : Below w6.heap.size w6 W) => rGet_any (hR6.below hb) q1
      simp only [hC6.can.has] at hrgW
      have hkeep : ∀ W, Below w6.heap.size w6 W → W.cell? ⟨z, 0, none⟩ = some (.pointer (some ⟨a.l, 0, none⟩)) ∧ W.cell? ⟨z, 1, none⟩ = some (.pointer (some ⟨a.m, 0, none⟩)) ∧ W.cell? ⟨z, 2, none⟩ = some (.pointer (some ⟨a.c, 0, none⟩)) ∧ W.cell? ⟨rb, 2, none⟩ = some vL' ∧ W.cell? ⟨rb, 3, none⟩ = some (.string r'.s) ∧ W.cell? ⟨rb, 4, none⟩ = some wv' ∧ W.cell? ⟨rb, 5, none⟩ = some (.int .i64 (r'.n : Int)) := fun W hb => by
        have h1 := hL6.same hb
        have h2 := (hR6.below hb).blk
        exact ⟨h1.c0, h1.c1, h1.c2, h2.cell (i := 2) rfl, h2.cell (i := 3) rfl, h2.cell (i := 4) rfl, h2.cell (i := 5) rfl⟩
      have hopk : ∀ W, Below w6.heap.size w6 W → z < W.heap.size ∧ b < W.heap.size ∧ rb < W.heap.size ∧ W.cell? ⟨b, off + i * 3 + 1, none⟩ = some (.string q1) := fun W hb => by
        have h1 := hL6.same hb
        obtain ⟨b', off', he, h2, _, h3, _⟩ := hati.out W h1.below
        cases he
        exact ⟨h1.zb.lt, h2, (hR6.below hb).blk.lt, h3⟩
      rw [hvL] at hkeep hsm
      rw [hwv, hC6.wl] at hkeep
      rw [hC6.wl] at hcW
      rw [hC6.n] at hkeep
      obtain ⟨KW, hKW⟩ : ∃ K, t'.was.length = K := ⟨_, rfl⟩
      obtain ⟨KN, hKN⟩ : ∃ K, t'.ns.length = K := ⟨_, rfl⟩
      obtain ⟨KL', hKL'⟩ : ∃ K, r'.L.length = K := ⟨_, rfl⟩
      obtain ⟨VV, hVV⟩ : ∃ V, (t'.cur.f q1).getD 0 = V := ⟨_, rfl⟩
      obtain ⟨EE, hEE⟩ : ∃ V, (t'.cur.f q1).isSome = V := ⟨_, rfl⟩
      obtain ⟨rs, hrs⟩ : ∃ s, r'.s = s := ⟨_, rfl⟩
      simp only [hVV, hEE] at hgeW hrgW
      simp only [hKW, hKN, hKL', hrs] at hkeep hmkW hlnW hsm
      rw [hKW] at hcW
      rw [hKL'] at hcL
      obtain ⟨k0, k1, k2, k3, k4, k5, k6⟩ := hkeep w6 (Below.refl _ _)
      obtain ⟨j0, j1, j2, j3⟩ := hopk w6 (Below.refl _ _)
      unfold maxLen at hcWm hcLm
      unfold thV ptrV at hsm
      unfold ptrV at hmkW hlnW hgeW hrgW
      replace hsm := Lib.hid hsm
      replace hmkW := Lib.hid hmkW
      replace hlnW := Lib.hid hlnW
      replace hgeW := Lib.hid hgeW
      replace hrgW := Lib.hid hrgW
      replace hkeep := Lib.hid hkeep
      replace hopk := Lib.hid hopk
      replace hL6 := Lib.hid hL6
      replace hR6 := Lib.hid hR6
      replace hC6 := Lib.hid hC6
      replace hQ6 := Lib.hid hQ6
      replace hati := Lib.hid hati
      clear hKW hKN hKL' hVV hEE hrs hwv hvL hT6 hzb6 hbw6 hint hF6 ho6 has5 hL5 hR5 hQ5 e05 e15 e25 hbl5
      go_upto_region 14 with fail
      go_region_held3 (fun w' => w'.cell? ⟨z, 0, none⟩ = some (.pointer (some ⟨a.l, 0, none⟩)) ∧ w'.cell? ⟨z, 1, none⟩ = some (.pointer (some ⟨a.m, 0, none⟩)) ∧ w'.cell? ⟨z, 2, none⟩ = some (.pointer (some ⟨a.c, 0, none⟩)) ∧ w'.cell? ⟨rb, 2, none⟩ = some (.slice AL KL' cL) ∧ w'.cell? ⟨rb, 3, none⟩ = some (.string rs) ∧ w'.cell? ⟨rb, 4, none⟩ = some (.slice AW KW cW) ∧ w'.cell? ⟨rb, 5, none⟩ = some (.int .i64 (KN : Int)))
        (first | go_keep | exact hk)
        ((first
          | (go_at_call 14; refine (hsm.out _).mono ?_; rintro e w7 ⟨rfl, hb7'⟩; have hb7 : Below w6.heap.size w6 w7 := (drewN_below w6 _).trans hb7'; have hk := hkeep.out w7 hb7; have hj := hopk.out w7 hb7)
          | (go_at_call 15; refine (hmkW.out _ hb7).mono ?_; rintro e w' ⟨rfl, hw⟩; obtain rfl := hw.symm; clear hw)
          | (go_at_call 16; refine (hlnW.out _ hb7).mono ?_; rintro e w' ⟨rfl, hw⟩; obtain rfl := hw.symm; clear hw)))
      have hge := fun n => hgeW.out (w7.drewN n) (hb7.trans (drewN_below w7 n |>.mono hb7.size))
      have hrg := fun W hb => hrgW.out W hb
      obtain ⟨m0, m1, m2, m3, m4, m5, m6⟩ := hk
      obtain ⟨n0, n1, n2, n3⟩ := hj
      replace hge := Lib.hid hge
      replace hrg := Lib.hid hrg
      replace hb7 := Lib.hid hb7
      clear k0 k1 k2 k3 k4 k5 k6 j0 j1 j2 j3 hb7' hsm hmkW hlnW
      go_wp2_with fail
      go_quiet ((go_at_call 17; refine Calls.quiet_of_same (hge.out _)))
      go_wp2_with fail
      obtain ⟨w8, hw8⟩ : ∃ w8, w7.drewN nq = w8 := ⟨_, rfl⟩
      have hb8 : Below w6.heap.size w6 w8 := by rw [← hw8]; exact hb7.out.trans (drewN_below w7 nq |>.mono hb7.out.size)
      rw [hw8]
      have hrg8 := hrg.out w8 hb8
      obtain ⟨p0, p1, p2, p3⟩ := hopk.out w8 hb8
      have hL8 := hL6.out.same hb8
      have hR8 := hR6.out.below hb8
      replace hrg8 := Lib.hid hrg8
      replace hL8 := Lib.hid hL8
      replace hR8 := Lib.hid hR8
      clear hw8 hb8 hb7 hge hrg m0 m1 m2 m3 m4 m5 m6 n0 n1 n2 n3 hkeep hopk hati hgeW hrgW hL6 hR6
      go_wp2_with fail
      refine hrg8.out.mono ?_
      rintro e w' ⟨rfl, hw⟩
      obtain rfl := hw.symm
      clear hrg8 hw p3
      go_wp2
      go_roundw
      case rel => exact ⟨i + 1, pot + 2, _, t', vL', wv', hv', r', by omega, by go_num, by omega, hnst, hL8, hR8, hC6, hQ6⟩
      case measure => simp [intOf]; omega
    · obtain rfl : i = KL := by omega
      have haw2 := haw.out wr
      have hbw := hL.out.below
      replace haw2 := Lib.hid haw2
      replace hbw := Lib.hid hbw
      clear c0 c1 c2
      go_wp2_with fail
      refine haw2.out.mono ?_
      rintro e w' ⟨rfl, hb⟩
      have hfin := hbw.out.trans (hb.mono hbw.out.size)
      replace hfin := Lib.hid hfin
      clear haw2 hb
      go_wp2
      go_ret
      exact ⟨rfl, hfin.out⟩
/-- All ways. -/
theorem lawPlays_any (l : List Opd) (m n : Int) (v : Value) (w : World) (h : Ops w v l) (_ : In64 m) (_ : In64 n) :
    Calls Try.prog 3 #[v, .int .i64 m, .int .i64 n] w fun e w' => e = .returned (.bool true) ∧ Below w.heap.size w w' := by
  cases hf : fewB l with
  | false => exact lawPlays_far l m n v w h hf
  | true =>
    by_cases hn : m < 0 ∨ 1048576 < m ∨ n < 1 ∨ 1024 < n
    · exact lawPlays_no l m n v w h hf hn
    · obtain ⟨M, rfl⟩ : ∃ M : Nat, m = (M : Int) := ⟨m.toNat, by omega⟩
      obtain ⟨N, rfl⟩ : ∃ N : Nat, n = (N : Int) := ⟨n.toNat, by omega⟩
      exact lawPlays_ok l M N v w h hf (by omega) (by omega) (by omega)
end Go.Proofs.Ytcobfimafpfbpaa
