/-
  asked: a call with the document's answer; it answers as the package does, and what both have stays the same. Conditions: few keys, keys of at most 100 bytes.
-/
import Derived.Test.YtcobfimafpfbpaaUdRef4
namespace Go.Proofs.Ytcobfimafpfbpaa
open Go Go.Proofs Go.RowKit Go.ChangeMaps

/-- Both have the same. -/
structure Corr (t : Tg) (r : Rg) : Prop where
  most : r.most = t.most
  nest : r.nest = t.nest
  can : Canon t.cur.f r.L
  s : t.cur.s = r.s
  n : r.n = t.ns.length
  had : r.had = t.was.map (·.1)
  wl : r.was.length = t.was.length
  was : ∀ (i : Nat) (x : Ws) (p : Nat × St), r.was[i]? = some x → t.was[i]? = some p → Canon p.2.f x.2.1 ∧ p.2.s = x.2.2
section
variable {t : Tg} {r : Rg}
theorem Corr.nil (c : Corr t r) : r.was = [] ↔ t.was = [] := by rw [← List.length_eq_zero_iff, ← List.length_eq_zero_iff, c.wl]
theorem Corr.full (c : Corr t r) : r.full ↔ t.full := by
  unfold Rg.full Tg.full
  rw [c.n, c.most, ne_eq, c.nil]
theorem Corr.noted (c : Corr t r) (n : Nt) {st : St} {L : Es} {s : ByteArray} (hL : Canon st.f L) (hs : st.s = s) : Corr (t.noted n st) { r.noted with L := L, s := s } := by
  refine ⟨c.most, c.nest, hL, hs, ?_, c.had, c.wl, c.was⟩
  show (if r.was = [] then r.n else r.n + 1) = (if t.was = [] then t.ns else t.ns ++ [n]).length
  by_cases h : t.was = []
  · rw [if_pos (c.nil.2 h), if_pos h, c.n]
  · rw [if_neg (fun e => h (c.nil.1 e)), if_neg h, c.n, List.length_append]; rfl
theorem Corr.put (c : Corr t r) (k : ByteArray) (v : Int) : (r.put k v).1 = (t.put k v).1 ∧ Corr (t.put k v).2 (r.put k v).2 := by
  unfold Rg.put Tg.put
  by_cases h : t.full
  · rw [if_pos (c.full.2 h), if_pos h]; exact ⟨rfl, c⟩
  · rw [if_neg (fun e => h (c.full.1 e)), if_neg h]
    exact ⟨rfl, c.noted _ (c.can.put k v) c.s⟩
theorem Corr.del (c : Corr t r) (k : ByteArray) : (r.del k).1 = (t.del k).1 ∧ Corr (t.del k).2 (r.del k).2 := by
  unfold Rg.del Tg.del
  rw [c.can.has k]
  by_cases h0 : t.cur.f k = none
  · rw [if_pos h0, if_pos h0]; exact ⟨rfl, c⟩
  · rw [if_neg h0, if_neg h0]
    by_cases h : t.full
    · rw [if_pos (c.full.2 h), if_pos h]; exact ⟨rfl, c⟩
    · rw [if_neg (fun e => h (c.full.1 e)), if_neg h]
      exact ⟨rfl, c.noted _ (c.can.del k) c.s⟩
theorem Corr.mark (c : Corr t r) (vL : Value) : Corr t.marked { r with was := r.was ++ [(vL, r.L, r.s)], had := r.had ++ [r.n] } := by
  refine ⟨c.most, c.nest, c.can, c.s, c.n, ?_, ?_, fun i x p hx hp => ?_⟩
  · show r.had ++ [r.n] = (t.was ++ [(t.ns.length, t.cur)]).map (·.1)
    rw [List.map_append, c.had, c.n]; rfl
  · show (r.was ++ [(vL, r.L, r.s)]).length = (t.was ++ [(t.ns.length, t.cur)]).length
    rw [List.length_append, List.length_append, c.wl]; rfl
  · replace hp : (t.was ++ [(t.ns.length, t.cur)])[i]? = some p := hp
    replace hx : (r.was ++ [(vL, r.L, r.s)])[i]? = some x := hx
    rcases Nat.lt_or_ge i t.was.length with hlt | hge
    · rw [List.getElem?_append_left hlt] at hp
      rw [List.getElem?_append_left (by rw [c.wl]; exact hlt)] at hx
      exact c.was i x p hx hp
    · rw [List.getElem?_append_right hge] at hp
      rw [List.getElem?_append_right (by rw [c.wl]; exact hge), c.wl] at hx
      cases hd : i - t.was.length with
      | zero => rw [hd] at hp hx; cases hp; cases hx; exact ⟨c.can, c.s⟩
      | succ n => rw [hd] at hp; cases hp
theorem Corr.undo {ws : List (Nat × St)} {p : Nat × St} {wr : List Ws} {x : Ws} {hs : List Nat} {m : Nat} (c : Corr t r) (hg : t.Good) (hw : t.was = ws ++ [p]) (hr : r.was = wr ++ [x]) (hh : r.had = hs ++ [m]) : Corr (t.undone ws p) { r with L := x.2.1, s := x.2.2, n := m, was := wr, had := hs } := by
  have hl := c.wl
  rw [hw, hr, List.length_append, List.length_append] at hl
  have hll : wr.length = ws.length := by simpa using hl
  have hlast := c.was ws.length x p (by rw [hr, ← hll, List.getElem?_append_right (Nat.le_refl _), Nat.sub_self]; rfl) (by rw [hw, List.getElem?_append_right (Nat.le_refl _), Nat.sub_self]; rfl)
  have hhd := c.had
  rw [hw, hh, List.map_append] at hhd
  obtain ⟨e1, e2⟩ := List.append_inj' hhd rfl
  have e3 : m = p.1 := by simpa using e2
  have hpos := hg.pos p (by rw [hw]; simp)
  refine ⟨c.most, c.nest, hlast.1, hlast.2, ?_, e1, hll, fun i y q hy hq => ?_⟩
  · show m = (t.ns.take p.1).length
    rw [List.length_take, e3]; omega
  · replace hy : wr[i]? = some y := hy
    replace hq : ws[i]? = some q := hq
    refine c.was i y q ?_ ?_
    · rw [hr, List.getElem?_append_left (List.getElem?_eq_some_iff.1 hy).1]; exact hy
    · rw [hw, List.getElem?_append_left (List.getElem?_eq_some_iff.1 hq).1]; exact hq
end

theorem undo_eq {t : Tg} {W0 : List (Nat × St)} {p : Nat × St} (h : t.was = W0 ++ [p]) : t.undo = (0, t.undone W0 p) := by
  unfold Tg.undo; rw [h]; simp
section
variable {w w' : World} {B rb : Nat} {vL wv hv : Value} {r : Rg} {t : Tg}
/-- What the document's answer has behind a call. -/
def After (w : World) (B rb : Nat) (hv : Value) (t' : Tg) (w' : World) : Prop :=
  ∃ vL' wv' hv' r', RefAt w' B rb vL' wv' hv' r' ∧ Corr t' r' ∧ FrR B hv w w' ∧ (hv'.ownBlock = hv.ownBlock ∨ ∃ g, hv'.ownBlock = some g ∧ w.heap.size ≤ g)
theorem c_mark (h : RefAt w B rb vL wv hv r) (c : Corr t r) (hn : t.nest ≤ 1024) (hg : t.Good) :
    Calls Try.prog 37 #[ptrV rb] w fun e w' => e = .returned (.tuple #[.int .i64 t.mark.1, .int .i64 t.mark.2.1]) ∧ After w B rb hv t.mark.2.2 w' := by
  have hne := c.nest
  have hwl := c.wl
  have hn1 := hg.nest1
  by_cases hf : t.was.length = t.nest
  · rw [show t.mark = (0, 42, t) from if_pos hf]
    refine (rMark_full h (by omega)).mono ?_
    rintro e w' ⟨rfl, n, rfl⟩
    exact ⟨rfl, vL, wv, hv, r, h.below (drewN_below w n), c, Fr.drewN _ _ _ _ _, .inl rfl⟩
  · rw [show t.mark = ((t.was.length : Int) + 1, 0, t.marked) from if_neg hf]
    refine (rMark_add h (by omega) (by omega)).mono ?_
    rintro e w' ⟨rfl, wv', hv', hR, hF, ho⟩
    exact ⟨by rw [hwl], vL, wv', hv', _, hR, c.mark vL, hF, ho⟩
theorem c_undo (h : RefAt w B rb vL wv hv r) (c : Corr t r) (hg : t.Good) :
    Calls Try.prog 38 #[ptrV rb] w fun e w' => e = .returned (.int .i64 t.undo.1) ∧ After w B rb hv t.undo.2 w' := by
  rcases List.eq_nil_or_concat t.was with hw | ⟨ws, p, hw⟩
  · rw [show t.undo = (1, t) by unfold Tg.undo; rw [hw]; rfl]
    refine (rUndo_none h (c.nil.2 hw)).mono ?_
    rintro e w' ⟨rfl, rfl⟩
    exact ⟨rfl, vL, wv, hv, r, h, c, Fr.refl _ _ _ _, .inl rfl⟩
  · rw [List.concat_eq_append] at hw
    rw [undo_eq hw]
    have hwl := c.wl
    rcases List.eq_nil_or_concat r.was with hr | ⟨wr, x, hr⟩
    · rw [hr, hw] at hwl; simp at hwl
    · rw [List.concat_eq_append] at hr
      have hhl := h.hl
      rcases List.eq_nil_or_concat r.had with hh | ⟨hs, m, hh⟩
      · rw [hh, hr] at hhl; simp at hhl
      · rw [List.concat_eq_append] at hh
        refine (rUndo_last h hr hh).mono ?_
        rintro e w' ⟨rfl, wv', hv', hR, hF, ho⟩
        exact ⟨rfl, x.1, wv', hv', _, hR, c.undo hg hw hr hh, hF, .inl ho⟩
theorem c_del (h : RefAt w B rb vL wv hv r) (c : Corr t r) (k : ByteArray) :
    Calls Try.prog 39 #[ptrV rb, .string k] w fun e w' => e = .returned (.int .i64 (t.del k).1) ∧ After w B rb hv (t.del k).2 w' := by
  obtain ⟨h1, h2⟩ := c.del k
  refine (rDelete_any h k).mono ?_
  rintro e w' ⟨rfl, vL', hR, hF⟩
  exact ⟨by rw [h1], vL', wv, hv, _, hR, h2, hF, .inl rfl⟩
theorem c_put (h : RefAt w B rb vL wv hv r) (c : Corr t r) (k : ByteArray) (v : Int) (hl : r.L.length ≤ 99999) :
    Calls Try.prog 41 #[ptrV rb, .string k, .int .i64 v] w fun e w' => e = .returned (.int .i64 (t.put k v).1) ∧ After w B rb hv (t.put k v).2 w' := by
  obtain ⟨h1, h2⟩ := c.put k v
  refine (rSet_any h k v hl).mono ?_
  rintro e w' ⟨rfl, vL', hR, hF⟩
  exact ⟨by rw [h1], vL', wv, hv, _, hR, h2, hF, .inl rfl⟩
theorem c_cset (h : RefAt w B rb vL wv hv r) (c : Corr t r) (x : ByteArray) :
    Calls Try.prog 40 #[ptrV rb, .string x] w fun e w' => e = .returned (.int .i64 (t.cellS x).1) ∧ After w B rb hv (t.cellS x).2 w' := by
  refine (rSetCell_any h x).mono ?_
  rintro e w' ⟨rfl, hR, hF⟩
  unfold Tg.cellS
  by_cases hf : t.full
  · rw [if_pos (c.full.2 hf)] at hR ⊢
    rw [if_pos hf]
    exact ⟨rfl, vL, wv, hv, _, hR, c, hF, .inl rfl⟩
  · rw [if_neg (fun e => hf (c.full.1 e))] at hR ⊢
    rw [if_neg hf]
    exact ⟨rfl, vL, wv, hv, _, hR, c.noted _ c.can rfl, hF, .inl rfl⟩

set_option maxRecDepth 100000 in
set_option maxHeartbeats 4000000 in
theorem asked_any (h : RefAt w B rb vL wv hv r) (c : Corr t r) (hn : t.nest ≤ 1024) (hg : t.Good) (hl : r.L.length ≤ 99999) (o : Opd) (ho : In64 o.1) :
    Calls Try.prog 13 #[ptrV rb, opV o] w fun e w' => e = .returned (.tuple #[.int .i64 (t.step o).1, .int .i64 (t.step o).2.1]) ∧ After w B rb hv (t.step o).2.2 w' := by
  obtain ⟨x, key, val⟩ := o
  simp only at ho
  obtain ⟨z, hz⟩ : ∃ z, w.heap.size = z := ⟨_, rfl⟩
  have b1 : Blk (w.alloc (.cells #[.int .i64 x, .string key, .int .i64 val] 39)) z [.int .i64 x, .string key, .int .i64 val] 39 := by rw [← hz]; exact Blk.new w _ _
  have hb0 := (Below.refl w.heap.size w).alloc (Nat.le_refl _) (.cells #[.int .i64 x, .string key, .int .i64 val] 39)
  obtain ⟨w0, hw0⟩ : ∃ w0, w.alloc (.cells #[.int .i64 x, .string key, .int .i64 val] 39) = w0 := ⟨_, rfl⟩
  rw [hw0] at b1 hb0
  have hR := h.below hb0
  have hmore : ∀ (w' : World) (t' : Tg), After w0 B rb hv t' w' → After w B rb hv t' w' := fun w' t' ⟨vL', wv', hv', r', h1, h2, h3, h4⟩ =>
    ⟨vL', wv', hv', r', h1, h2, Fr.trans (Fr.of_below hb0) h3, h4.imp id fun ⟨g, e1, e2⟩ => ⟨g, e1, Nat.le_trans hb0.size e2⟩⟩
  have d0 : w0.cell? ⟨z, 0, none⟩ = some (.int .i64 x) := b1.cell (i := 0) rfl
  have d1 : w0.cell? ⟨z, 1, none⟩ = some (.string key) := b1.cell (i := 1) rfl
  have d2 : w0.cell? ⟨z, 2, none⟩ = some (.int .i64 val) := b1.cell (i := 2) rfl
  have dl := b1.lt
  have hmark := c_mark hR c hn hg
  have hundo := c_undo hR c hg
  have hdel := c_del hR c key
  have hcs := c_cset hR c key
  have hput := c_put hR c key val hl
  obtain ⟨hx1, hx2⟩ := kind_lt x
  unfold In64 at ho
  have hst : t.step (x, key, val) = if kind x = 0 then t.mark else if kind x = 1 then (0, t.undo) else if kind x = 4 then (0, t.del key) else if kind x = 5 then (0, t.cellS key) else (0, t.put key val) := rfl
  unfold kind at hst
  unfold ptrV at hmark hundo hdel hcs hput
  replace hmore := Lib.hid hmore
  replace hmark := Lib.hid hmark
  replace hundo := Lib.hid hundo
  replace hdel := Lib.hid hdel
  replace hcs := Lib.hid hcs
  replace hput := Lib.hid hput
  replace hw0 := Lib.hid hw0
  replace hz := Lib.hid hz
  unfold opV ptrV
  simp only
  clear h hR b1 hb0 c hn hg hl
  by_cases h0 : (x.tmod 6 + 6).tmod 6 = 0
  · rw [if_pos h0] at hst
    rw [hst]
    replace hst := Lib.hid hst
    go_enter Try.func13, Try.ntmps13
    go_upto_region 1 with fail
    rw [hz.out, hw0.out]
    go_wp2_with fail
    refine hmark.out.mono ?_
    rintro e w' ⟨rfl, h1⟩
    have hfin := hmore.out w' _ h1
    replace hfin := Lib.hid hfin
    clear h1 d0 d1 d2
    go_wp2
    go_ret2
    exact ⟨rfl, hfin.out⟩
  have e0 : ((x.tmod 6 + 6).tmod 6 == 0) = false := by rw [beq_eq_false_iff_ne]; exact h0
  rw [if_neg h0] at hst
  by_cases h1 : (x.tmod 6 + 6).tmod 6 = 1
  · rw [if_pos h1] at hst
    rw [hst]
    replace hst := Lib.hid hst
    go_enter Try.func13, Try.ntmps13
    go_upto_region 1 with fail
    rw [hz.out, hw0.out]
    go_wp2_with fail
    refine hundo.out.mono ?_
    rintro e w' ⟨rfl, h1⟩
    have hfin := hmore.out w' _ h1
    replace hfin := Lib.hid hfin
    clear h1 d0 d1 d2
    go_wp2
    go_ret2
    exact ⟨rfl, hfin.out⟩
  have e1 : ((x.tmod 6 + 6).tmod 6 == 1) = false := by rw [beq_eq_false_iff_ne]; exact h1
  rw [if_neg h1] at hst
  by_cases h4 : (x.tmod 6 + 6).tmod 6 = 4
  · rw [if_pos h4] at hst
    rw [hst]
    replace hst := Lib.hid hst
    go_enter Try.func13, Try.ntmps13
    go_upto_region 1 with fail
    rw [hz.out, hw0.out]
    go_wp2_with fail
    refine hdel.out.mono ?_
    rintro e w' ⟨rfl, h1⟩
    have hfin := hmore.out w' _ h1
    replace hfin := Lib.hid hfin
    clear h1 d0 d1 d2
    go_wp2
    go_ret2
    exact ⟨rfl, hfin.out⟩
  have e4 : ((x.tmod 6 + 6).tmod 6 == 4) = false := by rw [beq_eq_false_iff_ne]; exact h4
  rw [if_neg h4] at hst
  by_cases h5 : (x.tmod 6 + 6).tmod 6 = 5
  · rw [if_pos h5] at hst
    rw [hst]
    replace hst := Lib.hid hst
    go_enter Try.func13, Try.ntmps13
    go_upto_region 1 with fail
    rw [hz.out, hw0.out]
    go_wp2_with fail
    refine hcs.out.mono ?_
    rintro e w' ⟨rfl, h1⟩
    have hfin := hmore.out w' _ h1
    replace hfin := Lib.hid hfin
    clear h1 d0 d1 d2
    go_wp2
    go_ret2
    exact ⟨rfl, hfin.out⟩
  have e5 : ((x.tmod 6 + 6).tmod 6 == 5) = false := by rw [beq_eq_false_iff_ne]; exact h5
  rw [if_neg h5] at hst
  obtain ⟨K, hK⟩ : ∃ K, (x.tmod 6 + 6).tmod 6 = K := ⟨_, rfl⟩
  rw [hK] at e0 e1 e4 e5
  clear h0 h1 h4 h5
  rw [hst]
  replace hst := Lib.hid hst
  go_enter Try.func13, Try.ntmps13
  go_upto_region 1 with fail
  rw [hz.out, hw0.out]
  go_wp2_with fail
  refine hput.out.mono ?_
  rintro e w' ⟨rfl, h1⟩
  have hfin := hmore.out w' _ h1
  replace hfin := Lib.hid hfin
  clear h1 d0 d1 d2
  go_wp2
  go_ret2
  exact ⟨rfl, hfin.out⟩
end
end Go.Proofs.Ytcobfimafpfbpaa
