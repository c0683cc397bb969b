/-
  A log, a map and a cell of it together: what Marks, Len, Mark and Undo answer, and what there is behind them. Conditions: none.
-/
import Derived.Test.YtcobfimafpfbpaaUdThings
namespace Go.Proofs.Ytcobfimafpfbpaa
open Go Go.RowKit Go.ChangeMaps

section
variable {w w' : World} {B : Nat} {Q : Nat → Prop} {a : Ad} {pot : Nat} {t : Tg}
theorem th_marks (h : ThAt w B Q a pot t) : Calls Try.prog 15 #[ptrV a.l] w fun e w' => e = .returned (.int .i64 (t.was.length : Int)) ∧ w' = w := by
  obtain ⟨ms, fs, es, h1, h2, h3, h4, h5, h6, h7, h8, h9⟩ := h
  rw [← th_len h7]
  exact Marks_any h1
theorem th_lenN (h : ThAt w B Q a pot t) : Calls Try.prog 16 #[ptrV a.l] w fun e w' => e = .returned (.int .i64 (t.ns.length : Int)) ∧ w' = w := by
  obtain ⟨ms, fs, es, h1, h2, h3, h4, h5, h6, h7, h8, h9⟩ := h
  exact Len_any h1
theorem th_get (h : ThAt w B Q a pot t) (k : ByteArray) : Calls Try.prog 17 #[ptrV a.m, .string k] w fun e w' => e = .returned (.tuple #[.int .i64 ((t.cur.f k).getD 0), .bool (t.cur.f k).isSome]) ∧ w' = w := by
  obtain ⟨ms, fs, es, h1, h2, h3, h4, h5, h6, h7, h8, h9⟩ := h
  rw [← h4 k]
  exact Get_any h2 k
theorem th_cget (h : ThAt w B Q a pot t) : Calls Try.prog 32 #[ptrV a.c] w fun e w' => e = .returned (.string t.cur.s) ∧ w' = w := by
  obtain ⟨ms, fs, es, h1, h2, h3, h4, h5, h6, h7, h8, h9⟩ := h
  exact CGet_any h3
theorem th_mark (h : ThAt w B Q a pot t) :
    Calls Try.prog 20 #[ptrV a.l] w fun e w' => e = .returned (.tuple #[.int .i64 t.mark.1, .int .i64 t.mark.2.1]) ∧ ThAt w' B Q a pot t.mark.2.2 ∧ FrT B a.o w w' := by
  have hBw := h.hB
  have h0 := h
  obtain ⟨ms, fs, es, h1, h2, h3, h4, h5, h6, h7, h8, h9⟩ := h
  have hl := th_len h7
  by_cases hn : t.was.length = t.nest
  · rw [show t.mark = (0, 42, t) from if_pos hn]
    refine (Mark_full h1 (hl.trans hn)).mono ?_
    rintro e w' ⟨rfl, n, rfl⟩
    exact ⟨rfl, h0.below (drewN_below w n), Fr.drewN _ _ _ _ _⟩
  · rw [show t.mark = ((t.was.length : Int) + 1, 0, t.marked) from if_neg hn]
    have hlt : t.was.length < t.nest := by have := h8.nest1; omega
    refine (Mark_add h1 (by omega) hBw).mono ?_
    rintro e w' ⟨rfl, ⟨b, hb⟩, hf⟩
    refine ⟨by rw [hl]; rfl, ?_, FrT.log hf⟩
    show ThAt w' B Q a pot t.marked
    refine ⟨ms ++ [(⟨b, fs.length, t.ns.length⟩ : Mk)], fs, es, hb, h2.log hf, h3.log hf, h4, h5, fun i n hi => ?_, ?_, h8.marked hlt, h9⟩
    · obtain ⟨v, hv, hn⟩ := h6 i n hi
      exact ⟨v, hv, hn.keep (KeepN.of_fr' hf)⟩
    · rw [List.map_append, h7, h5]
      show _ = (t.was ++ [(t.ns.length, t.cur)]).map _
      rw [List.map_append]; rfl

theorem enters_note : Enters Try.prog 60 := enters_of Try.func60 (by kernel_rfl) rfl
theorem enters_set : Enters Try.prog 52 := enters_of Try.func52 (by kernel_rfl) rfl
theorem putK_length (es : Es) (k : ByteArray) (v : Int) : (putK es k v).length ≤ es.length + 1 := by
  unfold putK
  split
  · rw [List.length_map]; omega
  · rw [List.length_append]; simp
theorem dropK_length (es : Es) (k : ByteArray) : (dropK es k).length ≤ es.length := List.length_filter_le _ _

/-- What there is when notes from j on are done. -/
def UnI (B : Nat) (Q : Nat → Prop) (a : Ad) (pot : Nat) (t : Tg) (fs : List Value) (w : World) (j : Nat) (W : World) : Prop :=
  ∃ es, MapAt W B a.m a.lo a.o es ∧ CellAt W B a.c a.lo (back (t.ns.drop j) t.cur).s ∧ (∀ k, look es k = (back (t.ns.drop j) t.cur).f k) ∧ (∀ (i : Nat) (n : Nt), t.ns[i]? = some n → ∃ v, fs[i]? = some v ∧ NoteAt W Q a.m a.c v n) ∧ es.length + j ≤ pot ∧ FrT B a.o w W
theorem back_step (t : Tg) {j : Nat} (h : j < t.ns.length) : back (t.ns.drop j) t.cur = apN t.ns[j] (back (t.ns.drop (j + 1)) t.cur) := by
  rw [List.drop_eq_getElem_cons h]; rfl
theorem uni_call {fs : List Value} (hfl : fs.length = t.ns.length) {j : Nat} (hj : j < fs.length) {W : World} (h : UnI B Q a pot t fs w (j + 1) W) :
    ∃ k cap, fs[j] = .func (.func k) #[] cap ∧ Enters Try.prog k ∧ Calls Try.prog k cap W fun e W' => e = .returned (.tuple #[]) ∧ UnI B Q a pot t fs w j W' ∧ KeepL W W' := by
  obtain ⟨es, hM, hC, hl, hN, hp, hF⟩ := h
  have hj2 : j < t.ns.length := by omega
  obtain ⟨v, hv, hn⟩ := hN j t.ns[j] (List.getElem?_eq_getElem hj2)
  rw [List.getElem?_eq_getElem hj] at hv
  cases hv
  have hbs := back_step t hj2
  generalize hst : back (t.ns.drop (j + 1)) t.cur = st at hM hC hl hbs
  generalize hnn : t.ns[j] = n at hn hbs
  cases n with
  | put key x =>
    obtain ⟨b0, b1, b2, b3, hv, hq⟩ := hn
    refine ⟨_, _, hv, enters_note, (do_put hM (mb := a.m) (cb := a.c) (Q := Q) ⟨b0, b1, b2, b3, rfl, hq⟩).mono ?_⟩
    rintro e W' ⟨rfl, hM', hS⟩
    have kn := KeepN.of_map hS hM.map
    refine ⟨rfl, ⟨_, hM', ?_, fun k => ?_, fun i n hi => ?_, ?_, Fr.trans hF (FrT.map hS hM)⟩, KeepL.of_map hS hM.map⟩
    · rw [hbs]
      exact ⟨hC.hB, hC.blk.stp hS (hM.ne_cell hC).2⟩
    · rw [hbs, look_putK]
      show _ = if k = key then some x else st.f k
      rw [hl k]
    · obtain ⟨v, hv, hn⟩ := hN i n hi
      exact ⟨v, hv, hn.keep kn⟩
    · have := putK_length es key x; omega
  | del key =>
    obtain ⟨b0, b1, b2, b3, hv, hq⟩ := hn
    refine ⟨_, _, hv, enters_note, (do_del hM (mb := a.m) (cb := a.c) (Q := Q) ⟨b0, b1, b2, b3, rfl, hq⟩).mono ?_⟩
    rintro e W' ⟨rfl, hM', hS⟩
    have kn := KeepN.of_map hS hM.map
    refine ⟨rfl, ⟨_, hM', ?_, fun k => ?_, fun i n hi => ?_, ?_, Fr.trans hF (FrT.map hS hM)⟩, KeepL.of_map hS hM.map⟩
    · rw [hbs]
      exact ⟨hC.hB, hC.blk.stp hS (hM.ne_cell hC).2⟩
    · rw [hbs, look_dropK]
      show _ = if k = key then none else st.f k
      rw [hl k]
    · obtain ⟨v, hv, hn⟩ := hN i n hi
      exact ⟨v, hv, hn.keep kn⟩
    · have := dropK_length es key; omega
  | cell x =>
    obtain ⟨b0, b1, hv, hq⟩ := hn
    refine ⟨_, _, hv, enters_set, (do_cell hC (mb := a.m) (cb := a.c) (Q := Q) ⟨b0, b1, rfl, hq⟩).mono ?_⟩
    rintro e W' ⟨rfl, hC', hS⟩
    have kn := KeepN.of_cell hS hC
    have hne := hM.ne_cell hC
    refine ⟨rfl, ⟨es, hM.keep (hS.block _ hM.blk.lt (Ne.symm hne.1)) (hS.block _ hM.map.lt (Ne.symm hne.2)), ?_, fun k => ?_, fun i n hi => ?_, by omega, Fr.trans hF (FrT.cell hS hC)⟩, KeepL.of_cell hS hC⟩
    · rw [hbs]; exact hC'
    · rw [hbs]; exact hl k
    · obtain ⟨v, hv, hn⟩ := hN i n hi
      exact ⟨v, hv, hn.keep kn⟩
theorem uni_keep {fs : List Value} {j : Nat} {W W' : World} (h : UnI B Q a pot t fs w j W) (k : Fr B LogT (fun _ => False) W W') : UnI B Q a pot t fs w j W' := by
  obtain ⟨es, hM, hC, hl, hN, hp, hF⟩ := h
  refine ⟨es, hM.log k, hC.log k, hl, fun i n hi => ?_, hp, Fr.trans hF (FrT.log k)⟩
  obtain ⟨v, hv, hn⟩ := hN i n hi
  exact ⟨v, hv, hn.keep (KeepN.of_fr' k)⟩
theorem th_undo (h : ThAt w B Q a pot t) :
    Calls Try.prog 21 #[ptrV a.l] w fun e w' => e = .returned (.int .i64 t.undo.1) ∧ ThAt w' B Q a pot t.undo.2 ∧ FrT B a.o w w' := by
  have h0 := h
  obtain ⟨ms, fs, es, h1, h2, h3, h4, h5, h6, h7, h8, h9⟩ := h
  have hl := th_len h7
  rcases List.eq_nil_or_concat t.was with hw | ⟨ws, p, hw⟩
  · obtain rfl : ms = [] := List.eq_nil_of_length_eq_zero (by rw [hl, hw]; rfl)
    rw [show t.undo = (1, t) by unfold Tg.undo; rw [hw]; rfl]
    refine (Undo_none h1).mono ?_
    rintro e w' ⟨rfl, rfl⟩
    exact ⟨rfl, h0, Fr.refl _ _ _ _⟩
  · rw [show t.undo = (0, t.undone ws p) by unfold Tg.undo; rw [hw]; simp]
    rw [List.concat_eq_append] at hw
    rw [hw, List.map_append] at h7
    obtain ⟨ms1, ms2, rfl, hm1, hm2⟩ := List.map_eq_append_iff.1 h7
    obtain ⟨m, rfl⟩ : ∃ m, ms2 = [m] := by
      have := congrArg List.length hm2
      simp only [List.length_map, List.length_singleton] at this
      exact List.length_eq_one_iff.1 this
    have hmp : m.notes = p.1 ∧ m.count = p.1 := by simpa using hm2
    have hpp : p ∈ t.was := by rw [hw]; simp
    have hpl := h8.pos p hpp
    refine (Undo_any h1 (by omega) (UnI B Q a pot t fs w) ⟨es, h2, ?_, ?_, h6, by omega, Fr.refl _ _ _ _⟩ (fun j W W' => uni_keep) (fun j W hj _ hI => uni_call h5 hj hI)).mono ?_
    · rw [h5, List.drop_length]; exact h3
    · rw [h5, List.drop_length]; exact h4
    rintro e w' ⟨rfl, hL, es', hM, hC, hl', hN, hp, hF⟩
    rw [hmp.1] at hL hC hl' hp
    rw [hmp.2] at hL
    have hbk := h8.bk p hpp
    rw [hbk] at hC hl'
    have hlen : (t.ns.take p.1).length = p.1 := by rw [List.length_take]; omega
    refine ⟨rfl, ⟨ms1, fs.take p.1, es', ?_, hM, hC, hl', ?_, fun i n hi => ?_, hm1, h8.undone hw, ?_⟩, hF⟩
    · show LogAt w' B a.l t.most t.nest ms1 (fs.take p.1) (t.ns.take p.1).length
      rw [hlen]; exact hL
    · show (fs.take p.1).length = (t.ns.take p.1).length
      rw [hlen, List.length_take]; omega
    · replace hi : (t.ns.take p.1)[i]? = some n := hi
      rw [List.getElem?_take] at hi
      split at hi
      · obtain ⟨v, hv, hn⟩ := hN i n hi
        exact ⟨v, by rw [List.getElem?_take, if_pos (by assumption)]; exact hv, hn⟩
      · cases hi
    · show es'.length + (t.ns.take p.1).length ≤ pot
      rw [hlen]; exact hp
end
end Go.Proofs.Ytcobfimafpfbpaa
