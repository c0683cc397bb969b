/-
  A log and all that a state has of it: what Marks, Mark, Undo and the reading calls answer, and what there is behind them. Conditions: none.
-/
import Derived.Test.YtigmdfdcflkggaaGreatStThings
namespace Go.Proofs.YtigmdfdcflkggaaGreat
open Go Go.RowKit Go.ChangeMaps

section
variable {w w' : World} {B : Nat} {a : Ad} {pot : Nat} {t : Tg}
theorem th_marks (h : ThAt w B a pot t) : Calls Tryz.prog 16 #[ptrV a.l] w fun e w' => e = .returned (.int .i64 (t.was.length : Int)) ∧ w' = w := by
  obtain ⟨ms, fs, ev, ef, ea, et, h1, h2, h5, h6, h7, h8, h9⟩ := h
  rw [← th_len h7]
  exact Marks_any h1
theorem th_getv (h : ThAt w B a pot t) (k : ByteArray) : Calls Tryz.prog 88 #[ptrV a.v, .string k] w fun e w' => e = .returned (.tuple #[encV ((t.cur.v k).getD noV), .bool (t.cur.v k).isSome]) ∧ Below w.heap.size w w' := by
  obtain ⟨ms, fs, ev, ef, ea, et, h1, h2, h5, h6, h7, h8, h9⟩ := h
  rw [← h2.lv k]
  exact MV.Get_any h2.mv k
theorem th_getf (h : ThAt w B a pot t) (k : ByteArray) : Calls Tryz.prog 106 #[ptrV a.f, .string k] w fun e w' => e = .returned (.tuple #[encN ((t.cur.f k).getD noN), .bool (t.cur.f k).isSome]) ∧ Below w.heap.size w w' := by
  obtain ⟨ms, fs, ev, ef, ea, et, h1, h2, h5, h6, h7, h8, h9⟩ := h
  rw [← h2.lf k]
  exact MN.Get_any h2.mf k
theorem th_geta (h : ThAt w B a pot t) (k : ByteArray) : Calls Tryz.prog 102 #[ptrV a.a, .string k] w fun e w' => e = .returned (.tuple #[encW ((t.cur.a k).getD noW), .bool (t.cur.a k).isSome]) ∧ Below w.heap.size w w' := by
  obtain ⟨ms, fs, ev, ef, ea, et, h1, h2, h5, h6, h7, h8, h9⟩ := h
  rw [← h2.la k]
  exact MW.Get_any h2.ma k
theorem th_gett (h : ThAt w B a pot t) (k : ByteArray) : Calls Tryz.prog 102 #[ptrV a.t, .string k] w fun e w' => e = .returned (.tuple #[encW ((t.cur.t k).getD noW), .bool (t.cur.t k).isSome]) ∧ Below w.heap.size w w' := by
  obtain ⟨ms, fs, ev, ef, ea, et, h1, h2, h5, h6, h7, h8, h9⟩ := h
  rw [← h2.lt k]
  exact MW.Get_any h2.mt k
theorem th_geto (h : ThAt w B a pot t) : Calls Tryz.prog 115 #[ptrV a.o] w fun e w' => e = .returned (.string t.cur.o) ∧ Below w.heap.size w w' := by
  obtain ⟨ms, fs, ev, ef, ea, et, h1, h2, h5, h6, h7, h8, h9⟩ := h
  exact CS.Get_any _ h2.co
theorem th_getg (h : ThAt w B a pot t) : Calls Tryz.prog 79 #[ptrV a.g] w fun e w' => e = .returned (.agg #[.slice t.cur.g.A t.cur.g.n t.cur.g.c, .int .i64 t.cur.g.a, .int .i64 t.cur.g.i]) ∧ Below w.heap.size w w' := by
  obtain ⟨ms, fs, ev, ef, ea, et, h1, h2, h5, h6, h7, h8, h9⟩ := h
  exact CG.Get_any _ _ _ _ _ h2.cg
theorem th_mark (h : ThAt w B a pot t) :
    Calls Tryz.prog 19 #[ptrV a.l] w fun e w' => e = .returned (.tuple #[.int .i64 t.mark.1, .int .i64 t.mark.2.1]) ∧ ThAt w' B a pot t.mark.2.2 ∧ FrT B a w w' := by
  have hBw := h.hB
  have h0 := h
  obtain ⟨ms, fs, ev, ef, ea, et, h1, h2, h5, h6, h7, h8, h9⟩ := h
  have hl := th_len h7
  by_cases hn : t.was.length = t.nest
  · rw [show t.mark = (0, 42, t) from if_pos hn]
    refine (Mark_full h1 (hl.trans hn)).mono ?_
    rintro e w' ⟨rfl, n, rfl⟩
    exact ⟨rfl, h0.below (drewN_below w n), FrT.of_below (drewN_below w n)⟩
  · rw [show t.mark = ((t.was.length : Int) + 1, 0, t.marked) from if_neg hn]
    have hlt : t.was.length < t.nest := by have := h8.nest1; omega
    refine (Mark_add h1 (by omega) hBw).mono ?_
    rintro e w' ⟨rfl, ⟨b, hb⟩, hf⟩
    refine ⟨by rw [hl]; rfl, ?_, FrT.log hf⟩
    show ThAt w' B a pot t.marked
    refine ⟨ms ++ [(⟨b, fs.length, t.ns.length⟩ : Mk)], fs, ev, ef, ea, et, hb, h2.log hf, h5, fun i n hi => ?_, ?_, h8.marked hlt, h9⟩
    · obtain ⟨v, hv, hn⟩ := h6 i n hi
      exact ⟨v, hv, hn.keep (KeepB.of_fr hf)⟩
    · rw [List.map_append, h7, h5]
      show _ = (t.was ++ [(t.ns.length, t.cur)]).map _
      rw [List.map_append]; rfl
theorem MV.enters : Enters Tryz.prog 137 := enters_of Tryz.func137 (by kernel_rfl) rfl
theorem MN.enters : Enters Tryz.prog 143 := enters_of Tryz.func143 (by kernel_rfl) rfl
theorem MW.enters : Enters Tryz.prog 139 := enters_of Tryz.func139 (by kernel_rfl) rfl
theorem CS.enters : Enters Tryz.prog 127 := enters_of Tryz.func127 (by kernel_rfl) rfl
theorem CG.enters : Enters Tryz.prog 128 := enters_of Tryz.func128 (by kernel_rfl) rfl
theorem putK_length {α : Type} (es : Es α) (k : ByteArray) (v : α) : (putK es k v).length ≤ es.length + 1 := by
  unfold putK
  split
  · rw [List.length_map]; omega
  · rw [List.length_append]; simp
theorem dropK_length {α : Type} (es : Es α) (k : ByteArray) : (dropK es k).length ≤ es.length := List.length_filter_le _ _
/-- What there is when notes from j on are done. -/
def UnI (B : Nat) (a : Ad) (pot : Nat) (t : Tg) (fs : List Value) (w : World) (j : Nat) (W : World) : Prop :=
  ∃ ev ef ea et, Objs W B a (back (t.ns.drop j) t.cur) ev ef ea et ∧ (∀ (i : Nat) (n : Nt), t.ns[i]? = some n → ∃ v, fs[i]? = some v ∧ NoteAt W a v n) ∧ ev.length + ef.length + ea.length + et.length + j ≤ pot ∧ FrT B a w W
theorem back_step (t : Tg) {j : Nat} (h : j < t.ns.length) : back (t.ns.drop j) t.cur = apN t.ns[j] (back (t.ns.drop (j + 1)) t.cur) := by
  rw [List.drop_eq_getElem_cons h]; rfl
theorem uni_call {fs : List Value} (hfl : fs.length = t.ns.length) {j : Nat} (hj : j < fs.length) {W : World} (h : UnI B a pot t fs w (j + 1) W) :
    ∃ k cap, fs[j] = .func (.func k) #[] cap ∧ Enters Tryz.prog k ∧ Calls Tryz.prog k cap W fun e W' => e = .returned (.tuple #[]) ∧ UnI B a pot t fs w j W' ∧ KeepL W W' := by
  obtain ⟨ev, ef, ea, et, hO, hN, hp, hF⟩ := h
  have hj2 : j < t.ns.length := by omega
  obtain ⟨v, hv, hn⟩ := hN j t.ns[j] (List.getElem?_eq_getElem hj2)
  rw [List.getElem?_eq_getElem hj] at hv
  cases hv
  have hbs := back_step t hj2
  generalize hst : back (t.ns.drop (j + 1)) t.cur = st at hO hbs
  generalize hnn : t.ns[j] = n at hn hbs
  have hN2 : ∀ {W' : World}, KeepB W W' → ∀ (i : Nat) (n : Nt), t.ns[i]? = some n → ∃ v, fs[i]? = some v ∧ NoteAt W' a v n := fun kb i n hi => by
    obtain ⟨v, hv, hn⟩ := hN i n hi
    exact ⟨v, hv, hn.keep kb⟩
  cases n with
  | v key x =>
    cases x with
    | some x =>
      obtain ⟨b0, b1, b2, b3, hv, hq⟩ := hn
      refine ⟨_, _, hv, MV.enters, (MV.do_put hO.mv (x := x) ⟨b0, b1, b2, b3, rfl, hq⟩).mono ?_⟩
      rintro e W' ⟨rfl, hM', hS⟩
      refine ⟨rfl, ⟨_, ef, ea, et, by rw [hbs]; exact hO.setv (f' := updF st.v key (some x)) hS hM' (fun k => by rw [look_putK]; unfold updF; rw [hO.lv k]), hN2 (hO.keepOfv hS), ?_, hF.trans (hO.frOfv hS)⟩, hO.keepLOfv hS⟩
      have := putK_length ev key x; omega
    | none =>
      obtain ⟨b0, b1, b2, b3, hv, hq⟩ := hn
      refine ⟨_, _, hv, MV.enters, (MV.do_del hO.mv ⟨b0, b1, b2, b3, rfl, hq⟩).mono ?_⟩
      rintro e W' ⟨rfl, hM', hS⟩
      refine ⟨rfl, ⟨_, ef, ea, et, by rw [hbs]; exact hO.setv (f' := updF st.v key none) hS hM' (fun k => by rw [look_dropK]; unfold updF; rw [hO.lv k]), hN2 (hO.keepOfv hS), ?_, hF.trans (hO.frOfv hS)⟩, hO.keepLOfv hS⟩
      have := dropK_length ev key; omega
  | f key x =>
    cases x with
    | some x =>
      obtain ⟨b0, b1, b2, b3, hv, hq⟩ := hn
      refine ⟨_, _, hv, MN.enters, (MN.do_put hO.mf (x := x) ⟨b0, b1, b2, b3, rfl, hq⟩).mono ?_⟩
      rintro e W' ⟨rfl, hM', hS⟩
      refine ⟨rfl, ⟨ev, _, ea, et, by rw [hbs]; exact hO.setf (f' := updF st.f key (some x)) hS hM' (fun k => by rw [look_putK]; unfold updF; rw [hO.lf k]), hN2 (hO.keepOff hS), ?_, hF.trans (hO.frOff hS)⟩, hO.keepLOff hS⟩
      have := putK_length ef key x; omega
    | none =>
      obtain ⟨b0, b1, b2, b3, hv, hq⟩ := hn
      refine ⟨_, _, hv, MN.enters, (MN.do_del hO.mf ⟨b0, b1, b2, b3, rfl, hq⟩).mono ?_⟩
      rintro e W' ⟨rfl, hM', hS⟩
      refine ⟨rfl, ⟨ev, _, ea, et, by rw [hbs]; exact hO.setf (f' := updF st.f key none) hS hM' (fun k => by rw [look_dropK]; unfold updF; rw [hO.lf k]), hN2 (hO.keepOff hS), ?_, hF.trans (hO.frOff hS)⟩, hO.keepLOff hS⟩
      have := dropK_length ef key; omega
  | a key x =>
    cases x with
    | some x =>
      obtain ⟨b0, b1, b2, b3, hv, hq⟩ := hn
      refine ⟨_, _, hv, MW.enters, (MW.do_put hO.ma (x := x) ⟨b0, b1, b2, b3, rfl, hq⟩).mono ?_⟩
      rintro e W' ⟨rfl, hM', hS⟩
      refine ⟨rfl, ⟨ev, ef, _, et, by rw [hbs]; exact hO.seta (f' := updF st.a key (some x)) hS hM' (fun k => by rw [look_putK]; unfold updF; rw [hO.la k]), hN2 (hO.keepOfa hS), ?_, hF.trans (hO.frOfa hS)⟩, hO.keepLOfa hS⟩
      have := putK_length ea key x; omega
    | none =>
      obtain ⟨b0, b1, b2, b3, hv, hq⟩ := hn
      refine ⟨_, _, hv, MW.enters, (MW.do_del hO.ma ⟨b0, b1, b2, b3, rfl, hq⟩).mono ?_⟩
      rintro e W' ⟨rfl, hM', hS⟩
      refine ⟨rfl, ⟨ev, ef, _, et, by rw [hbs]; exact hO.seta (f' := updF st.a key none) hS hM' (fun k => by rw [look_dropK]; unfold updF; rw [hO.la k]), hN2 (hO.keepOfa hS), ?_, hF.trans (hO.frOfa hS)⟩, hO.keepLOfa hS⟩
      have := dropK_length ea key; omega
  | t key x =>
    cases x with
    | some x =>
      obtain ⟨b0, b1, b2, b3, hv, hq⟩ := hn
      refine ⟨_, _, hv, MW.enters, (MW.do_put hO.mt (x := x) ⟨b0, b1, b2, b3, rfl, hq⟩).mono ?_⟩
      rintro e W' ⟨rfl, hM', hS⟩
      refine ⟨rfl, ⟨ev, ef, ea, _, by rw [hbs]; exact hO.sett (f' := updF st.t key (some x)) hS hM' (fun k => by rw [look_putK]; unfold updF; rw [hO.lt k]), hN2 (hO.keepOft hS), ?_, hF.trans (hO.frOft hS)⟩, hO.keepLOft hS⟩
      have := putK_length et key x; omega
    | none =>
      obtain ⟨b0, b1, b2, b3, hv, hq⟩ := hn
      refine ⟨_, _, hv, MW.enters, (MW.do_del hO.mt ⟨b0, b1, b2, b3, rfl, hq⟩).mono ?_⟩
      rintro e W' ⟨rfl, hM', hS⟩
      refine ⟨rfl, ⟨ev, ef, ea, _, by rw [hbs]; exact hO.sett (f' := updF st.t key none) hS hM' (fun k => by rw [look_dropK]; unfold updF; rw [hO.lt k]), hN2 (hO.keepOft hS), ?_, hF.trans (hO.frOft hS)⟩, hO.keepLOft hS⟩
      have := dropK_length et key; omega
  | o x =>
    obtain ⟨b0, b1, hv, hq⟩ := hn
    refine ⟨_, _, hv, CS.enters, (CS.do_cell st.o x hO.co ⟨b0, b1, rfl, hq⟩).mono ?_⟩
    rintro e W' ⟨rfl, hC', hS⟩
    exact ⟨rfl, ⟨ev, ef, ea, et, by rw [hbs]; exact hO.seto hS hC', hN2 (hO.keepOfo hS), by omega, hF.trans (hO.frOfo hS)⟩, hO.keepLOfo hS⟩
  | g x =>
    obtain ⟨⟨b0, b1, hv, hq⟩, hg⟩ := hn
    refine ⟨_, _, hv, CG.enters, (CG.do_cell st.g.A st.g.n st.g.c st.g.a st.g.i x.A x.n x.c x.a x.i hO.cg ⟨b0, b1, rfl, hq⟩).mono ?_⟩
    rintro e W' ⟨rfl, hC', hS⟩
    exact ⟨rfl, ⟨ev, ef, ea, et, by rw [hbs]; exact hO.setg hS hC' (hg.keep (hO.keepOfg hS)), hN2 (hO.keepOfg hS), by omega, hF.trans (hO.frOfg hS)⟩, hO.keepLOfg hS⟩
theorem uni_keep {fs : List Value} {j : Nat} {W W' : World} (h : UnI B a pot t fs w j W) (k : Fr B LogT (fun _ => False) W W') : UnI B a pot t fs w j W' := by
  obtain ⟨ev, ef, ea, et, hO, hN, hp, hF⟩ := h
  refine ⟨ev, ef, ea, et, hO.log k, fun i n hi => ?_, hp, hF.trans (FrT.log k)⟩
  obtain ⟨v, hv, hn⟩ := hN i n hi
  exact ⟨v, hv, hn.keep (KeepB.of_fr k)⟩
theorem th_undo (h : ThAt w B a pot t) :
    Calls Tryz.prog 22 #[ptrV a.l] w fun e w' => e = .returned (.int .i64 t.undo.1) ∧ ThAt w' B a pot t.undo.2 ∧ FrT B a w w' := by
  have h0 := h
  obtain ⟨ms, fs, ev, ef, ea, et, h1, h2, h5, h6, h7, h8, h9⟩ := h
  have hl := th_len h7
  rcases List.eq_nil_or_concat t.was with hw | ⟨ws, p, hw⟩
  · obtain rfl : ms = [] := List.eq_nil_of_length_eq_zero (by rw [hl, hw]; rfl)
    rw [show t.undo = (1, t) by unfold Tg.undo; rw [hw]; rfl]
    refine (Undo_none h1).mono ?_
    rintro e w' ⟨rfl, rfl⟩
    exact ⟨rfl, h0, Fr.refl _ _ _ _⟩
  · rw [show t.undo = (0, t.undone ws p) by unfold Tg.undo; rw [hw]; simp]
    rw [List.concat_eq_append] at hw
    rw [hw, List.map_append] at h7
    obtain ⟨ms1, ms2, rfl, hm1, hm2⟩ := List.map_eq_append_iff.1 h7
    obtain ⟨m, rfl⟩ : ∃ m, ms2 = [m] := by
      have := congrArg List.length hm2
      simp only [List.length_map, List.length_singleton] at this
      exact List.length_eq_one_iff.1 this
    have hmp : m.notes = p.1 ∧ m.count = p.1 := by simpa using hm2
    have hpp : p ∈ t.was := by rw [hw]; simp
    have hpl := h8.pos p hpp
    refine (Undo_any h1 (by omega) (UnI B a pot t fs w) ⟨ev, ef, ea, et, ?_, h6, by omega, Fr.refl _ _ _ _⟩ (fun j W W' => uni_keep) (fun j W hj _ hI => uni_call h5 hj hI)).mono ?_
    · rw [h5, List.drop_length]; exact h2
    rintro e w' ⟨rfl, hL, ev', ef', ea', et', hO, hN, hp, hF⟩
    rw [hmp.1] at hL hO hp
    rw [hmp.2] at hL
    have hbk := h8.bk p hpp
    rw [hbk] at hO
    have hlen : (t.ns.take p.1).length = p.1 := by rw [List.length_take]; omega
    refine ⟨rfl, ⟨ms1, fs.take p.1, ev', ef', ea', et', ?_, hO, ?_, fun i n hi => ?_, hm1, h8.undone hw, ?_⟩, hF⟩
    · show LogAt w' B a.l t.most t.nest ms1 (fs.take p.1) (t.ns.take p.1).length
      rw [hlen]; exact hL
    · show (fs.take p.1).length = (t.ns.take p.1).length
      rw [hlen, List.length_take]; omega
    · replace hi : (t.ns.take p.1)[i]? = some n := hi
      rw [List.getElem?_take] at hi
      split at hi
      · obtain ⟨v, hv, hn⟩ := hN i n hi
        exact ⟨v, by rw [List.getElem?_take, if_pos (by assumption)]; exact hv, hn⟩
      · cases hi
    · show ev'.length + ef'.length + ea'.length + et'.length + (t.ns.take p.1).length ≤ pot
      rw [hlen]; exact hp
end
end Go.Proofs.YtigmdfdcflkggaaGreat
