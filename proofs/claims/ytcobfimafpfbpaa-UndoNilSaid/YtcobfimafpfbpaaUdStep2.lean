/-
  A log, a map and a cell of it together: what Set, Delete and a cell's Set answer, and what there is behind them. Conditions: keys of at most 100 bytes.
-/
import Derived.Test.YtcobfimafpfbpaaUdStep
namespace Go.Proofs.Ytcobfimafpfbpaa
open Go Go.RowKit Go.ChangeMaps

/-- What a note may be of, too, once it is made. -/
def moreQ (Q : Nat → Prop) (w : World) (b : Nat) : Prop := Q b ∨ w.heap.size ≤ b
section
variable {w w' : World} {B : Nat} {Q : Nat → Prop} {a : Ad} {pot : Nat} {t : Tg}
/-- What a note of a log comes to. -/
def NoteR (B : Nat) (a : Ad) (t : Tg) (ms : List Mk) (fs : List Value) (v : Value) (w1 w2 : World) : Prop :=
  (∃ n, w2 = w1.drewN n) ∧ (t.was = [] ∨ t.full) ∨ (t.was ≠ [] ∧ LogAt w2 B a.l t.most t.nest ms (fs ++ [v]) (t.ns.length + 1) ∧ Fr B LogT (fun _ => False) w1 w2)
theorem noteR_any {ms : List Mk} {fs : List Value} (k : Nat) (cap : Array Value) (h1 : LogAt w B a.l t.most t.nest ms fs t.ns.length) (hl : ms.length = t.was.length) (hg : t.Good) :
    Calls Try.prog 23 #[.pointer a.lo, .func (.func k) #[] cap] w fun e w' => e = .returned (.int .i64 (if t.full then 43 else 0)) ∧ NoteR B a t ms fs (.func (.func k) #[] cap) w w' := by
  have hBw : B ≤ w.heap.size := by
    have := h1.lt
    obtain ⟨_, _, h⟩ := h1
    have := h.hB
    omega
  by_cases hw : t.was = []
  · obtain rfl : ms = [] := List.eq_nil_of_length_eq_zero (by rw [hl, hw]; rfl)
    rw [if_neg (fun h : t.full => h.1 hw)]
    refine (Note_none k cap h1).mono ?_
    rintro e w' ⟨rfl, n, rfl⟩
    exact ⟨rfl, .inl ⟨⟨n, rfl⟩, .inl hw⟩⟩
  · have hms : ms ≠ [] := fun e => hw (List.eq_nil_of_length_eq_zero (by rw [← hl, e]; rfl))
    by_cases hf : t.full
    · rw [if_pos hf]
      refine (Note_full _ h1 (by unfold refE; rw [if_pos ⟨hms, hf.2⟩])).mono ?_
      rintro e w' ⟨rfl, n, rfl⟩
      exact ⟨rfl, .inl ⟨⟨n, rfl⟩, .inr hf⟩⟩
    · rw [if_neg hf]
      have h2 := hg.most1
      have h3 : t.ns.length ≠ t.most := fun e => hf ⟨hw, e⟩
      refine (Note_add k cap h1 hms (by omega) hBw).mono ?_
      rintro e w' ⟨rfl, hL, hF⟩
      exact ⟨rfl, .inr ⟨hw, hL, hF⟩⟩
theorem noteR_keep {ms : List Mk} {fs : List Value} {v : Value} {w1 w2 : World} {es : Es} {s : ByteArray} (h : NoteR B a t ms fs v w1 w2) (hM : MapAt w1 B a.m a.lo a.o es) (hC : CellAt w1 B a.c a.lo s) : MapAt w2 B a.m a.lo a.o es ∧ CellAt w2 B a.c a.lo s ∧ KeepN w1 w2 ∧ FrT B a.o w1 w2 := by
  rcases h with ⟨⟨n, rfl⟩, _⟩ | ⟨_, _, hF⟩
  · have hb := drewN_below w1 n
    exact ⟨hM.below hb, hC.below hb, KeepN.of_below hb, Fr.of_below hb⟩
  · exact ⟨hM.log hF, hC.log hF, KeepN.of_fr' hF, FrT.log hF⟩
/-- What there is behind a note and what was set. -/
theorem th_fin {ms : List Mk} {fs : List Value} {v : Value} {n : Nt} {w1 w2 : World} {es es' : Es} {st : St}
    (h6 : ∀ (i : Nat) (n : Nt), t.ns[i]? = some n → ∃ v, fs[i]? = some v ∧ NoteAt w Q a.m a.c v n) (h5 : fs.length = t.ns.length) (h7 : ms.map (fun m => (m.notes, m.count)) = t.was.map (fun p => (p.1, p.1))) (h8 : t.Good) (h9 : es.length + t.ns.length ≤ pot)
    (h1 : LogAt w B a.l t.most t.nest ms fs t.ns.length) (hf : ¬ t.full) (hap : apN n st = t.cur) (hkb : KB st) (hnb : NB n)
    (hn : NoteAt w1 (fun b => w.heap.size ≤ b) a.m a.c v n) (hb : Below w.heap.size w w1) (hR : NoteR B a t ms fs v w1 w2) (kn12 : KeepN w1 w2)
    (kl : KeepL w2 w') (kn : KeepN w2 w') (hM : MapAt w' B a.m a.lo a.o es') (hC : CellAt w' B a.c a.lo st.s) (hl : ∀ k, look es' k = st.f k) (he : es'.length ≤ es.length + 1) :
    ThAt w' B (moreQ Q w) a (pot + 2) (t.noted n st) := by
  have kn02 := (KeepN.of_below hb).trans (kn12.trans kn)
  rcases hR with ⟨⟨d, rfl⟩, hx⟩ | ⟨hw, hL, hF⟩
  · have hw : t.was = [] := hx.resolve_right hf
    have e : t.noted n st = { t with cur := st } := by unfold Tg.noted; rw [if_pos hw]
    refine ⟨ms, fs, es', ?_, hM, ?_, ?_, ?_, ?_, ?_, h8.noted hf hap hkb hnb, ?_⟩
    · rw [e]
      exact ((h1.keep (KeepL.of_below hb)).keep (KeepL.drewN _ d)).keep kl
    · rw [e]; exact hC
    · rw [e]; exact hl
    · rw [e]; exact h5
    · rw [e]
      intro i m hi
      obtain ⟨u, hu, hm⟩ := h6 i m hi
      exact ⟨u, hu, (hm.keep kn02).mono fun _ _ h => .inl h⟩
    · rw [e]; exact h7
    · rw [e]
      show es'.length + t.ns.length ≤ pot + 2
      omega
  · have e : t.noted n st = { t with cur := st, ns := t.ns ++ [n] } := by unfold Tg.noted; rw [if_neg hw]
    have el : (t.ns ++ [n]).length = t.ns.length + 1 := by simp
    refine ⟨ms, fs ++ [v], es', ?_, hM, ?_, ?_, ?_, ?_, ?_, h8.noted hf hap hkb hnb, ?_⟩
    · rw [e]
      show LogAt w' B a.l t.most t.nest ms (fs ++ [v]) (t.ns ++ [n]).length
      rw [el]
      exact hL.keep kl
    · rw [e]; exact hC
    · rw [e]; exact hl
    · rw [e]
      show (fs ++ [v]).length = (t.ns ++ [n]).length
      rw [el, List.length_append, h5]; rfl
    · rw [e]
      intro i m hi
      replace hi : (t.ns ++ [n])[i]? = some m := hi
      rcases Nat.lt_or_ge i t.ns.length with hlt | hge
      · rw [List.getElem?_append_left hlt] at hi
        obtain ⟨u, hu, hm⟩ := h6 i m hi
        exact ⟨u, by rw [List.getElem?_append_left (by omega)]; exact hu, (hm.keep kn02).mono fun _ _ h => .inl h⟩
      · have hi2 : i = t.ns.length := by
          have := (List.getElem?_eq_some_iff.1 hi).1
          rw [el] at this
          omega
        subst hi2
        rw [List.getElem?_append_right (Nat.le_refl _), Nat.sub_self] at hi
        cases hi
        refine ⟨v, by rw [← h5, List.getElem?_append_right (Nat.le_refl _), Nat.sub_self]; rfl, ((hn.keep kn12).keep kn).mono fun _ _ h => .inr h⟩
    · rw [e]; exact h7
    · rw [e]
      show es'.length + (t.ns ++ [n]).length ≤ pot + 2
      rw [el]; omega
theorem ntOf_eq {es : Es} (h : ∀ k, look es k = t.cur.f k) (k : ByteArray) : ntOf es k = ntF t.cur.f k := by unfold ntOf ntF; rw [h k]; cases t.cur.f k <;> rfl
theorem th_put (h : ThAt w B Q a pot t) (k : ByteArray) (v : Int) (hk : k.size ≤ 100) :
    Calls Try.prog 28 #[ptrV a.m, .string k, .int .i64 v] w fun e w' => e = .returned (.int .i64 (t.put k v).1) ∧ ThAt w' B (moreQ Q w) a (pot + 2) (t.put k v).2 ∧ FrT B a.o w w' := by
  have h0 := h
  obtain ⟨ms, fs, es, h1, h2, h3, h4, h5, h6, h7, h8, h9⟩ := h
  have hl := th_len h7
  have hnote := fun w1 cap (hb : Below w.heap.size w w1) => noteR_any (w := w1) 60 cap (h1.keep (KeepL.of_below hb)) hl h8
  by_cases hf : t.full
  · rw [show t.put k v = (43, t) from if_pos hf]
    rw [if_pos hf] at hnote
    refine (Set_bad k v h2 a.c 43 (by decide) (fun cap w1 w2 => NoteR B a t ms fs (.func (.func 60) #[] cap) w1 w2) (fun w1 cap _ hb => hnote w1 cap hb)).mono ?_
    rintro e w' ⟨rfl, cap, w1, _, hb, hR⟩
    rcases hR with ⟨⟨d, rfl⟩, _⟩ | ⟨hw, hL, hF⟩
    · have hb2 := below_drewN hb d
      exact ⟨rfl, (h0.below hb2).mono (by omega) (fun _ _ h => .inl h), Fr.of_below hb2⟩
    · exfalso
      obtain ⟨_, _, hL⟩ := hL
      have := hL.cp
      have := hf.2
      omega
  · rw [show t.put k v = (0, t.noted (ntF t.cur.f k) (putF t.cur k (some v))) from if_neg hf]
    rw [if_neg hf] at hnote
    refine (Set_ok k v h2 a.c (fun cap w1 w2 => NoteR B a t ms fs (.func (.func 60) #[] cap) w1 w2) (fun w1 cap _ hb => hnote w1 cap hb) (fun cap w1 w2 hb hR => (noteR_keep hR (h2.below hb) (h3.below hb)).1)).mono ?_
    rintro e w' ⟨rfl, hM, cap, w1, w2, hn, hb, hR, hS⟩
    obtain ⟨hM2, hC2, kn, hF2⟩ := noteR_keep hR (h2.below hb) (h3.below hb)
    rw [ntOf_eq h4] at hn
    refine ⟨rfl, th_fin h6 h5 h7 h8 h9 h1 hf (ap_put _ _ _) (h8.kb.put hk _) (h8.kb.nt k) hn hb hR kn (KeepL.of_map hS hM2.map) (KeepN.of_map hS hM2.map) hM ⟨hC2.hB, hC2.blk.stp hS (hM2.ne_cell hC2).2⟩ (fun j => ?_) (putK_length ..), Fr.trans (Fr.trans (Fr.of_below hb) hF2) (FrT.map hS hM2)⟩
    rw [look_putK, h4 j]; rfl
theorem th_isNil {ms : List Mk} {fs : List Value} {c : Nat} (h : LogAt w B a.l t.most t.nest ms fs c) : Calls Try.prog 42 #[.pointer a.lo] w fun e w' => e = .returned (.bool false) ∧ w' = w := by
  obtain ⟨mv, nv, h⟩ := h
  exact isNil_no h
theorem th_del (h : ThAt w B Q a pot t) (k : ByteArray) (hk : k.size ≤ 100) :
    Calls Try.prog 29 #[ptrV a.m, .string k] w fun e w' => e = .returned (.int .i64 (t.del k).1) ∧ ThAt w' B (moreQ Q w) a (pot + 2) (t.del k).2 ∧ FrT B a.o w w' := by
  have h0 := h
  obtain ⟨ms, fs, es, h1, h2, h3, h4, h5, h6, h7, h8, h9⟩ := h
  have hl := th_len h7
  have hi := th_isNil h1
  have hnote := fun w1 cap (hb : Below w.heap.size w w1) => noteR_any (w := w1) 60 cap (h1.keep (KeepL.of_below hb)) hl h8
  cases hx : t.cur.f k with
  | none =>
    rw [show t.del k = (0, t) from if_pos hx]
    refine (Delete_none k h2 ((h4 k).trans hx) hi).mono ?_
    rintro e w' ⟨rfl, rfl⟩
    exact ⟨rfl, h0.mono (by omega) (fun _ _ h => .inl h), Fr.refl _ _ _ _⟩
  | some x =>
    have hx2 : ¬ t.cur.f k = none := by rw [hx]; simp
    by_cases hf : t.full
    · rw [show t.del k = (43, t) by unfold Tg.del; rw [if_neg hx2, if_pos hf]]
      rw [if_pos hf] at hnote
      refine (Delete_bad k h2 x ((h4 k).trans hx) hi a.c 43 (by decide) (fun cap w1 w2 => NoteR B a t ms fs (.func (.func 60) #[] cap) w1 w2) (fun w1 cap _ hb => hnote w1 cap hb)).mono ?_
      rintro e w' ⟨rfl, cap, w1, _, hb, hR⟩
      rcases hR with ⟨⟨d, rfl⟩, _⟩ | ⟨hw, hL, hF⟩
      · have hb2 := below_drewN hb d
        exact ⟨rfl, (h0.below hb2).mono (by omega) (fun _ _ h => .inl h), Fr.of_below hb2⟩
      · exfalso
        obtain ⟨_, _, hL⟩ := hL
        have := hL.cp
        have := hf.2
        omega
    · rw [show t.del k = (0, t.noted (ntF t.cur.f k) (putF t.cur k none)) by unfold Tg.del; rw [if_neg hx2, if_neg hf]]
      rw [if_neg hf] at hnote
      refine (Delete_ok k h2 x ((h4 k).trans hx) hi a.c (fun cap w1 w2 => NoteR B a t ms fs (.func (.func 60) #[] cap) w1 w2) (fun w1 cap _ hb => hnote w1 cap hb) (fun cap w1 w2 hb hR => (noteR_keep hR (h2.below hb) (h3.below hb)).1)).mono ?_
      rintro e w' ⟨rfl, hM, cap, w1, w2, hn, hb, hR, hS⟩
      obtain ⟨hM2, hC2, kn, hF2⟩ := noteR_keep hR (h2.below hb) (h3.below hb)
      rw [ntOf_eq h4] at hn
      refine ⟨rfl, th_fin h6 h5 h7 h8 h9 h1 hf (ap_put _ _ _) (h8.kb.put hk _) (h8.kb.nt k) hn hb hR kn (KeepL.of_map hS hM2.map) (KeepN.of_map hS hM2.map) hM ⟨hC2.hB, hC2.blk.stp hS (hM2.ne_cell hC2).2⟩ (fun j => ?_) (Nat.le_succ_of_le (dropK_length ..)), Fr.trans (Fr.trans (Fr.of_below hb) hF2) (FrT.map hS hM2)⟩
      rw [look_dropK, h4 j]; rfl
theorem th_cset (h : ThAt w B Q a pot t) (x : ByteArray) :
    Calls Try.prog 31 #[ptrV a.c, .string x] w fun e w' => e = .returned (.int .i64 (t.cellS x).1) ∧ ThAt w' B (moreQ Q w) a (pot + 2) (t.cellS x).2 ∧ FrT B a.o w w' := by
  have h0 := h
  obtain ⟨ms, fs, es, h1, h2, h3, h4, h5, h6, h7, h8, h9⟩ := h
  have hl := th_len h7
  have hnote := fun w1 cap (hb : Below w.heap.size w w1) => noteR_any (w := w1) 52 cap (h1.keep (KeepL.of_below hb)) hl h8
  by_cases hf : t.full
  · rw [show t.cellS x = (43, t) from if_pos hf]
    rw [if_pos hf] at hnote
    refine (CSet_bad x h3 a.m 43 (by decide) (fun cap w1 w2 => NoteR B a t ms fs (.func (.func 52) #[] cap) w1 w2) (fun w1 cap _ hb => hnote w1 cap hb)).mono ?_
    rintro e w' ⟨rfl, cap, w1, _, hb, hR⟩
    rcases hR with ⟨⟨d, rfl⟩, _⟩ | ⟨hw, hL, hF⟩
    · have hb2 := below_drewN hb d
      exact ⟨rfl, (h0.below hb2).mono (by omega) (fun _ _ h => .inl h), Fr.of_below hb2⟩
    · exfalso
      obtain ⟨_, _, hL⟩ := hL
      have := hL.cp
      have := hf.2
      omega
  · rw [show t.cellS x = (0, t.noted (.cell t.cur.s) ⟨t.cur.f, x⟩) from if_neg hf]
    rw [if_neg hf] at hnote
    refine (CSet_ok x h3 a.m (fun cap w1 w2 => NoteR B a t ms fs (.func (.func 52) #[] cap) w1 w2) (fun w1 cap _ hb => hnote w1 cap hb) (fun cap w1 w2 hb hR => ⟨(noteR_keep hR (h2.below hb) (h3.below hb)).2.1, (noteR_keep hR (h2.below hb) (h3.below hb)).2.2.1⟩)).mono ?_
    rintro e w' ⟨rfl, hC, cap, w1, w2, hn, hb, hR, hS⟩
    obtain ⟨hM2, hC2, kn, hF2⟩ := noteR_keep hR (h2.below hb) (h3.below hb)
    have hne := hM2.ne_cell hC2
    exact ⟨rfl, th_fin h6 h5 h7 h8 h9 h1 hf (ap_cell _ _) h8.kb trivial hn hb hR kn (KeepL.of_cell hS hC2) (KeepN.of_cell hS hC2) (hM2.keep (hS.block _ hM2.blk.lt (Ne.symm hne.1)) (hS.block _ hM2.map.lt (Ne.symm hne.2))) hC h4 (Nat.le_succ _), Fr.trans (Fr.trans (Fr.of_below hb) hF2) (FrT.cell hS hC2)⟩
end
end Go.Proofs.Ytcobfimafpfbpaa
