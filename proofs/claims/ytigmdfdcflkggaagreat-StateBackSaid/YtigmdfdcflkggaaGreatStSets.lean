/-
  A log and all that a state has of it: what the calls answer that set, and what there is behind them. Conditions: keys of at most 200 bytes.
-/
import Derived.Test.YtigmdfdcflkggaaGreatStStep
namespace Go.Proofs.YtigmdfdcflkggaaGreat
open Go Go.RowKit Go.ChangeMaps

section
variable {w w' : World} {B : Nat} {a : Ad} {pot : Nat} {t : Tg}
/-- What a note of a log comes to. -/
def NoteR (B : Nat) (a : Ad) (t : Tg) (ms : List Mk) (fs : List Value) (v : Value) (w1 w2 : World) : Prop :=
  (∃ n, w2 = w1.drewN n) ∧ (t.was = [] ∨ t.full) ∨ (t.was ≠ [] ∧ LogAt w2 B a.l t.most t.nest ms (fs ++ [v]) (t.ns.length + 1) ∧ Fr B LogT (fun _ => False) w1 w2)
theorem noteR_any {ms : List Mk} {fs : List Value} (k : Nat) (cap : Array Value) (h1 : LogAt w B a.l t.most t.nest ms fs t.ns.length) (hl : ms.length = t.was.length) (hg : t.Good) :
    Calls Tryz.prog 126 #[.pointer a.lo, .func (.func k) #[] cap] w fun e w' => e = .returned (.int .i64 (if t.full then 43 else 0)) ∧ NoteR B a t ms fs (.func (.func k) #[] cap) w w' := by
  have hBw : B ≤ w.heap.size := by
    have := h1.lt
    obtain ⟨_, _, h⟩ := h1
    have := h.hB
    omega
  by_cases hw : t.was = []
  · obtain rfl : ms = [] := List.eq_nil_of_length_eq_zero (by rw [hl, hw]; rfl)
    rw [if_neg (fun h : t.full => h.1 hw)]
    refine (Note_none k cap h1).mono ?_
    rintro e w' ⟨rfl, n, rfl⟩
    exact ⟨rfl, .inl ⟨⟨n, rfl⟩, .inl hw⟩⟩
  · have hms : ms ≠ [] := fun e => hw (List.eq_nil_of_length_eq_zero (by rw [← hl, e]; rfl))
    by_cases hf : t.full
    · rw [if_pos hf]
      refine (Note_full _ h1 (by unfold refE; rw [if_pos ⟨hms, hf.2⟩])).mono ?_
      rintro e w' ⟨rfl, n, rfl⟩
      exact ⟨rfl, .inl ⟨⟨n, rfl⟩, .inr hf⟩⟩
    · rw [if_neg hf]
      have h2 := hg.most1
      have h3 : t.ns.length ≠ t.most := fun e => hf ⟨hw, e⟩
      refine (Note_add k cap h1 hms (by omega) hBw).mono ?_
      rintro e w' ⟨rfl, hL, hF⟩
      exact ⟨rfl, .inr ⟨hw, hL, hF⟩⟩
theorem noteR_keep {ms : List Mk} {fs : List Value} {v : Value} {w1 w2 : World} {st : Sta} {ev : Es Vr} {ef : Es Nd} {ea et : Es ByteArray} (h : NoteR B a t ms fs v w1 w2) (hO : Objs w1 B a st ev ef ea et) : Objs w2 B a st ev ef ea et ∧ KeepB w1 w2 ∧ FrT B a w1 w2 := by
  rcases h with ⟨⟨n, rfl⟩, _⟩ | ⟨_, _, hF⟩
  · have hb := drewN_below w1 n
    exact ⟨hO.below hb, KeepB.of_below hb, FrT.of_below hb⟩
  · exact ⟨hO.log hF, KeepB.of_fr hF, FrT.log hF⟩
/-- What there is behind a note and what was set. -/
theorem th_fin {ms : List Mk} {fs : List Value} {v : Value} {n : Nt} {w1 w2 : World} {ev ev' : Es Vr} {ef ef' : Es Nd} {ea et ea' et' : Es ByteArray} {st : Sta}
    (h6 : ∀ (i : Nat) (n : Nt), t.ns[i]? = some n → ∃ v, fs[i]? = some v ∧ NoteAt w a v n) (h5 : fs.length = t.ns.length) (h7 : ms.map (fun m => (m.notes, m.count)) = t.was.map (fun p => (p.1, p.1))) (h8 : t.Good) (h9 : ev.length + ef.length + ea.length + et.length + t.ns.length ≤ pot)
    (h1 : LogAt w B a.l t.most t.nest ms fs t.ns.length) (hf : ¬ t.full) (hap : apN n st = t.cur) (hkb : KB st) (hnb : NB n)
    (hn : NoteAt w1 a v n) (hb : Below w.heap.size w w1) (hR : NoteR B a t ms fs v w1 w2) (kn12 : KeepB w1 w2)
    (kl : KeepL w2 w') (kn : KeepB w2 w') (hO : Objs w' B a st ev' ef' ea' et') (he : ev'.length + ef'.length + ea'.length + et'.length ≤ ev.length + ef.length + ea.length + et.length + 1) :
    ThAt w' B a (pot + 2) (t.noted n st) := by
  have kn02 := (KeepB.of_below hb).trans (kn12.trans kn)
  rcases hR with ⟨⟨d, rfl⟩, hx⟩ | ⟨hw, hL, hF⟩
  · have hw : t.was = [] := hx.resolve_right hf
    have e : t.noted n st = { t with cur := st } := by unfold Tg.noted; rw [if_pos hw]
    refine ⟨ms, fs, ev', ef', ea', et', ?_, ?_, ?_, ?_, ?_, h8.noted hf hap hkb hnb, ?_⟩
    · rw [e]
      exact ((h1.keep (KeepL.of_below hb)).keep (KeepL.drewN _ d)).keep kl
    · rw [e]; exact hO
    · rw [e]; exact h5
    · rw [e]
      intro i m hi
      obtain ⟨u, hu, hm⟩ := h6 i m hi
      exact ⟨u, hu, hm.keep kn02⟩
    · rw [e]; exact h7
    · rw [e]
      show ev'.length + ef'.length + ea'.length + et'.length + t.ns.length ≤ pot + 2
      omega
  · have e : t.noted n st = { t with cur := st, ns := t.ns ++ [n] } := by unfold Tg.noted; rw [if_neg hw]
    have el : (t.ns ++ [n]).length = t.ns.length + 1 := by simp
    refine ⟨ms, fs ++ [v], ev', ef', ea', et', ?_, ?_, ?_, ?_, ?_, h8.noted hf hap hkb hnb, ?_⟩
    · rw [e]
      show LogAt w' B a.l t.most t.nest ms (fs ++ [v]) (t.ns ++ [n]).length
      rw [el]
      exact hL.keep kl
    · rw [e]; exact hO
    · rw [e]
      show (fs ++ [v]).length = (t.ns ++ [n]).length
      rw [el, List.length_append, h5]; rfl
    · rw [e]
      intro i m hi
      replace hi : (t.ns ++ [n])[i]? = some m := hi
      rcases Nat.lt_or_ge i t.ns.length with hlt | hge
      · rw [List.getElem?_append_left hlt] at hi
        obtain ⟨u, hu, hm⟩ := h6 i m hi
        exact ⟨u, by rw [List.getElem?_append_left (by omega)]; exact hu, hm.keep kn02⟩
      · have hi2 : i = t.ns.length := by
          have := (List.getElem?_eq_some_iff.1 hi).1
          rw [el] at this
          omega
        subst hi2
        rw [List.getElem?_append_right (Nat.le_refl _), Nat.sub_self] at hi
        cases hi
        exact ⟨v, by rw [← h5, List.getElem?_append_right (Nat.le_refl _), Nat.sub_self]; rfl, (hn.keep kn12).keep kn⟩
    · rw [e]; exact h7
    · rw [e]
      show ev'.length + ef'.length + ea'.length + et'.length + (t.ns ++ [n]).length ≤ pot + 2
      rw [el]; omega
theorem th_isNil {ms : List Mk} {fs : List Value} {c : Nat} (h : LogAt w B a.l t.most t.nest ms fs c) : Calls Tryz.prog 77 #[.pointer a.lo] w fun e w' => e = .returned (.bool false) ∧ w' = w := by
  obtain ⟨mv, nv, h⟩ := h
  exact isNil_no h
theorem th_putv (h : ThAt w B a pot t) (k : ByteArray) (v : Vr) (hk : k.size ≤ 200) (hv : v.v.size ≤ 5000) :
    Calls Tryz.prog 103 #[ptrV a.v, .string k, encV v] w fun e w' => e = .returned (.int .i64 (t.putv k v).1) ∧ ThAt w' B a (pot + 2) (t.putv k v).2 ∧ FrT B a w w' := by
  have h0 := h
  obtain ⟨ms, fs, ev, ef, ea, et, h1, h2, h5, h6, h7, h8, h9⟩ := h
  have hl := th_len h7
  have hnote := fun w1 cap (hb : Below w.heap.size w w1) => noteR_any (w := w1) 137 cap (h1.keep (KeepL.of_below hb)) hl h8
  by_cases hf : t.full
  · rw [show t.putv k v = (43, t) from if_pos hf]
    rw [if_pos hf] at hnote
    refine (MV.Set_bad k v h2.mv 43 (by decide) (fun cap w1 w2 => NoteR B a t ms fs (.func (.func 137) #[] cap) w1 w2) (fun w1 cap _ hb => hnote w1 cap hb)).mono ?_
    rintro e w' ⟨rfl, cap, w1, _, hb, hR⟩
    rcases hR with ⟨⟨d, rfl⟩, _⟩ | ⟨hw, hL, hF⟩
    · have hb2 := below_drewN hb d
      exact ⟨rfl, (h0.below hb2).mono (by omega), FrT.of_below hb2⟩
    · exfalso
      obtain ⟨_, _, hL⟩ := hL
      have := hL.cp
      have := hf.2
      omega
  · rw [show t.putv k v = (0, t.noted (.v k (t.cur.v k)) { t.cur with v := updF t.cur.v k (some v) }) from if_neg hf]
    rw [if_neg hf] at hnote
    refine (MV.Set_ok k v h2.mv (fun cap w1 w2 => NoteR B a t ms fs (.func (.func 137) #[] cap) w1 w2) (fun w1 cap _ hb => hnote w1 cap hb) (fun cap w1 w2 hb hR => ⟨(noteR_keep hR (h2.below hb)).1.mv, fun b cur t hbk ht => (noteR_keep hR (h2.below hb)).2.1 b cur t hbk (MV.nt ht)⟩)).mono ?_
    rintro e w' ⟨rfl, hM, cap, w1, w2, hn, hb, hR, hS⟩
    obtain ⟨hO2, kn, hF2⟩ := noteR_keep hR (h2.below hb)
    rw [h2.lv] at hn
    refine ⟨rfl, th_fin h6 h5 h7 h8 h9 h1 hf (ap_v _ _ _) ⟨h8.kb.v.upd (fun y hy => by cases hy; exact ⟨hk, hv⟩), h8.kb.f, h8.kb.a, h8.kb.t⟩ (show NB (.v k (t.cur.v k)) from fun y hy => h8.kb.v k y hy) hn hb hR kn (hO2.keepLOfv hS) (hO2.keepOfv hS) (hO2.setv hS hM (fun j => ?_)) ?_, (FrT.of_below hb).trans (hF2.trans (hO2.frOfv hS))⟩
    · rw [look_putK, hO2.lv j]; rfl
    · have := putK_length ev k v; omega
theorem th_delv (h : ThAt w B a pot t) (k : ByteArray) :
    Calls Tryz.prog 87 #[ptrV a.v, .string k] w fun e w' => e = .returned (.int .i64 (t.delv k).1) ∧ ThAt w' B a (pot + 2) (t.delv k).2 ∧ FrT B a w w' := by
  have h0 := h
  obtain ⟨ms, fs, ev, ef, ea, et, h1, h2, h5, h6, h7, h8, h9⟩ := h
  have hl := th_len h7
  have hnote := fun w1 cap (hb : Below w.heap.size w w1) => noteR_any (w := w1) 137 cap (h1.keep (KeepL.of_below hb)) hl h8
  have hi := th_isNil h1
  cases hx : t.cur.v k with
  | none =>
    rw [show t.delv k = (0, t) by unfold Tg.delv; rw [hx]]
    refine (MV.Delete_none k h2.mv ((h2.lv k).trans hx) hi).mono ?_
    rintro e w' ⟨rfl, hb⟩
    exact ⟨rfl, (h0.below hb).mono (by omega), FrT.of_below hb⟩
  | some x =>
    by_cases hf : t.full
    · rw [show t.delv k = (43, t) by unfold Tg.delv; rw [hx]; exact if_pos hf]
      rw [if_pos hf] at hnote
      refine (MV.Delete_bad k h2.mv x ((h2.lv k).trans hx) hi 43 (by decide) (fun cap w1 w2 => NoteR B a t ms fs (.func (.func 137) #[] cap) w1 w2) (fun w1 cap _ hb => hnote w1 cap hb)).mono ?_
      rintro e w' ⟨rfl, cap, w1, _, hb, hR⟩
      rcases hR with ⟨⟨d, rfl⟩, _⟩ | ⟨hw, hL, hF⟩
      · have hb2 := below_drewN hb d
        exact ⟨rfl, (h0.below hb2).mono (by omega), FrT.of_below hb2⟩
      · exfalso
        obtain ⟨_, _, hL⟩ := hL
        have := hL.cp
        have := hf.2
        omega
    · rw [show t.delv k = (0, t.noted (.v k (t.cur.v k)) { t.cur with v := updF t.cur.v k none }) by unfold Tg.delv; rw [hx]; exact if_neg hf]
      rw [if_neg hf] at hnote
      refine (MV.Delete_ok k h2.mv x ((h2.lv k).trans hx) hi (fun cap w1 w2 => NoteR B a t ms fs (.func (.func 137) #[] cap) w1 w2) (fun w1 cap _ hb => hnote w1 cap hb) (fun cap w1 w2 hb hR => (noteR_keep hR (h2.below hb)).1.mv)).mono ?_
      rintro e w' ⟨rfl, hM, cap, w1, w2, hn, hb, hR, hS⟩
      obtain ⟨hO2, kn, hF2⟩ := noteR_keep hR (h2.below hb)
      rw [h2.lv] at hn
      refine ⟨rfl, th_fin h6 h5 h7 h8 h9 h1 hf (ap_v _ _ _) ⟨h8.kb.v.upd (fun y hy => by cases hy), h8.kb.f, h8.kb.a, h8.kb.t⟩ (show NB (.v k (t.cur.v k)) from fun y hy => h8.kb.v k y hy) hn hb hR kn (hO2.keepLOfv hS) (hO2.keepOfv hS) (hO2.setv hS hM (fun j => ?_)) ?_, (FrT.of_below hb).trans (hF2.trans (hO2.frOfv hS))⟩
      · rw [look_dropK, hO2.lv j]; rfl
      · have := dropK_length ev k; omega
theorem th_putf (h : ThAt w B a pot t) (k : ByteArray) (v : Nd) (hk : k.size ≤ 200) :
    Calls Tryz.prog 105 #[ptrV a.f, .string k, encN v] w fun e w' => e = .returned (.int .i64 (t.putf k v).1) ∧ ThAt w' B a (pot + 2) (t.putf k v).2 ∧ FrT B a w w' := by
  have h0 := h
  obtain ⟨ms, fs, ev, ef, ea, et, h1, h2, h5, h6, h7, h8, h9⟩ := h
  have hl := th_len h7
  have hnote := fun w1 cap (hb : Below w.heap.size w w1) => noteR_any (w := w1) 143 cap (h1.keep (KeepL.of_below hb)) hl h8
  by_cases hf : t.full
  · rw [show t.putf k v = (43, t) from if_pos hf]
    rw [if_pos hf] at hnote
    refine (MN.Set_bad k v h2.mf 43 (by decide) (fun cap w1 w2 => NoteR B a t ms fs (.func (.func 143) #[] cap) w1 w2) (fun w1 cap _ hb => hnote w1 cap hb)).mono ?_
    rintro e w' ⟨rfl, cap, w1, _, hb, hR⟩
    rcases hR with ⟨⟨d, rfl⟩, _⟩ | ⟨hw, hL, hF⟩
    · have hb2 := below_drewN hb d
      exact ⟨rfl, (h0.below hb2).mono (by omega), FrT.of_below hb2⟩
    · exfalso
      obtain ⟨_, _, hL⟩ := hL
      have := hL.cp
      have := hf.2
      omega
  · rw [show t.putf k v = (0, t.noted (.f k (t.cur.f k)) { t.cur with f := updF t.cur.f k (some v) }) from if_neg hf]
    rw [if_neg hf] at hnote
    refine (MN.Set_ok k v h2.mf (fun cap w1 w2 => NoteR B a t ms fs (.func (.func 143) #[] cap) w1 w2) (fun w1 cap _ hb => hnote w1 cap hb) (fun cap w1 w2 hb hR => ⟨(noteR_keep hR (h2.below hb)).1.mf, fun b cur t hbk ht => (noteR_keep hR (h2.below hb)).2.1 b cur t hbk (MN.nt ht)⟩)).mono ?_
    rintro e w' ⟨rfl, hM, cap, w1, w2, hn, hb, hR, hS⟩
    obtain ⟨hO2, kn, hF2⟩ := noteR_keep hR (h2.below hb)
    rw [h2.lf] at hn
    refine ⟨rfl, th_fin h6 h5 h7 h8 h9 h1 hf (ap_f _ _ _) ⟨h8.kb.v, h8.kb.f.upd (fun y hy => by cases hy; exact ⟨hk, trivial⟩), h8.kb.a, h8.kb.t⟩ (show NB (.f k (t.cur.f k)) from fun y hy => h8.kb.f k y hy) hn hb hR kn (hO2.keepLOff hS) (hO2.keepOff hS) (hO2.setf hS hM (fun j => ?_)) ?_, (FrT.of_below hb).trans (hF2.trans (hO2.frOff hS))⟩
    · rw [look_putK, hO2.lf j]; rfl
    · have := putK_length ef k v; omega
theorem th_delf (h : ThAt w B a pot t) (k : ByteArray) :
    Calls Tryz.prog 107 #[ptrV a.f, .string k] w fun e w' => e = .returned (.int .i64 (t.delf k).1) ∧ ThAt w' B a (pot + 2) (t.delf k).2 ∧ FrT B a w w' := by
  have h0 := h
  obtain ⟨ms, fs, ev, ef, ea, et, h1, h2, h5, h6, h7, h8, h9⟩ := h
  have hl := th_len h7
  have hnote := fun w1 cap (hb : Below w.heap.size w w1) => noteR_any (w := w1) 143 cap (h1.keep (KeepL.of_below hb)) hl h8
  have hi := th_isNil h1
  cases hx : t.cur.f k with
  | none =>
    rw [show t.delf k = (0, t) by unfold Tg.delf; rw [hx]]
    refine (MN.Delete_none k h2.mf ((h2.lf k).trans hx) hi).mono ?_
    rintro e w' ⟨rfl, hb⟩
    exact ⟨rfl, (h0.below hb).mono (by omega), FrT.of_below hb⟩
  | some x =>
    by_cases hf : t.full
    · rw [show t.delf k = (43, t) by unfold Tg.delf; rw [hx]; exact if_pos hf]
      rw [if_pos hf] at hnote
      refine (MN.Delete_bad k h2.mf x ((h2.lf k).trans hx) hi 43 (by decide) (fun cap w1 w2 => NoteR B a t ms fs (.func (.func 143) #[] cap) w1 w2) (fun w1 cap _ hb => hnote w1 cap hb)).mono ?_
      rintro e w' ⟨rfl, cap, w1, _, hb, hR⟩
      rcases hR with ⟨⟨d, rfl⟩, _⟩ | ⟨hw, hL, hF⟩
      · have hb2 := below_drewN hb d
        exact ⟨rfl, (h0.below hb2).mono (by omega), FrT.of_below hb2⟩
      · exfalso
        obtain ⟨_, _, hL⟩ := hL
        have := hL.cp
        have := hf.2
        omega
    · rw [show t.delf k = (0, t.noted (.f k (t.cur.f k)) { t.cur with f := updF t.cur.f k none }) by unfold Tg.delf; rw [hx]; exact if_neg hf]
      rw [if_neg hf] at hnote
      refine (MN.Delete_ok k h2.mf x ((h2.lf k).trans hx) hi (fun cap w1 w2 => NoteR B a t ms fs (.func (.func 143) #[] cap) w1 w2) (fun w1 cap _ hb => hnote w1 cap hb) (fun cap w1 w2 hb hR => (noteR_keep hR (h2.below hb)).1.mf)).mono ?_
      rintro e w' ⟨rfl, hM, cap, w1, w2, hn, hb, hR, hS⟩
      obtain ⟨hO2, kn, hF2⟩ := noteR_keep hR (h2.below hb)
      rw [h2.lf] at hn
      refine ⟨rfl, th_fin h6 h5 h7 h8 h9 h1 hf (ap_f _ _ _) ⟨h8.kb.v, h8.kb.f.upd (fun y hy => by cases hy), h8.kb.a, h8.kb.t⟩ (show NB (.f k (t.cur.f k)) from fun y hy => h8.kb.f k y hy) hn hb hR kn (hO2.keepLOff hS) (hO2.keepOff hS) (hO2.setf hS hM (fun j => ?_)) ?_, (FrT.of_below hb).trans (hF2.trans (hO2.frOff hS))⟩
      · rw [look_dropK, hO2.lf j]; rfl
      · have := dropK_length ef k; omega
theorem th_puta (h : ThAt w B a pot t) (k : ByteArray) (v : ByteArray) (hk : k.size ≤ 200) :
    Calls Tryz.prog 99 #[ptrV a.a, .string k, encW v] w fun e w' => e = .returned (.int .i64 (t.puta k v).1) ∧ ThAt w' B a (pot + 2) (t.puta k v).2 ∧ FrT B a w w' := by
  have h0 := h
  obtain ⟨ms, fs, ev, ef, ea, et, h1, h2, h5, h6, h7, h8, h9⟩ := h
  have hl := th_len h7
  have hnote := fun w1 cap (hb : Below w.heap.size w w1) => noteR_any (w := w1) 139 cap (h1.keep (KeepL.of_below hb)) hl h8
  by_cases hf : t.full
  · rw [show t.puta k v = (43, t) from if_pos hf]
    rw [if_pos hf] at hnote
    refine (MW.Set_bad k v h2.ma 43 (by decide) (fun cap w1 w2 => NoteR B a t ms fs (.func (.func 139) #[] cap) w1 w2) (fun w1 cap _ hb => hnote w1 cap hb)).mono ?_
    rintro e w' ⟨rfl, cap, w1, _, hb, hR⟩
    rcases hR with ⟨⟨d, rfl⟩, _⟩ | ⟨hw, hL, hF⟩
    · have hb2 := below_drewN hb d
      exact ⟨rfl, (h0.below hb2).mono (by omega), FrT.of_below hb2⟩
    · exfalso
      obtain ⟨_, _, hL⟩ := hL
      have := hL.cp
      have := hf.2
      omega
  · rw [show t.puta k v = (0, t.noted (.a k (t.cur.a k)) { t.cur with a := updF t.cur.a k (some v) }) from if_neg hf]
    rw [if_neg hf] at hnote
    refine (MW.Set_ok k v h2.ma (fun cap w1 w2 => NoteR B a t ms fs (.func (.func 139) #[] cap) w1 w2) (fun w1 cap _ hb => hnote w1 cap hb) (fun cap w1 w2 hb hR => ⟨(noteR_keep hR (h2.below hb)).1.ma, fun b cur t hbk ht => (noteR_keep hR (h2.below hb)).2.1 b cur t hbk (MW.nt ht)⟩)).mono ?_
    rintro e w' ⟨rfl, hM, cap, w1, w2, hn, hb, hR, hS⟩
    obtain ⟨hO2, kn, hF2⟩ := noteR_keep hR (h2.below hb)
    rw [h2.la] at hn
    refine ⟨rfl, th_fin h6 h5 h7 h8 h9 h1 hf (ap_a _ _ _) ⟨h8.kb.v, h8.kb.f, h8.kb.a.upd (fun y hy => by cases hy; exact ⟨hk, trivial⟩), h8.kb.t⟩ (show NB (.a k (t.cur.a k)) from fun y hy => h8.kb.a k y hy) hn hb hR kn (hO2.keepLOfa hS) (hO2.keepOfa hS) (hO2.seta hS hM (fun j => ?_)) ?_, (FrT.of_below hb).trans (hF2.trans (hO2.frOfa hS))⟩
    · rw [look_putK, hO2.la j]; rfl
    · have := putK_length ea k v; omega
theorem th_dela (h : ThAt w B a pot t) (k : ByteArray) :
    Calls Tryz.prog 101 #[ptrV a.a, .string k] w fun e w' => e = .returned (.int .i64 (t.dela k).1) ∧ ThAt w' B a (pot + 2) (t.dela k).2 ∧ FrT B a w w' := by
  have h0 := h
  obtain ⟨ms, fs, ev, ef, ea, et, h1, h2, h5, h6, h7, h8, h9⟩ := h
  have hl := th_len h7
  have hnote := fun w1 cap (hb : Below w.heap.size w w1) => noteR_any (w := w1) 139 cap (h1.keep (KeepL.of_below hb)) hl h8
  have hi := th_isNil h1
  cases hx : t.cur.a k with
  | none =>
    rw [show t.dela k = (0, t) by unfold Tg.dela; rw [hx]]
    refine (MW.Delete_none k h2.ma ((h2.la k).trans hx) hi).mono ?_
    rintro e w' ⟨rfl, hb⟩
    exact ⟨rfl, (h0.below hb).mono (by omega), FrT.of_below hb⟩
  | some x =>
    by_cases hf : t.full
    · rw [show t.dela k = (43, t) by unfold Tg.dela; rw [hx]; exact if_pos hf]
      rw [if_pos hf] at hnote
      refine (MW.Delete_bad k h2.ma x ((h2.la k).trans hx) hi 43 (by decide) (fun cap w1 w2 => NoteR B a t ms fs (.func (.func 139) #[] cap) w1 w2) (fun w1 cap _ hb => hnote w1 cap hb)).mono ?_
      rintro e w' ⟨rfl, cap, w1, _, hb, hR⟩
      rcases hR with ⟨⟨d, rfl⟩, _⟩ | ⟨hw, hL, hF⟩
      · have hb2 := below_drewN hb d
        exact ⟨rfl, (h0.below hb2).mono (by omega), FrT.of_below hb2⟩
      · exfalso
        obtain ⟨_, _, hL⟩ := hL
        have := hL.cp
        have := hf.2
        omega
    · rw [show t.dela k = (0, t.noted (.a k (t.cur.a k)) { t.cur with a := updF t.cur.a k none }) by unfold Tg.dela; rw [hx]; exact if_neg hf]
      rw [if_neg hf] at hnote
      refine (MW.Delete_ok k h2.ma x ((h2.la k).trans hx) hi (fun cap w1 w2 => NoteR B a t ms fs (.func (.func 139) #[] cap) w1 w2) (fun w1 cap _ hb => hnote w1 cap hb) (fun cap w1 w2 hb hR => (noteR_keep hR (h2.below hb)).1.ma)).mono ?_
      rintro e w' ⟨rfl, hM, cap, w1, w2, hn, hb, hR, hS⟩
      obtain ⟨hO2, kn, hF2⟩ := noteR_keep hR (h2.below hb)
      rw [h2.la] at hn
      refine ⟨rfl, th_fin h6 h5 h7 h8 h9 h1 hf (ap_a _ _ _) ⟨h8.kb.v, h8.kb.f, h8.kb.a.upd (fun y hy => by cases hy), h8.kb.t⟩ (show NB (.a k (t.cur.a k)) from fun y hy => h8.kb.a k y hy) hn hb hR kn (hO2.keepLOfa hS) (hO2.keepOfa hS) (hO2.seta hS hM (fun j => ?_)) ?_, (FrT.of_below hb).trans (hF2.trans (hO2.frOfa hS))⟩
      · rw [look_dropK, hO2.la j]; rfl
      · have := dropK_length ea k; omega
theorem th_putt (h : ThAt w B a pot t) (k : ByteArray) (v : ByteArray) (hk : k.size ≤ 200) :
    Calls Tryz.prog 99 #[ptrV a.t, .string k, encW v] w fun e w' => e = .returned (.int .i64 (t.putt k v).1) ∧ ThAt w' B a (pot + 2) (t.putt k v).2 ∧ FrT B a w w' := by
  have h0 := h
  obtain ⟨ms, fs, ev, ef, ea, et, h1, h2, h5, h6, h7, h8, h9⟩ := h
  have hl := th_len h7
  have hnote := fun w1 cap (hb : Below w.heap.size w w1) => noteR_any (w := w1) 139 cap (h1.keep (KeepL.of_below hb)) hl h8
  by_cases hf : t.full
  · rw [show t.putt k v = (43, t) from if_pos hf]
    rw [if_pos hf] at hnote
    refine (MW.Set_bad k v h2.mt 43 (by decide) (fun cap w1 w2 => NoteR B a t ms fs (.func (.func 139) #[] cap) w1 w2) (fun w1 cap _ hb => hnote w1 cap hb)).mono ?_
    rintro e w' ⟨rfl, cap, w1, _, hb, hR⟩
    rcases hR with ⟨⟨d, rfl⟩, _⟩ | ⟨hw, hL, hF⟩
    · have hb2 := below_drewN hb d
      exact ⟨rfl, (h0.below hb2).mono (by omega), FrT.of_below hb2⟩
    · exfalso
      obtain ⟨_, _, hL⟩ := hL
      have := hL.cp
      have := hf.2
      omega
  · rw [show t.putt k v = (0, t.noted (.t k (t.cur.t k)) { t.cur with t := updF t.cur.t k (some v) }) from if_neg hf]
    rw [if_neg hf] at hnote
    refine (MW.Set_ok k v h2.mt (fun cap w1 w2 => NoteR B a t ms fs (.func (.func 139) #[] cap) w1 w2) (fun w1 cap _ hb => hnote w1 cap hb) (fun cap w1 w2 hb hR => ⟨(noteR_keep hR (h2.below hb)).1.mt, fun b cur t hbk ht => (noteR_keep hR (h2.below hb)).2.1 b cur t hbk (MW.nt ht)⟩)).mono ?_
    rintro e w' ⟨rfl, hM, cap, w1, w2, hn, hb, hR, hS⟩
    obtain ⟨hO2, kn, hF2⟩ := noteR_keep hR (h2.below hb)
    rw [h2.lt] at hn
    refine ⟨rfl, th_fin h6 h5 h7 h8 h9 h1 hf (ap_t _ _ _) ⟨h8.kb.v, h8.kb.f, h8.kb.a, h8.kb.t.upd (fun y hy => by cases hy; exact ⟨hk, trivial⟩)⟩ (show NB (.t k (t.cur.t k)) from fun y hy => h8.kb.t k y hy) hn hb hR kn (hO2.keepLOft hS) (hO2.keepOft hS) (hO2.sett hS hM (fun j => ?_)) ?_, (FrT.of_below hb).trans (hF2.trans (hO2.frOft hS))⟩
    · rw [look_putK, hO2.lt j]; rfl
    · have := putK_length et k v; omega
theorem th_delt (h : ThAt w B a pot t) (k : ByteArray) :
    Calls Tryz.prog 101 #[ptrV a.t, .string k] w fun e w' => e = .returned (.int .i64 (t.delt k).1) ∧ ThAt w' B a (pot + 2) (t.delt k).2 ∧ FrT B a w w' := by
  have h0 := h
  obtain ⟨ms, fs, ev, ef, ea, et, h1, h2, h5, h6, h7, h8, h9⟩ := h
  have hl := th_len h7
  have hnote := fun w1 cap (hb : Below w.heap.size w w1) => noteR_any (w := w1) 139 cap (h1.keep (KeepL.of_below hb)) hl h8
  have hi := th_isNil h1
  cases hx : t.cur.t k with
  | none =>
    rw [show t.delt k = (0, t) by unfold Tg.delt; rw [hx]]
    refine (MW.Delete_none k h2.mt ((h2.lt k).trans hx) hi).mono ?_
    rintro e w' ⟨rfl, hb⟩
    exact ⟨rfl, (h0.below hb).mono (by omega), FrT.of_below hb⟩
  | some x =>
    by_cases hf : t.full
    · rw [show t.delt k = (43, t) by unfold Tg.delt; rw [hx]; exact if_pos hf]
      rw [if_pos hf] at hnote
      refine (MW.Delete_bad k h2.mt x ((h2.lt k).trans hx) hi 43 (by decide) (fun cap w1 w2 => NoteR B a t ms fs (.func (.func 139) #[] cap) w1 w2) (fun w1 cap _ hb => hnote w1 cap hb)).mono ?_
      rintro e w' ⟨rfl, cap, w1, _, hb, hR⟩
      rcases hR with ⟨⟨d, rfl⟩, _⟩ | ⟨hw, hL, hF⟩
      · have hb2 := below_drewN hb d
        exact ⟨rfl, (h0.below hb2).mono (by omega), FrT.of_below hb2⟩
      · exfalso
        obtain ⟨_, _, hL⟩ := hL
        have := hL.cp
        have := hf.2
        omega
    · rw [show t.delt k = (0, t.noted (.t k (t.cur.t k)) { t.cur with t := updF t.cur.t k none }) by unfold Tg.delt; rw [hx]; exact if_neg hf]
      rw [if_neg hf] at hnote
      refine (MW.Delete_ok k h2.mt x ((h2.lt k).trans hx) hi (fun cap w1 w2 => NoteR B a t ms fs (.func (.func 139) #[] cap) w1 w2) (fun w1 cap _ hb => hnote w1 cap hb) (fun cap w1 w2 hb hR => (noteR_keep hR (h2.below hb)).1.mt)).mono ?_
      rintro e w' ⟨rfl, hM, cap, w1, w2, hn, hb, hR, hS⟩
      obtain ⟨hO2, kn, hF2⟩ := noteR_keep hR (h2.below hb)
      rw [h2.lt] at hn
      refine ⟨rfl, th_fin h6 h5 h7 h8 h9 h1 hf (ap_t _ _ _) ⟨h8.kb.v, h8.kb.f, h8.kb.a, h8.kb.t.upd (fun y hy => by cases hy)⟩ (show NB (.t k (t.cur.t k)) from fun y hy => h8.kb.t k y hy) hn hb hR kn (hO2.keepLOft hS) (hO2.keepOft hS) (hO2.sett hS hM (fun j => ?_)) ?_, (FrT.of_below hb).trans (hF2.trans (hO2.frOft hS))⟩
      · rw [look_dropK, hO2.lt j]; rfl
      · have := dropK_length et k; omega
theorem th_seto (h : ThAt w B a pot t) (x : ByteArray) :
    Calls Tryz.prog 95 #[ptrV a.o, .string x] w fun e w' => e = .returned (.int .i64 (t.seto x).1) ∧ ThAt w' B a (pot + 2) (t.seto x).2 ∧ FrT B a w w' := by
  have h0 := h
  obtain ⟨ms, fs, ev, ef, ea, et, h1, h2, h5, h6, h7, h8, h9⟩ := h
  have hl := th_len h7
  have hnote := fun w1 cap (hb : Below w.heap.size w w1) => noteR_any (w := w1) 127 cap (h1.keep (KeepL.of_below hb)) hl h8
  by_cases hf : t.full
  · rw [show t.seto x = (43, t) from if_pos hf]
    rw [if_pos hf] at hnote
    refine (CS.Set_bad t.cur.o x h2.co 43 (by decide) (fun cap w1 w2 => NoteR B a t ms fs (.func (.func 127) #[] cap) w1 w2) (fun w1 cap _ hb => hnote w1 cap hb)).mono ?_
    rintro e w' ⟨rfl, cap, w1, _, hb, hR⟩
    rcases hR with ⟨⟨d, rfl⟩, _⟩ | ⟨hw, hL, hF⟩
    · have hb2 := below_drewN hb d
      exact ⟨rfl, (h0.below hb2).mono (by omega), FrT.of_below hb2⟩
    · exfalso
      obtain ⟨_, _, hL⟩ := hL
      have := hL.cp
      have := hf.2
      omega
  · rw [show t.seto x = (0, t.noted (.o t.cur.o) { t.cur with o := x }) from if_neg hf]
    rw [if_neg hf] at hnote
    refine (CS.Set_ok t.cur.o x h2.co (fun cap w1 w2 => NoteR B a t ms fs (.func (.func 127) #[] cap) w1 w2) (fun w1 cap _ hb => hnote w1 cap hb) (fun cap w1 w2 hb hR => ⟨(noteR_keep hR (h2.below hb)).1.co, fun b cur t hbk ht => (noteR_keep hR (h2.below hb)).2.1 b cur t hbk (CS.nt ht)⟩)).mono ?_
    rintro e w' ⟨rfl, hC, cap, w1, w2, hn, hb, hR, hS⟩
    obtain ⟨hO2, kn, hF2⟩ := noteR_keep hR (h2.below hb)
    exact ⟨rfl, th_fin (n := .o t.cur.o) h6 h5 h7 h8 h9 h1 hf (ap_o _ _) ⟨h8.kb.v, h8.kb.f, h8.kb.a, h8.kb.t⟩ trivial hn hb hR kn (hO2.keepLOfo hS) (hO2.keepOfo hS) (hO2.seto hS hC) (Nat.le_succ _), (FrT.of_below hb).trans (hF2.trans (hO2.frOfo hS))⟩
theorem th_setg (h : ThAt w B a pot t) (x : Gv) (hg : GvAt w x) :
    Calls Tryz.prog 96 #[ptrV a.g, .agg #[.slice x.A x.n x.c, .int .i64 x.a, .int .i64 x.i]] w fun e w' => e = .returned (.int .i64 (t.setg x).1) ∧ ThAt w' B a (pot + 2) (t.setg x).2 ∧ FrT B a w w' := by
  have h0 := h
  obtain ⟨ms, fs, ev, ef, ea, et, h1, h2, h5, h6, h7, h8, h9⟩ := h
  have hl := th_len h7
  have hnote := fun w1 cap (hb : Below w.heap.size w w1) => noteR_any (w := w1) 128 cap (h1.keep (KeepL.of_below hb)) hl h8
  by_cases hf : t.full
  · rw [show t.setg x = (43, t) from if_pos hf]
    rw [if_pos hf] at hnote
    refine (CG.Set_bad t.cur.g.A t.cur.g.n t.cur.g.c t.cur.g.a t.cur.g.i x.A x.n x.c x.a x.i h2.cg 43 (by decide) (fun cap w1 w2 => NoteR B a t ms fs (.func (.func 128) #[] cap) w1 w2) (fun w1 cap _ hb => hnote w1 cap hb)).mono ?_
    rintro e w' ⟨rfl, cap, w1, _, hb, hR⟩
    rcases hR with ⟨⟨d, rfl⟩, _⟩ | ⟨hw, hL, hF⟩
    · have hb2 := below_drewN hb d
      exact ⟨rfl, (h0.below hb2).mono (by omega), FrT.of_below hb2⟩
    · exfalso
      obtain ⟨_, _, hL⟩ := hL
      have := hL.cp
      have := hf.2
      omega
  · rw [show t.setg x = (0, t.noted (.g t.cur.g) { t.cur with g := x }) from if_neg hf]
    rw [if_neg hf] at hnote
    refine (CG.Set_ok t.cur.g.A t.cur.g.n t.cur.g.c t.cur.g.a t.cur.g.i x.A x.n x.c x.a x.i h2.cg (fun cap w1 w2 => NoteR B a t ms fs (.func (.func 128) #[] cap) w1 w2) (fun w1 cap _ hb => hnote w1 cap hb) (fun cap w1 w2 hb hR => ⟨(noteR_keep hR (h2.below hb)).1.cg, fun b cur t hbk ht => (noteR_keep hR (h2.below hb)).2.1 b cur t hbk (CG.nt ht)⟩)).mono ?_
    rintro e w' ⟨rfl, hC, cap, w1, w2, hn, hb, hR, hS⟩
    obtain ⟨hO2, kn, hF2⟩ := noteR_keep hR (h2.below hb)
    exact ⟨rfl, th_fin (n := .g t.cur.g) h6 h5 h7 h8 h9 h1 hf (ap_g _ _) ⟨h8.kb.v, h8.kb.f, h8.kb.a, h8.kb.t⟩ trivial ⟨hn, h2.ga.keep (KeepB.of_below hb)⟩ hb hR kn (hO2.keepLOfg hS) (hO2.keepOfg hS) (hO2.setg hS hC (((hg.keep (KeepB.of_below hb)).keep kn).keep (hO2.keepOfg hS))) (Nat.le_succ _), (FrT.of_below hb).trans (hF2.trans (hO2.frOfg hS))⟩
end
end Go.Proofs.YtigmdfdcflkggaaGreat
