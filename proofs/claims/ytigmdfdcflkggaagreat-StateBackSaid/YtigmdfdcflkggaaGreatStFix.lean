/-
  What stays of what a state knows, whatever is called: traps' names, what is fixed. Conditions: none.
-/
import Derived.Test.YtigmdfdcflkggaaGreatStDo
set_option linter.unusedSimpArgs false
set_option linter.unusedVariables false
namespace Go.Proofs.YtigmdfdcflkggaaGreat
open Go Go.RowKit Go.ChangeMaps

/-- The marks are the same ones, what traps there are were there, or have names of traps, and there are not too many arguments. -/
def PT (t t' : Tg) : Prop := t'.was = t.was ∧ (∀ k x, t'.cur.t k = some x → t.cur.t k = some x ∨ trapB k = true) ∧ (t'.cur.g.n ≤ t.cur.g.n ∨ t'.cur.g.n ≤ 1000) ∧ t'.nest = t.nest
/-- The variables are the same ones. -/
def PV (t t' : Tg) : Prop := t'.cur.v = t.cur.v
section
variable {t t' t'' : Tg}
theorem PT.refl (t : Tg) : PT t t := ⟨rfl, fun _ _ h => .inl h, .inl (Nat.le_refl _), rfl⟩
theorem PT.trans (h : PT t t') (k : PT t' t'') : PT t t'' := ⟨k.1.trans h.1, fun j x hj => (k.2.1 j x hj).elim (h.2.1 j x) .inr, by have := h.2.2.1; have := k.2.2.1; omega, k.2.2.2.trans h.2.2.2⟩
theorem PT.noted (t : Tg) (n : Nt) (st : Sta) (h : st.t = t.cur.t) (hg : st.g.n ≤ t.cur.g.n ∨ st.g.n ≤ 1000) : PT t (t.noted n st) := ⟨rfl, fun k x hk => .inl (by rw [← h]; exact hk), hg, rfl⟩
theorem TrapN.pt (h : TrapN t) (k : PT t t') : TrapN t' := ⟨⟨fun j x hj => (k.2.1 j x hj).elim (h.1.1 j x) id, by have := h.1.2; have := k.2.2.1; omega⟩, by rw [k.1]; exact h.2⟩
theorem putv_pt (t : Tg) (k : ByteArray) (x : Vr) : PT t (t.putv k x).2 := by
  unfold Tg.putv; split
  · exact PT.refl t
  · exact PT.noted t _ _ rfl (.inl (Nat.le_refl _))
theorem delv_pt (t : Tg) (k : ByteArray) : PT t (t.delv k).2 := by
  unfold Tg.delv; split
  · exact PT.refl t
  · split
    · exact PT.refl t
    · exact PT.noted t _ _ rfl (.inl (Nat.le_refl _))
theorem putf_pt (t : Tg) (k : ByteArray) (x : Nd) : PT t (t.putf k x).2 ∧ PV t (t.putf k x).2 := by
  unfold Tg.putf; split
  · exact ⟨PT.refl t, rfl⟩
  · exact ⟨PT.noted t _ _ rfl (.inl (Nat.le_refl _)), rfl⟩
theorem delf_pt (t : Tg) (k : ByteArray) : PT t (t.delf k).2 ∧ PV t (t.delf k).2 := by
  unfold Tg.delf; split
  · exact ⟨PT.refl t, rfl⟩
  · split
    · exact ⟨PT.refl t, rfl⟩
    · exact ⟨PT.noted t _ _ rfl (.inl (Nat.le_refl _)), rfl⟩
theorem puta_pt (t : Tg) (k : ByteArray) (x : ByteArray) : PT t (t.puta k x).2 ∧ PV t (t.puta k x).2 := by
  unfold Tg.puta; split
  · exact ⟨PT.refl t, rfl⟩
  · exact ⟨PT.noted t _ _ rfl (.inl (Nat.le_refl _)), rfl⟩
theorem dela_pt (t : Tg) (k : ByteArray) : PT t (t.dela k).2 ∧ PV t (t.dela k).2 := by
  unfold Tg.dela; split
  · exact ⟨PT.refl t, rfl⟩
  · split
    · exact ⟨PT.refl t, rfl⟩
    · exact ⟨PT.noted t _ _ rfl (.inl (Nat.le_refl _)), rfl⟩
theorem putt_pt (t : Tg) (k : ByteArray) (x : ByteArray) (hk : trapB k = true) : PT t (t.putt k x).2 ∧ PV t (t.putt k x).2 := by
  unfold Tg.putt; split
  · exact ⟨PT.refl t, rfl⟩
  · refine ⟨⟨rfl, fun j y hj => ?_, .inl (Nat.le_refl _), rfl⟩, rfl⟩
    replace hj : updF t.cur.t k (some x) j = some y := hj
    unfold updF at hj
    split at hj
    · rename_i e; exact .inr (by rw [e]; exact hk)
    · exact .inl hj
theorem delt_pt (t : Tg) (k : ByteArray) : PT t (t.delt k).2 ∧ PV t (t.delt k).2 := by
  unfold Tg.delt; split
  · exact ⟨PT.refl t, rfl⟩
  · split
    · exact ⟨PT.refl t, rfl⟩
    · refine ⟨⟨rfl, fun j y hj => ?_, .inl (Nat.le_refl _), rfl⟩, rfl⟩
      replace hj : updF t.cur.t k none j = some y := hj
      unfold updF at hj
      split at hj
      · cases hj
      · exact .inl hj
theorem seto_pt (t : Tg) (x : ByteArray) : PT t (t.seto x).2 ∧ PV t (t.seto x).2 := by
  unfold Tg.seto; split
  · exact ⟨PT.refl t, rfl⟩
  · exact ⟨PT.noted t _ _ rfl (.inl (Nat.le_refl _)), rfl⟩
theorem setg_pt (t : Tg) (x : Gv) (hx : x.n ≤ t.cur.g.n ∨ x.n ≤ 1000) : PT t (t.setg x).2 ∧ PV t (t.setg x).2 := by
  unfold Tg.setg; split
  · exact ⟨PT.refl t, rfl⟩
  · exact ⟨PT.noted t _ _ rfl hx, rfl⟩
theorem enterL_pt (ns : List ByteArray) : ∀ t : Tg, PT t (enterL ns t).2 ∧ PV t (enterL ns t).2 := by
  induction ns with
  | nil => exact fun t => ⟨PT.refl t, rfl⟩
  | cons k ns ih =>
    intro t
    unfold enterL
    obtain ⟨h1, h2⟩ := delt_pt t k
    split
    · split
      · exact ⟨h1.trans (ih _).1, (ih _).2.trans h2⟩
      · exact ⟨h1, h2⟩
    · exact ih t
theorem put_pt (t : Tg) (k : ByteArray) (x : Vr) : PT t (t.put k x).2 := by
  unfold Tg.put; split
  · split
    · exact delv_pt t k
    · exact putv_pt t k _
  · exact PT.refl t
theorem setV_pt (t : Tg) (k v : ByteArray) : PT t (t.setV k v).2 := by
  unfold Tg.setV; split
  · split
    · exact PT.refl t
    · split
      · exact PT.refl t
      · exact putv_pt t k _
  · exact PT.refl t
theorem unsetV_pt (t : Tg) (k : ByteArray) : PT t (t.unsetV k).2 := by
  unfold Tg.unsetV; split
  · split
    · exact PT.refl t
    · exact delv_pt t k
  · exact PT.refl t
/-- What is fixed has its value. -/
def FxV (t : Tg) (k v : ByteArray) : Prop := ∃ e, t.cur.v k = some ⟨v, true, e, true⟩
theorem FxV.pv {k v : ByteArray} (h : FxV t k v) (hp : PV t t') : FxV t' k v := by
  obtain ⟨e, he⟩ := h
  exact ⟨e, by rw [hp]; exact he⟩
theorem FxV.val {k v : ByteArray} (h : FxV t k v) : (valV t k).f = true ∧ (valV t k).v = v ∧ (valV t k).s = true := by
  obtain ⟨e, he⟩ := h
  unfold valV
  rw [he]
  exact ⟨rfl, rfl, rfl⟩
theorem FxV.putv {k v j : ByteArray} {x : Vr} (h : FxV t k v) (hj : j = k → x.v = v ∧ x.s = true ∧ x.f = true) : FxV (t.putv j x).2 k v := by
  unfold Tg.putv
  split
  · exact h
  · obtain ⟨e, he⟩ := h
    by_cases hk : k = j
    · obtain ⟨h1, h2, h3⟩ := hj hk.symm
      refine ⟨x.e, ?_⟩
      show updF t.cur.v j (some x) k = _
      unfold updF
      rw [if_pos hk]
      obtain ⟨a, b, c, d⟩ := x
      dsimp only at h1 h2 h3 ⊢
      rw [h1, h2, h3]
    · refine ⟨e, ?_⟩
      show updF t.cur.v j (some x) k = _
      unfold updF
      rw [if_neg hk]
      exact he
theorem FxV.delv {k v j : ByteArray} (h : FxV t k v) (hj : j ≠ k) : FxV (t.delv j).2 k v := by
  unfold Tg.delv
  split
  · exact h
  · split
    · exact h
    · obtain ⟨e, he⟩ := h
      refine ⟨e, ?_⟩
      show updF t.cur.v j none k = _
      unfold updF
      rw [if_neg (fun e => hj e.symm)]
      exact he
theorem noV_ne {x : Vr} (h : x.s = true) : bareV x ≠ noV := by
  unfold bareV
  rw [if_pos h]
  intro e
  rw [e] at h
  cases h
end
/-- Every call of a state but Mark and Undo keeps the marks. -/
theorem DoR.pt {o : Od} {t t' : Tg} {K r : Int} (h : DoR o t K r t') (hK : K < 16) : PT t t' := by
  cases h with
  | set => exact (setV_pt ..)
  | unset => exact (unsetV_pt ..)
  | mark => exact (put_pt ..)
  | setF =>
    unfold Tg.setF; split
    · exact (putf_pt ..).1
    · exact PT.refl t
  | unsetF =>
    unfold Tg.unsetF; split
    · split
      · exact (delf_pt ..).1
      · exact PT.refl t
    · exact PT.refl t
  | setA =>
    unfold Tg.setA; split
    · split
      · exact PT.refl t
      · exact (puta_pt ..).1
    · exact PT.refl t
  | unalias =>
    unfold Tg.unalias; split
    · exact (dela_pt ..).1
    · exact PT.refl t
  | setT =>
    unfold Tg.setT; split
    · split
      · exact PT.refl t
      · rename_i h1 _
        exact (putt_pt _ _ _ h1).1
    · exact PT.refl t
  | untrap =>
    unfold Tg.untrap; split
    · exact (delt_pt ..).1
    · exact PT.refl t
  | enter ns _ => exact (enterL_pt ns t).1
  | opt _ _ =>
    unfold Tg.setO; split
    · exact PT.refl t
    · exact (seto_pt ..).1
  | argsN _ => exact PT.refl t
  | args _ _ h1 _ => exact (setg_pt _ _ (.inr (show o.m ≤ 1000 by omega))).1
  | shiftN _ => exact PT.refl t
  | shift _ _ _ _ => exact (setg_pt _ _ (.inl (Nat.sub_le _ _))).1
  | cursor =>
    unfold Tg.setC; split
    · exact PT.refl t
    · exact (setg_pt t ⟨t.cur.g.A, t.cur.g.n, t.cur.g.c, o.n, (o.m : Int), t.cur.g.l⟩ (.inl (Nat.le_refl _))).1
  | status => exact PT.refl t
  | open_ _ hk => omega
  | undo _ hk => omega
/-- Every call keeps the names of traps. -/
theorem DoR.trap {o : Od} {t t' : Tg} {K r : Int} (h : DoR o t K r t') (hT : TrapN t) : TrapN t' := by
  by_cases hK : K < 16
  · exact hT.pt (h.pt hK)
  cases h with
  | open_ _ _ =>
    unfold Tg.mark; split
    · exact hT
    · refine ⟨hT.1, fun p hp => ?_⟩
      rcases List.mem_append.1 hp with hp | hp
      · exact hT.2 p hp
      · rw [List.mem_singleton.1 hp]; exact hT.1
  | undo _ _ =>
    unfold Tg.undo; split
    · exact hT
    · rename_i p hp
      have hm : p ∈ t.was := List.mem_of_getLast? hp
      exact ⟨hT.2 p hm, fun q hq => hT.2 q ((List.dropLast_sublist _).subset hq)⟩
  | opt _ hk => omega
  | _ => exact absurd (by decide) hK
/-- Every call that does not undo keeps what is fixed, and refuses to set it. -/
theorem DoR.fixed {o : Od} {t t' : Tg} {K r : Int} {k v : ByteArray} (h : DoR o t K r t') (hK : K < 18) (hn : nameB k = true) (hF : FxV t k v) : FxV t' k v ∧ (K ≤ 1 → o.k = k → r = 26 ∨ r = 21) := by
  have hv := hF.val
  cases h with
  | set =>
    unfold Tg.setV
    by_cases hk : o.k = k
    · rw [hk, if_pos hn, if_pos hv.1]
      split
      · exact ⟨hF, fun _ _ => .inr rfl⟩
      · exact ⟨hF, fun _ _ => .inl rfl⟩
    · refine ⟨?_, fun _ e => absurd e hk⟩
      split
      · split
        · exact hF
        · split
          · exact hF
          · exact hF.putv fun e => absurd e hk
      · exact hF
  | unset =>
    unfold Tg.unsetV
    by_cases hk : o.k = k
    · rw [hk, if_pos hn, if_pos hv.1]
      exact ⟨hF, fun _ _ => .inl rfl⟩
    · refine ⟨?_, fun _ e => absurd e hk⟩
      split
      · split
        · exact hF
        · exact hF.delv hk
      · exact hF
  | mark =>
    refine ⟨?_, fun h => absurd h (by decide)⟩
    unfold Tg.markV Tg.put
    by_cases hk : o.k = k
    · rw [hk, if_pos hn]
      split
      · rename_i e; exact absurd e (noV_ne hv.2.2)
      · refine hF.putv fun _ => ?_
        unfold bareV
        rw [if_pos hv.2.2]
        exact ⟨hv.2.1, hv.2.2, by rw [hv.1]; rfl⟩
    · split
      · split
        · exact hF.delv hk
        · exact hF.putv fun e => absurd e hk
      · exact hF
  | setF =>
    refine ⟨?_, fun h => absurd h (by decide)⟩
    unfold Tg.setF; split
    · exact hF.pv (putf_pt ..).2
    · exact hF
  | unsetF =>
    refine ⟨?_, fun h => absurd h (by decide)⟩
    unfold Tg.unsetF; split
    · split
      · exact hF.pv (delf_pt ..).2
      · exact hF
    · exact hF
  | setA =>
    refine ⟨?_, fun h => absurd h (by decide)⟩
    unfold Tg.setA; split
    · split
      · exact hF
      · exact hF.pv (puta_pt ..).2
    · exact hF
  | unalias =>
    refine ⟨?_, fun h => absurd h (by decide)⟩
    unfold Tg.unalias; split
    · exact hF.pv (dela_pt ..).2
    · exact hF
  | setT =>
    refine ⟨?_, fun h => absurd h (by decide)⟩
    unfold Tg.setT; split
    · split
      · exact hF
      · rename_i h1 _
        exact hF.pv (putt_pt _ _ _ h1).2
    · exact hF
  | untrap =>
    refine ⟨?_, fun h => absurd h (by decide)⟩
    unfold Tg.untrap; split
    · exact hF.pv (delt_pt ..).2
    · exact hF
  | enter ns _ => exact ⟨hF.pv (enterL_pt ns t).2, fun h => absurd h (by decide)⟩
  | opt _ hk =>
    refine ⟨?_, fun h => by omega⟩
    unfold Tg.setO; split
    · exact hF
    · exact hF.pv (seto_pt ..).2
  | argsN _ => exact ⟨hF, fun h => absurd h (by decide)⟩
  | args _ _ h1 _ => exact ⟨hF.pv (setg_pt _ _ (.inr (show o.m ≤ 1000 by omega))).2, fun h => absurd h (by decide)⟩
  | shiftN _ => exact ⟨hF, fun h => absurd h (by decide)⟩
  | shift _ _ _ _ => exact ⟨hF.pv (setg_pt _ _ (.inl (Nat.sub_le _ _))).2, fun h => absurd h (by decide)⟩
  | cursor =>
    refine ⟨?_, fun h => absurd h (by decide)⟩
    unfold Tg.setC; split
    · exact hF
    · exact hF.pv (setg_pt t ⟨t.cur.g.A, t.cur.g.n, t.cur.g.c, o.n, (o.m : Int), t.cur.g.l⟩ (.inl (Nat.le_refl _))).2
  | status => exact ⟨hF, fun h => absurd h (by decide)⟩
  | open_ _ hk =>
    refine ⟨?_, fun h => by omega⟩
    unfold Tg.mark; split
    · exact hF
    · exact hF
  | undo _ hk => omega
end Go.Proofs.YtigmdfdcflkggaaGreat
