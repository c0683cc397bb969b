/-
  What stays of what a state knows, whatever is called: traps' names, what is fixed. Conditions: none.
-/
import Derived.Deep.AppendSrc
import Derived.Sort.Walk0
import Derived.Laws.Cover1
import Derived.Test.YtigmdfdcflkggaaGreatZp9
import Derived.Test.YtigmdfdcflkggaaGreatZp10
set_option linter.unusedSimpArgs false
set_option linter.unusedVariables false
namespace Go.Proofs.YtigmdfdcflkggaaGreat
open Go Go.RowKit Go.ChangeMaps

/-- The marks are the same ones, what traps there are were there, or have names of traps, and there are not too many arguments. -/
def PT (t t' : Tg) : Prop := t'.was = t.was ∧ (∀ k x, t'.cur.t k = some x → t.cur.t k = some x ∨ trapB k = true) ∧ (t'.cur.g.n ≤ t.cur.g.n ∨ t'.cur.g.n ≤ 1000) ∧ t'.nest = t.nest
/-- The variables are the same ones. -/
def PV (t t' : Tg) : Prop := t'.cur.v = t.cur.v
section
variable {t t' t'' : Tg}
theorem PT.refl (t : Tg) : PT t t := ⟨rfl, fun _ _ h => .inl h, .inl (Nat.le_refl _), rfl⟩
theorem PT.trans (h : PT t t') (k : PT t' t'') : PT t t'' := ⟨k.1.trans h.1, fun j x hj => (k.2.1 j x hj).elim (h.2.1 j x) .inr, by have := h.2.2.1; have := k.2.2.1; omega, k.2.2.2.trans h.2.2.2⟩
theorem PT.noted (t : Tg) (n : Nt) (st : Sta) (h : st.t = t.cur.t) (hg : st.g.n ≤ t.cur.g.n ∨ st.g.n ≤ 1000) : PT t (t.noted n st) := ⟨rfl, fun k x hk => .inl (by rw [← h]; exact hk), hg, rfl⟩
theorem TrapN.pt (h : TrapN t) (k : PT t t') : TrapN t' := ⟨⟨fun j x hj => (k.2.1 j x hj).elim (h.1.1 j x) id, by have := h.1.2; have := k.2.2.1; omega⟩, by rw [k.1]; exact h.2⟩
theorem putv_pt (t : Tg) (k : ByteArray) (x : Vr) : PT t (t.putv k x).2 := by
  unfold Tg.putv; split
  · exact PT.refl t
  · exact PT.noted t _ _ rfl (.inl (Nat.le_refl _))
theorem delv_pt (t : Tg) (k : ByteArray) : PT t (t.delv k).2 := by
  unfold Tg.delv; split
  · exact PT.refl t
  · split
    · exact PT.refl t
    · exact PT.noted t _ _ rfl (.inl (Nat.le_refl _))
theorem putf_pt (t : Tg) (k : ByteArray) (x : Nd) : PT t (t.putf k x).2 ∧ PV t (t.putf k x).2 := by
  unfold Tg.putf; split
  · exact ⟨PT.refl t, rfl⟩
  · exact ⟨PT.noted t _ _ rfl (.inl (Nat.le_refl _)), rfl⟩
theorem delf_pt (t : Tg) (k : ByteArray) : PT t (t.delf k).2 ∧ PV t (t.delf k).2 := by
  unfold Tg.delf; split
  · exact ⟨PT.refl t, rfl⟩
  · split
    · exact ⟨PT.refl t, rfl⟩
    · exact ⟨PT.noted t _ _ rfl (.inl (Nat.le_refl _)), rfl⟩
theorem puta_pt (t : Tg) (k : ByteArray) (x : ByteArray) : PT t (t.puta k x).2 ∧ PV t (t.puta k x).2 := by
  unfold Tg.puta; split
  · exact ⟨PT.refl t, rfl⟩
  · exact ⟨PT.noted t _ _ rfl (.inl (Nat.le_refl _)), rfl⟩
theorem dela_pt (t : Tg) (k : ByteArray) : PT t (t.dela k).2 ∧ PV t (t.dela k).2 := by
  unfold Tg.dela; split
  · exact ⟨PT.refl t, rfl⟩
  · split
    · exact ⟨PT.refl t, rfl⟩
    · exact ⟨PT.noted t _ _ rfl (.inl (Nat.le_refl _)), rfl⟩
theorem putt_pt (t : Tg) (k : ByteArray) (x : ByteArray) (hk : trapB k = true) : PT t (t.putt k x).2 ∧ PV t (t.putt k x).2 := by
  unfold Tg.putt; split
  · exact ⟨PT.refl t, rfl⟩
  · refine ⟨⟨rfl, fun j y hj => ?_, .inl (Nat.le_refl _), rfl⟩, rfl⟩
    replace hj : updF t.cur.t k (some x) j = some y := hj
    unfold updF at hj
    split at hj
    · rename_i e; exact .inr (by rw [e]; exact hk)
    · exact .inl hj
theorem delt_pt (t : Tg) (k : ByteArray) : PT t (t.delt k).2 ∧ PV t (t.delt k).2 := by
  unfold Tg.delt; split
  · exact ⟨PT.refl t, rfl⟩
  · split
    · exact ⟨PT.refl t, rfl⟩
    · refine ⟨⟨rfl, fun j y hj => ?_, .inl (Nat.le_refl _), rfl⟩, rfl⟩
      replace hj : updF t.cur.t k none j = some y := hj
      unfold updF at hj
      split at hj
      · cases hj
      · exact .inl hj
theorem seto_pt (t : Tg) (x : ByteArray) : PT t (t.seto x).2 ∧ PV t (t.seto x).2 := by
  unfold Tg.seto; split
  · exact ⟨PT.refl t, rfl⟩
  · exact ⟨PT.noted t _ _ rfl (.inl (Nat.le_refl _)), rfl⟩
theorem setg_pt (t : Tg) (x : Gv) (hx : x.n ≤ t.cur.g.n ∨ x.n ≤ 1000) : PT t (t.setg x).2 ∧ PV t (t.setg x).2 := by
  unfold Tg.setg; split
  · exact ⟨PT.refl t, rfl⟩
  · exact ⟨PT.noted t _ _ rfl hx, rfl⟩
theorem enterL_pt (ns : List ByteArray) : ∀ t : Tg, PT t (enterL ns t).2 ∧ PV t (enterL ns t).2 := by
  induction ns with
  | nil => exact fun t => ⟨PT.refl t, rfl⟩
  | cons k ns ih =>
    intro t
    unfold enterL
    obtain ⟨h1, h2⟩ := delt_pt t k
    split
    · split
      · exact ⟨h1.trans (ih _).1, (ih _).2.trans h2⟩
      · exact ⟨h1, h2⟩
    · exact ih t
theorem put_pt (t : Tg) (k : ByteArray) (x : Vr) : PT t (t.put k x).2 := by
  unfold Tg.put; split
  · split
    · exact delv_pt t k
    · exact putv_pt t k _
  · exact PT.refl t
theorem setV_pt (t : Tg) (k v : ByteArray) : PT t (t.setV k v).2 := by
  unfold Tg.setV; split
  · split
    · exact PT.refl t
    · split
      · exact PT.refl t
      · exact putv_pt t k _
  · exact PT.refl t
theorem unsetV_pt (t : Tg) (k : ByteArray) : PT t (t.unsetV k).2 := by
  unfold Tg.unsetV; split
  · split
    · exact PT.refl t
    · exact delv_pt t k
  · exact PT.refl t
/-- What is fixed has its value. -/
def FxV (t : Tg) (k v : ByteArray) : Prop := ∃ e, t.cur.v k = some ⟨v, true, e, true⟩
end
/-- Every call of a state but Mark and Undo keeps the marks. -/
theorem DoR.pt {o : Od} {t t' : Tg} {K r : Int} (h : DoR o t K r t') (hK : K < 16) : PT t t' := by
  cases h with
  | set => exact (setV_pt ..)
  | unset => exact (unsetV_pt ..)
  | mark => exact (put_pt ..)
  | setF =>
    unfold Tg.setF; split
    · exact (putf_pt ..).1
    · exact PT.refl t
  | unsetF =>
    unfold Tg.unsetF; split
    · split
      · exact (delf_pt ..).1
      · exact PT.refl t
    · exact PT.refl t
  | setA =>
    unfold Tg.setA; split
    · split
      · exact PT.refl t
      · exact (puta_pt ..).1
    · exact PT.refl t
  | unalias =>
    unfold Tg.unalias; split
    · exact (dela_pt ..).1
    · exact PT.refl t
  | setT =>
    unfold Tg.setT; split
    · split
      · exact PT.refl t
      · rename_i h1 _
        exact (putt_pt _ _ _ h1).1
    · exact PT.refl t
  | untrap =>
    unfold Tg.untrap; split
    · exact (delt_pt ..).1
    · exact PT.refl t
  | enter ns _ => exact (enterL_pt ns t).1
  | opt _ _ =>
    unfold Tg.setO; split
    · exact PT.refl t
    · exact (seto_pt ..).1
  | argsN _ => exact PT.refl t
  | args _ _ h1 _ => exact (setg_pt _ _ (.inr (show o.m ≤ 1000 by omega))).1
  | shiftN _ => exact PT.refl t
  | shift _ _ _ _ => exact (setg_pt _ _ (.inl (Nat.sub_le _ _))).1
  | cursor =>
    unfold Tg.setC; split
    · exact PT.refl t
    · exact (setg_pt t ⟨t.cur.g.A, t.cur.g.n, t.cur.g.c, o.n, (o.m : Int), t.cur.g.l⟩ (.inl (Nat.le_refl _))).1
  | status => exact PT.refl t
  | open_ _ hk => omega
  | undo _ hk => omega
/-- Every call keeps the names of traps. -/
theorem DoR.trap {o : Od} {t t' : Tg} {K r : Int} (h : DoR o t K r t') (hT : TrapN t) : TrapN t' := by
  by_cases hK : K < 16
  · exact hT.pt (h.pt hK)
  cases h with
  | open_ _ _ =>
    unfold Tg.mark; split
    · exact hT
    · refine ⟨hT.1, fun p hp => ?_⟩
      rcases List.mem_append.1 hp with hp | hp
      · exact hT.2 p hp
      · rw [List.mem_singleton.1 hp]; exact hT.1
  | undo _ _ =>
    unfold Tg.undo; split
    · exact hT
    · rename_i p hp
      have hm : p ∈ t.was := List.mem_of_getLast? hp
      exact ⟨hT.2 p hm, fun q hq => hT.2 q ((List.dropLast_sublist _).subset hq)⟩
  | opt _ hk => omega
  | _ => exact absurd (by decide) hK
end Go.Proofs.YtigmdfdcflkggaaGreat
/-
  The walk of StateNil: it answers true and leaves what was there. Conditions: none.
-/
set_option linter.unusedSimpArgs false
set_option linter.unusedVariables false
namespace Go.Proofs.YtigmdfdcflkggaaGreat
open Go Go.RowKit Go.ChangeMaps

theorem txs_of_own {w : World} {base : Nat} {v : Value} {l : List ByteArray} {m : Nat} (hm : l.length = m) (h : w.ownsRow base 9 1 v m (l.map .string)) : ∃ A c, v = .slice A m c ∧ Txs w A m c l := by
  obtain ⟨A, c, rfl, h1, h2⟩ := own_form h
  refine ⟨A, c, rfl, hm, h1, h2, fun hn => ?_⟩
  rcases h.2 with ⟨_, h0⟩ | ⟨g, cap, _, e, _⟩
  · omega
  · injection e with e1 e2 e3
    subst e1 e3
    refine ⟨g, 0, rfl, (h.lt g rfl).2, fun j x hx => ?_⟩
    have := h.cells (g := g) rfl j (.string x) (by rw [List.getElem?_map, hx]; rfl)
    rwa [add_plain0] at this
end Go.Proofs.YtigmdfdcflkggaaGreat
/-
  A row of texts that grows; all that a state knows, as texts. Conditions: fewer than ten million texts.
-/
namespace Go.Proofs.YtigmdfdcflkggaaGreat
open Go Go.RowKit Go.ChangeMaps

/-- A row of texts of its own, above z. -/
structure Out (w : World) (z : Nat) (W : World) (ov : Value) (L : List ByteArray) : Prop where
  row : W.ownsRow z 9 1 ov L.length (L.map .string)
  below : Below z w W
  size : z ≤ W.heap.size
section
variable {w W W' : World} {z : Nat} {ov : Value} {L : List ByteArray}
/-- A row of texts that stands beside one that grows. -/
structure Aside (W : World) (y : Nat) (ov nv : Value) (ns : List ByteArray) : Prop where
  row : W.ownsRow y 9 1 nv ns.length (ns.map .string)
  apart : ∀ g, nv.ownBlock = some g → ov.ownBlock ≠ some g
/-- What is appended. -/
theorem Out.app {c K : Nat} {Ao : Option Addr} (h : Out w z W (.slice Ao K c) L) (hK : L.length = K) (hpos : 0 < K) (hL : K ≤ 10000000) {i0 : TypeInfo} (hi : Tryz.prog.info? 9 = some i0) (hz0 : i0.zero = some (.string ⟨#[]⟩)) (hz1 : i0.size = 1) (hz2 : i0.bytes = 16)
    {ys : List ByteArray} {m cs : Nat} {As : Option Addr} (hs : Txs W As m cs ys) (hm : m ≤ 10000000) :
    ∃ gg cap W', (Builtin.append_ #[35, 35] 35 #[.slice Ao K c, .slice As m cs]).run Tryz.prog W = .ok (.slice (some ⟨gg, 0, none⟩) (K + m) cap) W' ∧
      Out w z W' (.slice (some ⟨gg, 0, none⟩) (K + m) cap) (L ++ ys) ∧ K + m ≤ cap ∧ cap ≤ 9223372036854775807 ∧ W.heap.size ≤ W'.heap.size ∧
      ∀ b, b < W.heap.size → (Value.slice Ao K c).ownBlock ≠ some b → W'.heap[b]? = W.heap[b]? ∧ b ≠ gg := by
  subst hK
  obtain ⟨hlen, hmc, hcm, hcell⟩ := hs
  have hl2 : (L ++ ys).length = L.length + m := by rw [List.length_append, hlen]
  have hfin : ∀ gg cap W', W'.ownsRow z 9 1 (.slice (some ⟨gg, 0, none⟩) (L.length + m) cap) (L.length + m) (L.map .string ++ ys.map .string) → W.grownBy W' (Value.slice Ao L.length c).ownBlock → ((Value.slice Ao L.length c).ownBlock = some gg ∨ W.heap.size ≤ gg) →
      Out w z W' (.slice (some ⟨gg, 0, none⟩) (L.length + m) cap) (L ++ ys) ∧ L.length + m ≤ cap ∧ cap ≤ 9223372036854775807 ∧ W.heap.size ≤ W'.heap.size ∧
      ∀ b, b < W.heap.size → (Value.slice Ao L.length c).ownBlock ≠ some b → W'.heap[b]? = W.heap[b]? ∧ b ≠ gg := fun gg cap W' hrow hg hb => by
    obtain ⟨A9, c9, e9, q1, q2⟩ := own_form hrow
    cases e9
    refine ⟨⟨by rw [hl2, List.map_append]; exact hrow, ?_, Nat.le_trans h.size hg.size⟩, q1, q2, hg.size, fun b hbl hne => ⟨hg.block b hbl (fun e => hne e.symm), fun e => ?_⟩⟩
    · exact ⟨hg.os.trans h.below.os, hg.tape.trans h.below.tape, hg.output.trans h.below.output, Nat.le_trans h.below.size hg.size, fun k hk => (hg.block k (Nat.lt_of_lt_of_le hk h.size) (fun e => by have := (h.row.lt k e.symm).1; omega)).trans (h.below.block k hk)⟩
    · subst e
      rcases hb with hb | hb
      · exact hne hb
      · omega
  cases As with
  | some ad =>
    have hnews : ∀ j u, (ys.map Value.string)[j]? = some u → W.cell? (ad.add j) = some u := fun j u hu => by
      rw [List.getElem?_map] at hu
      cases hx : ys[j]? with
      | none => rw [hx] at hu; cases hu
      | some x =>
        rw [hx] at hu
        have hu : Value.string x = u := by simpa using hu
        have hj : j < ys.length := (List.getElem?_eq_some_iff.1 hx).1
        obtain ⟨b, off, e, _, hc⟩ := hcell (by omega)
        cases e
        rw [← hu, add_plain0]
        exact hc j x hx
    obtain ⟨v', w', hr, h2, h3, h4, h5⟩ := run_append_own_at (P := Tryz.prog) W z 35 35 9 i0 _ 1 16 Tryz.underlying35 hi hz0 hz1 hz2 rfl (by decide) _ L.length _ h.row ad m cs (ys.map .string) (by rw [List.length_map, hlen, Nat.mul_one]) hnews (fun u hu => by
      obtain ⟨x, _, rfl⟩ := List.mem_map.1 hu
      rfl) (by unfold maxLen; omega) (by omega) h.size
    obtain ⟨g, cap, rfl, _, _⟩ := h2.form (by omega)
    exact ⟨g, cap, w', hr, hfin g cap w' h2 h3 (by
      rcases h5 with h5 | h5
      · exact .inl (h5.symm.trans rfl)
      · right
        have : g = W.heap.size := by simpa [Value.ownBlock] using h5
        omega)⟩
  | none =>
    have h0 : m = 0 := by
      rcases Nat.eq_zero_or_pos m with e | hp
      · exact e
      · obtain ⟨b, off, e, _⟩ := hcell hp; cases e
    subst h0
    have hy : ys = [] := List.eq_nil_of_length_eq_zero hlen
    subst hy
    obtain ⟨g, rfl, _, _, _⟩ := own_at h.row (by omega)
    obtain ⟨_, c9, e9, q1, q2⟩ := own_form h.row
    cases e9
    have hr := run_append_room_src (P := Tryz.prog) W 35 35 35 9 i0 Tryz.underlying35 hi g 0 L.length c (.slice none 0 cs) 0 [] (Src.ofNil (P := Tryz.prog) W (size := i0.size) Tryz.underlying35 cs) q1 (fun j hj => absurd hj (Nat.not_lt_zero j)) (fun j hj => absurd hj (Nat.not_lt_zero j))
    refine ⟨g, c, W, hr, hfin g c W (by simpa using h.row) ⟨rfl, rfl, rfl, Nat.le_refl _, fun _ _ _ => rfl⟩ (.inl rfl)⟩
end
def setN : ByteArray := ⟨#[115, 101, 116]⟩
def expN : ByteArray := ⟨#[101, 120, 112, 111, 114, 116]⟩
def fixN : ByteArray := ⟨#[102, 105, 120, 101, 100]⟩
def argN : ByteArray := ⟨#[97, 114, 103, 115]⟩
/-- What is told of a variable, an alias, a trap, a function. -/
def varT (t : Tg) (k : ByteArray) : List ByteArray := (((([k, (valV t k).v] : List ByteArray) ++ if (valV t k).s then [setN] else []) ++ if (valV t k).e then [expN] else []) ++ if (valV t k).f then [fixN] else [])
def aliasT (t : Tg) (k : ByteArray) : List ByteArray := [k, (t.cur.a k).getD noW]
def trapT (t : Tg) (k : ByteArray) : List ByteArray := if (t.cur.t k).isSome then [k, (t.cur.t k).getD noW] else []
def funcT (t : Tg) (k : ByteArray) : List ByteArray := if (t.cur.f k).isSome then [k, ((t.cur.f k).getD noN).s] else []
def fiveN : List ByteArray := [⟨#[69, 88, 73, 84]⟩, ⟨#[72, 85, 80]⟩, ⟨#[73, 78, 84]⟩, ⟨#[84, 69, 82, 77]⟩, ⟨#[85, 83, 82, 49]⟩]
def told1 (t : Tg) (vs : List ByteArray) : List ByteArray := [t.cur.o] ++ envL t vs
def told2 (t : Tg) (vs : List ByteArray) : List ByteArray := told1 t vs ++ vs.flatMap (varT t) ++ [argN] ++ t.cur.g.l
def told3 (t : Tg) (vs al : List ByteArray) : List ByteArray := told2 t vs ++ al.flatMap (aliasT t) ++ fiveN.flatMap (trapT t)
def toldL (t : Tg) (vs al ns : List ByteArray) : List ByteArray := told3 t vs al ++ ns.flatMap (funcT t)
end Go.Proofs.YtigmdfdcflkggaaGreat
/-
  told: all that a state knows, as texts. Conditions: what is told stands; fewer than a hundred thousand names.
-/
set_option linter.unusedSimpArgs false
set_option linter.unusedVariables false
namespace Go.Proofs.YtigmdfdcflkggaaGreat
open Go Go.RowKit Go.ChangeMaps

section
variable {w w' : World} {B sb : Nat} {a : Ad} {pot : Nat} {t : Tg} {n : Int}
theorem own_txs {W : World} {y m c : Nat} {A : Option Addr} {ns : List ByteArray} (hm : ns.length = m) (h : W.ownsRow y 9 1 (.slice A m c) m (ns.map .string)) : Txs W A m c ns := by
  obtain ⟨A', c', e, ht⟩ := txs_of_own hm h
  cases e
  exact ht
theorem wp_app_of {P : Program} {w : World} {o : Oper} {a : Act} {K : Act → World → Prop} {Q : Exit → Act → World → Prop} (s x : Operand) (t tx : TypeId)
    (ho : o.op = .call { callee := .builtin .append, args := #[s, x], argTypes := #[t, tx] }) (v y r : Value) (w1 : World) (hs : a.eval s = v) (hx : a.eval x = y)
    (hrun : (Builtin.append_ #[t, tx] o.type #[v, y]).run P w = .ok r w1) (h : K (a.put o.dst r) w1) : o.wp P a w K Q := by
  unfold Oper.wp execOp
  simp only [ho, resolve, invoke, builtin, Sem.run_bind, Sem.run_pure, Result.andThen_ok, List.map_toArray, List.map_cons, List.map_nil, hs, hx, hrun]
  exact h
end
end Go.Proofs.YtigmdfdcflkggaaGreat
/-
  What goes back: marks stay under what is called, and what is told hangs on what is known alone. Conditions: none.
-/
set_option linter.unusedSimpArgs false
set_option linter.unusedVariables false
namespace Go.Proofs.YtigmdfdcflkggaaGreat
open Go Go.RowKit Go.ChangeMaps

section
variable {w W W' : World} {B sb : Nat} {a : Ad} {pot : Nat} {t t' : Tg} {n : Int}
theorem DoR.nest {o : Od} {K r : Int} (h : DoR o t K r t') : t'.nest = t.nest := by
  by_cases hK : K < 16
  · exact (h.pt hK).2.2.2
  cases h with
  | open_ _ _ =>
    unfold Tg.mark; split
    · rfl
    · rfl
  | undo _ _ =>
    unfold Tg.undo; split
    · rfl
    · rfl
  | opt _ hk => omega
  | _ => exact absurd (by decide) hK
/-- How many marks a log has, read off its block. -/
def lenM (lb : Nat) (w : World) : Nat := match w.cell? ⟨lb, 2, none⟩ with | some (.slice _ n _) => n | _ => 0
theorem run_append_none (W : World) (cs : Nat) {i0 : TypeInfo} (hi : Tryz.prog.info? 9 = some i0) : (Builtin.append_ #[35, 35] 35 #[.slice none 0 0, .slice none 0 cs]).run Tryz.prog W = .ok (.slice none 0 0) W := by
  simp [Builtin.append_, run_underlying Tryz.underlying35, sizeOf, typeInfo, hi, Builtin.lenOf, Builtin.firstCells]
/-- One row of texts behind another. -/
theorem append_rows {z : Nat} {A As : Option Addr} {m k c cs : Nat} {xs ys : List ByteArray} (h : W.ownsRow z 9 1 (.slice A m c) m (xs.map .string)) (hm : xs.length = m) (hb : Below z w W) (hz : z ≤ W.heap.size) (hs : Txs W As k cs ys) (hk : m ≤ 100000 ∧ k ≤ 100000) {i0 : TypeInfo} (hi : Tryz.prog.info? 9 = some i0) (hz0 : i0.zero = some (.string ⟨#[]⟩)) (hz1 : i0.size = 1) (hz2 : i0.bytes = 16) :
    ∃ A' c' W', (Builtin.append_ #[35, 35] 35 #[.slice A m c, .slice As k cs]).run Tryz.prog W = .ok (.slice A' (m + k) c') W' ∧ W'.ownsRow z 9 1 (.slice A' (m + k) c') (m + k) ((xs ++ ys).map .string) ∧ Below z w W' := by
  by_cases hp : 0 < m
  · obtain ⟨gg, cap, W', h1, h2, _⟩ := (⟨by rw [hm]; exact h, hb, hz⟩ : Out w z W (.slice A m c) xs).app hm hp (by omega) hi hz0 hz1 hz2 hs (by omega)
    have hl : (xs ++ ys).length = m + k := by rw [List.length_append, hm, hs.1]
    exact ⟨_, _, W', h1, by have := h2.row; rwa [hl] at this, h2.below⟩
  · obtain rfl : m = 0 := by omega
    obtain rfl : xs = [] := List.eq_nil_of_length_eq_zero hm
    obtain ⟨hlen, hmc, hcm, hcell⟩ := hs
    rw [Nat.zero_add, List.nil_append]
    cases As with
    | some ad =>
      have hnews : ∀ j u, (ys.map Value.string)[j]? = some u → W.cell? (ad.add j) = some u := fun j u hu => by
        rw [List.getElem?_map] at hu
        cases hx : ys[j]? with
        | none => rw [hx] at hu; cases hu
        | some x =>
          rw [hx] at hu
          have hu : Value.string x = u := by simpa using hu
          have hj : j < ys.length := (List.getElem?_eq_some_iff.1 hx).1
          obtain ⟨b, off, e, _, hc⟩ := hcell (by omega)
          cases e
          rw [← hu, add_plain0]
          exact hc j x hx
      obtain ⟨v', w', hr, h2, h3, h4, h5⟩ := run_append_own_at (P := Tryz.prog) W z 35 35 9 i0 _ 1 16 Tryz.underlying35 hi hz0 hz1 hz2 rfl (by decide) _ 0 _ h ad k cs (ys.map .string) (by rw [List.length_map, hlen, Nat.mul_one]) hnews (fun u hu => by
        obtain ⟨x, _, rfl⟩ := List.mem_map.1 hu
        rfl) (by unfold maxLen; omega) (by omega) hz
      rw [Nat.zero_add] at h2
      obtain ⟨A', c', rfl, _, _⟩ := own_form h2
      refine ⟨A', c', w', hr, by simpa using h2, ⟨h3.os.trans hb.os, h3.tape.trans hb.tape, h3.output.trans hb.output, Nat.le_trans hb.size h3.size, fun q hq => (h3.block q (Nat.lt_of_lt_of_le hq hz) (fun e => by have := (h.lt q e.symm).1; omega)).trans (hb.block q hq)⟩⟩
    | none =>
      have h0 : k = 0 := by
        rcases Nat.eq_zero_or_pos k with e | hp
        · exact e
        · obtain ⟨b, off, e, _⟩ := hcell hp; cases e
      subst h0
      have hy : ys = [] := List.eq_nil_of_length_eq_zero hlen
      subst hy
      cases A with
      | none =>
        rcases h.2 with ⟨e, _⟩ | ⟨_, _, _, e, _⟩
        · cases e
          exact ⟨none, 0, W, run_append_none W cs hi, h, hb⟩
        · cases e
      | some ad =>
        obtain ⟨b, off, spot⟩ := ad
        rcases h.2 with ⟨e, _⟩ | ⟨g, cp, cur, e, _⟩
        · cases e
        · cases e
          have hr := run_append_room_src (P := Tryz.prog) W 35 35 35 9 i0 Tryz.underlying35 hi b 0 0 c (.slice none 0 cs) 0 [] (Src.ofNil (P := Tryz.prog) W (size := i0.size) Tryz.underlying35 cs) (Nat.zero_le _) (fun j hj => absurd hj (Nat.not_lt_zero j)) (fun j hj => absurd hj (Nat.not_lt_zero j))
          exact ⟨_, _, W, hr, h, hb⟩
set_option maxRecDepth 100000 in
set_option maxHeartbeats 4000000 in
theorem texts_any {A A2 : Option Addr} {m c c2 : Nat} {l : List ByteArray} (w : World) (h1 : Txs w A m c l) (h2 : Txs w A2 m c2 l) :
    Calls Tryz.prog 23 #[.slice A m c, .slice A2 m c2] w fun e w' => e = .returned (.bool true) ∧ Below w.heap.size w w' := by
  have hc := h1.2.1
  have hcm := h1.2.2.1
  have hc2 := h2.2.1
  have hcm2 := h2.2.2.1
  unfold maxLen at hcm hcm2
  replace h1 := Lib.hid h1
  replace h2 := Lib.hid h2
  go_enter Tryz.func23, Tryz.ntmps23
  go_wp2
  go_loopw [5] (fun iv wr => ∃ i : Nat, i ≤ m ∧ iv = .int .i64 (i : Int) ∧ Hid (Below w.heap.size w wr)) (fun iv _ => m - (intOf iv).toNat)
  case atStart => exact ⟨0, Nat.zero_le _, rfl, Lib.hid (Below.refl _ _)⟩
  case round =>
    obtain ⟨i, hi, rfl, hbr⟩ := hrel
    by_cases hlt : i < m
    · obtain ⟨b1, o1, rfl, hb1, hx1⟩ := h1.out.2.2.2 (by omega)
      obtain ⟨b2, o2, rfl, hb2, hx2⟩ := h2.out.2.2.2 (by omega)
      have hil : i < l.length := by rw [h1.out.1]; exact hlt
      have k1 := (World.cell?_of_block (a := ⟨b1, o1 + i, none⟩) (hbr.out.block b1 hb1)).trans (hx1 i l[i] (List.getElem?_eq_getElem hil))
      have k2 := (World.cell?_of_block (a := ⟨b2, o2 + i, none⟩) (hbr.out.block b2 hb2)).trans (hx2 i l[i] (List.getElem?_eq_getElem hil))
      generalize l[i] = x at k1 k2
      have hi1 : (0 : Int) ≤ (i : Int) := by omega
      have hi2 : (i : Int) < (m : Int) := by omega
      have hne : (x.toList != x.toList) = false := by simp
      clear hx1 hx2
      go_upto_region 6 with fail
      go_quiet (fail)
      have hbE : ∀ q, Hid (Below w.heap.size w (wr.drewN q)) := fun q => Lib.hid ⟨hbr.out.os, hbr.out.tape, hbr.out.output, hbr.out.size, hbr.out.block⟩
      go_wp2
      go_roundw
      case rel => exact ⟨i + 1, by omega, by go_num, hbE _⟩
      case measure => simp [intOf]; omega
    · obtain rfl : i = m := by omega
      have hi2 : ¬ (i : Int) < (i : Int) := by omega
      go_wp2
      go_ret
      exact ⟨rfl, hbr.out⟩
end
end Go.Proofs.YtigmdfdcflkggaaGreat
/-
  What the document's answer has, in memory: rows of names and what they have, what is given, a status. Conditions: none.
-/
set_option linter.unusedSimpArgs false
set_option linter.unusedVariables false
namespace Go.Proofs.YtigmdfdcflkggaaGreat
open Go Go.RowKit Go.ChangeMaps

structure Rf where
  v : Es Vr
  f : Es Nd
  a : Es ByteArray
  t : Es ByteArray
  o : ByteArray
  g : Gv
  n : Int
def eV (p : ByteArray × Vr) : List Value := [.string p.1, .string p.2.v, .bool p.2.s, .bool p.2.e, .bool p.2.f]
def eF (p : ByteArray × Nd) : List Value := [.string p.1, .int .i64 p.2.k, .bool false, .string p.2.s, .bool false, .slice none 0 0, .slice none 0 0, .slice none 0 0, .slice none 0 0, .slice none 0 0]
def eP (p : ByteArray × ByteArray) : List Value := [.string p.1, .string p.2]
def flat {α : Type} (enc : α → List Value) (l : List α) : List Value := l.flatMap enc
theorem flat_app {α : Type} (enc : α → List Value) (l m : List α) : flat enc (l ++ m) = flat enc l ++ flat enc m := List.flatMap_append
theorem flat_one {α : Type} (enc : α → List Value) (x : α) : flat enc [x] = enc x := by unfold flat; simp
theorem flat_at {α : Type} {enc : α → List Value} {sz : Nat} (hsz : ∀ x, (enc x).length = sz) : ∀ (l : List α) (j : Nat) (x : α), l[j]? = some x → ∀ (i : Nat) (u : Value), (enc x)[i]? = some u → (flat enc l)[j * sz + i]? = some u
  | [], j, x, hj, i, u, hu => by cases hj
  | y :: l, 0, x, hj, i, u, hu => by
    cases hj
    show (enc y ++ flat enc l)[0 * sz + i]? = some u
    rw [Nat.zero_mul, Nat.zero_add, List.getElem?_append_left (List.getElem?_eq_some_iff.1 hu).1]
    exact hu
  | y :: l, j + 1, x, hj, i, u, hu => by
    show (enc y ++ flat enc l)[(j + 1) * sz + i]? = some u
    rw [List.getElem?_append_right (by rw [hsz, Nat.succ_mul]; omega), hsz, Nat.succ_mul, show j * sz + sz + i - sz = j * sz + i by omega]
    exact flat_at hsz l j x hj i u hu
theorem str_eq {a b : ByteArray} (h : a = b) : (a.toList == b.toList) = true := by rw [h]; exact beq_self_eq_true _
theorem str_ne {a b : ByteArray} (h : a ≠ b) : (a.toList == b.toList) = false := by
  rw [beq_eq_false_iff_ne]
  intro e
  rw [ByteArray.toList_eq, ByteArray.toList_eq] at e
  exact h (bytesOf_inj e)
theorem less_eq (a b : ByteArray) : Op.bytesLess a.toList b.toList = decide (bytesOf a < bytesOf b) := by
  rw [ByteArray.toList_eq, ByteArray.toList_eq]
  exact bytesLess_eq _ _
section
variable {W W' : World} {z : Nat} {T : TypeId} {sz : Nat} {v : Value}
theorem own_keepT {m : Nat} {xs : List Value} (h : W.ownsRow z T sz v m xs) (k : ∀ (g : Nat) cur, Blk W g cur T → Blk W' g cur T) : W'.ownsRow z T sz v m xs := by
  refine ⟨h.1, ?_⟩
  rcases h.2 with hn | ⟨g, cp, cur, e, hb, hg, rest⟩
  · exact .inl hn
  · refine .inr ⟨g, cp, cur, e, hb, ?_, rest⟩
    have := k g cur.toList (by unfold Blk; simpa using hg)
    unfold Blk at this
    simpa using this
/-- Where a row's elements lie. -/
theorem own_flat {α : Type} {enc : α → List Value} {A : Option Addr} {n c : Nat} {l : List α} (hsz : ∀ x, (enc x).length = sz) (h : W.ownsRow z T sz (.slice A n c) n (flat enc l)) (hn : 0 < n) : ∃ g, A = some ⟨g, 0, none⟩ ∧ z ≤ g ∧ g < W.heap.size ∧ ∀ (j : Nat) (x : α), l[j]? = some x → ∀ (i : Nat) (u : Value), (enc x)[i]? = some u → W.cell? ⟨g, j * sz + i, none⟩ = some u := by
  rcases h.2 with ⟨h1, h2⟩ | ⟨g, cap, cur, h1, hb, hg, h2⟩
  · omega
  · cases h1
    refine ⟨g, rfl, hb, (Array.getElem?_eq_some_iff.1 hg).1, fun j x hj i u hu => ?_⟩
    have := h.cells (g := g) rfl _ u (flat_at hsz l j x hj i u hu)
    rwa [add_plain0, Nat.zero_add] at this
/-- One element more. -/
theorem row_one {α : Type} {enc : α → List Value} {w : World} {TS : TypeId} {zero : Value} {bytes : Nat} (hinf : (Tryz.prog.info? T).map (fun i => (i.zero, i.size, i.bytes)) = some (some zero, sz, bytes)) (hun : Tryz.prog.underlying TS = some (.slice T)) (hzs : zero.cells.size = sz) (hs0 : 0 < sz) (hby : bytes ≤ 1000)
    (hsz : ∀ x, (enc x).length = sz) (h1 : ∀ x, ∀ u ∈ enc x, u.oneCell' = true) {L : List α} {n : Nat} (h : W.ownsRow z T sz v n (flat enc L)) (hn : L.length = n) (hL : n ≤ 100000) (hb : Below z w W) (hz : z ≤ W.heap.size) (x : α) :
    ∃ A' c' W', (Builtin.append_ #[TS, TS] TS #[v, .slice (some ⟨W.heap.size, 0, none⟩) 1 1]).run Tryz.prog (W.alloc (.cells (enc x).toArray T)) = .ok (.slice A' (n + 1) c') W' ∧
      W'.ownsRow z T sz (.slice A' (n + 1) c') (n + 1) (flat enc (L ++ [x])) ∧ Below z w W' := by
  obtain ⟨i0, hi, hz0, hz1, hz2⟩ := info_parts hinf
  have hr := h.alloc (.cells (enc x).toArray T)
  have hb1 := hb.alloc hz (.cells (enc x).toArray T)
  have hbl : Blk (W.alloc (.cells (enc x).toArray T)) W.heap.size (enc x) T := Blk.new W _ _
  obtain ⟨v', w', hr', h2, h3, _, h5⟩ := run_append_own_at (P := Tryz.prog) (W.alloc (.cells (enc x).toArray T)) z TS TS T i0 _ sz bytes hun hi hz0 hz1 hz2 hzs hs0 v n _ hr ⟨W.heap.size, 0, none⟩ 1 1 (enc x) (by rw [hsz, Nat.one_mul])
    (fun j u hu => by rw [add_plain0, Nat.zero_add]; exact hbl.cell hu) (h1 x) (Nat.le_trans (by omega : n + 1 ≤ 100001) (by decide)) (by
      have := Nat.mul_le_mul (show n + 1 ≤ 100001 by omega) hby
      omega) (by simp; omega)
  obtain ⟨A', c', rfl, _, _⟩ := own_form h2
  refine ⟨A', c', w', hr', by rw [flat_app, flat_one]; exact h2, ⟨h3.os.trans hb1.os, h3.tape.trans hb1.tape, h3.output.trans hb1.output, Nat.le_trans hb1.size h3.size, fun b hb' => (h3.block b (Nat.lt_of_lt_of_le hb' (by simp; omega)) fun e => ?_).trans (hb1.block b hb')⟩⟩
  have := (hr.lt b e.symm).1
  omega
end
theorem eV_len (p : ByteArray × Vr) : (eV p).length = 5 := rfl
theorem eF_len (p : ByteArray × Nd) : (eF p).length = 10 := rfl
theorem eP_len (p : ByteArray × ByteArray) : (eP p).length = 2 := rfl
theorem eV_one (p : ByteArray × Vr) : ∀ u ∈ eV p, u.oneCell' = true := by intro u hu; unfold eV at hu; simp at hu; rcases hu with rfl | rfl | rfl | rfl | rfl <;> rfl
theorem eF_one (p : ByteArray × Nd) : ∀ u ∈ eF p, u.oneCell' = true := by intro u hu; unfold eF at hu; simp at hu; rcases hu with rfl | rfl | rfl | rfl | rfl | rfl | rfl | rfl <;> rfl
theorem eP_one (p : ByteArray × ByteArray) : ∀ u ∈ eP p, u.oneCell' = true := by intro u hu; unfold eP at hu; simp at hu; rcases hu with rfl | rfl <;> rfl
theorem infoRV : (Tryz.prog.info? 80).map (fun i => (i.zero, i.size, i.bytes)) = some (some (.agg #[.string ⟨#[]⟩, .string ⟨#[]⟩, .bool false, .bool false, .bool false]), 5, 40) := by kernel_rfl
theorem infoRP : (Tryz.prog.info? 95).map (fun i => (i.zero, i.size, i.bytes)) = some (some (.agg #[.string ⟨#[]⟩, .string ⟨#[]⟩]), 2, 32) := by kernel_rfl
theorem infoRF : (Tryz.prog.info? 139).map (fun i => (i.zero, i.size, i.bytes)) = some (some (.agg #[.string ⟨#[]⟩, .int .i64 0, .bool false, .string ⟨#[]⟩, .bool false, .slice none 0 0, .slice none 0 0, .slice none 0 0, .slice none 0 0, .slice none 0 0]), 10, 176) := by kernel_rfl
section
variable {W W' w : World} {z : Nat} {v : Value}
theorem row_v {L : Es Vr} {n : Nat} (h : W.ownsRow z 80 5 v n (flat eV L)) (hn : L.length = n) (hL : n ≤ 100000) (hb : Below z w W) (hz : z ≤ W.heap.size) (k x0 : ByteArray) (x1 x2 x3 : Bool) :
    ∃ A' c' W', (Builtin.append_ #[72, 72] 72 #[v, .slice (some ⟨W.heap.size, 0, none⟩) 1 1]).run Tryz.prog (W.alloc (.cells #[.string k, .string x0, .bool x1, .bool x2, .bool x3] 80)) = .ok (.slice A' (n + 1) c') W' ∧
      W'.ownsRow z 80 5 (.slice A' (n + 1) c') (n + 1) (flat eV (L ++ [(k, ⟨x0, x1, x2, x3⟩)])) ∧ Below z w W' :=
  row_one infoRV Tryz.underlying72 rfl (by decide) (by decide) eV_len eV_one h hn hL hb hz (k, ⟨x0, x1, x2, x3⟩)
theorem row_p {L : Es ByteArray} {n : Nat} (h : W.ownsRow z 95 2 v n (flat eP L)) (hn : L.length = n) (hL : n ≤ 100000) (hb : Below z w W) (hz : z ≤ W.heap.size) (k x : ByteArray) :
    ∃ A' c' W', (Builtin.append_ #[74, 74] 74 #[v, .slice (some ⟨W.heap.size, 0, none⟩) 1 1]).run Tryz.prog (W.alloc (.cells #[.string k, .string x] 95)) = .ok (.slice A' (n + 1) c') W' ∧
      W'.ownsRow z 95 2 (.slice A' (n + 1) c') (n + 1) (flat eP (L ++ [(k, x)])) ∧ Below z w W' :=
  row_one infoRP Tryz.underlying74 rfl (by decide) (by decide) eP_len eP_one h hn hL hb hz (k, x)
theorem row_f {L : Es Nd} {n : Nat} (h : W.ownsRow z 139 10 v n (flat eF L)) (hn : L.length = n) (hL : n ≤ 100000) (hb : Below z w W) (hz : z ≤ W.heap.size) (k : ByteArray) (x0 : Int) (x1 : ByteArray) :
    ∃ A' c' W', (Builtin.append_ #[73, 73] 73 #[v, .slice (some ⟨W.heap.size, 0, none⟩) 1 1]).run Tryz.prog (W.alloc (.cells #[.string k, .int .i64 x0, .bool false, .string x1, .bool false, .slice none 0 0, .slice none 0 0, .slice none 0 0, .slice none 0 0, .slice none 0 0] 139)) = .ok (.slice A' (n + 1) c') W' ∧
      W'.ownsRow z 139 10 (.slice A' (n + 1) c') (n + 1) (flat eF (L ++ [(k, ⟨x0, x1⟩)])) ∧ Below z w W' :=
  row_one infoRF Tryz.underlying73 rfl (by decide) (by decide) eF_len eF_one h hn hL hb hz (k, ⟨x0, x1⟩)
end
/-- The document's answer in memory. -/
structure RfAt (W : World) (rb : Nat) (sv sf sa st : Value) (r : Rf) : Prop where
  blk : Blk W rb [sv, sf, sa, st, .string r.o, .slice r.g.A r.g.n r.g.c, .int .i64 r.g.a, .int .i64 r.g.i, .int .i64 r.n] 76
  rv : W.ownsRow 0 80 5 sv r.v.length (flat eV r.v)
  rf : W.ownsRow 0 139 10 sf r.f.length (flat eF r.f)
  ra : W.ownsRow 0 95 2 sa r.a.length (flat eP r.a)
  rt : W.ownsRow 0 95 2 st r.t.length (flat eP r.t)
  ga : GvAt W r.g
def RfA (W : World) (rb : Nat) (r : Rf) : Prop := ∃ sv sf sa st, RfAt W rb sv sf sa st r
section
variable {W W' : World} {rb : Nat} {sv sf sa st : Value} {r : Rf}
theorem RfAt.all (h : RfAt W rb sv sf sa st r) (hb : ∀ (g : Nat) cur T, Blk W g cur T → (T = 80 ∨ T = 139 ∨ T = 95 ∨ T = 9) → Blk W' g cur T) (hk : Blk W rb [sv, sf, sa, st, .string r.o, .slice r.g.A r.g.n r.g.c, .int .i64 r.g.a, .int .i64 r.g.i, .int .i64 r.n] 76 → Blk W' rb [sv, sf, sa, st, .string r.o, .slice r.g.A r.g.n r.g.c, .int .i64 r.g.a, .int .i64 r.g.i, .int .i64 r.n] 76) : RfAt W' rb sv sf sa st r where
  blk := hk h.blk
  rv := own_keepT h.rv fun g cur k => hb g cur _ k (.inl rfl)
  rf := own_keepT h.rf fun g cur k => hb g cur _ k (.inr (.inl rfl))
  ra := own_keepT h.ra fun g cur k => hb g cur _ k (.inr (.inr (.inl rfl)))
  rt := own_keepT h.rt fun g cur k => hb g cur _ k (.inr (.inr (.inl rfl)))
  ga := ⟨h.ga.1, h.ga.2.1, h.ga.2.2.1, fun hn => by
    obtain ⟨b, off, cur, e1, e2, e3⟩ := h.ga.2.2.2 hn
    exact ⟨b, off, cur, e1, hb _ _ _ e2 (.inr (.inr (.inr rfl))), e3⟩⟩
theorem RfAt.below (h : RfAt W rb sv sf sa st r) (k : Below W.heap.size W W') : RfAt W' rb sv sf sa st r := h.all (fun g cur T hb _ => (k.block g hb.lt).trans hb) fun hb => (k.block rb hb.lt).trans hb
theorem RfAt.keepD (h : RfAt W rb sv sf sa st r) (k : KeepD W W') : RfAt W' rb sv sf sa st r := h.all (fun g cur T hb hT => k g cur T hb (by rcases hT with rfl | rfl | rfl | rfl <;> exact nPk (by decide)) (by rcases hT with rfl | rfl | rfl | rfl <;> decide)) fun hb => k rb _ _ hb (nPk (by decide)) (by decide)
/-- Another block of an answer's type is changed. -/
theorem RfAt.stp {p : Nat} {cur : List Value} {Tp : TypeId} (h : RfAt W rb sv sf sa st r) (hp : Blk W p cur Tp) (hT : Tp ≠ 80 ∧ Tp ≠ 139 ∧ Tp ≠ 95 ∧ Tp ≠ 9) (hne : p ≠ rb) (k : Stp (fun b => b = p) W W') : RfAt W' rb sv sf sa st r := by
  have ty : ∀ (g : Nat) c T, Blk W g c T → T ≠ Tp → Blk W' g c T := fun g c T hb hn => hb.stp k (fun e => by
    subst e
    have e2 := hp.symm.trans hb
    simp only [Option.some.injEq, Obj.cells.injEq] at e2
    exact hn e2.2.1.symm)
  exact h.all (fun g c T hb hTT => ty g c T hb (by rcases hTT with rfl | rfl | rfl | rfl <;> first | exact hT.1.symm | exact hT.2.1.symm | exact hT.2.2.1.symm | exact hT.2.2.2.symm)) fun hb => hb.stp k (fun e => hne e.symm)
theorem RfA.below (h : RfA W rb r) (k : Below W.heap.size W W') : RfA W' rb r := by
  obtain ⟨sv, sf, sa, st, h⟩ := h
  exact ⟨sv, sf, sa, st, h.below k⟩
theorem RfA.keepD (h : RfA W rb r) (k : KeepD W W') : RfA W' rb r := by
  obtain ⟨sv, sf, sa, st, h⟩ := h
  exact ⟨sv, sf, sa, st, h.keepD k⟩
/-- A cell is set, and nothing else. -/
theorem RfAt.set {sv' sf' sa' st' : Value} {r' : Rf} (h : RfAt W rb sv sf sa st r) (i : Nat) (u : Value)
    (hc : (([sv, sf, sa, st, .string r.o, .slice r.g.A r.g.n r.g.c, .int .i64 r.g.a, .int .i64 r.g.i, .int .i64 r.n] : List Value).set i u) = [sv', sf', sa', st', .string r'.o, .slice r'.g.A r'.g.n r'.g.c, .int .i64 r'.g.a, .int .i64 r'.g.i, .int .i64 r'.n])
    (h1 : W.ownsRow 0 80 5 sv' r'.v.length (flat eV r'.v)) (h2 : W.ownsRow 0 139 10 sf' r'.f.length (flat eF r'.f)) (h3 : W.ownsRow 0 95 2 sa' r'.a.length (flat eP r'.a)) (h4 : W.ownsRow 0 95 2 st' r'.t.length (flat eP r'.t)) (h5 : GvAt W r'.g) :
    RfAt (W.setCell ⟨rb, i, none⟩ u) rb sv' sf' sa' st' r' ∧ Stp (fun b => b = rb) W (W.setCell ⟨rb, i, none⟩ u) := by
  have hS : Stp (fun b => b = rb) W (W.setCell ⟨rb, i, none⟩ u) := Stp.set (S := fun b => b = rb) rfl i u
  have hbk := h.blk.set i u
  rw [hc] at hbk
  have ty : ∀ (g : Nat) c T, Blk W g c T → T ≠ 76 → Blk (W.setCell ⟨rb, i, none⟩ u) g c T := fun g c T hb hn => hb.stp hS (fun e => by
    subst e
    have e2 := h.blk.symm.trans hb
    simp only [Option.some.injEq, Obj.cells.injEq] at e2
    exact hn e2.2.1.symm)
  refine ⟨⟨hbk, own_keepT h1 fun g cur k => ty g cur _ k (by decide), own_keepT h2 fun g cur k => ty g cur _ k (by decide), own_keepT h3 fun g cur k => ty g cur _ k (by decide), own_keepT h4 fun g cur k => ty g cur _ k (by decide), h5.1, h5.2.1, h5.2.2.1, fun hn => ?_⟩, hS⟩
  obtain ⟨b, off, cur, e1, e2, e3⟩ := h5.2.2.2 hn
  exact ⟨b, off, cur, e1, ty _ _ _ e2 (by decide), e3⟩
end
end Go.Proofs.YtigmdfdcflkggaaGreat
/-
  The document's answer in memory: what is found of a name. Conditions: none.
-/
set_option linter.unusedSimpArgs false
set_option linter.unusedVariables false
namespace Go.Proofs.YtigmdfdcflkggaaGreat
open Go Go.RowKit Go.ChangeMaps

theorem look_first {α : Type} : ∀ {l : Es α} {k : ByteArray} {j : Nat} (hj : j < l.length), (∀ i (hi : i < l.length), i < j → l[i].1 ≠ k) → l[j].1 = k → look l k = some l[j].2
  | p :: l, k, 0, hj, _, he => by
    unfold look
    exact if_pos he
  | p :: l, k, j + 1, hj, h, he => by
    unfold look
    rw [if_neg (show ¬ p.1 = k from h 0 (Nat.zero_lt_succ _) (Nat.zero_lt_succ _))]
    exact look_first (l := l) (j := j) (Nat.lt_of_succ_lt_succ hj) (fun i hi hlt => h (i + 1) (Nat.succ_lt_succ hi) (Nat.succ_lt_succ hlt)) he
theorem look_no {α : Type} : ∀ {l : Es α} {k : ByteArray}, (∀ i (hi : i < l.length), l[i].1 ≠ k) → look l k = none
  | [], _, _ => rfl
  | p :: l, k, h => by
    unfold look
    rw [if_neg (show ¬ p.1 = k from h 0 (Nat.zero_lt_succ _))]
    exact look_no fun i hi => h (i + 1) (Nat.succ_lt_succ hi)
theorem none_yet {α : Type} {l : Es α} {k : ByteArray} {j : Nat} (h : ∀ i (hi : i < l.length), i < j → l[i].1 ≠ k) (hj : ∀ hj : j < l.length, l[j].1 ≠ k) : ∀ i (hi : i < l.length), i < j + 1 → l[i].1 ≠ k := fun i hi hlt => by
  rcases Nat.lt_succ_iff_lt_or_eq.1 hlt with e | e
  · exact h i hi e
  · subst e; exact hj hi
section
variable {W w w' : World} {rb : Nat} {r : Rf}
set_option maxRecDepth 100000 in
set_option maxHeartbeats 4000000 in
theorem find_any {z n c : Nat} {A : Option Addr} {L : Es ByteArray} (h : W.ownsRow z 95 2 (.slice A n c) n (flat eP L)) (hn : L.length = n) (k : ByteArray) :
    Calls Tryz.prog 117 #[.slice A n c, .string k] W fun e w' => e = .returned (.tuple #[.string ((look L k).getD noW), .bool (look L k).isSome]) ∧ w' = W := by
  obtain ⟨_, c', e9, hc, hcm⟩ := own_form h
  cases e9
  unfold maxLen at hcm
  obtain ⟨R, hR⟩ : ∃ R, look L k = R := ⟨_, rfl⟩
  rw [hR]
  replace h := Lib.hid h
  replace hn := Lib.hid hn
  replace hR := Lib.hid hR
  go_enter Tryz.func117, Tryz.ntmps117
  go_wp2
  go_loopw [6] (fun iv wr => ∃ j : Nat, j ≤ n ∧ iv = .int .i64 (j : Int) ∧ Hid (wr = W) ∧ Hid (∀ i (hi : i < L.length), i < j → L[i].1 ≠ k)) (fun iv _ => n - (intOf iv).toNat)
  case atStart => exact ⟨0, Nat.zero_le _, rfl, Lib.hid rfl, Lib.hid fun i _ h => absurd h (Nat.not_lt_zero i)⟩
  case round =>
    obtain ⟨j, hj, rfl, hw, hno⟩ := hrel
    obtain rfl := hw.out
    clear hw
    by_cases hlt : j < n
    · have hjn : j < L.length := by rw [hn.out]; exact hlt
      obtain ⟨g, rfl, _, hgl, hat⟩ := own_flat eP_len h.out (by omega)
      have hjl := List.getElem?_eq_getElem hjn
      have c0 : wr.cell? ⟨g, j * 2, none⟩ = some _ := hat j _ hjl 0 _ rfl
      have c1 : wr.cell? ⟨g, j * 2 + 1, none⟩ = some _ := hat j _ hjl 1 _ rfl
      have hj1 : (0 : Int) ≤ (j : Int) := by omega
      have hj2 : (j : Int) < (n : Int) := by omega
      have hnx := fun (hne : L[j].1 ≠ k) => none_yet hno.out (fun _ => hne)
      have hfst := look_first (k := k) hjn hno.out
      generalize L[j] = p at c0 c1 hnx hfst
      obtain ⟨k1, x1⟩ := p
      dsimp only at c0 c1 hnx hfst
      clear hjl hat
      by_cases hk : k1 = k
      · have hs := str_eq hk
        have hf := hR.out.symm.trans (hfst hk)
        subst hf
        clear hfst hnx hno hk
        go_wp2
        go_ret2
        exact ⟨rfl, rfl⟩
      · have hs := str_ne hk
        have hnE := Lib.hid (hnx hk)
        clear hfst hnx hno hk
        go_wp2
        go_roundw
        case rel => exact ⟨j + 1, by omega, by go_num, Lib.hid trivial, hnE⟩
        case measure => simp [intOf]; omega
    · obtain rfl : j = n := by omega
      have hj2 : ¬ (j : Int) < (j : Int) := by omega
      have hf := hR.out.symm.trans (look_no fun i hi => hno.out i hi (by rw [← hn.out]; exact hi))
      subst hf
      clear hno
      go_wp2
      go_ret2
      exact ⟨rfl, rfl⟩
set_option maxRecDepth 100000 in
set_option maxHeartbeats 4000000 in
theorem rVar_any (h : RfA W rb r) (k : ByteArray) :
    Calls Tryz.prog 108 #[ptrV rb, .string k] W fun e w' => e = .returned (.agg #[.string (if (look r.v k).isSome then k else ⟨#[]⟩), .string ((look r.v k).getD noV).v, .bool ((look r.v k).getD noV).s, .bool ((look r.v k).getD noV).e, .bool ((look r.v k).getD noV).f]) ∧ Below W.heap.size W w' := by
  obtain ⟨sv, sf, sa, st, h⟩ := h
  obtain ⟨A, c, hsv, hc, hcm⟩ := own_form h.rv
  subst hsv
  obtain ⟨n, hn⟩ : ∃ n, r.v.length = n := ⟨_, rfl⟩
  obtain ⟨z, hz⟩ : ∃ z, W.heap.size = z := ⟨_, rfl⟩
  have hrl := h.blk.lt
  have hb0 : Below z W (W.alloc (.cells #[.string ⟨#[]⟩, .string ⟨#[]⟩, .bool false, .bool false, .bool false] 80)) := by rw [← hz]; exact Below.of_alloc W _
  have b0 : Blk (W.alloc (.cells #[.string ⟨#[]⟩, .string ⟨#[]⟩, .bool false, .bool false, .bool false] 80)) z [.string ⟨#[]⟩, .string ⟨#[]⟩, .bool false, .bool false, .bool false] 80 := by rw [← hz]; exact Blk.new W _ _
  have h1 := h.below (by rw [hz]; exact hb0)
  have hrow := h1.rv
  have cr : (W.alloc (.cells #[.string ⟨#[]⟩, .string ⟨#[]⟩, .bool false, .bool false, .bool false] 80)).cell? ⟨rb, 0, none⟩ = some (.slice A r.v.length c) := h1.blk.cell (i := 0) rfl
  have crl := h1.blk.lt
  rw [hn] at hrow cr hc
  rw [hz]
  unfold maxLen at hcm
  unfold ptrV
  obtain ⟨R, hR⟩ : ∃ R, look r.v k = R := ⟨_, rfl⟩
  rw [hR]
  generalize r.v = L at hrow hn hR
  have hne : rb ≠ z := by omega
  replace hrow := Lib.hid hrow
  replace hn := Lib.hid hn
  replace hR := Lib.hid hR
  replace hb0 := Lib.hid hb0
  clear h h1
  go_enter Tryz.func108, Tryz.ntmps108
  go_upto_region 1 with fail
  try rw [hz]
  generalize (W.alloc (.cells #[.string ⟨#[]⟩, .string ⟨#[]⟩, .bool false, .bool false, .bool false] 80)) = w1 at hrow cr crl hb0 b0 ⊢
  replace hz := Lib.hid hz
  replace b0 := Lib.hid b0
  go_wp2
  go_loopw [5] (fun iv wr => ∃ j : Nat, j ≤ n ∧ iv = .int .i64 (j : Int) ∧ Hid (wr = w1) ∧ Hid (∀ i (hi : i < L.length), i < j → L[i].1 ≠ k)) (fun iv _ => n - (intOf iv).toNat)
  case atStart => exact ⟨0, Nat.zero_le _, rfl, Lib.hid rfl, Lib.hid fun i _ h => absurd h (Nat.not_lt_zero i)⟩
  case round =>
    obtain ⟨j, hj, rfl, hw, hno⟩ := hrel
    obtain rfl := hw.out
    clear hw
    by_cases hlt : j < n
    · have hjn : j < L.length := by rw [hn.out]; exact hlt
      obtain ⟨g, rfl, _, hgl, hat⟩ := own_flat eV_len hrow.out (by omega)
      have hjl := List.getElem?_eq_getElem hjn
      have c0 : wr.cell? ⟨g, j * 5, none⟩ = some _ := hat j _ hjl 0 _ rfl
      have c1 : wr.cell? ⟨g, j * 5 + 1, none⟩ = some _ := hat j _ hjl 1 _ rfl
      have c2 : wr.cell? ⟨g, j * 5 + 2, none⟩ = some _ := hat j _ hjl 2 _ rfl
      have c3 : wr.cell? ⟨g, j * 5 + 3, none⟩ = some _ := hat j _ hjl 3 _ rfl
      have c4 : wr.cell? ⟨g, j * 5 + 4, none⟩ = some _ := hat j _ hjl 4 _ rfl
      have hj1 : (0 : Int) ≤ (j : Int) := by omega
      have hj2 : (j : Int) < (n : Int) := by omega
      have hnx := fun (hne : L[j].1 ≠ k) => none_yet hno.out (fun _ => hne)
      have hfst := look_first (k := k) hjn hno.out
      generalize L[j] = p at c0 c1 c2 c3 c4 hnx hfst
      obtain ⟨k1, ⟨x0, x1, x2, x3⟩⟩ := p
      dsimp only at c0 c1 c2 c3 c4 hnx hfst
      clear hjl hat
      by_cases hk : k1 = k
      · have hs := str_eq hk
        have hf := hR.out.symm.trans (hfst hk)
        subst hf
        clear hfst hnx hno
        subst hk
        have f0 := b0.out.frozen 0
        have f1 := b0.out.frozen 1
        have f2 := b0.out.frozen 2
        have f3 := b0.out.frozen 3
        have f4 := b0.out.frozen 4
        have e0 := b0.out.cell (i := 0) rfl
        have e1 := b0.out.cell (i := 1) rfl
        have e2 := b0.out.cell (i := 2) rfl
        have e3 := b0.out.cell (i := 3) rfl
        have e4 := b0.out.cell (i := 4) rfl
        have lz := b0.out.lt
        have bE : Blk (((((wr.setCell ⟨z, 0, none⟩ (.string k1)).setCell ⟨z, 1, none⟩ (.string x0)).setCell ⟨z, 2, none⟩ (.bool x1)).setCell ⟨z, 3, none⟩ (.bool x2)).setCell ⟨z, 4, none⟩ (.bool x3)) z [.string k1, .string x0, .bool x1, .bool x2, .bool x3] 80 := (((((b0.out.set 0 (.string k1)).set 1 (.string x0)).set 2 (.bool x1)).set 3 (.bool x2)).set 4 (.bool x3))
        have hbE : Below z W (((((wr.setCell ⟨z, 0, none⟩ (.string k1)).setCell ⟨z, 1, none⟩ (.string x0)).setCell ⟨z, 2, none⟩ (.bool x1)).setCell ⟨z, 3, none⟩ (.bool x2)).setCell ⟨z, 4, none⟩ (.bool x3)) := (((((hb0.out.setCell (Nat.le_refl z) _).setCell (Nat.le_refl z) _).setCell (Nat.le_refl z) _).setCell (Nat.le_refl z) _).setCell (Nat.le_refl z) _)
        replace bE := Lib.hid bE
        replace hbE := Lib.hid hbE
        clear b0 hb0
        go_wp2
        generalize (((((wr.setCell ⟨z, 0, none⟩ (.string k1)).setCell ⟨z, 1, none⟩ (.string x0)).setCell ⟨z, 2, none⟩ (.bool x1)).setCell ⟨z, 3, none⟩ (.bool x2)).setCell ⟨z, 4, none⟩ (.bool x3)) = wE at bE hbE ⊢
        have g0 := bE.out.cell (i := 0) rfl
        have g1 := bE.out.cell (i := 1) rfl
        have g2 := bE.out.cell (i := 2) rfl
        have g3 := bE.out.cell (i := 3) rfl
        have g4 := bE.out.cell (i := 4) rfl
        exact bodyPost_ret (v := .agg #[.string k1, .string x0, .bool x1, .bool x2, .bool x3]) (by simp [results, Tryz.results108, g0, g1, g2, g3, g4, go_sem]) rfl ⟨rfl, hbE.out⟩
      · have hs := str_ne hk
        have hnE := Lib.hid (hnx hk)
        clear hfst hnx hno hk
        go_wp2
        go_roundw
        case rel => exact ⟨j + 1, by omega, by go_num, Lib.hid trivial, hnE⟩
        case measure => simp [intOf]; omega
    · obtain rfl : j = n := by omega
      have hj2 : ¬ (j : Int) < (j : Int) := by omega
      have hf := hR.out.symm.trans (look_no fun i hi => hno.out i hi (by rw [← hn.out]; exact hi))
      subst hf
      clear hno
      have f0 := b0.out.frozen 0
      have f1 := b0.out.frozen 1
      have f2 := b0.out.frozen 2
      have f3 := b0.out.frozen 3
      have f4 := b0.out.frozen 4
      have e0 := b0.out.cell (i := 0) rfl
      have e1 := b0.out.cell (i := 1) rfl
      have e2 := b0.out.cell (i := 2) rfl
      have e3 := b0.out.cell (i := 3) rfl
      have e4 := b0.out.cell (i := 4) rfl
      have lz := b0.out.lt
      have bE : Blk (((((wr.setCell ⟨z, 0, none⟩ (.string ⟨#[]⟩)).setCell ⟨z, 1, none⟩ (.string ⟨#[]⟩)).setCell ⟨z, 2, none⟩ (.bool false)).setCell ⟨z, 3, none⟩ (.bool false)).setCell ⟨z, 4, none⟩ (.bool false)) z [.string ⟨#[]⟩, .string ⟨#[]⟩, .bool false, .bool false, .bool false] 80 := (((((b0.out.set 0 (.string ⟨#[]⟩)).set 1 (.string ⟨#[]⟩)).set 2 (.bool false)).set 3 (.bool false)).set 4 (.bool false))
      have hbE : Below z W (((((wr.setCell ⟨z, 0, none⟩ (.string ⟨#[]⟩)).setCell ⟨z, 1, none⟩ (.string ⟨#[]⟩)).setCell ⟨z, 2, none⟩ (.bool false)).setCell ⟨z, 3, none⟩ (.bool false)).setCell ⟨z, 4, none⟩ (.bool false)) := (((((hb0.out.setCell (Nat.le_refl z) _).setCell (Nat.le_refl z) _).setCell (Nat.le_refl z) _).setCell (Nat.le_refl z) _).setCell (Nat.le_refl z) _)
      replace bE := Lib.hid bE
      replace hbE := Lib.hid hbE
      clear b0 hb0
      go_wp2
      generalize (((((wr.setCell ⟨z, 0, none⟩ (.string ⟨#[]⟩)).setCell ⟨z, 1, none⟩ (.string ⟨#[]⟩)).setCell ⟨z, 2, none⟩ (.bool false)).setCell ⟨z, 3, none⟩ (.bool false)).setCell ⟨z, 4, none⟩ (.bool false)) = wE at bE hbE ⊢
      have g0 := bE.out.cell (i := 0) rfl
      have g1 := bE.out.cell (i := 1) rfl
      have g2 := bE.out.cell (i := 2) rfl
      have g3 := bE.out.cell (i := 3) rfl
      have g4 := bE.out.cell (i := 4) rfl
      exact bodyPost_ret (v := .agg #[.string ⟨#[]⟩, .string ⟨#[]⟩, .bool false, .bool false, .bool false]) (by simp [results, Tryz.results108, g0, g1, g2, g3, g4, go_sem]) rfl ⟨rfl, hbE.out⟩
set_option maxRecDepth 100000 in
set_option maxHeartbeats 4000000 in
theorem rFunc_any (h : RfA W rb r) (k : ByteArray) :
    Calls Tryz.prog 73 #[ptrV rb, .string k] W fun e w' => e = .returned (.tuple #[encN ((look r.f k).getD noN), .bool (look r.f k).isSome]) ∧ Below W.heap.size W w' := by
  obtain ⟨sv, sf, sa, st, h⟩ := h
  obtain ⟨A, c, hsv, hc, hcm⟩ := own_form h.rf
  subst hsv
  obtain ⟨n, hn⟩ : ∃ n, r.f.length = n := ⟨_, rfl⟩
  obtain ⟨z, hz⟩ : ∃ z, W.heap.size = z := ⟨_, rfl⟩
  have hrl := h.blk.lt
  have hb0 : Below z W (W.alloc (.cells #[.int .i64 0, .bool false, .string ⟨#[]⟩, .bool false, .slice none 0 0, .slice none 0 0, .slice none 0 0, .slice none 0 0, .slice none 0 0] 88)) := by rw [← hz]; exact Below.of_alloc W _
  have b0 : Blk (W.alloc (.cells #[.int .i64 0, .bool false, .string ⟨#[]⟩, .bool false, .slice none 0 0, .slice none 0 0, .slice none 0 0, .slice none 0 0, .slice none 0 0] 88)) z [.int .i64 0, .bool false, .string ⟨#[]⟩, .bool false, .slice none 0 0, .slice none 0 0, .slice none 0 0, .slice none 0 0, .slice none 0 0] 88 := by rw [← hz]; exact Blk.new W _ _
  have h1 := h.below (by rw [hz]; exact hb0)
  have hrow := h1.rf
  have cr : (W.alloc (.cells #[.int .i64 0, .bool false, .string ⟨#[]⟩, .bool false, .slice none 0 0, .slice none 0 0, .slice none 0 0, .slice none 0 0, .slice none 0 0] 88)).cell? ⟨rb, 1, none⟩ = some (.slice A r.f.length c) := h1.blk.cell (i := 1) rfl
  have crl := h1.blk.lt
  rw [hn] at hrow cr hc
  rw [hz]
  unfold maxLen at hcm
  unfold ptrV
  obtain ⟨R, hR⟩ : ∃ R, look r.f k = R := ⟨_, rfl⟩
  rw [hR]
  generalize r.f = L at hrow hn hR
  have hne : rb ≠ z := by omega
  replace hrow := Lib.hid hrow
  replace hn := Lib.hid hn
  replace hR := Lib.hid hR
  replace hb0 := Lib.hid hb0
  clear h h1
  go_enter Tryz.func73, Tryz.ntmps73
  go_upto_region 1 with fail
  try rw [hz]
  generalize (W.alloc (.cells #[.int .i64 0, .bool false, .string ⟨#[]⟩, .bool false, .slice none 0 0, .slice none 0 0, .slice none 0 0, .slice none 0 0, .slice none 0 0] 88)) = w1 at hrow cr crl hb0 b0 ⊢
  replace hz := Lib.hid hz
  replace b0 := Lib.hid b0
  go_wp2
  go_loopw [6] (fun iv wr => ∃ j : Nat, j ≤ n ∧ iv = .int .i64 (j : Int) ∧ Hid (wr = w1) ∧ Hid (∀ i (hi : i < L.length), i < j → L[i].1 ≠ k)) (fun iv _ => n - (intOf iv).toNat)
  case atStart => exact ⟨0, Nat.zero_le _, rfl, Lib.hid rfl, Lib.hid fun i _ h => absurd h (Nat.not_lt_zero i)⟩
  case round =>
    obtain ⟨j, hj, rfl, hw, hno⟩ := hrel
    obtain rfl := hw.out
    clear hw
    by_cases hlt : j < n
    · have hjn : j < L.length := by rw [hn.out]; exact hlt
      obtain ⟨g, rfl, _, hgl, hat⟩ := own_flat eF_len hrow.out (by omega)
      have hjl := List.getElem?_eq_getElem hjn
      have c0 : wr.cell? ⟨g, j * 10, none⟩ = some _ := hat j _ hjl 0 _ rfl
      have c1 : wr.cell? ⟨g, j * 10 + 1, none⟩ = some _ := hat j _ hjl 1 _ rfl
      have c2 : wr.cell? ⟨g, j * 10 + 2, none⟩ = some _ := hat j _ hjl 2 _ rfl
      have c3 : wr.cell? ⟨g, j * 10 + 3, none⟩ = some _ := hat j _ hjl 3 _ rfl
      have c4 : wr.cell? ⟨g, j * 10 + 4, none⟩ = some _ := hat j _ hjl 4 _ rfl
      have c5 : wr.cell? ⟨g, j * 10 + 5, none⟩ = some _ := hat j _ hjl 5 _ rfl
      have c6 : wr.cell? ⟨g, j * 10 + 6, none⟩ = some _ := hat j _ hjl 6 _ rfl
      have c7 : wr.cell? ⟨g, j * 10 + 7, none⟩ = some _ := hat j _ hjl 7 _ rfl
      have c8 : wr.cell? ⟨g, j * 10 + 8, none⟩ = some _ := hat j _ hjl 8 _ rfl
      have c9 : wr.cell? ⟨g, j * 10 + 9, none⟩ = some _ := hat j _ hjl 9 _ rfl
      have hj1 : (0 : Int) ≤ (j : Int) := by omega
      have hj2 : (j : Int) < (n : Int) := by omega
      have hnx := fun (hne : L[j].1 ≠ k) => none_yet hno.out (fun _ => hne)
      have hfst := look_first (k := k) hjn hno.out
      generalize L[j] = p at c0 c1 c2 c3 c4 c5 c6 c7 c8 c9 hnx hfst
      obtain ⟨k1, ⟨x0, x1⟩⟩ := p
      dsimp only at c0 c1 c2 c3 c4 c5 c6 c7 c8 c9 hnx hfst
      clear hjl hat
      by_cases hk : k1 = k
      · have hs := str_eq hk
        have hf := hR.out.symm.trans (hfst hk)
        subst hf
        clear hfst hnx hno
        subst hk
        have f0 := b0.out.frozen 0
        have f1 := b0.out.frozen 1
        have f2 := b0.out.frozen 2
        have f3 := b0.out.frozen 3
        have f4 := b0.out.frozen 4
        have f5 := b0.out.frozen 5
        have f6 := b0.out.frozen 6
        have f7 := b0.out.frozen 7
        have f8 := b0.out.frozen 8
        have e0 := b0.out.cell (i := 0) rfl
        have e1 := b0.out.cell (i := 1) rfl
        have e2 := b0.out.cell (i := 2) rfl
        have e3 := b0.out.cell (i := 3) rfl
        have e4 := b0.out.cell (i := 4) rfl
        have e5 := b0.out.cell (i := 5) rfl
        have e6 := b0.out.cell (i := 6) rfl
        have e7 := b0.out.cell (i := 7) rfl
        have e8 := b0.out.cell (i := 8) rfl
        have lz := b0.out.lt
        have bE : Blk (((((((((wr.setCell ⟨z, 0, none⟩ (.int .i64 x0)).setCell ⟨z, 1, none⟩ (.bool false)).setCell ⟨z, 2, none⟩ (.string x1)).setCell ⟨z, 3, none⟩ (.bool false)).setCell ⟨z, 4, none⟩ (.slice none 0 0)).setCell ⟨z, 5, none⟩ (.slice none 0 0)).setCell ⟨z, 6, none⟩ (.slice none 0 0)).setCell ⟨z, 7, none⟩ (.slice none 0 0)).setCell ⟨z, 8, none⟩ (.slice none 0 0)) z [.int .i64 x0, .bool false, .string x1, .bool false, .slice none 0 0, .slice none 0 0, .slice none 0 0, .slice none 0 0, .slice none 0 0] 88 := (((((((((b0.out.set 0 (.int .i64 x0)).set 1 (.bool false)).set 2 (.string x1)).set 3 (.bool false)).set 4 (.slice none 0 0)).set 5 (.slice none 0 0)).set 6 (.slice none 0 0)).set 7 (.slice none 0 0)).set 8 (.slice none 0 0))
        have hbE : Below z W (((((((((wr.setCell ⟨z, 0, none⟩ (.int .i64 x0)).setCell ⟨z, 1, none⟩ (.bool false)).setCell ⟨z, 2, none⟩ (.string x1)).setCell ⟨z, 3, none⟩ (.bool false)).setCell ⟨z, 4, none⟩ (.slice none 0 0)).setCell ⟨z, 5, none⟩ (.slice none 0 0)).setCell ⟨z, 6, none⟩ (.slice none 0 0)).setCell ⟨z, 7, none⟩ (.slice none 0 0)).setCell ⟨z, 8, none⟩ (.slice none 0 0)) := (((((((((hb0.out.setCell (Nat.le_refl z) _).setCell (Nat.le_refl z) _).setCell (Nat.le_refl z) _).setCell (Nat.le_refl z) _).setCell (Nat.le_refl z) _).setCell (Nat.le_refl z) _).setCell (Nat.le_refl z) _).setCell (Nat.le_refl z) _).setCell (Nat.le_refl z) _)
        replace bE := Lib.hid bE
        replace hbE := Lib.hid hbE
        clear b0 hb0
        go_wp2
        generalize (((((((((wr.setCell ⟨z, 0, none⟩ (.int .i64 x0)).setCell ⟨z, 1, none⟩ (.bool false)).setCell ⟨z, 2, none⟩ (.string x1)).setCell ⟨z, 3, none⟩ (.bool false)).setCell ⟨z, 4, none⟩ (.slice none 0 0)).setCell ⟨z, 5, none⟩ (.slice none 0 0)).setCell ⟨z, 6, none⟩ (.slice none 0 0)).setCell ⟨z, 7, none⟩ (.slice none 0 0)).setCell ⟨z, 8, none⟩ (.slice none 0 0)) = wE at bE hbE ⊢
        have g0 := bE.out.cell (i := 0) rfl
        have g1 := bE.out.cell (i := 1) rfl
        have g2 := bE.out.cell (i := 2) rfl
        have g3 := bE.out.cell (i := 3) rfl
        have g4 := bE.out.cell (i := 4) rfl
        have g5 := bE.out.cell (i := 5) rfl
        have g6 := bE.out.cell (i := 6) rfl
        have g7 := bE.out.cell (i := 7) rfl
        have g8 := bE.out.cell (i := 8) rfl
        exact bodyPost_ret (v := .tuple #[.agg #[.int .i64 x0, .bool false, .string x1, .bool false, .slice none 0 0, .slice none 0 0, .slice none 0 0, .slice none 0 0, .slice none 0 0], .bool true]) (by simp [results, Tryz.results73, g0, g1, g2, g3, g4, g5, g6, g7, g8, go_sem]) rfl ⟨rfl, hbE.out⟩
      · have hs := str_ne hk
        have hnE := Lib.hid (hnx hk)
        clear hfst hnx hno hk
        go_wp2
        go_roundw
        case rel => exact ⟨j + 1, by omega, by go_num, Lib.hid trivial, hnE⟩
        case measure => simp [intOf]; omega
    · obtain rfl : j = n := by omega
      have hj2 : ¬ (j : Int) < (j : Int) := by omega
      have hf := hR.out.symm.trans (look_no fun i hi => hno.out i hi (by rw [← hn.out]; exact hi))
      subst hf
      clear hno
      have f0 := b0.out.frozen 0
      have f1 := b0.out.frozen 1
      have f2 := b0.out.frozen 2
      have f3 := b0.out.frozen 3
      have f4 := b0.out.frozen 4
      have f5 := b0.out.frozen 5
      have f6 := b0.out.frozen 6
      have f7 := b0.out.frozen 7
      have f8 := b0.out.frozen 8
      have e0 := b0.out.cell (i := 0) rfl
      have e1 := b0.out.cell (i := 1) rfl
      have e2 := b0.out.cell (i := 2) rfl
      have e3 := b0.out.cell (i := 3) rfl
      have e4 := b0.out.cell (i := 4) rfl
      have e5 := b0.out.cell (i := 5) rfl
      have e6 := b0.out.cell (i := 6) rfl
      have e7 := b0.out.cell (i := 7) rfl
      have e8 := b0.out.cell (i := 8) rfl
      have lz := b0.out.lt
      have bE : Blk (((((((((wr.setCell ⟨z, 0, none⟩ (.int .i64 0)).setCell ⟨z, 1, none⟩ (.bool false)).setCell ⟨z, 2, none⟩ (.string ⟨#[]⟩)).setCell ⟨z, 3, none⟩ (.bool false)).setCell ⟨z, 4, none⟩ (.slice none 0 0)).setCell ⟨z, 5, none⟩ (.slice none 0 0)).setCell ⟨z, 6, none⟩ (.slice none 0 0)).setCell ⟨z, 7, none⟩ (.slice none 0 0)).setCell ⟨z, 8, none⟩ (.slice none 0 0)) z [.int .i64 0, .bool false, .string ⟨#[]⟩, .bool false, .slice none 0 0, .slice none 0 0, .slice none 0 0, .slice none 0 0, .slice none 0 0] 88 := (((((((((b0.out.set 0 (.int .i64 0)).set 1 (.bool false)).set 2 (.string ⟨#[]⟩)).set 3 (.bool false)).set 4 (.slice none 0 0)).set 5 (.slice none 0 0)).set 6 (.slice none 0 0)).set 7 (.slice none 0 0)).set 8 (.slice none 0 0))
      have hbE : Below z W (((((((((wr.setCell ⟨z, 0, none⟩ (.int .i64 0)).setCell ⟨z, 1, none⟩ (.bool false)).setCell ⟨z, 2, none⟩ (.string ⟨#[]⟩)).setCell ⟨z, 3, none⟩ (.bool false)).setCell ⟨z, 4, none⟩ (.slice none 0 0)).setCell ⟨z, 5, none⟩ (.slice none 0 0)).setCell ⟨z, 6, none⟩ (.slice none 0 0)).setCell ⟨z, 7, none⟩ (.slice none 0 0)).setCell ⟨z, 8, none⟩ (.slice none 0 0)) := (((((((((hb0.out.setCell (Nat.le_refl z) _).setCell (Nat.le_refl z) _).setCell (Nat.le_refl z) _).setCell (Nat.le_refl z) _).setCell (Nat.le_refl z) _).setCell (Nat.le_refl z) _).setCell (Nat.le_refl z) _).setCell (Nat.le_refl z) _).setCell (Nat.le_refl z) _)
      replace bE := Lib.hid bE
      replace hbE := Lib.hid hbE
      clear b0 hb0
      go_wp2
      generalize (((((((((wr.setCell ⟨z, 0, none⟩ (.int .i64 0)).setCell ⟨z, 1, none⟩ (.bool false)).setCell ⟨z, 2, none⟩ (.string ⟨#[]⟩)).setCell ⟨z, 3, none⟩ (.bool false)).setCell ⟨z, 4, none⟩ (.slice none 0 0)).setCell ⟨z, 5, none⟩ (.slice none 0 0)).setCell ⟨z, 6, none⟩ (.slice none 0 0)).setCell ⟨z, 7, none⟩ (.slice none 0 0)).setCell ⟨z, 8, none⟩ (.slice none 0 0)) = wE at bE hbE ⊢
      have g0 := bE.out.cell (i := 0) rfl
      have g1 := bE.out.cell (i := 1) rfl
      have g2 := bE.out.cell (i := 2) rfl
      have g3 := bE.out.cell (i := 3) rfl
      have g4 := bE.out.cell (i := 4) rfl
      have g5 := bE.out.cell (i := 5) rfl
      have g6 := bE.out.cell (i := 6) rfl
      have g7 := bE.out.cell (i := 7) rfl
      have g8 := bE.out.cell (i := 8) rfl
      exact bodyPost_ret (v := .tuple #[.agg #[.int .i64 0, .bool false, .string ⟨#[]⟩, .bool false, .slice none 0 0, .slice none 0 0, .slice none 0 0, .slice none 0 0, .slice none 0 0], .bool false]) (by simp [results, Tryz.results73, g0, g1, g2, g3, g4, g5, g6, g7, g8, go_sem]) rfl ⟨rfl, hbE.out⟩
end
end Go.Proofs.YtigmdfdcflkggaaGreat
