/-
  What each call does to the document's answer, beside what it does to a state. Conditions: a log with room.
-/
import Derived.Test.YtigmdfdcflkggaaGreatZp16
set_option linter.unusedSimpArgs false
set_option linter.unusedVariables false
namespace Go.Proofs.YtigmdfdcflkggaaGreat
open Go Go.RowKit Go.ChangeMaps

/-- What a call on the document's answer leaves. -/
def RfOut (W : World) (rb N : Nat) (n : Int) (s : Sta) (w' : World) : Prop := ∃ r', RfA w' rb r' ∧ Corr s r' ∧ Bd N r' ∧ r'.n = n ∧ Stp (fun b => b = rb) W w'
theorem bareV_mark {y : Vr} (h : bareV y = y) (e f : Bool) : bareV ⟨y.v, y.s, e, f⟩ = ⟨y.v, y.s, e, f⟩ := by
  unfold bareV at h ⊢
  cases hs : y.s with
  | true => exact if_pos rfl
  | false =>
    rw [if_neg (by rw [hs]; decide)] at h
    have hv : y.v = ⟨#[]⟩ := (congrArg Vr.v h).symm
    rw [if_neg (by decide), hv]
theorem Corr.bare {t : Tg} {r : Rf} (h : Corr t.cur r) (k : ByteArray) : bareV (valV t k) = valV t k := by
  unfold valV
  cases hv : t.cur.v k with
  | none => rfl
  | some x => exact h.b k x hv
theorem dropK_le {α : Type} (l : Es α) (k : ByteArray) : (dropK l k).length ≤ l.length := List.length_filter_le _ _
theorem put_zero {α : Type} {no : Bool} {k : ByteArray} {x : α} {l : Es α} {N : Nat} (h : l.length ≤ N) : (putL no k x l).length ≤ N + 1 := Nat.le_trans (putL_length no k x l) (Nat.succ_le_succ h)
theorem putD_zero {α : Type} {no : Bool} {k k' : ByteArray} {x : α} {l : Es α} {N : Nat} (h : l.length ≤ N) : (putL no k x (dropK l k')).length ≤ N + 1 := put_zero (Nat.le_trans (dropK_le l k') h)
theorem snoc_zero {α : Type} {k : ByteArray} {x : α} {l : Es α} {N : Nat} (h : l.length ≤ N) : (dropK l k ++ [(k, x)]).length ≤ N + 1 := by
  have := dropK_le l k
  rw [List.length_append]
  show _ + 1 ≤ _
  omega
section
variable {N : Nat} {r : Rf}
theorem Bd.one (h : Bd N r) : Bd (N + 1) r := h.mono (Nat.le_succ _)
theorem Bd.bv (h : Bd N r) (no : Bool) (k : ByteArray) (x : Vr) : Bd (N + 1) { r with v := putL no k x r.v } := by refine ⟨?_, h.one.f, h.one.a, h.one.t⟩; dsimp only; exact put_zero h.v
theorem Bd.bf (h : Bd N r) (k : ByteArray) (x : Nd) : Bd (N + 1) { r with f := dropK r.f k ++ [(k, x)] } := by refine ⟨h.one.v, ?_, h.one.a, h.one.t⟩; dsimp only; exact snoc_zero h.f
theorem Bd.df (h : Bd N r) (k : ByteArray) : Bd (N + 1) { r with f := dropK r.f k } := by refine ⟨h.one.v, ?_, h.one.a, h.one.t⟩; dsimp only; exact Nat.le_succ_of_le (Nat.le_trans (dropK_le _ _) h.f)
theorem Bd.ba (h : Bd N r) (k x : ByteArray) : Bd (N + 1) { r with a := putL false k x (dropK r.a k) } := by refine ⟨h.one.v, h.one.f, ?_, h.one.t⟩; dsimp only; exact putD_zero h.a
theorem Bd.da (h : Bd N r) (k : ByteArray) : Bd (N + 1) { r with a := dropK r.a k } := by refine ⟨h.one.v, h.one.f, ?_, h.one.t⟩; dsimp only; exact Nat.le_succ_of_le (Nat.le_trans (dropK_le _ _) h.a)
theorem Bd.bt (h : Bd N r) (k x : ByteArray) : Bd (N + 1) { r with t := putL false k x (dropK r.t k) } := by refine ⟨h.one.v, h.one.f, h.one.a, ?_⟩; dsimp only; exact putD_zero h.t
theorem Bd.dt (h : Bd N r) (k : ByteArray) : Bd (N + 1) { r with t := dropK r.t k } := by refine ⟨h.one.v, h.one.f, h.one.a, ?_⟩; dsimp only; exact Nat.le_succ_of_le (Nat.le_trans (dropK_le _ _) h.t)
theorem Bd.sm (h : Bd N r) (o : ByteArray) (g : Gv) (n : Int) : Bd (N + 1) { r with o := o, g := g, n := n } := ⟨h.one.v, h.one.f, h.one.a, h.one.t⟩
end
section
variable {W w' : World} {rb N : Nat} {r : Rf} {t : Tg} {n : Int}
theorem out_same (h : RfA W rb r) (hc : Corr t.cur r) (hb : Bd N r) : RfOut W rb (N + 1) r.n t.cur W := ⟨r, h, hc, hb.mono (Nat.le_succ _), rfl, Stp.refl _ _⟩
theorem out_below (h : RfA W rb r) (hc : Corr t.cur r) (hb : Bd N r) (k : Below W.heap.size W w') : RfOut W rb (N + 1) r.n t.cur w' := ⟨r, h.below k, hc, hb.mono (Nat.le_succ _), rfl, stpB k (Stp.refl _ _)⟩
theorem a_set (h : RfA W rb r) (hc : Corr t.cur r) (hb : Bd N r) (hN : N ≤ 80000) (hf : ¬ t.full) (k v : ByteArray) (hk : k.size ≤ 1000000) :
    Calls Tryz.prog 50 #[ptrV rb, .string k, .string v] W fun e w' => e = .returned (.int .i64 (t.setV k v).1) ∧ RfOut W rb (N + 1) r.n (t.setV k v).2.cur w' := by
  unfold Tg.setV
  cases hn : nameB k with
  | false => exact (rSet_bad h k v hk hn).mono (by rintro e w' ⟨rfl, rfl⟩; exact ⟨rfl, out_same h hc hb⟩)
  | true =>
    rw [if_pos rfl]
    by_cases hv : 4096 < v.size
    · rw [if_pos hv]; exact (rSet_big h k v hk hn hv).mono (by rintro e w' ⟨rfl, rfl⟩; exact ⟨rfl, out_same h hc hb⟩)
    · rw [if_neg hv]
      have hl : r.v.length ≤ 89999 := Nat.le_trans hb.v (by omega)
      have ho : r.o.size ≤ 1000 := Nat.le_trans hc.os (by decide)
      cases hff : (fndV r k).f with
      | true => rw [if_pos (by rw [← hc.fnd]; exact hff)]; exact (rSet_fix h hl k v hk hn hv hff).mono (by rintro e w' ⟨rfl, h1⟩; exact ⟨rfl, out_below h hc hb h1⟩)
      | false =>
        rw [if_neg (by rw [← hc.fnd, hff]; decide)]
        obtain ⟨p1, p2⟩ := putv_nf hf k ⟨v, true, (valV t k).e || optB t 97, false⟩
        rw [p1, p2]
        rw [← hc.fnd, ← hc.opt]
        cases he : (fndV r k).e with
        | true => exact (rSet_exp h hl k v hk hn hv hff he).mono (by rintro e w' ⟨rfl, h1, h2⟩; exact ⟨rfl, _, h1, hc.setv k _ rfl, hb.bv _ _ _, rfl, h2⟩)
        | false => exact (rSet_opt h hl k v hk hn hv hff he ho).mono (by rintro e w' ⟨rfl, h1, h2⟩; rw [Bool.false_or]; exact ⟨rfl, _, h1, hc.setv k _ rfl, hb.bv _ _ _, rfl, h2⟩)
theorem a_unset (h : RfA W rb r) (hc : Corr t.cur r) (hb : Bd N r) (hN : N ≤ 80000) (hf : ¬ t.full) (k : ByteArray) (hk : k.size ≤ 1000000) :
    Calls Tryz.prog 51 #[ptrV rb, .string k] W fun e w' => e = .returned (.int .i64 (t.unsetV k).1) ∧ RfOut W rb (N + 1) r.n (t.unsetV k).2.cur w' := by
  unfold Tg.unsetV
  cases hn : nameB k with
  | false => exact (rUnset_bad h k hk hn).mono (by rintro e w' ⟨rfl, rfl⟩; exact ⟨rfl, out_same h hc hb⟩)
  | true =>
    rw [if_pos rfl]
    have hl : r.v.length ≤ 89999 := Nat.le_trans hb.v (by omega)
    cases hff : (fndV r k).f with
    | true => rw [if_pos (by rw [← hc.fnd]; exact hff)]; exact (rUnset_fix h hl k hk hn hff).mono (by rintro e w' ⟨rfl, h1⟩; exact ⟨rfl, out_below h hc hb h1⟩)
    | false =>
      rw [if_neg (by rw [← hc.fnd, hff]; decide)]
      obtain ⟨p1, p2⟩ := delv_nf hf k
      rw [p1, p2]
      exact (rUnset_ok h hl k hk hn hff).mono (by rintro e w' ⟨rfl, h1, h2⟩; exact ⟨rfl, _, h1, hc.delv k _, hb.bv _ _ _, rfl, h2⟩)
theorem rMark_any (h : RfA W rb r) (hl : r.v.length ≤ 89999) (k : ByteArray) (e f : Bool) (hk : k.size ≤ 1000000) (hgd : nameB k = true) :
    Calls Tryz.prog 52 #[ptrV rb, .string k, .bool e, .bool f] W fun d w' => d = .returned (.int .i64 0) ∧ RfA w' rb { r with v := putL (!(fndV r k).s && !((fndV r k).e || e) && !((fndV r k).f || f)) k ⟨(fndV r k).v, (fndV r k).s, (fndV r k).e || e, (fndV r k).f || f⟩ r.v } ∧ Stp (fun b => b = rb) W w' := by
  cases he : (fndV r k).e with
  | false =>
    cases hf : (fndV r k).f with
    | false => rw [Bool.false_or, Bool.false_or]; exact rMark_ff h hl k e f hk hgd he hf
    | true => rw [Bool.false_or, Bool.true_or]; exact rMark_ft h hl k e f hk hgd he hf
  | true =>
    cases hf : (fndV r k).f with
    | false => rw [Bool.true_or, Bool.false_or]; exact rMark_tf h hl k e f hk hgd he hf
    | true => rw [Bool.true_or, Bool.true_or]; exact rMark_tt h hl k e f hk hgd he hf
theorem bare_no {x : Vr} (h : bareV x = x) : x = noV ↔ (!x.s && !x.e && !x.f) = true := by
  constructor
  · rintro rfl; rfl
  · intro k
    obtain ⟨v, s, e, f⟩ := x
    cases s
    · cases e
      · cases f
        · have hv : v = ⟨#[]⟩ := (congrArg Vr.v h).symm
          rw [hv]; rfl
        · cases k
      · cases k
    · cases k
theorem a_mark (h : RfA W rb r) (hc : Corr t.cur r) (hb : Bd N r) (hN : N ≤ 80000) (hf : ¬ t.full) (k : ByteArray) (e f : Bool) (hk : k.size ≤ 1000000) :
    Calls Tryz.prog 52 #[ptrV rb, .string k, .bool e, .bool f] W fun d w' => d = .returned (.int .i64 (t.markV k e f).1) ∧ RfOut W rb (N + 1) r.n (t.markV k e f).2.cur w' := by
  unfold Tg.markV Tg.put
  cases hn : nameB k with
  | false => exact (rMark_bad h k e f hk hn).mono (by rintro d w' ⟨rfl, rfl⟩; exact ⟨rfl, out_same h hc hb⟩)
  | true =>
    rw [if_pos rfl]
    have hl : r.v.length ≤ 89999 := Nat.le_trans hb.v (by omega)
    have hbr := bareV_mark (hc.bare k) ((valV t k).e || e) ((valV t k).f || f)
    rw [hbr]
    have hm := rMark_any h hl k e f hk hn
    rw [hc.fnd] at hm
    by_cases hx : (⟨(valV t k).v, (valV t k).s, (valV t k).e || e, (valV t k).f || f⟩ : Vr) = noV
    · rw [if_pos hx]
      obtain ⟨p1, p2⟩ := delv_nf hf k
      rw [p1, p2]
      have hno := (bare_no hbr).1 hx
      dsimp only at hno
      rw [hno] at hm
      exact hm.mono (by rintro d w' ⟨rfl, h1, h2⟩; exact ⟨rfl, _, h1, hc.delv k _, hb.bv _ _ _, rfl, h2⟩)
    · rw [if_neg hx]
      obtain ⟨p1, p2⟩ := putv_nf hf k ⟨(valV t k).v, (valV t k).s, (valV t k).e || e, (valV t k).f || f⟩
      rw [p1, p2]
      have hno : (!(valV t k).s && !((valV t k).e || e) && !((valV t k).f || f)) = false := Bool.eq_false_iff.2 fun hh => hx ((bare_no hbr).2 hh)
      rw [hno] at hm
      exact hm.mono (by rintro d w' ⟨rfl, h1, h2⟩; exact ⟨rfl, _, h1, hc.setv k _ hbr, hb.bv _ _ _, rfl, h2⟩)
/-- What is put, as the program and the document's answer put it. -/
theorem a_put (h : RfA W rb r) (hc : Corr t.cur r) (hb : Bd N r) (hN : N ≤ 80000) (hf : ¬ t.full) (k x0 : ByteArray) (x : Vr) (hk : k.size ≤ 1000000) :
    Calls Tryz.prog 40 #[ptrV rb, .string k, .agg #[.string x0, .string x.v, .bool x.s, .bool x.e, .bool x.f]] W fun d w' => d = .returned (.int .i64 (t.put k x).1) ∧ RfOut W rb (N + 1) r.n (t.put k x).2.cur w' := by
  unfold Tg.put
  cases hn : nameB k with
  | false => exact (rPut_bad h k x0 x.v x.s x.e x.f hk hn).mono (by rintro d w' ⟨rfl, h1⟩; exact ⟨rfl, out_below h hc hb h1⟩)
  | true =>
    rw [if_pos rfl]
    have hl : r.v.length ≤ 89999 := Nat.le_trans hb.v (by omega)
    obtain ⟨v, s, e, f⟩ := x
    have hbr : bareV (bareV ⟨v, s, e, f⟩) = bareV ⟨v, s, e, f⟩ := by cases s <;> rfl
    have hm : Calls Tryz.prog 40 #[ptrV rb, .string k, .agg #[.string x0, .string v, .bool s, .bool e, .bool f]] W fun d w' => d = .returned (.int .i64 0) ∧ RfA w' rb { r with v := putL (!(bareV ⟨v, s, e, f⟩).s && !(bareV ⟨v, s, e, f⟩).e && !(bareV ⟨v, s, e, f⟩).f) k (bareV ⟨v, s, e, f⟩) r.v } ∧ Stp (fun b => b = rb) W w' := by
      cases s
      · exact rPut_not h hl k x0 v e f hk hn
      · exact rPut_set h hl k x0 v e f hk hn
    dsimp only
    generalize bareV ⟨v, s, e, f⟩ = x at hm hbr ⊢
    by_cases hx : x = noV
    · rw [if_pos hx]
      obtain ⟨p1, p2⟩ := delv_nf hf k
      rw [p1, p2]
      rw [(bare_no hbr).1 hx] at hm
      exact hm.mono (by rintro d w' ⟨rfl, h1, h2⟩; exact ⟨rfl, _, h1, hc.delv k _, hb.bv _ _ _, rfl, h2⟩)
    · rw [if_neg hx]
      obtain ⟨p1, p2⟩ := putv_nf hf k x
      rw [p1, p2]
      rw [show (!x.s && !x.e && !x.f) = false from Bool.eq_false_iff.2 fun hh => hx ((bare_no hbr).2 hh)] at hm
      exact hm.mono (by rintro d w' ⟨rfl, h1, h2⟩; exact ⟨rfl, _, h1, hc.setv k _ hbr, hb.bv _ _ _, rfl, h2⟩)
theorem a_setF (h : RfA W rb r) (hc : Corr t.cur r) (hb : Bd N r) (hN : N ≤ 80000) (hf : ¬ t.full) (k : ByteArray) (x : Nd) (hk : k.size ≤ 1000000) :
    Calls Tryz.prog 53 #[ptrV rb, .string k, encN x] W fun d w' => d = .returned (.int .i64 (t.setF k x).1) ∧ RfOut W rb (N + 1) r.n (t.setF k x).2.cur w' := by
  unfold Tg.setF
  obtain ⟨y0, y1⟩ := x
  cases hn : nameB k with
  | false => exact (rSetFunc_bad h k y0 y1 hk hn).mono (by rintro d w' ⟨rfl, h1⟩; exact ⟨rfl, out_below h hc hb h1⟩)
  | true =>
    rw [if_pos rfl]
    obtain ⟨p1, p2⟩ := putf_nf hf k ⟨y0, y1⟩
    rw [p1, p2]
    exact (rSetFunc_ok h (Nat.le_trans hb.f (by omega)) k y0 y1 (rName_yes hk hn)).mono (by rintro d w' ⟨rfl, h1, h2⟩; exact ⟨rfl, _, h1, hc.setf k _, hb.bf _ _, rfl, h2⟩)
theorem a_unsetF (h : RfA W rb r) (hc : Corr t.cur r) (hb : Bd N r) (hN : N ≤ 80000) (hf : ¬ t.full) (k : ByteArray) (hk : k.size ≤ 1000000) :
    Calls Tryz.prog 54 #[ptrV rb, .string k] W fun d w' => d = .returned (.int .i64 (t.unsetF k).1) ∧ RfOut W rb (N + 1) r.n (t.unsetF k).2.cur w' := by
  unfold Tg.unsetF
  cases hn : nameB k with
  | false => exact (rUnsetFunc_bad h k hk hn).mono (by rintro d w' ⟨rfl, rfl⟩; exact ⟨rfl, out_same h hc hb⟩)
  | true =>
    rw [if_pos rfl]
    cases hx : (look r.f k).isSome with
    | false =>
      rw [if_neg (by rw [← hc.f, hx]; decide)]
      exact (rUnsetFunc_no h k hk hn hx).mono (by rintro d w' ⟨rfl, h1⟩; exact ⟨rfl, out_below h hc hb h1⟩)
    | true =>
      rw [if_pos (by rw [← hc.f]; exact hx)]
      obtain ⟨p1, p2⟩ := delf_nf hf k
      rw [p1, p2]
      exact (rUnsetFunc_ok h (Nat.le_trans hb.f (by omega)) k (rName_yes hk hn W) hx).mono (by rintro d w' ⟨rfl, h1, h2⟩; exact ⟨rfl, _, h1, hc.delf k, hb.df _, rfl, h2⟩)
theorem a_setA (h : RfA W rb r) (hc : Corr t.cur r) (hb : Bd N r) (hN : N ≤ 80000) (hf : ¬ t.full) (k v : ByteArray) (hk : k.size ≤ 1000000) :
    Calls Tryz.prog 55 #[ptrV rb, .string k, .string v] W fun d w' => d = .returned (.int .i64 (t.setA k v).1) ∧ RfOut W rb (N + 1) r.n (t.setA k v).2.cur w' := by
  unfold Tg.setA
  cases hn : aliasB k with
  | false => exact (rSetAlias_bad h k v hk hn).mono (by rintro d w' ⟨rfl, rfl⟩; exact ⟨rfl, out_same h hc hb⟩)
  | true =>
    rw [if_pos rfl]
    by_cases hv : 4096 < v.size
    · rw [if_pos hv]; exact (rSetAlias_big h k v hk hn hv).mono (by rintro d w' ⟨rfl, rfl⟩; exact ⟨rfl, out_same h hc hb⟩)
    · rw [if_neg hv]
      obtain ⟨p1, p2⟩ := puta_nf hf k v
      rw [p1, p2]
      exact (rSetAlias_ok h (Nat.le_trans hb.a (by omega)) k v hk hn hv).mono (by rintro d w' ⟨rfl, h1, h2⟩; exact ⟨rfl, _, h1, hc.seta k v, hb.ba _ _, rfl, h2⟩)
theorem a_unalias (h : RfA W rb r) (hc : Corr t.cur r) (hb : Bd N r) (hN : N ≤ 80000) (hf : ¬ t.full) (k : ByteArray) :
    Calls Tryz.prog 56 #[ptrV rb, .string k] W fun d w' => d = .returned (.int .i64 (t.unalias k).1) ∧ RfOut W rb (N + 1) r.n (t.unalias k).2.cur w' := by
  unfold Tg.unalias
  cases hx : (look r.a k).isSome with
  | false =>
    rw [if_neg (by rw [← hc.a.has, hx]; decide)]
    exact (rUnalias_no h k hx).mono (by rintro d w' ⟨rfl, rfl⟩; exact ⟨rfl, out_same h hc hb⟩)
  | true =>
    rw [if_pos (by rw [← hc.a.has]; exact hx)]
    obtain ⟨p1, p2⟩ := dela_nf hf k
    rw [p1, p2]
    exact (rUnalias_ok h (Nat.le_trans hb.a (by omega)) k hx).mono (by rintro d w' ⟨rfl, h1, h2⟩; exact ⟨rfl, _, h1, hc.dela k, hb.da _, rfl, h2⟩)
theorem a_setT (h : RfA W rb r) (hc : Corr t.cur r) (hb : Bd N r) (hN : N ≤ 80000) (hf : ¬ t.full) (k v : ByteArray) :
    Calls Tryz.prog 57 #[ptrV rb, .string k, .string v] W fun d w' => d = .returned (.int .i64 (t.setT k v).1) ∧ RfOut W rb (N + 1) r.n (t.setT k v).2.cur w' := by
  unfold Tg.setT
  cases hn : trapB k with
  | false => exact (rSetTrap_bad h k v hn).mono (by rintro d w' ⟨rfl, rfl⟩; exact ⟨rfl, out_same h hc hb⟩)
  | true =>
    rw [if_pos rfl]
    by_cases hv : 4096 < v.size
    · rw [if_pos hv]; exact (rSetTrap_big h k v hn hv).mono (by rintro d w' ⟨rfl, rfl⟩; exact ⟨rfl, out_same h hc hb⟩)
    · rw [if_neg hv]
      obtain ⟨p1, p2⟩ := putt_nf hf k v
      rw [p1, p2]
      exact (rSetTrap_ok h (Nat.le_trans hb.t (by omega)) k v hn hv).mono (by rintro d w' ⟨rfl, h1, h2⟩; exact ⟨rfl, _, h1, hc.sett k v, hb.bt _ _, rfl, h2⟩)
theorem a_untrap (h : RfA W rb r) (hc : Corr t.cur r) (hb : Bd N r) (hN : N ≤ 80000) (hf : ¬ t.full) (k : ByteArray) :
    Calls Tryz.prog 58 #[ptrV rb, .string k] W fun d w' => d = .returned (.int .i64 (t.untrap k).1) ∧ RfOut W rb (N + 1) r.n (t.untrap k).2.cur w' := by
  unfold Tg.untrap
  cases hn : trapB k with
  | false => exact (rUntrap_bad h k hn).mono (by rintro d w' ⟨rfl, rfl⟩; exact ⟨rfl, out_same h hc hb⟩)
  | true =>
    rw [if_pos rfl]
    obtain ⟨p1, p2⟩ := delt_nf hf k
    rw [p1, p2]
    exact (rUntrap_ok h (Nat.le_trans hb.t (by omega)) k hn).mono (by rintro d w' ⟨rfl, h1, h2⟩; exact ⟨rfl, _, h1, hc.delt k, hb.dt _, rfl, h2⟩)
end
end Go.Proofs.YtigmdfdcflkggaaGreat
/-
  The other calls on the document's answer, beside what they do to a state. Conditions: a log with room; numbers of 64 bits.
-/
set_option linter.unusedSimpArgs false
set_option linter.unusedVariables false
namespace Go.Proofs.YtigmdfdcflkggaaGreat
open Go Go.RowKit Go.ChangeMaps

section
variable {W w' : World} {rb N : Nat} {r : Rf} {t : Tg} {n : Int}
open Classical in
theorem a_enter (h : RfA W rb r) (hc : Corr t.cur r) (hb : Bd N r) (hN : N ≤ 80000) (htr : TrapK t.cur) (hroom : t.was ≠ [] → t.ns.length + 5 < t.most) {ns : List ByteArray} (hns : KeysOf t.cur.t ns) :
    (enterL ns t).1 = 0 ∧ Calls Tryz.prog 59 #[ptrV rb] W fun d w' => d = .returned (.tuple #[]) ∧ RfOut W rb (N + 1) r.n (enterL ns t).2.cur w' := by
  have h5 := traps_five htr hns
  obtain ⟨e1, e2⟩ := enterL_nf ns t (fun hw => by have := hroom hw; omega) hns.nodup
  refine ⟨e1, ?_⟩
  rw [e2]
  have hl : r.t.length ≤ 90000 := Nat.le_trans hb.t (by omega)
  refine (rEnter_any h hl).mono ?_
  rintro d w' ⟨rfl, h1, h2⟩
  have hk : CanonG (fun k => if k ∈ ns ∧ 0 < ((t.cur.t k).getD noW).size then none else t.cur.t k) (keepT r.t) := by
    refine ⟨hc.t.rising.filter _, fun j => ?_⟩
    rw [look_keepT hc.t.apart hc.t.has]
    by_cases h0 : 0 < ((t.cur.t j).getD noW).size
    · have hm : j ∈ ns := by
        cases hj : t.cur.t j with
        | none => rw [hj] at h0; exact absurd h0 (by decide)
        | some x => exact hns.iff hj
      rw [if_pos h0, if_pos ⟨hm, h0⟩]
    · rw [if_neg h0, if_neg (fun hh => h0 hh.2)]
  have hbt : (keepT r.t).length ≤ N + 1 := Nat.le_succ_of_le (Nat.le_trans (List.length_filter_le _ _) hb.t)
  exact ⟨rfl, _, h1, ⟨hc.v, hc.f, hc.a, hk, hc.o, hc.os, hc.gl, hc.gn, hc.ga, hc.gi, hc.b⟩, ⟨hb.one.v, hb.one.f, hb.one.a, hbt⟩, rfl, h2⟩
theorem any_ix (c : UInt8) (l : List UInt8) : l.any (fun x => x == c) = true ↔ ¬ Lib.indexByte l c < 0 := by
  induction l with
  | nil =>
    constructor
    · intro h; cases h
    · intro h; exact absurd (show (-1 : Int) < 0 by decide) h
  | cons x l ih =>
    have hge := Lib.indexByte_ge l c
    rw [List.any_cons]
    unfold Lib.indexByte
    cases hx : (x == c) with
    | true => simp
    | false =>
      rw [Bool.false_or, ih, if_neg (by decide)]
      by_cases h1 : (Lib.indexByte l c == -1) = true
      · rw [if_pos h1]
        have : Lib.indexByte l c = -1 := by simpa using h1
        omega
      · rw [if_neg h1]
        have : Lib.indexByte l c ≠ -1 := fun e => h1 (by rw [e]; rfl)
        omega
theorem known_ix (c : UInt8) : knownN c 6 = true ↔ ¬ Lib.indexByte optA c < 0 := any_ix c optA
theorem a_opt (h : RfA W rb r) (hc : Corr t.cur r) (hb : Bd N r) (hf : ¬ t.full) (c : UInt8) (on : Bool) :
    Calls Tryz.prog 60 #[ptrV rb, .int .u8 (c.toNat : Int), .bool on] W fun d w' => d = .returned (.int .i64 (t.setO c on).1) ∧ RfOut W rb (N + 1) r.n (t.setO c on).2.cur w' := by
  unfold Tg.setO
  obtain ⟨p1, p2⟩ := seto_nf hf ⟨(optL t c on optA).toArray⟩
  have hq : optN r.o c on 6 = ⟨(optL t c on optA).toArray⟩ := by
    unfold optN optL
    have : optR r.o c on = optK t c on := by
      funext x
      unfold optR optK
      rw [hc.opt]
    rw [this]
    rfl
  refine (rSetOption_any h c on (Nat.le_trans hc.os (by decide))).mono ?_
  rintro d w' (⟨hk, rfl, rfl⟩ | ⟨hk, rfl, h1, h2⟩)
  · have hx : Lib.indexByte optA c < 0 := Classical.byContradiction fun hh => by rw [(known_ix c).2 hh] at hk; cases hk
    rw [if_pos hx]
    exact ⟨rfl, out_same h hc hb⟩
  · rw [if_neg ((known_ix c).1 hk), p1, p2]
    rw [hq] at h1
    exact ⟨rfl, _, h1, hc.seto _ (by rw [← hq]; exact optN_size _ _ _ _), hb.sm _ _ _, rfl, h2⟩
theorem a_argsN (h : RfA W rb r) (hc : Corr t.cur r) (hb : Bd N r) {A : Option Addr} {m c : Nat} {l : List ByteArray} (htx : Txs W A m c l) (hl : ∀ s ∈ l, s.size ≤ 1000000) (hno : 1000 < m ∨ greatL l = true) :
    Calls Tryz.prog 61 #[ptrV rb, .slice A m c] W fun d w' => d = .returned (.int .i64 (Tg.setArgsE m l)) ∧ RfOut W rb (N + 1) r.n t.cur w' := by
  unfold Tg.setArgsE
  by_cases hm : 1000 < m
  · rw [if_pos hm]
    exact (rSetArgs_many h hm).mono (by rintro d w' ⟨rfl, rfl⟩; exact ⟨rfl, out_same h hc hb⟩)
  · have hg : greatL l = true := hno.resolve_left hm
    rw [if_neg hm, if_pos hg]
    refine (rSetArgs_any h htx hm hl).mono ?_
    rintro d w' (⟨_, rfl, rfl⟩ | ⟨h0, _⟩)
    · exact ⟨rfl, out_same h hc hb⟩
    · rw [hg] at h0; cases h0
theorem a_args (h : RfA W rb r) (hc : Corr t.cur r) (hb : Bd N r) (hf : ¬ t.full) {A : Option Addr} {m c : Nat} {l : List ByteArray} (htx : Txs W A m c l) (hl : ∀ s ∈ l, s.size ≤ 1000000) (hm : ¬ 1000 < m) (hg : greatL l = false) (A2 : Option Addr) (c2 : Nat) :
    Calls Tryz.prog 61 #[ptrV rb, .slice A m c] W fun d w' => d = .returned (.int .i64 (t.setg ⟨A2, m, c2, 1, 0, l⟩).1) ∧ RfOut W rb (N + 1) r.n (t.setg ⟨A2, m, c2, 1, 0, l⟩).2.cur w' := by
  obtain ⟨p1, p2⟩ := setg_nf hf ⟨A2, m, c2, 1, 0, l⟩
  rw [p1, p2]
  refine (rSetArgs_any h htx hm hl).mono ?_
  rintro d w' (⟨h0, _⟩ | ⟨_, rfl, ⟨A', c', h1⟩, h2⟩)
  · rw [hg] at h0; cases h0
  · exact ⟨rfl, _, h1, hc.setg _ _ rfl rfl rfl rfl, hb.sm _ _ _, rfl, h2⟩
theorem a_shiftN (h : RfA W rb r) (hc : Corr t.cur r) (hb : Bd N r) (p : Int) (hno : p < 0 ∨ (t.cur.g.n : Int) < p) :
    Calls Tryz.prog 62 #[ptrV rb, .int .i64 p] W fun d w' => d = .returned (.int .i64 1) ∧ RfOut W rb (N + 1) r.n t.cur w' :=
  (rShift_no h p (by rw [hc.gn]; exact hno)).mono (by rintro d w' ⟨rfl, rfl⟩; exact ⟨rfl, out_same h hc hb⟩)
theorem a_shift (h : RfA W rb r) (hc : Corr t.cur r) (hb : Bd N r) (hf : ¬ t.full) (p : Int) (h0 : ¬ p < 0) (hm : ¬ (t.cur.g.n : Int) < p) (A2 : Option Addr) (c2 : Nat) :
    Calls Tryz.prog 62 #[ptrV rb, .int .i64 p] W fun d w' => d = .returned (.int .i64 (t.setg ⟨A2, t.cur.g.n - p.toNat, c2, t.cur.g.a, t.cur.g.i, t.cur.g.l.drop p.toNat⟩).1) ∧ RfOut W rb (N + 1) r.n (t.setg ⟨A2, t.cur.g.n - p.toNat, c2, t.cur.g.a, t.cur.g.i, t.cur.g.l.drop p.toNat⟩).2.cur w' := by
  obtain ⟨p1, p2⟩ := setg_nf hf ⟨A2, t.cur.g.n - p.toNat, c2, t.cur.g.a, t.cur.g.i, t.cur.g.l.drop p.toNat⟩
  rw [p1, p2]
  refine (rShift_ok h p h0 (by rw [hc.gn]; exact hm)).mono ?_
  rintro d w' ⟨rfl, ⟨A', c', h1⟩, h2⟩
  refine ⟨rfl, _, h1, hc.setg _ _ ?_ ?_ hc.ga hc.gi, hb.sm _ _ _, rfl, h2⟩
  · show r.g.l.drop p.toNat = t.cur.g.l.drop p.toNat
    rw [hc.gl]
  · show r.g.n - p.toNat = t.cur.g.n - p.toNat
    rw [hc.gn]
theorem a_cursor (h : RfA W rb r) (hc : Corr t.cur r) (hb : Bd N r) (hf : ¬ t.full) (p q : Int) :
    Calls Tryz.prog 63 #[ptrV rb, .int .i64 p, .int .i64 q] W fun d w' => d = .returned (.int .i64 (t.setC p q).1) ∧ RfOut W rb (N + 1) r.n (t.setC p q).2.cur w' := by
  unfold Tg.setC
  by_cases hpq : p < 0 ∨ q < 0
  · rw [if_pos hpq]
    exact (rSetCursor_no h p q hpq).mono (by rintro d w' ⟨rfl, rfl⟩; exact ⟨rfl, out_same h hc hb⟩)
  · rw [if_neg hpq]
    obtain ⟨p1, p2⟩ := setg_nf hf ⟨t.cur.g.A, t.cur.g.n, t.cur.g.c, p, q, t.cur.g.l⟩
    rw [p1, p2]
    exact (rSetCursor_ok h p q (fun e => hpq (.inl e)) (fun e => hpq (.inr e))).mono (by rintro d w' ⟨rfl, h1, h2⟩; exact ⟨rfl, _, h1, hc.setg _ _ hc.gl hc.gn rfl rfl, hb.sm _ _ _, rfl, h2⟩)
theorem a_status (h : RfA W rb r) (hc : Corr t.cur r) (hb : Bd N r) (q : Int) (hq : In64 q) :
    Calls Tryz.prog 64 #[ptrV rb, .int .i64 q] W fun d w' => d = .returned (.tuple #[]) ∧ RfOut W rb (N + 1) (q.tmod 256 % 256) t.cur w' :=
  (rSetStatus_any h q hq).mono (by rintro d w' ⟨rfl, h1, h2⟩; exact ⟨rfl, _, h1, ⟨hc.v, hc.f, hc.a, hc.t, hc.o, hc.os, hc.gl, hc.gn, hc.ga, hc.gi, hc.b⟩, hb.sm _ _ _, rfl, h2⟩)
end
end Go.Proofs.YtigmdfdcflkggaaGreat
