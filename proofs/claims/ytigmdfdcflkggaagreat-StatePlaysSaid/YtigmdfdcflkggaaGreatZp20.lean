/-
  How the notes grow with a call, and that their old values are bare. Conditions: names of traps.
-/
import Derived.Laws.Bits128
import Derived.BigQuiet
import Derived.Test.YtigmdfdcflkggaaGreatZp11
import Derived.Test.YtigmdfdcflkggaaGreatZp19
set_option linter.unusedSimpArgs false
set_option linter.unusedVariables false
namespace Go.Proofs.YtigmdfdcflkggaaGreat
open Go Go.RowKit Go.ChangeMaps

theorem i64_and255 (n : Int) : bits .and .i64 n 255 = n % 256 := by
  have h255 : (BitVec.ofInt 64 255).toNat = 2 ^ 8 - 1 := by decide
  have key : (BitVec.ofInt 64 n &&& BitVec.ofInt 64 255).toNat = (n % ((2 ^ 64 : Nat) : Int)).toNat % 2 ^ 8 := by
    rw [BitVec.toNat_and, BitVec.toNat_ofInt, h255, Nat.and_two_pow_sub_one_eq_mod]
  show IntKind.i64.wrap ((BitVec.ofInt 64 n &&& BitVec.ofInt 64 255).toNat : Nat) = n % 256
  rw [key, IntKind.wrap_i64]
  omega
/-- The status, as the program reckons it and as the document's answer does. -/
theorem status_same (n : Int) : bits .and .i64 n 255 = n.tmod 256 % 256 := by
  rw [i64_and255]
  by_cases h : n < 0
  · have e : n.tmod 256 = -((-n) % 256) := by
      rw [show n.tmod 256 = -((-n).tmod 256) by rw [Int.neg_tmod]; omega, Int.tmod_eq_emod_of_nonneg (by omega)]
    rw [e]
    omega
  · rw [Int.tmod_eq_emod_of_nonneg (by omega)]
    omega
section
variable {t t' t'' : Tg} {m m' : Nat}
/-- No more than m notes more; a variable's old value is one that it had. -/
def NG (m : Nat) (t t' : Tg) : Prop := t'.most = t.most ∧ t'.ns.length ≤ t.ns.length + m ∧ ∀ k x, Nt.v k (some x) ∈ t'.ns → Nt.v k (some x) ∈ t.ns ∨ t.cur.v k = some x
theorem NG.refl (m : Nat) (t : Tg) : NG m t t := ⟨rfl, Nat.le_add_right _ _, fun _ _ h => .inl h⟩
theorem NG.mono (h : NG m t t') (k : m ≤ m') : NG m' t t' := ⟨h.1, by have := h.2.1; omega, h.2.2⟩
theorem NG.trans (h : NG m t t') (hv : t'.cur.v = t.cur.v) (k : NG m' t' t'') : NG (m + m') t t'' := ⟨k.1.trans h.1, by have := h.2.1; have := k.2.1; omega, fun j x hj => by
  rcases k.2.2 j x hj with h1 | h1
  · exact h.2.2 j x h1
  · exact .inr (by rw [← hv]; exact h1)⟩
theorem NG.noted (t : Tg) (n : Nt) (st : Sta) (hn : ∀ k x, n = .v k (some x) → t.cur.v k = some x) : NG 1 t (t.noted n st) := by
  refine ⟨rfl, ?_, fun k x hk => ?_⟩
  · unfold Tg.noted; dsimp only; split
    · omega
    · rw [List.length_append]; exact Nat.le_refl _
  · unfold Tg.noted at hk; dsimp only at hk; split at hk
    · exact .inl hk
    · rcases List.mem_append.1 hk with hk | hk
      · exact .inl hk
      · exact .inr (hn k x (List.mem_singleton.1 hk).symm)
theorem BN.ng (h : BN t) (hb : ∀ k x, t.cur.v k = some x → bareV x = x) (k : NG m t t') : BN t' := fun j x hj => by
  rcases k.2.2 j x hj with h1 | h1
  · exact h j x h1
  · exact hb j x h1
theorem putv_ng (t : Tg) (k : ByteArray) (x : Vr) : NG 1 t (t.putv k x).2 := by
  unfold Tg.putv; split
  · exact NG.refl _ _
  · exact NG.noted t _ _ fun j y e => by rw [Nt.v.injEq] at e; rw [← e.1]; exact e.2
theorem delv_ng (t : Tg) (k : ByteArray) : NG 1 t (t.delv k).2 := by
  unfold Tg.delv; split
  · exact NG.refl _ _
  · split
    · exact NG.refl _ _
    · exact NG.noted t _ _ fun j y e => by rw [Nt.v.injEq] at e; rw [← e.1]; exact e.2
theorem putf_ng (t : Tg) (k : ByteArray) (x : Nd) : NG 1 t (t.putf k x).2 := by
  unfold Tg.putf; split
  · exact NG.refl _ _
  · exact NG.noted t _ _ fun j y e => by cases e
theorem delf_ng (t : Tg) (k : ByteArray) : NG 1 t (t.delf k).2 := by
  unfold Tg.delf; split
  · exact NG.refl _ _
  · split
    · exact NG.refl _ _
    · exact NG.noted t _ _ fun j y e => by cases e
theorem puta_ng (t : Tg) (k x : ByteArray) : NG 1 t (t.puta k x).2 := by
  unfold Tg.puta; split
  · exact NG.refl _ _
  · exact NG.noted t _ _ fun j y e => by cases e
theorem dela_ng (t : Tg) (k : ByteArray) : NG 1 t (t.dela k).2 := by
  unfold Tg.dela; split
  · exact NG.refl _ _
  · split
    · exact NG.refl _ _
    · exact NG.noted t _ _ fun j y e => by cases e
theorem putt_ng (t : Tg) (k x : ByteArray) : NG 1 t (t.putt k x).2 := by
  unfold Tg.putt; split
  · exact NG.refl _ _
  · exact NG.noted t _ _ fun j y e => by cases e
theorem delt_ng (t : Tg) (k : ByteArray) : NG 1 t (t.delt k).2 ∧ (t.delt k).2.cur.v = t.cur.v := by
  unfold Tg.delt; split
  · exact ⟨NG.refl _ _, rfl⟩
  · split
    · exact ⟨NG.refl _ _, rfl⟩
    · exact ⟨NG.noted t _ _ (fun j y e => by cases e), rfl⟩
theorem seto_ng (t : Tg) (x : ByteArray) : NG 1 t (t.seto x).2 := by
  unfold Tg.seto; split
  · exact NG.refl _ _
  · exact NG.noted t _ _ fun j y e => by cases e
theorem setg_ng (t : Tg) (x : Gv) : NG 1 t (t.setg x).2 := by
  unfold Tg.setg; split
  · exact NG.refl _ _
  · exact NG.noted t _ _ fun j y e => by cases e
theorem put_ng (t : Tg) (k : ByteArray) (x : Vr) : NG 1 t (t.put k x).2 := by
  unfold Tg.put; split
  · split
    · exact delv_ng t k
    · exact putv_ng t k _
  · exact NG.refl _ _
theorem enterL_ng (ns : List ByteArray) : ∀ t : Tg, NG ns.length t (enterL ns t).2 := by
  induction ns with
  | nil => exact fun t => NG.refl _ t
  | cons k ns ih =>
    intro t
    unfold enterL
    split
    · obtain ⟨h1, h2⟩ := delt_ng t k
      split
      · exact (h1.trans h2 (ih _)).mono (by simp only [List.length_cons]; omega)
      · exact h1.mono (by simp only [List.length_cons]; omega)
    · exact (ih t).mono (by simp only [List.length_cons]; omega)
theorem DoR.ng {o : Od} {K r : Int} (h : DoR o t K r t') (htr : TrapK t.cur) : NG 5 t t' := by
  cases h with
  | set =>
    unfold Tg.setV; split
    · split
      · exact NG.refl _ t
      · split
        · exact NG.refl _ t
        · exact (putv_ng ..).mono (by decide)
    · exact NG.refl _ t
  | unset =>
    unfold Tg.unsetV; split
    · split
      · exact NG.refl _ t
      · exact (delv_ng ..).mono (by decide)
    · exact NG.refl _ t
  | mark => exact (put_ng ..).mono (by decide)
  | setF =>
    unfold Tg.setF; split
    · exact (putf_ng ..).mono (by decide)
    · exact NG.refl _ t
  | unsetF =>
    unfold Tg.unsetF; split
    · split
      · exact (delf_ng ..).mono (by decide)
      · exact NG.refl _ t
    · exact NG.refl _ t
  | setA =>
    unfold Tg.setA; split
    · split
      · exact NG.refl _ t
      · exact (puta_ng ..).mono (by decide)
    · exact NG.refl _ t
  | unalias =>
    unfold Tg.unalias; split
    · exact (dela_ng ..).mono (by decide)
    · exact NG.refl _ t
  | setT =>
    unfold Tg.setT; split
    · split
      · exact NG.refl _ t
      · exact (putt_ng ..).mono (by decide)
    · exact NG.refl _ t
  | untrap =>
    unfold Tg.untrap; split
    · exact (delt_ng ..).1.mono (by decide)
    · exact NG.refl _ t
  | enter ns hns => exact (enterL_ng ns t).mono (traps_five htr hns)
  | opt _ _ =>
    unfold Tg.setO; split
    · exact NG.refl _ t
    · exact (seto_ng ..).mono (by decide)
  | argsN _ => exact NG.refl _ t
  | args _ _ _ _ => exact (setg_ng ..).mono (by decide)
  | shiftN _ => exact NG.refl _ t
  | shift _ _ _ _ => exact (setg_ng ..).mono (by decide)
  | cursor =>
    unfold Tg.setC; split
    · exact NG.refl _ t
    · exact (setg_ng ..).mono (by decide)
  | status => exact NG.refl _ t
  | open_ _ _ =>
    unfold Tg.mark; split
    · exact NG.refl _ t
    · exact ⟨rfl, Nat.le_add_right _ _, fun _ _ h => .inl h⟩
  | undo _ _ =>
    unfold Tg.undo; split
    · exact NG.refl _ t
    · rename_i p _
      refine ⟨rfl, ?_, fun k x hk => .inl (List.mem_of_mem_take hk)⟩
      show (t.ns.take p.1).length ≤ _
      rw [List.length_take]
      omega
end
end Go.Proofs.YtigmdfdcflkggaaGreat
/-
  Put of a state beside Put of the document's answer. Conditions: keys to 200 bytes, texts to 5000; a log with room.
-/
set_option linter.unusedSimpArgs false
set_option linter.unusedVariables false
namespace Go.Proofs.YtigmdfdcflkggaaGreat
open Go Go.RowKit Go.ChangeMaps

section
variable {w w' : World} {B sb rb N : Nat} {a : Ad} {pot : Nat} {t : Tg} {n : Int} {r : Rf}
theorem RfA.keepF (h : RfA w rb r) (k : FrD B w w') : RfA w' rb r := h.keepD k.keep
theorem blk_not {T : TypeId} {b : Nat} {cur : List Value} (hb : Blk w b cur T) (hT : T ≠ 76) (h : RfA w rb r) (k : Stp (fun b => b = rb) w w') : Blk w' b cur T := by
  obtain ⟨_, _, _, _, h⟩ := h
  exact hb.stp k (fun e => by
    subst e
    have e2 := h.blk.symm.trans hb
    simp only [Option.some.injEq, Obj.cells.injEq] at e2
    exact hT e2.2.1.symm)
theorem put_val (hf : ¬ t.full) (k : ByteArray) (x : Vr) (h0 : (t.put k x).1 = 0) : valV (t.put k x).2 k = bareV x := by
  unfold Tg.put at h0 ⊢
  split
  · split
    · rename_i hx
      obtain ⟨_, e⟩ := delv_nf hf k
      unfold valV
      rw [e, hx]
      show (updF t.cur.v k none k).getD noV = noV
      unfold updF
      rw [if_pos rfl]
      rfl
    · obtain ⟨_, e⟩ := putv_nf hf k (bareV x)
      unfold valV
      rw [e]
      show (updF t.cur.v k (some (bareV x)) k).getD noV = _
      unfold updF
      rw [if_pos rfl]
      rfl
  · rename_i hn
    rw [if_neg hn] at h0
    exact absurd (show (16 : Int) = 0 from h0) (by decide)
/-- What is to be put. -/
def putX (s : ByteArray) (q : Int) : Vr := ⟨s, q % 2 == 0, q % 3 == 0, q % 5 == 0⟩
theorem put_BN (hb : BN t) (hc : Corr t.cur r) (k : ByteArray) (x : Vr) : BN (t.put k x).2 := by
  have hn : ∀ st, BN (t.noted (.v k (t.cur.v k)) st) := fun st j y hj => by
    unfold Tg.noted at hj
    dsimp only at hj
    split at hj
    · exact hb j y hj
    · rcases List.mem_append.1 hj with hj | hj
      · exact hb j y hj
      · have e := List.mem_singleton.1 hj
        rw [Nt.v.injEq] at e
        exact hc.b k y e.2.symm
  unfold Tg.put
  split
  · split
    · unfold Tg.delv
      split
      · exact hb
      · rename_i e
        split
        · exact hb
        · exact hn _
    · unfold Tg.putv
      split
      · exact hb
      · exact hn _
  · exact hb
theorem RfA.keepY {y : Nat} {cur : List Value} (h : RfA w rb r) (hy : Blk w y cur 59) (k : Stp (fun b => b = y) w w') : RfA w' rb r := by
  obtain ⟨sv, sf, sa, st, h⟩ := h
  have ty : ∀ (g : Nat) c T, Blk w g c T → T ≠ 59 → Blk w' g c T := fun g c T hb h1 => hb.stp k (fun e => by
    subst e
    have e2 := hy.symm.trans hb
    simp only [Option.some.injEq, Obj.cells.injEq] at e2
    exact h1 e2.2.1.symm)
  exact ⟨sv, sf, sa, st, h.all (fun g cur T hb hT => ty g cur T hb (by rcases hT with rfl | rfl | rfl | rfl <;> decide)) (fun hb => ty _ _ _ hb (by decide))⟩
/-- What is changed by a call on a state and one on an answer, as seen from before. -/
structure FrG (B rb : Nat) (w w' : World) : Prop where
  size : w.heap.size ≤ w'.heap.size
  same : w'.os = w.os ∧ w'.tape = w.tape ∧ w'.output = w.output
  low : ∀ b, b < B → w'.heap[b]? = w.heap[b]?
  keep : ∀ b cur T, Blk w b cur T → ¬ PkT T → T ≠ 110 → b ≠ rb → Blk w' b cur T
theorem FrG.of (hF : FrD B w w') (hB : B ≤ w.heap.size) {w4 w5 : World} (hB2 : B ≤ rb) (k : Stp (fun b => b = rb) w' w4) {y : Nat} (hy : w.heap.size ≤ y) (k2 : Stp (fun b => b = y) w4 w5) : FrG B rb w w5 :=
  ⟨Nat.le_trans hF.below.size (Nat.le_trans k.size k2.size), ⟨k2.os.trans (k.os.trans hF.below.os), k2.tape.trans (k.tape.trans hF.below.tape), k2.output.trans (k.output.trans hF.below.output)⟩,
    fun b hb => by
      have h1 := hF.below.size
      have h2 := k.size
      exact (k2.block b (by omega) (by omega)).trans ((k.block b (by omega) (by omega)).trans (hF.below.block b hb)),
    fun b cur T hb h1 h2 h3 => by
      have hl := hb.lt
      exact ((hF.keep b cur T hb h1 h2).stp k h3).stp k2 (by omega)⟩
theorem FrG.below {w'' : World} (h : FrG B rb w w') (k : Below w'.heap.size w' w'') (hB : B ≤ w.heap.size) : FrG B rb w w'' :=
  ⟨Nat.le_trans h.size k.size, ⟨k.os.trans h.same.1, k.tape.trans h.same.2.1, k.output.trans h.same.2.2⟩, fun b hb => by
    have := h.size
    exact (k.block b (by omega)).trans (h.low b hb), fun b cur T hb h1 h2 h3 => by
    have := h.keep b cur T hb h1 h2 h3
    exact (k.block b this.lt).trans this⟩
theorem puts_fin {w5 w6 : World} {r' : Rf} (hS : StAt w5 B sb a pot t n) (o1 : RfA w5 rb r') (hG : FrG B rb w w5) (hB : B ≤ w.heap.size) (hb : Below w5.heap.size w5 w6) : StAt w6 B sb a pot t n ∧ RfA w6 rb r' ∧ FrG B rb w w6 := ⟨hS.below hb, o1.below hb, hG.below hb hB⟩
set_option maxRecDepth 100000 in
theorem puts_low (x : Int) (k s : ByteArray) (q : Int) (A : Option Addr) (m c : Nat) (hq : q ≤ 100) :
    Calls Tryz.prog 12 #[ptrV sb, ptrV rb, .agg #[.int .i64 x, .string k, .string s, .int .i64 q, .slice A m c]] w fun e w' => e = .returned (.bool true) ∧ Below w.heap.size w w' := by
  obtain ⟨z, hz⟩ : ∃ z, w.heap.size = z := ⟨_, rfl⟩
  have bC : Blk (w.alloc (.cells #[.int .i64 x, .string k, .string s, .int .i64 q, .slice A m c] 39)) z [.int .i64 x, .string k, .string s, .int .i64 q, .slice A m c] 39 := by rw [← hz]; exact Blk.new w _ _
  have hb : Below w.heap.size w (w.alloc (.cells #[.int .i64 x, .string k, .string s, .int .i64 q, .slice A m c] 39)) := Below.of_alloc w _
  replace hb := Lib.hid hb
  replace bC := Lib.hid bC
  replace hz := Lib.hid hz
  unfold ptrV
  go_enter Tryz.func12, Tryz.ntmps12
  go_upto_region 1 with fail
  try rw [hz.out]
  generalize (w.alloc (.cells #[.int .i64 x, .string k, .string s, .int .i64 q, .slice A m c] 39)) = w1 at bC hb ⊢
  have e3 := bC.out.cell (i := 3) rfl
  have lz := bC.out.lt
  go_wp2
  go_ret
  exact ⟨rfl, hb.out⟩
set_option maxRecDepth 100000 in
set_option maxHeartbeats 8000000 in
theorem puts_any (h : StAt w B sb a pot t n) (hbn : BN t) (hr : RfA w rb r) (hlo : B ≤ rb) (hc : Corr t.cur r) (hbd : Bd N r) (hN : N ≤ 80000) (hf : ¬ t.full) (x : Int) (k s : ByteArray) (q : Int) (A : Option Addr) (m c : Nat) (hn : In64 q) (hq : ¬ q ≤ 100) (hk : k.size ≤ 200) (hs : s.size ≤ 5000) :
    Calls Tryz.prog 12 #[ptrV sb, ptrV rb, .agg #[.int .i64 x, .string k, .string s, .int .i64 q, .slice A m c]] w fun e w' => e = .returned (.bool true) ∧ StAt w' B sb a (pot + 2) (t.put k (putX s q)).2 n ∧ (∃ r', RfA w' rb r' ∧ Corr (t.put k (putX s q)).2.cur r' ∧ Bd (N + 1) r' ∧ r'.n = r.n) ∧ FrG B rb w w' := by
  obtain ⟨z, hz⟩ : ∃ z, w.heap.size = z := ⟨_, rfl⟩
  have bC : Blk (w.alloc (.cells #[.int .i64 x, .string k, .string s, .int .i64 q, .slice A m c] 39)) z [.int .i64 x, .string k, .string s, .int .i64 q, .slice A m c] 39 := by rw [← hz]; exact Blk.new w _ _
  have hb : Below w.heap.size w (w.alloc (.cells #[.int .i64 x, .string k, .string s, .int .i64 q, .slice A m c] 39)) := Below.of_alloc w _
  unfold In64 at hn
  obtain ⟨X, hX⟩ : ∃ X, putX s q = X := ⟨_, rfl⟩
  rw [hX]
  obtain ⟨b1, hb1⟩ : ∃ b, (q % 2 == 0) = b := ⟨_, rfl⟩
  obtain ⟨b2, hb2⟩ : ∃ b, (q % 3 == 0) = b := ⟨_, rfl⟩
  obtain ⟨b3, hb3⟩ : ∃ b, (q % 5 == 0) = b := ⟨_, rfl⟩
  have hX2 : X = ⟨s, b1, b2, b3⟩ := by rw [← hX, ← hb1, ← hb2, ← hb3]; rfl
  clear hX
  replace h := Lib.hid h
  replace hr := Lib.hid hr
  have hbn2 := Lib.hid (put_BN hbn hc k X)
  clear hbn
  replace hc := Lib.hid hc
  replace hbd := Lib.hid hbd
  replace hb := Lib.hid hb
  replace bC := Lib.hid bC
  replace hz := Lib.hid hz
  replace hX2 := Lib.hid hX2
  unfold ptrV
  go_enter Tryz.func12, Tryz.ntmps12
  go_upto_region 1 with fail
  try rw [hz.out]
  generalize (w.alloc (.cells #[.int .i64 x, .string k, .string s, .int .i64 q, .slice A m c] 39)) = w1 at bC hb ⊢
  have e1 := bC.out.cell (i := 1) rfl
  have e2 := bC.out.cell (i := 2) rfl
  have e3 := bC.out.cell (i := 3) rfl
  have lz := bC.out.lt
  go_upto_region 4 with fail
  obtain ⟨y, hy⟩ : ∃ y, w1.heap.size = y := ⟨_, rfl⟩
  have hyz : z < y := by omega
  have bV : Blk (w1.alloc (.cells #[.string s, .bool b1, .bool b2, .bool b3] 59)) y [.string s, .bool b1, .bool b2, .bool b3] 59 := by rw [← hy]; exact Blk.new w1 _ _
  have hbV : Below w1.heap.size w1 (w1.alloc (.cells #[.string s, .bool b1, .bool b2, .bool b3] 59)) := Below.of_alloc w1 _
  have bD := (hbV.block z lz).trans bC.out
  have hbD := hb.out.trans (hbV.mono hb.out.size)
  try rw [hy]
  clear e1 e2 e3 lz bC hb hbV hy
  generalize (w1.alloc (.cells #[.string s, .bool b1, .bool b2, .bool b3] 59)) = w2 at bV bD hbD ⊢
  have hS := h.out.below hbD
  have hF := FrD.of_below hbD h.out.hBw
  have hR := hr.out.below hbD
  have hput : Calls Tryz.prog 39 #[ptrV sb, .string k, .agg #[.string s, .bool b1, .bool b2, .bool b3]] w2 fun e w' => e = .returned (.int .i64 (t.put k ⟨s, b1, b2, b3⟩).1) ∧ StAt w' B sb a (pot + 2) (t.put k ⟨s, b1, b2, b3⟩).2 n ∧ FrT B a w2 w' := Put_any hS k hk ⟨s, b1, b2, b3⟩ hs
  have hlow := h.out.hBw
  unfold ptrV at hput
  obtain ⟨E, hE⟩ : ∃ E, (t.put k X).1 = E := ⟨_, rfl⟩
  rw [← hX2.out, hE] at hput
  replace hE := Lib.hid hE
  have e1 : w2.cell? ⟨z, 1, none⟩ = some (.string k) := Blk.cell (i := 1) bD rfl
  have v0 : w2.cell? ⟨y, 0, none⟩ = some (.string s) := bV.cell (i := 0) rfl
  have v1 : w2.cell? ⟨y, 1, none⟩ = some (.bool b1) := bV.cell (i := 1) rfl
  have v2 : w2.cell? ⟨y, 2, none⟩ = some (.bool b2) := bV.cell (i := 2) rfl
  have v3 : w2.cell? ⟨y, 3, none⟩ = some (.bool b3) := bV.cell (i := 3) rfl
  have lz := Blk.lt bD
  have ly := bV.lt
  replace bV := Lib.hid bV
  replace bD := Lib.hid bD
  replace hS := Lib.hid hS
  replace hF := Lib.hid hF
  replace hR := Lib.hid hR
  clear hbD h hr
  go_wp2_with fail
  refine hput.mono ?_
  rintro e w3 ⟨rfl, q1, q2⟩
  clear e1 v0 v1 v2 v3 lz ly
  have hF3 := hF.out.trans (hS.out.frD q2)
  have hfD := hS.out.frD q2
  have bV3 := hfD.keep _ _ _ bV.out (nPk (by decide)) (by decide)
  have bD3 := hfD.keep _ _ _ bD.out (nPk (by decide)) (by decide)
  have hR3 := hR.out.keepF hfD
  have hrp : Calls Tryz.prog 40 #[ptrV rb, .string k, .agg #[.string ⟨#[]⟩, .string s, .bool b1, .bool b2, .bool b3]] w3 fun d w' => d = .returned (.int .i64 (t.put k ⟨s, b1, b2, b3⟩).1) ∧ RfOut w3 rb (N + 1) r.n (t.put k ⟨s, b1, b2, b3⟩).2.cur w' := a_put hR3 hc.out hbd.out hN hf k ⟨#[]⟩ ⟨s, b1, b2, b3⟩ (by omega)
  unfold ptrV at hrp
  rw [← hX2.out, hE.out] at hrp
  have hval := put_val hf k X
  rw [hE.out] at hval
  have e1 : w3.cell? ⟨z, 1, none⟩ = some (.string k) := bD3.cell (i := 1) rfl
  have v0 : w3.cell? ⟨y, 0, none⟩ = some (.string s) := bV3.cell (i := 0) rfl
  have v1 : w3.cell? ⟨y, 1, none⟩ = some (.bool b1) := bV3.cell (i := 1) rfl
  have v2 : w3.cell? ⟨y, 2, none⟩ = some (.bool b2) := bV3.cell (i := 2) rfl
  have v3 : w3.cell? ⟨y, 3, none⟩ = some (.bool b3) := bV3.cell (i := 3) rfl
  have lz := bD3.lt
  have ly := bV3.lt
  replace hrp := Lib.hid hrp
  replace bV3 := Lib.hid bV3
  replace bD3 := Lib.hid bD3
  replace hR3 := Lib.hid hR3
  replace hF3 := Lib.hid hF3
  replace q1 := Lib.hid q1
  replace hval := Lib.hid hval
  clear hput q2 hfD hF hS hR bV bD hb1 hb2 hb3 hn hq
  go_wp2_with fail
  refine hrp.out.mono ?_
  rintro e w4 ⟨rfl, ho⟩
  have bV4 := blk_not bV3.out (by decide) hR3.out ho.stp
  have bD4 := blk_not bD3.out (by decide) hR3.out ho.stp
  have hfq : FrQ w3 w4 := FrQ.of_stp ho.stp (fun b e _ => by
    obtain ⟨_, _, _, _, hh⟩ := hR3.out
    exact ⟨_, _, e ▸ hh.blk, .inl rfl⟩)
  have hS4 := q1.out.stpR hfq
  have hyw : w.heap.size ≤ y := by have := hz.out; omega
  have hG4 : ∀ w5, Stp (fun b => b = y) w4 w5 → FrG B rb w w5 := fun w5 k5 => FrG.of hF3.out hlow hlo ho.stp hyw k5
  obtain ⟨r', o1, o2, o3, o4, _⟩ := ho
  have hout := Lib.hid (And.intro o2 (And.intro o3 o4))
  replace o1 := Lib.hid o1
  clear o2 o3 o4 hfq e1 v0 v1 v2 v3 lz ly bV3 bD3 hR3 hF3 q1 hrp
  cases b1 with
  | true =>
    have e1 : w4.cell? ⟨z, 1, none⟩ = some (.string k) := bD4.cell (i := 1) rfl
    have v1 : w4.cell? ⟨y, 1, none⟩ = some (.bool true) := bV4.cell (i := 1) rfl
    have lz := bD4.lt
    have ly := bV4.lt
    have hSX := Lib.hid hS4
    have hGX := Lib.hid (hG4 w4 (Stp.refl _ _))
    have bVX := Lib.hid bV4
    have bDX := Lib.hid bD4
    have o1X := o1
    clear hS4 hG4 bV4 bD4 o1 hbn2
    go_upto_region 8 with fail
    clear e1 v1 lz ly
    have hb1 := drewN_below w4 1
    have hk0 : w4.drew.cell? ⟨z, 1, none⟩ = some (.string k) ∧ w4.drew.cell? ⟨y, 0, none⟩ = some (.string s) ∧ w4.drew.cell? ⟨y, 1, none⟩ = some (.bool true) ∧ w4.drew.cell? ⟨y, 2, none⟩ = some (.bool b2) ∧ w4.drew.cell? ⟨y, 3, none⟩ = some (.bool b3) := ⟨bDX.out.cell (i := 1) rfl, bVX.out.cell (i := 0) rfl, bVX.out.cell (i := 1) rfl, bVX.out.cell (i := 2) rfl, bVX.out.cell (i := 3) rfl⟩
    have lz : z < w4.drew.heap.size := bDX.out.lt
    have ly : y < w4.drew.heap.size := bVX.out.lt
    have hSd := hSX.out.below hb1
    have hvar0 := Var_any hSd k
    by_cases hE0 : E = 0
    · subst hE0
      have hv := hval.out rfl
      rw [hv, hX2.out] at hvar0
      have hvar : Calls Tryz.prog 28 #[ptrV sb, .string k] w4.drew fun e w' => e = .returned (.agg #[.string s, .bool true, .bool b2, .bool b3]) ∧ Below w4.drew.heap.size w4.drew w' := hvar0
      unfold ptrV at hvar
      have hfn := fun W (hb : Below w4.drew.heap.size w4.drew W) => puts_fin hSd (o1X.out.below hb1) (hGX.out.below hb1 hlow) hlow hb
      have hkk : ∀ W, Below w4.drew.heap.size w4.drew W → W.cell? ⟨z, 1, none⟩ = some (.string k) ∧ W.cell? ⟨y, 0, none⟩ = some (.string s) ∧ W.cell? ⟨y, 1, none⟩ = some (.bool true) ∧ W.cell? ⟨y, 2, none⟩ = some (.bool b2) ∧ W.cell? ⟨y, 3, none⟩ = some (.bool b3) := fun W hb => by
        have c1 : Blk W z _ _ := (hb.block z lz).trans bDX.out
        have c2 : Blk W y _ _ := (hb.block y ly).trans bVX.out
        exact ⟨c1.cell (i := 1) rfl, c2.cell (i := 0) rfl, c2.cell (i := 1) rfl, c2.cell (i := 2) rfl, c2.cell (i := 3) rfl⟩
      replace hfn := Lib.hid hfn
      replace hkk := Lib.hid hkk
      clear hSd hvar0 hv hSX bDX bVX o1X hGX hb1 hval hE
      go_region_held3 (fun w' => w'.cell? ⟨z, 1, none⟩ = some (.string k) ∧ w'.cell? ⟨y, 0, none⟩ = some (.string s) ∧ w'.cell? ⟨y, 1, none⟩ = some (.bool true) ∧ w'.cell? ⟨y, 2, none⟩ = some (.bool b2) ∧ w'.cell? ⟨y, 3, none⟩ = some (.bool b3))
        (first | go_keep | exact hk0 | exact hk2)
        ((go_at_call 28; refine hvar.mono ?_; rintro e w6 ⟨rfl, hb6⟩; have hk2 := hkk.out w6 hb6; have hfin := Lib.hid (hfn.out w6 hb6); clear hb6))
      clear hk0 hk2 hvar lz ly hfn hkk
      go_wp2
      go_ret
      exact ⟨rfl, hfin.out.1, ⟨r', hfin.out.2.1, hout.out.1, hout.out.2.1, hout.out.2.2⟩, hfin.out.2.2⟩
    · have hE1 : (E != 0) = true := bne_iff_ne.2 hE0
      have hfin := Lib.hid (fun nq => puts_fin hSX.out o1X.out hGX.out hlow (drewN_below w4 nq))
      have hEe : (E == E) = true := beq_self_eq_true E
      clear hSd hvar0 hSX bDX bVX o1X hGX hb1 hval hE hE0
      go_quiet (fail)
      clear hk0 lz ly hE1 hEe
      go_wp2
      go_ret
      exact ⟨rfl, (hfin.out _).1, ⟨r', (hfin.out _).2.1, hout.out.1, hout.out.2.1, hout.out.2.2⟩, (hfin.out _).2.2⟩
  | false =>
    have e1 : w4.cell? ⟨z, 1, none⟩ = some (.string k) := bD4.cell (i := 1) rfl
    have v0 : w4.cell? ⟨y, 0, none⟩ = some (.string s) := bV4.cell (i := 0) rfl
    have v1 : w4.cell? ⟨y, 1, none⟩ = some (.bool false) := bV4.cell (i := 1) rfl
    have fv0 := bV4.frozen 0
    have lz := bD4.lt
    have ly := bV4.lt
    have st5 : Stp (fun b => b = y) w4 (w4.setCell ⟨y, 0, none⟩ (.string ⟨#[]⟩)) := Stp.set (S := fun b => b = y) rfl 0 _
    have bV5 : Blk (w4.setCell ⟨y, 0, none⟩ (.string ⟨#[]⟩)) y [.string ⟨#[]⟩, .bool false, .bool b2, .bool b3] 59 := bV4.set 0 _
    have hSX := Lib.hid (hS4.blank hbn2.out bV4 st5 bV5)
    have hGX := Lib.hid (hG4 _ st5)
    have bVX := Lib.hid bV5
    have bDX := Lib.hid (bD4.stp st5 (by omega))
    have o1X := Lib.hid (o1.out.keepY bV4 st5)
    clear hS4 hG4 bV4 bD4 o1 hbn2 st5 bV5
    go_upto_region 8 with fail
    clear e1 v0 v1 lz ly fv0
    generalize w4.setCell ⟨y, 0, none⟩ (.string ⟨#[]⟩) = w5 at hSX hGX bVX bDX o1X ⊢
    have hb1 := drewN_below w5 1
    have hk0 : w5.drew.cell? ⟨z, 1, none⟩ = some (.string k) ∧ w5.drew.cell? ⟨y, 0, none⟩ = some (.string ⟨#[]⟩) ∧ w5.drew.cell? ⟨y, 1, none⟩ = some (.bool false) ∧ w5.drew.cell? ⟨y, 2, none⟩ = some (.bool b2) ∧ w5.drew.cell? ⟨y, 3, none⟩ = some (.bool b3) := ⟨bDX.out.cell (i := 1) rfl, bVX.out.cell (i := 0) rfl, bVX.out.cell (i := 1) rfl, bVX.out.cell (i := 2) rfl, bVX.out.cell (i := 3) rfl⟩
    have lz : z < w5.drew.heap.size := bDX.out.lt
    have ly : y < w5.drew.heap.size := bVX.out.lt
    have hSd := hSX.out.below hb1
    have hvar0 := Var_any hSd k
    by_cases hE0 : E = 0
    · subst hE0
      have hv := hval.out rfl
      rw [hv, hX2.out] at hvar0
      have hvar : Calls Tryz.prog 28 #[ptrV sb, .string k] w5.drew fun e w' => e = .returned (.agg #[.string ⟨#[]⟩, .bool false, .bool b2, .bool b3]) ∧ Below w5.drew.heap.size w5.drew w' := hvar0
      unfold ptrV at hvar
      have hfn := fun W (hb : Below w5.drew.heap.size w5.drew W) => puts_fin hSd (o1X.out.below hb1) (hGX.out.below hb1 hlow) hlow hb
      have hkk : ∀ W, Below w5.drew.heap.size w5.drew W → W.cell? ⟨z, 1, none⟩ = some (.string k) ∧ W.cell? ⟨y, 0, none⟩ = some (.string ⟨#[]⟩) ∧ W.cell? ⟨y, 1, none⟩ = some (.bool false) ∧ W.cell? ⟨y, 2, none⟩ = some (.bool b2) ∧ W.cell? ⟨y, 3, none⟩ = some (.bool b3) := fun W hb => by
        have c1 : Blk W z _ _ := (hb.block z lz).trans bDX.out
        have c2 : Blk W y _ _ := (hb.block y ly).trans bVX.out
        exact ⟨c1.cell (i := 1) rfl, c2.cell (i := 0) rfl, c2.cell (i := 1) rfl, c2.cell (i := 2) rfl, c2.cell (i := 3) rfl⟩
      replace hfn := Lib.hid hfn
      replace hkk := Lib.hid hkk
      clear hSd hvar0 hv hSX bDX bVX o1X hGX hb1 hval hE
      go_region_held3 (fun w' => w'.cell? ⟨z, 1, none⟩ = some (.string k) ∧ w'.cell? ⟨y, 0, none⟩ = some (.string ⟨#[]⟩) ∧ w'.cell? ⟨y, 1, none⟩ = some (.bool false) ∧ w'.cell? ⟨y, 2, none⟩ = some (.bool b2) ∧ w'.cell? ⟨y, 3, none⟩ = some (.bool b3))
        (first | go_keep | exact hk0 | exact hk2)
        ((go_at_call 28; refine hvar.mono ?_; rintro e w6 ⟨rfl, hb6⟩; have hk2 := hkk.out w6 hb6; have hfin := Lib.hid (hfn.out w6 hb6); clear hb6))
      clear hk0 hk2 hvar lz ly hfn hkk
      go_wp2
      go_ret
      exact ⟨rfl, hfin.out.1, ⟨r', hfin.out.2.1, hout.out.1, hout.out.2.1, hout.out.2.2⟩, hfin.out.2.2⟩
    · have hE1 : (E != 0) = true := bne_iff_ne.2 hE0
      have hfin := Lib.hid (fun nq => puts_fin hSX.out o1X.out hGX.out hlow (drewN_below w5 nq))
      have hEe : (E == E) = true := beq_self_eq_true E
      clear hSd hvar0 hSX bDX bVX o1X hGX hb1 hval hE hE0
      go_quiet (fail)
      clear hk0 lz ly hE1 hEe
      go_wp2
      go_ret
      exact ⟨rfl, (hfin.out _).1, ⟨r', (hfin.out _).2.1, hout.out.1, hout.out.2.1, hout.out.2.2⟩, (hfin.out _).2.2⟩
end
end Go.Proofs.YtigmdfdcflkggaaGreat
/-
  What a state tells and what the document's answer has, in order. Conditions: none.
-/
set_option linter.unusedSimpArgs false
set_option linter.unusedVariables false
namespace Go.Proofs.YtigmdfdcflkggaaGreat
open Go Go.RowKit Go.ChangeMaps

theorem names_rising {α : Type} {f : ByteArray → Option α} {L : Es α} (h : CanonG f L) : names L = L.map Prod.fst := by
  have hs : (L.map fun p => bytesOf p.1).Pairwise (fun x y => decide (x ≤ y) = true) := List.pairwise_map.2 (h.rising.imp fun {a b} hab => decide_eq_true (List.le_of_lt hab))
  unfold names keysL
  rw [List.mergeSort_of_pairwise hs, List.map_map]
  refine List.map_congr_left fun p _ => ?_
  exact bytesOf_inj rfl
theorem KeysOf.canon {α : Type} {f : ByteArray → Option α} {L : Es α} {ns : List ByteArray} (k : KeysOf f ns) (h : CanonG f L) : ns = L.map Prod.fst := by
  rw [← names_rising h]
  exact k.unique ⟨L, h.apart, h.has, rfl⟩
section
variable {t : Tg} {r : Rf}
theorem val_at (h : Corr t.cur r) {p : ByteArray × Vr} (hp : p ∈ r.v) : valV t p.1 = p.2 := by
  rw [← h.fnd]
  unfold fndV
  rw [look_of_mem h.v.apart (show (p.1, p.2) ∈ r.v from hp)]
  rfl
theorem ali_at (h : Corr t.cur r) {p : ByteArray × ByteArray} (hp : p ∈ r.a) : t.cur.a p.1 = some p.2 := by
  rw [← h.a.has]
  exact look_of_mem h.a.apart (show (p.1, p.2) ∈ r.a from hp)
theorem env_same (h : Corr t.cur r) {vs : List ByteArray} (k : KeysOf t.cur.v vs) : envL t vs = envR r.v := by
  rw [k.canon h.v]
  have : ∀ l : Es Vr, (∀ p ∈ l, valV t p.1 = p.2) → envL t (l.map Prod.fst) = envR l := by
    intro l
    induction l with
    | nil => intro _; rfl
    | cons p l ih =>
      intro hl
      have e := hl p (List.mem_cons_self ..)
      have ih2 := ih fun q hq => hl q (List.mem_cons_of_mem _ hq)
      show envL t (p.1 :: l.map Prod.fst) = envOne p ++ envR l
      rw [← ih2]
      unfold envL envOne
      rw [List.filter_cons, e]
      cases p.2.e with
      | false => rfl
      | true =>
        cases p.2.s with
        | false => rfl
        | true =>
          show envT t p.1 :: _ = _
          unfold envT
          rw [e]
          rfl
  exact this r.v fun p hp => val_at h hp
end
end Go.Proofs.YtigmdfdcflkggaaGreat
/-
  Same: a state beside the document's answer. Conditions: what they know is the same; fewer than ninety thousand names.
-/
set_option linter.unusedSimpArgs false
set_option linter.unusedVariables false
namespace Go.Proofs.YtigmdfdcflkggaaGreat
open Go Go.RowKit Go.ChangeMaps

section
variable {w w' : World} {B sb rb N : Nat} {a : Ad} {pot : Nat} {t : Tg} {n : Int} {r : Rf}
theorem sizes_v (h : StAt w B sb a pot t n) (hc : Corr t.cur r) : ∀ p ∈ r.v, p.1.size ≤ 200 ∧ p.2.v.size ≤ 5000 := fun p hp => by
  have e := look_of_mem hc.v.apart (show (p.1, p.2) ∈ r.v from hp)
  rw [hc.v.has] at e
  exact h.th.good.kb.v p.1 p.2 e
theorem gv_txs {W : World} {g : Gv} (hg : GvAt W g) : Txs W g.A g.n g.c g.l := ⟨hg.1, hg.2.1, hg.2.2.1, fun hn => by
  obtain ⟨b, off, cur, e1, e2, e3⟩ := hg.2.2.2 hn
  exact ⟨b, off, e1, e2.lt, fun j x hj => e2.cell (e3 j x hj)⟩⟩
set_option maxRecDepth 100000 in
set_option maxHeartbeats 8000000 in
theorem Same_any (h : StAt w B sb a pot t n) (hr : RfA w rb r) (hc : Corr t.cur r) (hrn : r.n = n) (hp : pot ≤ 100000) (hbd : Bd N r) (hN : N ≤ 80000) (hga : t.cur.g.n ≤ 1000) {A : Option Addr} {m c : Nat} {l : List ByteArray} (htx : Txs w A m c l) (hm : m ≤ 100000) (hl : ∀ s ∈ l, s.size ≤ 1000000) :
    Calls Tryz.prog 15 #[ptrV sb, ptrV rb, .slice A m c] w fun e w' => e = .returned (.bool true) ∧ Below w.heap.size w w' := by
  have hsz := sizes_v h hc
  have hH := fun (W : World) (hb : Below w.heap.size w W) => h.below hb
  have hR := fun (W : World) (hb : Below w.heap.size w W) => hr.below hb
  have hcu := Cursor_any h
  obtain ⟨vs, hkv, hvl, _⟩ := Names_any h hp
  obtain ⟨al, hka, hal, _⟩ := Aliases_any h hp
  have hnam := fun (W : World) (hb : Below w.heap.size w W) => (show Calls Tryz.prog 68 #[ptrV sb] W fun e w' => ∃ A' c', e = .returned (.slice A' r.v.length c') ∧ w'.ownsRow W.heap.size 9 1 (.slice A' r.v.length c') r.v.length ((r.v.map Prod.fst).map .string) ∧ Below W.heap.size W w' by
    obtain ⟨vs', k1, _, hcl⟩ := Names_any (hH W hb) hp
    rw [k1.canon hc.v, List.length_map] at hcl
    refine hcl.mono ?_
    rintro e w' ⟨v, rfl, h1, h2⟩
    obtain ⟨A', c', rfl, _, _⟩ := own_form h1
    exact ⟨A', c', rfl, h1, h2⟩)
  have hali := fun (W : World) (hb : Below w.heap.size w W) => (show Calls Tryz.prog 69 #[ptrV sb] W fun e w' => ∃ A' c', e = .returned (.slice A' r.a.length c') ∧ w'.ownsRow W.heap.size 9 1 (.slice A' r.a.length c') r.a.length ((r.a.map Prod.fst).map .string) ∧ Below W.heap.size W w' by
    obtain ⟨vs', k1, _, hcl⟩ := Aliases_any (hH W hb) hp
    rw [k1.canon hc.a, List.length_map] at hcl
    refine hcl.mono ?_
    rintro e w' ⟨v, rfl, h1, h2⟩
    obtain ⟨A', c', rfl, _, _⟩ := own_form h1
    exact ⟨A', c', rfl, h1, h2⟩)
  have henv := fun (W : World) (hb : Below w.heap.size w W) => (show Calls Tryz.prog 31 #[ptrV sb] W fun e w' => ∃ A' c', e = .returned (.slice A' (envR r.v).length c') ∧ Txs w' A' (envR r.v).length c' (envR r.v) ∧ Below W.heap.size W w' by
    obtain ⟨vs', k1, hcl⟩ := Environ_any (hH W hb) hp
    rw [env_same hc k1] at hcl
    refine hcl.mono ?_
    rintro e w' ⟨v, rfl, h1, h2⟩
    obtain ⟨A', c', rfl, ht⟩ := txs_of_own rfl h1
    exact ⟨A', c', rfl, ht, h2⟩)
  have hrenv := fun (W : World) (hb : Below w.heap.size w W) => (show Calls Tryz.prog 66 #[ptrV rb] W fun e w' => ∃ A' c', e = .returned (.slice A' (envR r.v).length c') ∧ Txs w' A' (envR r.v).length c' (envR r.v) ∧ Below W.heap.size W w' by
    refine (rEnviron_any (hR W hb) (Nat.le_trans hbd.v (by omega)) hsz).mono ?_
    rintro e w' ⟨A', c', rfl, h1, h2⟩
    exact ⟨A', c', rfl, own_txs rfl h1, h2⟩)
  have hargs := fun (W : World) (hb : Below w.heap.size w W) => (show Calls Tryz.prog 34 #[ptrV sb] W fun e w' => ∃ A' c', e = .returned (.slice A' r.g.n c') ∧ Txs w' A' r.g.n c' r.g.l ∧ Below W.heap.size W w' by
    refine (Args_any (hH W hb) (show t.cur.g.n ≤ 1000000 by omega)).mono ?_
    rintro e w' ⟨v', rfl, h1, h2⟩
    have hgl : t.cur.g.l.length = t.cur.g.n := (StAt.gv h).1
    obtain ⟨A', c', rfl, ht⟩ := txs_of_own hgl h1
    rw [hc.gl, hc.gn]
    exact ⟨A', c', rfl, ht, h2⟩)
  have hopt := fun (W : World) (hb : Below w.heap.size w W) => Options_any (hH W hb)
  have hsta := fun (W : World) (hb : Below w.heap.size w W) => Status_any (hH W hb)
  have hgt := fun (W : World) (hb : Below w.heap.size w W) => gv_txs (hR W hb).gv
  obtain ⟨ga, hga2⟩ : ∃ x, t.cur.g.a = x := ⟨_, rfl⟩
  obtain ⟨gi, hgi2⟩ : ∃ x, t.cur.g.i = x := ⟨_, rfl⟩
  obtain ⟨o, ho2⟩ : ∃ x, t.cur.o = x := ⟨_, rfl⟩
  obtain ⟨sv, sf, sa, st, hRA⟩ := hr
  have hRAt := fun (W : World) (hb : Below w.heap.size w W) => hRA.below hb
  obtain ⟨Av, cv, hsv, _, _⟩ := own_form hRA.rv
  obtain ⟨Aa, ca, hsa, _, _⟩ := own_form hRA.ra
  subst hsv hsa
  have hcell : ∀ W, Below w.heap.size w W → W.cell? ⟨rb, 0, none⟩ = some (.slice Av r.v.length cv) ∧ W.cell? ⟨rb, 2, none⟩ = some (.slice Aa r.a.length ca) ∧ W.cell? ⟨rb, 4, none⟩ = some (.string o) ∧ W.cell? ⟨rb, 5, none⟩ = some (.slice r.g.A r.g.n r.g.c) ∧ W.cell? ⟨rb, 6, none⟩ = some (.int .i64 ga) ∧ W.cell? ⟨rb, 7, none⟩ = some (.int .i64 gi) ∧ W.cell? ⟨rb, 8, none⟩ = some (.int .i64 n) := fun W hb => by
    have hB := (hRAt W hb).blk
    rw [hc.ga, hc.gi, hc.o, hga2, hgi2, ho2, hrn] at hB
    exact ⟨hB.cell (i := 0) rfl, hB.cell (i := 2) rfl, hB.cell (i := 4) rfl, hB.cell (i := 5) rfl, hB.cell (i := 6) rfl, hB.cell (i := 7) rfl, hB.cell (i := 8) rfl⟩
  have hlt : rb < w.heap.size := hRA.blk.lt
  rw [hga2, hgi2] at hcu
  rw [ho2] at hopt
  obtain ⟨KV, hKV⟩ : ∃ K, r.v.length = K := ⟨_, rfl⟩
  obtain ⟨KA, hKA⟩ : ∃ K, r.a.length = K := ⟨_, rfl⟩
  obtain ⟨VS, hVS⟩ : ∃ K, r.v.map Prod.fst = K := ⟨_, rfl⟩
  obtain ⟨AS, hAS⟩ : ∃ K, r.a.map Prod.fst = K := ⟨_, rfl⟩
  have hVl : VS.length = KV := by rw [← hVS, ← hKV, List.length_map]
  have hAl : AS.length = KA := by rw [← hAS, ← hKA, List.length_map]
  have hKVb : KV ≤ 80000 := by have := hbd.v; omega
  have hKAb : KA ≤ 80000 := by have := hbd.a; omega
  have hvx : ∀ j, j < KV → ∃ k x0 x1 x2 x3, VS[j]? = some k ∧ ∀ W, Below w.heap.size w W →
      Calls Tryz.prog 28 #[ptrV sb, .string k] W (fun e w' => e = .returned (.agg #[.string x0, .bool x1, .bool x2, .bool x3]) ∧ Below W.heap.size W w') ∧
      ∃ g, Av = some ⟨g, 0, none⟩ ∧ g < W.heap.size ∧ W.cell? ⟨g, j * 5, none⟩ = some (.string k) ∧ W.cell? ⟨g, j * 5 + 1, none⟩ = some (.string x0) ∧ W.cell? ⟨g, j * 5 + 2, none⟩ = some (.bool x1) ∧ W.cell? ⟨g, j * 5 + 3, none⟩ = some (.bool x2) ∧ W.cell? ⟨g, j * 5 + 4, none⟩ = some (.bool x3) := fun j hj => by
    have hjn : j < r.v.length := by omega
    have hjl := List.getElem?_eq_getElem hjn
    have hva := val_at hc (List.getElem_mem hjn)
    generalize r.v[j] = p at hjl hva
    obtain ⟨k, x0, x1, x2, x3⟩ := p
    dsimp only at hva
    refine ⟨k, x0, x1, x2, x3, by rw [← hVS, List.getElem?_map, hjl]; rfl, fun W hb => ⟨?_, ?_⟩⟩
    · have hv := Var_any (hH W hb) k
      rw [hva] at hv
      exact hv
    · obtain ⟨g, e, _, hl, hat⟩ := own_flat eV_len (hRAt W hb).rv (by omega)
      exact ⟨g, e, hl, hat j _ hjl 0 _ rfl, hat j _ hjl 1 _ rfl, hat j _ hjl 2 _ rfl, hat j _ hjl 3 _ rfl, hat j _ hjl 4 _ rfl⟩
  have hax : ∀ j, j < KA → ∃ k x, AS[j]? = some k ∧ ∀ W, Below w.heap.size w W →
      Calls Tryz.prog 70 #[ptrV sb, .string k] W (fun e w' => e = .returned (.tuple #[.string x, .bool true]) ∧ Below W.heap.size W w') ∧
      ∃ g, Aa = some ⟨g, 0, none⟩ ∧ g < W.heap.size ∧ W.cell? ⟨g, j * 2, none⟩ = some (.string k) ∧ W.cell? ⟨g, j * 2 + 1, none⟩ = some (.string x) := fun j hj => by
    have hjn : j < r.a.length := by omega
    have hjl := List.getElem?_eq_getElem hjn
    have hva := ali_at hc (List.getElem_mem hjn)
    generalize r.a[j] = p at hjl hva
    obtain ⟨k, x⟩ := p
    dsimp only at hva
    refine ⟨k, x, by rw [← hAS, List.getElem?_map, hjl]; rfl, fun W hb => ⟨?_, ?_⟩⟩
    · have hv := Alias_any (hH W hb) k
      rw [hva] at hv
      exact hv
    · obtain ⟨g, e, _, hl, hat⟩ := own_flat eP_len (hRAt W hb).ra (by omega)
      exact ⟨g, e, hl, hat j _ hjl 0 _ rfl, hat j _ hjl 1 _ rfl⟩
  have htr : ∀ k, ∃ x y, ∀ W, Below w.heap.size w W →
      Calls Tryz.prog 37 #[ptrV sb, .string k] W (fun e w' => e = .returned (.tuple #[.string x, .bool y]) ∧ Below W.heap.size W w') ∧
      Calls Tryz.prog 71 #[ptrV rb, .string k] W (fun e w' => e = .returned (.tuple #[.string x, .bool y]) ∧ w' = W) := fun k => ⟨(t.cur.t k).getD noW, (t.cur.t k).isSome, fun W hb => ⟨Trap_any (hH W hb) k, by
    have h2 := rTrap_any (hR W hb) k
    rw [hc.t.has] at h2
    exact h2⟩⟩
  have hnm : ∀ k : ByteArray, k.size ≤ 1000000 → ∃ (q : Nd) (b : Bool) (x : ByteArray) (y z : Bool), ∀ W, Below w.heap.size w W →
      Calls Tryz.prog 72 #[ptrV sb, .string k] W (fun e w' => e = .returned (.tuple #[.agg #[.int .i64 q.k, .bool false, .string q.s, .bool false, .slice none 0 0, .slice none 0 0, .slice none 0 0, .slice none 0 0, .slice none 0 0], .bool b]) ∧ Below W.heap.size W w') ∧
      Calls Tryz.prog 73 #[ptrV rb, .string k] W (fun e w' => e = .returned (.tuple #[.agg #[.int .i64 q.k, .bool false, .string q.s, .bool false, .slice none 0 0, .slice none 0 0, .slice none 0 0, .slice none 0 0, .slice none 0 0], .bool b]) ∧ Below W.heap.size W w') ∧
      Calls Tryz.prog 74 #[ptrV sb, .string k] W (fun e w' => e = .returned (.tuple #[.string x, .bool y]) ∧ Below W.heap.size W w') ∧
      Calls Tryz.prog 75 #[ptrV rb, .string k] W (fun e w' => e = .returned (.tuple #[.string x, .bool y]) ∧ Below W.heap.size W w') ∧
      Calls Tryz.prog 25 #[.string k] W (fun e w' => e = .returned (.bool z) ∧ w' = W) ∧
      Calls Tryz.prog 76 #[.string k] W (fun e w' => e = .returned (.bool z) ∧ w' = W) := fun k hk => ⟨(t.cur.f k).getD noN, (t.cur.f k).isSome, (valV t k).v, (valV t k).s, nameB k, fun W hb => ⟨Func_any (hH W hb) k, by
    have h2 := rFunc_any (hR W hb) k
    rw [hc.f] at h2
    exact h2, Get_of (hH W hb) k, by
    have h2 := rGet_any (hR W hb) k
    rw [hc.fnd] at h2
    exact h2, Name_any k hk W, rName_any k hk W⟩⟩
  replace hvx := Lib.hid hvx
  replace hax := Lib.hid hax
  replace htr := Lib.hid htr
  replace hnm := Lib.hid hnm
  replace hVl := Lib.hid hVl
  replace hAl := Lib.hid hAl
  rw [hVS, hKV] at hnam
  rw [hAS, hKA] at hali
  rw [hKV, hKA] at hcell
  replace hKV := Lib.hid hKV
  replace hKA := Lib.hid hKA
  replace hVS := Lib.hid hVS
  replace hAS := Lib.hid hAS
  have htex := fun (W : World) {A A2 : Option Addr} {m c c2 : Nat} {l : List ByteArray} (h1 : Txs W A m c l) (h2 : Txs W A2 m c2 l) => texts_any W h1 h2
  unfold ptrV at hcu hnam hali henv hrenv hargs hopt hsta hvx hax htr hnm
  have hkk := Lib.hid hcell
  replace hnam := Lib.hid hnam
  replace hali := Lib.hid hali
  replace henv := Lib.hid henv
  replace hrenv := Lib.hid hrenv
  replace hargs := Lib.hid hargs
  replace hopt := Lib.hid hopt
  replace hsta := Lib.hid hsta
  replace hgt := Lib.hid hgt
  replace hH := Lib.hid hH
  replace hR := Lib.hid hR
  replace hRAt := Lib.hid hRAt
  replace htx := Lib.hid htx
  replace hc := Lib.hid hc
  replace htex := Lib.hid htex
  replace hsz := Lib.hid hsz
  replace hl := Lib.hid hl
  replace hbd := Lib.hid hbd
  clear h hRA hkv hka hvl hal hcell hga2 hgi2 ho2 hrn
  have hlm : m ≤ c := htx.out.2.1
  have hcmx : c ≤ 9223372036854775807 := htx.out.2.2.1
  unfold ptrV
  go_enter Tryz.func15, Tryz.ntmps15
  go_wp2_with fail
  refine hcu.mono ?_
  rintro e w1 ⟨rfl, hb1⟩
  have hc1 := hkk.out w1 hb1
  clear hcu
  replace hb1 := Lib.hid hb1
  go_upto_region 2 with fail
  go_cut [107] from 36 to 107 (fun cv wx => cv = .bool false ∧ Hid (Below w.heap.size w wx))
  case first => as_aux_lemma =>
    have hB0 : Hid (Below w.heap.size w w1.drew) := Lib.hid (hb1.out.trans (Below.mono (drewN_below w1 1) hb1.out.size))
    have hk0 := hkk.out w1.drew hB0.out
    clear hc1
    simp only [List.append_eq, List.cons_append, List.nil_append]
    go_region_held3 (fun w' => w'.cell? ⟨rb, 0, none⟩ = some (.slice Av KV cv) ∧ w'.cell? ⟨rb, 2, none⟩ = some (.slice Aa KA ca) ∧ w'.cell? ⟨rb, 4, none⟩ = some (.string o) ∧ w'.cell? ⟨rb, 5, none⟩ = some (.slice r.g.A r.g.n r.g.c) ∧ w'.cell? ⟨rb, 6, none⟩ = some (.int .i64 ga) ∧ w'.cell? ⟨rb, 7, none⟩ = some (.int .i64 gi) ∧ w'.cell? ⟨rb, 8, none⟩ = some (.int .i64 n))
      (first | go_keep | exact hk0 | exact hk2 | exact hk3 | exact hk4 | exact hk5 | exact hk6 | exact hk7 | exact hk8 | exact hk9)
      (first
        | (go_at_call 31; refine (henv.out _ hB0.out).mono ?_; rintro e w2 ⟨A2, c2, rfl, ht2, hx2⟩; have hB2 := Lib.hid (hB0.out.trans (hx2.mono hB0.out.size)); have hk2 := hkk.out w2 hB2.out; replace ht2 := Lib.hid ht2; clear hx2)
        | (go_at_call 66; refine (hrenv.out _ hB2.out).mono ?_; rintro e w3 ⟨A3, c3, rfl, ht3, hx3⟩; have hB3 := Lib.hid (hB2.out.trans (hx3.mono hB2.out.size)); have hk3 := hkk.out w3 hB3.out; have ht23 := Lib.hid (ht2.out.below hx3); replace ht3 := Lib.hid ht3; clear hx3)
        | (go_at_call 23; refine (htex.out _ ht5.out (hgt.out _ hB5.out)).mono ?_; rintro e w6 ⟨rfl, hx6⟩; have hB6 := Lib.hid (hB5.out.trans (hx6.mono hB5.out.size)); have hk6 := hkk.out w6 hB6.out; clear hx6)
        | (go_at_call 23; refine (htex.out _ ht23.out ht3.out).mono ?_; rintro e w4 ⟨rfl, hx4⟩; have hB4 := Lib.hid (hB3.out.trans (hx4.mono hB3.out.size)); have hk4 := hkk.out w4 hB4.out; clear hx4)
        | (go_at_call 34; refine (hargs.out _ hB4.out).mono ?_; rintro e w5 ⟨A5, c5, rfl, ht5, hx5⟩; have hB5 := Lib.hid (hB4.out.trans (hx5.mono hB4.out.size)); have hk5 := hkk.out w5 hB5.out; replace ht5 := Lib.hid ht5; clear hx5)
        | (go_at_call 67; refine (hopt.out _ hB6.out).mono ?_; rintro e w7 ⟨rfl, hx7⟩; have hB7 := Lib.hid (hB6.out.trans (hx7.mono hB6.out.size)); have hk7 := hkk.out w7 hB7.out; clear hx7)
        | (go_at_call 21; refine (hsta.out _ hB7.out).mono ?_; rintro e w7b ⟨rfl, rfl⟩)
        | (go_at_call 68; refine (hnam.out _ hB7.out).mono ?_; rintro e w8 ⟨A8, c8, rfl, ht8, hx8⟩; have hB8 := Lib.hid (hB7.out.trans (hx8.mono hB7.out.size)); have hk8 := hkk.out w8 hB8.out; clear hx8 ht8)
        | (go_at_call 69; refine (hali.out _ hB8.out).mono ?_; rintro e w9 ⟨A9, c9, rfl, ht9, hx9⟩; have hB9 := Lib.hid (hB8.out.trans (hx9.mono hB8.out.size)); have hk9 := hkk.out w9 hB9.out; clear hx9 ht9))
    go_wp2_with fail
    go_meet
    exact ⟨rfl, hB9⟩
  case rest =>
    obtain ⟨rfl, hB⟩ := hcut
    have hn1 := hnam.out wc hB.out
    clear hb1
    go_wp2_with fail
    refine hn1.mono ?_
    rintro e w2 ⟨An, cn, rfl, hown, hx2⟩
    have hB2 : Hid (Below w.heap.size w w2) := Lib.hid (hB.out.trans (hx2.mono hB.out.size))
    have hT2 : Hid (Txs w2 An KV cn VS) := Lib.hid (own_txs hVl.out hown)
    have hcn : KV ≤ cn := hT2.out.2.1
    have hcnm : cn ≤ 9223372036854775807 := hT2.out.2.2.1
    clear hn1 hown hx2 hB
    go_wp2
    go_loopw [10] (fun iv wr => ∃ j : Nat, j ≤ KV ∧ iv = .int .i64 (j : Int) ∧ Hid (Below w.heap.size w wr) ∧ Hid (Txs wr An KV cn VS)) (fun iv _ => KV - (intOf iv).toNat)
    case atStart => exact ⟨0, Nat.zero_le _, rfl, hB2, hT2⟩
    case round =>
      clear hB2 hT2
      obtain ⟨j, hj, rfl, hB, hT⟩ := hrel
      by_cases hlt2 : j < KV
      · as_aux_lemma =>
          obtain ⟨k, x0, x1, x2, x3, hk, hW⟩ := hvx.out j hlt2
          obtain ⟨b, off, rfl, hbl, hbc⟩ := hT.out.2.2.2 (by omega)
          have ck := hbc j k hk
          obtain ⟨hv, g, hAe, hgl, _⟩ := hW wr hB.out
          obtain rfl : Av = some ⟨g, 0, none⟩ := hAe
          have hj1 : (0 : Int) ≤ (j : Int) := by omega
          have hj2 : (j : Int) < (KV : Int) := by omega
          replace hW := Lib.hid hW
          replace hk := Lib.hid hk
          try unfold ptrV at hv
          clear hbc hgl
          go_wp2_with fail
          refine hv.mono ?_
          rintro e w5 ⟨rfl, hb5⟩
          have hB5 := hB.out.trans (hb5.mono hB.out.size)
          have hBA : Below w.heap.size w (w5.alloc (.cells #[.string x0, .bool x1, .bool x2, .bool x3] 59)) := hB5.alloc hB5.size _
          have hTA := (hT.out.below hb5).below (Below.of_alloc w5 (.cells #[.string x0, .bool x1, .bool x2, .bool x3] 59))
          have bA : Blk (w5.alloc (.cells #[.string x0, .bool x1, .bool x2, .bool x3] 59)) w5.heap.size [.string x0, .bool x1, .bool x2, .bool x3] 59 := Blk.new w5 _ _
          replace hBA := Lib.hid hBA
          replace hTA := Lib.hid hTA
          replace bA := Lib.hid bA
          clear hB5 hv hB hT ck hb5 hbl
          go_upto_region 9 with fail
          generalize (w5.alloc (.cells #[.string x0, .bool x1, .bool x2, .bool x3] 59)) = wA at hBA hTA bA ⊢
          generalize w5.heap.size = y at bA ⊢
          have yl := bA.out.lt
          obtain ⟨_, g2, e2, hgl2, d0, d1, d2, d3, d4⟩ := hW.out wA hBA.out
          cases e2
          have r0 := (hkk.out wA hBA.out).1
          have hrl : rb < wA.heap.size := Nat.lt_of_lt_of_le hlt hBA.out.size
          have hBC : Below w.heap.size w (wA.alloc (.cells #[.string k, .string x0, .bool x1, .bool x2, .bool x3] 80)) := hBA.out.alloc hBA.out.size _
          have hTC := hTA.out.below (Below.of_alloc wA (.cells #[.string k, .string x0, .bool x1, .bool x2, .bool x3] 80))
          have bC : Blk (wA.alloc (.cells #[.string k, .string x0, .bool x1, .bool x2, .bool x3] 80)) wA.heap.size [.string k, .string x0, .bool x1, .bool x2, .bool x3] 80 := Blk.new wA _ _
          have bA2 : Blk (wA.alloc (.cells #[.string k, .string x0, .bool x1, .bool x2, .bool x3] 80)) y [.string x0, .bool x1, .bool x2, .bool x3] 59 := bA.out.alloc _
          replace hBC := Lib.hid hBC
          replace hTC := Lib.hid hTC
          replace bC := Lib.hid bC
          replace bA2 := Lib.hid bA2
          clear hBA hTA bA
          go_upto_region 10 with fail
          clear d0 d1 d2 d3 d4 r0 hrl yl hgl2
          generalize (wA.alloc (.cells #[.string k, .string x0, .bool x1, .bool x2, .bool x3] 80)) = wC at hBC hTC bC bA2 ⊢
          generalize wA.heap.size = z at bC ⊢
          obtain ⟨b2, off2, e2, hbl, hbc⟩ := hTC.out.2.2.2 (by omega)
          cases e2
          have ck := hbc j k hk.out
          have y0 := bA2.out.cell (i := 0) rfl
          have y1 := bA2.out.cell (i := 1) rfl
          have y2 := bA2.out.cell (i := 2) rfl
          have y3 := bA2.out.cell (i := 3) rfl
          have z0 := bC.out.cell (i := 0) rfl
          have z1 := bC.out.cell (i := 1) rfl
          have z2 := bC.out.cell (i := 2) rfl
          have z3 := bC.out.cell (i := 3) rfl
          have z4 := bC.out.cell (i := 4) rfl
          have yl := bA2.out.lt
          have zl := bC.out.lt
          have hend := Lib.hid (fun nq => And.intro (hBC.out.trans ((drewN_below wC nq).mono hBC.out.size)) (hTC.out.below (drewN_below wC nq)))
          clear hBC hTC bC bA2 hbc hW
          go_quiet (fail)
          clear y0 y1 y2 y3 z0 z1 z2 z3 z4 yl zl ck
          go_wp2
          go_roundw
          case rel => exact ⟨j + 1, by omega, by go_num, Lib.hid (hend.out _).1, Lib.hid (hend.out _).2⟩
          case measure => simp [intOf]; omega
      · obtain rfl : j = KV := by omega
        have hj3 : ¬ (j : Int) < (j : Int) := by omega
        have hn1 := hali.out wr hB.out
        go_wp2_with fail
        refine hn1.mono ?_
        rintro e w2 ⟨Al, cl, rfl, hown, hx2⟩
        have hB2 : Hid (Below w.heap.size w w2) := Lib.hid (hB.out.trans (hx2.mono hB.out.size))
        have hT2 : Hid (Txs w2 Al KA cl AS) := Lib.hid (own_txs hAl.out hown)
        have hcl : KA ≤ cl := hT2.out.2.1
        have hclm : cl ≤ 9223372036854775807 := hT2.out.2.2.1
        clear hn1 hown hx2 hB hT hj3 hlt2 hj
        go_wp2
        go_loopw [13] (fun iv wr => ∃ i : Nat, i ≤ KA ∧ iv = .int .i64 (i : Int) ∧ Hid (Below w.heap.size w wr) ∧ Hid (Txs wr Al KA cl AS)) (fun iv _ => KA - (intOf iv).toNat)
        case atStart => exact ⟨0, Nat.zero_le _, rfl, hB2, hT2⟩
        case round =>
          clear hB2 hT2
          obtain ⟨i, hi, rfl, hB, hT⟩ := hrel
          by_cases hlt2 : i < KA
          · as_aux_lemma =>
              obtain ⟨k, x, hk, hW⟩ := hax.out i hlt2
              obtain ⟨b, off, rfl, hbl, hbc⟩ := hT.out.2.2.2 (by omega)
              have ck := hbc i k hk
              obtain ⟨hv, g, hAe, hgl, _⟩ := hW wr hB.out
              obtain rfl : Aa = some ⟨g, 0, none⟩ := hAe
              have hj1 : (0 : Int) ≤ (i : Int) := by omega
              have hj2 : (i : Int) < (KA : Int) := by omega
              replace hW := Lib.hid hW
              replace hk := Lib.hid hk
              try unfold ptrV at hv
              clear hbc hgl
              go_wp2_with fail
              refine hv.mono ?_
              rintro e w5 ⟨rfl, hb5⟩
              have hB5 := Lib.hid (hB.out.trans (hb5.mono hB.out.size))
              have hT5 := Lib.hid (hT.out.below hb5)
              clear hv hB hT ck hb5 hbl
              go_upto_region 17 with fail
              obtain ⟨b2, off2, e2, hbl, hbc⟩ := hT5.out.2.2.2 (by omega)
              cases e2
              have ck := hbc i k hk.out
              obtain ⟨_, g2, e2, hgl2, d0, d1⟩ := hW.out w5 hB5.out
              cases e2
              have r0 := (hkk.out w5 hB5.out).2.1
              have hrl : rb < w5.heap.size := Nat.lt_of_lt_of_le hlt hB5.out.size
              have hend := Lib.hid (fun nq => And.intro (hB5.out.trans ((drewN_below w5 nq).mono hB5.out.size)) (hT5.out.below (drewN_below w5 nq)))
              clear hB5 hT5 hbc hW
              go_quiet (fail)
              clear d0 d1 r0 hrl hgl2 ck hbl
              go_wp2
              go_roundw
              case rel => exact ⟨i + 1, by omega, by go_num, Lib.hid (hend.out _).1, Lib.hid (hend.out _).2⟩
              case measure => simp [intOf]; omega
          · obtain rfl : i = KA := by omega
            have hj3 : ¬ (i : Int) < (i : Int) := by omega
            have hBT : Below w.heap.size w (wr.alloc (.cells #[.string ⟨#[69, 88, 73, 84]⟩, .string ⟨#[72, 85, 80]⟩, .string ⟨#[73, 78, 84]⟩, .string ⟨#[84, 69, 82, 77]⟩, .string ⟨#[85, 83, 82, 49]⟩, .string ⟨#[75, 73, 76, 76]⟩] 9)) := hB.out.alloc hB.out.size _
            have bT : Blk (wr.alloc (.cells #[.string ⟨#[69, 88, 73, 84]⟩, .string ⟨#[72, 85, 80]⟩, .string ⟨#[73, 78, 84]⟩, .string ⟨#[84, 69, 82, 77]⟩, .string ⟨#[85, 83, 82, 49]⟩, .string ⟨#[75, 73, 76, 76]⟩] 9)) wr.heap.size [.string ⟨#[69, 88, 73, 84]⟩, .string ⟨#[72, 85, 80]⟩, .string ⟨#[73, 78, 84]⟩, .string ⟨#[84, 69, 82, 77]⟩, .string ⟨#[85, 83, 82, 49]⟩, .string ⟨#[75, 73, 76, 76]⟩] 9 := Blk.new wr _ _
            obtain ⟨TL, hTL⟩ : ∃ TL : List Value, TL = [.string ⟨#[69, 88, 73, 84]⟩, .string ⟨#[72, 85, 80]⟩, .string ⟨#[73, 78, 84]⟩, .string ⟨#[84, 69, 82, 77]⟩, .string ⟨#[85, 83, 82, 49]⟩, .string ⟨#[75, 73, 76, 76]⟩] := ⟨_, rfl⟩
            have hTLk : ∀ q, q < 6 → ∃ k, TL[q]? = some (.string k) := fun q hq => by
              rw [hTL]
              match q, hq with
              | 0, _ => exact ⟨_, rfl⟩
              | 1, _ => exact ⟨_, rfl⟩
              | 2, _ => exact ⟨_, rfl⟩
              | 3, _ => exact ⟨_, rfl⟩
              | 4, _ => exact ⟨_, rfl⟩
              | 5, _ => exact ⟨_, rfl⟩
            replace hBT := Lib.hid hBT
            replace bT := Lib.hid bT
            replace hTLk := Lib.hid hTLk
            clear hB hT
            go_upto_region 20 with fail
            generalize (wr.alloc (.cells #[.string ⟨#[69, 88, 73, 84]⟩, .string ⟨#[72, 85, 80]⟩, .string ⟨#[73, 78, 84]⟩, .string ⟨#[84, 69, 82, 77]⟩, .string ⟨#[85, 83, 82, 49]⟩, .string ⟨#[75, 73, 76, 76]⟩] 9)) = w6 at bT hBT ⊢
            generalize wr.heap.size = zT at bT ⊢
            rw [← hTL] at bT
            clear hTL hj3 hlt2 hi
            go_wp2
            go_loopw [17] (fun iv wr => ∃ q : Nat, q ≤ 6 ∧ iv = .int .i64 (q : Int) ∧ Hid (Below w.heap.size w wr) ∧ Hid (Blk wr zT TL 9)) (fun iv _ => 6 - (intOf iv).toNat)
            case atStart => exact ⟨0, by decide, rfl, hBT, bT⟩
            case round =>
              clear hBT bT
              obtain ⟨q, hq, rfl, hB, bT⟩ := hrel
              by_cases hlt2 : q < 6
              · as_aux_lemma =>
                  obtain ⟨k, hk⟩ := hTLk.out q hlt2
                  have ck := bT.out.cell hk
                  have cl2 := bT.out.lt
                  obtain ⟨x, y, hW⟩ := htr.out k
                  have hv := (hW wr hB.out).1
                  have hj1 : (0 : Int) ≤ (q : Int) := by omega
                  have hj2 : (q : Int) < 6 := by omega
                  replace hW := Lib.hid hW
                  replace hk := Lib.hid hk
                  try unfold ptrV at hv
                  go_wp2_with fail
                  refine hv.mono ?_
                  rintro e w5 ⟨rfl, hb5⟩
                  have hB5 := Lib.hid (hB.out.trans (hb5.mono hB.out.size))
                  have bT5 := Lib.hid (show Blk w5 zT TL 9 from (hb5.block zT cl2).trans bT.out)
                  clear hv hB bT ck cl2 hb5
                  have ck := bT5.out.cell hk.out
                  have cl2 := bT5.out.lt
                  have hv := (hW.out w5 hB5.out).2
                  try unfold ptrV at hv
                  go_wp2_with fail
                  refine hv.mono ?_
                  rintro e w7 ⟨rfl, rfl⟩
                  clear hv ck cl2 hW
                  go_wp2
                  go_roundw
                  case rel => exact ⟨q + 1, by omega, by go_num, hB5, bT5⟩
                  case measure => simp [intOf]; omega
              · obtain rfl : q = 6 := by omega
                clear hlt2 hq bT
                go_wp2
                go_loopw [22] (fun iv wr => ∃ p : Nat, p ≤ m ∧ iv = .int .i64 (p : Int) ∧ Hid (Below w.heap.size w wr)) (fun iv _ => m - (intOf iv).toNat)
                case atStart => exact ⟨0, Nat.zero_le _, rfl, hB⟩
                case round =>
                  clear hB
                  obtain ⟨p, hp2, rfl, hB⟩ := hrel
                  by_cases hlt2 : p < m
                  · as_aux_lemma =>
                      have htw := htx.out.below hB.out
                      obtain ⟨b, off, rfl, hbl, hbc⟩ := htw.2.2.2 (by omega)
                      have hpl : p < l.length := by rw [htw.1]; exact hlt2
                      have hk := List.getElem?_eq_getElem hpl
                      have hks := hl.out _ (List.getElem_mem hpl)
                      generalize l[p] = k at hk hks
                      obtain ⟨N0, f0, x, y, v, hW⟩ := hnm.out k hks
                      have hck : ∀ W, Below w.heap.size w W → W.cell? ⟨b, off + p, none⟩ = some (.string k) ∧ b < W.heap.size := fun W hb => by
                        obtain ⟨b2, off2, e2, h1, h2⟩ := (htx.out.below hb).2.2.2 (by omega)
                        cases e2
                        exact ⟨h2 p k hk, h1⟩
                      have hj1 : (0 : Int) ≤ (p : Int) := by omega
                      have hj2 : (p : Int) < (m : Int) := by omega
                      obtain ⟨nk, ns⟩ := N0
                      dsimp only at hW
                      replace hW := Lib.hid hW
                      replace hck := Lib.hid hck
                      clear hbc hbl hpl hk hks htw
                      -- Func of the state
                      have hv := (hW.out wr hB.out).1
                      obtain ⟨ck, cb⟩ := hck.out wr hB.out
                      try unfold ptrV at hv
                      go_wp2_with fail
                      refine hv.mono ?_
                      rintro e w5 ⟨rfl, hb5⟩
                      have hB5 := hB.out.trans (hb5.mono hB.out.size)
                      have hBA : Below w.heap.size w (w5.alloc (.cells #[.int .i64 nk, .bool false, .string ns, .bool false, .slice none 0 0, .slice none 0 0, .slice none 0 0, .slice none 0 0, .slice none 0 0] 88)) := hB5.alloc hB5.size _
                      have bA : Blk (w5.alloc (.cells #[.int .i64 nk, .bool false, .string ns, .bool false, .slice none 0 0, .slice none 0 0, .slice none 0 0, .slice none 0 0, .slice none 0 0] 88)) w5.heap.size [.int .i64 nk, .bool false, .string ns, .bool false, .slice none 0 0, .slice none 0 0, .slice none 0 0, .slice none 0 0, .slice none 0 0] 88 := Blk.new w5 _ _
                      replace hBA := Lib.hid hBA
                      replace bA := Lib.hid bA
                      clear hv hB ck cb hb5 hB5
                      go_upto_region 31 with fail
                      generalize (w5.alloc (.cells #[.int .i64 nk, .bool false, .string ns, .bool false, .slice none 0 0, .slice none 0 0, .slice none 0 0, .slice none 0 0, .slice none 0 0] 88)) = wA at hBA bA ⊢
                      generalize w5.heap.size = ya at bA ⊢
                      -- Func of the answer
                      have hv := (hW.out wA hBA.out).2.1
                      obtain ⟨ck, cb⟩ := hck.out wA hBA.out
                      try unfold ptrV at hv
                      go_wp2_with fail
                      refine hv.mono ?_
                      rintro e w6 ⟨rfl, hb6⟩
                      have hB6 := hBA.out.trans (hb6.mono hBA.out.size)
                      have bA6 : Blk w6 ya [.int .i64 nk, .bool false, .string ns, .bool false, .slice none 0 0, .slice none 0 0, .slice none 0 0, .slice none 0 0, .slice none 0 0] 88 := (hb6.block ya bA.out.lt).trans bA.out
                      have hBC : Below w.heap.size w (w6.alloc (.cells #[.int .i64 nk, .bool false, .string ns, .bool false, .slice none 0 0, .slice none 0 0, .slice none 0 0, .slice none 0 0, .slice none 0 0] 88)) := hB6.alloc hB6.size _
                      have bC : Blk (w6.alloc (.cells #[.int .i64 nk, .bool false, .string ns, .bool false, .slice none 0 0, .slice none 0 0, .slice none 0 0, .slice none 0 0, .slice none 0 0] 88)) w6.heap.size [.int .i64 nk, .bool false, .string ns, .bool false, .slice none 0 0, .slice none 0 0, .slice none 0 0, .slice none 0 0, .slice none 0 0] 88 := Blk.new w6 _ _
                      have bA7 := bA6.alloc (.cells #[.int .i64 nk, .bool false, .string ns, .bool false, .slice none 0 0, .slice none 0 0, .slice none 0 0, .slice none 0 0, .slice none 0 0] 88)
                      replace hBC := Lib.hid hBC
                      replace bC := Lib.hid bC
                      replace bA7 := Lib.hid bA7
                      clear hv hBA bA ck cb hb6 hB6 bA6
                      go_upto_region 32 with fail
                      generalize (w6.alloc (.cells #[.int .i64 nk, .bool false, .string ns, .bool false, .slice none 0 0, .slice none 0 0, .slice none 0 0, .slice none 0 0, .slice none 0 0] 88)) = wC at hBC bC bA7 ⊢
                      generalize w6.heap.size = yc at bC ⊢
                      -- Get of the state
                      have hv := (hW.out wC hBC.out).2.2.1
                      obtain ⟨ck, cb⟩ := hck.out wC hBC.out
                      try unfold ptrV at hv
                      go_wp2_with fail
                      refine hv.mono ?_
                      rintro e w8 ⟨rfl, hb8⟩
                      have hB8 := Lib.hid (hBC.out.trans (hb8.mono hBC.out.size))
                      have bA8 := Lib.hid (show Blk w8 ya _ _ from (hb8.block ya bA7.out.lt).trans bA7.out)
                      have bC8 := Lib.hid (show Blk w8 yc _ _ from (hb8.block yc bC.out.lt).trans bC.out)
                      clear hv hBC bC bA7 ck cb hb8
                      -- Get of the answer
                      have hv := (hW.out w8 hB8.out).2.2.2.1
                      obtain ⟨ck, cb⟩ := hck.out w8 hB8.out
                      try unfold ptrV at hv
                      go_wp2_with fail
                      refine hv.mono ?_
                      rintro e w9 ⟨rfl, hb9⟩
                      have hB9 := Lib.hid (hB8.out.trans (hb9.mono hB8.out.size))
                      have bA9 := Lib.hid (show Blk w9 ya _ _ from (hb9.block ya bA8.out.lt).trans bA8.out)
                      have bC9 := Lib.hid (show Blk w9 yc _ _ from (hb9.block yc bC8.out.lt).trans bC8.out)
                      clear hv hB8 bA8 bC8 ck cb hb9
                      go_upto_region 34 with fail
                      have hNW := fun W hb => (hW.out W hb).2.2.2.2
                      obtain ⟨ck, cb⟩ := hck.out w9 hB9.out
                      have a2 := bA9.out.cell (i := 2) rfl
                      have c2 := bC9.out.cell (i := 2) rfl
                      have al := bA9.out.lt
                      have cl := bC9.out.lt
                      have hend := Lib.hid (fun nq => hB9.out.trans ((drewN_below w9 nq).mono hB9.out.size))
                      have hq : ∀ nq, Calls Tryz.prog 25 #[.string k] (w9.drewN nq) (fun e w' => e = .returned (.bool v) ∧ w' = w9.drewN nq) ∧ Calls Tryz.prog 76 #[.string k] (w9.drewN nq) (fun e w' => e = .returned (.bool v) ∧ w' = w9.drewN nq) := fun nq => hNW _ (hend.out nq)
                      replace hq := Lib.hid hq
                      clear hB9 bA9 bC9 hW hck hNW
                      go_quiet ((first | (go_at_call 25; exact Calls.quiet_of_same (hq.out _).1) | (go_at_call 76; exact Calls.quiet_of_same (hq.out _).2)))
                      clear ck cb a2 c2 al cl hq
                      go_wp2
                      go_roundw
                      case rel => first | exact ⟨p + 1, by omega, by go_num, Lib.hid (hend.out _)⟩ | ((repeat apply Exists.intro); exact ⟨⟨p + 1, by omega, by go_num, Lib.hid (hend.out _)⟩, rfl⟩)
                      case measure => simp [intOf]; omega
                  · obtain rfl : p = m := by omega
                    have hj3 : ¬ (p : Int) < (p : Int) := by omega
                    go_wp2
                    go_ret
                    exact ⟨rfl, hB.out⟩
end
end Go.Proofs.YtigmdfdcflkggaaGreat
/-
  All that StatePlays' law has at hand between two calls, and what each call leaves of it. Conditions: none.
-/
set_option linter.unusedSimpArgs false
set_option linter.unusedVariables false
namespace Go.Proofs.YtigmdfdcflkggaaGreat
open Go Go.RowKit Go.ChangeMaps

section
variable {B sb p : Nat} {a : Ad} {pot N M : Nat} {t : Tg} {n : Int} {rb : Nat} {r : Rf} {ws : List Nat} {A : Option Addr} {c : Nat} {An : Option Addr} {mn cn : Nat} {ks : List ByteArray} {w0 w w' : World}
structure Pj (B sb p : Nat) (a : Ad) (An : Option Addr) (mn cn : Nat) (ks : List ByteArray) (w0 : World) (pot N M : Nat) (t : Tg) (n : Int) (rb : Nat) (r : Rf) (ws : List Nat) (A : Option Addr) (c : Nat) (w : World) : Prop where
  st : StAt w B sb a pot t n
  al : AllA B w p rb ws A c
  rf : RfA w rb r
  co : Corr t.cur r
  bd : Bd N r
  kp : Kept B N w t rb ws
  rn : r.n = n
  tr : TrapN t
  ne : t.nest = 20
  bn : BN t
  mo : t.most = 1000
  nl : t.ns.length ≤ M
  nm : w.ownsRow 0 9 1 (.slice An mn cn) mn (ks.map .string)
  fr : Below B w0 w
theorem Kept.below (h : Kept B N w t rb ws) (k : Below w.heap.size w w') : Kept B N w' t rb ws := ⟨h.len, fun i Z q h1 h2 => by
  obtain ⟨rz, a1, a2, a3⟩ := h.sv i Z q h1 h2
  exact ⟨rz, a1.below k, a2, a3⟩, h.nd, h.lo⟩
theorem Kept.keepD (h : Kept B N w t rb ws) (k : KeepD w w') : Kept B N w' t rb ws := ⟨h.len, fun i Z q h1 h2 => by
  obtain ⟨rz, a1, a2, a3⟩ := h.sv i Z q h1 h2
  exact ⟨rz, a1.keepD k, a2, a3⟩, h.nd, h.lo⟩
theorem AllA.keepD (h : AllA B w p rb ws A c) (k : KeepD w w') : AllA B w' p rb ws A c := ⟨k _ _ _ h.blk (nPk (by decide)) (by decide), own_keepT h.row fun g cur hb => k _ _ _ hb (nPk (by decide)) (by decide), h.hB⟩
theorem Pj.below (h : Pj B sb p a An mn cn ks w0 pot N M t n rb r ws A c w) (k : Below w.heap.size w w') : Pj B sb p a An mn cn ks w0 pot N M t n rb r ws A c w' :=
  ⟨h.st.below k, h.al.below k, h.rf.below k, h.co, h.bd, h.kp.below k, h.rn, h.tr, h.ne, h.bn, h.mo, h.nl, own_keepT h.nm fun g cur hb => (k.block g hb.lt).trans hb, h.fr.trans (k.mono h.st.hBw)⟩
theorem Pj.more {pot' N' M' : Nat} (h : Pj B sb p a An mn cn ks w0 pot N M t n rb r ws A c w) (h1 : pot ≤ pot') (h2 : N ≤ N') (h3 : M ≤ M') : Pj B sb p a An mn cn ks w0 pot' N' M' t n rb r ws A c w :=
  ⟨h.st.mono h1, h.al, h.rf, h.co, h.bd.mono h2, h.kp.bd h2, h.rn, h.tr, h.ne, h.bn, h.mo, Nat.le_trans h.nl h3, h.nm, h.fr⟩
theorem Pj.nf (h : Pj B sb p a An mn cn ks w0 pot N M t n rb r ws A c w) (hM : M ≤ 900) : ¬ t.full := fun hf => by
  have := hf.2
  have := h.nl
  have := h.mo
  omega
theorem ne_of_ty {b : Nat} {cur : List Value} {T : TypeId} (hb : Blk w b cur T) (hT : T ≠ 76) (h : RfA w rb r) : b ≠ rb := fun e => by
  subst e
  obtain ⟨_, _, _, _, h⟩ := h
  have e2 := h.blk.symm.trans hb
  simp only [Option.some.injEq, Obj.cells.injEq] at e2
  exact hT e2.2.1.symm
theorem RfA.keepG {Z : Nat} {rz : Rf} (h : RfA w Z rz) (hr : RfA w rb r) (hne : Z ≠ rb) (k : FrG B rb w w') : RfA w' Z rz := by
  obtain ⟨sv, sf, sa, st, h⟩ := h
  exact ⟨sv, sf, sa, st, h.all (fun g cur T hb hT => k.keep g cur T hb (by rcases hT with rfl | rfl | rfl | rfl <;> exact nPk (by decide)) (by rcases hT with rfl | rfl | rfl | rfl <;> decide) (ne_of_ty hb (by rcases hT with rfl | rfl | rfl | rfl <;> decide) hr)) (fun hb => k.keep Z _ _ hb (nPk (by decide)) (by decide) hne)⟩
theorem puts_step {o : Od} (h : Pj B sb p a An mn cn ks w0 pot N M t n rb r ws A c w) (hM : M ≤ 900) (hN : N ≤ 70000) (hn : In64 o.n) (hok : OkO o) :
    Calls Tryz.prog 12 #[ptrV sb, ptrV rb, .agg #[.int .i64 o.x, .string o.k, .string o.s, .int .i64 o.n, .slice o.A o.m o.c]] w fun e w' => e = .returned (.bool true) ∧ ∃ t' r', Pj B sb p a An mn cn ks w0 (pot + 2) (N + 1) (M + 1) t' n rb r' ws A c w' := by
  by_cases hq : o.n ≤ 100
  · refine (puts_low o.x o.k o.s o.n o.A o.m o.c hq).mono ?_
    rintro e w' ⟨rfl, hb⟩
    exact ⟨rfl, t, r, (h.below hb).more (by omega) (by omega) (by omega)⟩
  · refine (puts_any h.st h.bn h.rf h.kp.lo.1 h.co h.bd (by omega) (h.nf hM) o.x o.k o.s o.n o.A o.m o.c hn hq hok.1 hok.2.1).mono ?_
    rintro e w' ⟨rfl, q1, ⟨r', o1, o2, o3, o4⟩, q2⟩
    have hpt := put_pt t o.k (putX o.s o.n)
    have hng := put_ng t o.k (putX o.s o.n)
    refine ⟨rfl, _, r', q1, ⟨q2.keep _ _ _ h.al.blk (nPk (by decide)) (by decide) (ne_of_ty h.al.blk (by decide) h.rf), own_keepT h.al.row fun g cur hb => q2.keep _ _ _ hb (nPk (by decide)) (by decide) (ne_of_ty hb (by decide) h.rf), h.al.hB⟩, o1, o2, o3, ⟨by rw [hpt.1]; exact h.kp.len, fun i Z q h1 h2 => ?_, h.kp.nd, h.kp.lo⟩, o4.trans h.rn, h.tr.pt hpt, hpt.2.2.2.trans h.ne, put_BN h.bn h.co _ _, hng.1.trans h.mo, ?_, own_keepT h.nm fun g cur hb => q2.keep _ _ _ hb (nPk (by decide)) (by decide) (ne_of_ty hb (by decide) h.rf), h.fr.trans ⟨q2.same.1, q2.same.2.1, q2.same.2.2, q2.size, q2.low⟩⟩
    · rw [hpt.1] at h2
      obtain ⟨rz, a1, a2, a3⟩ := h.kp.sv i Z q h1 h2
      exact ⟨rz, a1.keepG h.rf (h.kp.mem (List.mem_of_getElem? h1)) q2, a2, a3.mono (Nat.le_succ _)⟩
    · have := hng.2.1
      have := h.nl
      omega
/-- Behind a call of the state, ahead of that of the document's answer. -/
structure Dj (B sb p : Nat) (a : Ad) (An : Option Addr) (mn cn : Nat) (ks : List ByteArray) (w0 : World) (pot N M : Nat) (o : Od) (ans : Int) (t t' : Tg) (n n' : Int) (rb : Nat) (r : Rf) (ws : List Nat) (A : Option Addr) (c : Nat) (w : World) : Prop where
  st : StAt w B sb a (pot + 10) t' n'
  st0 : t.was.length ≤ 20
  al : AllA B w p rb ws A c
  rf : RfA w rb r
  co : Corr t.cur r
  bd : Bd N r
  kp : Kept B N w t rb ws
  rn : r.n = n
  rn' : n' = (if askI o.x = 15 then bits .and .i64 o.n 255 else n)
  tr : TrapN t
  ne : t.nest = 20
  bn : BN t
  mo : t.most = 1000
  nl : t.ns.length ≤ M
  nm : w.ownsRow 0 9 1 (.slice An mn cn) mn (ks.map .string)
  fr : Below B w0 w
  dor : DoR o t (askI o.x) ans t'
theorem does_step {o : Od} (h : Pj B sb p a An mn cn ks w0 pot N M t n rb r ws A c w) (hp : pot ≤ 90000) (htx : Txs w o.A o.m o.c o.l) (hx : In64 o.x) (hn : In64 o.n) (hok : OkO o) :
    Calls Tryz.prog 13 #[ptrV sb, ptrV a.l, .agg #[.int .i64 o.x, .string o.k, .string o.s, .int .i64 o.n, .slice o.A o.m o.c]] w fun e w' => ∃ ans t' n', e = .returned (.int .i64 ans) ∧ Dj B sb p a An mn cn ks w0 pot N M o ans t t' n n' rb r ws A c w' := by
  refine (does_any h.st htx hx hn hok h.tr.1 hp).mono ?_
  rintro e w' ⟨ans, t', n', rfl, hR, q1, q2, q3⟩
  have k := q2.keep
  exact ⟨ans, t', n', rfl, q1, by have := h.st.th.good.nest1; rw [h.ne] at this; exact this, h.al.keepD k, h.rf.keepD k, h.co, h.bd, h.kp.keepD k, h.rn, q3, h.tr, h.ne, h.bn, h.mo, h.nl, own_keepT h.nm fun g cur hb => k _ _ _ hb (nPk (by decide)) (by decide), h.fr.trans q2.below, hR⟩
theorem asked_step {o : Od} {ans : Int} {t' : Tg} {n' : Int} (h : Dj B sb p a An mn cn ks w0 pot N M o ans t t' n n' rb r ws A c w) (hM : M ≤ 900) (hN : N ≤ 70000) (htx : Txs w o.A o.m o.c o.l) (hx : In64 o.x) (hn : In64 o.n) (hok : OkO o) :
    Calls Tryz.prog 14 #[ptrV p, .agg #[.int .i64 o.x, .string o.k, .string o.s, .int .i64 o.n, .slice o.A o.m o.c]] w fun e w' => e = .returned (.int .i64 ans) ∧ ∃ rb' r' ws' A' c', Pj B sb p a An mn cn ks w0 (pot + 10) (N + 1) (M + 5) t' n' rb' r' ws' A' c' w' := by
  have hf : ¬ t.full := fun hf => by
    have := hf.2
    have := h.nl
    have := h.mo
    omega
  refine (asked_all h.al h.rf h.co h.bd h.kp (by omega) hf (fun _ => by have := h.nl; rw [h.mo]; omega) h.tr.1 h.ne h.st0 htx hx hn hok (fun hK => (h.dor.pt hK).1) h.dor).mono ?_
  rintro e w' ⟨rfl, ⟨⟨rb', r', ws', A', c', a1, a2, a3, a4, a5, a6⟩, hq, hlow⟩⟩
  have hng := h.dor.ng h.tr.1
  refine ⟨rfl, rb', r', ws', A', c', h.st.stpR hq, a1, a2, a3, a4, a5, ?_, h.dor.trap h.tr, h.dor.nest.trans h.ne, h.bn.ng h.co.b hng, hng.1.trans h.mo, by have := hng.2.1; have := h.nl; omega, own_keepT h.nm fun g cur hb => hq.q _ _ _ hb (by unfold RT; decide), h.fr.trans ⟨hq.os, hq.tape, hq.output, hq.size, hlow⟩⟩
  rw [a6, h.rn']
  split
  · exact (status_same o.n).symm
  · exact h.rn
theorem same_step (h : Pj B sb p a An mn cn ks w0 pot N M t n rb r ws A c w) (hp : pot ≤ 100000) (hN : N ≤ 80000) (hk : ks.length = mn) (hm : mn ≤ 100000) (hl : ∀ s ∈ ks, s.size ≤ 1000000) :
    Calls Tryz.prog 15 #[ptrV sb, ptrV rb, .slice An mn cn] w fun e w' => e = .returned (.bool true) ∧ Pj B sb p a An mn cn ks w0 pot N M t n rb r ws A c w' := by
  refine (Same_any h.st h.rf h.co h.rn hp h.bd hN h.tr.1.2 (own_txs hk h.nm) hm hl).mono ?_
  rintro e w' ⟨rfl, hb⟩
  exact ⟨rfl, h.below hb⟩
theorem marks_step (h : Pj B sb p a An mn cn ks w0 pot N M t n rb r ws A c w) : Calls Tryz.prog 16 #[ptrV a.l] w fun e w' => e = .returned (.int .i64 (ws.length : Int)) ∧ w' = w := by
  rw [h.kp.len]
  exact th_marks h.st.th
end
end Go.Proofs.YtigmdfdcflkggaaGreat
