/-
  What goes back: marks stay under what is called, and what is told hangs on what is known alone. Conditions: none.
-/
import Derived.Test.YtigmdfdcflkggaaGreatStTold
set_option linter.unusedSimpArgs false
set_option linter.unusedVariables false
namespace Go.Proofs.YtigmdfdcflkggaaGreat
open Go Go.RowKit Go.ChangeMaps

section
variable {w W W' : World} {B sb : Nat} {a : Ad} {pot : Nat} {t t' : Tg} {n : Int}
theorem DoR.nest {o : Od} {K r : Int} (h : DoR o t K r t') : t'.nest = t.nest := by
  by_cases hK : K < 16
  · exact (h.pt hK).2.2.2
  cases h with
  | open_ _ _ =>
    unfold Tg.mark; split
    · rfl
    · rfl
  | undo _ _ =>
    unfold Tg.undo; split
    · rfl
    · rfl
  | opt _ hk => omega
  | _ => exact absurd (by decide) hK
/-- A mark stays, unless it is the last one and is undone. -/
theorem DoR.hold {o : Od} {K r : Int} (h : DoR o t K r t') {W0 ws : List (Nat × Sta)} {p : Nat × Sta} (hw : t.was = W0 ++ p :: ws) (hk : 18 ≤ K → ws ≠ []) : ∃ ws', t'.was = W0 ++ p :: ws' := by
  by_cases hK : K < 16
  · exact ⟨ws, (h.pt hK).1.trans hw⟩
  cases h with
  | open_ _ _ =>
    unfold Tg.mark; split
    · exact ⟨ws, hw⟩
    · exact ⟨ws ++ [(t.ns.length, t.cur)], by show t.was ++ _ = _; rw [hw, List.append_assoc, List.cons_append]⟩
  | undo _ hk2 =>
    unfold Tg.undo
    cases hl : t.was.getLast? with
    | none => exact ⟨ws, hw⟩
    | some q =>
      refine ⟨ws.dropLast, ?_⟩
      show t.was.dropLast = _
      rw [hw, List.dropLast_append_of_ne_nil (by simp), List.dropLast_cons_of_ne_nil (hk hk2)]
  | opt _ hk => omega
  | _ => exact absurd (by decide) hK
theorem undo_hold {W0 ws : List (Nat × Sta)} {p : Nat × Sta} (hw : t.was = W0 ++ p :: ws) (hne : ws ≠ []) : t.undo.1 = 0 ∧ t.undo.2.was = W0 ++ p :: ws.dropLast ∧ t.undo.2.was.length < t.was.length ∧ t.undo.2.nest = t.nest := by
  have hne2 : t.was ≠ [] := by rw [hw]; simp
  unfold Tg.undo
  cases hl : t.was.getLast? with
  | none => exact absurd (List.getLast?_eq_none_iff.1 hl) hne2
  | some q =>
    refine ⟨rfl, ?_, ?_, rfl⟩
    · show t.was.dropLast = _
      rw [hw, List.dropLast_append_of_ne_nil (by simp), List.dropLast_cons_of_ne_nil hne]
    · show t.was.dropLast.length < _
      rw [List.length_dropLast]
      have := List.length_pos_iff.2 hne2
      omega
theorem undo_last {W0 : List (Nat × Sta)} {p : Nat × Sta} (h : t.was = W0 ++ [p]) : t.undo = (0, t.undone W0 p) := by
  unfold Tg.undo; rw [h]; simp
theorem undo_trap (hT : TrapN t) : TrapN t.undo.2 := by
  unfold Tg.undo; split
  · exact hT
  · rename_i p hp
    have hm : p ∈ t.was := List.mem_of_getLast? hp
    exact ⟨hT.2 p hm, fun q hq => hT.2 q ((List.dropLast_sublist _).subset hq)⟩
/-- How many marks a log has, read off its block. -/
def lenM (lb : Nat) (w : World) : Nat := match w.cell? ⟨lb, 2, none⟩ with | some (.slice _ n _) => n | _ => 0
theorem StAt.lenM (h : StAt w B sb a pot t n) : lenM a.l w = t.was.length := by
  obtain ⟨ms, fs, ev, ef, ea, et, h1, h2, h5, h6, h7, h8, h9⟩ := h.th
  rw [← th_len h7]
  obtain ⟨mv, nv, h⟩ := h1
  obtain ⟨A, cc, rfl, hc, hcm⟩ := h.mrow.form
  have c2 : w.cell? ⟨a.l, 2, none⟩ = some (.slice A ms.length cc) := h.blk.cell (i := 2) rfl
  unfold Proofs.YtigmdfdcflkggaaGreat.lenM
  rw [c2]
/-- A row of texts is kept by all that a state does. -/
theorem own_keepD {y m : Nat} {v : Value} {xs : List Value} (h : W.ownsRow y 9 1 v m xs) (k : KeepD W W') : W'.ownsRow y 9 1 v m xs := by
  refine ⟨h.1, ?_⟩
  rcases h.2 with hn | ⟨g, cp, cur, e, hb, hg, rest⟩
  · exact .inl hn
  · refine .inr ⟨g, cp, cur, e, hb, ?_, rest⟩
    have := k g cur.toList 9 (by unfold Blk; simpa using hg) (nPk (by decide)) (by decide)
    unfold Blk at this
    simpa using this
theorem toldL_cur (h : t.cur = t'.cur) (vs al ns : List ByteArray) : toldL t vs al ns = toldL t' vs al ns := by
  have hv : valV t = valV t' := by funext k; unfold valV; rw [h]
  have h1 : envT t = envT t' := by funext k; unfold envT; rw [hv]
  have h2 : varT t = varT t' := by funext k; unfold varT; rw [hv]
  have h3 : aliasT t = aliasT t' := by funext k; unfold aliasT; rw [h]
  have h4 : trapT t = trapT t' := by funext k; unfold trapT; rw [h]
  have h5 : funcT t = funcT t' := by funext k; unfold funcT; rw [h]
  unfold toldL told3 told2 told1 envL
  rw [hv, h1, h2, h3, h4, h5, h]
theorem run_append_none (W : World) (cs : Nat) {i0 : TypeInfo} (hi : Tryz.prog.info? 9 = some i0) : (Builtin.append_ #[35, 35] 35 #[.slice none 0 0, .slice none 0 cs]).run Tryz.prog W = .ok (.slice none 0 0) W := by
  simp [Builtin.append_, run_underlying Tryz.underlying35, sizeOf, typeInfo, hi, Builtin.lenOf, Builtin.firstCells]
/-- One row of texts behind another. -/
theorem append_rows {z : Nat} {A As : Option Addr} {m k c cs : Nat} {xs ys : List ByteArray} (h : W.ownsRow z 9 1 (.slice A m c) m (xs.map .string)) (hm : xs.length = m) (hb : Below z w W) (hz : z ≤ W.heap.size) (hs : Txs W As k cs ys) (hk : m ≤ 100000 ∧ k ≤ 100000) {i0 : TypeInfo} (hi : Tryz.prog.info? 9 = some i0) (hz0 : i0.zero = some (.string ⟨#[]⟩)) (hz1 : i0.size = 1) (hz2 : i0.bytes = 16) :
    ∃ A' c' W', (Builtin.append_ #[35, 35] 35 #[.slice A m c, .slice As k cs]).run Tryz.prog W = .ok (.slice A' (m + k) c') W' ∧ W'.ownsRow z 9 1 (.slice A' (m + k) c') (m + k) ((xs ++ ys).map .string) ∧ Below z w W' := by
  by_cases hp : 0 < m
  · obtain ⟨gg, cap, W', h1, h2, _⟩ := (⟨by rw [hm]; exact h, hb, hz⟩ : Out w z W (.slice A m c) xs).app hm hp (by omega) hi hz0 hz1 hz2 hs (by omega)
    have hl : (xs ++ ys).length = m + k := by rw [List.length_append, hm, hs.1]
    exact ⟨_, _, W', h1, by have := h2.row; rwa [hl] at this, h2.below⟩
  · obtain rfl : m = 0 := by omega
    obtain rfl : xs = [] := List.eq_nil_of_length_eq_zero hm
    obtain ⟨hlen, hmc, hcm, hcell⟩ := hs
    rw [Nat.zero_add, List.nil_append]
    cases As with
    | some ad =>
      have hnews : ∀ j u, (ys.map Value.string)[j]? = some u → W.cell? (ad.add j) = some u := fun j u hu => by
        rw [List.getElem?_map] at hu
        cases hx : ys[j]? with
        | none => rw [hx] at hu; cases hu
        | some x =>
          rw [hx] at hu
          have hu : Value.string x = u := by simpa using hu
          have hj : j < ys.length := (List.getElem?_eq_some_iff.1 hx).1
          obtain ⟨b, off, e, _, hc⟩ := hcell (by omega)
          cases e
          rw [← hu, add_plain0]
          exact hc j x hx
      obtain ⟨v', w', hr, h2, h3, h4, h5⟩ := run_append_own_at (P := Tryz.prog) W z 35 35 9 i0 _ 1 16 Tryz.underlying35 hi hz0 hz1 hz2 rfl (by decide) _ 0 _ h ad k cs (ys.map .string) (by rw [List.length_map, hlen, Nat.mul_one]) hnews (fun u hu => by
        obtain ⟨x, _, rfl⟩ := List.mem_map.1 hu
        rfl) (by unfold maxLen; omega) (by omega) hz
      rw [Nat.zero_add] at h2
      obtain ⟨A', c', rfl, _, _⟩ := own_form h2
      refine ⟨A', c', w', hr, by simpa using h2, ⟨h3.os.trans hb.os, h3.tape.trans hb.tape, h3.output.trans hb.output, Nat.le_trans hb.size h3.size, fun q hq => (h3.block q (Nat.lt_of_lt_of_le hq hz) (fun e => by have := (h.lt q e.symm).1; omega)).trans (hb.block q hq)⟩⟩
    | none =>
      have h0 : k = 0 := by
        rcases Nat.eq_zero_or_pos k with e | hp
        · exact e
        · obtain ⟨b, off, e, _⟩ := hcell hp; cases e
      subst h0
      have hy : ys = [] := List.eq_nil_of_length_eq_zero hlen
      subst hy
      cases A with
      | none =>
        rcases h.2 with ⟨e, _⟩ | ⟨_, _, _, e, _⟩
        · cases e
          exact ⟨none, 0, W, run_append_none W cs hi, h, hb⟩
        · cases e
      | some ad =>
        obtain ⟨b, off, spot⟩ := ad
        rcases h.2 with ⟨e, _⟩ | ⟨g, cp, cur, e, _⟩
        · cases e
        · cases e
          have hr := run_append_room_src (P := Tryz.prog) W 35 35 35 9 i0 Tryz.underlying35 hi b 0 0 c (.slice none 0 cs) 0 [] (Src.ofNil (P := Tryz.prog) W (size := i0.size) Tryz.underlying35 cs) (Nat.zero_le _) (fun j hj => absurd hj (Nat.not_lt_zero j)) (fun j hj => absurd hj (Nat.not_lt_zero j))
          exact ⟨_, _, W, hr, h, hb⟩
set_option maxRecDepth 100000 in
set_option maxHeartbeats 4000000 in
theorem texts_any {A A2 : Option Addr} {m c c2 : Nat} {l : List ByteArray} (w : World) (h1 : Txs w A m c l) (h2 : Txs w A2 m c2 l) :
    Calls Tryz.prog 23 #[.slice A m c, .slice A2 m c2] w fun e w' => e = .returned (.bool true) ∧ Below w.heap.size w w' := by
  have hc := h1.2.1
  have hcm := h1.2.2.1
  have hc2 := h2.2.1
  have hcm2 := h2.2.2.1
  unfold maxLen at hcm hcm2
  replace h1 := Lib.hid h1
  replace h2 := Lib.hid h2
  go_enter Tryz.func23, Tryz.ntmps23
  go_wp2
  go_loopw [5] (fun iv wr => ∃ i : Nat, i ≤ m ∧ iv = .int .i64 (i : Int) ∧ Hid (Below w.heap.size w wr)) (fun iv _ => m - (intOf iv).toNat)
  case atStart => exact ⟨0, Nat.zero_le _, rfl, Lib.hid (Below.refl _ _)⟩
  case round =>
    obtain ⟨i, hi, rfl, hbr⟩ := hrel
    by_cases hlt : i < m
    · obtain ⟨b1, o1, rfl, hb1, hx1⟩ := h1.out.2.2.2 (by omega)
      obtain ⟨b2, o2, rfl, hb2, hx2⟩ := h2.out.2.2.2 (by omega)
      have hil : i < l.length := by rw [h1.out.1]; exact hlt
      have k1 := (World.cell?_of_block (a := ⟨b1, o1 + i, none⟩) (hbr.out.block b1 hb1)).trans (hx1 i l[i] (List.getElem?_eq_getElem hil))
      have k2 := (World.cell?_of_block (a := ⟨b2, o2 + i, none⟩) (hbr.out.block b2 hb2)).trans (hx2 i l[i] (List.getElem?_eq_getElem hil))
      generalize l[i] = x at k1 k2
      have hi1 : (0 : Int) ≤ (i : Int) := by omega
      have hi2 : (i : Int) < (m : Int) := by omega
      have hne : (x.toList != x.toList) = false := by simp
      clear hx1 hx2
      go_upto_region 6 with fail
      go_quiet (fail)
      have hbE : ∀ q, Hid (Below w.heap.size w (wr.drewN q)) := fun q => Lib.hid ⟨hbr.out.os, hbr.out.tape, hbr.out.output, hbr.out.size, hbr.out.block⟩
      go_wp2
      go_roundw
      case rel => exact ⟨i + 1, by omega, by go_num, hbE _⟩
      case measure => simp [intOf]; omega
    · obtain rfl : i = m := by omega
      have hi2 : ¬ (i : Int) < (i : Int) := by omega
      go_wp2
      go_ret
      exact ⟨rfl, hbr.out⟩
end
end Go.Proofs.YtigmdfdcflkggaaGreat
