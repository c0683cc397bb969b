/-
  The arguments of a state and the cursor in them: SetArgs, Args, Cursor, SetCursor, Status, SetStatus. Conditions: at most a million texts, of at most a million bytes each.
-/
import Derived.Test.YtigmdfdcflkggaaGreatStSet
import Derived.Deep.RegionHeld3
import Derived.Deep.Onto
namespace Go.Proofs.YtigmdfdcflkggaaGreat
open Go Go.RowKit Go.ChangeMaps

theorem infoStr : (Tryz.prog.info? 9).map (fun i => (i.zero, i.size, i.bytes)) = some (some (.string ⟨#[]⟩), 1, 16) := by kernel_rfl
section
variable {w w' : World} {B sb : Nat} {a : Ad} {pot : Nat} {t : Tg} {n : Int}
theorem txs_of_gv {g : Gv} (h : GvAt w g) : Txs w g.A g.n g.c g.l := ⟨h.1, h.2.1, h.2.2.1, fun hn => by
  obtain ⟨b, off, cur, e1, e2, e3⟩ := h.2.2.2 hn
  exact ⟨b, off, e1, e2.lt, fun j x hx => e2.cell (e3 j x hx)⟩⟩
theorem Txs.below {A : Option Addr} {m c : Nat} {l : List ByteArray} (h : Txs w A m c l) (k : Below w.heap.size w w') : Txs w' A m c l := ⟨h.1, h.2.1, h.2.2.1, fun hn => by
  obtain ⟨b, off, e1, e2, e3⟩ := h.2.2.2 hn
  exact ⟨b, off, e1, Nat.lt_of_lt_of_le e2 k.size, fun j x hx => (World.cell?_of_block (a := ⟨b, off + j, none⟩) (k.block b e2)).trans (e3 j x hx)⟩⟩
/-- A row of one's own as what is given. -/
theorem gv_of_own {base m : Nat} {v : Value} {l : List ByteArray} (h : w.ownsRow base 9 1 v m (l.map .string)) (hl : l.length = m) : ∃ A c, v = .slice A m c ∧ m ≤ c ∧ c ≤ maxLen ∧ ∀ x y : Int, GvAt w ⟨A, m, c, x, y, l⟩ := by
  rcases h.2 with ⟨rfl, rfl⟩ | ⟨g, cap, cur, rfl, hb, hg, h1, h2, h3, h4⟩
  · exact ⟨none, 0, rfl, Nat.le_refl _, Nat.zero_le _, fun x y => ⟨hl, Nat.le_refl _, Nat.zero_le _, fun h => absurd h (by simp)⟩⟩
  · refine ⟨_, cap, rfl, h1, h2, fun x y => ⟨hl, h1, h2, fun _ => ⟨g, 0, cur.toList, rfl, by unfold Blk; simpa using hg, fun j s hs => ?_⟩⟩⟩
    have e : (cur.toList.take (m * 1))[j]? = some (.string s) := by
      rw [h4, List.getElem?_map]
      rw [show l[j]? = some s from hs]; rfl
    rw [List.getElem?_take] at e
    split at e
    · rw [Nat.zero_add]; exact e
    · cases e
set_option maxHeartbeats 1000000 in
set_option maxRecDepth 100000 in
theorem Clone_any {A : Option Addr} {m c : Nat} {l : List ByteArray} (h : Txs w A m c l) (hm : m ≤ 1000000) :
    Calls Tryz.prog 97 #[.slice A m c] w fun e w' => ∃ v', e = .returned v' ∧ w'.ownsRow w.heap.size 9 1 v' m (l.map .string) ∧ Below w.heap.size w w' := by
  obtain ⟨hlen, hc, hcm, hcell⟩ := h
  unfold maxLen at hcm
  obtain ⟨i0, hi, hz0, hz1, hz2⟩ := info_parts infoStr
  have q22 : ∀ (w : World) (a : Option Addr) (n c n' c' : Nat), (binOp .eql 35 (.slice a n c) (.slice none n' c')).run Tryz.prog w = .ok (.bool a.isNone) w := fun w a n c n' c' => Lib.run_eql_slice_nil w _ _ a n c n' c' Tryz.underlying35
  cases A with
  | none =>
    have h0 : m = 0 := by
      rcases Nat.eq_zero_or_pos m with h | h
      · exact h
      · obtain ⟨b, off, h', _⟩ := hcell h
        cases h'
    subst h0
    obtain rfl := List.eq_nil_of_length_eq_zero hlen
    clear hi hz0 hz1 hz2
    go_enter Tryz.func97, Tryz.ntmps97
    go_wp2
    go_ret
    exact ⟨_, rfl, World.ownsRow_nil _ _ _ _, Below.refl _ _⟩
  | some ad =>
    have hnews : ∀ j u, (l.map Value.string)[j]? = some u → w.cell? (ad.add j) = some u := by
      intro j u hu
      have hpos : 0 < m := by
        rcases Nat.eq_zero_or_pos m with h | h
        · rw [List.getElem?_eq_none (by rw [List.length_map, hlen, h]; omega)] at hu; cases hu
        · exact h
      obtain ⟨b, off, h', _, hcc⟩ := hcell hpos
      injection h' with h'
      subst h'
      rw [add_plain0]
      rw [List.getElem?_map] at hu
      cases hl : l[j]? with
      | none => rw [hl] at hu; cases hu
      | some x => rw [hl] at hu; cases hu; exact hcc j x hl
    have hnews := Lib.hid hnews
    have hone : ∀ u ∈ l.map Value.string, u.oneCell' = true := fun u hu => by
      obtain ⟨x, _, rfl⟩ := List.mem_map.1 hu
      rfl
    clear hcell
    go_enter Tryz.func97, Tryz.ntmps97
    go_wp2_with (at_builtin; refine wpList_append_own _ rfl _ _ 35 rfl w.heap.size 9 i0 _ 1 16 Tryz.underlying35 hi hz0 hz1 hz2 rfl (by decide) _ _ _ rfl (World.ownsRow_made w #[] 0 (Nat.le_refl _) (Nat.zero_le _) (by simp)) ad m c (l.map Value.string) rfl ?qc1 ?qc2 ?qc3 ?qc4 ?qc5 ?qc6 ?_)
    case qc1 => rw [List.length_map, hlen, Nat.mul_one]
    case qc2 =>
      intro j u hj
      exact Lib.cell?_alloc_some _ (hnews.out j u hj)
    case qc3 => exact hone
    case qc4 => rw [Nat.zero_add]; simp only [maxLen]; omega
    case qc5 => rw [Nat.zero_add]; omega
    case qc6 => simp
    intro v' w1 hown hgrow _
    have hb : Below w.heap.size w w1 := ((Below.refl _ w).alloc (Nat.le_refl _) _).grown hgrow (by simp) (by intro k hk; simp [Value.ownBlock] at hk; omega)
    go_wp2
    go_ret
    exact ⟨v', rfl, by simpa using hown, hb⟩
theorem fieldA (A : Option Addr) (m c : Nat) (x y : Int) (W : World) : (Instr.field 103 (.agg #[.slice A m c, .int .i64 x, .int .i64 y]) 0).run Tryz.prog W = .ok (.slice A m c) W := by kernel_rfl
set_option maxRecDepth 100000 in
theorem Args_any (h : StAt w B sb a pot t n) (hm : t.cur.g.n ≤ 1000000) :
    Calls Tryz.prog 34 #[ptrV sb] w fun e w' => ∃ v', e = .returned v' ∧ w'.ownsRow w.heap.size 9 1 v' t.cur.g.n (t.cur.g.l.map .string) ∧ Below w.heap.size w w' := by
  have hi := sisNil_no h.blk
  have hg := th_getg h.th
  have c5 := h.blk.cell (i := 5) rfl
  have hlt := h.blk.lt
  have htx : Txs w t.cur.g.A t.cur.g.n t.cur.g.c t.cur.g.l := by
    obtain ⟨ms, fs, ev, ef, ea, et, h1, h2, _⟩ := h.th
    exact txs_of_gv h2.ga
  have hcl := fun (W : World) (hb : Below w.heap.size w W) => Clone_any (htx.below hb) hm
  generalize t.cur.g = g at hg hcl hm ⊢
  obtain ⟨A, m, c, x, y, l⟩ := g
  dsimp only at hg hcl hm ⊢
  have hfl := fieldA A m c x y
  unfold ptrV at hi hg c5 ⊢
  replace hcl := Lib.hid hcl
  clear h htx
  go_enter Tryz.func34, Tryz.ntmps34
  go_wp2_with fail
  refine hi.mono ?_
  rintro e w' ⟨rfl, hw⟩
  obtain rfl := hw.symm
  clear hi hw
  go_wp2_with fail
  refine hg.mono ?_
  rintro e w2 ⟨rfl, hb2⟩
  have hc := hcl.out w2 hb2
  have hsz := hb2.size
  replace hb2 := Lib.hid hb2
  clear hg
  go_wp2_with fail
  refine hc.mono ?_
  rintro e w3 ⟨v', rfl, hown, hb3⟩
  have hfin := Lib.hid (And.intro (World.ownsRow.mono hown hsz) (hb2.out.trans (hb3.mono hsz)))
  clear hc hown hb3 c5 hlt
  go_wp2
  go_ret
  exact ⟨_, rfl, hfin.out.1, hfin.out.2⟩
def Tg.setArgsE (m : Nat) (l : List ByteArray) : Int := if 1000 < m then 20 else if greatL l = true then 21 else 0
set_option maxRecDepth 100000 in
set_option maxHeartbeats 2000000 in
theorem SetArgs_ok (h : StAt w B sb a pot t n) {A : Option Addr} {m c : Nat} {l : List ByteArray} (htx : Txs w A m c l) (hm : ¬ 1000 < m) (hl : ∀ s ∈ l, s.size ≤ 1000000) (hgr : greatL l = false) :
    Calls Tryz.prog 32 #[ptrV sb, .slice A m c] w fun e w' => ∃ A' c', e = .returned (.int .i64 (t.setg ⟨A', m, c', 1, 0, l⟩).1) ∧ StAt w' B sb a (pot + 2) (t.setg ⟨A', m, c', 1, 0, l⟩).2 n ∧ FrT B a w w' ∧ ∀ g, (Value.slice A' m c').ownBlock = some g → w.heap.size ≤ g := by
  have hi := sisNil_no h.blk
  have hg := tooGreat_any htx hl (by omega)
  rw [hgr] at hg
  have hlen := htx.1
  have hcl := Clone_any (htx.below (drewN_below w 1)) (by omega)
  have hset := fun (W : World) (hb : Below w.heap.size w W) (g : Gv) (hg : GvAt W g) => th_setg (h.below hb).th g hg
  have hst := fun (W : World) (hb : Below w.heap.size w W) => h.below hb
  have c5 : w.cell? ⟨sb, 5, none⟩ = some (.pointer (some ⟨a.g, 0, none⟩)) := h.blk.cell (i := 5) rfl
  have hlt := h.blk.lt
  have hm1 : ¬ (1000 : Int) < (m : Int) := by omega
  have hk0 : w.drew.cell? ⟨sb, 5, none⟩ = some (.pointer (some ⟨a.g, 0, none⟩)) := c5
  obtain ⟨hc0, hc1⟩ := htx.2
  unfold ptrV at hi hset ⊢
  replace hset := Lib.hid hset
  replace hst := Lib.hid hst
  replace hcl := Lib.hid hcl
  replace hlen := Lib.hid hlen
  clear h htx hc1
  go_enter Tryz.func32, Tryz.ntmps32
  go_wp2_with fail
  refine hi.mono ?_
  rintro e w' ⟨rfl, hw⟩
  obtain rfl := hw.symm
  clear hi hw
  go_wp2_with fail
  refine hg.mono ?_
  rintro e w' ⟨rfl, hw⟩
  obtain rfl := hw.symm
  clear hg hw
  go_upto_region 7 with fail
  go_region_held3 (fun w' => w'.cell? ⟨sb, 5, none⟩ = some (.pointer (some ⟨a.g, 0, none⟩)))
    (first | go_keep | exact hk0 | exact hk1 | exact hk2)
    (first
      | (go_at_call 97; refine hcl.out.mono ?_; rintro e w2 ⟨v', rfl, hown, hb2⟩; have hnew : ∀ g, v'.ownBlock = some g → w.heap.size ≤ g := fun g hg => (hown.lt g hg).1; have hbz : Below w.heap.size w w2 := (drewN_below w 1).trans hb2; obtain ⟨A', c', rfl, hcc, hcm, hgv⟩ := gv_of_own hown hlen.out; replace hnew := Lib.hid hnew; have hk1 : w2.cell? ⟨sb, 5, none⟩ = some (.pointer (some ⟨a.g, 0, none⟩)) := (hst.out w2 hbz).blk.cell (i := 5) rfl; have hs2 := Lib.hid (hset.out w2 hbz ⟨A', m, c', 1, 0, l⟩ (hgv 1 0)); replace hbz := Lib.hid hbz; clear hown hb2 hgv)
      | (go_at_call 96; refine hs2.out.mono ?_; rintro e w5 ⟨rfl, q1, q2⟩; have hS5 := (hst.out w2 hbz.out).next q1 q2; have hk2 : w5.cell? ⟨sb, 5, none⟩ = some (.pointer (some ⟨a.g, 0, none⟩)) := hS5.blk.cell (i := 5) rfl; replace hS5 := Lib.hid hS5; replace q2 := Lib.hid ((FrT.of_below hbz.out).trans q2); clear q1))
  clear c5 hk0 hk1 hk2 hlt hcl hset hst hs2
  go_wp2
  go_ret
  exact ⟨A', c', rfl, hS5.out, q2.out, hnew.out⟩
set_option maxRecDepth 100000 in
theorem SetArgs_no (h : StAt w B sb a pot t n) {A : Option Addr} {m c : Nat} {l : List ByteArray} (htx : Txs w A m c l) (hn : m ≤ 1000000) (hl : ∀ s ∈ l, s.size ≤ 1000000) (hno : 1000 < m ∨ greatL l = true) :
    Calls Tryz.prog 32 #[ptrV sb, .slice A m c] w fun e w' => e = .returned (.int .i64 (Tg.setArgsE m l)) ∧ w' = w := by
  have hi := sisNil_no h.blk
  have hg := tooGreat_any htx hl hn
  have hc0 := htx.2.1
  by_cases hm : 1000 < m
  · have hm1 : (1000 : Int) < (m : Int) := by omega
    have hE : Tg.setArgsE m l = 20 := if_pos hm
    rw [hE]
    unfold ptrV at hi ⊢
    clear h htx hg
    go_enter Tryz.func32, Tryz.ntmps32
    go_wp2_with fail
    refine hi.mono ?_
    rintro e w' ⟨rfl, hw⟩
    obtain rfl := hw.symm
    go_wp2
    go_ret
    exact ⟨rfl, rfl⟩
  · have hm1 : ¬ (1000 : Int) < (m : Int) := by omega
    have hgr := hno.resolve_left hm
    have hE : Tg.setArgsE m l = 21 := by unfold Tg.setArgsE; rw [if_neg hm, if_pos hgr]
    rw [hE]
    rw [hgr] at hg
    unfold ptrV at hi ⊢
    clear h htx hgr hno hE
    go_enter Tryz.func32, Tryz.ntmps32
    go_wp2_with fail
    refine hi.mono ?_
    rintro e w' ⟨rfl, hw⟩
    obtain rfl := hw.symm
    go_wp2_with fail
    refine hg.mono ?_
    rintro e w' ⟨rfl, hw⟩
    obtain rfl := hw.symm
    go_wp2
    go_ret
    exact ⟨rfl, rfl⟩
end
end Go.Proofs.YtigmdfdcflkggaaGreat
