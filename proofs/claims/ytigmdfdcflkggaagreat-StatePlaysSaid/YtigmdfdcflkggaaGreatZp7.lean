/-
  The arguments of a state and the cursor in them: SetArgs, Args, Cursor, SetCursor, Status, SetStatus. Conditions: at most a million texts, of at most a million bytes each.
-/
import Derived.Deep.RegionHeld3
import Derived.Deep.Onto
import Derived.BigQuiet
import Derived.Test.YtigmdfdcflkggaaGreatZp6
namespace Go.Proofs.YtigmdfdcflkggaaGreat
open Go Go.RowKit Go.ChangeMaps

theorem infoStr : (Tryz.prog.info? 9).map (fun i => (i.zero, i.size, i.bytes)) = some (some (.string ⟨#[]⟩), 1, 16) := by kernel_rfl
section
variable {w w' : World} {B sb : Nat} {a : Ad} {pot : Nat} {t : Tg} {n : Int}
theorem txs_of_gv {g : Gv} (h : GvAt w g) : Txs w g.A g.n g.c g.l := ⟨h.1, h.2.1, h.2.2.1, fun hn => by
  obtain ⟨b, off, cur, e1, e2, e3⟩ := h.2.2.2 hn
  exact ⟨b, off, e1, e2.lt, fun j x hx => e2.cell (e3 j x hx)⟩⟩
theorem Txs.below {A : Option Addr} {m c : Nat} {l : List ByteArray} (h : Txs w A m c l) (k : Below w.heap.size w w') : Txs w' A m c l := ⟨h.1, h.2.1, h.2.2.1, fun hn => by
  obtain ⟨b, off, e1, e2, e3⟩ := h.2.2.2 hn
  exact ⟨b, off, e1, Nat.lt_of_lt_of_le e2 k.size, fun j x hx => (World.cell?_of_block (a := ⟨b, off + j, none⟩) (k.block b e2)).trans (e3 j x hx)⟩⟩
/-- A row of one's own as what is given. -/
theorem gv_of_own {base m : Nat} {v : Value} {l : List ByteArray} (h : w.ownsRow base 9 1 v m (l.map .string)) (hl : l.length = m) : ∃ A c, v = .slice A m c ∧ m ≤ c ∧ c ≤ maxLen ∧ ∀ x y : Int, GvAt w ⟨A, m, c, x, y, l⟩ := by
  rcases h.2 with ⟨rfl, rfl⟩ | ⟨g, cap, cur, rfl, hb, hg, h1, h2, h3, h4⟩
  · exact ⟨none, 0, rfl, Nat.le_refl _, Nat.zero_le _, fun x y => ⟨hl, Nat.le_refl _, Nat.zero_le _, fun h => absurd h (by simp)⟩⟩
  · refine ⟨_, cap, rfl, h1, h2, fun x y => ⟨hl, h1, h2, fun _ => ⟨g, 0, cur.toList, rfl, by unfold Blk; simpa using hg, fun j s hs => ?_⟩⟩⟩
    have e : (cur.toList.take (m * 1))[j]? = some (.string s) := by
      rw [h4, List.getElem?_map]
      rw [show l[j]? = some s from hs]; rfl
    rw [List.getElem?_take] at e
    split at e
    · rw [Nat.zero_add]; exact e
    · cases e
set_option maxHeartbeats 1000000 in
set_option maxRecDepth 100000 in
theorem Clone_any {A : Option Addr} {m c : Nat} {l : List ByteArray} (h : Txs w A m c l) (hm : m ≤ 1000000) :
    Calls Tryz.prog 97 #[.slice A m c] w fun e w' => ∃ v', e = .returned v' ∧ w'.ownsRow w.heap.size 9 1 v' m (l.map .string) ∧ Below w.heap.size w w' := by
  obtain ⟨hlen, hc, hcm, hcell⟩ := h
  unfold maxLen at hcm
  obtain ⟨i0, hi, hz0, hz1, hz2⟩ := info_parts infoStr
  have q22 : ∀ (w : World) (a : Option Addr) (n c n' c' : Nat), (binOp .eql 35 (.slice a n c) (.slice none n' c')).run Tryz.prog w = .ok (.bool a.isNone) w := fun w a n c n' c' => Lib.run_eql_slice_nil w _ _ a n c n' c' Tryz.underlying35
  cases A with
  | none =>
    have h0 : m = 0 := by
      rcases Nat.eq_zero_or_pos m with h | h
      · exact h
      · obtain ⟨b, off, h', _⟩ := hcell h
        cases h'
    subst h0
    obtain rfl := List.eq_nil_of_length_eq_zero hlen
    clear hi hz0 hz1 hz2
    go_enter Tryz.func97, Tryz.ntmps97
    go_wp2
    go_ret
    exact ⟨_, rfl, World.ownsRow_nil _ _ _ _, Below.refl _ _⟩
  | some ad =>
    have hnews : ∀ j u, (l.map Value.string)[j]? = some u → w.cell? (ad.add j) = some u := by
      intro j u hu
      have hpos : 0 < m := by
        rcases Nat.eq_zero_or_pos m with h | h
        · rw [List.getElem?_eq_none (by rw [List.length_map, hlen, h]; omega)] at hu; cases hu
        · exact h
      obtain ⟨b, off, h', _, hcc⟩ := hcell hpos
      injection h' with h'
      subst h'
      rw [add_plain0]
      rw [List.getElem?_map] at hu
      cases hl : l[j]? with
      | none => rw [hl] at hu; cases hu
      | some x => rw [hl] at hu; cases hu; exact hcc j x hl
    have hnews := Lib.hid hnews
    have hone : ∀ u ∈ l.map Value.string, u.oneCell' = true := fun u hu => by
      obtain ⟨x, _, rfl⟩ := List.mem_map.1 hu
      rfl
    clear hcell
    go_enter Tryz.func97, Tryz.ntmps97
    go_wp2_with (at_builtin; refine wpList_append_own _ rfl _ _ 35 rfl w.heap.size 9 i0 _ 1 16 Tryz.underlying35 hi hz0 hz1 hz2 rfl (by decide) _ _ _ rfl (World.ownsRow_made w #[] 0 (Nat.le_refl _) (Nat.zero_le _) (by simp)) ad m c (l.map Value.string) rfl ?qc1 ?qc2 ?qc3 ?qc4 ?qc5 ?qc6 ?_)
    case qc1 => rw [List.length_map, hlen, Nat.mul_one]
    case qc2 =>
      intro j u hj
      exact Lib.cell?_alloc_some _ (hnews.out j u hj)
    case qc3 => exact hone
    case qc4 => rw [Nat.zero_add]; simp only [maxLen]; omega
    case qc5 => rw [Nat.zero_add]; omega
    case qc6 => simp
    intro v' w1 hown hgrow _
    have hb : Below w.heap.size w w1 := ((Below.refl _ w).alloc (Nat.le_refl _) _).grown hgrow (by simp) (by intro k hk; simp [Value.ownBlock] at hk; omega)
    go_wp2
    go_ret
    exact ⟨v', rfl, by simpa using hown, hb⟩
theorem fieldA (A : Option Addr) (m c : Nat) (x y : Int) (W : World) : (Instr.field 103 (.agg #[.slice A m c, .int .i64 x, .int .i64 y]) 0).run Tryz.prog W = .ok (.slice A m c) W := by kernel_rfl
set_option maxRecDepth 100000 in
theorem Args_any (h : StAt w B sb a pot t n) (hm : t.cur.g.n ≤ 1000000) :
    Calls Tryz.prog 34 #[ptrV sb] w fun e w' => ∃ v', e = .returned v' ∧ w'.ownsRow w.heap.size 9 1 v' t.cur.g.n (t.cur.g.l.map .string) ∧ Below w.heap.size w w' := by
  have hi := sisNil_no h.blk
  have hg := th_getg h.th
  have c5 := h.blk.cell (i := 5) rfl
  have hlt := h.blk.lt
  have htx : Txs w t.cur.g.A t.cur.g.n t.cur.g.c t.cur.g.l := by
    obtain ⟨ms, fs, ev, ef, ea, et, h1, h2, _⟩ := h.th
    exact txs_of_gv h2.ga
  have hcl := fun (W : World) (hb : Below w.heap.size w W) => Clone_any (htx.below hb) hm
  generalize t.cur.g = g at hg hcl hm ⊢
  obtain ⟨A, m, c, x, y, l⟩ := g
  dsimp only at hg hcl hm ⊢
  have hfl := fieldA A m c x y
  unfold ptrV at hi hg c5 ⊢
  replace hcl := Lib.hid hcl
  clear h htx
  go_enter Tryz.func34, Tryz.ntmps34
  go_wp2_with fail
  refine hi.mono ?_
  rintro e w' ⟨rfl, hw⟩
  obtain rfl := hw.symm
  clear hi hw
  go_wp2_with fail
  refine hg.mono ?_
  rintro e w2 ⟨rfl, hb2⟩
  have hc := hcl.out w2 hb2
  have hsz := hb2.size
  replace hb2 := Lib.hid hb2
  clear hg
  go_wp2_with fail
  refine hc.mono ?_
  rintro e w3 ⟨v', rfl, hown, hb3⟩
  have hfin := Lib.hid (And.intro (World.ownsRow.mono hown hsz) (hb2.out.trans (hb3.mono hsz)))
  clear hc hown hb3 c5 hlt
  go_wp2
  go_ret
  exact ⟨_, rfl, hfin.out.1, hfin.out.2⟩
def Tg.setArgsE (m : Nat) (l : List ByteArray) : Int := if 1000 < m then 20 else if greatL l = true then 21 else 0
set_option maxRecDepth 100000 in
set_option maxHeartbeats 2000000 in
theorem SetArgs_ok (h : StAt w B sb a pot t n) {A : Option Addr} {m c : Nat} {l : List ByteArray} (htx : Txs w A m c l) (hm : ¬ 1000 < m) (hl : ∀ s ∈ l, s.size ≤ 1000000) (hgr : greatL l = false) :
    Calls Tryz.prog 32 #[ptrV sb, .slice A m c] w fun e w' => ∃ A' c', e = .returned (.int .i64 (t.setg ⟨A', m, c', 1, 0, l⟩).1) ∧ StAt w' B sb a (pot + 2) (t.setg ⟨A', m, c', 1, 0, l⟩).2 n ∧ FrT B a w w' ∧ ∀ g, (Value.slice A' m c').ownBlock = some g → w.heap.size ≤ g := by
  have hi := sisNil_no h.blk
  have hg := tooGreat_any htx hl (by omega)
  rw [hgr] at hg
  have hlen := htx.1
  have hcl := Clone_any (htx.below (drewN_below w 1)) (by omega)
  have hset := fun (W : World) (hb : Below w.heap.size w W) (g : Gv) (hg : GvAt W g) => th_setg (h.below hb).th g hg
  have hst := fun (W : World) (hb : Below w.heap.size w W) => h.below hb
  have c5 : w.cell? ⟨sb, 5, none⟩ = some (.pointer (some ⟨a.g, 0, none⟩)) := h.blk.cell (i := 5) rfl
  have hlt := h.blk.lt
  have hm1 : ¬ (1000 : Int) < (m : Int) := by omega
  have hk0 : w.drew.cell? ⟨sb, 5, none⟩ = some (.pointer (some ⟨a.g, 0, none⟩)) := c5
  obtain ⟨hc0, hc1⟩ := htx.2
  unfold ptrV at hi hset ⊢
  replace hset := Lib.hid hset
  replace hst := Lib.hid hst
  replace hcl := Lib.hid hcl
  replace hlen := Lib.hid hlen
  clear h htx hc1
  go_enter Tryz.func32, Tryz.ntmps32
  go_wp2_with fail
  refine hi.mono ?_
  rintro e w' ⟨rfl, hw⟩
  obtain rfl := hw.symm
  clear hi hw
  go_wp2_with fail
  refine hg.mono ?_
  rintro e w' ⟨rfl, hw⟩
  obtain rfl := hw.symm
  clear hg hw
  go_upto_region 7 with fail
  go_region_held3 (fun w' => w'.cell? ⟨sb, 5, none⟩ = some (.pointer (some ⟨a.g, 0, none⟩)))
    (first | go_keep | exact hk0 | exact hk1 | exact hk2)
    (first
      | (go_at_call 97; refine hcl.out.mono ?_; rintro e w2 ⟨v', rfl, hown, hb2⟩; have hnew : ∀ g, v'.ownBlock = some g → w.heap.size ≤ g := fun g hg => (hown.lt g hg).1; have hbz : Below w.heap.size w w2 := (drewN_below w 1).trans hb2; obtain ⟨A', c', rfl, hcc, hcm, hgv⟩ := gv_of_own hown hlen.out; replace hnew := Lib.hid hnew; have hk1 : w2.cell? ⟨sb, 5, none⟩ = some (.pointer (some ⟨a.g, 0, none⟩)) := (hst.out w2 hbz).blk.cell (i := 5) rfl; have hs2 := Lib.hid (hset.out w2 hbz ⟨A', m, c', 1, 0, l⟩ (hgv 1 0)); replace hbz := Lib.hid hbz; clear hown hb2 hgv)
      | (go_at_call 96; refine hs2.out.mono ?_; rintro e w5 ⟨rfl, q1, q2⟩; have hS5 := (hst.out w2 hbz.out).next q1 q2; have hk2 : w5.cell? ⟨sb, 5, none⟩ = some (.pointer (some ⟨a.g, 0, none⟩)) := hS5.blk.cell (i := 5) rfl; replace hS5 := Lib.hid hS5; replace q2 := Lib.hid ((FrT.of_below hbz.out).trans q2); clear q1))
  clear c5 hk0 hk1 hk2 hlt hcl hset hst hs2
  go_wp2
  go_ret
  exact ⟨A', c', rfl, hS5.out, q2.out, hnew.out⟩
set_option maxRecDepth 100000 in
theorem SetArgs_no (h : StAt w B sb a pot t n) {A : Option Addr} {m c : Nat} {l : List ByteArray} (htx : Txs w A m c l) (hn : m ≤ 1000000) (hl : ∀ s ∈ l, s.size ≤ 1000000) (hno : 1000 < m ∨ greatL l = true) :
    Calls Tryz.prog 32 #[ptrV sb, .slice A m c] w fun e w' => e = .returned (.int .i64 (Tg.setArgsE m l)) ∧ w' = w := by
  have hi := sisNil_no h.blk
  have hg := tooGreat_any htx hl hn
  have hc0 := htx.2.1
  by_cases hm : 1000 < m
  · have hm1 : (1000 : Int) < (m : Int) := by omega
    have hE : Tg.setArgsE m l = 20 := if_pos hm
    rw [hE]
    unfold ptrV at hi ⊢
    clear h htx hg
    go_enter Tryz.func32, Tryz.ntmps32
    go_wp2_with fail
    refine hi.mono ?_
    rintro e w' ⟨rfl, hw⟩
    obtain rfl := hw.symm
    go_wp2
    go_ret
    exact ⟨rfl, rfl⟩
  · have hm1 : ¬ (1000 : Int) < (m : Int) := by omega
    have hgr := hno.resolve_left hm
    have hE : Tg.setArgsE m l = 21 := by unfold Tg.setArgsE; rw [if_neg hm, if_pos hgr]
    rw [hE]
    rw [hgr] at hg
    unfold ptrV at hi ⊢
    clear h htx hgr hno hE
    go_enter Tryz.func32, Tryz.ntmps32
    go_wp2_with fail
    refine hi.mono ?_
    rintro e w' ⟨rfl, hw⟩
    obtain rfl := hw.symm
    go_wp2_with fail
    refine hg.mono ?_
    rintro e w' ⟨rfl, hw⟩
    obtain rfl := hw.symm
    go_wp2
    go_ret
    exact ⟨rfl, rfl⟩
end
end Go.Proofs.YtigmdfdcflkggaaGreat
/-
  The functions, aliases and traps of a state. Conditions: keys of at most 200 bytes, texts of at most a million.
-/
namespace Go.Proofs.YtigmdfdcflkggaaGreat
open Go Go.RowKit Go.ChangeMaps

section
variable {w w' : World} {B sb : Nat} {a : Ad} {pot : Nat} {t : Tg} {n : Int}
theorem bytesNe {s : ByteArray} {l : List UInt8} (h : ¬ s = ⟨l.toArray⟩) : (s.toList == l) = false := by
  rw [beq_eq_false_iff_ne]
  intro e
  rw [ByteArray.toList_eq] at e
  exact h (by cases s with | mk d => exact congrArg ByteArray.mk (by rw [← e]))
def trapB (s : ByteArray) : Bool := decide (s = ⟨#[69, 88, 73, 84]⟩) || decide (s = ⟨#[72, 85, 80]⟩) || decide (s = ⟨#[73, 78, 84]⟩) || decide (s = ⟨#[84, 69, 82, 77]⟩) || decide (s = ⟨#[85, 83, 82, 49]⟩)
def trapE (s : ByteArray) : Int := if trapB s = true then 0 else 16
set_option maxRecDepth 100000 in
theorem checkTrap_any (h : Blk w sb (stC a n) 110) (s : ByteArray) :
    Calls Tryz.prog 98 #[ptrV sb, .string s] w fun e w' => e = .returned (.int .i64 (trapE s)) ∧ w' = w := by
  have hi := sisNil_no h
  unfold ptrV at hi ⊢
  clear h
  by_cases h0 : s = ⟨#[69, 88, 73, 84]⟩
  · subst h0
    rw [show trapE ⟨#[69, 88, 73, 84]⟩ = 0 from rfl]
    go_enter Tryz.func98, Tryz.ntmps98
    go_wp2_with fail
    refine hi.mono ?_
    rintro e w' ⟨rfl, hw⟩
    obtain rfl := hw.symm
    go_wp2
    go_ret
    exact ⟨rfl, rfl⟩
  by_cases h1 : s = ⟨#[72, 85, 80]⟩
  · subst h1
    rw [show trapE ⟨#[72, 85, 80]⟩ = 0 from rfl]
    go_enter Tryz.func98, Tryz.ntmps98
    go_wp2_with fail
    refine hi.mono ?_
    rintro e w' ⟨rfl, hw⟩
    obtain rfl := hw.symm
    go_wp2
    go_ret
    exact ⟨rfl, rfl⟩
  by_cases h2 : s = ⟨#[73, 78, 84]⟩
  · subst h2
    rw [show trapE ⟨#[73, 78, 84]⟩ = 0 from rfl]
    go_enter Tryz.func98, Tryz.ntmps98
    go_wp2_with fail
    refine hi.mono ?_
    rintro e w' ⟨rfl, hw⟩
    obtain rfl := hw.symm
    go_wp2
    go_ret
    exact ⟨rfl, rfl⟩
  by_cases h3 : s = ⟨#[84, 69, 82, 77]⟩
  · subst h3
    rw [show trapE ⟨#[84, 69, 82, 77]⟩ = 0 from rfl]
    go_enter Tryz.func98, Tryz.ntmps98
    go_wp2_with fail
    refine hi.mono ?_
    rintro e w' ⟨rfl, hw⟩
    obtain rfl := hw.symm
    go_wp2
    go_ret
    exact ⟨rfl, rfl⟩
  by_cases h4 : s = ⟨#[85, 83, 82, 49]⟩
  · subst h4
    rw [show trapE ⟨#[85, 83, 82, 49]⟩ = 0 from rfl]
    go_enter Tryz.func98, Tryz.ntmps98
    go_wp2_with fail
    refine hi.mono ?_
    rintro e w' ⟨rfl, hw⟩
    obtain rfl := hw.symm
    go_wp2
    go_ret
    exact ⟨rfl, rfl⟩
  have hE : trapE s = 16 := by unfold trapE trapB; simp [h0, h1, h2, h3, h4]
  rw [hE]
  clear hE
  have g0 : (s.toList == [69, 88, 73, 84]) = false := bytesNe h0
  have g1 : (s.toList == [72, 85, 80]) = false := bytesNe h1
  have g2 : (s.toList == [73, 78, 84]) = false := bytesNe h2
  have g3 : (s.toList == [84, 69, 82, 77]) = false := bytesNe h3
  have g4 : (s.toList == [85, 83, 82, 49]) = false := bytesNe h4
  clear h0 h1 h2 h3 h4
  go_enter Tryz.func98, Tryz.ntmps98
  go_wp2_with fail
  refine hi.mono ?_
  rintro e w' ⟨rfl, hw⟩
  obtain rfl := hw.symm
  go_wp2
  go_ret
  exact ⟨rfl, rfl⟩
set_option maxRecDepth 100000 in
theorem Trap_any (h : StAt w B sb a pot t n) (k : ByteArray) :
    Calls Tryz.prog 37 #[ptrV sb, .string k] w fun e w' => e = .returned (.tuple #[.string ((t.cur.t k).getD noW), .bool (t.cur.t k).isSome]) ∧ Below w.heap.size w w' := by
  have hi := sisNil_no h.blk
  have hg := th_gett h.th k
  have c0 := h.blk.cell (i := 3) rfl
  have hlt := h.blk.lt
  generalize (t.cur.t k).getD noW = V at hg ⊢
  generalize (t.cur.t k).isSome = E at hg ⊢
  unfold encW at hg
  unfold ptrV at hi hg c0 ⊢
  clear h
  go_enter Tryz.func37, Tryz.ntmps37
  go_wp2_with fail
  refine hi.mono ?_
  rintro e w' ⟨rfl, hw⟩
  obtain rfl := hw.symm
  clear hi hw
  go_wp2_with fail
  refine hg.mono ?_
  rintro e w2 ⟨rfl, hb⟩
  have hfin := Lib.hid (hb.alloc hb.size (.cells #[.string V] 126))
  clear hg hb c0 hlt
  go_wp2
  go_ret2
  exact ⟨rfl, hfin.out⟩
set_option maxRecDepth 100000 in
theorem Alias_any (h : StAt w B sb a pot t n) (k : ByteArray) :
    Calls Tryz.prog 70 #[ptrV sb, .string k] w fun e w' => e = .returned (.tuple #[.string ((t.cur.a k).getD noW), .bool (t.cur.a k).isSome]) ∧ Below w.heap.size w w' := by
  have hi := sisNil_no h.blk
  have hg := th_geta h.th k
  have c0 := h.blk.cell (i := 2) rfl
  have hlt := h.blk.lt
  generalize (t.cur.a k).getD noW = V at hg ⊢
  generalize (t.cur.a k).isSome = E at hg ⊢
  unfold encW at hg
  unfold ptrV at hi hg c0 ⊢
  clear h
  go_enter Tryz.func70, Tryz.ntmps70
  go_wp2_with fail
  refine hi.mono ?_
  rintro e w' ⟨rfl, hw⟩
  obtain rfl := hw.symm
  clear hi hw
  go_wp2_with fail
  refine hg.mono ?_
  rintro e w2 ⟨rfl, hb⟩
  have hfin := Lib.hid (hb.alloc hb.size (.cells #[.string V] 126))
  clear hg hb c0 hlt
  go_wp2
  go_ret2
  exact ⟨rfl, hfin.out⟩
set_option maxRecDepth 100000 in
set_option maxHeartbeats 2000000 in
theorem SetTrap_ok (h : StAt w B sb a pot t n) (k v : ByteArray) (hk : k.size ≤ 200) (hv1 : v.size ≤ 1000000) (hnm : trapB k = true) (hv : ¬ 4096 < v.size) :
    Calls Tryz.prog 35 #[ptrV sb, .string k, .string v] w fun e w' => e = .returned (.int .i64 (t.putt k v).1) ∧ StAt w' B sb a (pot + 2) (t.putt k v).2 n ∧ FrT B a w w' := by
  have hc := checkTrap_any h.blk k
  unfold trapE at hc
  rw [if_pos hnm] at hc
  have hput := fun (W : World) (hb : Below w.heap.size w W) => th_putt (h.below hb).th k v hk
  have hst := fun (W : World) (hb : Below w.heap.size w W) => h.below hb
  unfold encW at hput
  have hbC : Below w.heap.size w (w.alloc (.cells #[.string v] 9)) := Below.of_alloc w _
  have bC : Blk (w.alloc (.cells #[.string v] 9)) w.heap.size [.string v] 9 := Blk.new w _ _
  have htx : Txs (w.alloc (.cells #[.string v] 9)) (some ⟨w.heap.size, 0, none⟩) 1 1 [v] := ⟨rfl, Nat.le_refl _, by decide, fun _ => ⟨w.heap.size, 0, rfl, bC.lt, fun j x hx => by
    cases j with
    | zero => cases hx; exact bC.cell (i := 0) rfl
    | succ j => cases hx⟩⟩
  have hg := tooGreat_any htx (fun s hs => by rw [List.mem_singleton] at hs; rw [hs]; exact hv1) (by decide)
  have hgr : greatL [v] = false := by unfold greatL; simp [hv]
  rw [hgr] at hg
  unfold ptrV at *
  replace hput := Lib.hid hput
  replace hst := Lib.hid hst
  replace hbC := Lib.hid hbC
  clear htx bC hgr h
  go_enter Tryz.func35, Tryz.ntmps35
  go_wp2_with fail
  refine hc.mono ?_
  rintro e w' ⟨rfl, hw⟩
  obtain rfl := hw.symm
  clear hc hw
  go_wp2_with fail
  refine hg.mono ?_
  rintro e w' ⟨rfl, hw⟩
  obtain rfl := hw.symm
  generalize (w.alloc (.cells #[.string v] 9)) = wC at hbC ⊢
  have hSC := hst.out wC hbC.out
  have c0 := hSC.blk.cell (i := 3) rfl
  have cl := hSC.blk.lt
  unfold ptrV at c0
  have hp := hput.out wC hbC.out
  replace hSC := Lib.hid hSC
  clear hg hw
  go_wp2_with fail
  refine hp.mono ?_
  rintro e w5 ⟨rfl, q1, q2⟩
  have hfin := Lib.hid (And.intro (hSC.out.next q1 q2) ((FrT.of_below hbC.out).trans q2))
  clear hp q1 q2 c0 cl
  go_wp2
  go_ret
  exact ⟨rfl, hfin.out⟩
set_option maxRecDepth 100000 in
theorem SetTrap_bad (h : StAt w B sb a pot t n) (k v : ByteArray) (hnm : ¬ trapB k = true) :
    Calls Tryz.prog 35 #[ptrV sb, .string k, .string v] w fun e w' => e = .returned (.int .i64 16) ∧ w' = w := by
  have hc := checkTrap_any h.blk k
  unfold trapE at hc
  rw [if_neg hnm] at hc
  unfold ptrV at hc ⊢
  clear h hnm
  go_enter Tryz.func35, Tryz.ntmps35
  go_wp2_with fail
  refine hc.mono ?_
  rintro e w' ⟨rfl, hw⟩
  obtain rfl := hw.symm
  clear hc hw
  go_wp2
  go_ret
  exact ⟨rfl, rfl⟩
end
end Go.Proofs.YtigmdfdcflkggaaGreat
/-
  Calls of a state that are few steps each: Func, SetFunc, UnsetFunc, Unalias, Untrap, Cursor, SetCursor, Status. Conditions: keys of at most 200 bytes.
-/
namespace Go.Proofs.YtigmdfdcflkggaaGreat
open Go Go.RowKit Go.ChangeMaps

section
variable {w w' : World} {B sb : Nat} {a : Ad} {pot : Nat} {t : Tg} {n : Int}
def Tg.setF (t : Tg) (k : ByteArray) (x : Nd) : Int × Tg := if nameB k = true then t.putf k x else (16, t)
def Tg.unsetF (t : Tg) (k : ByteArray) : Int × Tg := if nameB k = true then (if (t.cur.f k).isSome = true then t.delf k else (10, t)) else (16, t)
def Tg.unalias (t : Tg) (k : ByteArray) : Int × Tg := if (t.cur.a k).isSome = true then t.dela k else (10, t)
def Tg.untrap (t : Tg) (k : ByteArray) : Int × Tg := if trapB k = true then t.delt k else (16, t)
set_option maxRecDepth 100000 in
theorem Untrap_any (h : StAt w B sb a pot t n) (k : ByteArray) :
    Calls Tryz.prog 46 #[ptrV sb, .string k] w fun e w' => e = .returned (.int .i64 (t.untrap k).1) ∧ StAt w' B sb a (pot + 2) (t.untrap k).2 n ∧ FrT B a w w' := by
  have hc := checkTrap_any h.blk k
  unfold trapE at hc
  have hS := Lib.hid h
  have hd := th_delt h.th k
  have c3 := h.blk.cell (i := 3) rfl
  have hlt := h.blk.lt
  unfold ptrV at hc hd c3 ⊢
  clear h
  by_cases hnm : trapB k = true
  · rw [if_pos hnm] at hc
    have e : t.untrap k = t.delt k := if_pos hnm
    rw [e]
    clear e hnm
    go_enter Tryz.func46, Tryz.ntmps46
    go_wp2_with fail
    refine hc.mono ?_
    rintro e w' ⟨rfl, hw⟩
    obtain rfl := hw.symm
    clear hc hw
    go_wp2_with fail
    refine hd.mono ?_
    rintro e w4 ⟨rfl, q1, q2⟩
    have hfin := Lib.hid (And.intro (hS.out.next q1 q2) q2)
    clear hd q1 q2 c3 hlt
    go_wp2
    go_ret
    exact ⟨rfl, hfin.out⟩
  · rw [if_neg hnm] at hc
    have e : t.untrap k = (16, t) := if_neg hnm
    rw [e]
    clear e hnm hd
    go_enter Tryz.func46, Tryz.ntmps46
    go_wp2_with fail
    refine hc.mono ?_
    rintro e w' ⟨rfl, hw⟩
    obtain rfl := hw.symm
    clear hc hw
    go_wp2
    go_ret
    exact ⟨rfl, hS.out.mono (by omega), FrT.of_below (Below.refl _ _)⟩
set_option maxRecDepth 100000 in
theorem Unalias_any (h : StAt w B sb a pot t n) (k : ByteArray) :
    Calls Tryz.prog 45 #[ptrV sb, .string k] w fun e w' => e = .returned (.int .i64 (t.unalias k).1) ∧ StAt w' B sb a (pot + 2) (t.unalias k).2 n ∧ FrT B a w w' := by
  have hi := sisNil_no h.blk
  have hg := th_geta h.th k
  have hst := fun (W : World) (hb : Below w.heap.size w W) => h.below hb
  have hd := fun (W : World) (hb : Below w.heap.size w W) => th_dela (h.below hb).th k
  have c2 := h.blk.cell (i := 2) rfl
  have hlt := h.blk.lt
  have hT : t.unalias k = if (t.cur.a k).isSome = true then t.dela k else (10, t) := rfl
  rw [hT]
  generalize (t.cur.a k).getD noW = V at hg
  generalize (t.cur.a k).isSome = E at hg ⊢
  unfold encW at hg
  unfold ptrV at hi hg hd c2 ⊢
  replace hst := Lib.hid hst
  replace hd := Lib.hid hd
  clear h hT
  cases E
  · rw [if_neg (by decide)]
    clear hd
    go_enter Tryz.func45, Tryz.ntmps45
    go_wp2_with fail
    refine hi.mono ?_
    rintro e w' ⟨rfl, hw⟩
    obtain rfl := hw.symm
    clear hi hw
    go_wp2_with fail
    refine hg.mono ?_
    rintro e w2 ⟨rfl, hb⟩
    have hbC := hb.alloc hb.size (.cells #[.string V] 126)
    have hfin := Lib.hid (And.intro ((hst.out _ hbC).mono (Nat.le_add_right pot 2)) (FrT.of_below (B := B) (a := a) hbC))
    clear hg hb c2 hlt hbC
    go_wp2
    go_ret
    exact ⟨rfl, hfin.out⟩
  · rw [if_pos rfl]
    go_enter Tryz.func45, Tryz.ntmps45
    go_wp2_with fail
    refine hi.mono ?_
    rintro e w' ⟨rfl, hw⟩
    obtain rfl := hw.symm
    clear hi hw
    go_wp2_with fail
    refine hg.mono ?_
    rintro e w2 ⟨rfl, hb⟩
    have hbC := Lib.hid (hb.alloc hb.size (.cells #[.string V] 126))
    have hS := hst.out _ hbC.out
    have hdd := hd.out _ hbC.out
    have k2 : (w2.alloc (.cells #[.string V] 126)).cell? ⟨sb, 2, none⟩ = some (.pointer (some ⟨a.a, 0, none⟩)) := hS.blk.cell (i := 2) rfl
    have kl := hS.blk.lt
    replace hS := Lib.hid hS
    clear hg hb c2 hlt
    unfold ptrV at hdd
    go_wp2_with fail
    refine hdd.mono ?_
    rintro e w4 ⟨rfl, q1, q2⟩
    have hfin := Lib.hid (And.intro (hS.out.next q1 q2) ((FrT.of_below hbC.out).trans q2))
    clear hdd q1 q2 k2 kl
    go_wp2
    go_ret
    exact ⟨rfl, hfin.out⟩
set_option maxRecDepth 100000 in
theorem UnsetFunc_ok (h : StAt w B sb a pot t n) (k : ByteArray) (hk : k.size ≤ 200) (hnm : nameB k = true) :
    Calls Tryz.prog 43 #[ptrV sb, .string k] w fun e w' => e = .returned (.int .i64 (t.unsetF k).1) ∧ StAt w' B sb a (pot + 2) (t.unsetF k).2 n ∧ FrT B a w w' := by
  have hi := checkName_any h.blk k (by omega)
  unfold checkE at hi
  have hg := th_getf h.th k
  have hst := fun (W : World) (hb : Below w.heap.size w W) => h.below hb
  have hd := fun (W : World) (hb : Below w.heap.size w W) => th_delf (h.below hb).th k
  have c2 := h.blk.cell (i := 1) rfl
  have hlt := h.blk.lt
  have hT : t.unsetF k = if (t.cur.f k).isSome = true then t.delf k else (10, t) := if_pos hnm
  rw [hT]
  rw [if_pos hnm] at hi
  generalize (t.cur.f k).getD noN = V at hg
  obtain ⟨v0, v1⟩ := V
  generalize (t.cur.f k).isSome = E at hg ⊢
  unfold encN at hg
  unfold ptrV at hi hg hd c2 ⊢
  replace hst := Lib.hid hst
  replace hd := Lib.hid hd
  clear h hT hnm
  cases E
  · rw [if_neg (by decide)]
    clear hd
    go_enter Tryz.func43, Tryz.ntmps43
    go_wp2_with fail
    refine hi.mono ?_
    rintro e w' ⟨rfl, hw⟩
    obtain rfl := hw.symm
    clear hi hw
    go_wp2_with fail
    refine hg.mono ?_
    rintro e w2 ⟨rfl, hb⟩
    have hbC := hb.alloc hb.size (.cells #[.int .i64 v0, .bool false, .string v1, .bool false, .slice none 0 0, .slice none 0 0, .slice none 0 0, .slice none 0 0, .slice none 0 0] 88)
    have hfin := Lib.hid (And.intro ((hst.out _ hbC).mono (Nat.le_add_right pot 2)) (FrT.of_below (B := B) (a := a) hbC))
    clear hg hb c2 hlt hbC
    go_wp2
    go_ret
    exact ⟨rfl, hfin.out⟩
  · rw [if_pos rfl]
    go_enter Tryz.func43, Tryz.ntmps43
    go_wp2_with fail
    refine hi.mono ?_
    rintro e w' ⟨rfl, hw⟩
    obtain rfl := hw.symm
    clear hi hw
    go_wp2_with fail
    refine hg.mono ?_
    rintro e w2 ⟨rfl, hb⟩
    have hbC := Lib.hid (hb.alloc hb.size (.cells #[.int .i64 v0, .bool false, .string v1, .bool false, .slice none 0 0, .slice none 0 0, .slice none 0 0, .slice none 0 0, .slice none 0 0] 88))
    have hS := hst.out _ hbC.out
    have hdd := hd.out _ hbC.out
    have k2 : (w2.alloc (.cells #[.int .i64 v0, .bool false, .string v1, .bool false, .slice none 0 0, .slice none 0 0, .slice none 0 0, .slice none 0 0, .slice none 0 0] 88)).cell? ⟨sb, 1, none⟩ = some (.pointer (some ⟨a.f, 0, none⟩)) := hS.blk.cell (i := 1) rfl
    have kl := hS.blk.lt
    replace hS := Lib.hid hS
    clear hg hb c2 hlt
    unfold ptrV at hdd
    go_wp2_with fail
    refine hdd.mono ?_
    rintro e w4 ⟨rfl, q1, q2⟩
    have hfin := Lib.hid (And.intro (hS.out.next q1 q2) ((FrT.of_below hbC.out).trans q2))
    clear hdd q1 q2 k2 kl
    go_wp2
    go_ret
    exact ⟨rfl, hfin.out⟩
set_option maxRecDepth 100000 in
theorem UnsetFunc_any (h : StAt w B sb a pot t n) (k : ByteArray) (hk : k.size ≤ 200) :
    Calls Tryz.prog 43 #[ptrV sb, .string k] w fun e w' => e = .returned (.int .i64 (t.unsetF k).1) ∧ StAt w' B sb a (pot + 2) (t.unsetF k).2 n ∧ FrT B a w w' := by
  by_cases hnm : nameB k = true
  · exact UnsetFunc_ok h k hk hnm
  · rw [show t.unsetF k = (16, t) from if_neg hnm]
    have hi := checkName_any h.blk k (by omega)
    unfold checkE at hi
    rw [if_neg hnm] at hi
    have hS := Lib.hid h
    unfold ptrV at hi ⊢
    clear h hnm
    go_enter Tryz.func43, Tryz.ntmps43
    go_wp2_with fail
    refine hi.mono ?_
    rintro e w' ⟨rfl, hw⟩
    obtain rfl := hw.symm
    clear hi hw
    go_wp2
    go_ret
    exact ⟨rfl, hS.out.mono (by omega), FrT.of_below (Below.refl _ _)⟩
set_option maxRecDepth 100000 in
set_option maxHeartbeats 4000000 in
theorem Func_any (h : StAt w B sb a pot t n) (k : ByteArray) :
    Calls Tryz.prog 72 #[ptrV sb, .string k] w fun e w' => e = .returned (.tuple #[encN ((t.cur.f k).getD noN), .bool (t.cur.f k).isSome]) ∧ Below w.heap.size w w' := by
  obtain ⟨z, hz⟩ : ∃ z, w.heap.size = z := ⟨_, rfl⟩
  have hb0 : Below z w (w.alloc (.cells #[.int .i64 0, .bool false, .string ⟨#[]⟩, .bool false, .slice none 0 0, .slice none 0 0, .slice none 0 0, .slice none 0 0, .slice none 0 0] 88)) := by rw [← hz]; exact Below.of_alloc w _
  have b0 : Blk (w.alloc (.cells #[.int .i64 0, .bool false, .string ⟨#[]⟩, .bool false, .slice none 0 0, .slice none 0 0, .slice none 0 0, .slice none 0 0, .slice none 0 0] 88)) z [.int .i64 0, .bool false, .string ⟨#[]⟩, .bool false, .slice none 0 0, .slice none 0 0, .slice none 0 0, .slice none 0 0, .slice none 0 0] 88 := by rw [← hz]; exact Blk.new w _ _
  have h1 := h.below (by rw [hz]; exact hb0)
  have hi := sisNil_no h1.blk
  have hg := th_getf h1.th k
  have c0 := h1.blk.cell (i := 1) rfl
  have hlt := h1.blk.lt
  generalize (t.cur.f k).getD noN = V at hg ⊢
  generalize (t.cur.f k).isSome = E at hg ⊢
  obtain ⟨x0, x1⟩ := V
  unfold encN at hg ⊢
  rw [hz]
  unfold ptrV at hi hg c0 ⊢
  dsimp only at hg ⊢
  clear h h1
  replace hb0 := Lib.hid hb0
  replace b0 := Lib.hid b0
  go_enter Tryz.func72, Tryz.ntmps72
  go_upto_region 1 with fail
  try rw [hz]
  generalize (w.alloc (.cells #[.int .i64 0, .bool false, .string ⟨#[]⟩, .bool false, .slice none 0 0, .slice none 0 0, .slice none 0 0, .slice none 0 0, .slice none 0 0] 88)) = w1 at hb0 b0 hi hg c0 hlt ⊢
  replace hz := Lib.hid hz
  go_wp2_with fail
  refine hi.mono ?_
  rintro e w' ⟨rfl, hw⟩
  obtain rfl := hw.symm
  clear hi hw
  go_wp2_with fail
  refine hg.mono ?_
  rintro e w2 ⟨rfl, hb2⟩
  have b2 : Blk w2 z _ _ := (hb2.block z b0.out.lt).trans b0.out
  have hbz : Below z w w2 := hb0.out.trans (hb2.mono (by have := b0.out.lt; omega))
  have e0 := b2.cell (i := 0) rfl
  have e1 := b2.cell (i := 1) rfl
  have e2 := b2.cell (i := 2) rfl
  have e3 := b2.cell (i := 3) rfl
  have e4 := b2.cell (i := 4) rfl
  have e5 := b2.cell (i := 5) rfl
  have e6 := b2.cell (i := 6) rfl
  have e7 := b2.cell (i := 7) rfl
  have e8 := b2.cell (i := 8) rfl
  have f0 := b2.frozen 0
  have f1 := b2.frozen 1
  have f2 := b2.frozen 2
  have f3 := b2.frozen 3
  have f4 := b2.frozen 4
  have f5 := b2.frozen 5
  have f6 := b2.frozen 6
  have f7 := b2.frozen 7
  have f8 := b2.frozen 8
  have l2 := b2.lt
  have bE : Blk (((((((((w2.setCell ⟨z, 0, none⟩ (.int .i64 x0)).setCell ⟨z, 1, none⟩ (.bool false)).setCell ⟨z, 2, none⟩ (.string x1)).setCell ⟨z, 3, none⟩ (.bool false)).setCell ⟨z, 4, none⟩ (.slice none 0 0)).setCell ⟨z, 5, none⟩ (.slice none 0 0)).setCell ⟨z, 6, none⟩ (.slice none 0 0)).setCell ⟨z, 7, none⟩ (.slice none 0 0)).setCell ⟨z, 8, none⟩ (.slice none 0 0)) z [.int .i64 x0, .bool false, .string x1, .bool false, .slice none 0 0, .slice none 0 0, .slice none 0 0, .slice none 0 0, .slice none 0 0] 88 := (((((((((b2.set 0 (.int .i64 x0)).set 1 (.bool false)).set 2 (.string x1)).set 3 (.bool false)).set 4 (.slice none 0 0)).set 5 (.slice none 0 0)).set 6 (.slice none 0 0)).set 7 (.slice none 0 0)).set 8 (.slice none 0 0))
  have hbE : Below z w (((((((((w2.setCell ⟨z, 0, none⟩ (.int .i64 x0)).setCell ⟨z, 1, none⟩ (.bool false)).setCell ⟨z, 2, none⟩ (.string x1)).setCell ⟨z, 3, none⟩ (.bool false)).setCell ⟨z, 4, none⟩ (.slice none 0 0)).setCell ⟨z, 5, none⟩ (.slice none 0 0)).setCell ⟨z, 6, none⟩ (.slice none 0 0)).setCell ⟨z, 7, none⟩ (.slice none 0 0)).setCell ⟨z, 8, none⟩ (.slice none 0 0)) := (((((((((hbz.setCell (Nat.le_refl z) _).setCell (Nat.le_refl z) _).setCell (Nat.le_refl z) _).setCell (Nat.le_refl z) _).setCell (Nat.le_refl z) _).setCell (Nat.le_refl z) _).setCell (Nat.le_refl z) _).setCell (Nat.le_refl z) _).setCell (Nat.le_refl z) _)
  replace bE := Lib.hid bE
  replace hbE := Lib.hid hbE
  clear hg hb2 c0 hlt b0 hb0 b2 hbz
  go_wp2
  generalize (((((((((w2.setCell ⟨z, 0, none⟩ (.int .i64 x0)).setCell ⟨z, 1, none⟩ (.bool false)).setCell ⟨z, 2, none⟩ (.string x1)).setCell ⟨z, 3, none⟩ (.bool false)).setCell ⟨z, 4, none⟩ (.slice none 0 0)).setCell ⟨z, 5, none⟩ (.slice none 0 0)).setCell ⟨z, 6, none⟩ (.slice none 0 0)).setCell ⟨z, 7, none⟩ (.slice none 0 0)).setCell ⟨z, 8, none⟩ (.slice none 0 0)) = wE at bE hbE ⊢
  have g0 := bE.out.cell (i := 0) rfl
  have g1 := bE.out.cell (i := 1) rfl
  have g2 := bE.out.cell (i := 2) rfl
  have g3 := bE.out.cell (i := 3) rfl
  have g4 := bE.out.cell (i := 4) rfl
  have g5 := bE.out.cell (i := 5) rfl
  have g6 := bE.out.cell (i := 6) rfl
  have g7 := bE.out.cell (i := 7) rfl
  have g8 := bE.out.cell (i := 8) rfl
  exact bodyPost_ret (v := .tuple #[.agg #[.int .i64 x0, .bool false, .string x1, .bool false, .slice none 0 0, .slice none 0 0, .slice none 0 0, .slice none 0 0, .slice none 0 0], .bool E]) (by simp [results, Tryz.results72, g0, g1, g2, g3, g4, g5, g6, g7, g8, go_sem]) rfl ⟨rfl, hbE.out⟩
theorem Status_any (h : StAt w B sb a pot t n) :
    Calls Tryz.prog 21 #[ptrV sb] w fun e w' => e = .returned (.int .i64 n) ∧ w' = w := by
  have hi := sisNil_no h.blk
  have c6 := h.blk.cell (i := 6) rfl
  have hlt := h.blk.lt
  unfold ptrV at hi ⊢
  clear h
  go_enter Tryz.func21, Tryz.ntmps21
  go_wp2_with fail
  refine hi.mono ?_
  rintro e w' ⟨rfl, hw⟩
  obtain rfl := hw.symm
  clear hi hw
  go_wp2
  go_ret
  exact ⟨rfl, rfl⟩
set_option maxRecDepth 100000 in
theorem Cursor_any (h : StAt w B sb a pot t n) :
    Calls Tryz.prog 18 #[ptrV sb] w fun e w' => e = .returned (.tuple #[.int .i64 t.cur.g.a, .int .i64 t.cur.g.i]) ∧ Below w.heap.size w w' := by
  have hi := sisNil_no h.blk
  have hg := th_getg h.th
  have c5 := h.blk.cell (i := 5) rfl
  have hlt := h.blk.lt
  generalize t.cur.g = g at hg ⊢
  obtain ⟨A, m, c, x, y, l⟩ := g
  dsimp only at hg ⊢
  unfold ptrV at hi hg c5 ⊢
  clear h
  go_enter Tryz.func18, Tryz.ntmps18
  go_wp2_with fail
  refine hi.mono ?_
  rintro e w' ⟨rfl, hw⟩
  obtain rfl := hw.symm
  clear hi hw
  go_wp2_with fail
  refine hg.mono ?_
  rintro e w2 ⟨rfl, hb2⟩
  have hfin := Lib.hid (fun nq => drewB (hb2.alloc hb2.size (.cells #[.slice A m c, .int .i64 x, .int .i64 y] 103)) nq)
  have bC : Blk (w2.alloc (.cells #[.slice A m c, .int .i64 x, .int .i64 y] 103)) w2.heap.size [.slice A m c, .int .i64 x, .int .i64 y] 103 := Blk.new w2 _ _
  have e1 := bC.cell (i := 1) rfl
  have e2 := bC.cell (i := 2) rfl
  have lz := bC.lt
  clear hg hb2 c5 hlt
  go_wp2
  go_quiet (fail)
  go_wp2
  go_ret2
  exact ⟨rfl, hfin.out _⟩
def Tg.setC (t : Tg) (p q : Int) : Int × Tg := if p < 0 ∨ q < 0 then (1, t) else t.setg ⟨t.cur.g.A, t.cur.g.n, t.cur.g.c, p, q, t.cur.g.l⟩
theorem StAt.gv (h : StAt w B sb a pot t n) : GvAt w t.cur.g := by
  obtain ⟨ms, fs, ev, ef, ea, et, h1, h2, _⟩ := h.th
  exact h2.ga
set_option maxRecDepth 100000 in
theorem SetCursor_no (h : StAt w B sb a pot t n) (p q : Int) (hpq : p < 0 ∨ q < 0) :
    Calls Tryz.prog 48 #[ptrV sb, .int .i64 p, .int .i64 q] w fun e w' => e = .returned (.int .i64 1) ∧ w' = w := by
  have hi := sisNil_no h.blk
  unfold ptrV at hi ⊢
  clear h
  by_cases hp : p < 0
  · go_enter Tryz.func48, Tryz.ntmps48
    go_wp2_with fail
    refine hi.mono ?_
    rintro e w' ⟨rfl, hw⟩
    obtain rfl := hw.symm
    clear hi hw
    go_wp2
    go_ret
    exact ⟨rfl, rfl⟩
  · have hq := hpq.resolve_left hp
    clear hpq
    go_enter Tryz.func48, Tryz.ntmps48
    go_wp2_with fail
    refine hi.mono ?_
    rintro e w' ⟨rfl, hw⟩
    obtain rfl := hw.symm
    clear hi hw
    go_wp2
    go_ret
    exact ⟨rfl, rfl⟩
set_option maxRecDepth 100000 in
set_option maxHeartbeats 4000000 in
theorem SetCursor_ok (h : StAt w B sb a pot t n) (p q : Int) (hp : ¬ p < 0) (hq : ¬ q < 0) :
    Calls Tryz.prog 48 #[ptrV sb, .int .i64 p, .int .i64 q] w fun e w' => e = .returned (.int .i64 (t.setC p q).1) ∧ StAt w' B sb a (pot + 2) (t.setC p q).2 n ∧ FrT B a w w' := by
  have hT : t.setC p q = t.setg ⟨t.cur.g.A, t.cur.g.n, t.cur.g.c, p, q, t.cur.g.l⟩ := if_neg (by omega)
  rw [hT]
  have hi := sisNil_no h.blk
  have hg := th_getg h.th
  have hst := fun (W : World) (hb : Below w.heap.size w W) => h.below hb
  have hset := fun (W : World) (hb : Below w.heap.size w W) => th_setg (h.below hb).th ⟨t.cur.g.A, t.cur.g.n, t.cur.g.c, p, q, t.cur.g.l⟩ (show GvAt W ⟨t.cur.g.A, t.cur.g.n, t.cur.g.c, p, q, t.cur.g.l⟩ from (h.below hb).gv)
  have c5 := h.blk.cell (i := 5) rfl
  have hlt := h.blk.lt
  dsimp only at hset
  generalize hRE : t.setg ⟨t.cur.g.A, t.cur.g.n, t.cur.g.c, p, q, t.cur.g.l⟩ = RE at hset ⊢
  generalize t.cur.g = g at hg hset
  obtain ⟨A, m, c, x, y, l⟩ := g
  dsimp only at hg hset
  unfold ptrV at hi hg c5 hset ⊢
  replace hset := Lib.hid hset
  replace hst := Lib.hid hst
  clear h hT hRE
  go_enter Tryz.func48, Tryz.ntmps48
  go_wp2_with fail
  refine hi.mono ?_
  rintro e w' ⟨rfl, hw⟩
  obtain rfl := hw.symm
  clear hi hw
  go_wp2_with fail
  refine hg.mono ?_
  rintro e w2 ⟨rfl, hb2⟩
  obtain ⟨z, hz⟩ : ∃ z, w2.heap.size = z := ⟨_, rfl⟩
  have bC : Blk (w2.alloc (.cells #[.slice A m c, .int .i64 x, .int .i64 y] 103)) z [.slice A m c, .int .i64 x, .int .i64 y] 103 := by rw [← hz]; exact Blk.new w2 _ _
  have hbC := hb2.alloc hb2.size (.cells #[.slice A m c, .int .i64 x, .int .i64 y] 103)
  have hzs : w.heap.size ≤ z := by rw [← hz]; exact hb2.size
  clear hg hb2 c5 hlt
  go_upto_region 6 with fail
  try rw [hz]
  generalize (w2.alloc (.cells #[.slice A m c, .int .i64 x, .int .i64 y] 103)) = w3 at bC hbC ⊢
  have e1 := bC.cell (i := 1) rfl
  have e2 := bC.cell (i := 2) rfl
  have f1 := bC.frozen 1
  have f2 := bC.frozen 2
  have lz := bC.lt
  have bD : Blk ((w3.setCell ⟨z, 1, none⟩ (.int .i64 p)).setCell ⟨z, 2, none⟩ (.int .i64 q)) z [.slice A m c, .int .i64 p, .int .i64 q] 103 := (bC.set 1 _).set 2 _
  have hbD : Below w.heap.size w ((w3.setCell ⟨z, 1, none⟩ (.int .i64 p)).setCell ⟨z, 2, none⟩ (.int .i64 q)) := (hbC.setCell hzs _).setCell hzs _
  replace bD := Lib.hid bD
  replace hbD := Lib.hid hbD
  clear bC hbC
  go_upto_region 7 with fail
  generalize ((w3.setCell ⟨z, 1, none⟩ (.int .i64 p)).setCell ⟨z, 2, none⟩ (.int .i64 q)) = w4 at bD hbD ⊢
  clear e1 e2 f1 f2 lz
  have d0 := bD.out.cell (i := 0) rfl
  have d1 := bD.out.cell (i := 1) rfl
  have d2 := bD.out.cell (i := 2) rfl
  have lz := bD.out.lt
  have hbE := Lib.hid (drewB hbD.out 1)
  have hS4 := hst.out w4 hbD.out
  have c5 : w4.cell? ⟨sb, 5, none⟩ = some (.pointer (some ⟨a.g, 0, none⟩)) := hS4.blk.cell (i := 5) rfl
  have hlt := hS4.blk.lt
  have hk0 : w4.drew.cell? ⟨sb, 5, none⟩ = some (.pointer (some ⟨a.g, 0, none⟩)) ∧ w4.drew.cell? ⟨z, 0, none⟩ = some (.slice A m c) ∧ w4.drew.cell? ⟨z, 1, none⟩ = some (.int .i64 p) ∧ w4.drew.cell? ⟨z, 2, none⟩ = some (.int .i64 q) := ⟨c5, d0, d1, d2⟩
  have hs := Lib.hid (hset.out _ hbE.out)
  have hSE := Lib.hid (hst.out _ hbE.out)
  clear hS4
  go_region_held3 (fun w' => w'.cell? ⟨sb, 5, none⟩ = some (.pointer (some ⟨a.g, 0, none⟩)) ∧ w'.cell? ⟨z, 0, none⟩ = some (.slice A m c) ∧ w'.cell? ⟨z, 1, none⟩ = some (.int .i64 p) ∧ w'.cell? ⟨z, 2, none⟩ = some (.int .i64 q))
    (first | go_keep | exact hk0 | exact hk1)
    ((go_at_call 96; refine hs.out.mono ?_; rintro e w5 ⟨rfl, q1, q2⟩; have hS5 := hSE.out.next q1 q2; have k5 : Blk w5 z _ _ := hSE.out.th.keepB q2 _ _ _ (show Blk (w4.drewN 1) z _ _ from bD.out) (nPk (by decide)); have hk1 : w5.cell? ⟨sb, 5, none⟩ = some (.pointer (some ⟨a.g, 0, none⟩)) ∧ w5.cell? ⟨z, 0, none⟩ = some (.slice A m c) ∧ w5.cell? ⟨z, 1, none⟩ = some (.int .i64 p) ∧ w5.cell? ⟨z, 2, none⟩ = some (.int .i64 q) := ⟨hS5.blk.cell (i := 5) rfl, k5.cell (i := 0) rfl, k5.cell (i := 1) rfl, k5.cell (i := 2) rfl⟩; clear k5; replace hS5 := Lib.hid hS5; replace q2 := Lib.hid ((FrT.of_below hbE.out).trans q2); clear q1))
  clear hs hk0 hk1 hlt d0 d1 d2 lz c5
  go_wp2
  go_ret
  exact ⟨rfl, hS5.out, q2.out⟩
end
end Go.Proofs.YtigmdfdcflkggaaGreat
/-
  SetStatus of a state: it changes the state's own block alone. Conditions: none.
-/
namespace Go.Proofs.YtigmdfdcflkggaaGreat
open Go Go.RowKit Go.ChangeMaps

section
variable {w w' : World} {B sb : Nat} {a : Ad} {pot : Nat} {t : Tg} {n : Int}
/-- Every block but a state's is kept. -/
def KeepC (w w' : World) : Prop := ∀ (b : Nat) cur t, Blk w b cur t → t ≠ 110 → Blk w' b cur t
theorem KeepC.of_stp {cur : List Value} (hb : Blk w sb cur 110) (hS : Stp (fun b => b = sb) w w') : KeepC w w' := fun b c t hc ht => hc.stp hS (fun e => by
  subst e
  have e2 := hb.symm.trans hc
  simp only [Option.some.injEq, Obj.cells.injEq] at e2
  exact ht e2.2.1.symm)
theorem GvAt.keepC {g : Gv} (h : GvAt w g) (k : KeepC w w') : GvAt w' g :=
  ⟨h.1, h.2.1, h.2.2.1, fun hn => by
    obtain ⟨b, off, cur, e1, e2, e3⟩ := h.2.2.2 hn
    exact ⟨b, off, cur, e1, k _ _ _ e2 (by decide), e3⟩⟩
theorem MV.ns {t : TypeId} (h : MV.NoteT t) : t ≠ 110 := by rcases h with rfl | rfl | rfl | rfl <;> decide
theorem MN.ns {t : TypeId} (h : MN.NoteT t) : t ≠ 110 := by rcases h with rfl | rfl | rfl | rfl <;> decide
theorem MW.ns {t : TypeId} (h : MW.NoteT t) : t ≠ 110 := by rcases h with rfl | rfl | rfl | rfl <;> decide
theorem CS.ns {t : TypeId} (h : CS.NoteT t) : t ≠ 110 := by rcases h with rfl | rfl <;> decide
theorem CG.ns {t : TypeId} (h : CG.NoteT t) : t ≠ 110 := by rcases h with rfl | rfl <;> decide
theorem NoteAt.keepC {v : Value} {n : Nt} (h : NoteAt w a v n) (k : KeepC w w') : NoteAt w' a v n := by
  cases n with
  | v key x => exact MV.NoteAt.keep h fun b cur t hb ht => k b cur t hb (MV.ns ht)
  | f key x => exact MN.NoteAt.keep h fun b cur t hb ht => k b cur t hb (MN.ns ht)
  | a key x => exact MW.NoteAt.keep h fun b cur t hb ht => k b cur t hb (MW.ns ht)
  | t key x => exact MW.NoteAt.keep h fun b cur t hb ht => k b cur t hb (MW.ns ht)
  | o s => exact CS.NoteAt.keep h fun b cur t hb ht => k b cur t hb (CS.ns ht)
  | g x => exact ⟨CG.NoteAt.keep h.1 fun b cur t hb ht => k b cur t hb (CG.ns ht), h.2.keepC k⟩
theorem ThAt.stp {cur : List Value} (h : ThAt w B a pot t) (hb : Blk w sb cur 110) (hS : Stp (fun b => b = sb) w w') : ThAt w' B a pot t := by
  obtain ⟨ms, fs, ev, ef, ea, et, h1, h2, h5, h6, h7, h8, h9⟩ := h
  have k := KeepC.of_stp hb hS
  refine ⟨ms, fs, ev, ef, ea, et, h1.keep ⟨hS.size, fun b _ _ _ hc ht => hS.block b (Array.getElem?_eq_some_iff.1 hc).1 (fun e => ?_)⟩, ?_, h5, fun i n hi => ?_, h7, h8, h9⟩
  · subst e
    have e2 := hb.symm.trans hc
    simp only [Option.some.injEq, Obj.cells.injEq] at e2
    rw [← e2.2.1] at ht
    rcases ht with ht | ht | ht | ht <;> exact absurd ht (by decide)
  · exact {
      mv := h2.mv.keep (hS.block _ h2.mv.blk.lt (fun e => (h2.mv.blk.ne hb (by decide)) e)) (hS.block _ h2.mv.map.lt (fun e => h2.mv.map.no_cells (by have := hb; rw [← e] at this; exact this)))
      mf := h2.mf.keep (hS.block _ h2.mf.blk.lt (fun e => (h2.mf.blk.ne hb (by decide)) e)) (hS.block _ h2.mf.map.lt (fun e => h2.mf.map.no_cells (by have := hb; rw [← e] at this; exact this)))
      ma := h2.ma.keep (hS.block _ h2.ma.blk.lt (fun e => (h2.ma.blk.ne hb (by decide)) e)) (hS.block _ h2.ma.map.lt (fun e => h2.ma.map.no_cells (by have := hb; rw [← e] at this; exact this)))
      mt := h2.mt.keep (hS.block _ h2.mt.blk.lt (fun e => (h2.mt.blk.ne hb (by decide)) e)) (hS.block _ h2.mt.map.lt (fun e => h2.mt.map.no_cells (by have := hb; rw [← e] at this; exact this)))
      co := ⟨h2.co.hB, h2.co.blk.stp hS (fun e => (h2.co.blk.ne hb (by decide)) e)⟩
      cg := ⟨h2.cg.hB, h2.cg.blk.stp hS (fun e => (h2.cg.blk.ne hb (by decide)) e)⟩
      lv := h2.lv
      lf := h2.lf
      la := h2.la
      lt := h2.lt
      ga := h2.ga.keepC k
      d := h2.d }
  · obtain ⟨v, hv, hn⟩ := h6 i n hi
    exact ⟨v, hv, hn.keepC k⟩
set_option maxRecDepth 100000 in
theorem SetStatus_any (h : StAt w B sb a pot t n) (x : Int) :
    Calls Tryz.prog 49 #[ptrV sb, .int .i64 x] w fun e w' => e = .returned (.tuple #[]) ∧ StAt w' B sb a pot t (bits .and .i64 x 255) ∧ Stp (fun b => b = sb) w w' := by
  have hi := sisNil_no h.blk
  have c6 := h.blk.cell (i := 6) rfl
  have f6 := h.blk.frozen 6
  have hlt := h.blk.lt
  unfold ptrV at hi ⊢
  go_enter Tryz.func49, Tryz.ntmps49
  go_wp2_with fail
  refine hi.mono ?_
  rintro e w' ⟨rfl, hw⟩
  obtain rfl := hw.symm
  clear hi hw
  have hS : Hid (StAt (w.setCell ⟨sb, 6, none⟩ (.int .i64 (bits .and .i64 x 255))) B sb a pot t (bits .and .i64 x 255) ∧ Stp (fun b => b = sb) w (w.setCell ⟨sb, 6, none⟩ (.int .i64 (bits .and .i64 x 255)))) :=
    Lib.hid ⟨⟨h.blk.set 6 _, h.th.stp h.blk (Stp.set (S := fun b => b = sb) rfl 6 _), h.hB⟩, Stp.set (S := fun b => b = sb) rfl 6 _⟩
  clear h
  go_wp2
  exact bodyPost_end (v := .tuple #[]) (results_none rfl _ _ _) rfl ⟨rfl, hS.out⟩
set_option maxRecDepth 100000 in
theorem Get_of (h : StAt w B sb a pot t n) (k : ByteArray) :
    Calls Tryz.prog 74 #[ptrV sb, .string k] w fun e w' => e = .returned (.tuple #[.string (valV t k).v, .bool (valV t k).s]) ∧ Below w.heap.size w w' := by
  have hg := Var_any h k
  generalize valV t k = V at hg ⊢
  obtain ⟨x0, x1, x2, x3⟩ := V
  unfold encV at hg
  unfold ptrV at hg ⊢
  dsimp only at hg ⊢
  clear h
  go_enter Tryz.func74, Tryz.ntmps74
  go_wp2_with fail
  refine hg.mono ?_
  rintro e w2 ⟨rfl, hb2⟩
  have hfin := Lib.hid (fun nq => drewB (hb2.alloc hb2.size (.cells #[.string x0, .bool x1, .bool x2, .bool x3] 59)) nq)
  have bC : Blk (w2.alloc (.cells #[.string x0, .bool x1, .bool x2, .bool x3] 59)) w2.heap.size [.string x0, .bool x1, .bool x2, .bool x3] 59 := Blk.new w2 _ _
  have e0 := bC.cell (i := 0) rfl
  have e1 := bC.cell (i := 1) rfl
  have lz := bC.lt
  clear hg hb2
  go_wp2
  go_quiet (fail)
  go_wp2
  go_ret2
  exact ⟨rfl, hfin.out _⟩
end
end Go.Proofs.YtigmdfdcflkggaaGreat
/-
  SetFunc of a state. Conditions: names of at most 200 bytes.
-/
namespace Go.Proofs.YtigmdfdcflkggaaGreat
open Go Go.RowKit Go.ChangeMaps

section
variable {w w' : World} {B sb : Nat} {a : Ad} {pot : Nat} {t : Tg} {n : Int}
set_option maxRecDepth 100000 in
set_option maxHeartbeats 4000000 in
theorem SetFunc_ok (h : StAt w B sb a pot t n) (k : ByteArray) (hk : k.size ≤ 200) (hnm : nameB k = true) (x0 : Int) (x1 : ByteArray) :
    Calls Tryz.prog 41 #[ptrV sb, .string k, .agg #[.int .i64 x0, .bool false, .string x1, .bool false, .slice none 0 0, .slice none 0 0, .slice none 0 0, .slice none 0 0, .slice none 0 0]] w fun e w' => e = .returned (.int .i64 (t.putf k ⟨x0, x1⟩).1) ∧ StAt w' B sb a (pot + 2) (t.putf k ⟨x0, x1⟩).2 n ∧ FrT B a w w' := by
  obtain ⟨z, hz⟩ : ∃ z, w.heap.size = z := ⟨_, rfl⟩
  have hb0 : Below z w (w.alloc (.cells #[.int .i64 x0, .bool false, .string x1, .bool false, .slice none 0 0, .slice none 0 0, .slice none 0 0, .slice none 0 0, .slice none 0 0] 88)) := by rw [← hz]; exact Below.of_alloc w _
  have b0 : Blk (w.alloc (.cells #[.int .i64 x0, .bool false, .string x1, .bool false, .slice none 0 0, .slice none 0 0, .slice none 0 0, .slice none 0 0, .slice none 0 0] 88)) z [.int .i64 x0, .bool false, .string x1, .bool false, .slice none 0 0, .slice none 0 0, .slice none 0 0, .slice none 0 0, .slice none 0 0] 88 := by rw [← hz]; exact Blk.new w _ _
  have hW := h.below (by rw [hz]; exact hb0)
  have hi := checkName_any hW.blk k (by omega)
  unfold checkE at hi
  rw [if_pos hnm] at hi
  unfold ptrV at hi ⊢
  clear h hnm
  replace hb0 := Lib.hid hb0
  replace b0 := Lib.hid b0
  replace hW := Lib.hid hW
  go_enter Tryz.func41, Tryz.ntmps41
  go_upto_region 1 with fail
  try rw [hz]
  generalize (w.alloc (.cells #[.int .i64 x0, .bool false, .string x1, .bool false, .slice none 0 0, .slice none 0 0, .slice none 0 0, .slice none 0 0, .slice none 0 0] 88)) = wW at hb0 b0 hi hW ⊢
  replace hz := Lib.hid hz
  go_wp2_with fail
  refine hi.mono ?_
  rintro e w' ⟨rfl, hw⟩
  obtain rfl := hw.symm
  clear hi hw
  have e0 := b0.out.cell (i := 0) rfl
  have e1 := b0.out.cell (i := 1) rfl
  have e2 := b0.out.cell (i := 2) rfl
  have e3 := b0.out.cell (i := 3) rfl
  have e4 := b0.out.cell (i := 4) rfl
  have e5 := b0.out.cell (i := 5) rfl
  have e6 := b0.out.cell (i := 6) rfl
  have e7 := b0.out.cell (i := 7) rfl
  have e8 := b0.out.cell (i := 8) rfl
  have lz := b0.out.lt
  have hd := th_putf (hW.out.below (drewN_below wW 1)).th k ⟨x0, x1⟩ hk
  unfold ptrV encN at hd
  dsimp only at hd
  have c0 : wW.cell? ⟨sb, 1, none⟩ = some (.pointer (some ⟨a.f, 0, none⟩)) := hW.out.blk.cell (i := 1) rfl
  have hlt := hW.out.blk.lt
  have hk0 : wW.drew.cell? ⟨sb, 1, none⟩ = some (.pointer (some ⟨a.f, 0, none⟩)) ∧ wW.drew.cell? ⟨z, 0, none⟩ = some (.int .i64 x0) ∧ wW.drew.cell? ⟨z, 1, none⟩ = some (.bool false) ∧ wW.drew.cell? ⟨z, 2, none⟩ = some (.string x1) ∧ wW.drew.cell? ⟨z, 3, none⟩ = some (.bool false) ∧ wW.drew.cell? ⟨z, 4, none⟩ = some (.slice none 0 0) ∧ wW.drew.cell? ⟨z, 5, none⟩ = some (.slice none 0 0) ∧ wW.drew.cell? ⟨z, 6, none⟩ = some (.slice none 0 0) ∧ wW.drew.cell? ⟨z, 7, none⟩ = some (.slice none 0 0) ∧ wW.drew.cell? ⟨z, 8, none⟩ = some (.slice none 0 0) := ⟨c0, e0, e1, e2, e3, e4, e5, e6, e7, e8⟩
  replace hd := Lib.hid hd
  go_upto_region 4 with fail
  go_region_held3 (fun w' => w'.cell? ⟨sb, 1, none⟩ = some (.pointer (some ⟨a.f, 0, none⟩)) ∧ w'.cell? ⟨z, 0, none⟩ = some (.int .i64 x0) ∧ w'.cell? ⟨z, 1, none⟩ = some (.bool false) ∧ w'.cell? ⟨z, 2, none⟩ = some (.string x1) ∧ w'.cell? ⟨z, 3, none⟩ = some (.bool false) ∧ w'.cell? ⟨z, 4, none⟩ = some (.slice none 0 0) ∧ w'.cell? ⟨z, 5, none⟩ = some (.slice none 0 0) ∧ w'.cell? ⟨z, 6, none⟩ = some (.slice none 0 0) ∧ w'.cell? ⟨z, 7, none⟩ = some (.slice none 0 0) ∧ w'.cell? ⟨z, 8, none⟩ = some (.slice none 0 0))
    (first | go_keep | exact hk0 | exact hk1)
    ((go_at_call 105; refine hd.out.mono ?_; rintro e w5 ⟨rfl, q1, q2⟩; have hS5 := (hW.out.below (drewN_below wW 1)).next q1 q2; have k5 : Blk w5 z _ _ := (hW.out.below (drewN_below wW 1)).th.keepB q2 _ _ _ (show Blk wW.drew z _ _ from b0.out) (nPk (by decide)); have hk1 : w5.cell? ⟨sb, 1, none⟩ = some (.pointer (some ⟨a.f, 0, none⟩)) ∧ w5.cell? ⟨z, 0, none⟩ = some (.int .i64 x0) ∧ w5.cell? ⟨z, 1, none⟩ = some (.bool false) ∧ w5.cell? ⟨z, 2, none⟩ = some (.string x1) ∧ w5.cell? ⟨z, 3, none⟩ = some (.bool false) ∧ w5.cell? ⟨z, 4, none⟩ = some (.slice none 0 0) ∧ w5.cell? ⟨z, 5, none⟩ = some (.slice none 0 0) ∧ w5.cell? ⟨z, 6, none⟩ = some (.slice none 0 0) ∧ w5.cell? ⟨z, 7, none⟩ = some (.slice none 0 0) ∧ w5.cell? ⟨z, 8, none⟩ = some (.slice none 0 0) := ⟨hS5.blk.cell (i := 1) rfl, k5.cell (i := 0) rfl, k5.cell (i := 1) rfl, k5.cell (i := 2) rfl, k5.cell (i := 3) rfl, k5.cell (i := 4) rfl, k5.cell (i := 5) rfl, k5.cell (i := 6) rfl, k5.cell (i := 7) rfl, k5.cell (i := 8) rfl⟩; clear k5; replace hS5 := Lib.hid hS5; replace q2 := Lib.hid q2; clear q1))
  have hfin : Hid (StAt w5 B sb a (pot + 2) (t.putf k ⟨x0, x1⟩).2 n ∧ FrT B a w w5) := Lib.hid ⟨hS5.out, (FrT.of_below (by rw [hz.out]; exact drewB hb0.out 1)).trans q2.out⟩
  clear hd q2 c0 hk0 hk1 hlt e0 e1 e2 e3 e4 e5 e6 e7 e8 lz hS5
  go_wp2
  go_ret
  exact ⟨rfl, hfin.out⟩
set_option maxRecDepth 100000 in
theorem SetFunc_any (h : StAt w B sb a pot t n) (k : ByteArray) (hk : k.size ≤ 200) (x : Nd) :
    Calls Tryz.prog 41 #[ptrV sb, .string k, encN x] w fun e w' => e = .returned (.int .i64 (t.setF k x).1) ∧ StAt w' B sb a (pot + 2) (t.setF k x).2 n ∧ FrT B a w w' := by
  obtain ⟨x0, x1⟩ := x
  by_cases hnm : nameB k = true
  · rw [show t.setF k ⟨x0, x1⟩ = t.putf k ⟨x0, x1⟩ from if_pos hnm]
    exact SetFunc_ok h k hk hnm x0 x1
  · rw [show t.setF k ⟨x0, x1⟩ = (16, t) from if_neg hnm]
    have hb0 : Below w.heap.size w (w.alloc (.cells #[.int .i64 x0, .bool false, .string x1, .bool false, .slice none 0 0, .slice none 0 0, .slice none 0 0, .slice none 0 0, .slice none 0 0] 88)) := Below.of_alloc w _
    have hW := h.below hb0
    have hi := checkName_any hW.blk k (by omega)
    unfold checkE at hi
    rw [if_neg hnm] at hi
    unfold encN
    unfold ptrV at hi ⊢
    clear h hnm
    have hfin := Lib.hid (And.intro (hW.mono (Nat.le_add_right pot 2)) (FrT.of_below (B := B) (a := a) hb0))
    clear hW hb0
    go_enter Tryz.func41, Tryz.ntmps41
    go_upto_region 1 with fail
    generalize (w.alloc (.cells #[.int .i64 x0, .bool false, .string x1, .bool false, .slice none 0 0, .slice none 0 0, .slice none 0 0, .slice none 0 0, .slice none 0 0] 88)) = w1 at hfin hi ⊢
    go_wp2_with fail
    refine hi.mono ?_
    rintro e w' ⟨rfl, hw⟩
    obtain rfl := hw.symm
    go_wp2
    go_ret
    exact ⟨rfl, hfin.out⟩
end
end Go.Proofs.YtigmdfdcflkggaaGreat
/-
  SetAlias of a state, and what is too great for SetTrap. Conditions: names of at most 200 bytes, texts of at most a million.
-/
namespace Go.Proofs.YtigmdfdcflkggaaGreat
open Go Go.RowKit Go.ChangeMaps

section
variable {w w' : World} {B sb : Nat} {a : Ad} {pot : Nat} {t : Tg} {n : Int}
def others : ByteArray := ⟨#[95, 33, 37, 44, 64]⟩
def aliasB (k : ByteArray) : Bool := decide (0 < k.size) && allB k others
def Tg.setA (t : Tg) (k v : ByteArray) : Int × Tg := if aliasB k = true then (if 4096 < v.size then (21, t) else t.puta k v) else (16, t)
def Tg.setT (t : Tg) (k v : ByteArray) : Int × Tg := if trapB k = true then (if 4096 < v.size then (21, t) else t.putt k v) else (16, t)
theorem one_txs (w : World) (v : ByteArray) : Txs (w.alloc (.cells #[.string v] 9)) (some ⟨w.heap.size, 0, none⟩) 1 1 [v] :=
  have bC : Blk (w.alloc (.cells #[.string v] 9)) w.heap.size [.string v] 9 := Blk.new w _ _
  ⟨rfl, Nat.le_refl _, by decide, fun _ => ⟨w.heap.size, 0, rfl, bC.lt, fun j x hx => by
    cases j with
    | zero => cases hx; exact bC.cell (i := 0) rfl
    | succ j => cases hx⟩⟩
set_option maxRecDepth 100000 in
set_option maxHeartbeats 2000000 in
theorem SetAlias_ok (h : StAt w B sb a pot t n) (k v : ByteArray) (hk : k.size ≤ 200) (hv1 : v.size ≤ 1000000) (h0 : 0 < k.size) (hal : allB k others = true) (hv : ¬ 4096 < v.size) :
    Calls Tryz.prog 44 #[ptrV sb, .string k, .string v] w fun e w' => e = .returned (.int .i64 (t.puta k v).1) ∧ StAt w' B sb a (pot + 2) (t.puta k v).2 n ∧ FrT B a w w' := by
  have hi := sisNil_no h.blk
  have ha := allOf_any k others (by omega) w
  rw [hal] at ha
  unfold others at ha
  have hie := bytesIs h0
  have hput := fun (W : World) (hb : Below w.heap.size w W) => th_puta (h.below hb).th k v hk
  have hst := fun (W : World) (hb : Below w.heap.size w W) => h.below hb
  unfold encW at hput
  have hbC : Below w.heap.size w (w.alloc (.cells #[.string v] 9)) := Below.of_alloc w _
  have hg := tooGreat_any (one_txs w v) (fun s hs => by rw [List.mem_singleton] at hs; rw [hs]; exact hv1) (by decide)
  have hgr : greatL [v] = false := by unfold greatL; simp [hv]
  rw [hgr] at hg
  unfold ptrV at *
  replace hput := Lib.hid hput
  replace hst := Lib.hid hst
  replace hbC := Lib.hid hbC
  clear hgr h
  go_enter Tryz.func44, Tryz.ntmps44
  go_wp2_with fail
  refine hi.mono ?_
  rintro e w' ⟨rfl, hw⟩
  obtain rfl := hw.symm
  clear hi hw
  go_wp2_with fail
  refine ha.mono ?_
  rintro e w' ⟨rfl, hw⟩
  obtain rfl := hw.symm
  clear ha hw
  go_wp2_with fail
  refine hg.mono ?_
  rintro e w' ⟨rfl, hw⟩
  obtain rfl := hw.symm
  generalize (w.alloc (.cells #[.string v] 9)) = wC at hbC ⊢
  have hSC := hst.out wC hbC.out
  have c0 := hSC.blk.cell (i := 2) rfl
  have cl := hSC.blk.lt
  unfold ptrV at c0
  have hp := hput.out wC hbC.out
  replace hSC := Lib.hid hSC
  clear hg hw
  go_wp2_with fail
  refine hp.mono ?_
  rintro e w5 ⟨rfl, q1, q2⟩
  have hfin := Lib.hid (And.intro (hSC.out.next q1 q2) ((FrT.of_below hbC.out).trans q2))
  clear hp q1 q2 c0 cl
  go_wp2
  go_ret
  exact ⟨rfl, hfin.out⟩
set_option maxRecDepth 100000 in
set_option maxHeartbeats 2000000 in
theorem SetAlias_big (h : StAt w B sb a pot t n) (k v : ByteArray) (hk : k.size ≤ 200) (hv1 : v.size ≤ 1000000) (h0 : 0 < k.size) (hal : allB k others = true) (hv : 4096 < v.size) :
    Calls Tryz.prog 44 #[ptrV sb, .string k, .string v] w fun e w' => e = .returned (.int .i64 21) ∧ Below w.heap.size w w' := by
  have hi := sisNil_no h.blk
  have ha := allOf_any k others (by omega) w
  rw [hal] at ha
  unfold others at ha
  have hie := bytesIs h0
  have hbC : Below w.heap.size w (w.alloc (.cells #[.string v] 9)) := Below.of_alloc w _
  have hg := tooGreat_any (one_txs w v) (fun s hs => by rw [List.mem_singleton] at hs; rw [hs]; exact hv1) (by decide)
  have hgr : greatL [v] = true := by unfold greatL; simp [hv]
  rw [hgr] at hg
  unfold ptrV at *
  replace hbC := Lib.hid hbC
  clear hgr h
  go_enter Tryz.func44, Tryz.ntmps44
  go_wp2_with fail
  refine hi.mono ?_
  rintro e w' ⟨rfl, hw⟩
  obtain rfl := hw.symm
  clear hi hw
  go_wp2_with fail
  refine ha.mono ?_
  rintro e w' ⟨rfl, hw⟩
  obtain rfl := hw.symm
  clear ha hw
  go_wp2_with fail
  refine hg.mono ?_
  rintro e w' ⟨rfl, hw⟩
  obtain rfl := hw.symm
  clear hg hw
  go_wp2
  go_ret
  exact ⟨rfl, hbC.out⟩
set_option maxRecDepth 100000 in
theorem SetAlias_bad (h : StAt w B sb a pot t n) (k v : ByteArray) (hk : k.size ≤ 200) (hno : ¬ aliasB k = true) :
    Calls Tryz.prog 44 #[ptrV sb, .string k, .string v] w fun e w' => e = .returned (.int .i64 16) ∧ w' = w := by
  have hi := sisNil_no h.blk
  unfold ptrV at hi ⊢
  clear h
  by_cases h0 : 0 < k.size
  · have ha := allOf_any k others (by omega) w
    have hal : allB k others = false := by
      cases e : allB k others with
      | false => rfl
      | true => exact absurd (by unfold aliasB; rw [e, decide_eq_true h0]; rfl) hno
    rw [hal] at ha
    unfold others at ha
    have hie := bytesIs h0
    clear hal hno
    go_enter Tryz.func44, Tryz.ntmps44
    go_wp2_with fail
    refine hi.mono ?_
    rintro e w' ⟨rfl, hw⟩
    obtain rfl := hw.symm
    clear hi hw
    go_wp2_with fail
    refine ha.mono ?_
    rintro e w' ⟨rfl, hw⟩
    obtain rfl := hw.symm
    clear ha hw
    go_wp2
    go_ret
    exact ⟨rfl, rfl⟩
  · obtain rfl := noBytes h0
    clear h0 hno
    go_enter Tryz.func44, Tryz.ntmps44
    go_wp2_with fail
    refine hi.mono ?_
    rintro e w' ⟨rfl, hw⟩
    obtain rfl := hw.symm
    clear hi hw
    go_wp2
    go_ret
    exact ⟨rfl, rfl⟩
theorem SetAlias_any (h : StAt w B sb a pot t n) (k v : ByteArray) (hk : k.size ≤ 200) (hv1 : v.size ≤ 1000000) :
    Calls Tryz.prog 44 #[ptrV sb, .string k, .string v] w fun e w' => e = .returned (.int .i64 (t.setA k v).1) ∧ StAt w' B sb a (pot + 2) (t.setA k v).2 n ∧ FrT B a w w' := by
  by_cases hb : aliasB k = true
  · have hb2 := hb
    unfold aliasB at hb2
    rw [Bool.and_eq_true, decide_eq_true_eq] at hb2
    by_cases hv : 4096 < v.size
    · rw [show t.setA k v = (21, t) by unfold Tg.setA; rw [if_pos hb, if_pos hv]]
      refine (SetAlias_big h k v hk hv1 hb2.1 hb2.2 hv).mono ?_
      rintro e w' ⟨rfl, hb⟩
      exact ⟨rfl, (h.below hb).mono (Nat.le_add_right pot 2), FrT.of_below hb⟩
    · rw [show t.setA k v = t.puta k v by unfold Tg.setA; rw [if_pos hb, if_neg hv]]
      exact SetAlias_ok h k v hk hv1 hb2.1 hb2.2 hv
  · rw [show t.setA k v = (16, t) by unfold Tg.setA; rw [if_neg hb]]
    refine (SetAlias_bad h k v hk hb).mono ?_
    rintro e w' ⟨rfl, rfl⟩
    exact ⟨rfl, h.mono (Nat.le_add_right pot 2), FrT.of_below (Below.refl _ _)⟩
set_option maxRecDepth 100000 in
theorem SetTrap_big (h : StAt w B sb a pot t n) (k v : ByteArray) (hv1 : v.size ≤ 1000000) (hnm : trapB k = true) (hv : 4096 < v.size) :
    Calls Tryz.prog 35 #[ptrV sb, .string k, .string v] w fun e w' => e = .returned (.int .i64 21) ∧ Below w.heap.size w w' := by
  have hc := checkTrap_any h.blk k
  unfold trapE at hc
  rw [if_pos hnm] at hc
  have hbC : Below w.heap.size w (w.alloc (.cells #[.string v] 9)) := Below.of_alloc w _
  have hg := tooGreat_any (one_txs w v) (fun s hs => by rw [List.mem_singleton] at hs; rw [hs]; exact hv1) (by decide)
  have hgr : greatL [v] = true := by unfold greatL; simp [hv]
  rw [hgr] at hg
  unfold ptrV at *
  replace hbC := Lib.hid hbC
  clear hgr h
  go_enter Tryz.func35, Tryz.ntmps35
  go_wp2_with fail
  refine hc.mono ?_
  rintro e w' ⟨rfl, hw⟩
  obtain rfl := hw.symm
  clear hc hw
  go_wp2_with fail
  refine hg.mono ?_
  rintro e w' ⟨rfl, hw⟩
  obtain rfl := hw.symm
  clear hg hw
  go_wp2
  go_ret
  exact ⟨rfl, hbC.out⟩
theorem SetTrap_any (h : StAt w B sb a pot t n) (k v : ByteArray) (hk : k.size ≤ 200) (hv1 : v.size ≤ 1000000) :
    Calls Tryz.prog 35 #[ptrV sb, .string k, .string v] w fun e w' => e = .returned (.int .i64 (t.setT k v).1) ∧ StAt w' B sb a (pot + 2) (t.setT k v).2 n ∧ FrT B a w w' := by
  by_cases hb : trapB k = true
  · by_cases hv : 4096 < v.size
    · rw [show t.setT k v = (21, t) by unfold Tg.setT; rw [if_pos hb, if_pos hv]]
      refine (SetTrap_big h k v hv1 hb hv).mono ?_
      rintro e w' ⟨rfl, hb⟩
      exact ⟨rfl, (h.below hb).mono (Nat.le_add_right pot 2), FrT.of_below hb⟩
    · rw [show t.setT k v = t.putt k v by unfold Tg.setT; rw [if_pos hb, if_neg hv]]
      exact SetTrap_ok h k v hk hv1 hb hv
  · rw [show t.setT k v = (16, t) by unfold Tg.setT; rw [if_neg hb]]
    refine (SetTrap_bad h k v hb).mono ?_
    rintro e w' ⟨rfl, rfl⟩
    exact ⟨rfl, h.mono (Nat.le_add_right pot 2), FrT.of_below (Below.refl _ _)⟩
end
end Go.Proofs.YtigmdfdcflkggaaGreat
/-
  Shift of a state. Conditions: none.
-/
namespace Go.Proofs.YtigmdfdcflkggaaGreat
open Go Go.RowKit Go.ChangeMaps

section
variable {w w' : World} {B sb : Nat} {a : Ad} {pot : Nat} {t : Tg} {n : Int}
set_option maxRecDepth 100000 in
set_option maxHeartbeats 4000000 in
theorem Shift_no (h : StAt w B sb a pot t n) (p : Int) (hp : p < 0 ∨ (t.cur.g.n : Int) < p) :
    Calls Tryz.prog 33 #[ptrV sb, .int .i64 p] w fun e w' => e = .returned (.int .i64 1) ∧ Below w.heap.size w w' := by
  have hi := sisNil_no h.blk
  have hg := th_getg h.th
  have c5 := h.blk.cell (i := 5) rfl
  have hlt := h.blk.lt
  generalize t.cur.g = g at hg hp
  obtain ⟨A, m, c, x, y, l⟩ := g
  dsimp only at hg hp
  unfold ptrV at hi hg c5 ⊢
  clear h
  by_cases h0 : p < 0
  · clear hp
    go_enter Tryz.func33, Tryz.ntmps33
    go_wp2_with fail
    refine hi.mono ?_
    rintro e w' ⟨rfl, hw⟩
    obtain rfl := hw.symm
    clear hi hw
    go_wp2_with fail
    refine hg.mono ?_
    rintro e w2 ⟨rfl, hb2⟩
    have hfin := Lib.hid (hb2.alloc hb2.size (.cells #[.slice A m c, .int .i64 x, .int .i64 y] 103))
    clear hg hb2 c5 hlt
    go_wp2
    go_ret
    exact ⟨rfl, hfin.out⟩
  · have hm := hp.resolve_left h0
    clear hp
    go_enter Tryz.func33, Tryz.ntmps33
    go_wp2_with fail
    refine hi.mono ?_
    rintro e w' ⟨rfl, hw⟩
    obtain rfl := hw.symm
    clear hi hw
    go_wp2_with fail
    refine hg.mono ?_
    rintro e w2 ⟨rfl, hb2⟩
    have hfin := Lib.hid (hb2.alloc hb2.size (.cells #[.slice A m c, .int .i64 x, .int .i64 y] 103))
    have bC : Blk (w2.alloc (.cells #[.slice A m c, .int .i64 x, .int .i64 y] 103)) w2.heap.size [.slice A m c, .int .i64 x, .int .i64 y] 103 := Blk.new w2 _ _
    have e0 := bC.cell (i := 0) rfl
    have lz := bC.lt
    clear hg hb2 c5 hlt
    go_wp2
    go_ret
    exact ⟨rfl, hfin.out⟩
theorem GvAt.drop {A : Option Addr} {m c k : Nat} {x y : Int} {l : List ByteArray} (h : GvAt w ⟨A, m, c, x, y, l⟩) (hk : k ≤ m) : GvAt w ⟨if c = k then A else Option.map (fun x => x.add k) A, m - k, c - k, x, y, l.drop k⟩ := by
  obtain ⟨h1, h2, h3, h4⟩ := h
  dsimp only at h1 h2 h3 h4
  refine ⟨by dsimp only; rw [List.length_drop, h1], by dsimp only; omega, by dsimp only; omega, fun hn => ?_⟩
  dsimp only at hn ⊢
  obtain ⟨b, off, cur, e1, e2, e3⟩ := h4 (by omega)
  subst e1
  refine ⟨b, off + k, cur, ?_, e2, fun j s hs => ?_⟩
  · rw [if_neg (by omega), Option.map_some, add_plain0]
  · rw [List.getElem?_drop] at hs
    rw [Nat.add_assoc]
    exact e3 _ _ hs
set_option maxRecDepth 100000 in
set_option maxHeartbeats 4000000 in
theorem Shift_ok (h : StAt w B sb a pot t n) (p : Int) (h0 : ¬ p < 0) (hm : ¬ (t.cur.g.n : Int) < p) :
    Calls Tryz.prog 33 #[ptrV sb, .int .i64 p] w fun e w' => ∃ A' c', e = .returned (.int .i64 (t.setg ⟨A', t.cur.g.n - p.toNat, c', t.cur.g.a, t.cur.g.i, t.cur.g.l.drop p.toNat⟩).1) ∧ StAt w' B sb a (pot + 2) (t.setg ⟨A', t.cur.g.n - p.toNat, c', t.cur.g.a, t.cur.g.i, t.cur.g.l.drop p.toNat⟩).2 n ∧ FrT B a w w' := by
  have hi := sisNil_no h.blk
  have hg := th_getg h.th
  have hst := fun (W : World) (hb : Below w.heap.size w W) => h.below hb
  have hset := fun (W : World) (hb : Below w.heap.size w W) (g : Gv) (hg : GvAt W g) => th_setg (h.below hb).th g hg
  have hgv := fun (W : World) (hb : Below w.heap.size w W) => (h.below hb).gv
  have hgw := h.gv
  have c5 := h.blk.cell (i := 5) rfl
  have hlt := h.blk.lt
  generalize t.cur.g = g at hg hm hgv hgw ⊢
  obtain ⟨A, m, c, x, y, l⟩ := g
  dsimp only at hg hm ⊢
  obtain ⟨k, rfl⟩ : ∃ k : Nat, p = (k : Int) := ⟨p.toNat, by omega⟩
  have hkm : k ≤ m := by omega
  have hmc : m ≤ c := hgw.2.1
  have hcm : c ≤ 2 ^ 63 - 1 := hgw.2.2.1
  unfold ptrV at hi hg c5 hset ⊢
  replace hset := Lib.hid hset
  replace hst := Lib.hid hst
  replace hgv := Lib.hid hgv
  clear h hgw
  go_enter Tryz.func33, Tryz.ntmps33
  go_wp2_with fail
  refine hi.mono ?_
  rintro e w' ⟨rfl, hw⟩
  obtain rfl := hw.symm
  clear hi hw
  go_wp2_with fail
  refine hg.mono ?_
  rintro e w2 ⟨rfl, hb2⟩
  obtain ⟨z, hz⟩ : ∃ z, w2.heap.size = z := ⟨_, rfl⟩
  have bC : Blk (w2.alloc (.cells #[.slice A m c, .int .i64 x, .int .i64 y] 103)) z [.slice A m c, .int .i64 x, .int .i64 y] 103 := by rw [← hz]; exact Blk.new w2 _ _
  have hbC := hb2.alloc hb2.size (.cells #[.slice A m c, .int .i64 x, .int .i64 y] 103)
  have hzs : w.heap.size ≤ z := by rw [← hz]; exact hb2.size
  clear hg hb2 c5 hlt
  go_upto_region 4 with fail
  try rw [hz]
  generalize (w2.alloc (.cells #[.slice A m c, .int .i64 x, .int .i64 y] 103)) = w3 at bC hbC ⊢
  have e0 := bC.cell (i := 0) rfl
  have f0 := bC.frozen 0
  have lz := bC.lt
  have hG := fun (W : World) (hb : Below w.heap.size w W) => (hgv.out W hb).drop hkm
  obtain ⟨A', hA'⟩ : ∃ A', (if c = k then A else Option.map (fun x => x.add k) A) = A' := ⟨_, rfl⟩
  rw [hA'] at hG
  replace hG := Lib.hid hG
  have bD : Blk (w3.setCell ⟨z, 0, none⟩ (.slice A' (m - k) (c - k))) z [.slice A' (m - k) (c - k), .int .i64 x, .int .i64 y] 103 := bC.set 0 _
  have hbD : Below w.heap.size w (w3.setCell ⟨z, 0, none⟩ (.slice A' (m - k) (c - k))) := hbC.setCell hzs _
  replace bD := Lib.hid bD
  replace hbD := Lib.hid hbD
  replace hA' := Lib.hid hA'
  clear bC hbC
  go_upto_region 7 with fail
  rw [hA'.out]
  generalize (w3.setCell ⟨z, 0, none⟩ (.slice A' (m - k) (c - k))) = w4 at bD hbD ⊢
  clear e0 f0 lz
  have d0 := bD.out.cell (i := 0) rfl
  have d1 := bD.out.cell (i := 1) rfl
  have d2 := bD.out.cell (i := 2) rfl
  have lz := bD.out.lt
  have hbE := Lib.hid (drewB hbD.out 1)
  have hS4 := hst.out w4 hbD.out
  have c5 : w4.cell? ⟨sb, 5, none⟩ = some (.pointer (some ⟨a.g, 0, none⟩)) := hS4.blk.cell (i := 5) rfl
  have hlt := hS4.blk.lt
  have hk0 : w4.drew.cell? ⟨sb, 5, none⟩ = some (.pointer (some ⟨a.g, 0, none⟩)) ∧ w4.drew.cell? ⟨z, 0, none⟩ = some (.slice A' (m - k) (c - k)) ∧ w4.drew.cell? ⟨z, 1, none⟩ = some (.int .i64 x) ∧ w4.drew.cell? ⟨z, 2, none⟩ = some (.int .i64 y) := ⟨c5, d0, d1, d2⟩
  have hs := Lib.hid (hset.out _ hbE.out ⟨A', m - k, c - k, x, y, l.drop k⟩ (hG.out _ hbE.out))
  have hSE := Lib.hid (hst.out _ hbE.out)
  clear hS4
  go_region_held3 (fun w' => w'.cell? ⟨sb, 5, none⟩ = some (.pointer (some ⟨a.g, 0, none⟩)) ∧ w'.cell? ⟨z, 0, none⟩ = some (.slice A' (m - k) (c - k)) ∧ w'.cell? ⟨z, 1, none⟩ = some (.int .i64 x) ∧ w'.cell? ⟨z, 2, none⟩ = some (.int .i64 y))
    (first | go_keep | exact hk0 | exact hk1)
    ((go_at_call 96; refine hs.out.mono ?_; rintro e w5 ⟨rfl, q1, q2⟩; have hS5 := hSE.out.next q1 q2; have k5 : Blk w5 z _ _ := hSE.out.th.keepB q2 _ _ _ (show Blk (w4.drewN 1) z _ _ from bD.out) (nPk (by decide)); have hk1 : w5.cell? ⟨sb, 5, none⟩ = some (.pointer (some ⟨a.g, 0, none⟩)) ∧ w5.cell? ⟨z, 0, none⟩ = some (.slice A' (m - k) (c - k)) ∧ w5.cell? ⟨z, 1, none⟩ = some (.int .i64 x) ∧ w5.cell? ⟨z, 2, none⟩ = some (.int .i64 y) := ⟨hS5.blk.cell (i := 5) rfl, k5.cell (i := 0) rfl, k5.cell (i := 1) rfl, k5.cell (i := 2) rfl⟩; clear k5; replace hS5 := Lib.hid hS5; replace q2 := Lib.hid ((FrT.of_below hbE.out).trans q2); clear q1))
  clear hs hk0 hk1 hlt d0 d1 d2 lz c5
  go_wp2
  go_ret
  rw [Int.toNat_natCast]
  exact ⟨A', c - k, rfl, hS5.out, q2.out⟩
end
end Go.Proofs.YtigmdfdcflkggaaGreat
