/-
  The functions, aliases and traps of a state. Conditions: keys of at most 200 bytes, texts of at most a million.
-/
import Derived.Test.YtigmdfdcflkggaaGreatStGiven
namespace Go.Proofs.YtigmdfdcflkggaaGreat
open Go Go.RowKit Go.ChangeMaps

section
variable {w w' : World} {B sb : Nat} {a : Ad} {pot : Nat} {t : Tg} {n : Int}
theorem bytesNe {s : ByteArray} {l : List UInt8} (h : ¬ s = ⟨l.toArray⟩) : (s.toList == l) = false := by
  rw [beq_eq_false_iff_ne]
  intro e
  rw [ByteArray.toList_eq] at e
  exact h (by cases s with | mk d => exact congrArg ByteArray.mk (by rw [← e]))
def trapB (s : ByteArray) : Bool := decide (s = ⟨#[69, 88, 73, 84]⟩) || decide (s = ⟨#[72, 85, 80]⟩) || decide (s = ⟨#[73, 78, 84]⟩) || decide (s = ⟨#[84, 69, 82, 77]⟩) || decide (s = ⟨#[85, 83, 82, 49]⟩)
def trapE (s : ByteArray) : Int := if trapB s = true then 0 else 16
set_option maxRecDepth 100000 in
theorem checkTrap_any (h : Blk w sb (stC a n) 110) (s : ByteArray) :
    Calls Tryz.prog 98 #[ptrV sb, .string s] w fun e w' => e = .returned (.int .i64 (trapE s)) ∧ w' = w := by
  have hi := sisNil_no h
  unfold ptrV at hi ⊢
  clear h
  by_cases h0 : s = ⟨#[69, 88, 73, 84]⟩
  · subst h0
    rw [show trapE ⟨#[69, 88, 73, 84]⟩ = 0 from rfl]
    go_enter Tryz.func98, Tryz.ntmps98
    go_wp2_with fail
    refine hi.mono ?_
    rintro e w' ⟨rfl, hw⟩
    obtain rfl := hw.symm
    go_wp2
    go_ret
    exact ⟨rfl, rfl⟩
  by_cases h1 : s = ⟨#[72, 85, 80]⟩
  · subst h1
    rw [show trapE ⟨#[72, 85, 80]⟩ = 0 from rfl]
    go_enter Tryz.func98, Tryz.ntmps98
    go_wp2_with fail
    refine hi.mono ?_
    rintro e w' ⟨rfl, hw⟩
    obtain rfl := hw.symm
    go_wp2
    go_ret
    exact ⟨rfl, rfl⟩
  by_cases h2 : s = ⟨#[73, 78, 84]⟩
  · subst h2
    rw [show trapE ⟨#[73, 78, 84]⟩ = 0 from rfl]
    go_enter Tryz.func98, Tryz.ntmps98
    go_wp2_with fail
    refine hi.mono ?_
    rintro e w' ⟨rfl, hw⟩
    obtain rfl := hw.symm
    go_wp2
    go_ret
    exact ⟨rfl, rfl⟩
  by_cases h3 : s = ⟨#[84, 69, 82, 77]⟩
  · subst h3
    rw [show trapE ⟨#[84, 69, 82, 77]⟩ = 0 from rfl]
    go_enter Tryz.func98, Tryz.ntmps98
    go_wp2_with fail
    refine hi.mono ?_
    rintro e w' ⟨rfl, hw⟩
    obtain rfl := hw.symm
    go_wp2
    go_ret
    exact ⟨rfl, rfl⟩
  by_cases h4 : s = ⟨#[85, 83, 82, 49]⟩
  · subst h4
    rw [show trapE ⟨#[85, 83, 82, 49]⟩ = 0 from rfl]
    go_enter Tryz.func98, Tryz.ntmps98
    go_wp2_with fail
    refine hi.mono ?_
    rintro e w' ⟨rfl, hw⟩
    obtain rfl := hw.symm
    go_wp2
    go_ret
    exact ⟨rfl, rfl⟩
  have hE : trapE s = 16 := by unfold trapE trapB; simp [h0, h1, h2, h3, h4]
  rw [hE]
  clear hE
  have g0 : (s.toList == [69, 88, 73, 84]) = false := bytesNe h0
  have g1 : (s.toList == [72, 85, 80]) = false := bytesNe h1
  have g2 : (s.toList == [73, 78, 84]) = false := bytesNe h2
  have g3 : (s.toList == [84, 69, 82, 77]) = false := bytesNe h3
  have g4 : (s.toList == [85, 83, 82, 49]) = false := bytesNe h4
  clear h0 h1 h2 h3 h4
  go_enter Tryz.func98, Tryz.ntmps98
  go_wp2_with fail
  refine hi.mono ?_
  rintro e w' ⟨rfl, hw⟩
  obtain rfl := hw.symm
  go_wp2
  go_ret
  exact ⟨rfl, rfl⟩
set_option maxRecDepth 100000 in
theorem Trap_any (h : StAt w B sb a pot t n) (k : ByteArray) :
    Calls Tryz.prog 37 #[ptrV sb, .string k] w fun e w' => e = .returned (.tuple #[.string ((t.cur.t k).getD noW), .bool (t.cur.t k).isSome]) ∧ Below w.heap.size w w' := by
  have hi := sisNil_no h.blk
  have hg := th_gett h.th k
  have c0 := h.blk.cell (i := 3) rfl
  have hlt := h.blk.lt
  generalize (t.cur.t k).getD noW = V at hg ⊢
  generalize (t.cur.t k).isSome = E at hg ⊢
  unfold encW at hg
  unfold ptrV at hi hg c0 ⊢
  clear h
  go_enter Tryz.func37, Tryz.ntmps37
  go_wp2_with fail
  refine hi.mono ?_
  rintro e w' ⟨rfl, hw⟩
  obtain rfl := hw.symm
  clear hi hw
  go_wp2_with fail
  refine hg.mono ?_
  rintro e w2 ⟨rfl, hb⟩
  have hfin := Lib.hid (hb.alloc hb.size (.cells #[.string V] 126))
  clear hg hb c0 hlt
  go_wp2
  go_ret2
  exact ⟨rfl, hfin.out⟩
set_option maxRecDepth 100000 in
theorem Alias_any (h : StAt w B sb a pot t n) (k : ByteArray) :
    Calls Tryz.prog 70 #[ptrV sb, .string k] w fun e w' => e = .returned (.tuple #[.string ((t.cur.a k).getD noW), .bool (t.cur.a k).isSome]) ∧ Below w.heap.size w w' := by
  have hi := sisNil_no h.blk
  have hg := th_geta h.th k
  have c0 := h.blk.cell (i := 2) rfl
  have hlt := h.blk.lt
  generalize (t.cur.a k).getD noW = V at hg ⊢
  generalize (t.cur.a k).isSome = E at hg ⊢
  unfold encW at hg
  unfold ptrV at hi hg c0 ⊢
  clear h
  go_enter Tryz.func70, Tryz.ntmps70
  go_wp2_with fail
  refine hi.mono ?_
  rintro e w' ⟨rfl, hw⟩
  obtain rfl := hw.symm
  clear hi hw
  go_wp2_with fail
  refine hg.mono ?_
  rintro e w2 ⟨rfl, hb⟩
  have hfin := Lib.hid (hb.alloc hb.size (.cells #[.string V] 126))
  clear hg hb c0 hlt
  go_wp2
  go_ret2
  exact ⟨rfl, hfin.out⟩
set_option maxRecDepth 100000 in
set_option maxHeartbeats 2000000 in
theorem SetTrap_ok (h : StAt w B sb a pot t n) (k v : ByteArray) (hk : k.size ≤ 200) (hv1 : v.size ≤ 1000000) (hnm : trapB k = true) (hv : ¬ 4096 < v.size) :
    Calls Tryz.prog 35 #[ptrV sb, .string k, .string v] w fun e w' => e = .returned (.int .i64 (t.putt k v).1) ∧ StAt w' B sb a (pot + 2) (t.putt k v).2 n ∧ FrT B a w w' := by
  have hc := checkTrap_any h.blk k
  unfold trapE at hc
  rw [if_pos hnm] at hc
  have hput := fun (W : World) (hb : Below w.heap.size w W) => th_putt (h.below hb).th k v hk
  have hst := fun (W : World) (hb : Below w.heap.size w W) => h.below hb
  unfold encW at hput
  have hbC : Below w.heap.size w (w.alloc (.cells #[.string v] 9)) := Below.of_alloc w _
  have bC : Blk (w.alloc (.cells #[.string v] 9)) w.heap.size [.string v] 9 := Blk.new w _ _
  have htx : Txs (w.alloc (.cells #[.string v] 9)) (some ⟨w.heap.size, 0, none⟩) 1 1 [v] := ⟨rfl, Nat.le_refl _, by decide, fun _ => ⟨w.heap.size, 0, rfl, bC.lt, fun j x hx => by
    cases j with
    | zero => cases hx; exact bC.cell (i := 0) rfl
    | succ j => cases hx⟩⟩
  have hg := tooGreat_any htx (fun s hs => by rw [List.mem_singleton] at hs; rw [hs]; exact hv1) (by decide)
  have hgr : greatL [v] = false := by unfold greatL; simp [hv]
  rw [hgr] at hg
  unfold ptrV at *
  replace hput := Lib.hid hput
  replace hst := Lib.hid hst
  replace hbC := Lib.hid hbC
  clear htx bC hgr h
  go_enter Tryz.func35, Tryz.ntmps35
  go_wp2_with fail
  refine hc.mono ?_
  rintro e w' ⟨rfl, hw⟩
  obtain rfl := hw.symm
  clear hc hw
  go_wp2_with fail
  refine hg.mono ?_
  rintro e w' ⟨rfl, hw⟩
  obtain rfl := hw.symm
  generalize (w.alloc (.cells #[.string v] 9)) = wC at hbC ⊢
  have hSC := hst.out wC hbC.out
  have c0 := hSC.blk.cell (i := 3) rfl
  have cl := hSC.blk.lt
  unfold ptrV at c0
  have hp := hput.out wC hbC.out
  replace hSC := Lib.hid hSC
  clear hg hw
  go_wp2_with fail
  refine hp.mono ?_
  rintro e w5 ⟨rfl, q1, q2⟩
  have hfin := Lib.hid (And.intro (hSC.out.next q1 q2) ((FrT.of_below hbC.out).trans q2))
  clear hp q1 q2 c0 cl
  go_wp2
  go_ret
  exact ⟨rfl, hfin.out⟩
set_option maxRecDepth 100000 in
theorem SetTrap_bad (h : StAt w B sb a pot t n) (k v : ByteArray) (hnm : ¬ trapB k = true) :
    Calls Tryz.prog 35 #[ptrV sb, .string k, .string v] w fun e w' => e = .returned (.int .i64 16) ∧ w' = w := by
  have hc := checkTrap_any h.blk k
  unfold trapE at hc
  rw [if_neg hnm] at hc
  unfold ptrV at hc ⊢
  clear h hnm
  go_enter Tryz.func35, Tryz.ntmps35
  go_wp2_with fail
  refine hc.mono ?_
  rintro e w' ⟨rfl, hw⟩
  obtain rfl := hw.symm
  clear hc hw
  go_wp2
  go_ret
  exact ⟨rfl, rfl⟩
end
end Go.Proofs.YtigmdfdcflkggaaGreat
