/-
  The calls of a line: open, Len, Held, Chunks, Buffers, of what is there, what is closed and what is nil. Conditions: numbers of 64 bits.
-/
import Derived.Test.YtbjakhiflgjflaaGreatDoorSpPut1
namespace Go.Proofs.YtbjakhiflgjflaaGreatDoor
open Go Go.RowKit

/-- A closed buffer's cells. -/
def shutC : List Value := [.pointer none, .int .i64 0, .int .i64 0, .slice none 0 0, .slice none 0 0]

set_option maxRecDepth 100000 in
theorem open_ok (pb bb gone len : Nat) (m c : Value) (w : World) (hb : Blk w bb (bufC pb gone len m c) 232) :
    Calls Tryz.prog 274 #[.pointer (some ⟨bb, 0, none⟩)] w fun e w' => e = .returned (.int .i64 0) ∧ w' = w := by
  have c0 := hb.cell (show (bufC pb gone len m c)[0]? = some _ from rfl)
  have hlt := hb.lt
  clear hb
  go_enter Tryz.func274, Tryz.ntmps274
  go_wp2
  go_ret
  exact ⟨rfl, rfl⟩
set_option maxRecDepth 100000 in
theorem open_shut (bb : Nat) (w : World) (hb : Blk w bb shutC 232) :
    Calls Tryz.prog 274 #[.pointer (some ⟨bb, 0, none⟩)] w fun e w' => e = .returned (.int .i64 18) ∧ w' = w := by
  have c0 := hb.cell (show shutC[0]? = some _ from rfl)
  have hlt := hb.lt
  clear hb
  go_enter Tryz.func274, Tryz.ntmps274
  go_wp2
  go_ret
  exact ⟨rfl, rfl⟩
set_option maxRecDepth 100000 in
theorem open_nil (w : World) :
    Calls Tryz.prog 274 #[.pointer none] w fun e w' => e = .returned (.int .i64 2) ∧ w' = w := by
  go_enter Tryz.func274, Tryz.ntmps274
  go_wp2
  go_ret
  exact ⟨rfl, rfl⟩

theorem heap_mv {B : Nat} {S : Nat → Prop} {w w' : World} (h : ∃ n, w' = w.drewN n) : Mv B S w w' := by
  obtain ⟨n, rfl⟩ := h
  exact ⟨rfl, rfl, rfl, Nat.le_refl _, fun _ _ _ => rfl, fun _ _ _ => rfl⟩

set_option maxRecDepth 100000 in
theorem len_ok (pb bb gone len : Nat) (m c : Value) (w : World) (hb : Blk w bb (bufC pb gone len m c) 232) (hg : gone ≤ len) (hl : len ≤ 100000000) :
    Calls Tryz.prog 275 #[.pointer (some ⟨bb, 0, none⟩)] w fun e w' => e = .returned (.int .i64 ((len - gone : Nat) : Int)) ∧ ∃ n, w' = w.drewN n := by
  have c1 := hb.cell (show (bufC pb gone len m c)[1]? = some _ from rfl)
  have c2 := hb.cell (show (bufC pb gone len m c)[2]? = some _ from rfl)
  have hlt := hb.lt
  have hD : (len : Int) - (gone : Int) = ((len - gone : Nat) : Int) := by omega
  generalize len - gone = D at hD ⊢
  clear hb
  have hwD : IntKind.i64.wrap (D : Int) = (D : Int) := by rw [IntKind.wrap_i64]; omega
  go_enter Tryz.func275, Tryz.ntmps275
  go_upto_region 3 with fail
  go_quiet (fail)
  go_wp2
  go_ret
  exact ⟨rfl, _, rfl⟩
set_option maxRecDepth 100000 in
theorem len_shut (bb : Nat) (w : World) (hb : Blk w bb shutC 232) :
    Calls Tryz.prog 275 #[.pointer (some ⟨bb, 0, none⟩)] w fun e w' => e = .returned (.int .i64 0) ∧ ∃ n, w' = w.drewN n := by
  have c1 := hb.cell (show shutC[1]? = some _ from rfl)
  have c2 := hb.cell (show shutC[2]? = some _ from rfl)
  have hlt := hb.lt
  clear hb
  have hwD : IntKind.i64.wrap 0 = 0 := by rw [IntKind.wrap_i64]; omega
  go_enter Tryz.func275, Tryz.ntmps275
  go_upto_region 3 with fail
  go_quiet (fail)
  go_wp2
  go_ret
  exact ⟨rfl, _, rfl⟩
set_option maxRecDepth 100000 in
theorem len_nil (w : World) :
    Calls Tryz.prog 275 #[.pointer none] w fun e w' => e = .returned (.int .i64 0) ∧ w' = w := by
  go_enter Tryz.func275, Tryz.ntmps275
  go_wp2
  go_ret
  exact ⟨rfl, rfl⟩
set_option maxRecDepth 100000 in
theorem held_ok (pb : Nat) (p : Ps) (S : Value) (w : World) (hb : Blk w pb (p.cells S) 140) :
    Calls Tryz.prog 21 #[.pointer (some ⟨pb, 0, none⟩)] w fun e w' => e = .returned (.int .i64 (p.held : Int)) ∧ w' = w := by
  have c1 := hb.cell (show (p.cells S)[3]? = some _ from rfl)
  have hlt := hb.lt
  clear hb
  go_enter Tryz.func21, Tryz.ntmps21
  go_wp2
  go_ret
  exact ⟨rfl, rfl⟩
set_option maxRecDepth 100000 in
theorem held_nil (w : World) :
    Calls Tryz.prog 21 #[.pointer none] w fun e w' => e = .returned (.int .i64 0) ∧ w' = w := by
  go_enter Tryz.func21, Tryz.ntmps21
  go_wp2
  go_ret
  exact ⟨rfl, rfl⟩
set_option maxRecDepth 100000 in
set_option maxRecDepth 100000 in
set_option maxRecDepth 100000 in
theorem buffers_ok (pb : Nat) (p : Ps) (S : Value) (w : World) (hb : Blk w pb (p.cells S) 140) :
    Calls Tryz.prog 19 #[.pointer (some ⟨pb, 0, none⟩)] w fun e w' => e = .returned (.int .i64 (p.nb : Int)) ∧ w' = w := by
  have c1 := hb.cell (show (p.cells S)[5]? = some _ from rfl)
  have hlt := hb.lt
  clear hb
  go_enter Tryz.func19, Tryz.ntmps19
  go_wp2
  go_ret
  exact ⟨rfl, rfl⟩
set_option maxRecDepth 100000 in
theorem buffers_nil (w : World) :
    Calls Tryz.prog 19 #[.pointer none] w fun e w' => e = .returned (.int .i64 0) ∧ w' = w := by
  go_enter Tryz.func19, Tryz.ntmps19
  go_wp2
  go_ret
  exact ⟨rfl, rfl⟩
set_option maxRecDepth 100000 in
theorem Open_nil (w : World) :
    Calls Tryz.prog 95 #[.pointer none] w fun e w' => e = .returned (.pointer none) ∧ w' = w := by
  go_enter Tryz.func95, Tryz.ntmps95
  go_wp2
  go_ret
  exact ⟨rfl, rfl⟩
theorem set5 (p : Ps) (S : Value) (u : Nat) : (p.cells S).set 5 (.int .i64 (u : Int)) = ({ p with nb := u } : Ps).cells S := rfl
set_option maxRecDepth 100000 in
theorem Open_ok (B pb : Nat) (p : Ps) (S : Value) (w : World) (hb : Blk w pb (p.cells S) 140) (hB : B ≤ pb) (hn : p.nb ≤ 1000000) :
    Calls Tryz.prog 95 #[.pointer (some ⟨pb, 0, none⟩)] w fun e w' => e = .returned (.pointer (some ⟨w.heap.size, 0, none⟩)) ∧ Blk w' pb (({ p with nb := p.nb + 1 } : Ps).cells S) 140 ∧
      Blk w' w.heap.size (bufC pb 0 0 (.slice none 0 0) (.slice none 0 0)) 232 ∧ Mv B (fun b => b = pb) w w' ∧ w'.heap.size = w.heap.size + 1 := by
  have c5 := hb.cell (show (p.cells S)[5]? = some _ from rfl)
  have hf := hb.frozen 5
  have hlt := hb.lt
  obtain ⟨U, hU⟩ : ∃ U, p.nb = U := ⟨_, rfl⟩
  rw [hU] at c5 hn ⊢
  replace hU := Lib.hid hU
  replace hb := Lib.hid hb
  go_enter Tryz.func95, Tryz.ntmps95
  go_upto_region 4 with fail
  have e1 : (w.setCell ⟨pb, 5, none⟩ (.int .i64 ((U : Int) + 1))) = (w.setCell ⟨pb, 5, none⟩ (.int .i64 ((U + 1 : Nat) : Int))) := rfl
  rw [e1]
  have hb1 := hb.out.set 5 (.int .i64 ((U + 1 : Nat) : Int))
  rw [set5] at hb1
  have hm1 : Mv B (fun b => b = pb) w (w.setCell ⟨pb, 5, none⟩ (.int .i64 ((U + 1 : Nat) : Int))) := Mv.set (S := fun b => b = pb) hb.out rfl four_pool hB _ _
  have hs1 : (w.setCell ⟨pb, 5, none⟩ (.int .i64 ((U + 1 : Nat) : Int))).heap.size = w.heap.size := by simp [World.setCell]
  obtain ⟨z, hz⟩ : ∃ z, w.heap.size = z := ⟨_, rfl⟩
  generalize w.setCell ⟨pb, 5, none⟩ (.int .i64 ((U + 1 : Nat) : Int)) = w1 at hb1 hm1 hs1 ⊢
  rw [hz] at hs1
  have hb2 := hb1.alloc (.cells #[.pointer (some ⟨pb, 0, none⟩), .int .i64 0, .int .i64 0, .slice none 0 0, .slice none 0 0] 232)
  have hnew := Blk.new w1 (bufC pb 0 0 (.slice none 0 0) (.slice none 0 0)) 232
  rw [hs1] at hnew
  have hm2 := hm1.trans (Mv.alloc B _ w1 (.cells #[.pointer (some ⟨pb, 0, none⟩), .int .i64 0, .int .i64 0, .slice none 0 0, .slice none 0 0] 232))
  have hs2 : (w1.alloc (.cells #[.pointer (some ⟨pb, 0, none⟩), .int .i64 0, .int .i64 0, .slice none 0 0, .slice none 0 0] 232)).heap.size = z + 1 := by rw [← hs1]; simp
  replace hs2 := Lib.hid hs2
  replace hb1 := Lib.hid hb1
  replace hm1 := Lib.hid hm1
  replace hb2 := Lib.hid hb2
  replace hm2 := Lib.hid hm2
  replace hnew := Lib.hid hnew
  replace hz := Lib.hid hz
  clear c5 hf e1
  go_wp2
  go_ret
  exact ⟨by rw [hz.out]; rfl, hb2.out, by rw [hz.out]; exact hnew.out, hm2.out, by rw [hz.out]; exact hs2.out⟩

/-- May a pool be made of these? -/
def mayPool (q m c : Int) : Bool := decide (0 ≤ q) && decide (q ≤ 1048576) && decide (0 ≤ m) && decide (m ≤ 65536) && decide (1 ≤ c) && decide (c ≤ 65536)
set_option maxRecDepth 100000 in
theorem New_ok (q m c : Nat) (w : World) (hq : q ≤ 1048576) (hm : m ≤ 65536) (hc0 : 1 ≤ c) (hc : c ≤ 65536) :
    Calls Tryz.prog 44 #[.int .i64 (q : Int), .int .i64 (m : Int), .int .i64 (c : Int)] w fun e w' => e = .returned (.tuple #[.pointer (some ⟨w.heap.size, 0, none⟩), .int .i64 0]) ∧ w' = w.alloc (.cells ((⟨q, m, c, 0, 0, 0⟩ : Ps).cells (.slice none 0 0)).toArray 140) := by
  have h1 : ¬ (q : Int) < 0 := by omega
  have h2 : ¬ (1048576 : Int) < (q : Int) := by omega
  have h3 : ¬ (m : Int) < 0 := by omega
  have h4 : ¬ (65536 : Int) < (m : Int) := by omega
  have h5 : ¬ (c : Int) < 1 := by omega
  have h6 : ¬ (65536 : Int) < (c : Int) := by omega
  go_enter Tryz.func44, Tryz.ntmps44
  go_wp2
  go_ret2
  exact ⟨rfl, rfl⟩
set_option maxRecDepth 100000 in
theorem New_no (q m c : Int) (w : World) (h : mayPool q m c = false) :
    Calls Tryz.prog 44 #[.int .i64 q, .int .i64 m, .int .i64 c] w fun e w' => e = .returned (.tuple #[.pointer none, .int .i64 1]) ∧ w' = w := by
  have h : q < 0 ∨ 1048576 < q ∨ m < 0 ∨ 65536 < m ∨ c < 1 ∨ 65536 < c := by
    simp only [mayPool, Bool.and_eq_false_iff, decide_eq_false_iff_not] at h
    omega
  replace h := Lib.hid h
  go_enter Tryz.func44, Tryz.ntmps44
  go_wp2
  all_goals first | (exfalso; have := h.out; omega) | (go_ret2; exact ⟨rfl, rfl⟩)
end Go.Proofs.YtbjakhiflgjflaaGreatDoor
