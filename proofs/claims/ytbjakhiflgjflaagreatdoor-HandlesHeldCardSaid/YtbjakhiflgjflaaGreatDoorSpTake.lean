/-
  take and leave: chunks go out of the row that keeps those that are used no more, and into it. Conditions: at most a million chunks.
-/
import Derived.Test.YtbjakhiflgjflaaGreatDoorSpExtend
namespace Go.Proofs.YtbjakhiflgjflaaGreatDoor
open Go Go.RowKit

/-- A pool's numbers. -/
structure Ps where
  quota : Nat
  mem : Nat
  ch : Nat
  held : Nat
  used : Nat
  nb : Nat
def Ps.cells (p : Ps) (S : Value) : List Value := [.int .i64 (p.quota : Int), .int .i64 (p.mem : Int), .int .i64 (p.ch : Int), .int .i64 (p.held : Int), .int .i64 (p.used : Int), .int .i64 (p.nb : Int), S]

theorem own_len (A : Option Addr) (n m c c' : Nat) : (Value.slice A n c).ownBlock = (Value.slice A m c').ownBlock := by cases A <;> rfl
theorem set4 (p : Ps) (S : Value) (u : Nat) : (p.cells S).set 4 (.int .i64 (u : Int)) = ({ p with used := u } : Ps).cells S := rfl
theorem set6 (p : Ps) (S S' : Value) : (p.cells S).set 6 S' = p.cells S' := rfl

set_option maxHeartbeats 1000000 in
set_option maxRecDepth 100000 in
theorem take_none (B pb : Nat) (p : Ps) (S : Value) (w : World) (hb : Blk w pb (p.cells S) 140) (hB : B ≤ pb) (hS : Row w B 134 S 0 []) (hu : p.used ≤ 1000000) :
    Calls Tryz.prog 286 #[.pointer (some ⟨pb, 0, none⟩)] w fun e w' => e = .returned (.slice none 0 0) ∧ Blk w' pb (({ p with used := p.used + 1 } : Ps).cells S) 140 ∧ Mv B (fun b => b = pb) w w' := by
  obtain ⟨A, c, rfl, hc, hcm⟩ := hS.form
  have c4 := hb.cell (show (p.cells (.slice A 0 c))[4]? = some _ from rfl)
  have hf := hb.frozen 4
  have hlt := hb.lt
  obtain ⟨U, hU⟩ : ∃ U, p.used = U := ⟨_, rfl⟩
  rw [hU] at c4 hu ⊢
  replace hU := Lib.hid hU
  replace hb := Lib.hid hb
  clear hS
  go_enter Tryz.func286, Tryz.ntmps286
  go_upto_region 2 with fail
  have hb1 := hb.out.set 4 (.int .i64 ((U + 1 : Nat) : Int))
  rw [set4] at hb1
  have hm1 : Mv B (fun b => b = pb) w (w.setCell ⟨pb, 4, none⟩ (.int .i64 ((U + 1 : Nat) : Int))) := Mv.set (S := fun b => b = pb) hb.out rfl four_pool hB _ _
  have e1 : (w.setCell ⟨pb, 4, none⟩ (.int .i64 ((U : Int) + 1))) = (w.setCell ⟨pb, 4, none⟩ (.int .i64 ((U + 1 : Nat) : Int))) := rfl
  rw [e1]
  generalize w.setCell ⟨pb, 4, none⟩ (.int .i64 ((U + 1 : Nat) : Int)) = w1 at hb1 hm1 ⊢
  have d6 := hb1.cell (show (Ps.cells { p with used := U + 1 } (.slice A 0 c))[6]? = some _ from rfl)
  replace hb1 := Lib.hid hb1
  replace hm1 := Lib.hid hm1
  clear c4 hf e1
  go_wp2
  go_ret
  exact ⟨rfl, hb1.out, hm1.out⟩

set_option maxHeartbeats 1000000 in
set_option maxRecDepth 100000 in
theorem take_some (B pb : Nat) (p : Ps) (S v0 : Value) (bs0 : List UInt8) (sp : List Value) (w : World) (hb : Blk w pb (p.cells S) 140) (hB : B ≤ pb) (hS : Row w B 134 S (sp.length + 1) (sp ++ [v0])) (hne : ∀ g, S.ownBlock = some g → g ≠ pb)
    (h0 : Row w B 5 v0 bs0.length (bc bs0)) (hne0 : ∀ g, v0.ownBlock = some g → g ≠ pb) (hu : p.used ≤ 1000000) :
    Calls Tryz.prog 286 #[.pointer (some ⟨pb, 0, none⟩)] w fun e w' => ∃ v S', e = .returned v ∧ Blk w' pb (({ p with used := p.used + 1 } : Ps).cells S') 140 ∧ Row w' B 134 S' sp.length sp ∧ S'.ownBlock = S.ownBlock ∧
      Row w' B 5 v 0 (bc []) ∧ v.ownBlock = v0.ownBlock ∧ Mv B (fun b => b = pb) w w' := by
  obtain ⟨g, off, c, rfl, hc, hcm, hBg⟩ := hS.form1 (Nat.succ_pos _)
  obtain ⟨A0, c0, rfl, hc0, hcm0⟩ := h0.form
  have hgp := hne g rfl
  have c4 := hb.cell (show (p.cells (.slice (some ⟨g, off, none⟩) (sp.length + 1) c))[4]? = some _ from rfl)
  have hf := hb.frozen 4
  have hlt := hb.lt
  have hl1 := hS.cell (j := sp.length) (u := .slice A0 bs0.length c0) (by simp)
  have hhd := hS.head sp.length (Nat.le_succ _)
  rw [List.take_left' rfl] at hhd
  have hv0 := h0.head 0 (Nat.zero_le _)
  rw [List.take_zero] at hv0
  have hln := hS.lt (g := g) rfl
  obtain ⟨KL, hKL⟩ : ∃ KL, sp.length = KL := ⟨_, rfl⟩
  obtain ⟨K0, hK0⟩ : ∃ K0, bs0.length = K0 := ⟨_, rfl⟩
  obtain ⟨U, hU⟩ : ∃ U, p.used = U := ⟨_, rfl⟩
  rw [hKL] at hl1 hb hc hhd ⊢
  clear hne
  rw [hK0] at hc0 hl1
  rw [hU] at c4 hu ⊢
  replace hU := Lib.hid hU
  replace hb := Lib.hid hb
  replace hKL := Lib.hid hKL
  replace hK0 := Lib.hid hK0
  have hltg := hln.2.1
  unfold maxLen at hcm hcm0
  clear hS h0 hln
  replace hhd := Lib.hid hhd
  replace hv0 := Lib.hid hv0
  go_enter Tryz.func286, Tryz.ntmps286
  go_upto_region 2 with fail
  have hb1 := hb.out.set 4 (.int .i64 ((U + 1 : Nat) : Int))
  rw [set4] at hb1
  have hm1 : Mv B (fun b => b = pb) w (w.setCell ⟨pb, 4, none⟩ (.int .i64 ((U + 1 : Nat) : Int))) := Mv.set (S := fun b => b = pb) hb.out rfl four_pool hB _ _
  have e1 : (w.setCell ⟨pb, 4, none⟩ (.int .i64 ((U : Int) + 1))) = (w.setCell ⟨pb, 4, none⟩ (.int .i64 ((U + 1 : Nat) : Int))) := rfl
  rw [e1]
  generalize w.setCell ⟨pb, 4, none⟩ (.int .i64 ((U + 1 : Nat) : Int)) = w1 at hb1 hm1 ⊢
  have d6 := hb1.cell (show (Ps.cells { p with used := U + 1 } (.slice (some ⟨g, off, none⟩) (KL + 1) c))[6]? = some _ from rfl)
  have f6 := hb1.frozen 6
  have l1 := (World.cell?_of_block (a := ⟨g, off + KL, none⟩) (hm1.block g hltg hgp)).trans hl1
  have hlt1 := hb1.lt
  replace hb1 := Lib.hid hb1
  replace hm1 := Lib.hid hm1
  clear c4 hf e1 hl1
  go_wp2
  go_ret
  have hb2 := hb1.out.set 6 (.slice (some ⟨g, off, none⟩) KL c)
  rw [set6] at hb2
  have hm2 := hm1.out.trans (Mv.set (S := fun b => b = pb) hb1.out rfl four_pool hB 6 (.slice (some ⟨g, off, none⟩) KL c))
  exact ⟨_, _, rfl, hb2, hhd.out.mv hm2 (fun g' h => by cases h; exact hgp), rfl, hv0.out.mv hm2 (fun g' h => hne0 g' (by rw [← h]; exact own_len _ _ _ _ _)), own_len _ _ _ _ _, hm2⟩

set_option maxHeartbeats 1000000 in
set_option maxRecDepth 100000 in
theorem leave_any (B pb : Nat) (p : Ps) (S x : Value) (sp cs : List Value) (w : World) (hb : Blk w pb (p.cells S) 140) (hB : B ≤ pb) (hBw : B ≤ w.heap.size) (hS : Row w B 134 S sp.length sp) (hne : ∀ g, S.ownBlock = some g → g ≠ pb)
    (hx : Row w B 134 x cs.length cs) (hnx : ∀ g, x.ownBlock = some g → g ≠ pb) (h1 : ∀ u ∈ cs, u.oneCell' = true) (hu : cs.length ≤ p.used) (hu2 : p.used ≤ 1000000) (hsp : sp.length ≤ 1000000) :
    Calls Tryz.prog 276 #[.pointer (some ⟨pb, 0, none⟩), x] w fun e w' => ∃ S', e = .returned (.tuple #[]) ∧ Blk w' pb (({ p with used := p.used - cs.length } : Ps).cells S') 140 ∧ Row w' B 134 S' (sp ++ cs).length (sp ++ cs) ∧
      (S'.ownBlock = S.ownBlock ∨ S'.ownBlock = some w.heap.size) ∧ Mv B (fun b => b = pb ∨ S.ownBlock = some b) w w' := by
  obtain ⟨i0, hi, hz0, hz1, hz2⟩ := info_parts infoRow
  obtain ⟨A, c, rfl, hc, hcm⟩ := hx.form
  obtain ⟨A0, c0, rfl, hc0, hcm0⟩ := hS.form
  have c4 := hb.cell (show (p.cells (.slice A0 sp.length c0))[4]? = some _ from rfl)
  have hf := hb.frozen 4
  have hlt := hb.lt
  obtain ⟨U, hU⟩ : ∃ U, p.used = U := ⟨_, rfl⟩
  obtain ⟨KL, hKL⟩ : ∃ KL, cs.length = KL := ⟨_, rfl⟩
  rw [hU] at c4 hu hu2 ⊢
  rw [hKL] at hx hu hc hnx ⊢
  replace hU := Lib.hid hU
  replace hKL := Lib.hid hKL
  replace hb := Lib.hid hb
  replace hx := Lib.hid hx
  unfold maxLen at hcm
  go_enter Tryz.func276, Tryz.ntmps276
  go_upto_region 1 with fail
  have hUK : ((U : Int) - (KL : Int)) = ((U - KL : Nat) : Int) := by omega
  rw [hUK]
  have hb1 := hb.out.set 4 (.int .i64 ((U - KL : Nat) : Int))
  rw [set4] at hb1
  have hm1 : Mv B (fun b => b = pb ∨ (Value.slice A0 sp.length c0).ownBlock = some b) w (w.setCell ⟨pb, 4, none⟩ (.int .i64 ((U - KL : Nat) : Int))) := Mv.set (S := fun b => b = pb ∨ (Value.slice A0 sp.length c0).ownBlock = some b) hb.out (.inl rfl) four_pool hB _ _
  have hs1 : (w.setCell ⟨pb, 4, none⟩ (.int .i64 ((U - KL : Nat) : Int))).heap.size = w.heap.size := by simp [World.setCell]
  have hS1 : Row (w.setCell ⟨pb, 4, none⟩ (.int .i64 ((U - KL : Nat) : Int))) B 134 (.slice A0 sp.length c0) sp.length sp := hS.keep fun g hg => heap_setCell_other w _ g _ (hne g hg)
  have hx1 : Row (w.setCell ⟨pb, 4, none⟩ (.int .i64 ((U - KL : Nat) : Int))) B 134 (.slice A KL c) KL cs := hx.out.keep fun g hg => heap_setCell_other w _ g _ (hnx g hg)
  generalize w.setCell ⟨pb, 4, none⟩ (.int .i64 ((U - KL : Nat) : Int)) = w1 at hb1 hm1 hs1 hS1 hx1 ⊢
  have hlu : ∀ q : Nat, (sp ++ cs).length = sp.length + KL := fun _ => by rw [List.length_append, hKL.out]
  obtain ⟨S', w2, hrun, hr2, hm2, how⟩ := run_append_row (P := Tryz.prog) w1 B 138 138 138 134 i0 _ Tryz.underlying138 hi hz0 hz1 rfl four_rows (.slice A0 sp.length c0) sp.length sp hS1 (.slice A KL c) KL cs (hx1.src Tryz.underlying138 h1) (by rw [hz2]; omega) (by omega) (by omega)
  have hb2 : Blk w2 pb _ _ := hb1.mv hm2 fun h => hne pb h rfl
  have hne2 : ∀ g, S'.ownBlock = some g → g ≠ pb := by
    intro g hg
    rcases how with how | how
    · exact hne g (how ▸ hg)
    · rw [how] at hg; cases hg; omega
  have hm12 : Mv B (fun b => b = pb ∨ (Value.slice A0 sp.length c0).ownBlock = some b) w w2 := hm1.trans (hm2.mono fun b _ h => .inr h)
  rw [← hlu 0] at hr2
  obtain ⟨LL, hLL⟩ : ∃ LL, (sp ++ cs).length = LL := ⟨_, rfl⟩
  rw [hLL] at hr2
  replace hLL := Lib.hid hLL
  obtain ⟨A', c', rfl, hc', hcm'⟩ := hr2.form
  have d6 := hb1.cell (show (Ps.cells { p with used := U - KL } (.slice A0 sp.length c0))[6]? = some _ from rfl)
  have e6 := hb2.cell (show (Ps.cells { p with used := U - KL } (.slice A0 sp.length c0))[6]? = some _ from rfl)
  have f6 := hb2.frozen 6
  have hlt2 := hb2.lt
  rw [hs1] at how
  replace hb1 := Lib.hid hb1
  replace hm1 := Lib.hid hm1
  replace hb2 := Lib.hid hb2
  replace hm12 := Lib.hid hm12
  replace hm2 := Lib.hid hm2
  replace hr2 := Lib.hid hr2
  replace hS1 := Lib.hid hS1
  replace hx1 := Lib.hid hx1
  replace hrun := Lib.hid hrun
  replace how := Lib.hid how
  replace hS := Lib.hid hS
  clear c4 hf hUK hi hz0 hz1 hz2 hlu
  go_wp2_with (at_builtin; refine wpList_append_of rfl _ _ 138 138 rfl _ _ _ w2 rfl rfl hrun.out ?_)
  go_wp2
  go_end0
  have hb3 := hb2.out.set 6 (.slice A' LL c')
  rw [set6] at hb3
  have hm3 := hm12.out.trans (Mv.set (S := fun b => b = pb ∨ (Value.slice A0 sp.length c0).ownBlock = some b) hb2.out (.inl rfl) four_pool hB 6 (.slice A' LL c'))
  exact ⟨_, rfl, hb3, by rw [hLL.out]; exact hr2.out.keep fun g hg => heap_setCell_other w2 _ g _ (hne2 g hg), how.out, hm3⟩
end Go.Proofs.YtbjakhiflgjflaaGreatDoor
