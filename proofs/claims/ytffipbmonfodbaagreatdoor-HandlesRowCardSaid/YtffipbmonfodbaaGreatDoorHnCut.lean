/-
  Cut of a node's bytes to none. Conditions: fewer than a million bytes in all.
-/
import Derived.Test.YtffipbmonfodbaaGreatDoorHnSys
import Derived.Deep.RegionHeld3
namespace Go.Proofs.YtffipbmonfodbaaGreatDoor
open Go Go.RowKit Go.ChangeMaps

theorem infoB : (Tryz.prog.info? 5).map (fun i => (i.zero, i.size, i.bytes)) = some (some (.int .u8 0), 1, 1) := by kernel_rfl
theorem rowM_own {w : World} {B n : Nat} {e : TypeId} {v : Value} {xs : List Value} (h : w.ownsRow B e 1 v n xs) : RowM w e v n xs := by
  obtain ⟨hl, h⟩ := h
  rcases h with ⟨rfl, rfl⟩ | ⟨g, cap, cur, rfl, _, hgb, h1, h2, h3, h4⟩
  · exact .inl ⟨rfl, rfl, List.eq_nil_of_length_eq_zero (by simpa using hl)⟩
  · exact .inr ⟨g, 0, cap, cur.toList, rfl, ⟨(0, 0), .inl rfl, hgb⟩, h1, h2, by simp; omega, by simpa using h4⟩
set_option maxHeartbeats 1000000 in
set_option maxRecDepth 100000 in
theorem cloneB0 (A : Option Addr) (c : Nat) (w : World) :
    Calls Tryz.prog 25 #[.slice A 0 c] w fun e w' => ∃ v', e = .returned v' ∧ RowM w' 5 v' 0 [] ∧ (∀ g, v'.ownBlock = some g → w.heap.size ≤ g) ∧ w.grownBy w' none := by
  obtain ⟨i0, hi, hz0, hz1, hz2⟩ := info_parts infoB
  have q22 : ∀ (w : World) (a : Option Addr) (n c n' c' : Nat), (binOp .eql 68 (.slice a n c) (.slice none n' c')).run Tryz.prog w = .ok (.bool a.isNone) w := fun w a n c n' c' => Lib.run_eql_slice_nil w _ _ a n c n' c' Tryz.underlying68
  cases A with
  | none =>
    clear hi hz0 hz1 hz2
    go_enter Tryz.func25, Tryz.ntmps25
    go_wp2
    go_ret
    exact ⟨_, rfl, .inl ⟨rfl, rfl, rfl⟩, nofun, ⟨rfl, rfl, rfl, Nat.le_refl _, fun _ _ _ => rfl⟩⟩
  | some ad =>
    go_enter Tryz.func25, Tryz.ntmps25
    go_wp2_with (at_builtin; refine wpList_append_own _ rfl _ _ 68 rfl w.heap.size 5 i0 _ 1 1 Tryz.underlying68 hi hz0 hz1 hz2 rfl (by decide) _ _ _ rfl (World.ownsRow_made w #[] 0 (Nat.le_refl _) (Nat.zero_le _) (by simp)) ad 0 c [] rfl ?qc1 ?qc2 ?qc3 ?qc4 ?qc5 ?qc6 ?_)
    case qc1 => rfl
    case qc2 => intro j u hj; simp at hj
    case qc3 => intro u hu; cases hu
    case qc4 => simp
    case qc5 => simp
    case qc6 => simp
    intro v' w1 hown hgrow _
    have hb : Below w.heap.size w w1 := ((Below.refl _ w).alloc (Nat.le_refl _) _).grown hgrow (by simp) (by intro k hk; simp [Value.ownBlock] at hk; omega)
    go_wp2
    go_ret
    exact ⟨v', rfl, rowM_own hown, fun g hg => (hown.lt g hg).1, hb.os, hb.tape, hb.output, hb.size, fun k hk _ => hb.block k hk⟩

section
variable {w : World} {F : Nat → Prop} {fb most room : Nat} {nds : Nds}
set_option maxHeartbeats 1000000 in
set_option maxRecDepth 100000 in
theorem node_cut0 (h : TreeF w F fb most room nds) {k : Int} {x : Pn} (hx : look nds k = some x) (hk : x.kind = 2) (hu : usedN nds ≤ 1000000) :
    Calls Tryz.prog 6 #[.pointer (some ⟨fb, 0, none⟩), .int .i64 k, .int .i64 0] w fun e w' => e = .returned (.int .i64 0) ∧ ∃ F', TreeF w' F' fb most room (upd nds k { x with data := [] }) ∧ Chg F F' w w' := by
  obtain ⟨lab, mb, mem, h, hF⟩ := h
  have hl := leaf_some h hx (by omega)
  have hN := h.nd k x hx
  have hle : x.data.length ≤ usedN nds := total_ge (f := fun x : Pn => x.data.length) hx
  obtain ⟨A, c, hdv, hc, hcm⟩ := hN.data.form
  have c0 := hN.blk.cell (show (bodyC x (mem k))[0]? = some _ from rfl)
  rw [hk] at c0
  have c3 := hN.blk.cell (show (bodyC x (mem k))[3]? = some _ from rfl)
  have u3 := h.fs.cell (i := 3) rfl
  have f3 := h.fs.frozen 3
  rw [hdv] at c3
  have c3' : (mem k).dv = .slice A x.data.length c := hdv
  replace c3' := Lib.hid c3'
  have hlt := hN.blk.lt
  have hfl := h.fs.lt
  have hne : (mem k).blk ≠ fb := fun e => by have := hN.lb; rw [e, h.lfs] at this; cases this
  have i1 : IntKind.i64.wrap ((usedN nds : Int) - (x.data.length : Int)) = ((usedN nds - x.data.length : Nat) : Int) := by rw [IntKind.wrap_i64]; omega
  have i2 : IntKind.i64.wrap (x.data.length : Int) = (x.data.length : Int) := by rw [IntKind.wrap_i64]; omega
  have i3 : ¬ (x.data.length : Int) < 0 := by omega
  -- behind the first store
  have hs1 : ∀ d, Chg (fun b => b = (mem k).blk ∨ b = fb) (fun b => b = (mem k).blk ∨ b = fb) w ((w.drewN d).setCell ⟨fb, 3, none⟩ (.int .i64 ((usedN nds - x.data.length : Nat) : Int))) := fun d => (Chg.drewN _ w d).trans (Chg.set (b := fb) (.inr rfl) 3 _)
  have hfs1 : ∀ d, Blk ((w.drewN d).setCell ⟨fb, 3, none⟩ (.int .i64 ((usedN nds - x.data.length : Nat) : Int))) fb _ _ := fun d => Blk.set (w := w.drewN d) h.fs 3 (.int .i64 ((usedN nds - x.data.length : Nat) : Int))
  have hbl1 : ∀ d, Blk ((w.drewN d).setCell ⟨fb, 3, none⟩ (.int .i64 ((usedN nds - x.data.length : Nat) : Int))) (mem k).blk _ _ := fun d => Blk.other (w := w.drewN d) (a := ⟨fb, 3, none⟩) hN.blk hne _
  have hend : ∀ w2 w3 v', Chg (fun b => b = (mem k).blk ∨ b = fb) (fun b => b = (mem k).blk ∨ b = fb) w w2 → Blk w2 fb [.map (some mb), .int .i64 (most : Int), .int .i64 (room : Int), .int .i64 ((usedN nds - x.data.length : Nat) : Int)] 74 → Blk w2 (mem k).blk (bodyC x (mem k)) 71 → w2.grownBy w3 none → RowM w3 5 v' 0 [] → (∀ g, v'.ownBlock = some g → w2.heap.size ≤ g) →
      ∃ F', TreeF (w3.setCell ⟨(mem k).blk, 3, none⟩ v') F' fb most room (upd nds k { x with data := [] }) ∧ Chg F F' w (w3.setCell ⟨(mem k).blk, 3, none⟩ v') := fun w2 w3 v' m1 hf2 hb2 hg hr ho => by
    have hf3 := (hg.block fb hf2.lt (by simp)).trans hf2
    have hb3 : Blk w3 (mem k).blk _ _ := (hg.block (mem k).blk hb2.lt (by simp)).trans hb2
    have m2 := (m1.trans (Chg.of_grown hg _)).trans (Chg.set (b := (mem k).blk) (.inl rfl) 3 v')
    refine h.data_step (d := []) (dv := v') hF hx m2 (fun g _ hs => hs.elim (fun hs => .inr (.inl (by rw [hs]; exact hN.lb))) (fun hs => .inl (by rw [hs]; exact h.lfs))) ?_ ?_ ?_ (fun g hg' => .inr ?_) (Nat.zero_le _) (by have := h.lim.2.2; simp; omega)
    · exact Blk.other (a := ⟨(mem k).blk, 3, none⟩) (show Blk w3 fb _ _ from hf3) hne.symm v'
    · exact hb3.set 3 v'
    · exact hr.keep fun g hg' => heap_setCell_other w3 _ g _ (fun e => by have := ho g hg'; have := hb2.lt; have e : g = (mem k).blk := e; omega)
    · have := ho g hg'; have := m1.size; omega
  generalize (mem k).blk = kb at hl c0 c3 hlt hne hs1 hfs1 hbl1 hend
  generalize usedN nds = U at *
  generalize x.data.length = L at *
  replace hs1 := Lib.hid hs1
  replace hfs1 := Lib.hid hfs1
  replace hbl1 := Lib.hid hbl1
  replace hend := Lib.hid hend
  clear h hN hx hk hdv
  go_enter Tryz.func6, Tryz.ntmps6
  go_wp2_with fail
  refine hl.mono ?_
  rintro e w' ⟨rfl, hw⟩
  obtain rfl := hw.symm
  clear hl hw
  go_upto_region 6 with fail
  go_still_tail 12, (by kernel_rfl)
  change wpList _ _ _ _ _ (w.drewN 1)
  go_upto_region 7 with fail
  have m1 := hs1.out 1
  have hf2 := hfs1.out 1
  have hb2 := hbl1.out 1
  generalize (w.drewN 1).setCell ⟨fb, 3, none⟩ (.int .i64 ((U - L : Nat) : Int)) = w2 at m1 hf2 hb2 ⊢
  have d3 : w2.cell? ⟨kb, 3, none⟩ = some (.slice A L c) := by rw [← c3'.out]; exact hb2.cell (show (bodyC x (mem k))[3]? = some _ from rfl)
  have g3 := hb2.frozen 3
  have hlt2 := hb2.lt
  replace m1 := Lib.hid m1
  replace hf2 := Lib.hid hf2
  replace hb2 := Lib.hid hb2
  clear hs1 hfs1 hbl1 c0 c3 u3 f3
  go_wp2_with fail
  refine (cloneB0 _ _ _).mono ?_
  rintro e w3 ⟨v', rfl, hr, ho, hg⟩
  have hres := hend.out w2 w3 v' m1.out hf2.out hb2.out hg hr ho
  have d4 := (hg.block kb hlt2 (by simp)).trans hb2.out
  have d5 : w3.cell? ⟨kb, 3, none⟩ = some _ := Blk.cell (i := 3) d4 rfl
  have g5 := Blk.frozen (show Blk w3 kb _ _ from d4) 3
  have hlt3 := Blk.lt (show Blk w3 kb _ _ from d4)
  obtain ⟨A', c', hv', _⟩ := hr.form
  subst hv'
  replace hres := Lib.hid hres
  clear hend d3 g3 hg hr ho m1 hf2 hb2 d4
  go_wp2
  go_ret
  exact ⟨rfl, hres.out⟩
end
end Go.Proofs.YtffipbmonfodbaaGreatDoor
