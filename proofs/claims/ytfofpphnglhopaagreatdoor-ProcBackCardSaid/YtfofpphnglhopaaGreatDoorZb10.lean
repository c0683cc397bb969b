/-
  A part. Conditions: each theorem's own.
-/
import Derived.Deep.RegionHeld3
import Derived.Shelf.Pu.Clone
import Derived.Test.YtfofpphnglhopaaGreatDoorProg
import Derived.BigQuiet
import Derived.OwnWalk
import Derived.Test.YtfofpphnglhopaaGreatDoorZb6
import Derived.Test.YtfofpphnglhopaaGreatDoorZb8
set_option maxHeartbeats 8000000
set_option maxRecDepth 100000
namespace Go.Proofs.YtfofpphnglhopaaGreatDoor
open Go Go.RowKit Go.ChangeMaps
theorem infoB : (Tryz.prog.info? 5).map (fun i => (i.zero, i.size, i.bytes)) = some (some (.int .u8 0), 1, 1) := by kernel_rfl
theorem rowM_own {w : World} {B n : Nat} {e : TypeId} {v : Value} {xs : List Value} (h : w.ownsRow B e 1 v n xs) : RowM w e v n xs := by
  obtain ⟨hl, h⟩ := h
  rcases h with ⟨rfl, rfl⟩ | ⟨g, cap, cur, rfl, _, hgb, h1, h2, h3, h4⟩
  · exact .inl ⟨rfl, rfl, List.eq_nil_of_length_eq_zero (by simpa using hl)⟩
  · exact .inr ⟨g, 0, cap, cur.toList, rfl, ⟨(0, 0), .inl rfl, hgb⟩, h1, h2, by simp; omega, by simpa using h4⟩
theorem cloneB0 (A : Option Addr) (c : Nat) (w : World) :
    Calls Tryz.prog 175 #[.slice A 0 c] w fun e w' => ∃ v', e = .returned v' ∧ RowM w' 5 v' 0 [] ∧ (∀ g, v'.ownBlock = some g → w.heap.size ≤ g) ∧ w.grownBy w' none := by
  obtain ⟨i0, hi, hz0, hz1, hz2⟩ := info_parts infoB
  have q22 : ∀ (w : World) (a : Option Addr) (n c n' c' : Nat), (binOp .eql 153 (.slice a n c) (.slice none n' c')).run Tryz.prog w = .ok (.bool a.isNone) w := fun w a n c n' c' => Lib.run_eql_slice_nil w _ _ a n c n' c' Tryz.underlying153
  cases A with
  | none =>
    clear hi hz0 hz1 hz2
    go_enter Tryz.func175, Tryz.ntmps175
    go_wp2
    go_ret
    exact ⟨_, rfl, .inl ⟨rfl, rfl, rfl⟩, nofun, ⟨rfl, rfl, rfl, Nat.le_refl _, fun _ _ _ => rfl⟩⟩
  | some ad =>
    go_enter Tryz.func175, Tryz.ntmps175
    go_wp2_with (at_builtin; refine wpList_append_own _ rfl _ _ 153 rfl w.heap.size 5 i0 _ 1 1 Tryz.underlying153 hi hz0 hz1 hz2 rfl (by decide) _ _ _ rfl (World.ownsRow_made w #[] 0 (Nat.le_refl _) (Nat.zero_le _) (by simp)) ad 0 c [] rfl ?qc1 ?qc2 ?qc3 ?qc4 ?qc5 ?qc6 ?_)
    case qc1 => rfl
    case qc2 => intro j u hj; simp at hj
    case qc3 => intro u hu; cases hu
    case qc4 => simp
    case qc5 => simp
    case qc6 => simp
    intro v' w1 hown hgrow _
    have hb : Below w.heap.size w w1 := ((Below.refl _ w).alloc (Nat.le_refl _) _).grown hgrow (by simp) (by intro k hk; simp [Value.ownBlock] at hk; omega)
    go_wp2
    go_ret
    exact ⟨v', rfl, rowM_own hown, fun g hg => (hown.lt g hg).1, hb.os, hb.tape, hb.output, hb.size, fun k hk _ => hb.block k hk⟩
section
variable {w : World} {F : Nat → Prop} {fb most room : Nat} {nds : Nds}
theorem node_cut0 (h : TreeF w F fb most room nds) {k : Int} {x : Pn} (hx : look nds k = some x) (hk : x.kind = 2) (hu : usedN nds ≤ 1000000) :
    Calls Tryz.prog 148 #[.pointer (some ⟨fb, 0, none⟩), .int .i64 k, .int .i64 0] w fun e w' => e = .returned (.int .i64 0) ∧ ∃ F', TreeF w' F' fb most room (upd nds k { x with data := [] }) ∧ Chg F F' w w' := by
  obtain ⟨lab, mb, mem, h, hF⟩ := h
  have hl := leaf_some h hx (by omega)
  have hN := h.nd k x hx
  have hle : x.data.length ≤ usedN nds := total_ge (f := fun x : Pn => x.data.length) hx
  obtain ⟨A, c, hdv, hc, hcm⟩ := hN.data.form
  have c0 := hN.blk.cell (show (bodyC x (mem k))[0]? = some _ from rfl)
  rw [hk] at c0
  have c3 := hN.blk.cell (show (bodyC x (mem k))[3]? = some _ from rfl)
  have u3 := h.fs.cell (i := 3) rfl
  have f3 := h.fs.frozen 3
  rw [hdv] at c3
  have c3' : (mem k).dv = .slice A x.data.length c := hdv
  replace c3' := Lib.hid c3'
  have hlt := hN.blk.lt
  have hfl := h.fs.lt
  have hne : (mem k).blk ≠ fb := fun e => by have := hN.lb; rw [e, h.lfs] at this; cases this
  have i1 : IntKind.i64.wrap ((usedN nds : Int) - (x.data.length : Int)) = ((usedN nds - x.data.length : Nat) : Int) := by rw [IntKind.wrap_i64]; omega
  have i2 : IntKind.i64.wrap (x.data.length : Int) = (x.data.length : Int) := by rw [IntKind.wrap_i64]; omega
  have i3 : ¬ (x.data.length : Int) < 0 := by omega
  -- behind the first store
  have hs1 : ∀ d, Chg (fun b => b = (mem k).blk ∨ b = fb) (fun b => b = (mem k).blk ∨ b = fb) w ((w.drewN d).setCell ⟨fb, 3, none⟩ (.int .i64 ((usedN nds - x.data.length : Nat) : Int))) := fun d => (Chg.drewN _ w d).trans (Chg.set (b := fb) (.inr rfl) 3 _)
  have hfs1 : ∀ d, Blk ((w.drewN d).setCell ⟨fb, 3, none⟩ (.int .i64 ((usedN nds - x.data.length : Nat) : Int))) fb _ _ := fun d => Blk.set (w := w.drewN d) h.fs 3 (.int .i64 ((usedN nds - x.data.length : Nat) : Int))
  have hbl1 : ∀ d, Blk ((w.drewN d).setCell ⟨fb, 3, none⟩ (.int .i64 ((usedN nds - x.data.length : Nat) : Int))) (mem k).blk _ _ := fun d => Blk.other (w := w.drewN d) (a := ⟨fb, 3, none⟩) hN.blk hne _
  have hend : ∀ w2 w3 v', Chg (fun b => b = (mem k).blk ∨ b = fb) (fun b => b = (mem k).blk ∨ b = fb) w w2 → Blk w2 fb [.map (some mb), .int .i64 (most : Int), .int .i64 (room : Int), .int .i64 ((usedN nds - x.data.length : Nat) : Int)] 176 → Blk w2 (mem k).blk (bodyC x (mem k)) 156 → w2.grownBy w3 none → RowM w3 5 v' 0 [] → (∀ g, v'.ownBlock = some g → w2.heap.size ≤ g) →
      ∃ F', TreeF (w3.setCell ⟨(mem k).blk, 3, none⟩ v') F' fb most room (upd nds k { x with data := [] }) ∧ Chg F F' w (w3.setCell ⟨(mem k).blk, 3, none⟩ v') := fun w2 w3 v' m1 hf2 hb2 hg hr ho => by
    have hf3 := (hg.block fb hf2.lt (by simp)).trans hf2
    have hb3 : Blk w3 (mem k).blk _ _ := (hg.block (mem k).blk hb2.lt (by simp)).trans hb2
    have m2 := (m1.trans (Chg.of_grown hg _)).trans (Chg.set (b := (mem k).blk) (.inl rfl) 3 v')
    refine h.data_step (d := []) (dv := v') hF hx m2 (fun g _ hs => hs.elim (fun hs => .inr (.inl (by rw [hs]; exact hN.lb))) (fun hs => .inl (by rw [hs]; exact h.lfs))) ?_ ?_ ?_ (fun g hg' => .inr ?_) (Nat.zero_le _) (by have := h.lim.2.2; simp; omega)
    · exact Blk.other (a := ⟨(mem k).blk, 3, none⟩) (show Blk w3 fb _ _ from hf3) hne.symm v'
    · exact hb3.set 3 v'
    · exact hr.keep fun g hg' => heap_setCell_other w3 _ g _ (fun e => by have := ho g hg'; have := hb2.lt; have e : g = (mem k).blk := e; omega)
    · have := ho g hg'; have := m1.size; omega
  generalize (mem k).blk = kb at hl c0 c3 hlt hne hs1 hfs1 hbl1 hend
  generalize usedN nds = U at *
  generalize x.data.length = L at *
  replace hs1 := Lib.hid hs1
  replace hfs1 := Lib.hid hfs1
  replace hbl1 := Lib.hid hbl1
  replace hend := Lib.hid hend
  clear h hN hx hk hdv
  go_enter Tryz.func148, Tryz.ntmps148
  go_wp2_with fail
  refine hl.mono ?_
  rintro e w' ⟨rfl, hw⟩
  obtain rfl := hw.symm
  clear hl hw
  go_upto_region 6 with fail
  go_still_tail 12, (by kernel_rfl)
  change wpList _ _ _ _ _ (w.drewN 1)
  go_upto_region 7 with fail
  have m1 := hs1.out 1
  have hf2 := hfs1.out 1
  have hb2 := hbl1.out 1
  generalize (w.drewN 1).setCell ⟨fb, 3, none⟩ (.int .i64 ((U - L : Nat) : Int)) = w2 at m1 hf2 hb2 ⊢
  have d3 : w2.cell? ⟨kb, 3, none⟩ = some (.slice A L c) := by rw [← c3'.out]; exact hb2.cell (show (bodyC x (mem k))[3]? = some _ from rfl)
  have g3 := hb2.frozen 3
  have hlt2 := hb2.lt
  replace m1 := Lib.hid m1
  replace hf2 := Lib.hid hf2
  replace hb2 := Lib.hid hb2
  clear hs1 hfs1 hbl1 c0 c3 u3 f3
  go_wp2_with fail
  refine (cloneB0 _ _ _).mono ?_
  rintro e w3 ⟨v', rfl, hr, ho, hg⟩
  have hres := hend.out w2 w3 v' m1.out hf2.out hb2.out hg hr ho
  have d4 := (hg.block kb hlt2 (by simp)).trans hb2.out
  have d5 : w3.cell? ⟨kb, 3, none⟩ = some _ := Blk.cell (i := 3) d4 rfl
  have g5 := Blk.frozen (show Blk w3 kb _ _ from d4) 3
  have hlt3 := Blk.lt (show Blk w3 kb _ _ from d4)
  obtain ⟨A', c', hv', _⟩ := hr.form
  subst hv'
  replace hres := Lib.hid hres
  clear hend d3 g3 hg hr ho m1 hf2 hb2 d4
  go_wp2
  go_ret
  exact ⟨rfl, hres.out⟩
end
end Go.Proofs.YtfofpphnglhopaaGreatDoor
namespace Go.Proofs.YtfofpphnglhopaaGreatDoor
open Go Go.Shelf Go.RowKit
def clRen : Ren := ⟨fun | 25 => 290 | n => n, fun | 0 => 0 | 3 => 3 | 4 => 4 | 5 => 5 | 9 => 9 | 37 => 153 | 47 => 245 | n => n, fun | n => n⟩
theorem cl25 : LaysPu.n25 Tryz.prog clRen := {
  mixed := by kernel_rfl
  f25 := Tryz.func290.trans (congrArg some (by kernel_rfl))
  t0 := Tryz.underlying0
  a0 := Tryz.isAgg0
  z0 := Tryz.sizeOf0
  v0 := Tryz.zeroValue0
  i0 := by kernel_rfl
  t3 := Tryz.underlying3
  a3 := Tryz.isAgg3
  z3 := Tryz.sizeOf3
  v3 := Tryz.zeroValue3
  i3 := by kernel_rfl
  t4 := Tryz.underlying4
  a4 := Tryz.isAgg4
  z4 := Tryz.sizeOf4
  v4 := Tryz.zeroValue4
  i4 := by kernel_rfl
  t5 := Tryz.underlying5
  a5 := Tryz.isAgg5
  z5 := Tryz.sizeOf5
  v5 := Tryz.zeroValue5
  i5 := by kernel_rfl
  t9 := Tryz.underlying9
  a9 := Tryz.isAgg9
  z9 := Tryz.sizeOf9
  v9 := Tryz.zeroValue9
  i9 := by kernel_rfl
  t37 := Tryz.underlying153
  a37 := Tryz.isAgg153
  z37 := Tryz.sizeOf153
  v37 := Tryz.zeroValue153
  i37 := by kernel_rfl
  t47 := Tryz.underlying245
  a47 := Tryz.isAgg245
  z47 := Tryz.sizeOf245
  v47 := Tryz.zeroValue245
  i47 := by kernel_rfl }
theorem sclone (s : ByteArray) (w : World) (hs : s.size ≤ 281474976710656) :
    Calls Tryz.prog 289 #[.string s] w fun e w' => e = .returned (.string s) ∧ Below w.heap.size w w' := by
  have hc : Calls Tryz.prog 290 #[.string s] w fun e w' => e = .returned (.string s) ∧ Below w.heap.size w w' := AnyPu.stringslite_Clone cl25 s w hs
  go_enter Tryz.func289, Tryz.ntmps289
  go_wp2_with fail
  refine hc.mono ?_
  rintro e w' ⟨rfl, hb⟩
  replace hb := Lib.hid hb
  clear hc
  go_wp2
  go_ret
  exact ⟨rfl, hb.out⟩
end Go.Proofs.YtfofpphnglhopaaGreatDoor
namespace Go.Proofs.YtfofpphnglhopaaGreatDoor
open Go Go.RowKit Go.ChangeMaps
section
variable {w : World} {F Ft Fp Fh : Nat → Prop} {c : Sy} {s : St}
theorem sys_Text (h : Sys w F c s) (hxs : s.xs = []) (htop : s.top < 100000) (t : ByteArray) (ht1 : t.size ≤ 1048576) :
    Calls Tryz.prog 49 #[ptrV c.tb, .string t] w fun e w' => e = .returned (.tuple #[.int .i64 ((s.top + 1 : Nat) : Int), .int .i64 0]) ∧
      ∃ F', Sys w' F' c { s with hs := s.hs ++ [(((s.top + 1 : Nat) : Int), ⟨1, .text (tl t) 0⟩)], top := s.top + 1, xs := [] } ∧ Chg F F' w w' := by
  obtain ⟨Ft, Fp, Fh, h, hF⟩ := h
  obtain ⟨lab, mb, mem, v, htb, hFh⟩ := h.tab
  have hi := isNil_no htb
  have i1 : ¬ (1048576 : Int) < (t.size : Int) := by omega
  have g6 : w.grownBy (w.alloc (.cells #[.string t, .int .i64 0] 197)) none := World.grownBy_alloc w _ _
  have h6 := h.grown g6
  have b6 : Blk (w.alloc (.cells #[.string t, .int .i64 0] 197)) w.heap.size [.string ⟨(tl t).toArray⟩, .int .i64 ((0 : Nat) : Int)] 197 := Blk.new w _ _
  have c6 : Chg (foot Ft Fp Fh) (fun g => foot Ft Fp Fh g ∨ g = w.heap.size) w (w.alloc (.cells #[.string t, .int .i64 0] 197)) := Chg.alloc _ w _
  have ht6 : TabF (w.alloc (.cells #[.string t, .int .i64 0] 197)) Fh c.fb c.plb c.tb s.hs s.pp s.top [] := by rw [← hxs]; exact h6.tab
  have hG : ∀ g, g = w.heap.size → g < (w.alloc (.cells #[.string t, .int .i64 0] 197)).heap.size ∧ ¬ Fh g := fun g hg => ⟨by rw [hg]; exact b6.lt, fun hf => absurd (h.tab.lt hf) (by omega)⟩
  have hG2 : ∀ g, g = w.heap.size → ¬ Ft g ∧ ¬ Fp g := fun g hg => ⟨fun hf => absurd (h.tree.lt hf) (by omega), fun hf => absurd (h.pool.lt hf) (by omega)⟩
  have hadd := tab_add ht6 (fun g => g = w.heap.size) hG htop (.text (tl t) 0) w.heap.size (fun w' lab' hg kb => ⟨(hg _ rfl).1.trans b6, (hg _ rfl).2, Nat.zero_le _, by rw [tl_len]; exact ht1⟩)
  have hend := fun w7 F7 (hT7 : TabF w7 F7 c.fb c.plb c.tb (s.hs ++ [(((s.top + 1 : Nat) : Int), ⟨1, .text (tl t) 0⟩)]) s.pp (s.top + 1) []) hC7 => Sys.of hF (h6.tabStep hG2 hT7 hC7).1 (c6.trans (h6.tabStep hG2 hT7 hC7).2)
  unfold ptrV at hi ⊢
  unfold doesV ptrV at hadd
  replace hend := Lib.hid hend
  replace hadd := Lib.hid hadd
  clear h6 b6 c6 ht6 hG hG2 g6 h htb hFh ht1
  go_enter Tryz.func49, Tryz.ntmps49
  go_wp2_with fail
  refine hi.mono ?_
  rintro e w' ⟨rfl, hw⟩
  obtain rfl := hw.symm
  clear hi hw
  go_wp2_with fail
  refine hadd.out.mono ?_
  rintro e w7 ⟨rfl, F7, hT7, hC7⟩
  have hres := hend.out w7 F7 hT7 hC7
  replace hres := Lib.hid hres
  clear hT7 hC7 hend hadd
  go_wp2
  go_ret2
  exact ⟨rfl, hres.out⟩
theorem sys_Sink (h : Sys w F c s) (hxs : s.xs = []) (htop : s.top < 100000) (m : Nat) (hm : m ≤ 1048576) :
    Calls Tryz.prog 50 #[ptrV c.tb, .int .i64 (m : Int)] w fun e w' => e = .returned (.tuple #[.int .i64 ((s.top + 1 : Nat) : Int), .int .i64 0]) ∧
      ∃ F', Sys w' F' c { s with hs := s.hs ++ [(((s.top + 1 : Nat) : Int), ⟨1, .sink [] m⟩)], top := s.top + 1, xs := [] } ∧ Chg F F' w w' := by
  obtain ⟨Ft, Fp, Fh, h, hF⟩ := h
  obtain ⟨lab, mb, mem, v, htb, hFh⟩ := h.tab
  have hi := isNil_no htb
  have i1 : ¬ (1048576 : Int) < (m : Int) := by omega
  have i2 : ¬ (m : Int) < 0 := by omega
  have g6 : w.grownBy (w.alloc (.cells #[.slice none 0 0, .int .i64 (m : Int)] 200)) none := World.grownBy_alloc w _ _
  have h6 := h.grown g6
  have b6 : Blk (w.alloc (.cells #[.slice none 0 0, .int .i64 (m : Int)] 200)) w.heap.size [.slice none 0 0, .int .i64 (m : Int)] 200 := Blk.new w _ _
  have c6 : Chg (foot Ft Fp Fh) (fun g => foot Ft Fp Fh g ∨ g = w.heap.size) w (w.alloc (.cells #[.slice none 0 0, .int .i64 (m : Int)] 200)) := Chg.alloc _ w _
  have ht6 : TabF (w.alloc (.cells #[.slice none 0 0, .int .i64 (m : Int)] 200)) Fh c.fb c.plb c.tb s.hs s.pp s.top [] := by rw [← hxs]; exact h6.tab
  have hG : ∀ g, g = w.heap.size → g < (w.alloc (.cells #[.slice none 0 0, .int .i64 (m : Int)] 200)).heap.size ∧ ¬ Fh g := fun g hg => ⟨by rw [hg]; exact b6.lt, fun hf => absurd (h.tab.lt hf) (by omega)⟩
  have hG2 : ∀ g, g = w.heap.size → ¬ Ft g ∧ ¬ Fp g := fun g hg => ⟨fun hf => absurd (h.tree.lt hf) (by omega), fun hf => absurd (h.pool.lt hf) (by omega)⟩
  have hadd := tab_add ht6 (fun g => g = w.heap.size) hG htop (.sink [] m) w.heap.size (fun w' lab' hg kb => ⟨(hg _ rfl).1.trans b6, (hg _ rfl).2, .inl ⟨rfl, rfl, rfl⟩, nofun, Nat.zero_le _, hm⟩)
  have hend := fun w7 F7 (hT7 : TabF w7 F7 c.fb c.plb c.tb (s.hs ++ [(((s.top + 1 : Nat) : Int), ⟨1, .sink [] m⟩)]) s.pp (s.top + 1) []) hC7 => Sys.of hF (h6.tabStep hG2 hT7 hC7).1 (c6.trans (h6.tabStep hG2 hT7 hC7).2)
  unfold ptrV at hi ⊢
  unfold doesV ptrV at hadd
  replace hend := Lib.hid hend
  replace hadd := Lib.hid hadd
  clear h6 b6 c6 ht6 hG hG2 g6 h htb hFh hm
  go_enter Tryz.func50, Tryz.ntmps50
  go_wp2_with fail
  refine hi.mono ?_
  rintro e w' ⟨rfl, hw⟩
  obtain rfl := hw.symm
  clear hi hw
  go_wp2_with fail
  refine hadd.out.mono ?_
  rintro e w7 ⟨rfl, F7, hT7, hC7⟩
  have hres := hend.out w7 F7 hT7 hC7
  replace hres := Lib.hid hres
  clear hT7 hC7 hend hadd
  go_wp2
  go_ret2
  exact ⟨rfl, hres.out⟩
end
def readT (S : ByteArray) (a k : Nat) : ByteArray := (S.extract a S.size).extract 0 (min k (S.size - a))
theorem readT_size (S : ByteArray) (a k : Nat) : (readT S a k).size = min k (S.size - a) := by
  unfold readT
  rw [ByteArray.size_extract, ByteArray.size_extract]
  omega
section
variable {w : World} {ob : Nat}
theorem text_read {S : ByteArray} {a : Nat} (hb : Blk w ob [.string S, .int .i64 (a : Int)] 197) (ha : a ≤ S.size) (hS : S.size ≤ 1048576) (k : Nat) :
    Calls Tryz.prog 287 #[ptrV ob, .int .i64 (k : Int)] w fun e w' => e = .returned (.tuple #[.string (readT S a k), .int .i64 0]) ∧ Chg (fun g => g = ob) (fun g => g = ob) w w' ∧ Blk w' ob [.string S, .int .i64 ((a + (readT S a k).size : Nat) : Int)] 197 := by
  have c0 : w.cell? ⟨ob, 0, none⟩ = some (.string S) := hb.cell (i := 0) rfl
  have c1 : w.cell? ⟨ob, 1, none⟩ = some (.int .i64 (a : Int)) := hb.cell (i := 1) rfl
  have f1 := hb.frozen 1
  have hlt := hb.lt
  have i1 : ¬ (a : Int) < 0 := by omega
  have i2 : ¬ (S.size : Int) < (a : Int) := by omega
  have i3 : (a : Int) ≤ (S.size : Int) := by omega
  have i4 : ¬ (k : Int) < 0 := by omega
  have hsz : (S.extract a S.size).size = S.size - a := by rw [ByteArray.size_extract]; omega
  have hRs := readT_size S a k
  obtain ⟨R, hR⟩ : ∃ R, readT S a k = R := ⟨_, rfl⟩
  rw [hR] at hRs ⊢
  unfold readT at hR
  obtain ⟨R1, hR1⟩ : ∃ R1, S.extract a S.size = R1 := ⟨_, rfl⟩
  rw [hR1] at hsz hR
  replace hR := Lib.hid hR
  replace hR1 := Lib.hid hR1
  unfold ptrV
  go_enter Tryz.func287, Tryz.ntmps287
  go_upto_region 3 with fail
  go_quiet (fail)
  rw [hR1.out]
  go_upto_region 5 with fail
  have e1 : R1.extract 0 (min (k : Int) ((S.size - a : Nat) : Int)).toNat = R := by
    rw [← hR.out]
    congr 1
    omega
  rw [e1]
  have i6 : IntKind.i64.wrap ((a : Int) + (R.size : Int)) = (a : Int) + (R.size : Int) := by rw [IntKind.wrap_i64]; omega
  have e2 : ((a + R.size : Nat) : Int) = (a : Int) + (R.size : Int) := Int.natCast_add _ _
  have e3 : R.size ≤ 281474976710656 := by omega
  replace e2 := Lib.hid e2
  replace hRs := Lib.hid hRs
  have hb1 := Blk.set (w := w.drewN nq) hb 1 (.int .i64 ((a : Int) + (R.size : Int)))
  have hc1 := (Chg.drewN (fun g => g = ob) w nq).trans (Chg.set (F := fun g => g = ob) rfl 1 (.int .i64 ((a : Int) + (R.size : Int))))
  replace hb1 := Lib.hid hb1
  replace hc1 := Lib.hid hc1
  clear e1 hR1 hR hsz hb
  go_upto_region 6 with fail
  have hc := sclone R ((w.drewN nq).setCell ⟨ob, 1, none⟩ (.int .i64 ((a : Int) + (R.size : Int)))) e3
  generalize (w.drewN nq).setCell ⟨ob, 1, none⟩ (.int .i64 ((a : Int) + (R.size : Int))) = w1 at hb1 hc1 hc ⊢
  replace hc := Lib.hid hc
  go_wp2_with fail
  refine hc.out.mono ?_
  rintro e w2 ⟨rfl, hb2⟩
  have hc2 := hc1.out.trans (Chg.of_grown (⟨hb2.os, hb2.tape, hb2.output, hb2.size, fun g hg _ => hb2.block g hg⟩ : w1.grownBy w2 none) (fun g => g = ob))
  have hb3 : Blk w2 ob _ _ := (hb2.block ob hb1.out.lt).trans hb1.out
  replace hc2 := Lib.hid hc2
  replace hb3 := Lib.hid hb3
  clear hc hb1 hc1 hb2
  go_wp2
  go_ret2
  exact ⟨rfl, hc2.out, by rw [e2.out]; exact hb3.out⟩
theorem sink_full {l : List UInt8} {cv : Value} {m : Nat} (hb : Blk w ob [cv, .int .i64 (m : Int)] 200) (hr : RowM w 5 cv l.length (bc l)) (hl : l.length ≤ m) (hm : m ≤ 1048576) (S : ByteArray) (hS : m < l.length + S.size) (hS2 : S.size ≤ 1000000) :
    Calls Tryz.prog 293 #[ptrV ob, .string S] w fun e w' => e = .returned (.int .i64 15) ∧ ∃ n, w' = w.drewN n := by
  obtain ⟨A, c, rfl, hc, hcm⟩ := hr.form
  have c0 := hb.cell (i := 0) rfl
  have c1 := hb.cell (i := 1) rfl
  have hlt := hb.lt
  generalize l.length = L at *
  have i1 : ((m : Int) - (L : Int)) < (S.size : Int) := by omega
  have i2 : IntKind.i64.wrap ((m : Int) - (L : Int)) = (m : Int) - (L : Int) := by rw [IntKind.wrap_i64]; omega
  unfold ptrV
  clear hr hb
  go_enter Tryz.func293, Tryz.ntmps293
  go_upto_region 1 with fail
  go_quiet (fail)
  go_wp2
  go_ret
  exact ⟨rfl, _, rfl⟩
theorem sink_write {l : List UInt8} {cv : Value} {m : Nat} (hb : Blk w ob [cv, .int .i64 (m : Int)] 200) (hr : RowM w 5 cv l.length (bc l)) (hl : l.length ≤ m) (hm : m ≤ 1048576) (hne : ∀ g, cv.ownBlock = some g → g ≠ ob) (S : ByteArray) (hS : l.length + S.size ≤ m) :
    Calls Tryz.prog 293 #[ptrV ob, .string S] w fun e w' => e = .returned (.int .i64 0) ∧ ∃ cv', Blk w' ob [cv', .int .i64 (m : Int)] 200 ∧ RowM w' 5 cv' (l ++ tl S).length (bc (l ++ tl S)) ∧ (cv'.ownBlock = cv.ownBlock ∨ ∀ g, cv'.ownBlock = some g → w.heap.size ≤ g) ∧
      Chg (fun g => cv.ownBlock = some g ∨ g = ob) (fun g => cv'.ownBlock = some g ∨ cv.ownBlock = some g ∨ g = ob) w w' := by
  obtain ⟨A, c, rfl, hc, hcm⟩ := hr.form
  have c0 := hb.cell (i := 0) rfl
  have c1 := hb.cell (i := 1) rfl
  have hlt := hb.lt
  obtain ⟨i0, hi, hz0, hz1, hz2⟩ := info_parts infoB
  have hap : ∀ d, ∃ A' c' w', (Builtin.append_ #[153, 9] 153 #[.slice A l.length c, .string S]).run Tryz.prog (w.drewN d) = .ok (.slice A' (l.length + S.size) c') w' ∧ RowM w' 5 (.slice A' (l.length + S.size) c') (l.length + S.size) (bc l ++ byteCells S) ∧ Chg (fun b => (Value.slice A l.length c).ownBlock = some b) (fun b => (Value.slice A' (l.length + S.size) c').ownBlock = some b ∨ (Value.slice A l.length c).ownBlock = some b) (w.drewN d) w' ∧ ((Value.slice A' (l.length + S.size) c').ownBlock = (Value.slice A l.length c).ownBlock ∨ (Value.slice A' (l.length + S.size) c').ownBlock = some w.heap.size) := fun d => by
    obtain ⟨v', w', h1, h2, h3, h4⟩ := run_append_m (P := Tryz.prog) (w.drewN d) 153 9 153 5 i0 _ Tryz.underlying153 hi hz0 hz1 rfl (.slice A l.length c) l.length (bc l) (hr.keep fun _ _ => rfl) (.string S) S.size (byteCells S) (Src.ofString _ Tryz.underlying9 S) (by rw [hz2]; omega) (by omega)
    obtain ⟨A', c', rfl, _, _⟩ := h2.form
    exact ⟨A', c', w', h1, h2, h3, h4⟩
  have i1 : ¬ ((m : Int) - (l.length : Int)) < (S.size : Int) := by omega
  have i2 : IntKind.i64.wrap ((m : Int) - (l.length : Int)) = (m : Int) - (l.length : Int) := by rw [IntKind.wrap_i64]; omega
  have hll : (l ++ tl S).length = l.length + S.size := by rw [List.length_append, tl_len]
  have hbb : bc (l ++ tl S) = bc l ++ byteCells S := by rw [bc_app, bc_str]
  rw [hll, hbb]
  generalize byteCells S = BS at *
  generalize bc l = BL at *
  generalize l.length = L at *
  replace hap := Lib.hid hap
  replace hb := Lib.hid hb
  replace hne := Lib.hid hne
  unfold ptrV
  clear hr hll hbb hi hz0 hz1 hz2
  go_enter Tryz.func293, Tryz.ntmps293
  go_upto_region 1 with fail
  go_quiet (fail)
  obtain ⟨A', c', w1, hrun, hr1, m1, ho1⟩ := hap.out nq
  have hb1 : Blk w1 ob _ _ := Blk.chg (w := w.drewN nq) hb.out m1 (fun e => hne.out _ e rfl)
  have hne1 : ∀ g, (Value.slice A' (L + S.size) c').ownBlock = some g → g ≠ ob := fun g hg => by
    rcases ho1 with h | h
    · exact hne.out g (h ▸ hg)
    · rw [h] at hg; cases hg; omega
  have d0 := hb1.cell (i := 0) rfl
  have g0 := hb1.frozen 0
  have hl1 := hb1.lt
  have hb2 := hb1.set 0 (.slice A' (L + S.size) c')
  have hr2 : RowM (w1.setCell ⟨ob, 0, none⟩ (.slice A' (L + S.size) c')) 5 _ _ _ := hr1.keep fun g hg => heap_setCell_other w1 _ g _ (hne1 g hg)
  have m2 : Chg (fun g => (Value.slice A L c).ownBlock = some g ∨ g = ob) (fun g => (Value.slice A' (L + S.size) c').ownBlock = some g ∨ (Value.slice A L c).ownBlock = some g ∨ g = ob) w (w1.setCell ⟨ob, 0, none⟩ (.slice A' (L + S.size) c')) := (((Chg.drewN _ w nq).trans m1).mono (G := fun g => (Value.slice A L c).ownBlock = some g ∨ g = ob) (G' := fun g => (Value.slice A' (L + S.size) c').ownBlock = some g ∨ (Value.slice A L c).ownBlock = some g ∨ g = ob) (fun b hb => .inl hb) (fun b _ hb => hb.elim (fun h => .inl (.inl h)) fun h => h.elim (fun h => .inl (.inr h)) fun h => .inr (.inr h))).trans (Chg.set (F := fun g => (Value.slice A' (L + S.size) c').ownBlock = some g ∨ (Value.slice A L c).ownBlock = some g ∨ g = ob) (.inr (.inr rfl)) 0 _)
  have hfin : (Value.slice A' (L + S.size) c').ownBlock = (Value.slice A L c).ownBlock ∨ ∀ g, (Value.slice A' (L + S.size) c').ownBlock = some g → w.heap.size ≤ g := ho1.imp id fun h g hg => by rw [h] at hg; cases hg; exact Nat.le_refl _
  replace hrun := Lib.hid hrun
  replace hb2 := Lib.hid hb2
  replace hr2 := Lib.hid hr2
  replace m2 := Lib.hid m2
  replace hfin := Lib.hid hfin
  clear hr1 m1 ho1 hb1 hne1 hap hb hne
  go_wp2_with (at_builtin; refine wpList_append_of rfl _ _ 153 9 rfl _ _ _ w1 rfl rfl hrun.out ?_)
  go_ret
  exact ⟨rfl, _, hb2.out, hr2.out, hfin.out, m2.out⟩
end
section
variable {w : World} {F : Nat → Prop} {c : Sy} {s : St} {k : Int} {x : Hd}
theorem sys_read_text (h : Sys w F c s) (hx : look s.hs k = some x) {S : ByteArray} {a : Nat} (hk : x.kd = .text (tl S) a) (j : Nat) :
    Calls Tryz.prog 36 #[ptrV c.tb, .int .i64 k, .int .i64 (j : Int)] w fun e w' => e = .returned (.tuple #[.string (readT S a j), .int .i64 0]) ∧
      ∃ F', Sys w' F' c { s with hs := upd s.hs k { x with kd := .text (tl S) (a + (readT S a j).size) } } ∧ Chg F F' w w' := by
  obtain ⟨Ft, Fp, Fh, h, hF⟩ := h
  obtain ⟨lab, mb, mem, v, ht, hFh⟩ := h.tab
  have hf := tfind_some ht hx
  have hd := ht.hd k x hx
  have c0 := hd.blk.cell (i := 0) rfl
  rw [show doesV s.pp x.kd (mem k).ob = .iface 195 (ptrV (mem k).ob) by rw [hk]; rfl] at c0
  have hlt := hd.blk.lt
  have ho := hd.ob
  rw [hk] at ho
  obtain ⟨ho1, ho2, ho3, ho4⟩ := ho
  rw [tl_len] at ho3 ho4
  have hr := text_read (S := S) ho1 ho3 ho4 j
  have hrs := readT_size S a j
  have hres : ∀ w', Chg (fun g => g = (mem k).ob) (fun g => g = (mem k).ob) w w' → Blk w' (mem k).ob [.string S, .int .i64 ((a + (readT S a j).size : Nat) : Int)] 197 → ∃ F', Sys w' F' c { s with hs := upd s.hs k { x with kd := .text (tl S) (a + (readT S a j).size) } } ∧ Chg F F' w w' := fun w' hcc hb2 => by
    obtain ⟨Fh', h1, h2⟩ := ht.does hFh hx (.text (tl S) (a + (readT S a j).size)) (by rw [hk]; rfl) ho2 hcc ⟨hb2, ho2, by rw [tl_len]; omega, by rw [tl_len]; exact ho4⟩
    obtain ⟨h3, h4⟩ := h.tabStep0 h1 h2
    exact Sys.of hF h3 h4
  generalize readT S a j = R at hr hres ⊢
  generalize { x with kd := Kd.text (tl S) (a + R.size) } = x' at hres ⊢
  generalize (mem k).blk = kb at hf c0 hlt
  unfold ptrV at hf c0 hr ⊢
  replace hres := Lib.hid hres
  replace hr := Lib.hid hr
  clear h hd ht hF hFh hx ho1 ho2 ho3 ho4 hk hrs
  go_enter Tryz.func36, Tryz.ntmps36
  go_wp2_with fail
  refine hf.mono ?_
  rintro e w' ⟨rfl, hw⟩
  obtain rfl := hw.symm
  clear hf hw
  go_wp2_with fail
  refine hr.out.mono ?_
  rintro e w2 ⟨rfl, hc2, hb2⟩
  have hres' := hres.out w2 hc2 hb2
  replace hres' := Lib.hid hres'
  clear hres hr hc2 hb2
  go_wp2
  go_ret2
  exact ⟨rfl, hres'.out⟩
theorem sys_write_sink (h : Sys w F c s) (hx : look s.hs k = some x) {l : List UInt8} {m : Nat} (hk : x.kd = .sink l m) (S : ByteArray) (hS : S.size ≤ 1000000) :
    Calls Tryz.prog 39 #[ptrV c.tb, .int .i64 k, .string S] w fun e w' =>
      (l.length + S.size ≤ m ∧ e = .returned (.int .i64 0) ∧ ∃ F', Sys w' F' c { s with hs := upd s.hs k { x with kd := .sink (l ++ tl S) m } } ∧ Chg F F' w w') ∨
       m < l.length + S.size ∧ e = .returned (.int .i64 15) ∧ Sys w' F c s ∧ Chg F F w w' := by
  have hsys := h
  obtain ⟨Ft, Fp, Fh, h, hF⟩ := h
  obtain ⟨lab, mb, mem, v, ht, hFh⟩ := h.tab
  have hf := tfind_some ht hx
  have hd := ht.hd k x hx
  have c0 := hd.blk.cell (i := 0) rfl
  rw [show doesV s.pp x.kd (mem k).ob = .iface 198 (ptrV (mem k).ob) by rw [hk]; rfl] at c0
  have hlt := hd.blk.lt
  have ho := hd.ob
  rw [hk] at ho
  obtain ⟨ho1, ho2, ho3, ho4, ho5, ho6⟩ := ho
  have hne : ∀ g, (mem k).cv.ownBlock = some g → g ≠ (mem k).ob := fun g hg e => by have := ho4 g hg; rw [e, ho2] at this; cases this
  by_cases hfit : l.length + S.size ≤ m
  · have hr := sink_write ho1 ho3 ho5 ho6 hne S hfit
    have hres : ∀ w' cv', Blk w' (mem k).ob [cv', .int .i64 (m : Int)] 200 → RowM w' 5 cv' (l ++ tl S).length (bc (l ++ tl S)) → (cv'.ownBlock = (mem k).cv.ownBlock ∨ ∀ g, cv'.ownBlock = some g → w.heap.size ≤ g) →
        Chg (fun g => (mem k).cv.ownBlock = some g ∨ g = (mem k).ob) (fun g => cv'.ownBlock = some g ∨ (mem k).cv.ownBlock = some g ∨ g = (mem k).ob) w w' → ∃ F', Sys w' F' c { s with hs := upd s.hs k { x with kd := .sink (l ++ tl S) m } } ∧ Chg F F' w w' := fun w' cv' hb2 hr2 how hcc => by
      have hnl : ∀ g, g < w.heap.size → (if w.heap.size ≤ g ∧ cv'.ownBlock = some g then HL.came k else lab g) = lab g := fun g hg => if_neg (fun h => by omega)
      have hkb : ¬ ((mem k).cv.ownBlock = some (mem k).blk ∨ (mem k).blk = (mem k).ob) := fun h => by
        have hl := hd.lb
        rcases h with h | h
        · rw [ho4 _ h] at hl; cases hl
        · rw [h, ho2] at hl; cases hl
      obtain ⟨Fh', h1, h2⟩ := ht.step (y := { x with kd := .sink (l ++ tl S) m }) (lab' := fun g => if w.heap.size ≤ g ∧ cv'.ownBlock = some g then HL.came k else lab g) (M' := { mem k with cv := cv' }) hFh hx hcc
        (fun g _ hg => hg.elim (fun h => by rw [ho4 g h]; exact rfl) (fun h => by rw [h, ho2]; exact rfl)) hnl
        (fun g hg => by
          rw [if_neg (fun h => by have := hr2.lt h.2; omega)]
          exact ht.new g (Nat.le_trans hcc.size hg))
        ⟨by
          have hdv : doesV s.pp (Kd.sink (l ++ tl S) m) (mem k).ob = doesV s.pp x.kd (mem k).ob := by rw [hk]; rfl
          show Blk w' (mem k).blk [doesV s.pp (Kd.sink (l ++ tl S) m) (mem k).ob, .int .i64 (x.refs : Int)] _
          rw [hdv]
          exact (hcc.block _ hlt hkb).trans hd.blk, (hnl _ hlt).trans hd.lb, hb2, (hnl _ ho1.lt).trans ho2, hr2, fun g hg => by
            by_cases hgw : w.heap.size ≤ g
            · exact if_pos ⟨hgw, hg⟩
            · rcases how with how | how
              · exact (hnl g (by omega)).trans (ho4 g (how ▸ hg))
              · exact absurd (how g hg) hgw, by rw [List.length_append, tl_len]; exact hfit, ho6⟩ rfl
      obtain ⟨h3, h4⟩ := h.tabStep0 h1 h2
      exact Sys.of hF h3 h4
    generalize { x with kd := Kd.sink (l ++ tl S) m } = x' at hres ⊢
    generalize (mem k).blk = kb at hf c0 hlt
    unfold ptrV at hf c0 hr ⊢
    replace hres := Lib.hid hres
    replace hr := Lib.hid hr
    replace hfit := Lib.hid hfit
    clear h hd ht hF hFh hx ho1 ho2 ho3 ho4 ho5 ho6 hne hk hsys
    go_enter Tryz.func39, Tryz.ntmps39
    go_wp2_with fail
    refine hf.mono ?_
    rintro e w' ⟨rfl, hw⟩
    obtain rfl := hw.symm
    clear hf hw
    go_wp2_with fail
    refine hr.out.mono ?_
    rintro e w2 ⟨rfl, cv', h1, h2, h3, h4⟩
    have hres' := hres.out w2 cv' h1 h2 h3 h4
    replace hres' := Lib.hid hres'
    clear hres hr h1 h2 h3 h4
    go_wp2
    go_ret
    exact .inl ⟨hfit.out, rfl, hres'.out⟩
  · have hr := sink_full ho1 ho3 ho5 ho6 S (by omega) hS
    have hfit2 : m < l.length + S.size := by omega
    have hres : ∀ d, Sys (w.drewN d) F c s ∧ Chg F F w (w.drewN d) := fun d => ⟨hsys.keep (Nat.le_refl _) fun _ _ => rfl, Chg.drewN F w d⟩
    generalize (mem k).blk = kb at hf c0 hlt
    unfold ptrV at hf c0 hr ⊢
    replace hres := Lib.hid hres
    replace hr := Lib.hid hr
    replace hfit2 := Lib.hid hfit2
    clear h hd ht hF hFh hx ho1 ho2 ho3 ho4 ho5 ho6 hne hk hsys hfit
    go_enter Tryz.func39, Tryz.ntmps39
    go_wp2_with fail
    refine hf.mono ?_
    rintro e w' ⟨rfl, hw⟩
    obtain rfl := hw.symm
    clear hf hw
    go_wp2_with fail
    refine hr.out.mono ?_
    rintro e w2 ⟨rfl, d, hw⟩
    have hres' := hres.out d
    rw [← hw] at hres'
    replace hres' := Lib.hid hres'
    clear hres hr hw
    go_wp2
    go_ret
    exact .inr ⟨hfit2.out, rfl, hres'.out⟩
end
section
variable {w : World} {lab : Nat → HL} {F : Nat → Prop} {fb plb tb mb top : Nat} {hs : Hs} {pp : Pps} {mem : Int → HM} {v : Value} {xs : List Int}
theorem tab_addG (h : TabF w F fb plb tb hs pp top xs) (G : Nat → Prop) [DecidablePred G] (hG : ∀ g, G g → g < w.heap.size ∧ ¬ F g) (ht : top < 100000) (kd : Kd) (ob : Nat)
    (hob : ∀ k w' lab', (∀ g, G g → w'.heap[g]? = w.heap[g]? ∧ lab' g = .obj k) → ∀ kb, ObjAt w' lab' fb pp.length k ⟨kb, ob, .slice none 0 0⟩ kd) :
    Calls Tryz.prog 92 #[ptrV tb, doesV pp kd ob] w fun e w' => ∃ k, e = .returned (.int .i64 k) ∧ Least (ids hs) k ∧ ∃ F' top' xs', top' ≤ top + 1 ∧ TabF w' F' fb plb tb (hs ++ [(k, ⟨1, kd⟩)]) pp top' xs' ∧ Chg (fun g => F g ∨ G g) F' w w' := by
  obtain ⟨lab, mb, mem, v, h, hF⟩ := h
  have htk := nums_take h.num ht
  have hlt := h.num.at_.blk.lt
  have hadd := fun w2 kb k top' v' xs' => h.add (S := fun g => (g = tb ∨ v.ownBlock = some g) ∨ g = mb) (S' := fun g => (g = tb ∨ v.ownBlock = some g) ∨ g = mb) (w2 := w2) (k := k) (kd := kd) (ob := ob) (kb := kb) (top' := top') (v' := v') (xs' := xs') hF G hG
  have hnoA : ∀ k, Least (ids hs) k → look hs k = none := fun k hk => look_none.2 fun p hp e => hk.2.1 (by rw [← e]; exact List.mem_map.2 ⟨p, hp, rfl⟩)
  have hlkA : ∀ k, look hs k = none → look (entH mem hs) k = none := fun k hk => by rw [entH_look, hk]; rfl
  have hmt : mb ≠ tb := fun e => by have := h.lmap; rw [e, h.ltb] at this; cases this
  have hmv : v.ownBlock ≠ some mb := fun e => by have := h.lbk mb e; rw [h.lmap] at this; cases this
  have hkm := h.map
  have hsp : ∀ g, g < w.heap.size → (fun g => (g = tb ∨ v.ownBlock = some g) ∨ g = mb) g → lab g = .tab ∨ lab g = .tmap ∨ lab g = .back := fun g _ hg => by
    rcases hg with (hg | hg) | hg
    · exact .inl (by rw [hg]; exact h.ltb)
    · exact .inr (.inr (h.lbk g hg))
    · exact .inr (.inl (by rw [hg]; exact h.lmap))
  have hbk := h.lbk
  have hlm := h.lmap
  obtain ⟨T, u, hdv⟩ := doesV_form pp kd ob
  unfold ptrV
  rw [hdv]
  replace hdv := Lib.hid hdv
  replace hadd := Lib.hid hadd
  replace hob := Lib.hid hob
  replace hsp := Lib.hid hsp
  replace hbk := Lib.hid hbk
  replace hnoA := Lib.hid hnoA
  replace hlkA := Lib.hid hlkA
  replace hmv := Lib.hid hmv
  clear h
  go_enter Tryz.func92, Tryz.ntmps92
  go_wp2_with fail
  refine htk.mono ?_
  rintro e w1 ⟨k, rfl, hle, top', v', xs', htp, hn, hC, hov⟩
  have hno := Lib.hid (hnoA.out k hle)
  have hlk := hlkA.out k hno.out
  replace hle := Lib.hid hle
  replace hov := Lib.hid hov
  replace htp := Lib.hid htp
  clear htk
  have hkm1 := hkm.keep (hC.block mb hkm.lt fun hb => hb.elim hmt hmv.out)
  have c2 := hn.at_.blk.cell (i := 2) rfl
  have hlt1 := hn.at_.blk.lt
  have hmb1 := hkm1.lt
  have hz1 := hC.size
  replace hn := Lib.hid hn
  replace hC := Lib.hid hC
  have hkm2 : KMap (w1.alloc (.cells #[.iface T u, .int .i64 1] 148)) mb (.int .i64) encI (entH mem hs) := hkm1.keep (Below.heap_alloc w1 _ mb hmb1)
  have hb2 : Blk (w1.alloc (.cells #[.iface T u, .int .i64 1] 148)) w1.heap.size [.iface T u, .int .i64 ((1 : Nat) : Int)] 148 := Blk.new w1 _ _
  have hc2 : Chg (fun g => (g = tb ∨ v.ownBlock = some g) ∨ g = mb) (fun g => (g = tb ∨ v.ownBlock = some g) ∨ g = mb) w1 (w1.alloc (.cells #[.iface T u, .int .i64 1] 148)) := Chg.alloc_other _ w1 _
  replace hb2 := Lib.hid hb2
  replace hc2 := Lib.hid hc2
  go_wp2_with (at_mapUpdate; go_loud (refine wpList_put_k rfl _ _ _ 134 rfl 3 135 keyI Tryz.underlying134 Tryz.underlying3 rfl hkm2 k rfl hlk (.pointer (some ⟨w1.heap.size, 0, none⟩)) rfl ?_); intro ob2 hkm3; refine Hid.out ?_)
  refine Lib.hid ?_
  have hc3 := (hC.out.mono (G := fun g => (g = tb ∨ v.ownBlock = some g) ∨ g = mb) (G' := fun g => (g = tb ∨ v.ownBlock = some g) ∨ g = mb) (fun b hb => .inl hb) (fun b _ hb => .inr hb)).trans (hc2.out.trans (Chg.setB (F := fun g => (g = tb ∨ v.ownBlock = some g) ∨ g = mb) (.inr rfl) ob2))
  have hb3 := hb2.out.setB (g := mb) (by omega) ob2
  have hn3 : NumR (setBlock (w1.alloc (.cells #[.iface T u, .int .i64 1] 148)) mb ob2) tb _ _ _ _ _ _ _ := hn.out.keep ((setB_other (Ne.symm hmt) ob2).trans (Below.heap_alloc w1 _ tb hlt1)) fun g hg => by
    have hgl := hn.out.at_.row.lt hg
    have hgm : g ≠ mb := fun e => by
      have := hbk.out g (by rw [← hov.out]; exact hg)
      rw [e, hlm] at this
      cases this
    exact (setB_other hgm ob2).trans (Below.heap_alloc w1 _ g hgl)
  have hres := hadd.out _ w1.heap.size k top' v' xs' hno.out hc3 hsp.out hn3 (fun g hg => hbk.out g (by rw [← hov.out]; exact hg)) hkm3 (by rw [hdv.out]; exact hb3) hz1 (hob.out k)
  generalize setBlock (w1.alloc (.cells #[.iface T u, .int .i64 1] 148)) mb ob2 = w3 at hres ⊢
  replace hres := Lib.hid hres
  clear hc3 hb3 hn3 hkm2 hb2 hc2 c2 hkm1 hkm3
  go_wp2
  go_ret
  obtain ⟨F', hr1, hr2⟩ := hres.out
  exact ⟨k, rfl, hle.out, F', top', xs', htp.out, hr1, hr2⟩
end
section
variable {w : World} {F Ft Fp Fh : Nat → Prop} {c : Sy} {s : St}
theorem sys_File_rG (h : Sys w F c s) (htop : s.top < 100000) {n : Int} {y : Pn} (hy : look s.nds n = some y) (hyk : y.kind = 2) (hyh : y.holds ≤ 1000000) (hyl : nmsLen y ≤ 1000000) (m : Bool) :
    Calls Tryz.prog 34 #[ptrV c.tb, .int .i64 n, .agg #[.bool true, .bool false, .bool m]] w fun e w' => ∃ kk, e = .returned (.tuple #[.int .i64 kk, .int .i64 0]) ∧ Least (ids s.hs) kk ∧ ∃ F' top' xs', top' ≤ s.top + 1 ∧ Sys w' F' c { s with nds := upd s.nds n { y with holds := y.holds + 1 }, hs := s.hs ++ [(kk, ⟨1, .file n 0 true false m⟩)], top := top', xs := xs' } ∧ Chg F F' w w' := by
  obtain ⟨Ft, Fp, Fh, h, hF⟩ := h
  have g1 : w.grownBy (w.alloc (.cells #[.bool true, .bool false, .bool m] 38)) none := World.grownBy_alloc w _ _
  have b1 : Blk (w.alloc (.cells #[.bool true, .bool false, .bool m] 38)) w.heap.size [.bool true, .bool false, .bool m] 38 := Blk.new w _ _
  have hzF : ¬ foot Ft Fp Fh w.heap.size := fun hf => absurd (h.lt hf) (Nat.lt_irrefl _)
  unfold ptrV
  go_enter Tryz.func34, Tryz.ntmps34
  go_upto_region 1 with fail
  obtain ⟨z, hz⟩ : ∃ z, w.heap.size = z := ⟨_, rfl⟩
  generalize w.alloc (.cells #[.bool true, .bool false, .bool m] 38) = w1 at g1 b1 ⊢
  simp only [hz] at b1 hzF ⊢
  replace hz := Lib.hid hz
  have h1 := h.grown g1
  have c1 := Chg.of_grown g1 (foot Ft Fp Fh)
  obtain ⟨lab, mb, mem, v, ht1, hFh1⟩ := h1.tab
  obtain ⟨labt, mbt, memt, hT1, hFt1⟩ := h1.tree
  have hi := isNil_no ht1
  have hst := stat_some hT1 hy hyl
  have t0 := ht1.num.at_.blk.cell (i := 0) rfl
  have tl1 := ht1.num.at_.blk.lt
  unfold ptrV at hi t0
  unfold infoOf at hst
  rw [hyk] at hst
  replace hst := Lib.hid hst
  replace h1 := Lib.hid h1
  replace c1 := Lib.hid c1
  clear h g1 hT1 hFt1
  go_wp2_with fail
  refine hi.mono ?_
  rintro e w' ⟨rfl, hw⟩
  obtain rfl := hw.symm
  clear hi hw
  go_wp2_with fail
  refine hst.out.mono ?_
  rintro e w2 ⟨rfl, g2⟩
  have h2 := h1.out.grown g2
  have c2 := c1.out.trans (Chg.of_grown g2 (foot Ft Fp Fh))
  have b2 : Blk w2 z [.bool true, .bool false, .bool m] 38 := (g2.block z b1.lt (by simp)).trans b1
  have tl2 := g2.size
  generalize (y.data.length + nmsLen y : Nat) = sz
  generalize y.named = nd
  replace h2 := Lib.hid h2
  replace c2 := Lib.hid c2
  replace b2 := Lib.hid b2
  clear hst h1 c1 g2 t0 b1
  go_upto_region 4 with fail
  have g3 : w2.grownBy (w2.alloc (.cells #[.int .i64 2, .int .i64 (sz : Int), .int .i64 (nd : Int), .int .i64 (y.holds : Int)] 68)) none := World.grownBy_alloc w2 _ _
  have i3 : Blk (w2.alloc (.cells #[.int .i64 2, .int .i64 (sz : Int), .int .i64 (nd : Int), .int .i64 (y.holds : Int)] 68)) w2.heap.size [.int .i64 2, .int .i64 (sz : Int), .int .i64 (nd : Int), .int .i64 (y.holds : Int)] 68 := Blk.new w2 _ _
  generalize w2.alloc (.cells #[.int .i64 2, .int .i64 (sz : Int), .int .i64 (nd : Int), .int .i64 (y.holds : Int)] 68) = w3 at g3 i3 ⊢
  generalize w2.heap.size = zi at i3 ⊢
  have h3 := h2.out.grown g3
  have c3 := c2.out.trans (Chg.of_grown g3 (foot Ft Fp Fh))
  have b3 : Blk w3 z [.bool true, .bool false, .bool m] 38 := (g3.block z b2.out.lt (by simp)).trans b2.out
  obtain ⟨lab3, mb3, mem3, v3, ht3, hFh3⟩ := h3.tab
  have t0 := ht3.num.at_.blk.cell (i := 0) rfl
  have tl3 := ht3.num.at_.blk.lt
  have i30 := i3.cell (i := 0) rfl
  have m0 := Blk.cell (w := w3) (b := z) (i := 0) b3 rfl
  have m1 := Blk.cell (w := w3) (b := z) (i := 1) b3 rfl
  have m2 := Blk.cell (w := w3) (b := z) (i := 2) b3 rfl
  have hho := hold_some h3.tree hy hyh
  unfold ptrV at t0
  replace h3 := Lib.hid h3
  replace c3 := Lib.hid c3
  replace b3 := Lib.hid b3
  replace hho := Lib.hid hho
  clear h2 c2 b2 g3 i3 ht3 ht1
  go_upto_region 10 with fail
  go_wp2_with fail
  refine hho.out.mono ?_
  rintro e w4 ⟨rfl, Ft4, hT4, hC4⟩
  obtain ⟨h4, c4⟩ := h3.out.treeStep hT4 hC4
  have b4 : Blk w4 z _ _ := b3.out.chg c4 hzF
  have m0 := b4.cell (i := 0) rfl
  have m1 := b4.cell (i := 1) rfl
  have m2 := b4.cell (i := 2) rfl
  have hz4 := b4.lt
  obtain ⟨lab4, mb4, mem4, v4, ht4, hFh4⟩ := h4.tab
  have t0 := ht4.num.at_.blk.cell (i := 0) rfl
  have tl4 := ht4.num.at_.blk.lt
  unfold ptrV at t0
  have g6 : w4.grownBy ((w4.alloc (.cells #[.pointer (some ⟨c.fb, 0, none⟩), .int .i64 n, .int .i64 0, .bool true, .bool false, .bool m] 162)).drew) none := grownBy_drewN (World.grownBy_alloc w4 _ _) 1
  have h6 := h4.grown g6
  have b6 : Blk ((w4.alloc (.cells #[.pointer (some ⟨c.fb, 0, none⟩), .int .i64 n, .int .i64 0, .bool true, .bool false, .bool m] 162)).drew) w4.heap.size (fileC c.fb n 0 true false m) 162 := Blk.new w4 _ _
  have c6 : Chg (foot Ft4 Fp Fh) (fun g => foot Ft4 Fp Fh g ∨ g = w4.heap.size) w4 ((w4.alloc (.cells #[.pointer (some ⟨c.fb, 0, none⟩), .int .i64 n, .int .i64 0, .bool true, .bool false, .bool m] 162)).drew) := (Chg.alloc _ w4 _).trans (Chg.drewN _ _ 1)
  have ht6 : TabF ((w4.alloc (.cells #[.pointer (some ⟨c.fb, 0, none⟩), .int .i64 n, .int .i64 0, .bool true, .bool false, .bool m] 162)).drew) Fh c.fb c.plb c.tb s.hs s.pp s.top s.xs := h6.tab
  have hG : ∀ g, g = w4.heap.size → g < ((w4.alloc (.cells #[.pointer (some ⟨c.fb, 0, none⟩), .int .i64 n, .int .i64 0, .bool true, .bool false, .bool m] 162)).drew).heap.size ∧ ¬ Fh g := fun g hg => ⟨by rw [hg]; exact b6.lt, fun hf => absurd (h4.tab.lt hf) (by omega)⟩
  have hG2 : ∀ g, g = w4.heap.size → ¬ Ft4 g ∧ ¬ Fp g := fun g hg => ⟨fun hf => absurd (h4.tree.lt hf) (by omega), fun hf => absurd (h4.pool.lt hf) (by omega)⟩
  have hadd := tab_addG ht6 (fun g => g = w4.heap.size) hG htop (.file n 0 true false m) w4.heap.size (fun kk w' lab' hg kb => ⟨(hg _ rfl).1.trans b6, (hg _ rfl).2⟩)
  have hend := fun kk top' xs' w7 F7 (hT7 : TabF w7 F7 c.fb c.plb c.tb (s.hs ++ [(kk, ⟨1, .file n 0 true false m⟩)]) s.pp top' xs') hC7 => Sys.of hF (h6.tabStep hG2 hT7 hC7).1 (((c3.out.trans c4).trans c6).trans (h6.tabStep hG2 hT7 hC7).2)
  have hkeep := fun kk top' xs' w7 F7 (hT7 : TabF w7 F7 c.fb c.plb c.tb (s.hs ++ [(kk, ⟨1, .file n 0 true false m⟩)]) s.pp top' xs') (hC7 : Chg (fun g => Fh g ∨ g = w4.heap.size) F7 ((w4.alloc (.cells #[.pointer (some ⟨c.fb, 0, none⟩), .int .i64 n, .int .i64 0, .bool true, .bool false, .bool m] 162)).drew) w7) => show w7.cell? ⟨c.tb, 0, none⟩ = some (.pointer (some ⟨c.fb, 0, none⟩)) ∧ w7.cell? ⟨z, 0, none⟩ = some (.bool true) ∧ w7.cell? ⟨z, 1, none⟩ = some (.bool false) ∧ w7.cell? ⟨z, 2, none⟩ = some (.bool m) by
    obtain ⟨_, _, _, _, htt, _⟩ := hT7
    have bz : Blk w7 z [.bool true, .bool false, .bool m] 38 := by
      refine (hC7.block z (Nat.lt_of_lt_of_le hz4 g6.size) fun hf => ?_).trans ((g6.block z hz4 (by simp)).trans b4)
      rcases hf with hf | hf
      · exact hzF (.inr (.inr hf))
      · omega
    exact ⟨htt.num.at_.blk.cell (i := 0) rfl, bz.cell (i := 0) rfl, bz.cell (i := 1) rfl, bz.cell (i := 2) rfl⟩
  replace hend := Lib.hid hend
  replace hkeep := Lib.hid hkeep
  replace hadd := Lib.hid hadd
  clear hho h3 c3 hT4 hC4 h4 c4 b3 b4 i30 tl2 tl1 tl3 h6 b6 c6 ht6 hG hG2 g6
  go_upto_region 11 with fail
  clear ht4
  go_region_held3 (fun w' => w'.cell? ⟨c.tb, 0, none⟩ = some (.pointer (some ⟨c.fb, 0, none⟩)) ∧ w'.cell? ⟨z, 0, none⟩ = some (.bool true) ∧ w'.cell? ⟨z, 1, none⟩ = some (.bool false) ∧ w'.cell? ⟨z, 2, none⟩ = some (.bool m))
    (first | go_keep | exact hk)
    ((go_at_call 92; refine hadd.out.mono ?_; rintro e w7 ⟨kk, rfl, hle, F7, top', xs', htp, hT7, hC7⟩; have hk := hkeep.out kk top' xs' w7 F7 hT7 hC7; replace hle := Lib.hid hle; replace htp := Lib.hid htp))
  have hres := hend.out kk top' xs' w7 F7 hT7 hC7
  replace hres := Lib.hid hres
  go_wp2
  go_ret2
  obtain ⟨F', hr1, hr2⟩ := hres.out
  exact ⟨kk, rfl, hle.out, F', top', xs', htp.out, hr1, hr2⟩
theorem sys_File_wG (h : Sys w F c s) (htop : s.top < 100000) {n : Int} {y : Pn} (hy : look s.nds n = some y) (hyk : y.kind = 2) (hyh : y.holds ≤ 1000000) (hyl : nmsLen y ≤ 1000000) (m : Bool) :
    Calls Tryz.prog 34 #[ptrV c.tb, .int .i64 n, .agg #[.bool false, .bool true, .bool m]] w fun e w' => ∃ kk, e = .returned (.tuple #[.int .i64 kk, .int .i64 0]) ∧ Least (ids s.hs) kk ∧ ∃ F' top' xs', top' ≤ s.top + 1 ∧ Sys w' F' c { s with nds := upd s.nds n { y with holds := y.holds + 1 }, hs := s.hs ++ [(kk, ⟨1, .file n 0 false true m⟩)], top := top', xs := xs' } ∧ Chg F F' w w' := by
  obtain ⟨Ft, Fp, Fh, h, hF⟩ := h
  have g1 : w.grownBy (w.alloc (.cells #[.bool false, .bool true, .bool m] 38)) none := World.grownBy_alloc w _ _
  have b1 : Blk (w.alloc (.cells #[.bool false, .bool true, .bool m] 38)) w.heap.size [.bool false, .bool true, .bool m] 38 := Blk.new w _ _
  have hzF : ¬ foot Ft Fp Fh w.heap.size := fun hf => absurd (h.lt hf) (Nat.lt_irrefl _)
  unfold ptrV
  go_enter Tryz.func34, Tryz.ntmps34
  go_upto_region 1 with fail
  obtain ⟨z, hz⟩ : ∃ z, w.heap.size = z := ⟨_, rfl⟩
  generalize w.alloc (.cells #[.bool false, .bool true, .bool m] 38) = w1 at g1 b1 ⊢
  simp only [hz] at b1 hzF ⊢
  replace hz := Lib.hid hz
  have h1 := h.grown g1
  have c1 := Chg.of_grown g1 (foot Ft Fp Fh)
  obtain ⟨lab, mb, mem, v, ht1, hFh1⟩ := h1.tab
  obtain ⟨labt, mbt, memt, hT1, hFt1⟩ := h1.tree
  have hi := isNil_no ht1
  have hst := stat_some hT1 hy hyl
  have t0 := ht1.num.at_.blk.cell (i := 0) rfl
  have tl1 := ht1.num.at_.blk.lt
  unfold ptrV at hi t0
  unfold infoOf at hst
  rw [hyk] at hst
  replace hst := Lib.hid hst
  replace h1 := Lib.hid h1
  replace c1 := Lib.hid c1
  clear h g1 hT1 hFt1
  go_wp2_with fail
  refine hi.mono ?_
  rintro e w' ⟨rfl, hw⟩
  obtain rfl := hw.symm
  clear hi hw
  go_wp2_with fail
  refine hst.out.mono ?_
  rintro e w2 ⟨rfl, g2⟩
  have h2 := h1.out.grown g2
  have c2 := c1.out.trans (Chg.of_grown g2 (foot Ft Fp Fh))
  have b2 : Blk w2 z [.bool false, .bool true, .bool m] 38 := (g2.block z b1.lt (by simp)).trans b1
  have tl2 := g2.size
  generalize (y.data.length + nmsLen y : Nat) = sz
  generalize y.named = nd
  replace h2 := Lib.hid h2
  replace c2 := Lib.hid c2
  replace b2 := Lib.hid b2
  clear hst h1 c1 g2 t0 b1
  go_upto_region 4 with fail
  have g3 : w2.grownBy (w2.alloc (.cells #[.int .i64 2, .int .i64 (sz : Int), .int .i64 (nd : Int), .int .i64 (y.holds : Int)] 68)) none := World.grownBy_alloc w2 _ _
  have i3 : Blk (w2.alloc (.cells #[.int .i64 2, .int .i64 (sz : Int), .int .i64 (nd : Int), .int .i64 (y.holds : Int)] 68)) w2.heap.size [.int .i64 2, .int .i64 (sz : Int), .int .i64 (nd : Int), .int .i64 (y.holds : Int)] 68 := Blk.new w2 _ _
  generalize w2.alloc (.cells #[.int .i64 2, .int .i64 (sz : Int), .int .i64 (nd : Int), .int .i64 (y.holds : Int)] 68) = w3 at g3 i3 ⊢
  generalize w2.heap.size = zi at i3 ⊢
  have h3 := h2.out.grown g3
  have c3 := c2.out.trans (Chg.of_grown g3 (foot Ft Fp Fh))
  have b3 : Blk w3 z [.bool false, .bool true, .bool m] 38 := (g3.block z b2.out.lt (by simp)).trans b2.out
  obtain ⟨lab3, mb3, mem3, v3, ht3, hFh3⟩ := h3.tab
  have t0 := ht3.num.at_.blk.cell (i := 0) rfl
  have tl3 := ht3.num.at_.blk.lt
  have i30 := i3.cell (i := 0) rfl
  have m0 := Blk.cell (w := w3) (b := z) (i := 0) b3 rfl
  have m1 := Blk.cell (w := w3) (b := z) (i := 1) b3 rfl
  have m2 := Blk.cell (w := w3) (b := z) (i := 2) b3 rfl
  have hho := hold_some h3.tree hy hyh
  unfold ptrV at t0
  replace h3 := Lib.hid h3
  replace c3 := Lib.hid c3
  replace b3 := Lib.hid b3
  replace hho := Lib.hid hho
  clear h2 c2 b2 g3 i3 ht3 ht1
  go_upto_region 10 with fail
  go_wp2_with fail
  refine hho.out.mono ?_
  rintro e w4 ⟨rfl, Ft4, hT4, hC4⟩
  obtain ⟨h4, c4⟩ := h3.out.treeStep hT4 hC4
  have b4 : Blk w4 z _ _ := b3.out.chg c4 hzF
  have m0 := b4.cell (i := 0) rfl
  have m1 := b4.cell (i := 1) rfl
  have m2 := b4.cell (i := 2) rfl
  have hz4 := b4.lt
  obtain ⟨lab4, mb4, mem4, v4, ht4, hFh4⟩ := h4.tab
  have t0 := ht4.num.at_.blk.cell (i := 0) rfl
  have tl4 := ht4.num.at_.blk.lt
  unfold ptrV at t0
  have g6 : w4.grownBy ((w4.alloc (.cells #[.pointer (some ⟨c.fb, 0, none⟩), .int .i64 n, .int .i64 0, .bool false, .bool true, .bool m] 162)).drew) none := grownBy_drewN (World.grownBy_alloc w4 _ _) 1
  have h6 := h4.grown g6
  have b6 : Blk ((w4.alloc (.cells #[.pointer (some ⟨c.fb, 0, none⟩), .int .i64 n, .int .i64 0, .bool false, .bool true, .bool m] 162)).drew) w4.heap.size (fileC c.fb n 0 false true m) 162 := Blk.new w4 _ _
  have c6 : Chg (foot Ft4 Fp Fh) (fun g => foot Ft4 Fp Fh g ∨ g = w4.heap.size) w4 ((w4.alloc (.cells #[.pointer (some ⟨c.fb, 0, none⟩), .int .i64 n, .int .i64 0, .bool false, .bool true, .bool m] 162)).drew) := (Chg.alloc _ w4 _).trans (Chg.drewN _ _ 1)
  have ht6 : TabF ((w4.alloc (.cells #[.pointer (some ⟨c.fb, 0, none⟩), .int .i64 n, .int .i64 0, .bool false, .bool true, .bool m] 162)).drew) Fh c.fb c.plb c.tb s.hs s.pp s.top s.xs := h6.tab
  have hG : ∀ g, g = w4.heap.size → g < ((w4.alloc (.cells #[.pointer (some ⟨c.fb, 0, none⟩), .int .i64 n, .int .i64 0, .bool false, .bool true, .bool m] 162)).drew).heap.size ∧ ¬ Fh g := fun g hg => ⟨by rw [hg]; exact b6.lt, fun hf => absurd (h4.tab.lt hf) (by omega)⟩
  have hG2 : ∀ g, g = w4.heap.size → ¬ Ft4 g ∧ ¬ Fp g := fun g hg => ⟨fun hf => absurd (h4.tree.lt hf) (by omega), fun hf => absurd (h4.pool.lt hf) (by omega)⟩
  have hadd := tab_addG ht6 (fun g => g = w4.heap.size) hG htop (.file n 0 false true m) w4.heap.size (fun kk w' lab' hg kb => ⟨(hg _ rfl).1.trans b6, (hg _ rfl).2⟩)
  have hend := fun kk top' xs' w7 F7 (hT7 : TabF w7 F7 c.fb c.plb c.tb (s.hs ++ [(kk, ⟨1, .file n 0 false true m⟩)]) s.pp top' xs') hC7 => Sys.of hF (h6.tabStep hG2 hT7 hC7).1 (((c3.out.trans c4).trans c6).trans (h6.tabStep hG2 hT7 hC7).2)
  have hkeep := fun kk top' xs' w7 F7 (hT7 : TabF w7 F7 c.fb c.plb c.tb (s.hs ++ [(kk, ⟨1, .file n 0 false true m⟩)]) s.pp top' xs') (hC7 : Chg (fun g => Fh g ∨ g = w4.heap.size) F7 ((w4.alloc (.cells #[.pointer (some ⟨c.fb, 0, none⟩), .int .i64 n, .int .i64 0, .bool false, .bool true, .bool m] 162)).drew) w7) => show w7.cell? ⟨c.tb, 0, none⟩ = some (.pointer (some ⟨c.fb, 0, none⟩)) ∧ w7.cell? ⟨z, 0, none⟩ = some (.bool false) ∧ w7.cell? ⟨z, 1, none⟩ = some (.bool true) ∧ w7.cell? ⟨z, 2, none⟩ = some (.bool m) by
    obtain ⟨_, _, _, _, htt, _⟩ := hT7
    have bz : Blk w7 z [.bool false, .bool true, .bool m] 38 := by
      refine (hC7.block z (Nat.lt_of_lt_of_le hz4 g6.size) fun hf => ?_).trans ((g6.block z hz4 (by simp)).trans b4)
      rcases hf with hf | hf
      · exact hzF (.inr (.inr hf))
      · omega
    exact ⟨htt.num.at_.blk.cell (i := 0) rfl, bz.cell (i := 0) rfl, bz.cell (i := 1) rfl, bz.cell (i := 2) rfl⟩
  replace hend := Lib.hid hend
  replace hkeep := Lib.hid hkeep
  replace hadd := Lib.hid hadd
  clear hho h3 c3 hT4 hC4 h4 c4 b3 b4 i30 tl2 tl1 tl3 h6 b6 c6 ht6 hG hG2 g6
  go_upto_region 11 with fail
  clear ht4
  go_region_held3 (fun w' => w'.cell? ⟨c.tb, 0, none⟩ = some (.pointer (some ⟨c.fb, 0, none⟩)) ∧ w'.cell? ⟨z, 0, none⟩ = some (.bool false) ∧ w'.cell? ⟨z, 1, none⟩ = some (.bool true) ∧ w'.cell? ⟨z, 2, none⟩ = some (.bool m))
    (first | go_keep | exact hk)
    ((go_at_call 92; refine hadd.out.mono ?_; rintro e w7 ⟨kk, rfl, hle, F7, top', xs', htp, hT7, hC7⟩; have hk := hkeep.out kk top' xs' w7 F7 hT7 hC7; replace hle := Lib.hid hle; replace htp := Lib.hid htp))
  have hres := hend.out kk top' xs' w7 F7 hT7 hC7
  replace hres := Lib.hid hres
  go_wp2
  go_ret2
  obtain ⟨F', hr1, hr2⟩ := hres.out
  exact ⟨kk, rfl, hle.out, F', top', xs', htp.out, hr1, hr2⟩
theorem sys_File_rwG (h : Sys w F c s) (htop : s.top < 100000) {n : Int} {y : Pn} (hy : look s.nds n = some y) (hyk : y.kind = 2) (hyh : y.holds ≤ 1000000) (hyl : nmsLen y ≤ 1000000) (m : Bool) :
    Calls Tryz.prog 34 #[ptrV c.tb, .int .i64 n, .agg #[.bool true, .bool true, .bool m]] w fun e w' => ∃ kk, e = .returned (.tuple #[.int .i64 kk, .int .i64 0]) ∧ Least (ids s.hs) kk ∧ ∃ F' top' xs', top' ≤ s.top + 1 ∧ Sys w' F' c { s with nds := upd s.nds n { y with holds := y.holds + 1 }, hs := s.hs ++ [(kk, ⟨1, .file n 0 true true m⟩)], top := top', xs := xs' } ∧ Chg F F' w w' := by
  obtain ⟨Ft, Fp, Fh, h, hF⟩ := h
  have g1 : w.grownBy (w.alloc (.cells #[.bool true, .bool true, .bool m] 38)) none := World.grownBy_alloc w _ _
  have b1 : Blk (w.alloc (.cells #[.bool true, .bool true, .bool m] 38)) w.heap.size [.bool true, .bool true, .bool m] 38 := Blk.new w _ _
  have hzF : ¬ foot Ft Fp Fh w.heap.size := fun hf => absurd (h.lt hf) (Nat.lt_irrefl _)
  unfold ptrV
  go_enter Tryz.func34, Tryz.ntmps34
  go_upto_region 1 with fail
  obtain ⟨z, hz⟩ : ∃ z, w.heap.size = z := ⟨_, rfl⟩
  generalize w.alloc (.cells #[.bool true, .bool true, .bool m] 38) = w1 at g1 b1 ⊢
  simp only [hz] at b1 hzF ⊢
  replace hz := Lib.hid hz
  have h1 := h.grown g1
  have c1 := Chg.of_grown g1 (foot Ft Fp Fh)
  obtain ⟨lab, mb, mem, v, ht1, hFh1⟩ := h1.tab
  obtain ⟨labt, mbt, memt, hT1, hFt1⟩ := h1.tree
  have hi := isNil_no ht1
  have hst := stat_some hT1 hy hyl
  have t0 := ht1.num.at_.blk.cell (i := 0) rfl
  have tl1 := ht1.num.at_.blk.lt
  unfold ptrV at hi t0
  unfold infoOf at hst
  rw [hyk] at hst
  replace hst := Lib.hid hst
  replace h1 := Lib.hid h1
  replace c1 := Lib.hid c1
  clear h g1 hT1 hFt1
  go_wp2_with fail
  refine hi.mono ?_
  rintro e w' ⟨rfl, hw⟩
  obtain rfl := hw.symm
  clear hi hw
  go_wp2_with fail
  refine hst.out.mono ?_
  rintro e w2 ⟨rfl, g2⟩
  have h2 := h1.out.grown g2
  have c2 := c1.out.trans (Chg.of_grown g2 (foot Ft Fp Fh))
  have b2 : Blk w2 z [.bool true, .bool true, .bool m] 38 := (g2.block z b1.lt (by simp)).trans b1
  have tl2 := g2.size
  generalize (y.data.length + nmsLen y : Nat) = sz
  generalize y.named = nd
  replace h2 := Lib.hid h2
  replace c2 := Lib.hid c2
  replace b2 := Lib.hid b2
  clear hst h1 c1 g2 t0 b1
  go_upto_region 4 with fail
  have g3 : w2.grownBy (w2.alloc (.cells #[.int .i64 2, .int .i64 (sz : Int), .int .i64 (nd : Int), .int .i64 (y.holds : Int)] 68)) none := World.grownBy_alloc w2 _ _
  have i3 : Blk (w2.alloc (.cells #[.int .i64 2, .int .i64 (sz : Int), .int .i64 (nd : Int), .int .i64 (y.holds : Int)] 68)) w2.heap.size [.int .i64 2, .int .i64 (sz : Int), .int .i64 (nd : Int), .int .i64 (y.holds : Int)] 68 := Blk.new w2 _ _
  generalize w2.alloc (.cells #[.int .i64 2, .int .i64 (sz : Int), .int .i64 (nd : Int), .int .i64 (y.holds : Int)] 68) = w3 at g3 i3 ⊢
  generalize w2.heap.size = zi at i3 ⊢
  have h3 := h2.out.grown g3
  have c3 := c2.out.trans (Chg.of_grown g3 (foot Ft Fp Fh))
  have b3 : Blk w3 z [.bool true, .bool true, .bool m] 38 := (g3.block z b2.out.lt (by simp)).trans b2.out
  obtain ⟨lab3, mb3, mem3, v3, ht3, hFh3⟩ := h3.tab
  have t0 := ht3.num.at_.blk.cell (i := 0) rfl
  have tl3 := ht3.num.at_.blk.lt
  have i30 := i3.cell (i := 0) rfl
  have m0 := Blk.cell (w := w3) (b := z) (i := 0) b3 rfl
  have m1 := Blk.cell (w := w3) (b := z) (i := 1) b3 rfl
  have m2 := Blk.cell (w := w3) (b := z) (i := 2) b3 rfl
  have hho := hold_some h3.tree hy hyh
  unfold ptrV at t0
  replace h3 := Lib.hid h3
  replace c3 := Lib.hid c3
  replace b3 := Lib.hid b3
  replace hho := Lib.hid hho
  clear h2 c2 b2 g3 i3 ht3 ht1
  go_upto_region 10 with fail
  go_wp2_with fail
  refine hho.out.mono ?_
  rintro e w4 ⟨rfl, Ft4, hT4, hC4⟩
  obtain ⟨h4, c4⟩ := h3.out.treeStep hT4 hC4
  have b4 : Blk w4 z _ _ := b3.out.chg c4 hzF
  have m0 := b4.cell (i := 0) rfl
  have m1 := b4.cell (i := 1) rfl
  have m2 := b4.cell (i := 2) rfl
  have hz4 := b4.lt
  obtain ⟨lab4, mb4, mem4, v4, ht4, hFh4⟩ := h4.tab
  have t0 := ht4.num.at_.blk.cell (i := 0) rfl
  have tl4 := ht4.num.at_.blk.lt
  unfold ptrV at t0
  have g6 : w4.grownBy ((w4.alloc (.cells #[.pointer (some ⟨c.fb, 0, none⟩), .int .i64 n, .int .i64 0, .bool true, .bool true, .bool m] 162)).drew) none := grownBy_drewN (World.grownBy_alloc w4 _ _) 1
  have h6 := h4.grown g6
  have b6 : Blk ((w4.alloc (.cells #[.pointer (some ⟨c.fb, 0, none⟩), .int .i64 n, .int .i64 0, .bool true, .bool true, .bool m] 162)).drew) w4.heap.size (fileC c.fb n 0 true true m) 162 := Blk.new w4 _ _
  have c6 : Chg (foot Ft4 Fp Fh) (fun g => foot Ft4 Fp Fh g ∨ g = w4.heap.size) w4 ((w4.alloc (.cells #[.pointer (some ⟨c.fb, 0, none⟩), .int .i64 n, .int .i64 0, .bool true, .bool true, .bool m] 162)).drew) := (Chg.alloc _ w4 _).trans (Chg.drewN _ _ 1)
  have ht6 : TabF ((w4.alloc (.cells #[.pointer (some ⟨c.fb, 0, none⟩), .int .i64 n, .int .i64 0, .bool true, .bool true, .bool m] 162)).drew) Fh c.fb c.plb c.tb s.hs s.pp s.top s.xs := h6.tab
  have hG : ∀ g, g = w4.heap.size → g < ((w4.alloc (.cells #[.pointer (some ⟨c.fb, 0, none⟩), .int .i64 n, .int .i64 0, .bool true, .bool true, .bool m] 162)).drew).heap.size ∧ ¬ Fh g := fun g hg => ⟨by rw [hg]; exact b6.lt, fun hf => absurd (h4.tab.lt hf) (by omega)⟩
  have hG2 : ∀ g, g = w4.heap.size → ¬ Ft4 g ∧ ¬ Fp g := fun g hg => ⟨fun hf => absurd (h4.tree.lt hf) (by omega), fun hf => absurd (h4.pool.lt hf) (by omega)⟩
  have hadd := tab_addG ht6 (fun g => g = w4.heap.size) hG htop (.file n 0 true true m) w4.heap.size (fun kk w' lab' hg kb => ⟨(hg _ rfl).1.trans b6, (hg _ rfl).2⟩)
  have hend := fun kk top' xs' w7 F7 (hT7 : TabF w7 F7 c.fb c.plb c.tb (s.hs ++ [(kk, ⟨1, .file n 0 true true m⟩)]) s.pp top' xs') hC7 => Sys.of hF (h6.tabStep hG2 hT7 hC7).1 (((c3.out.trans c4).trans c6).trans (h6.tabStep hG2 hT7 hC7).2)
  have hkeep := fun kk top' xs' w7 F7 (hT7 : TabF w7 F7 c.fb c.plb c.tb (s.hs ++ [(kk, ⟨1, .file n 0 true true m⟩)]) s.pp top' xs') (hC7 : Chg (fun g => Fh g ∨ g = w4.heap.size) F7 ((w4.alloc (.cells #[.pointer (some ⟨c.fb, 0, none⟩), .int .i64 n, .int .i64 0, .bool true, .bool true, .bool m] 162)).drew) w7) => show w7.cell? ⟨c.tb, 0, none⟩ = some (.pointer (some ⟨c.fb, 0, none⟩)) ∧ w7.cell? ⟨z, 0, none⟩ = some (.bool true) ∧ w7.cell? ⟨z, 1, none⟩ = some (.bool true) ∧ w7.cell? ⟨z, 2, none⟩ = some (.bool m) by
    obtain ⟨_, _, _, _, htt, _⟩ := hT7
    have bz : Blk w7 z [.bool true, .bool true, .bool m] 38 := by
      refine (hC7.block z (Nat.lt_of_lt_of_le hz4 g6.size) fun hf => ?_).trans ((g6.block z hz4 (by simp)).trans b4)
      rcases hf with hf | hf
      · exact hzF (.inr (.inr hf))
      · omega
    exact ⟨htt.num.at_.blk.cell (i := 0) rfl, bz.cell (i := 0) rfl, bz.cell (i := 1) rfl, bz.cell (i := 2) rfl⟩
  replace hend := Lib.hid hend
  replace hkeep := Lib.hid hkeep
  replace hadd := Lib.hid hadd
  clear hho h3 c3 hT4 hC4 h4 c4 b3 b4 i30 tl2 tl1 tl3 h6 b6 c6 ht6 hG hG2 g6
  go_upto_region 11 with fail
  clear ht4
  go_region_held3 (fun w' => w'.cell? ⟨c.tb, 0, none⟩ = some (.pointer (some ⟨c.fb, 0, none⟩)) ∧ w'.cell? ⟨z, 0, none⟩ = some (.bool true) ∧ w'.cell? ⟨z, 1, none⟩ = some (.bool true) ∧ w'.cell? ⟨z, 2, none⟩ = some (.bool m))
    (first | go_keep | exact hk)
    ((go_at_call 92; refine hadd.out.mono ?_; rintro e w7 ⟨kk, rfl, hle, F7, top', xs', htp, hT7, hC7⟩; have hk := hkeep.out kk top' xs' w7 F7 hT7 hC7; replace hle := Lib.hid hle; replace htp := Lib.hid htp))
  have hres := hend.out kk top' xs' w7 F7 hT7 hC7
  replace hres := Lib.hid hres
  go_wp2
  go_ret2
  obtain ⟨F', hr1, hr2⟩ := hres.out
  exact ⟨kk, rfl, hle.out, F', top', xs', htp.out, hr1, hr2⟩
end
end Go.Proofs.YtfofpphnglhopaaGreatDoor
