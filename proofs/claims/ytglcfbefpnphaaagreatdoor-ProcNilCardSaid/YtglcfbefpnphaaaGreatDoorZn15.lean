/-
  Cut of a node's bytes to none. Conditions: fewer than a million bytes in all.
  strings.Clone, met by the shelf's contract. Conditions: a text that a slice may hold.
  A text and a sink as handles: Text, Sink, Read of a text, Write and Seen of a sink. Conditions: none is back; at most a hundred thousand.
  What a text and a sink do: read, write, seen. Conditions: at most a million bytes.
  A table's Read of a text, Write and Seen of a sink. Conditions: at most a million bytes.
-/
import Derived.Deep.RegionHeld3
import Derived.Shelf.Pu.Clone
import Derived.Test.YtglcfbefpnphaaaGreatDoorProg
import Derived.BigQuiet
import Derived.OwnWalk
import Derived.Test.YtglcfbefpnphaaaGreatDoorZn4
import Derived.Test.YtglcfbefpnphaaaGreatDoorZn5
import Derived.Test.YtglcfbefpnphaaaGreatDoorZn6
import Derived.Test.YtglcfbefpnphaaaGreatDoorZn11
import Derived.Test.YtglcfbefpnphaaaGreatDoorZn14
namespace Go.Proofs.YtglcfbefpnphaaaGreatDoor
open Go Go.RowKit Go.ChangeMaps

theorem infoB : (Tryz.prog.info? 5).map (fun i => (i.zero, i.size, i.bytes)) = some (some (.int .u8 0), 1, 1) := by kernel_rfl
theorem rowM_own {w : World} {B n : Nat} {e : TypeId} {v : Value} {xs : List Value} (h : w.ownsRow B e 1 v n xs) : RowM w e v n xs := by
  obtain ⟨hl, h⟩ := h
  rcases h with ⟨rfl, rfl⟩ | ⟨g, cap, cur, rfl, _, hgb, h1, h2, h3, h4⟩
  · exact .inl ⟨rfl, rfl, List.eq_nil_of_length_eq_zero (by simpa using hl)⟩
  · exact .inr ⟨g, 0, cap, cur.toList, rfl, ⟨(0, 0), .inl rfl, hgb⟩, h1, h2, by simp; omega, by simpa using h4⟩
set_option maxHeartbeats 1000000 in
set_option maxRecDepth 100000 in
theorem cloneB0 (A : Option Addr) (c : Nat) (w : World) :
    Calls Tryz.prog 175 #[.slice A 0 c] w fun e w' => ∃ v', e = .returned v' ∧ RowM w' 5 v' 0 [] ∧ (∀ g, v'.ownBlock = some g → w.heap.size ≤ g) ∧ w.grownBy w' none := by
  obtain ⟨i0, hi, hz0, hz1, hz2⟩ := info_parts infoB
  have q22 : ∀ (w : World) (a : Option Addr) (n c n' c' : Nat), (binOp .eql 153 (.slice a n c) (.slice none n' c')).run Tryz.prog w = .ok (.bool a.isNone) w := fun w a n c n' c' => Lib.run_eql_slice_nil w _ _ a n c n' c' Tryz.underlying153
  cases A with
  | none =>
    clear hi hz0 hz1 hz2
    go_enter Tryz.func175, Tryz.ntmps175
    go_wp2
    go_ret
    exact ⟨_, rfl, .inl ⟨rfl, rfl, rfl⟩, nofun, ⟨rfl, rfl, rfl, Nat.le_refl _, fun _ _ _ => rfl⟩⟩
  | some ad =>
    go_enter Tryz.func175, Tryz.ntmps175
    go_wp2_with (at_builtin; refine wpList_append_own _ rfl _ _ 153 rfl w.heap.size 5 i0 _ 1 1 Tryz.underlying153 hi hz0 hz1 hz2 rfl (by decide) _ _ _ rfl (World.ownsRow_made w #[] 0 (Nat.le_refl _) (Nat.zero_le _) (by simp)) ad 0 c [] rfl ?qc1 ?qc2 ?qc3 ?qc4 ?qc5 ?qc6 ?_)
    case qc1 => rfl
    case qc2 => intro j u hj; simp at hj
    case qc3 => intro u hu; cases hu
    case qc4 => simp
    case qc5 => simp
    case qc6 => simp
    intro v' w1 hown hgrow _
    have hb : Below w.heap.size w w1 := ((Below.refl _ w).alloc (Nat.le_refl _) _).grown hgrow (by simp) (by intro k hk; simp [Value.ownBlock] at hk; omega)
    go_wp2
    go_ret
    exact ⟨v', rfl, rowM_own hown, fun g hg => (hown.lt g hg).1, hb.os, hb.tape, hb.output, hb.size, fun k hk _ => hb.block k hk⟩

section
variable {w : World} {F : Nat → Prop} {fb most room : Nat} {nds : Nds}
set_option maxHeartbeats 1000000 in
set_option maxRecDepth 100000 in
theorem node_cut0 (h : TreeF w F fb most room nds) {k : Int} {x : Pn} (hx : look nds k = some x) (hk : x.kind = 2) (hu : usedN nds ≤ 1000000) :
    Calls Tryz.prog 148 #[.pointer (some ⟨fb, 0, none⟩), .int .i64 k, .int .i64 0] w fun e w' => e = .returned (.int .i64 0) ∧ ∃ F', TreeF w' F' fb most room (upd nds k { x with data := [] }) ∧ Chg F F' w w' := by
  obtain ⟨lab, mb, mem, h, hF⟩ := h
  have hl := leaf_some h hx (by omega)
  have hN := h.nd k x hx
  have hle : x.data.length ≤ usedN nds := total_ge (f := fun x : Pn => x.data.length) hx
  obtain ⟨A, c, hdv, hc, hcm⟩ := hN.data.form
  have c0 := hN.blk.cell (show (bodyC x (mem k))[0]? = some _ from rfl)
  rw [hk] at c0
  have c3 := hN.blk.cell (show (bodyC x (mem k))[3]? = some _ from rfl)
  have u3 := h.fs.cell (i := 3) rfl
  have f3 := h.fs.frozen 3
  rw [hdv] at c3
  have c3' : (mem k).dv = .slice A x.data.length c := hdv
  replace c3' := Lib.hid c3'
  have hlt := hN.blk.lt
  have hfl := h.fs.lt
  have hne : (mem k).blk ≠ fb := fun e => by have := hN.lb; rw [e, h.lfs] at this; cases this
  have i1 : IntKind.i64.wrap ((usedN nds : Int) - (x.data.length : Int)) = ((usedN nds - x.data.length : Nat) : Int) := by rw [IntKind.wrap_i64]; omega
  have i2 : IntKind.i64.wrap (x.data.length : Int) = (x.data.length : Int) := by rw [IntKind.wrap_i64]; omega
  have i3 : ¬ (x.data.length : Int) < 0 := by omega
  -- behind the first store
  have hs1 : ∀ d, Chg (fun b => b = (mem k).blk ∨ b = fb) (fun b => b = (mem k).blk ∨ b = fb) w ((w.drewN d).setCell ⟨fb, 3, none⟩ (.int .i64 ((usedN nds - x.data.length : Nat) : Int))) := fun d => (Chg.drewN _ w d).trans (Chg.set (b := fb) (.inr rfl) 3 _)
  have hfs1 : ∀ d, Blk ((w.drewN d).setCell ⟨fb, 3, none⟩ (.int .i64 ((usedN nds - x.data.length : Nat) : Int))) fb _ _ := fun d => Blk.set (w := w.drewN d) h.fs 3 (.int .i64 ((usedN nds - x.data.length : Nat) : Int))
  have hbl1 : ∀ d, Blk ((w.drewN d).setCell ⟨fb, 3, none⟩ (.int .i64 ((usedN nds - x.data.length : Nat) : Int))) (mem k).blk _ _ := fun d => Blk.other (w := w.drewN d) (a := ⟨fb, 3, none⟩) hN.blk hne _
  have hend : ∀ w2 w3 v', Chg (fun b => b = (mem k).blk ∨ b = fb) (fun b => b = (mem k).blk ∨ b = fb) w w2 → Blk w2 fb [.map (some mb), .int .i64 (most : Int), .int .i64 (room : Int), .int .i64 ((usedN nds - x.data.length : Nat) : Int)] 176 → Blk w2 (mem k).blk (bodyC x (mem k)) 156 → w2.grownBy w3 none → RowM w3 5 v' 0 [] → (∀ g, v'.ownBlock = some g → w2.heap.size ≤ g) →
      ∃ F', TreeF (w3.setCell ⟨(mem k).blk, 3, none⟩ v') F' fb most room (upd nds k { x with data := [] }) ∧ Chg F F' w (w3.setCell ⟨(mem k).blk, 3, none⟩ v') := fun w2 w3 v' m1 hf2 hb2 hg hr ho => by
    have hf3 := (hg.block fb hf2.lt (by simp)).trans hf2
    have hb3 : Blk w3 (mem k).blk _ _ := (hg.block (mem k).blk hb2.lt (by simp)).trans hb2
    have m2 := (m1.trans (Chg.of_grown hg _)).trans (Chg.set (b := (mem k).blk) (.inl rfl) 3 v')
    refine h.data_step (d := []) (dv := v') hF hx m2 (fun g _ hs => hs.elim (fun hs => .inr (.inl (by rw [hs]; exact hN.lb))) (fun hs => .inl (by rw [hs]; exact h.lfs))) ?_ ?_ ?_ (fun g hg' => .inr ?_) (Nat.zero_le _) (by have := h.lim.2.2; simp; omega)
    · exact Blk.other (a := ⟨(mem k).blk, 3, none⟩) (show Blk w3 fb _ _ from hf3) hne.symm v'
    · exact hb3.set 3 v'
    · exact hr.keep fun g hg' => heap_setCell_other w3 _ g _ (fun e => by have := ho g hg'; have := hb2.lt; have e : g = (mem k).blk := e; omega)
    · have := ho g hg'; have := m1.size; omega
  generalize (mem k).blk = kb at hl c0 c3 hlt hne hs1 hfs1 hbl1 hend
  generalize usedN nds = U at *
  generalize x.data.length = L at *
  replace hs1 := Lib.hid hs1
  replace hfs1 := Lib.hid hfs1
  replace hbl1 := Lib.hid hbl1
  replace hend := Lib.hid hend
  clear h hN hx hk hdv
  go_enter Tryz.func148, Tryz.ntmps148
  go_wp2_with fail
  refine hl.mono ?_
  rintro e w' ⟨rfl, hw⟩
  obtain rfl := hw.symm
  clear hl hw
  go_upto_region 6 with fail
  go_still_tail 12, (by kernel_rfl)
  change wpList _ _ _ _ _ (w.drewN 1)
  go_upto_region 7 with fail
  have m1 := hs1.out 1
  have hf2 := hfs1.out 1
  have hb2 := hbl1.out 1
  generalize (w.drewN 1).setCell ⟨fb, 3, none⟩ (.int .i64 ((U - L : Nat) : Int)) = w2 at m1 hf2 hb2 ⊢
  have d3 : w2.cell? ⟨kb, 3, none⟩ = some (.slice A L c) := by rw [← c3'.out]; exact hb2.cell (show (bodyC x (mem k))[3]? = some _ from rfl)
  have g3 := hb2.frozen 3
  have hlt2 := hb2.lt
  replace m1 := Lib.hid m1
  replace hf2 := Lib.hid hf2
  replace hb2 := Lib.hid hb2
  clear hs1 hfs1 hbl1 c0 c3 u3 f3
  go_wp2_with fail
  refine (cloneB0 _ _ _).mono ?_
  rintro e w3 ⟨v', rfl, hr, ho, hg⟩
  have hres := hend.out w2 w3 v' m1.out hf2.out hb2.out hg hr ho
  have d4 := (hg.block kb hlt2 (by simp)).trans hb2.out
  have d5 : w3.cell? ⟨kb, 3, none⟩ = some _ := Blk.cell (i := 3) d4 rfl
  have g5 := Blk.frozen (show Blk w3 kb _ _ from d4) 3
  have hlt3 := Blk.lt (show Blk w3 kb _ _ from d4)
  obtain ⟨A', c', hv', _⟩ := hr.form
  subst hv'
  replace hres := Lib.hid hres
  clear hend d3 g3 hg hr ho m1 hf2 hb2 d4
  go_wp2
  go_ret
  exact ⟨rfl, hres.out⟩
end
end Go.Proofs.YtglcfbefpnphaaaGreatDoor

namespace Go.Proofs.YtglcfbefpnphaaaGreatDoor
open Go Go.Shelf Go.RowKit

def clRen : Ren := ⟨fun | 25 => 290 | n => n, fun | 0 => 0 | 3 => 3 | 4 => 4 | 5 => 5 | 9 => 9 | 37 => 153 | 47 => 245 | n => n, fun | n => n⟩
end Go.Proofs.YtglcfbefpnphaaaGreatDoor

namespace Go.Proofs.YtglcfbefpnphaaaGreatDoor
open Go Go.RowKit Go.ChangeMaps

section
variable {w : World} {F Ft Fp Fh : Nat → Prop} {c : Sy} {s : St}
set_option maxHeartbeats 1000000 in
set_option maxRecDepth 100000 in
theorem sys_Text (h : Sys w F c s) (hxs : s.xs = []) (htop : s.top < 100000) (t : ByteArray) (ht1 : t.size ≤ 1048576) :
    Calls Tryz.prog 49 #[ptrV c.tb, .string t] w fun e w' => e = .returned (.tuple #[.int .i64 ((s.top + 1 : Nat) : Int), .int .i64 0]) ∧
      ∃ F', Sys w' F' c { s with hs := s.hs ++ [(((s.top + 1 : Nat) : Int), ⟨1, .text (tl t) 0⟩)], top := s.top + 1, xs := [] } ∧ Chg F F' w w' := by
  obtain ⟨Ft, Fp, Fh, h, hF⟩ := h
  obtain ⟨lab, mb, mem, v, htb, hFh⟩ := h.tab
  have hi := isNil_no htb
  have i1 : ¬ (1048576 : Int) < (t.size : Int) := by omega
  have g6 : w.grownBy (w.alloc (.cells #[.string t, .int .i64 0] 197)) none := World.grownBy_alloc w _ _
  have h6 := h.grown g6
  have b6 : Blk (w.alloc (.cells #[.string t, .int .i64 0] 197)) w.heap.size [.string ⟨(tl t).toArray⟩, .int .i64 ((0 : Nat) : Int)] 197 := Blk.new w _ _
  have c6 : Chg (foot Ft Fp Fh) (fun g => foot Ft Fp Fh g ∨ g = w.heap.size) w (w.alloc (.cells #[.string t, .int .i64 0] 197)) := Chg.alloc _ w _
  have ht6 : TabF (w.alloc (.cells #[.string t, .int .i64 0] 197)) Fh c.fb c.plb c.tb s.hs s.pp s.top [] := by rw [← hxs]; exact h6.tab
  have hG : ∀ g, g = w.heap.size → g < (w.alloc (.cells #[.string t, .int .i64 0] 197)).heap.size ∧ ¬ Fh g := fun g hg => ⟨by rw [hg]; exact b6.lt, fun hf => absurd (h.tab.lt hf) (by omega)⟩
  have hG2 : ∀ g, g = w.heap.size → ¬ Ft g ∧ ¬ Fp g := fun g hg => ⟨fun hf => absurd (h.tree.lt hf) (by omega), fun hf => absurd (h.pool.lt hf) (by omega)⟩
  have hadd := tab_add ht6 (fun g => g = w.heap.size) hG htop (.text (tl t) 0) w.heap.size (fun w' lab' hg kb => ⟨(hg _ rfl).1.trans b6, (hg _ rfl).2, Nat.zero_le _, by rw [tl_len]; exact ht1⟩)
  have hend := fun w7 F7 (hT7 : TabF w7 F7 c.fb c.plb c.tb (s.hs ++ [(((s.top + 1 : Nat) : Int), ⟨1, .text (tl t) 0⟩)]) s.pp (s.top + 1) []) hC7 => Sys.of hF (h6.tabStep hG2 hT7 hC7).1 (c6.trans (h6.tabStep hG2 hT7 hC7).2)
  unfold ptrV at hi ⊢
  unfold doesV ptrV at hadd
  replace hend := Lib.hid hend
  replace hadd := Lib.hid hadd
  clear h6 b6 c6 ht6 hG hG2 g6 h htb hFh ht1
  go_enter Tryz.func49, Tryz.ntmps49
  go_wp2_with fail
  refine hi.mono ?_
  rintro e w' ⟨rfl, hw⟩
  obtain rfl := hw.symm
  clear hi hw
  go_wp2_with fail
  refine hadd.out.mono ?_
  rintro e w7 ⟨rfl, F7, hT7, hC7⟩
  have hres := hend.out w7 F7 hT7 hC7
  replace hres := Lib.hid hres
  clear hT7 hC7 hend hadd
  go_wp2
  go_ret2
  exact ⟨rfl, hres.out⟩
set_option maxHeartbeats 1000000 in
set_option maxRecDepth 100000 in
theorem sys_Sink (h : Sys w F c s) (hxs : s.xs = []) (htop : s.top < 100000) (m : Nat) (hm : m ≤ 1048576) :
    Calls Tryz.prog 50 #[ptrV c.tb, .int .i64 (m : Int)] w fun e w' => e = .returned (.tuple #[.int .i64 ((s.top + 1 : Nat) : Int), .int .i64 0]) ∧
      ∃ F', Sys w' F' c { s with hs := s.hs ++ [(((s.top + 1 : Nat) : Int), ⟨1, .sink [] m⟩)], top := s.top + 1, xs := [] } ∧ Chg F F' w w' := by
  obtain ⟨Ft, Fp, Fh, h, hF⟩ := h
  obtain ⟨lab, mb, mem, v, htb, hFh⟩ := h.tab
  have hi := isNil_no htb
  have i1 : ¬ (1048576 : Int) < (m : Int) := by omega
  have i2 : ¬ (m : Int) < 0 := by omega
  have g6 : w.grownBy (w.alloc (.cells #[.slice none 0 0, .int .i64 (m : Int)] 200)) none := World.grownBy_alloc w _ _
  have h6 := h.grown g6
  have b6 : Blk (w.alloc (.cells #[.slice none 0 0, .int .i64 (m : Int)] 200)) w.heap.size [.slice none 0 0, .int .i64 (m : Int)] 200 := Blk.new w _ _
  have c6 : Chg (foot Ft Fp Fh) (fun g => foot Ft Fp Fh g ∨ g = w.heap.size) w (w.alloc (.cells #[.slice none 0 0, .int .i64 (m : Int)] 200)) := Chg.alloc _ w _
  have ht6 : TabF (w.alloc (.cells #[.slice none 0 0, .int .i64 (m : Int)] 200)) Fh c.fb c.plb c.tb s.hs s.pp s.top [] := by rw [← hxs]; exact h6.tab
  have hG : ∀ g, g = w.heap.size → g < (w.alloc (.cells #[.slice none 0 0, .int .i64 (m : Int)] 200)).heap.size ∧ ¬ Fh g := fun g hg => ⟨by rw [hg]; exact b6.lt, fun hf => absurd (h.tab.lt hf) (by omega)⟩
  have hG2 : ∀ g, g = w.heap.size → ¬ Ft g ∧ ¬ Fp g := fun g hg => ⟨fun hf => absurd (h.tree.lt hf) (by omega), fun hf => absurd (h.pool.lt hf) (by omega)⟩
  have hadd := tab_add ht6 (fun g => g = w.heap.size) hG htop (.sink [] m) w.heap.size (fun w' lab' hg kb => ⟨(hg _ rfl).1.trans b6, (hg _ rfl).2, .inl ⟨rfl, rfl, rfl⟩, nofun, Nat.zero_le _, hm⟩)
  have hend := fun w7 F7 (hT7 : TabF w7 F7 c.fb c.plb c.tb (s.hs ++ [(((s.top + 1 : Nat) : Int), ⟨1, .sink [] m⟩)]) s.pp (s.top + 1) []) hC7 => Sys.of hF (h6.tabStep hG2 hT7 hC7).1 (c6.trans (h6.tabStep hG2 hT7 hC7).2)
  unfold ptrV at hi ⊢
  unfold doesV ptrV at hadd
  replace hend := Lib.hid hend
  replace hadd := Lib.hid hadd
  clear h6 b6 c6 ht6 hG hG2 g6 h htb hFh hm
  go_enter Tryz.func50, Tryz.ntmps50
  go_wp2_with fail
  refine hi.mono ?_
  rintro e w' ⟨rfl, hw⟩
  obtain rfl := hw.symm
  clear hi hw
  go_wp2_with fail
  refine hadd.out.mono ?_
  rintro e w7 ⟨rfl, F7, hT7, hC7⟩
  have hres := hend.out w7 F7 hT7 hC7
  replace hres := Lib.hid hres
  clear hT7 hC7 hend hadd
  go_wp2
  go_ret2
  exact ⟨rfl, hres.out⟩
end
end Go.Proofs.YtglcfbefpnphaaaGreatDoor

namespace Go.Proofs.YtglcfbefpnphaaaGreatDoor
open Go Go.RowKit Go.ChangeMaps

def readT (S : ByteArray) (a k : Nat) : ByteArray := (S.extract a S.size).extract 0 (min k (S.size - a))
section
variable {w : World} {ob : Nat}
end
end Go.Proofs.YtglcfbefpnphaaaGreatDoor

namespace Go.Proofs.YtglcfbefpnphaaaGreatDoor
open Go Go.RowKit Go.ChangeMaps

section
variable {w : World} {F : Nat → Prop} {c : Sy} {s : St} {k : Int} {x : Hd}
end
end Go.Proofs.YtglcfbefpnphaaaGreatDoor
/-
  A node that nothing keeps alive goes: sweep and Drop in all ways. Conditions: at most a million holds.
-/
namespace Go.Proofs.YtglcfbefpnphaaaGreatDoor
open Go Go.RowKit Go.ChangeMaps

section
variable {κ α : Type} [DecidableEq κ]
def away (l : List (κ × α)) (k : κ) : List (κ × α) := l.filter fun p => p.1 ≠ k
theorem look_away (l : List (κ × α)) (k j : κ) : look (away l k) j = if j = k then none else look l j := by
  induction l with
  | nil => show none = _; split <;> rfl
  | cons p l ih =>
    by_cases hp : p.1 = k
    · have e : away (p :: l) k = away l k := List.filter_cons_of_neg (by simpa using hp)
      rw [e, ih]
      by_cases hj : j = k
      · rw [if_pos hj, if_pos hj]
      · rw [if_neg hj, if_neg hj]
        show _ = if p.1 = j then some p.2 else look l j
        rw [if_neg (fun e => hj (e.symm.trans hp))]
    · have e : away (p :: l) k = p :: away l k := List.filter_cons_of_pos (by simpa using hp)
      rw [e]
      show (if p.1 = j then some p.2 else look (away l k) j) = if j = k then none else if p.1 = j then some p.2 else look l j
      rw [ih]
      by_cases hj : j = k
      · subst hj
        rw [if_neg hp, if_pos rfl, if_pos rfl]
      · rw [if_neg hj, if_neg hj]
theorem total_away {f : α → Nat} {l : List (κ × α)} {k : κ} {x : α} (hd : l.Pairwise (fun p q => p.1 ≠ q.1)) (h : look l k = some x) : total f (away l k) + f x = total f l := by
  induction l with
  | nil => cases h
  | cons p l ih =>
    have hd' := (List.pairwise_cons.1 hd).2
    have hd1 := (List.pairwise_cons.1 hd).1
    by_cases hp : p.1 = k
    · have hx : p.2 = x := by
        have : (if p.1 = k then some p.2 else look l k) = some x := h
        rw [if_pos hp] at this
        exact Option.some.inj this
      have e : away (p :: l) k = l := by
        show List.filter _ _ = _
        rw [List.filter_cons_of_neg (by simpa using hp)]
        exact List.filter_eq_self.2 fun q hq => by simpa using fun e => hd1 q hq (hp.trans e.symm)
      rw [e, ← hx]
      show total f l + f p.2 = f p.2 + total f l
      omega
    · have hx : look l k = some x := by
        have : (if p.1 = k then some p.2 else look l k) = some x := h
        rwa [if_neg hp] at this
      have e : away (p :: l) k = p :: away l k := List.filter_cons_of_pos (by simpa using hp)
      rw [e]
      show f p.2 + total f (away l k) + f x = f p.2 + total f l
      have := ih hd' hx
      omega
end
section
variable {w : World} {lab : Nat → TL} {F : Nat → Prop} {fb most room mb : Nat} {nds : Nds} {mem : Int → NM}
theorem entN_away (mem : Int → NM) (nds : Nds) (k : Int) : entN mem (away nds k) = (entN mem nds).filter fun p => p.1 ≠ k := by
  unfold entN away
  rw [List.filter_map]
  rfl
theorem TreeR.away {w2 : World} {k : Int} {x : Pn} (h : TreeR w lab fb most room nds mb mem) (hF : ∀ g, F g ↔ lab g ≠ .free) (hx : look nds k = some x) (c : Chg (fun g => g = fb ∨ g = mb) (fun g => g = fb ∨ g = mb) w w2)
    (hfs : Blk w2 fb [.map (some mb), .int .i64 (most : Int), .int .i64 (room : Int), .int .i64 ((usedN nds - x.data.length : Nat) : Int)] 176) (hmap : KMap w2 mb (.int .i64) encI ((entN mem nds).filter fun p => p.1 ≠ k)) :
    ∃ F', TreeF w2 F' fb most room (Proofs.YtglcfbefpnphaaaGreatDoor.away nds k) ∧ Chg F F' w w2 := by
  have hu := total_away (f := fun x : Pn => x.data.length) h.apart hx
  have hlim := h.lim
  unfold usedN at hlim
  refine ⟨F, ⟨lab, mb, mem, ⟨?_, h.lfs, ?_, h.lmap, fun j z hz => ?_, fun g hg => h.new g (Nat.le_trans c.size hg), hlim.1, hlim.2.1, ?_⟩, hF⟩, c.mono (fun b hb => (hF b).2 ?_) (fun b hb hf => .inr hf)⟩
  · have e : usedN (Proofs.YtglcfbefpnphaaaGreatDoor.away nds k) = usedN nds - x.data.length := by unfold usedN; omega
    rw [e]
    exact hfs
  · rw [entN_away]
    exact hmap
  · rw [look_away] at hz
    split at hz
    · cases hz
    · refine (h.nd j z hz).keep fun g hg ho => ⟨c.block g hg fun hs => ?_, rfl⟩
      rcases hs with rfl | rfl
      · rw [h.lfs] at ho; exact ho
      · rw [h.lmap] at ho; exact ho
  · show usedN (Proofs.YtglcfbefpnphaaaGreatDoor.away nds k) ≤ room
    unfold usedN
    omega
  · rcases hb with rfl | rfl
    · rw [h.lfs]; exact nofun
    · rw [h.lmap]; exact nofun
set_option maxHeartbeats 1000000 in
set_option maxRecDepth 100000 in
theorem sweep_gone (h : TreeF w F fb most room nds) {k : Int} {x : Pn} (hx : look nds k = some x) (h1 : k ≠ 1) (h2 : x.named = 0) (h3 : x.holds = 0) :
    Calls Tryz.prog 125 #[.pointer (some ⟨fb, 0, none⟩), .int .i64 k] w fun e w' => e = .returned (.tuple #[]) ∧ ∃ F', TreeF w' F' fb most room (away nds k) ∧ Chg F F' w w' := by
  obtain ⟨lab, mb, mem, h, hF⟩ := h
  have hfi := h.find_some hx
  have hN := h.nd k x hx
  have f0 := h.fs.cell (i := 0) rfl
  have f3 := h.fs.cell (i := 3) rfl
  have fr3 := h.fs.frozen 3
  have c1 := hN.blk.cell (show (bodyC x (mem k))[1]? = some _ from rfl)
  have c2 := hN.blk.cell (show (bodyC x (mem k))[2]? = some _ from rfl)
  have c3 := hN.blk.cell (show (bodyC x (mem k))[3]? = some _ from rfl)
  rw [h2] at c1
  rw [h3] at c2
  obtain ⟨A, cc, hdv, hcc, hcm⟩ := hN.data.form
  rw [hdv] at c3
  have hlt := hN.blk.lt
  have hfl := h.fs.lt
  have hge := total_ge (f := fun x : Pn => x.data.length) hx
  have hlim := h.lim
  have hmf : mb ≠ fb := fun e => by have := h.lmap; rw [e, h.lfs] at this; cases this
  have hkf : (mem k).blk ≠ fb := fun e => by have := hN.lb; rw [e, h.lfs] at this; cases this
  have hd4 := hN.few
  have haw := fun w2 => h.away (w2 := w2) hF hx
  have hb1 := h.fs.set 3 (.int .i64 ((usedN nds - x.data.length : Nat) : Int))
  have hkm := h.map
  have e1 : ((usedN nds - x.data.length : Nat) : Int) = (usedN nds : Int) - (x.data.length : Int) := by unfold usedN at *; omega
  rw [e1] at hb1 haw
  have hkm1 : KMap (w.setCell ⟨fb, 3, none⟩ (.int .i64 ((usedN nds : Int) - (x.data.length : Int)))).drew mb (.int .i64) encI (entN mem nds) := hkm.keep (heap_setCell_other w _ mb _ hmf)
  have cc1 : Chg (fun g => g = fb ∨ g = mb) (fun g => g = fb ∨ g = mb) w (w.setCell ⟨fb, 3, none⟩ (.int .i64 ((usedN nds : Int) - (x.data.length : Int)))).drew := (Chg.set (F := fun g => g = fb ∨ g = mb) (.inl rfl) 3 _).trans (Chg.drewN _ _ 1)
  have hub : usedN nds ≤ 1048576 := by omega
  replace hb1 : Blk (w.setCell ⟨fb, 3, none⟩ (.int .i64 ((usedN nds : Int) - (x.data.length : Int)))).drew fb [.map (some mb), .int .i64 (most : Int), .int .i64 (room : Int), .int .i64 ((usedN nds : Int) - (x.data.length : Int))] 176 := hb1
  have f0' := hb1.cell (i := 0) rfl
  have hfl' := hb1.lt
  generalize (mem k).blk = kb at hfi c1 c2 c3 hlt hkf
  generalize usedN nds = U at *
  generalize x.data.length = D at *
  have i1 : (k == 1) = false := by simpa using h1
  replace haw := Lib.hid haw
  replace hb1 := Lib.hid hb1
  replace cc1 := Lib.hid cc1
  clear h hN hx hF hdv e1 hge hlim h1 h2 h3 hkm
  go_enter Tryz.func125, Tryz.ntmps125
  go_wp2
  go_region
  clear f0 f3 fr3 c1 c2 c3 hfi
  generalize (w.setCell ⟨fb, 3, none⟩ _).drew = w1 at *
  go_wp2_with (at_delete; go_loud (refine wpList_del_k rfl _ _ 174 3 rfl 150 keyI Tryz.underlying174 Tryz.underlying3 rfl hkm1 k rfl ?_); intro ob2 hkm2; refine Hid.out ?_)
  refine Lib.hid ?_
  have hfin := haw.out _ (cc1.out.trans (Chg.setB (.inr rfl) ob2)) (hb1.out.setB (Ne.symm hmf) ob2) hkm2
  replace hfin := Lib.hid hfin
  clear hkm1 hkm2
  generalize setBlock w1 mb ob2 = w3 at hfin ⊢
  go_wp2
  go_end0
  exact ⟨rfl, hfin.out⟩
def droppedN (nds : Nds) (k : Int) (x : Pn) : Nds := if k = 1 ∨ 0 < x.named ∨ 1 < x.holds then upd nds k { x with holds := x.holds - 1 } else away nds k
theorem away_upd (nds : Nds) (k : Int) (y : Pn) : away (upd nds k y) k = away nds k := by
  induction nds with
  | nil => rfl
  | cons p l ih =>
    unfold upd away at *
    rw [List.map_cons]
    by_cases hp : p.1 = k
    · rw [if_pos hp, List.filter_cons_of_neg (by simp), List.filter_cons_of_neg (by simpa using hp)]
      exact ih
    · rw [if_neg hp, List.filter_cons_of_pos (by simpa using hp), List.filter_cons_of_pos (by simpa using hp), ih]
set_option maxHeartbeats 1000000 in
set_option maxRecDepth 100000 in
theorem drop_any (h : TreeF w F fb most room nds) {k : Int} {x : Pn} (hx : look nds k = some x) (hh : 0 < x.holds) (hm : x.holds ≤ 1000000) :
    Calls Tryz.prog 151 #[.pointer (some ⟨fb, 0, none⟩), .int .i64 k] w fun e w' => e = .returned (.int .i64 0) ∧ ∃ F', TreeF w' F' fb most room (droppedN nds k x) ∧ Chg F F' w w' := by
  by_cases hl : k = 1 ∨ 0 < x.named ∨ 1 < x.holds
  · unfold droppedN
    rw [if_pos hl]
    exact drop_some h hx hh hm hl
  · unfold droppedN
    rw [if_neg hl]
    obtain ⟨lab, mb, mem, h, hF⟩ := h
    have hb := body_some h hx
    have hN := h.nd k x hx
    have c2 := hN.blk.cell (show (bodyC x (mem k))[2]? = some _ from rfl)
    have hf := hN.blk.frozen 2
    have hlt := hN.blk.lt
    have hH : x.holds = 1 := by omega
    have hs := h.set1 hF hx 2 (.int .i64 ((0 : Nat) : Int)) (y := { x with holds := 0 }) rfl rfl rfl
    obtain ⟨F1, hT, hC⟩ := hs
    have hsw := sweep_gone hT (look_upd_same hx _) (fun e => hl (.inl e)) (show x.named = 0 by omega) rfl
    rw [away_upd] at hsw
    rw [hH] at c2
    generalize (mem k).blk = kb at hb c2 hf hlt hT hC hsw
    replace hC := Lib.hid hC
    replace hsw := Lib.hid hsw
    clear h hN hx hF hl hh hH hm hT
    go_enter Tryz.func151, Tryz.ntmps151
    go_wp2_with fail
    refine hb.mono ?_
    rintro e w' ⟨rfl, hw⟩
    obtain rfl := hw.symm
    clear hb hw
    go_wp2_with fail
    refine hsw.out.mono ?_
    rintro e w' ⟨rfl, F', h1, h2⟩
    have h3 := hC.out.trans h2
    replace h1 := Lib.hid h1
    replace h3 := Lib.hid h3
    clear hsw h2 hC
    go_wp2
    go_ret
    exact ⟨rfl, F', h1.out, h3.out⟩
end
end Go.Proofs.YtglcfbefpnphaaaGreatDoor
/-
  Every call of no table: it says so. Conditions: none.
-/
namespace Go.Proofs.YtglcfbefpnphaaaGreatDoor
open Go Go.RowKit

section
def info7 (k r a n : Int) (x y z : Bool) : Value := .agg #[.int .i64 k, .int .i64 r, .int .i64 a, .int .i64 n, .bool x, .bool y, .bool z]
end
end Go.Proofs.YtglcfbefpnphaaaGreatDoor
/-
  What Stat says of a handle. Conditions: none.
  What Stat says of a text, a sink and the ends of a pipe. Conditions: none.
-/
namespace Go.Proofs.YtglcfbefpnphaaaGreatDoor
open Go Go.RowKit

section
variable {w : World} {fb ob a : Nat} {n : Int} {r wr m : Bool}
set_option maxRecDepth 100000 in
theorem file_stat (hb : Blk w ob (fileC fb n a r wr m) 162) :
    Calls Tryz.prog 265 #[ptrV ob] w fun e w' => e = .returned (info7 1 0 a n r wr m) ∧ w.grownBy w' none := by
  unfold ptrV
  go_enter Tryz.func265, Tryz.ntmps265
  go_upto_region 1 with fail
  have ab : Blk (w.alloc (.cells #[.int .i64 0, .int .i64 0, .int .i64 0, .int .i64 0, .bool false, .bool false, .bool false] 64)) w.heap.size [.int .i64 0, .int .i64 0, .int .i64 0, .int .i64 0, .bool false, .bool false, .bool false] 64 := Blk.new w _ _
  have ag : w.grownBy (w.alloc (.cells #[.int .i64 0, .int .i64 0, .int .i64 0, .int .i64 0, .bool false, .bool false, .bool false] 64)) none := World.grownBy_alloc w _ _
  obtain ⟨az, ahz⟩ : ∃ z, w.heap.size = z := ⟨_, rfl⟩
  have hb1 : Blk (w.alloc (.cells #[.int .i64 0, .int .i64 0, .int .i64 0, .int .i64 0, .bool false, .bool false, .bool false] 64)) ob _ _ := (ag.block ob hb.lt (by simp)).trans hb
  generalize (w.alloc (.cells #[.int .i64 0, .int .i64 0, .int .i64 0, .int .i64 0, .bool false, .bool false, .bool false] 64)) = w1 at ab ag hb1 ⊢
  simp only [ahz] at ab ⊢
  have c0 := hb1.cell (i := 0) rfl
  have c1 := hb1.cell (i := 1) rfl
  have c2 := hb1.cell (i := 2) rfl
  have c3 := hb1.cell (i := 3) rfl
  have c4 := hb1.cell (i := 4) rfl
  have c5 := hb1.cell (i := 5) rfl
  have hlt := hb1.lt
  replace ahz := Lib.hid ahz
  replace ag := Lib.hid ag
  have zc0 := ab.cell (i := 0) rfl
  have zc1 := ab.cell (i := 1) rfl
  have zc2 := ab.cell (i := 2) rfl
  have zc3 := ab.cell (i := 3) rfl
  have zc4 := ab.cell (i := 4) rfl
  have zc5 := ab.cell (i := 5) rfl
  have zc6 := ab.cell (i := 6) rfl
  have zf0 := ab.frozen 0
  have zf1 := ab.frozen 1
  have zf2 := ab.frozen 2
  have zf3 := ab.frozen 3
  have zf4 := ab.frozen 4
  have zf5 := ab.frozen 5
  have zf6 := ab.frozen 6
  have zlt := ab.lt
  clear hb hb1
  replace ab := Lib.hid ab
  go_still_tail 13, (by kernel_rfl)
  change wpList _ _ _ _ _ (w1.drewN 1)
  have ab2 : Blk (w1.drewN 1) az _ _ := ab.out
  have ag2 := grownBy_drewN ag.out 1
  have yc0 := ab2.cell (i := 0) rfl
  have yc1 := ab2.cell (i := 1) rfl
  have yc2 := ab2.cell (i := 2) rfl
  have yc3 := ab2.cell (i := 3) rfl
  have yc4 := ab2.cell (i := 4) rfl
  have yc5 := ab2.cell (i := 5) rfl
  have yc6 := ab2.cell (i := 6) rfl
  have yf0 := ab2.frozen 0
  have yf1 := ab2.frozen 1
  have yf2 := ab2.frozen 2
  have yf3 := ab2.frozen 3
  have yf4 := ab2.frozen 4
  have yf5 := ab2.frozen 5
  have yf6 := ab2.frozen 6
  replace ab2 := Lib.hid ab2
  replace ag2 := Lib.hid ag2
  clear ab ag c0 c1 c2 c3 c4 c5 zc0 zf0 zc1 zf1 zc2 zf2 zc3 zf3 zc4 zf4 zc5 zf5 zc6 zf6
  generalize w1.drewN 1 = w2 at *
  go_wp2
  have b3 := (((((((ab2.out.set 0 (.int .i64 1)).set 1 (.int .i64 0)).set 2 (.int .i64 (a : Int))).set 3 (.int .i64 n)).set 4 (.bool r)).set 5 (.bool wr)).set 6 (.bool m))
  have g3 := (grown_setNew (grown_setNew (grown_setNew (grown_setNew (grown_setNew (grown_setNew (grown_setNew ag2.out (Nat.le_of_eq ahz.out) 0 (.int .i64 1)) (Nat.le_of_eq ahz.out) 1 (.int .i64 0)) (Nat.le_of_eq ahz.out) 2 (.int .i64 (a : Int))) (Nat.le_of_eq ahz.out) 3 (.int .i64 n)) (Nat.le_of_eq ahz.out) 4 (.bool r)) (Nat.le_of_eq ahz.out) 5 (.bool wr)) (Nat.le_of_eq ahz.out) 6 (.bool m))
  generalize (((((((w2.setCell ⟨az, 0, none⟩ (.int .i64 1)).setCell ⟨az, 1, none⟩ (.int .i64 0)).setCell ⟨az, 2, none⟩ (.int .i64 (a : Int))).setCell ⟨az, 3, none⟩ (.int .i64 n)).setCell ⟨az, 4, none⟩ (.bool r)).setCell ⟨az, 5, none⟩ (.bool wr)).setCell ⟨az, 6, none⟩ (.bool m)) = w3 at b3 g3 ⊢
  have e0 := b3.cell (i := 0) rfl
  have e1 := b3.cell (i := 1) rfl
  have e2 := b3.cell (i := 2) rfl
  have e3 := b3.cell (i := 3) rfl
  have e4 := b3.cell (i := 4) rfl
  have e5 := b3.cell (i := 5) rfl
  have e6 := b3.cell (i := 6) rfl
  exact bodyPost_ret (v := info7 1 0 a n r wr m) (by simp [results, Tryz.results265, go_sem, e0, e1, e2, e3, e4, e5, e6, info7]) rfl ⟨rfl, g3⟩
end
section
variable {w : World} {F : Nat → Prop} {c : Sy} {s : St} {k : Int} {x : Hd}
set_option maxHeartbeats 1000000 in
set_option maxRecDepth 100000 in
theorem sys_stat_file (h : Sys w F c s) (hx : look s.hs k = some x) {n : Int} {a : Nat} {r wr m : Bool} (hk : x.kd = .file n a r wr m) :
    Calls Tryz.prog 26 #[ptrV c.tb, .int .i64 k] w fun e w' => e = .returned (.tuple #[info7 1 (x.refs : Int) a n r wr m, .int .i64 0]) ∧ w.grownBy w' none := by
  obtain ⟨Ft, Fp, Fh, h, hF⟩ := h
  obtain ⟨lab, mb, mem, v, ht, hFh⟩ := h.tab
  have hkeep := fun (W : World) (hW : w.grownBy W none) => ht.keep (w' := W) hW.size fun g hg => hW.block g (h.tab.lt ((hFh g).2 hg)) (by simp)
  unfold ptrV
  go_enter Tryz.func26, Tryz.ntmps26
  go_upto_region 1 with fail
  have ab : Blk (w.alloc (.cells #[.int .i64 0, .int .i64 0, .int .i64 0, .int .i64 0, .bool false, .bool false, .bool false] 64)) w.heap.size [.int .i64 0, .int .i64 0, .int .i64 0, .int .i64 0, .bool false, .bool false, .bool false] 64 := Blk.new w _ _
  have ag : w.grownBy (w.alloc (.cells #[.int .i64 0, .int .i64 0, .int .i64 0, .int .i64 0, .bool false, .bool false, .bool false] 64)) none := World.grownBy_alloc w _ _
  obtain ⟨az, ahz⟩ : ∃ z, w.heap.size = z := ⟨_, rfl⟩
  generalize (w.alloc (.cells #[.int .i64 0, .int .i64 0, .int .i64 0, .int .i64 0, .bool false, .bool false, .bool false] 64)) = w1 at ab ag ⊢
  simp only [ahz] at ab ⊢
  have ht1 := hkeep w1 ag
  have hd := ht1.hd k x hx
  have hf := tfind_some ht1 hx
  have c0 := hd.blk.cell (i := 0) rfl
  have c1 := hd.blk.cell (i := 1) rfl
  have hlt := hd.blk.lt
  have ho := hd.ob
  have hbk := hd.blk
  rw [hk] at ho
  rw [show doesV s.pp x.kd (mem k).ob = .iface 158 (ptrV (mem k).ob) by rw [hk]; rfl] at c0
  have hst := file_stat ho.1
  unfold ptrV at c0
  generalize (mem k).blk = kb at hf c0 c1 hlt hbk
  unfold ptrV at hf hst
  replace hst := Lib.hid hst
  replace hbk := Lib.hid hbk
  have azl := ab.lt
  clear ht1 hd ho hkeep ht
  replace ahz := Lib.hid ahz
  replace ag := Lib.hid ag
  replace ab := Lib.hid ab
  go_wp2_with fail
  refine hf.mono ?_
  rintro e w' ⟨rfl, hw⟩
  obtain rfl := hw.symm
  clear hf hw
  go_wp2_with fail
  refine hst.out.mono ?_
  rintro e w2 ⟨rfl, g2⟩
  have ab2 : Blk w2 az _ _ := (g2.block az azl (by simp)).trans ab.out
  have bk2 : Blk w2 kb _ _ := (g2.block kb hlt (by simp)).trans hbk.out
  have ag2 := grownBy_tr ag.out g2
  clear hst g2 ab hbk c0 c1
  unfold info7
  go_upto_region 5 with fail
  have ab3 : Blk (w2.alloc (.cells #[.int .i64 1, .int .i64 0, .int .i64 (a : Int), .int .i64 n, .bool r, .bool wr, .bool m] 64)) az _ _ := (Below.heap_alloc w2 _ az ab2.lt).trans ab2
  have bk3 : Blk (w2.alloc (.cells #[.int .i64 1, .int .i64 0, .int .i64 (a : Int), .int .i64 n, .bool r, .bool wr, .bool m] 64)) kb _ _ := (Below.heap_alloc w2 _ kb bk2.lt).trans bk2
  have ib3 : Blk (w2.alloc (.cells #[.int .i64 1, .int .i64 0, .int .i64 (a : Int), .int .i64 n, .bool r, .bool wr, .bool m] 64)) w2.heap.size [.int .i64 1, .int .i64 0, .int .i64 (a : Int), .int .i64 n, .bool r, .bool wr, .bool m] 64 := Blk.new w2 _ _
  have ag3 := grownBy_tr (w'' := (w2.alloc (.cells #[.int .i64 1, .int .i64 0, .int .i64 (a : Int), .int .i64 n, .bool r, .bool wr, .bool m] 64))) ag2 (World.grownBy_alloc w2 _ _)
  have hiz : w.heap.size ≤ w2.heap.size := ag2.size
  have hizz : az < w2.heap.size := ab2.lt
  generalize w2.alloc (.cells #[.int .i64 1, .int .i64 0, .int .i64 (a : Int), .int .i64 n, .bool r, .bool wr, .bool m] 64) = w3 at ab3 bk3 ib3 ag3 ⊢
  generalize w2.heap.size = iz at ib3 hiz hizz ⊢
  have c1 := bk3.cell (i := 1) rfl
  have hlt3 := bk3.lt
  have i0 := ib3.cell (i := 0) rfl
  have j0 := ib3.frozen 0
  have i1 := ib3.cell (i := 1) rfl
  have j1 := ib3.frozen 1
  have i2 := ib3.cell (i := 2) rfl
  have j2 := ib3.frozen 2
  have i3 := ib3.cell (i := 3) rfl
  have j3 := ib3.frozen 3
  have i4 := ib3.cell (i := 4) rfl
  have j4 := ib3.frozen 4
  have i5 := ib3.cell (i := 5) rfl
  have j5 := ib3.frozen 5
  have i6 := ib3.cell (i := 6) rfl
  have j6 := ib3.frozen 6
  have izl := ib3.lt
  have hne : az ≠ iz := by omega
  replace ab3 := Lib.hid ab3
  replace ib3 := Lib.hid ib3
  replace ag3 := Lib.hid ag3
  clear ab2 bk2 ag2
  go_upto_region 6 with fail
  have ib4 := ib3.out.set 1 (.int .i64 (x.refs : Int))
  have ab4 : Blk (w3.setCell ⟨iz, 1, none⟩ (.int .i64 (x.refs : Int))) az _ _ := Blk.other (a := ⟨iz, 1, none⟩) ab3.out hne (.int .i64 (x.refs : Int))
  have ag4 := grown_setNew ag3.out hiz 1 (.int .i64 (x.refs : Int))
  clear ib3 ab3 ag3 c1 i0 j0 i1 j1 i2 j2 i3 j3 i4 j4 i5 j5 i6 j6
  generalize w3.setCell ⟨iz, 1, none⟩ (.int .i64 (x.refs : Int)) = w5 at ib4 ab4 ag4 ⊢
  have i0 := ib4.cell (i := 0) rfl
  have c0 := ab4.cell (i := 0) rfl
  have f0 := ab4.frozen 0
  have i1 := ib4.cell (i := 1) rfl
  have c1 := ab4.cell (i := 1) rfl
  have f1 := ab4.frozen 1
  have i2 := ib4.cell (i := 2) rfl
  have c2 := ab4.cell (i := 2) rfl
  have f2 := ab4.frozen 2
  have i3 := ib4.cell (i := 3) rfl
  have c3 := ab4.cell (i := 3) rfl
  have f3 := ab4.frozen 3
  have i4 := ib4.cell (i := 4) rfl
  have c4 := ab4.cell (i := 4) rfl
  have f4 := ab4.frozen 4
  have i5 := ib4.cell (i := 5) rfl
  have c5 := ab4.cell (i := 5) rfl
  have f5 := ab4.frozen 5
  have i6 := ib4.cell (i := 6) rfl
  have c6 := ab4.cell (i := 6) rfl
  have f6 := ab4.frozen 6
  have azl3 := ab4.lt
  replace ab4 := Lib.hid ab4
  replace ib4 := Lib.hid ib4
  replace ag4 := Lib.hid ag4
  go_wp2
  have b3 := (((((((ab4.out.set 0 (.int .i64 1)).set 1 (.int .i64 (x.refs : Int))).set 2 (.int .i64 (a : Int))).set 3 (.int .i64 n)).set 4 (.bool r)).set 5 (.bool wr)).set 6 (.bool m))
  have g3 := (grown_setNew (grown_setNew (grown_setNew (grown_setNew (grown_setNew (grown_setNew (grown_setNew ag4.out (Nat.le_of_eq ahz.out) 0 (.int .i64 1)) (Nat.le_of_eq ahz.out) 1 (.int .i64 (x.refs : Int))) (Nat.le_of_eq ahz.out) 2 (.int .i64 (a : Int))) (Nat.le_of_eq ahz.out) 3 (.int .i64 n)) (Nat.le_of_eq ahz.out) 4 (.bool r)) (Nat.le_of_eq ahz.out) 5 (.bool wr)) (Nat.le_of_eq ahz.out) 6 (.bool m))
  generalize (((((((w5.setCell ⟨az, 0, none⟩ (.int .i64 1)).setCell ⟨az, 1, none⟩ (.int .i64 (x.refs : Int))).setCell ⟨az, 2, none⟩ (.int .i64 (a : Int))).setCell ⟨az, 3, none⟩ (.int .i64 n)).setCell ⟨az, 4, none⟩ (.bool r)).setCell ⟨az, 5, none⟩ (.bool wr)).setCell ⟨az, 6, none⟩ (.bool m)) = w4 at b3 g3 ⊢
  have e0 := b3.cell (i := 0) rfl
  have e1 := b3.cell (i := 1) rfl
  have e2 := b3.cell (i := 2) rfl
  have e3 := b3.cell (i := 3) rfl
  have e4 := b3.cell (i := 4) rfl
  have e5 := b3.cell (i := 5) rfl
  have e6 := b3.cell (i := 6) rfl
  exact bodyPost_ret (v := .tuple #[info7 1 (x.refs : Int) a n r wr m, .int .i64 0]) (by simp [results, Tryz.results26, go_sem, e0, e1, e2, e3, e4, e5, e6, info7]) rfl ⟨rfl, g3⟩
end
end Go.Proofs.YtglcfbefpnphaaaGreatDoor

namespace Go.Proofs.YtglcfbefpnphaaaGreatDoor
open Go Go.RowKit

section
variable {w : World} {ob a : Nat}
end
section
variable {w : World} {ob a : Nat}
end
section
variable {w : World} {pb bb ends : Nat}
end
section
variable {w : World} {pb bb ends : Nat}
end
section
variable {w : World} {F : Nat → Prop} {c : Sy} {s : St} {k : Int} {x : Hd}
end
section
variable {w : World} {F : Nat → Prop} {c : Sy} {s : St} {k : Int} {x : Hd}
end
section
variable {w : World} {F : Nat → Prop} {c : Sy} {s : St} {k : Int} {x : Hd}
end
section
variable {w : World} {F : Nat → Prop} {c : Sy} {s : St} {k : Int} {x : Hd}
end
end Go.Proofs.YtglcfbefpnphaaaGreatDoor
/-
  The world that every statement of this stage begins in. Conditions: none.
  The chapter's example comes out as it should: awake answers true. Conditions: none.
-/
namespace Go.Proofs.YtglcfbefpnphaaaGreatDoor
open Go Go.RowKit Go.ChangeMaps

def rootN (l : List (ByteArray × Nat)) : Pn := { root0 with nms := some l }
def nl1 : List (ByteArray × Nat) := [(nm1 97, 2)]
def nl2 : List (ByteArray × Nat) := [(nm1 97, 2), (nm1 98, 3)]
def nl3 : List (ByteArray × Nat) := [(nm1 97, 2), (nm1 98, 3), (nm1 108, 4)]
def nl4 : List (ByteArray × Nat) := [(nm1 97, 2), (nm1 98, 3), (nm1 108, 4), (nm1 100, 5)]
def leafN (kd : Nat) (d : List UInt8) : Pn := ⟨kd, 1, 0, 0, d, none, ⟨#[]⟩⟩
def nds1 : Nds := [(1, rootN nl1), (2, leafN 2 [120, 121, 122])]
def nds2 : Nds := [(1, rootN nl2), (2, leafN 2 [120, 121, 122]), (3, leafN 2 [])]
def nds3 : Nds := [(1, rootN nl3), (2, leafN 2 [120, 121, 122]), (3, leafN 2 []), (4, leafN 3 [97])]
def nds4 : Nds := [(1, rootN nl4), (2, leafN 2 [120, 121, 122]), (3, leafN 2 []), (4, leafN 3 [97]), (5, ⟨1, 1, 0, 1, [], some [], nm1 100⟩)]
def begunC (fb plb tb : Nat) : Sy := ⟨fb, plb, tb, 8, 60, 40, 3, 4⟩
def begunS : St := ⟨nds4, [], 0, [], [], 0, []⟩

theorem Chg.fresh {N : Nat → Prop} {w w' : World} (h : Chg (fun _ => False) N w w') (F : Nat → Prop) : Chg F (fun g => F g ∨ N g) w w' :=
  ⟨h.os, h.tape, h.output, h.size, fun b hb _ => h.block b hb nofun, fun b hb hf hx => hx.elim hf (h.foot b hb nofun)⟩
end Go.Proofs.YtglcfbefpnphaaaGreatDoor

namespace Go.Proofs.YtglcfbefpnphaaaGreatDoor
open Go Go.RowKit Go.ChangeMaps

def ndsA (h : Nat) : Nds := [(1, rootN nl4), (2, ⟨2, 1, h, 0, [120, 121, 122], none, ⟨#[]⟩⟩), (3, leafN 2 []), (4, leafN 3 [97]), (5, ⟨1, 1, 0, 1, [], some [], nm1 100⟩)]
def xyz (h : Nat) : Pn := ⟨2, 1, h, 0, [120, 121, 122], none, ⟨#[]⟩⟩
abbrev hF1 (r a : Nat) : Int × Hd := (1, ⟨r, .file 2 a true false false⟩)
abbrev hR2 : Int × Hd := (2, ⟨1, .rd 0⟩)
abbrev hW3 : Int × Hd := (3, ⟨1, .wr 0⟩)
abbrev buf0 : Bs := ⟨[], 0, 3, .slice none 0 0, .slice none 0 0, []⟩

/-- A block of the caller's, apart from all. -/
def Kp (w : World) (F : Nat → Prop) (z : Nat) (C : List Value) (t : TypeId) : Prop := Blk w z C t ∧ ¬ F z
theorem Kp.chg {w w' : World} {F F' : Nat → Prop} {z : Nat} {C : List Value} {t : TypeId} (h : Kp w F z C t) (c : Chg F F' w w') : Kp w' F' z C t := ⟨h.1.chg c h.2, c.foot z h.1.lt h.2⟩
end Go.Proofs.YtglcfbefpnphaaaGreatDoor
