/-
  A part. Conditions: each theorem's own.
-/
import Derived.Deep.Cut
import Derived.Deep.DeepCutAuto
import Derived.Deep.RegionHeld3
import Derived.BigQuiet
import Derived.OrdersHeld
import Derived.RegionTactic
import Derived.Test.YtfofpphnglhopaaGreatDoorZb0
set_option maxHeartbeats 8000000
set_option maxRecDepth 100000
namespace Go.Proofs.YtfofpphnglhopaaGreatDoor
open Go Go.RowKit
def bc (l : List UInt8) : List Value := l.map fun b => .int .u8 b.toNat
def tl (s : ByteArray) : List UInt8 := s.data.toList
theorem bc_str (s : ByteArray) : byteCells s = bc (tl s) := rfl
theorem bc_len (l : List UInt8) : (bc l).length = l.length := List.length_map _
theorem bc_app (a b : List UInt8) : bc (a ++ b) = bc a ++ bc b := List.map_append
theorem bc_take (a : List UInt8) (n : Nat) : bc (a.take n) = (bc a).take n := List.map_take
theorem bc_drop (a : List UInt8) (n : Nat) : bc (a.drop n) = (bc a).drop n := List.map_drop
theorem bc_one (l : List UInt8) : ∀ u ∈ bc l, u.oneCell' = true := by
  intro u hu
  obtain ⟨_, _, rfl⟩ := List.mem_map.1 hu
  rfl
theorem tl_len (s : ByteArray) : (tl s).length = s.size := Array.length_toList
theorem row_over {w : World} {B g off n k c : Nat} {cur bs : List Value} {v : Value} (s : List Value) (hv : v = .slice (some ⟨g, off, none⟩) (n + k) c) (h0 : B ≤ g) (hb : Blk w g cur 5) (h2 : n + k ≤ c) (hcm : c ≤ maxLen) (h3 : off + c ≤ cur.length) (h4 : (cur.drop off).take n = bs) (hs : s.length = k) :
    Row (w.setRow g (cur.take (off + n) ++ s ++ cur.drop (off + n + k)).toArray) B 5 v (n + k) (bs ++ s) := by
  refine .inr ⟨g, off, c, _, hv, h0, hb.row _, h2, hcm, ?_, ?_⟩
  · simp only [List.length_append, List.length_take, List.length_drop]; omega
  · have e1 : (cur.take (off + n) ++ s ++ cur.drop (off + n + k)).drop off = (cur.drop off).take n ++ s ++ cur.drop (off + n + k) := by
      rw [List.append_assoc, List.drop_append_of_le_length (by rw [List.length_take]; omega), List.drop_take, Nat.add_sub_cancel_left, List.append_assoc]
    rw [e1, h4]
    have hbl : bs.length = n := by rw [← h4, List.length_take, List.length_drop]; omega
    exact List.take_left' (by rw [List.length_append]; omega)
theorem extend_all (B ab ai : Nat) (cur : List Value) (T : TypeId) (v : Value) (bs : List UInt8) (data : ByteArray) (most KL : Nat) (w : World) (hb : Blk w ab cur T) (hv : cur[ai]? = some v) (hT : Four T) (hBb : B ≤ ab)
    (hr : Row w B 5 v KL (bc bs)) (hKL : bs.length = KL) (hne : ∀ g, v.ownBlock = some g → g ≠ ab) (hmost : most ≤ 65536) (hB : B ≤ w.heap.size) (hds : data.size ≤ 100000000) (hn0 : 0 < data.size) (hle : KL + data.size ≤ most) :
    Calls Tryz.prog 284 #[.pointer (some ⟨ab, ai, none⟩), .string data, .int .i64 (most : Int)] w fun e w' => ∃ v', e = .returned (.int .i64 (data.size : Int)) ∧
      Blk w' ab (cur.set ai v') T ∧ Row w' B 5 v' (KL + data.size) (bc (bs ++ (tl data).take data.size)) ∧ Mv B (fun b => b = ab ∨ v.ownBlock = some b) w w' ∧ (v'.ownBlock = v.ownBlock ∨ v'.ownBlock = some w.heap.size) ∧ ∀ g, v'.ownBlock = some g → g ≠ ab := by
  obtain ⟨A, c0, rfl, hc0, hcm0⟩ := hr.form
  have hcell := hb.cell hv
  have hfz := hb.frozen ai
  have hai : ai < cur.length := by
    obtain ⟨h, _⟩ := List.getElem?_eq_some_iff.1 hv
    exact h
  have habl := hb.lt
  have hgr := grow_any B (.slice A KL c0) KL (bc bs) data.size w hr (by omega) (by omega) hB
  replace hKL := Lib.hid hKL
  replace hr := Lib.hid hr
  replace hb := Lib.hid hb
  unfold maxLen at hcm0
  go_enter Tryz.func284, Tryz.ntmps284
  go_wp2_with fail
  refine hgr.mono ?_
  rintro e w2 ⟨g, off, c, rfl, hc, hcm, hr2, hg2, how⟩
  have hb2 : Blk w2 ab cur T := (hg2.block ab habl (by simp)).trans hb.out
  have hga : g ≠ ab := by
    rcases how with how | how
    · exact hne g how
    · omega
  have hc2 := hb2.cell hv
  have hf2 := hb2.frozen ai
  obtain ⟨ys, hys⟩ := hr2.room (KL + data.size) (by omega) hc
  have hsz2 := hg2.size
  replace hys := Lib.hid hys
  replace hr2 := Lib.hid hr2
  replace hg2 := Lib.hid hg2
  replace hb2 := Lib.hid hb2
  replace how := Lib.hid how
  unfold maxLen at hcm
  clear hcell hfz hgr
  go_upto_region 4 with fail
  have hb3 := hb2.out.set ai (.slice (some ⟨g, off, none⟩) (KL + data.size) c)
  have hm3 : Mv B (fun b => b = ab ∨ (Value.slice A KL c0).ownBlock = some b) w (w2.setCell ⟨ab, ai, none⟩ (.slice (some ⟨g, off, none⟩) (KL + data.size) c)) := (Mv.of_none hg2.out).trans (Mv.set hb2.out (.inl rfl) hT hBb _ _)
  have hs3 : (w2.setCell ⟨ab, ai, none⟩ (.slice (some ⟨g, off, none⟩) (KL + data.size) c)).heap.size = w2.heap.size := by simp [World.setCell]
  have hys3 : Row (w2.setCell ⟨ab, ai, none⟩ (.slice (some ⟨g, off, none⟩) (KL + data.size) c)) B 5 (.slice (some ⟨g, off, none⟩) (KL + data.size) c) (KL + data.size) (bc bs ++ ys) := hys.out.keep fun g' hg' => by cases hg'; exact heap_setCell_other w2 _ g _ hga
  generalize w2.setCell ⟨ab, ai, none⟩ (.slice (some ⟨g, off, none⟩) (KL + data.size) c) = w3 at hb3 hm3 hs3 hys3 ⊢
  have hc3 := hb3.cell (show (cur.set ai _)[ai]? = some _ by rw [List.getElem?_set_self hai])
  obtain ⟨h0, _, ⟨cur3, hbg⟩⟩ := hys3.lt (g := g) rfl
  have hcur : off + c ≤ cur3.length ∧ (cur3.drop off).take KL = bc bs := by
    rcases hys3 with ⟨h, _⟩ | ⟨g', off', cap', cur', hv', _, h1, _, _, h4, h5⟩
    · cases h
    · cases hv'
      obtain rfl := Blk.inj h1 hbg
      refine ⟨h4, ?_⟩
      have := congrArg (List.take KL) h5
      rw [List.take_take, Nat.min_eq_left (by omega), List.take_left' (by rw [bc_len]; exact hKL.out)] at this
      exact this
  have hrun := fun ty => run_copy_str (P := Tryz.prog) w3 153 9 ty 5 Tryz.underlying153 (by kernel_rfl) g (off + KL) data.size (c - KL) cur3 5 hbg data (by omega) (by omega)
  have hrw : Row (w3.setRow g (cur3.take (off + KL) ++ (byteCells data).take data.size ++ cur3.drop (off + KL + data.size)).toArray) B 5 (.slice (some ⟨g, off, none⟩) (KL + data.size) c) (KL + data.size) (bc bs ++ (byteCells data).take data.size) :=
    row_over _ rfl h0 hbg hc (by unfold maxLen; omega) hcur.1 hcur.2 (by rw [List.length_take, byteCells_length]; omega)
  have hb4 : Blk (w3.setRow g (cur3.take (off + KL) ++ (byteCells data).take data.size ++ cur3.drop (off + KL + data.size)).toArray) ab _ T := (setRow_other w3 g ab _ (fun h => hga h.symm)).trans hb3
  have hm4 : Mv B (fun b => b = ab ∨ (Value.slice A KL c0).ownBlock = some b) w (w3.setRow g (cur3.take (off + KL) ++ (byteCells data).take data.size ++ cur3.drop (off + KL + data.size)).toArray) := by
    rcases how.out with how | how
    · exact hm3.trans (Mv.row hbg (.inr how) four_byte h0 _)
    · exact hm3.row_new (by omega) _
  generalize (cur3.take (off + KL) ++ (byteCells data).take data.size ++ cur3.drop (off + KL + data.size)).toArray = arr at hrun hrw hb4 hm4
  rw [bc_str, ← bc_take, ← bc_app] at hrw
  clear hb3 hm3 hys3 hcur hbg hs3
  replace hrw := Lib.hid hrw
  replace hb4 := Lib.hid hb4
  replace hm4 := Lib.hid hm4
  go_wp2_with (at_builtin; refine wpList_copy_of rfl _ _ 153 9 rfl _ _ _ _ rfl rfl (hrun _) ?_)
  go_wp2
  go_ret
  exact ⟨_, rfl, hb4.out, hrw.out, hm4.out, how.out.imp (fun h => h.symm) (fun h => by rw [h]; rfl), fun g' h => by cases h; exact hga⟩
theorem extend_part (B ab ai : Nat) (cur : List Value) (T : TypeId) (v : Value) (bs : List UInt8) (data : ByteArray) (most n KL : Nat) (w : World) (hb : Blk w ab cur T) (hv : cur[ai]? = some v) (hT : Four T) (hBb : B ≤ ab)
    (hr : Row w B 5 v KL (bc bs)) (hKL : bs.length = KL) (hne : ∀ g, v.ownBlock = some g → g ≠ ab) (hmost : most ≤ 65536) (hB : B ≤ w.heap.size) (hds : data.size ≤ 100000000) (hn0 : 0 < n) (hmn : (most : Int) - (KL : Int) = (n : Int)) (hgt : n < data.size) :
    Calls Tryz.prog 284 #[.pointer (some ⟨ab, ai, none⟩), .string data, .int .i64 (most : Int)] w fun e w' => ∃ v', e = .returned (.int .i64 (n : Int)) ∧
      Blk w' ab (cur.set ai v') T ∧ Row w' B 5 v' (KL + n) (bc (bs ++ (tl data).take n)) ∧ Mv B (fun b => b = ab ∨ v.ownBlock = some b) w w' ∧ (v'.ownBlock = v.ownBlock ∨ v'.ownBlock = some w.heap.size) ∧ ∀ g, v'.ownBlock = some g → g ≠ ab := by
  obtain ⟨A, c0, rfl, hc0, hcm0⟩ := hr.form
  have hcell := hb.cell hv
  have hfz := hb.frozen ai
  have hai : ai < cur.length := by
    obtain ⟨h, _⟩ := List.getElem?_eq_some_iff.1 hv
    exact h
  have habl := hb.lt
  have hgr := grow_any B (.slice A KL c0) KL (bc bs) n w hr (by omega) (by omega) hB
  replace hKL := Lib.hid hKL
  replace hr := Lib.hid hr
  replace hb := Lib.hid hb
  unfold maxLen at hcm0
  go_enter Tryz.func284, Tryz.ntmps284
  go_wp2_with fail
  refine hgr.mono ?_
  rintro e w2 ⟨g, off, c, rfl, hc, hcm, hr2, hg2, how⟩
  have hb2 : Blk w2 ab cur T := (hg2.block ab habl (by simp)).trans hb.out
  have hga : g ≠ ab := by
    rcases how with how | how
    · exact hne g how
    · omega
  have hc2 := hb2.cell hv
  have hf2 := hb2.frozen ai
  obtain ⟨ys, hys⟩ := hr2.room (KL + n) (by omega) hc
  have hsz2 := hg2.size
  replace hys := Lib.hid hys
  replace hr2 := Lib.hid hr2
  replace hg2 := Lib.hid hg2
  replace hb2 := Lib.hid hb2
  replace how := Lib.hid how
  unfold maxLen at hcm
  clear hcell hfz hgr
  go_upto_region 4 with fail
  have hb3 := hb2.out.set ai (.slice (some ⟨g, off, none⟩) (KL + n) c)
  have hm3 : Mv B (fun b => b = ab ∨ (Value.slice A KL c0).ownBlock = some b) w (w2.setCell ⟨ab, ai, none⟩ (.slice (some ⟨g, off, none⟩) (KL + n) c)) := (Mv.of_none hg2.out).trans (Mv.set hb2.out (.inl rfl) hT hBb _ _)
  have hs3 : (w2.setCell ⟨ab, ai, none⟩ (.slice (some ⟨g, off, none⟩) (KL + n) c)).heap.size = w2.heap.size := by simp [World.setCell]
  have hys3 : Row (w2.setCell ⟨ab, ai, none⟩ (.slice (some ⟨g, off, none⟩) (KL + n) c)) B 5 (.slice (some ⟨g, off, none⟩) (KL + n) c) (KL + n) (bc bs ++ ys) := hys.out.keep fun g' hg' => by cases hg'; exact heap_setCell_other w2 _ g _ hga
  generalize w2.setCell ⟨ab, ai, none⟩ (.slice (some ⟨g, off, none⟩) (KL + n) c) = w3 at hb3 hm3 hs3 hys3 ⊢
  have hc3 := hb3.cell (show (cur.set ai _)[ai]? = some _ by rw [List.getElem?_set_self hai])
  obtain ⟨h0, _, ⟨cur3, hbg⟩⟩ := hys3.lt (g := g) rfl
  have hcur : off + c ≤ cur3.length ∧ (cur3.drop off).take KL = bc bs := by
    rcases hys3 with ⟨h, _⟩ | ⟨g', off', cap', cur', hv', _, h1, _, _, h4, h5⟩
    · cases h
    · cases hv'
      obtain rfl := Blk.inj h1 hbg
      refine ⟨h4, ?_⟩
      have := congrArg (List.take KL) h5
      rw [List.take_take, Nat.min_eq_left (by omega), List.take_left' (by rw [bc_len]; exact hKL.out)] at this
      exact this
  have hrun := fun ty => run_copy_str (P := Tryz.prog) w3 153 9 ty 5 Tryz.underlying153 (by kernel_rfl) g (off + KL) n (c - KL) cur3 5 hbg data (by omega) (by omega)
  have hrw : Row (w3.setRow g (cur3.take (off + KL) ++ (byteCells data).take n ++ cur3.drop (off + KL + n)).toArray) B 5 (.slice (some ⟨g, off, none⟩) (KL + n) c) (KL + n) (bc bs ++ (byteCells data).take n) :=
    row_over _ rfl h0 hbg hc (by unfold maxLen; omega) hcur.1 hcur.2 (by rw [List.length_take, byteCells_length]; omega)
  have hb4 : Blk (w3.setRow g (cur3.take (off + KL) ++ (byteCells data).take n ++ cur3.drop (off + KL + n)).toArray) ab _ T := (setRow_other w3 g ab _ (fun h => hga h.symm)).trans hb3
  have hm4 : Mv B (fun b => b = ab ∨ (Value.slice A KL c0).ownBlock = some b) w (w3.setRow g (cur3.take (off + KL) ++ (byteCells data).take n ++ cur3.drop (off + KL + n)).toArray) := by
    rcases how.out with how | how
    · exact hm3.trans (Mv.row hbg (.inr how) four_byte h0 _)
    · exact hm3.row_new (by omega) _
  generalize (cur3.take (off + KL) ++ (byteCells data).take n ++ cur3.drop (off + KL + n)).toArray = arr at hrun hrw hb4 hm4
  rw [bc_str, ← bc_take, ← bc_app] at hrw
  clear hb3 hm3 hys3 hcur hbg hs3
  replace hrw := Lib.hid hrw
  replace hb4 := Lib.hid hb4
  replace hm4 := Lib.hid hm4
  go_wp2_with (at_builtin; refine wpList_copy_of rfl _ _ 153 9 rfl _ _ _ _ rfl rfl (hrun _) ?_)
  go_wp2
  go_ret
  exact ⟨_, rfl, hb4.out, hrw.out, hm4.out, how.out.imp (fun h => h.symm) (fun h => by rw [h]; rfl), fun g' h => by cases h; exact hga⟩
theorem extend_any (B ab ai : Nat) (cur : List Value) (T : TypeId) (v : Value) (bs : List UInt8) (data : ByteArray) (most : Nat) (w : World) (hb : Blk w ab cur T) (hv : cur[ai]? = some v) (hT : Four T) (hBb : B ≤ ab)
    (hr : Row w B 5 v bs.length (bc bs)) (hne : ∀ g, v.ownBlock = some g → g ≠ ab) (hd : 0 < data.size) (hlt : bs.length < most) (hmost : most ≤ 65536) (hB : B ≤ w.heap.size) (hds : data.size ≤ 100000000) :
    Calls Tryz.prog 284 #[.pointer (some ⟨ab, ai, none⟩), .string data, .int .i64 (most : Int)] w fun e w' => ∃ n v', n = min data.size (most - bs.length) ∧ e = .returned (.int .i64 (n : Int)) ∧
      Blk w' ab (cur.set ai v') T ∧ Row w' B 5 v' (bs ++ (tl data).take n).length (bc (bs ++ (tl data).take n)) ∧ Mv B (fun b => b = ab ∨ v.ownBlock = some b) w w' ∧ (v'.ownBlock = v.ownBlock ∨ v'.ownBlock = some w.heap.size) ∧ ∀ g, v'.ownBlock = some g → g ≠ ab := by
  have hl : ∀ n, n ≤ data.size → (bs ++ (tl data).take n).length = bs.length + n := fun n hn => by rw [List.length_append, List.length_take, tl_len]; omega
  by_cases hle : bs.length + data.size ≤ most
  · refine (extend_all B ab ai cur T v bs data most bs.length w hb hv hT hBb hr rfl hne hmost hB hds hd hle).mono ?_
    rintro e w' ⟨v', he, h1, h2, h3⟩
    exact ⟨data.size, v', by omega, he, h1, by rw [hl _ (Nat.le_refl _)]; exact h2, h3⟩
  · refine (extend_part B ab ai cur T v bs data most (most - bs.length) bs.length w hb hv hT hBb hr rfl hne hmost hB hds (by omega) (by omega) (by omega)).mono ?_
    rintro e w' ⟨v', he, h1, h2, h3⟩
    exact ⟨most - bs.length, v', by omega, he, h1, by rw [hl _ (by omega)]; exact h2, h3⟩
structure Ps where
  quota : Nat
  mem : Nat
  ch : Nat
  held : Nat
  used : Nat
  nb : Nat
def Ps.cells (p : Ps) (S : Value) : List Value := [.int .i64 (p.quota : Int), .int .i64 (p.mem : Int), .int .i64 (p.ch : Int), .int .i64 (p.held : Int), .int .i64 (p.used : Int), .int .i64 (p.nb : Int), S]
theorem own_len (A : Option Addr) (n m c c' : Nat) : (Value.slice A n c).ownBlock = (Value.slice A m c').ownBlock := by cases A <;> rfl
theorem set4 (p : Ps) (S : Value) (u : Nat) : (p.cells S).set 4 (.int .i64 (u : Int)) = ({ p with used := u } : Ps).cells S := rfl
theorem set6 (p : Ps) (S S' : Value) : (p.cells S).set 6 S' = p.cells S' := rfl
theorem take_none (B pb : Nat) (p : Ps) (S : Value) (w : World) (hb : Blk w pb (p.cells S) 173) (hB : B ≤ pb) (hS : Row w B 153 S 0 []) (hu : p.used ≤ 1000000) :
    Calls Tryz.prog 285 #[.pointer (some ⟨pb, 0, none⟩)] w fun e w' => e = .returned (.slice none 0 0) ∧ Blk w' pb (({ p with used := p.used + 1 } : Ps).cells S) 173 ∧ Mv B (fun b => b = pb) w w' := by
  obtain ⟨A, c, rfl, hc, hcm⟩ := hS.form
  have c4 := hb.cell (show (p.cells (.slice A 0 c))[4]? = some _ from rfl)
  have hf := hb.frozen 4
  have hlt := hb.lt
  obtain ⟨U, hU⟩ : ∃ U, p.used = U := ⟨_, rfl⟩
  rw [hU] at c4 hu ⊢
  replace hU := Lib.hid hU
  replace hb := Lib.hid hb
  clear hS
  go_enter Tryz.func285, Tryz.ntmps285
  go_upto_region 2 with fail
  have hb1 := hb.out.set 4 (.int .i64 ((U + 1 : Nat) : Int))
  rw [set4] at hb1
  have hm1 : Mv B (fun b => b = pb) w (w.setCell ⟨pb, 4, none⟩ (.int .i64 ((U + 1 : Nat) : Int))) := Mv.set (S := fun b => b = pb) hb.out rfl four_pool hB _ _
  have e1 : (w.setCell ⟨pb, 4, none⟩ (.int .i64 ((U : Int) + 1))) = (w.setCell ⟨pb, 4, none⟩ (.int .i64 ((U + 1 : Nat) : Int))) := rfl
  rw [e1]
  generalize w.setCell ⟨pb, 4, none⟩ (.int .i64 ((U + 1 : Nat) : Int)) = w1 at hb1 hm1 ⊢
  have d6 := hb1.cell (show (Ps.cells { p with used := U + 1 } (.slice A 0 c))[6]? = some _ from rfl)
  replace hb1 := Lib.hid hb1
  replace hm1 := Lib.hid hm1
  clear c4 hf e1
  go_wp2
  go_ret
  exact ⟨rfl, hb1.out, hm1.out⟩
theorem take_some (B pb : Nat) (p : Ps) (S v0 : Value) (bs0 : List UInt8) (sp : List Value) (w : World) (hb : Blk w pb (p.cells S) 173) (hB : B ≤ pb) (hS : Row w B 153 S (sp.length + 1) (sp ++ [v0])) (hne : ∀ g, S.ownBlock = some g → g ≠ pb)
    (h0 : Row w B 5 v0 bs0.length (bc bs0)) (hne0 : ∀ g, v0.ownBlock = some g → g ≠ pb) (hu : p.used ≤ 1000000) :
    Calls Tryz.prog 285 #[.pointer (some ⟨pb, 0, none⟩)] w fun e w' => ∃ v S', e = .returned v ∧ Blk w' pb (({ p with used := p.used + 1 } : Ps).cells S') 173 ∧ Row w' B 153 S' sp.length sp ∧ S'.ownBlock = S.ownBlock ∧
      Row w' B 5 v 0 (bc []) ∧ v.ownBlock = v0.ownBlock ∧ Mv B (fun b => b = pb) w w' := by
  obtain ⟨g, off, c, rfl, hc, hcm, hBg⟩ := hS.form1 (Nat.succ_pos _)
  obtain ⟨A0, c0, rfl, hc0, hcm0⟩ := h0.form
  have hgp := hne g rfl
  have c4 := hb.cell (show (p.cells (.slice (some ⟨g, off, none⟩) (sp.length + 1) c))[4]? = some _ from rfl)
  have hf := hb.frozen 4
  have hlt := hb.lt
  have hl1 := hS.cell (j := sp.length) (u := .slice A0 bs0.length c0) (by simp)
  have hhd := hS.head sp.length (Nat.le_succ _)
  rw [List.take_left' rfl] at hhd
  have hv0 := h0.head 0 (Nat.zero_le _)
  rw [List.take_zero] at hv0
  have hln := hS.lt (g := g) rfl
  obtain ⟨KL, hKL⟩ : ∃ KL, sp.length = KL := ⟨_, rfl⟩
  obtain ⟨K0, hK0⟩ : ∃ K0, bs0.length = K0 := ⟨_, rfl⟩
  obtain ⟨U, hU⟩ : ∃ U, p.used = U := ⟨_, rfl⟩
  rw [hKL] at hl1 hb hc hhd ⊢
  clear hne
  rw [hK0] at hc0 hl1
  rw [hU] at c4 hu ⊢
  replace hU := Lib.hid hU
  replace hb := Lib.hid hb
  replace hKL := Lib.hid hKL
  replace hK0 := Lib.hid hK0
  have hltg := hln.2.1
  unfold maxLen at hcm hcm0
  clear hS h0 hln
  replace hhd := Lib.hid hhd
  replace hv0 := Lib.hid hv0
  go_enter Tryz.func285, Tryz.ntmps285
  go_upto_region 2 with fail
  have hb1 := hb.out.set 4 (.int .i64 ((U + 1 : Nat) : Int))
  rw [set4] at hb1
  have hm1 : Mv B (fun b => b = pb) w (w.setCell ⟨pb, 4, none⟩ (.int .i64 ((U + 1 : Nat) : Int))) := Mv.set (S := fun b => b = pb) hb.out rfl four_pool hB _ _
  have e1 : (w.setCell ⟨pb, 4, none⟩ (.int .i64 ((U : Int) + 1))) = (w.setCell ⟨pb, 4, none⟩ (.int .i64 ((U + 1 : Nat) : Int))) := rfl
  rw [e1]
  generalize w.setCell ⟨pb, 4, none⟩ (.int .i64 ((U + 1 : Nat) : Int)) = w1 at hb1 hm1 ⊢
  have d6 := hb1.cell (show (Ps.cells { p with used := U + 1 } (.slice (some ⟨g, off, none⟩) (KL + 1) c))[6]? = some _ from rfl)
  have f6 := hb1.frozen 6
  have l1 := (World.cell?_of_block (a := ⟨g, off + KL, none⟩) (hm1.block g hltg hgp)).trans hl1
  have hlt1 := hb1.lt
  replace hb1 := Lib.hid hb1
  replace hm1 := Lib.hid hm1
  clear c4 hf e1 hl1
  go_wp2
  go_ret
  have hb2 := hb1.out.set 6 (.slice (some ⟨g, off, none⟩) KL c)
  rw [set6] at hb2
  have hm2 := hm1.out.trans (Mv.set (S := fun b => b = pb) hb1.out rfl four_pool hB 6 (.slice (some ⟨g, off, none⟩) KL c))
  exact ⟨_, _, rfl, hb2, hhd.out.mv hm2 (fun g' h => by cases h; exact hgp), rfl, hv0.out.mv hm2 (fun g' h => hne0 g' (by rw [← h]; exact own_len _ _ _ _ _)), own_len _ _ _ _ _, hm2⟩
theorem leave_any (B pb : Nat) (p : Ps) (S x : Value) (sp cs : List Value) (w : World) (hb : Blk w pb (p.cells S) 173) (hB : B ≤ pb) (hBw : B ≤ w.heap.size) (hS : Row w B 153 S sp.length sp) (hne : ∀ g, S.ownBlock = some g → g ≠ pb)
    (hx : Row w B 153 x cs.length cs) (hnx : ∀ g, x.ownBlock = some g → g ≠ pb) (h1 : ∀ u ∈ cs, u.oneCell' = true) (hu : cs.length ≤ p.used) (hu2 : p.used ≤ 1000000) (hsp : sp.length ≤ 1000000) :
    Calls Tryz.prog 275 #[.pointer (some ⟨pb, 0, none⟩), x] w fun e w' => ∃ S', e = .returned (.tuple #[]) ∧ Blk w' pb (({ p with used := p.used - cs.length } : Ps).cells S') 173 ∧ Row w' B 153 S' (sp ++ cs).length (sp ++ cs) ∧
      (S'.ownBlock = S.ownBlock ∨ S'.ownBlock = some w.heap.size) ∧ Mv B (fun b => b = pb ∨ S.ownBlock = some b) w w' := by
  obtain ⟨i0, hi, hz0, hz1, hz2⟩ := info_parts infoRow
  obtain ⟨A, c, rfl, hc, hcm⟩ := hx.form
  obtain ⟨A0, c0, rfl, hc0, hcm0⟩ := hS.form
  have c4 := hb.cell (show (p.cells (.slice A0 sp.length c0))[4]? = some _ from rfl)
  have hf := hb.frozen 4
  have hlt := hb.lt
  obtain ⟨U, hU⟩ : ∃ U, p.used = U := ⟨_, rfl⟩
  obtain ⟨KL, hKL⟩ : ∃ KL, cs.length = KL := ⟨_, rfl⟩
  rw [hU] at c4 hu hu2 ⊢
  rw [hKL] at hx hu hc hnx ⊢
  replace hU := Lib.hid hU
  replace hKL := Lib.hid hKL
  replace hb := Lib.hid hb
  replace hx := Lib.hid hx
  unfold maxLen at hcm
  go_enter Tryz.func275, Tryz.ntmps275
  go_upto_region 1 with fail
  have hUK : ((U : Int) - (KL : Int)) = ((U - KL : Nat) : Int) := by omega
  rw [hUK]
  have hb1 := hb.out.set 4 (.int .i64 ((U - KL : Nat) : Int))
  rw [set4] at hb1
  have hm1 : Mv B (fun b => b = pb ∨ (Value.slice A0 sp.length c0).ownBlock = some b) w (w.setCell ⟨pb, 4, none⟩ (.int .i64 ((U - KL : Nat) : Int))) := Mv.set (S := fun b => b = pb ∨ (Value.slice A0 sp.length c0).ownBlock = some b) hb.out (.inl rfl) four_pool hB _ _
  have hs1 : (w.setCell ⟨pb, 4, none⟩ (.int .i64 ((U - KL : Nat) : Int))).heap.size = w.heap.size := by simp [World.setCell]
  have hS1 : Row (w.setCell ⟨pb, 4, none⟩ (.int .i64 ((U - KL : Nat) : Int))) B 153 (.slice A0 sp.length c0) sp.length sp := hS.keep fun g hg => heap_setCell_other w _ g _ (hne g hg)
  have hx1 : Row (w.setCell ⟨pb, 4, none⟩ (.int .i64 ((U - KL : Nat) : Int))) B 153 (.slice A KL c) KL cs := hx.out.keep fun g hg => heap_setCell_other w _ g _ (hnx g hg)
  generalize w.setCell ⟨pb, 4, none⟩ (.int .i64 ((U - KL : Nat) : Int)) = w1 at hb1 hm1 hs1 hS1 hx1 ⊢
  have hlu : ∀ q : Nat, (sp ++ cs).length = sp.length + KL := fun _ => by rw [List.length_append, hKL.out]
  obtain ⟨S', w2, hrun, hr2, hm2, how⟩ := run_append_row (P := Tryz.prog) w1 B 171 171 171 153 i0 _ Tryz.underlying171 hi hz0 hz1 rfl four_rows (.slice A0 sp.length c0) sp.length sp hS1 (.slice A KL c) KL cs (hx1.src Tryz.underlying171 h1) (by rw [hz2]; omega) (by omega) (by omega)
  have hb2 : Blk w2 pb _ _ := hb1.mv hm2 fun h => hne pb h rfl
  have hne2 : ∀ g, S'.ownBlock = some g → g ≠ pb := by
    intro g hg
    rcases how with how | how
    · exact hne g (how ▸ hg)
    · rw [how] at hg; cases hg; omega
  have hm12 : Mv B (fun b => b = pb ∨ (Value.slice A0 sp.length c0).ownBlock = some b) w w2 := hm1.trans (hm2.mono fun b _ h => .inr h)
  rw [← hlu 0] at hr2
  obtain ⟨LL, hLL⟩ : ∃ LL, (sp ++ cs).length = LL := ⟨_, rfl⟩
  rw [hLL] at hr2
  replace hLL := Lib.hid hLL
  obtain ⟨A', c', rfl, hc', hcm'⟩ := hr2.form
  have d6 := hb1.cell (show (Ps.cells { p with used := U - KL } (.slice A0 sp.length c0))[6]? = some _ from rfl)
  have e6 := hb2.cell (show (Ps.cells { p with used := U - KL } (.slice A0 sp.length c0))[6]? = some _ from rfl)
  have f6 := hb2.frozen 6
  have hlt2 := hb2.lt
  rw [hs1] at how
  replace hb1 := Lib.hid hb1
  replace hm1 := Lib.hid hm1
  replace hb2 := Lib.hid hb2
  replace hm12 := Lib.hid hm12
  replace hm2 := Lib.hid hm2
  replace hr2 := Lib.hid hr2
  replace hS1 := Lib.hid hS1
  replace hx1 := Lib.hid hx1
  replace hrun := Lib.hid hrun
  replace how := Lib.hid how
  replace hS := Lib.hid hS
  clear c4 hf hUK hi hz0 hz1 hz2 hlu
  go_wp2_with (at_builtin; refine wpList_append_of rfl _ _ 171 171 rfl _ _ _ w2 rfl rfl hrun.out ?_)
  go_wp2
  go_end0
  have hb3 := hb2.out.set 6 (.slice A' LL c')
  rw [set6] at hb3
  have hm3 := hm12.out.trans (Mv.set (S := fun b => b = pb ∨ (Value.slice A0 sp.length c0).ownBlock = some b) hb2.out (.inl rfl) four_pool hB 6 (.slice A' LL c'))
  exact ⟨_, rfl, hb3, by rw [hLL.out]; exact hr2.out.keep fun g hg => heap_setCell_other w2 _ g _ (hne2 g hg), how.out, hm3⟩
def bufC (pb gone len : Nat) (m c : Value) : List Value := [.pointer (some ⟨pb, 0, none⟩), .int .i64 (gone : Int), .int .i64 (len : Int), m, c]
theorem put_mem (B pb bb gone len : Nat) (p : Ps) (S m c : Value) (bs : List UInt8) (data : ByteArray) (w : World) (hp : Blk w pb (p.cells S) 173) (hb : Blk w bb (bufC pb gone len m c) 232) (hne : pb ≠ bb) (hBb : B ≤ bb) (hB : B ≤ w.heap.size)
    (hl : bs.length = len) (hr : Row w B 5 m bs.length (bc bs)) (hmb : ∀ g, m.ownBlock = some g → g ≠ bb ∧ g ≠ pb) (hd : 0 < data.size) (hlt : len < p.mem) (hmost : p.mem ≤ 65536) (hds : data.size ≤ 100000000) :
    Calls Tryz.prog 283 #[.pointer (some ⟨bb, 0, none⟩), .string data] w fun e w' => ∃ n m', n = min data.size (p.mem - len) ∧ e = .returned (.int .i64 (n : Int)) ∧ Blk w' bb (bufC pb gone len m' c) 232 ∧
      Row w' B 5 m' (bs ++ (tl data).take n).length (bc (bs ++ (tl data).take n)) ∧ Mv B (fun b => b = bb ∨ m.ownBlock = some b) w w' ∧ (m'.ownBlock = m.ownBlock ∨ m'.ownBlock = some w.heap.size) ∧ ∀ g, m'.ownBlock = some g → g ≠ bb := by
  have c0 := hb.cell (show (bufC pb gone len m c)[0]? = some _ from rfl)
  have c2 := hb.cell (show (bufC pb gone len m c)[2]? = some _ from rfl)
  have d1 := hp.cell (show (p.cells S)[1]? = some _ from rfl)
  obtain ⟨M, hM⟩ : ∃ M, p.mem = M := ⟨_, rfl⟩
  rw [hM] at d1 hlt hmost ⊢
  replace hM := Lib.hid hM
  have hpl := hp.lt
  have hbl := hb.lt
  have hcall := fun W (h1 : Blk W bb (bufC pb gone len m c) 232) (h2 : Row W B 5 m bs.length (bc bs)) (h3 : B ≤ W.heap.size) => extend_any B bb 3 _ 232 m bs data M W h1 rfl four_buf hBb h2 (fun g h => (hmb g h).1) hd (by omega) hmost h3 hds
  rw [hl] at hcall hr
  replace hp := Lib.hid hp
  replace hb := Lib.hid hb
  replace hr := Lib.hid hr
  replace hmb := Lib.hid hmb
  replace hl := Lib.hid hl
  clear hd hds
  go_enter Tryz.func283, Tryz.ntmps283
  go_upto_region 2 with fail
  go_quiet (fail)
  go_wp2_with fail
  go_region_held3 (fun w' => w'.cell? ⟨pb, 1, none⟩ = some (.int .i64 (M : Int)))
    (first | go_keep | exact hk)
    ((go_at_call 284; refine (hcall _ ?_ ?_ ?_).mono ?_; exact hb.out; exact hr.out; exact hB; rintro e w2 ⟨n, m', hn, rfl, hb2, hr2, hm2, how, hne2⟩; replace hn := Lib.hid hn; have hk : w2.cell? ⟨pb, 1, none⟩ = some (.int .i64 (M : Int)) := (World.cell?_of_block (a := ⟨pb, 1, none⟩) (hm2.block pb hpl (fun h => h.elim hne (fun h => (hmb.out pb h).2 rfl)))).trans d1))
  go_wp2
  go_ret
  exact ⟨n, m', hn.out, rfl, hb2, hr2, ⟨hm2.os, hm2.tape, hm2.output, hm2.size, hm2.block, hm2.keep⟩, how, hne2⟩
theorem row_set_last {w w' : World} {B : Nat} {e : TypeId} {g off c n : Nat} {init : List Value} {v v' : Value} {cur : List Value} (hr : Row w B e (.slice (some ⟨g, off, none⟩) (n + 1) c) (n + 1) (init ++ [v])) (hn : init.length = n) (hb : Blk w g cur e) (hb' : Blk w' g (cur.set (off + n) v') e) :
    Row w' B e (.slice (some ⟨g, off, none⟩) (n + 1) c) (n + 1) (init ++ [v']) := by
  rcases hr with ⟨h, _⟩ | ⟨g', off', cap, cur', hv, h0, h1, h2, h3, h4, h5⟩
  · cases h
  · cases hv
    obtain rfl := Blk.inj h1 hb
    refine .inr ⟨g, off, c, _, rfl, h0, hb', h2, h3, by rw [List.length_set]; exact h4, ?_⟩
    rw [List.drop_set, if_neg (by omega), Nat.add_sub_cancel_left, List.take_set, h5]
    subst hn
    simp
theorem put_last (B pb bb gone len r D : Nat) (p : Ps) (S m c v : Value) (init : List Value) (bs : List UInt8) (data : ByteArray) (w : World) (hp : Blk w pb (p.cells S) 173) (hb : Blk w bb (bufC pb gone len m c) 232) (hB : B ≤ w.heap.size)
    (hc : Row w B 153 c (init.length + 1) (init ++ [v])) (hcb : ∀ g, c.ownBlock = some g → g ≠ bb ∧ g ≠ pb ∧ v.ownBlock ≠ some g)
    (hr : Row w B 5 v bs.length (bc bs)) (hvb : ∀ g, v.ownBlock = some g → g ≠ bb ∧ g ≠ pb) (hd : 0 < data.size) (hlm : len ≤ 100000000) (hlt : bs.length < p.ch) (hmost : p.ch ≤ 65536) (hds : data.size ≤ 100000000)
    (hD : (len : Int) - (p.mem : Int) = (D : Int)) (hrem : (D : Int).tmod (p.ch : Int) = (r : Int)) (hr0 : 0 < r) :
    Calls Tryz.prog 283 #[.pointer (some ⟨bb, 0, none⟩), .string data] w fun e w' => ∃ n v', n = min data.size (p.ch - bs.length) ∧ e = .returned (.int .i64 (n : Int)) ∧
      Row w' B 153 c (init.length + 1) (init ++ [v']) ∧ Row w' B 5 v' (bs ++ (tl data).take n).length (bc (bs ++ (tl data).take n)) ∧ Mv B (fun b => c.ownBlock = some b ∨ v.ownBlock = some b) w w' ∧ (v'.ownBlock = v.ownBlock ∨ v'.ownBlock = some w.heap.size) := by
  have c0 := hb.cell (show (bufC pb gone len m c)[0]? = some _ from rfl)
  have c2 := hb.cell (show (bufC pb gone len m c)[2]? = some _ from rfl)
  have c4 := hb.cell (show (bufC pb gone len m c)[4]? = some _ from rfl)
  have d1 := hp.cell (show (p.cells S)[1]? = some _ from rfl)
  have d2 := hp.cell (show (p.cells S)[2]? = some _ from rfl)
  obtain ⟨M, hM⟩ : ∃ M, p.mem = M := ⟨_, rfl⟩
  obtain ⟨C, hC⟩ : ∃ C, p.ch = C := ⟨_, rfl⟩
  rw [hM] at d1 hD
  rw [hC] at d2 hlt hmost hrem ⊢
  replace hM := Lib.hid hM
  replace hC := Lib.hid hC
  have hpl := hp.lt
  have hbl := hb.lt
  obtain ⟨n, hn⟩ : ∃ n, init.length = n := ⟨_, rfl⟩
  rw [hn] at hc ⊢
  obtain ⟨g, off, cap, rfl, hcc, hcm, hBg⟩ := hc.form1 (Nat.succ_pos _)
  obtain ⟨hgb, hgp, hgv⟩ := hcb g rfl
  obtain ⟨_, hgl, cur, hcur⟩ := hc.lt (g := g) rfl
  have hv : cur[off + n]? = some v := by
    have h1 := hc.cell (j := n) (u := v) (by rw [← hn]; simp)
    rw [cell_of_row w g _ _ _ _ hcur] at h1
    simpa using h1
  have hcall := fun W (h1 : Blk W g cur 153) (h2 : Row W B 5 v bs.length (bc bs)) (h3 : B ≤ W.heap.size) => extend_any B g (off + n) _ 153 v bs data C W h1 hv four_rows hBg h2 (fun g' h => fun e => hgv (by rw [h, e])) hd hlt hmost h3 hds
  replace hp := Lib.hid hp
  replace hb := Lib.hid hb
  replace hr := Lib.hid hr
  replace hc := Lib.hid hc
  replace hcb := Lib.hid hcb
  replace hvb := Lib.hid hvb
  replace hcur := Lib.hid hcur
  replace hn := Lib.hid hn
  have hC1 : C ≠ 0 := by omega
  have hwD : IntKind.i64.wrap (D : Int) = (D : Int) := by rw [IntKind.wrap_i64]; omega
  have hrz : ((r : Int) == 0) = false := by simp; omega
  unfold maxLen at hcm
  have hi0 : (0 : Int) ≤ (n : Int) := by omega
  have hi1 : (n : Int) < (n : Int) + 1 := by omega
  have hwn : IntKind.i64.wrap (n : Int) = (n : Int) := by rw [IntKind.wrap_i64]; omega
  have hwn1 : IntKind.i64.wrap (((n + 1 : Nat) : Int) - 1) = (n : Int) := by rw [IntKind.wrap_i64]; omega
  have hwn2 : IntKind.i64.wrap ((n : Int) + 1 - 1) = (n : Int) := by rw [IntKind.wrap_i64]; omega
  clear hd hds hv hlt
  go_enter Tryz.func283, Tryz.ntmps283
  go_upto_region 2 with fail
  go_quiet (fail)
  go_wp2_with fail
  go_quiet (fail)
  go_wp2_with fail
  go_region_held3 (fun w' => w'.cell? ⟨pb, 2, none⟩ = some (.int .i64 (C : Int)) ∧ w'.cell? ⟨bb, 4, none⟩ = some (.slice (some ⟨g, off, none⟩) (n + 1) cap))
    (first | go_keep | exact hk)
    ((go_at_call 284; refine (hcall _ ?_ ?_ ?_).mono ?_; exact hcur.out; exact hr.out; exact hB; rintro e w2 ⟨N, v', hN, rfl, hb2, hr2, hm2, how, hne2⟩; replace hN := Lib.hid hN;
      have hk : w2.cell? ⟨pb, 2, none⟩ = some (.int .i64 (C : Int)) ∧ w2.cell? ⟨bb, 4, none⟩ = some (.slice (some ⟨g, off, none⟩) (n + 1) cap) := ⟨(World.cell?_of_block (a := ⟨pb, 2, none⟩) (hm2.block pb hpl (fun h => h.elim (fun h => hgp h.symm) (fun h => (hvb.out pb h).2 rfl)))).trans d2, (World.cell?_of_block (a := ⟨bb, 4, none⟩) (hm2.block bb hbl (fun h => h.elim (fun h => hgb h.symm) (fun h => (hvb.out bb h).1 rfl)))).trans c4⟩))
  have hrow := Lib.hid (row_set_last hc.out hn.out hcur.out hb2)
  go_wp2
  go_ret
  exact ⟨N, v', hN.out, rfl, hrow.out, hr2, Mv.mono (w := w) ⟨hm2.os, hm2.tape, hm2.output, hm2.size, hm2.block, hm2.keep⟩ (fun b _ h => h.imp (fun h => by rw [h]; rfl) id), how⟩
end Go.Proofs.YtfofpphnglhopaaGreatDoor
namespace Go.Proofs.YtfofpphnglhopaaGreatDoor
open Go
section
variable {P : Program} {ops : Array Oper} {Q : Exit → Act → World → Prop} {md : Region.Mode} {S : World → Prop} {L : Nat}
def wpAnyT (P : Program) (md : Region.Mode) (ops : Array Oper) (Q : Exit → Act → World → Prop) (S : World → Prop) (L : Nat) : Nat → Array Bool → Act → World → Prop
  | 0, listed, a, w => Region.ready md ops listed = [] ∧ Q .normal a w
  | fuel + 1, listed, a, w =>
    (Region.ready md ops listed = [] → Q .normal a w) ∧
    ∀ i ∈ Region.ready md ops listed, wpOp P ops Q i (fun a' w' => (i ≠ L → S w') ∧ wpAnyT P md ops Q S L fuel (listed.setIfInBounds i true) a' w') a w
theorem wpAny_of_T : ∀ (fuel : Nat) (listed : Array Bool) (a : Act) (w : World), wpAnyT P md ops Q S L fuel listed a w → wpAny P md ops Q fuel listed a w
  | 0, _, _, _, h => h
  | fuel + 1, _, _, _, h => ⟨h.1, fun i hi => wpOp_mono (fun a' w' h' => wpAny_of_T fuel _ a' w' h'.2) (h.2 i hi)⟩
def waitsFor (md : Region.Mode) (ops : Array Oper) (L i : Nat) : Bool := ((ops[L]?).map fun o => o.after.any fun e => Region.binds md e && e.on == i).getD false
theorem unlisted_false {listed : Array Bool} {i : Nat} (h : listed.getD i true = false) : listed.getD i false = false := by
  rcases Nat.lt_or_ge i listed.size with h' | h'
  · simpa [h'] using h
  · simp [Array.getElem?_eq_none h'] at h
theorem wpAnyT_one {i : Nat} {o : Oper} {fuel : Nat} {listed : Array Bool} {a : Act} {w : World} (ho : ops[i]? = some o) (hr : Region.ready md ops listed = [i]) (hg : o.guard = none)
    (h : o.wp P a w (fun a' w' => (i ≠ L → S w') ∧ wpAnyT P md ops Q S L fuel (listed.setIfInBounds i true) a' w') Q) : wpAnyT P md ops Q S L (fuel + 1) listed a w := by
  refine ⟨fun h0 => (by rw [hr] at h0; cases h0), fun j hj => ?_⟩
  rw [hr, List.mem_singleton] at hj
  subst hj
  unfold wpOp
  simp only [ho, Region.wanted, hg, if_true]
  exact .inl h
theorem wpAnyT_done {listed : Array Bool} {a : Act} {w : World} (hr : Region.ready md ops listed = []) (h : Q .normal a w) : ∀ fuel, wpAnyT P md ops Q S L fuel listed a w
  | 0 => ⟨hr, h⟩
  | _ + 1 => ⟨fun _ => h, by rw [hr]; simp⟩
theorem wp_region_last {id : Nat} {a : Act} {w : World} (hm : P.follows .mixedOrders = true)
    (h : wpAnyT P .any ops Q S L ops.size (Array.replicate ops.size false) a w.drew) : (Code.region id ops true).wp P Q a w :=
  wp_region_any hm (wpAny_of_T _ _ _ _ h)
end
section
variable {P : Program} {ops : Array Oper} {Q : Exit → Act → World → Prop} {md : Region.Mode} {S : World → Prop} {L : Nat}
def waitsT (md : Region.Mode) (ops : Array Oper) : Nat → Nat → Nat → Bool
  | 0, _, _ => false
  | n + 1, L, i => waitsFor md ops L i || ((ops[L]?).map fun o => o.after.any fun e => Region.binds md e && waitsT md ops n e.on i).getD false
def Closed (md : Region.Mode) (ops : Array Oper) (listed : Array Bool) : Prop :=
  ∀ j o, ops[j]? = some o → listed.getD j false = true → ∀ e ∈ o.after, Region.binds md e = true → listed.getD e.on false = true
def closedB (md : Region.Mode) (ops : Array Oper) (listed : Array Bool) : Bool :=
  (List.range ops.size).all fun j => ((ops[j]?).map fun o => !(listed.getD j false) || o.after.all fun e => !(Region.binds md e) || listed.getD e.on false).getD true
theorem closed_of {listed : Array Bool} (h : closedB md ops listed = true) : Closed md ops listed := by
  intro j o ho hl e he hb
  have hj : j < ops.size := (Array.getElem?_eq_some_iff.1 ho).1
  have h1 := List.all_eq_true.1 h j (List.mem_range.2 hj)
  simp only [ho, Option.map_some, Option.getD_some, hl, Bool.not_true, Bool.false_or, Array.all_eq_true] at h1
  obtain ⟨k, hk, rfl⟩ := Array.mem_iff_getElem.1 he
  have := h1 k hk
  rw [hb] at this
  simpa using this
theorem getD_set_self {listed : Array Bool} {j : Nat} (h : j < listed.size) (d : Bool) : (listed.setIfInBounds j true).getD j d = true := by simp [h]
theorem closed_set {listed : Array Bool} {j : Nat} (hc : Closed md ops listed) (hj : j ∈ Region.ready md ops listed) : Closed md ops (listed.setIfInBounds j true) := by
  intro k o ho hl e he hb
  have hup : ∀ m, listed.getD m false = true → (listed.setIfInBounds j true).getD m false = true := fun m hm => by
    by_cases hjm : j = m
    · subst hjm
      have hlt : j < listed.size := by
        rcases Nat.lt_or_ge j listed.size with h' | h'
        · exact h'
        · simp [Array.getElem?_eq_none h'] at hm
      exact getD_set_self hlt false
    · rw [getD_set_ne false hjm]; exact hm
  by_cases hjk : j = k
  · subst hjk
    obtain ⟨_, o', ho', hall⟩ := mem_ready.1 hj
    rw [ho] at ho'
    cases ho'
    exact hup _ (hall e he hb)
  · rw [getD_set_ne false hjk] at hl
    exact hup _ (hc k o ho hl e he hb)
theorem waitsFor_mem {L i : Nat} {o : Oper} (ho : ops[L]? = some o) (hw : waitsFor md ops L i = true) : ∃ e ∈ o.after, Region.binds md e = true ∧ e.on = i := by
  simp only [waitsFor, ho, Option.map_some, Option.getD_some, Array.any_eq_true] at hw
  obtain ⟨k, hk, he⟩ := hw
  simp only [Bool.and_eq_true, beq_iff_eq] at he
  exact ⟨_, Array.getElem_mem hk, he.1, he.2⟩
theorem listed_of_waits {listed : Array Bool} (hc : Closed md ops listed) {i : Nat} : ∀ (n j : Nat), waitsT md ops n j i = true → (∀ o, ops[j]? = some o → ∀ e ∈ o.after, Region.binds md e = true → listed.getD e.on false = true) → listed.getD i false = true
  | 0, _, h, _ => by simp [waitsT] at h
  | n + 1, j, h, hall => by
    cases ho : ops[j]? with
    | none => simp [waitsT, waitsFor, ho] at h
    | some o =>
      rw [waitsT, Bool.or_eq_true] at h
      rcases h with h | h
      · obtain ⟨e, he, hb, rfl⟩ := waitsFor_mem ho h
        exact hall o ho e he hb
      · simp only [ho, Option.map_some, Option.getD_some, Array.any_eq_true] at h
        obtain ⟨k, hk, he⟩ := h
        simp only [Bool.and_eq_true] at he
        have hl := hall o ho _ (Array.getElem_mem hk) he.1
        exact listed_of_waits hc n _ he.2 (fun o' ho' e' he' hb' => hc _ o' ho' hl e' he' hb')
theorem not_ready_lastT {listed : Array Bool} {i n : Nat} (hc : Closed md ops listed) (hw : waitsT md ops n L i = true) (hi : listed.getD i false = false) : L ∉ Region.ready md ops listed := by
  intro h
  obtain ⟨_, o, ho, hall⟩ := mem_ready.1 h
  have := listed_of_waits hc n L hw (fun o' ho' e he hb => by rw [ho] at ho'; cases ho'; exact hall e he hb)
  rw [hi] at this
  cases this
theorem wpAnyT_firstT {i n : Nat} {oi : Oper} {v : Value} (hi : ops[i]? = some oi) (hsel : ∀ (j : Nat) (o : Oper) cs b, ops[j]? = some o → o.op ≠ .select cs b)
    (hQ : ∀ c a w, Q (.panic c) (a.put oi.dst v) w → Q (.panic c) a w) (hL : waitsT md ops n L i = true) :
    ∀ (fuel : Nat) (listed : Array Bool) (a : Act) (w : World), Closed md ops listed →
      (∀ j oj, ops[j]? = some oj → j ≠ i → listed.getD j true = false → (∀ e ∈ oj.after, Region.binds md e = true → e.on ≠ i) → oi.apart ops oj = true) →
      i ∈ Region.ready md ops listed → YieldsIf P ops S oi v a → S w →
      wpAnyT P md ops Q S L fuel (listed.setIfInBounds i true) (a.put oi.dst v) w → wpAnyT P md ops Q S L (fuel + 1) listed a w := by
  intro fuel
  induction fuel with
  | zero =>
    intro listed a w _ _ hr hy hS H
    refine ⟨fun h => (by rw [h] at hr; cases hr), fun j hj => ?_⟩
    by_cases hji : j = i
    · subst hji; exact hy.wpOp hi hS ⟨fun _ => hS, H⟩
    · have := ready_mono hj hji
      rw [H.1] at this
      cases this
  | succ fuel ih =>
    intro listed a w hc hfree hr hy hS H
    refine ⟨fun h => (by rw [h] at hr; cases hr), fun j hj => ?_⟩
    by_cases hji : j = i
    · subst hji; exact hy.wpOp hi hS ⟨fun _ => hS, H⟩
    · have hjL : j ≠ L := by
        rintro rfl
        exact not_ready_lastT hc hL (unlisted_false (mem_ready.1 hr).1) hj
      have h1 := H.2 j (ready_mono hj hji)
      obtain ⟨hjun, oj, hoj, hall⟩ := mem_ready.1 hj
      have hnot : ∀ e ∈ oj.after, Region.binds md e = true → e.on ≠ i := fun e he hb heq => by
        have h2 := hall e he hb
        rw [heq, unlisted_false (mem_ready.1 hr).1] at h2
        cases h2
      have h2 := wpOp_putIf hoj (hfree j oj hoj hji hjun hnot) (fun cs b => hsel i oi cs b hi) (fun cs b => hsel j oj cs b hoj) hQ hy h1
      have hfree' : ∀ k ok, ops[k]? = some ok → k ≠ i → (listed.setIfInBounds j true).getD k true = false →
          (∀ e ∈ ok.after, Region.binds md e = true → e.on ≠ i) → oi.apart ops ok = true := fun k ok hk hki hun hno => by
        refine hfree k ok hk hki ?_ hno
        by_cases hjk : j = k
        · subst hjk; exact hjun
        · rw [getD_set_ne true hjk] at hun; exact hun
      refine wpOp_mono (fun a' w' h3 => ⟨h3.2.1, ih (listed.setIfInBounds j true) a' w' (closed_set hc hj) hfree' (ready_mono hr (Ne.symm hji)) h3.1 (h3.2.1 hjL) ?_⟩) h2
      rw [Array.setIfInBounds_comm _ _ hji]
      exact h3.2.2
theorem wpAnyT_takeT {i n : Nat} {oi : Oper} {v : Value} {fuel : Nat} {listed : Array Bool} {a : Act} {w : World} (hi : ops[i]? = some oi)
    (hs : Region.noSelect ops = true) (hf : Region.free md ops listed i = true) (hr : (Region.ready md ops listed).contains i = true) (hL : waitsT md ops n L i = true) (hc : closedB md ops listed = true)
    (hQ : ∀ c a w, Q (.panic c) (a.put oi.dst v) w → Q (.panic c) a w) (hy : YieldsIf P ops S oi v a) (hS : S w)
    (h : wpAnyT P md ops Q S L fuel (listed.setIfInBounds i true) (a.put oi.dst v) w) : wpAnyT P md ops Q S L (fuel + 1) listed a w :=
  wpAnyT_firstT hi (Region.noSelect_spec hs) hQ hL fuel listed a w (closed_of hc) (Region.free_spec hi hf) (by simpa using hr) hy hS h
end
end Go.Proofs.YtfofpphnglhopaaGreatDoor
namespace Go.Proofs.YtfofpphnglhopaaGreatDoor
open Go Go.RowKit
section
variable {P : Program} {w : World}
theorem wp_append_of {o : Oper} {a : Act} {K : Act → World → Prop} {Q : Exit → Act → World → Prop} (s x : Operand) (t tx : TypeId)
    (ho : o.op = .call { callee := .builtin .append, args := #[s, x], argTypes := #[t, tx] }) (v y r : Value) (w1 : World) (hs : a.eval s = v) (hx : a.eval x = y)
    (hrun : (Builtin.append_ #[t, tx] o.type #[v, y]).run P w = .ok r w1) (h : K (a.put o.dst r) w1) : o.wp P a w K Q := by
  unfold Oper.wp execOp
  simp only [ho, resolve, invoke, builtin, Sem.run_bind, Sem.run_pure, Result.andThen_ok, List.map_toArray, List.map_cons, List.map_nil, hs, hx, hrun]
  exact h
end
theorem take_any (B pb : Nat) (p : Ps) (S : Value) (sp : List Value) (w : World) (hb : Blk w pb (p.cells S) 173) (hB : B ≤ pb) (hS : Row w B 153 S sp.length sp) (hne : ∀ g, S.ownBlock = some g → g ≠ pb)
    (hst : ∀ v ∈ sp, (∃ bs : List UInt8, Row w B 5 v bs.length (bc bs)) ∧ ∀ g, v.ownBlock = some g → g ≠ pb) (hu : p.used ≤ 1000000) :
    Calls Tryz.prog 285 #[.pointer (some ⟨pb, 0, none⟩)] w fun e w' => ∃ (v S' : Value) (sp' : List Value), e = .returned v ∧ Blk w' pb (({ p with used := p.used + 1 } : Ps).cells S') 173 ∧ Row w' B 153 S' sp'.length sp' ∧ S'.ownBlock = S.ownBlock ∧
      Row w' B 5 v 0 (bc []) ∧ (v = .slice none 0 0 ∧ sp = [] ∧ sp' = [] ∨ ∃ v0, sp = sp' ++ [v0] ∧ v.ownBlock = v0.ownBlock) ∧ Mv B (fun b => b = pb) w w' := by
  rcases List.eq_nil_or_concat sp with rfl | ⟨sp', v0, rfl⟩
  · refine (take_none B pb p S w hb hB hS hu).mono ?_
    rintro e w' ⟨he, h1, h2⟩
    exact ⟨_, S, [], he, h1, hS.mv h2 hne, rfl, Row.nil_ _ _ _, .inl ⟨rfl, rfl, rfl⟩, h2⟩
  · rw [List.concat_eq_append] at hS hst ⊢
    obtain ⟨⟨bs, h0⟩, hg⟩ := hst v0 (by simp)
    rw [List.length_append] at hS
    refine (take_some B pb p S v0 bs sp' w hb hB hS hne h0 hg hu).mono ?_
    rintro e w' ⟨v, S', he, h1, h2, h3, h4, h5, h6⟩
    exact ⟨v, S', sp', he, h1, h2, h3, h4, .inr ⟨v0, rfl, h5⟩, h6⟩
theorem put_new (B pb bb gone len D : Nat) (p : Ps) (S m c : Value) (cs sp : List Value) (data : ByteArray) (w : World) (hp : Blk w pb (p.cells S) 173) (hb : Blk w bb (bufC pb gone len m c) 232) (hne : pb ≠ bb) (hBp : B ≤ pb) (hBb : B ≤ bb)
    (hc : Row w B 153 c cs.length cs) (hcb : ∀ g, c.ownBlock = some g → g ≠ bb ∧ g ≠ pb) (hS : Row w B 153 S sp.length sp) (hSb : ∀ g, S.ownBlock = some g → g ≠ bb ∧ g ≠ pb ∧ c.ownBlock ≠ some g)
    (hst : ∀ v ∈ sp, (∃ bs : List UInt8, Row w B 5 v bs.length (bc bs)) ∧ ∀ g, v.ownBlock = some g → g ≠ pb ∧ g ≠ bb ∧ c.ownBlock ≠ some g ∧ S.ownBlock ≠ some g) (hu : p.used ≤ 1000000) (hcl : cs.length ≤ 1000000) (hd : 0 < data.size) (hlm : len ≤ 100000000) (hlt : 0 < p.ch) (hmost : p.ch ≤ 65536) (hds : data.size ≤ 100000000)
    (hD : (len : Int) - (p.mem : Int) = (D : Int)) (hrem : (D : Int).tmod (p.ch : Int) = 0) :
    Calls Tryz.prog 283 #[.pointer (some ⟨bb, 0, none⟩), .string data] w fun e w' => ∃ (n : Nat) (v v' c' S' : Value) (sp' : List Value), n = min data.size p.ch ∧ e = .returned (.int .i64 (n : Int)) ∧
      Blk w' pb (({ p with used := p.used + 1 } : Ps).cells S') 173 ∧ Row w' B 153 S' sp'.length sp' ∧ S'.ownBlock = S.ownBlock ∧ (v = .slice none 0 0 ∧ sp = [] ∧ sp' = [] ∨ ∃ v0, sp = sp' ++ [v0] ∧ v.ownBlock = v0.ownBlock) ∧
      Blk w' bb (bufC pb gone len m c') 232 ∧ (c'.ownBlock = c.ownBlock ∨ ∃ g, c'.ownBlock = some g ∧ w.heap.size ≤ g) ∧
      Row w' B 153 c' (cs.length + 1) (cs ++ [v']) ∧ Row w' B 5 v' ((tl data).take n).length (bc ((tl data).take n)) ∧ (v'.ownBlock = v.ownBlock ∨ ∃ g, v'.ownBlock = some g ∧ w.heap.size ≤ g ∧ c'.ownBlock ≠ some g) ∧
      Mv B (fun b => b = pb ∨ b = bb ∨ c.ownBlock = some b ∨ v.ownBlock = some b ∨ w.heap.size ≤ b) w w' := by
  have c0 := hb.cell (show (bufC pb gone len m c)[0]? = some _ from rfl)
  have c2 := hb.cell (show (bufC pb gone len m c)[2]? = some _ from rfl)
  have c4 := hb.cell (show (bufC pb gone len m c)[4]? = some _ from rfl)
  have d1 := hp.cell (show (p.cells S)[1]? = some _ from rfl)
  have d2 := hp.cell (show (p.cells S)[2]? = some _ from rfl)
  have htake := fun W (h1 : Blk W pb (p.cells S) 173) (h2 : Row W B 153 S sp.length sp) (h3 : ∀ v ∈ sp, (∃ bs : List UInt8, Row W B 5 v bs.length (bc bs)) ∧ ∀ g, v.ownBlock = some g → g ≠ pb) => take_any B pb p S sp W h1 hBp h2 (fun g h => (hSb g h).2.1) h3 hu
  have hst1 : ∀ v ∈ sp, (∃ bs : List UInt8, Row w B 5 v bs.length (bc bs)) ∧ ∀ g, v.ownBlock = some g → g ≠ pb := fun v hv => ⟨(hst v hv).1, fun g h => ((hst v hv).2 g h).1⟩
  obtain ⟨M, hM⟩ : ∃ M, p.mem = M := ⟨_, rfl⟩
  obtain ⟨C, hC⟩ : ∃ C, p.ch = C := ⟨_, rfl⟩
  rw [hM] at d1 hD
  rw [hC] at d2 hlt hmost hrem ⊢
  replace hM := Lib.hid hM
  replace hC := Lib.hid hC
  have hpl := hp.lt
  have hbl := hb.lt
  obtain ⟨K, hK⟩ : ∃ K, cs.length = K := ⟨_, rfl⟩
  rw [hK] at hc hcl ⊢
  obtain ⟨A, cc, rfl, hcc, hcm⟩ := hc.form
  replace hp := Lib.hid hp
  replace hb := Lib.hid hb
  replace hc := Lib.hid hc
  replace hcb := Lib.hid hcb
  replace hS := Lib.hid hS
  replace hSb := Lib.hid hSb
  replace hst := Lib.hid hst
  replace hst1 := Lib.hid hst1
  replace hK := Lib.hid hK
  have hC1 : C ≠ 0 := by omega
  have hwD : IntKind.i64.wrap (D : Int) = (D : Int) := by rw [IntKind.wrap_i64]; omega
  unfold maxLen at hcm
  obtain ⟨i0, hi, hz0, hz1, hz2⟩ := info_parts infoRow
  go_enter Tryz.func283, Tryz.ntmps283
  go_upto_region 2 with fail
  go_quiet (fail)
  go_wp2_with fail
  go_quiet (fail)
  go_wp2_with fail
  refine wp_region_last (L := 11) (S := (fun w' : World => w'.cell? ⟨bb, 4, none⟩ = some (.slice A K cc))) (by kernel_rfl) ?_
  refine wpAnyT_takeT (n := 12) (i := 0) (v := .pointer (some ⟨bb, 0, none⟩)) rfl (by kernel_rfl) (by kernel_rfl) (by kernel_rfl) (by kernel_rfl) (by kernel_rfl) (fun _ _ _ h => h) (Or.inl ⟨by rfl, ?_⟩) c4 ?_
  · intro W k0
    clear c0 c2 c4 d1 d2 htake hrem hD
    go_simp
    try (intro hx; exfalso; omega)
  try simp only [Act.put, List.setIfInBounds_toArray]
  refine wpAnyT_takeT (n := 12) (i := 1) (v := .pointer (some ⟨bb, 0, none⟩)) rfl (by kernel_rfl) (by kernel_rfl) (by kernel_rfl) (by kernel_rfl) (by kernel_rfl) (fun _ _ _ h => h) (Or.inl ⟨by rfl, ?_⟩) c4 ?_
  · intro W k0
    clear c0 c2 c4 d1 d2 htake hrem hD
    go_simp
    try (intro hx; exfalso; omega)
  try simp only [Act.put]
  refine wpAnyT_takeT (n := 12) (i := 2) (v := .pointer (some ⟨bb, 0, none⟩)) rfl (by kernel_rfl) (by kernel_rfl) (by kernel_rfl) (by kernel_rfl) (by kernel_rfl) (fun _ _ _ h => h) (Or.inl ⟨by rfl, ?_⟩) c4 ?_
  · intro W k0
    clear c0 c2 c4 d1 d2 htake hrem hD
    go_simp
    try (intro hx; exfalso; omega)
  try simp only [Act.put]
  refine wpAnyT_takeT (n := 12) (i := 3) (v := .pointer (some ⟨bb, 4, none⟩)) rfl (by kernel_rfl) (by kernel_rfl) (by kernel_rfl) (by kernel_rfl) (by kernel_rfl) (fun _ _ _ h => h) (Or.inl ⟨by rfl, ?_⟩) c4 ?_
  · intro W k0
    clear c0 c2 c4 d1 d2 htake hrem hD
    go_simp
    try (intro hx; exfalso; omega)
  try simp only [Act.put]
  refine wpAnyT_takeT (n := 12) (i := 4) (v := .slice A K cc) rfl (by kernel_rfl) (by kernel_rfl) (by kernel_rfl) (by kernel_rfl) (by kernel_rfl) (fun _ _ _ h => h) (Or.inl ⟨by rfl, ?_⟩) c4 ?_
  · intro W k0
    clear c0 c2 c4 d1 d2 htake hrem hD
    go_simp
    try (intro hx; exfalso; omega)
  try simp only [Act.put]
  refine wpAnyT_takeT (n := 12) (i := 5) (v := .pointer (some ⟨pb, 0, none⟩)) rfl (by kernel_rfl) (by kernel_rfl) (by kernel_rfl) (by kernel_rfl) (by kernel_rfl) (fun _ _ _ h => h) (Or.inl ⟨by rfl, ?_⟩) c4 ?_
  · intro W k0
    clear c0 c2 c4 d1 d2 htake hrem hD
    go_simp
    try (intro hx; exfalso; omega)
  try simp only [Act.put]
  refine wpAnyT_one (i := 6) rfl (by kernel_rfl) rfl ?_
  go_simp
  refine (htake _ ?_ ?_ ?_).mono ?_
  · exact hp.out
  · exact hS.out
  · exact hst1.out
  rintro e w1 ⟨v, S', sp', rfl, hp1, hS1, hSo, hv1, hvo, m1'⟩
  have m1 : Mv B (fun b => b = pb ∨ b = bb ∨ (Value.slice A K cc).ownBlock = some b ∨ v.ownBlock = some b ∨ w.heap.size ≤ b) w w1 := Mv.mono (w := w) ⟨m1'.os, m1'.tape, m1'.output, m1'.size, m1'.block, m1'.keep⟩ (fun b _ h => .inl h)
  have hv0 : ∀ g, v.ownBlock = some g → g ≠ pb ∧ g ≠ bb ∧ (Value.slice A K cc).ownBlock ≠ some g ∧ S'.ownBlock ≠ some g := by
    intro g hg
    rcases hvo with ⟨rfl, _⟩ | ⟨v0, h1, h2⟩
    · cases hg
    · rw [hSo]
      exact (hst.out v0 (by rw [h1]; simp)).2 g (by rw [← h2]; exact hg)
  have hSo1 : ∀ g, S'.ownBlock = some g → g ≠ bb ∧ g ≠ pb ∧ (Value.slice A K cc).ownBlock ≠ some g := fun g h => hSb.out g (by rw [← hSo]; exact h)
  have hb1 : Blk w1 bb (bufC pb gone len m (.slice A K cc)) 232 := (m1'.block bb hbl (fun h => hne h.symm)).trans hb.out
  have hc1 : Row w1 B 153 (.slice A K cc) K cs := hc.out.keep fun g hg => m1'.block g (hc.out.lt hg).2.1 (hcb.out g hg).2
  have hsz1 : w.heap.size ≤ w1.heap.size := m1'.size
  obtain ⟨A0, c0', rfl, _, _⟩ := hv1.form
  replace m1 := Lib.hid m1
  have k4 := hb1.cell (show (bufC pb gone len m (.slice A K cc))[4]? = some _ from rfl)
  clear m1' c4 c0 c2 d1 d2 htake
  replace hp1 := Lib.hid hp1
  replace hS1 := Lib.hid hS1
  replace hSo := Lib.hid hSo
  replace hv1 := Lib.hid hv1
  replace hvo := Lib.hid hvo
  replace hb1 := Lib.hid hb1
  replace hc1 := Lib.hid hc1
  replace hv0 := Lib.hid hv0
  replace hSo1 := Lib.hid hSo1
  refine ⟨k4, ?_⟩
  refine wpAnyT_one (i := 7) rfl (by kernel_rfl) rfl ?_
  go_simp
  have hB2 := Blk.new w1 [.slice A0 0 c0'] 153
  have m2 := m1.out.trans (Mv.alloc B _ w1 (.cells #[.slice A0 0 c0'] 153))
  have hb2 := hb1.out.alloc (.cells #[.slice A0 0 c0'] 153)
  have hp2 := hp1.out.alloc (.cells #[.slice A0 0 c0'] 153)
  have hc2 : Row (w1.alloc (.cells #[.slice A0 0 c0'] 153)) B 153 (.slice A K cc) K cs := hc1.out.keep fun g hg => Below.heap_alloc w1 _ g (hc1.out.lt hg).2.1
  have hv2 : Row (w1.alloc (.cells #[.slice A0 0 c0'] 153)) B 5 (.slice A0 0 c0') 0 (bc []) := hv1.out.keep fun g hg => Below.heap_alloc w1 _ g (hv1.out.lt hg).2.1
  have hS2 : Row (w1.alloc (.cells #[.slice A0 0 c0'] 153)) B 153 S' sp'.length sp' := hS1.out.keep fun g hg => Below.heap_alloc w1 _ g (hS1.out.lt hg).2.1
  have hsz2 : (w1.alloc (.cells #[.slice A0 0 c0'] 153)).heap.size = w1.heap.size + 1 := by simp
  generalize hw2 : w1.alloc (.cells #[.slice A0 0 c0'] 153) = w2 at hB2 m2 hb2 hp2 hc2 hv2 hS2 hsz2 ⊢
  obtain ⟨y, hy⟩ : ∃ y, w1.heap.size = y := ⟨_, rfl⟩
  rw [hy] at hB2 hsz2 hsz1 ⊢
  have k4 := hb2.cell (show (bufC pb gone len m (.slice A K cc))[4]? = some _ from rfl)
  obtain ⟨c', w3, hrun, hc3, m3, how⟩ := run_append_row (P := Tryz.prog) w2 B 171 171 171 153 i0 _ Tryz.underlying171 hi hz0 hz1 rfl four_rows (.slice A K cc) K cs hc2 (.slice (some ⟨y, 0, none⟩) 1 1) 1 [.slice A0 0 c0']
    (Src.ofSlice w2 Tryz.underlying171 _ 1 1 _ rfl (fun j u hu => by rw [add_plain0, Nat.zero_add]; exact hB2.cell hu) (by simp [Value.oneCell'])) (by rw [hz2]; omega) (by omega) (by omega)
  have hb3 : Blk w3 bb _ _ := hb2.mv m3 fun h => (hcb.out bb h).1 rfl
  have hp3 : Blk w3 pb _ _ := hp2.mv m3 fun h => (hcb.out pb h).2 rfl
  have hv3 := hv2.mv m3 fun g hg => (hv0.out g hg).2.2.1
  have hS3 := hS2.mv m3 fun g hg => (hSo1.out g hg).2.2
  obtain ⟨g, off, cap, rfl, hcc3, hcm3, hBg⟩ := hc3.form1 (Nat.succ_pos _)
  have hgw : (Value.slice A K cc).ownBlock = some g ∨ g = w2.heap.size := how.imp (fun h => h.symm) (fun h => by cases h; rfl)
  have hgb : g ≠ bb := by
    rcases hgw with h | h
    · exact (hcb.out g h).1
    · have := hb2.lt; omega
  have hgp : g ≠ pb := by
    rcases hgw with h | h
    · exact (hcb.out g h).2
    · have := hp2.lt; omega
  have hgv : (Value.slice A0 0 c0').ownBlock ≠ some g := by
    intro hg
    rcases hgw with h | h
    · exact (hv0.out g hg).2.2.1 h
    · have := (hv2.lt hg).2.1; omega
  have m3w : Mv B (fun b => b = pb ∨ b = bb ∨ (Value.slice A K cc).ownBlock = some b ∨ (Value.slice A0 0 c0').ownBlock = some b ∨ w.heap.size ≤ b) w w3 := m2.trans (m3.mono fun b _ h => .inr (.inr (.inl h)))
  have hgs : S'.ownBlock ≠ some g := by
    intro hg
    rcases hgw with h | h
    · exact (hSo1.out g hg).2.2 h
    · have := (hS2.lt hg).2.1; omega
  have k3 := hb3.cell (show (bufC pb gone len m (.slice A K cc))[4]? = some _ from rfl)
  have f3 := hb3.frozen 4
  have hsz3 := m3.size
  replace hB2 := Lib.hid hB2
  replace m2 := Lib.hid m2
  replace hb2 := Lib.hid hb2
  replace hp2 := Lib.hid hp2
  replace hc2 := Lib.hid hc2
  replace hv2 := Lib.hid hv2
  replace hS2 := Lib.hid hS2
  replace hrun := Lib.hid hrun
  replace hc3 := Lib.hid hc3
  replace m3 := Lib.hid m3
  replace how := Lib.hid how
  replace hgw := Lib.hid hgw
  replace hb3 := Lib.hid hb3
  replace hp3 := Lib.hid hp3
  replace hv3 := Lib.hid hv3
  replace hS3 := Lib.hid hS3
  replace hgs := Lib.hid hgs
  replace hgv := Lib.hid hgv
  replace m3w := Lib.hid m3w
  replace hw2 := Lib.hid hw2
  replace hy := Lib.hid hy
  refine ⟨k4, ?_⟩
  clear k4 hi hz0 hz1 hz2
  refine wpAnyT_one (i := 8) rfl (by kernel_rfl) rfl ?_
  refine wp_append_of (.tmp 47) (.tmp 50) 171 171 rfl _ _ _ w3 rfl rfl hrun.out ?_
  refine ⟨fun _ => k3, ?_⟩
  try simp only [Act.put, List.setIfInBounds_toArray]
  refine wpAnyT_one (i := 9) rfl (by kernel_rfl) rfl ?_
  go_simp
  refine wpAnyT_one (i := 10) rfl (by kernel_rfl) rfl ?_
  go_simp
  refine wpAnyT_one (i := 11) rfl (by kernel_rfl) rfl ?_
  clear k3
  have k3 := hb3.out.cell (show (bufC pb gone len m (.slice A K cc))[4]? = some _ from rfl)
  go_simp
  refine wpAnyT_done (by kernel_rfl) ?_ _
  have hb4 := hb3.out.set 4 (.slice (some ⟨g, off, none⟩) (K + 1) cap)
  have e4 : (bufC pb gone len m (.slice A K cc)).set 4 (.slice (some ⟨g, off, none⟩) (K + 1) cap) = bufC pb gone len m (.slice (some ⟨g, off, none⟩) (K + 1) cap) := rfl
  rw [e4] at hb4
  have m4 := m3w.out.trans (Mv.set hb3.out (.inr (.inl rfl)) four_buf hBb 4 (.slice (some ⟨g, off, none⟩) (K + 1) cap))
  have hp4 := hp3.out.other (a := ⟨bb, 4, none⟩) hne (.slice (some ⟨g, off, none⟩) (K + 1) cap)
  have hc4 : Row (w3.setCell ⟨bb, 4, none⟩ (.slice (some ⟨g, off, none⟩) (K + 1) cap)) B 153 (.slice (some ⟨g, off, none⟩) (K + 1) cap) (K + 1) (cs ++ [.slice A0 0 c0']) := hc3.out.keep fun g' hg => by cases hg; exact heap_setCell_other w3 _ g _ hgb
  have hv4 : Row (w3.setCell ⟨bb, 4, none⟩ (.slice (some ⟨g, off, none⟩) (K + 1) cap)) B 5 (.slice A0 0 c0') 0 (bc []) := hv3.out.keep fun g' hg => heap_setCell_other w3 _ g' _ (hv0.out g' hg).2.1
  have hS4 : Row (w3.setCell ⟨bb, 4, none⟩ (.slice (some ⟨g, off, none⟩) (K + 1) cap)) B 153 S' sp'.length sp' := hS3.out.keep fun g' hg => heap_setCell_other w3 _ g' _ (hSo1.out g' hg).1
  have hsz4 : (w3.setCell ⟨bb, 4, none⟩ (.slice (some ⟨g, off, none⟩) (K + 1) cap)).heap.size = w3.heap.size := by simp [World.setCell]
  generalize w3.setCell ⟨bb, 4, none⟩ (.slice (some ⟨g, off, none⟩) (K + 1) cap) = w4 at hb4 m4 hp4 hc4 hv4 hS4 hsz4 ⊢
  have c4 := hb4.cell (show (bufC pb gone len m (.slice (some ⟨g, off, none⟩) (K + 1) cap))[4]? = some _ from rfl)
  have d2 := hp4.cell (show (Ps.cells { p with used := p.used + 1 } S')[2]? = some _ from rfl)
  simp only [hC.out] at d2
  have hpl := hp4.lt
  have hbl := hb4.lt
  obtain ⟨_, hgl, cur, hcur⟩ := hc4.lt (g := g) rfl
  have hv : cur[off + K]? = some (.slice A0 0 c0') := by
    have h1 := hc4.cell (j := K) (u := .slice A0 0 c0') (by rw [← hK.out]; simp)
    rw [cell_of_row w4 g _ _ _ _ hcur] at h1
    simpa using h1
  have hcall := fun W (h1 : Blk W g cur 153) (h2 : Row W B 5 (.slice A0 0 c0') 0 (bc [])) (h3 : B ≤ W.heap.size) => extend_any B g (off + K) _ 153 (.slice A0 0 c0') [] data C W h1 hv four_rows hBg h2 (fun g' h => fun e => hgv.out (by rw [h, e])) hd hlt hmost h3 hds
  have hi0 : (0 : Int) ≤ (K : Int) := by omega
  have hi1 : (K : Int) < (K : Int) + 1 := by omega
  have hwn : IntKind.i64.wrap (K : Int) = (K : Int) := by rw [IntKind.wrap_i64]; omega
  have hwn1 : IntKind.i64.wrap (((K + 1 : Nat) : Int) - 1) = (K : Int) := by rw [IntKind.wrap_i64]; omega
  have hwn2 : IntKind.i64.wrap ((K : Int) + 1 - 1) = (K : Int) := by rw [IntKind.wrap_i64]; omega
  have hB4 : B ≤ w4.heap.size := by omega
  unfold maxLen at hcm3
  replace hb4 := Lib.hid hb4
  replace hp4 := Lib.hid hp4
  replace hc4 := Lib.hid hc4
  replace hv4 := Lib.hid hv4
  replace hS4 := Lib.hid hS4
  replace m4 := Lib.hid m4
  replace hcur := Lib.hid hcur
  replace hv := Lib.hid hv
  clear k3 f3 e4 hwD hrem hD hd hds
  go_wp2_with fail
  go_region_held3 (fun w' => w'.cell? ⟨pb, 2, none⟩ = some (.int .i64 (C : Int)) ∧ w'.cell? ⟨bb, 4, none⟩ = some (.slice (some ⟨g, off, none⟩) (K + 1) cap))
    (first | go_keep | exact hk)
    ((go_at_call 284; refine (hcall _ ?_ ?_ ?_).mono ?_; exact hcur.out; exact hv4.out; exact hB4; rintro e w5 ⟨N, v', hN, rfl, hb5, hr5, m5', how5, hne5⟩; replace hN := Lib.hid hN;
      have m5 : Mv B (fun b => b = g ∨ (Value.slice A0 0 c0').ownBlock = some b) w4 w5 := ⟨m5'.os, m5'.tape, m5'.output, m5'.size, m5'.block, m5'.keep⟩;
      have hk : w5.cell? ⟨pb, 2, none⟩ = some (.int .i64 (C : Int)) ∧ w5.cell? ⟨bb, 4, none⟩ = some (.slice (some ⟨g, off, none⟩) (K + 1) cap) := ⟨(World.cell?_of_block (a := ⟨pb, 2, none⟩) (m5.block pb hpl (fun h => h.elim (fun h => hgp h.symm) (fun h => (hv0.out pb h).1 rfl)))).trans d2, (World.cell?_of_block (a := ⟨bb, 4, none⟩) (m5.block bb hbl (fun h => h.elim (fun h => hgb h.symm) (fun h => (hv0.out bb h).2.1 rfl)))).trans c4⟩))
  have hrow := Lib.hid (row_set_last hc4.out hK.out hcur.out hb5)
  have hp5 : Blk w5 pb _ _ := hp4.out.mv m5 fun h => h.elim (fun h => hgp h.symm) (fun h => (hv0.out pb h).1 rfl)
  have hb5' : Blk w5 bb _ _ := hb4.out.mv m5 fun h => h.elim (fun h => hgb h.symm) (fun h => (hv0.out bb h).2.1 rfl)
  have hS5 := hS4.out.mv m5 fun g' hg => fun h => h.elim (fun h => hgs.out (by rw [hg, h])) (fun h => (hv0.out g' h).2.2.2 hg)
  have hnew : w.heap.size ≤ w4.heap.size := m4.out.size
  have hcn : ∀ h : Nat, (Value.slice (some ⟨g, off, none⟩) (K + 1) cap).ownBlock = some h → h < w4.heap.size := fun h e => by cases e; exact hgl
  have m5w := m4.out.trans (m5.mono fun b hb h => by
    rcases h with h | h
    · rcases hgw.out with hx | hx
      · exact .inr (.inr (.inl (by rw [h]; exact hx)))
      · exact .inr (.inr (.inr (.inr (by omega))))
    · exact .inr (.inr (.inr (.inl h))))
  replace hp5 := Lib.hid hp5
  replace hb5 := Lib.hid hb5
  replace hb5' := Lib.hid hb5'
  replace hS5 := Lib.hid hS5
  replace m5w := Lib.hid m5w
  replace m5 := Lib.hid m5
  replace hr5 := Lib.hid hr5
  replace how5 := Lib.hid how5
  replace hne5 := Lib.hid hne5
  replace hcn := Lib.hid hcn
  clear hcall hk m5' hwn hwn1 hwn2
  go_wp2
  go_ret
  refine ⟨N, _, v', _, S', sp', by rw [hN.out]; simp, rfl, by rw [← hC.out]; exact hp5.out, hS5.out, hSo.out, hvo.out, hb5'.out, ?_, hrow.out, by simpa using hr5.out, ?_, m5w.out⟩
  · rcases hgw.out with h | h
    · exact .inl h.symm
    · exact .inr ⟨g, rfl, by omega⟩
  · rcases how5.out with h | h
    · exact .inl h
    · refine .inr ⟨_, h, hnew, fun e => ?_⟩
      exact absurd (hcn.out _ e) (Nat.lt_irrefl _)
end Go.Proofs.YtfofpphnglhopaaGreatDoor
