/-
  extend: a beginning of the data is moved behind what a stretch has, till it is full. Conditions: something is to be moved, and there is room; at most 65536 bytes.
-/
import Derived.Test.YtbjakhiflgjflaaGreatDoorSpGrow
import Derived.Deep.Cut
import Derived.Deep.DeepCutAuto
namespace Go.Proofs.YtbjakhiflgjflaaGreatDoor
open Go Go.RowKit

/-- Bytes as cells. -/
def bc (l : List UInt8) : List Value := l.map fun b => .int .u8 b.toNat
def tl (s : ByteArray) : List UInt8 := s.data.toList
theorem bc_str (s : ByteArray) : byteCells s = bc (tl s) := rfl
theorem bc_len (l : List UInt8) : (bc l).length = l.length := List.length_map _
theorem bc_app (a b : List UInt8) : bc (a ++ b) = bc a ++ bc b := List.map_append
theorem bc_take (a : List UInt8) (n : Nat) : bc (a.take n) = (bc a).take n := List.map_take
theorem bc_drop (a : List UInt8) (n : Nat) : bc (a.drop n) = (bc a).drop n := List.map_drop
theorem bc_one (l : List UInt8) : ∀ u ∈ bc l, u.oneCell' = true := by
  intro u hu
  obtain ⟨_, _, rfl⟩ := List.mem_map.1 hu
  rfl
theorem tl_len (s : ByteArray) : (tl s).length = s.size := Array.length_toList

theorem row_over {w : World} {B g off n k c : Nat} {cur bs : List Value} {v : Value} (s : List Value) (hv : v = .slice (some ⟨g, off, none⟩) (n + k) c) (h0 : B ≤ g) (hb : Blk w g cur 5) (h2 : n + k ≤ c) (hcm : c ≤ maxLen) (h3 : off + c ≤ cur.length) (h4 : (cur.drop off).take n = bs) (hs : s.length = k) :
    Row (w.setRow g (cur.take (off + n) ++ s ++ cur.drop (off + n + k)).toArray) B 5 v (n + k) (bs ++ s) := by
  refine .inr ⟨g, off, c, _, hv, h0, hb.row _, h2, hcm, ?_, ?_⟩
  · simp only [List.length_append, List.length_take, List.length_drop]; omega
  · have e1 : (cur.take (off + n) ++ s ++ cur.drop (off + n + k)).drop off = (cur.drop off).take n ++ s ++ cur.drop (off + n + k) := by
      rw [List.append_assoc, List.drop_append_of_le_length (by rw [List.length_take]; omega), List.drop_take, Nat.add_sub_cancel_left, List.append_assoc]
    rw [e1, h4]
    have hbl : bs.length = n := by rw [← h4, List.length_take, List.length_drop]; omega
    exact List.take_left' (by rw [List.length_append]; omega)

set_option maxHeartbeats 2000000 in
set_option maxRecDepth 100000 in
theorem extend_all (B ab ai : Nat) (cur : List Value) (T : TypeId) (v : Value) (bs : List UInt8) (data : ByteArray) (most KL : Nat) (w : World) (hb : Blk w ab cur T) (hv : cur[ai]? = some v) (hT : Four T) (hBb : B ≤ ab)
    (hr : Row w B 5 v KL (bc bs)) (hKL : bs.length = KL) (hne : ∀ g, v.ownBlock = some g → g ≠ ab) (hmost : most ≤ 65536) (hB : B ≤ w.heap.size) (hds : data.size ≤ 100000000) (hn0 : 0 < data.size) (hle : KL + data.size ≤ most) :
    Calls Tryz.prog 285 #[.pointer (some ⟨ab, ai, none⟩), .string data, .int .i64 (most : Int)] w fun e w' => ∃ v', e = .returned (.int .i64 (data.size : Int)) ∧
      Blk w' ab (cur.set ai v') T ∧ Row w' B 5 v' (KL + data.size) (bc (bs ++ (tl data).take data.size)) ∧ Mv B (fun b => b = ab ∨ v.ownBlock = some b) w w' ∧ (v'.ownBlock = v.ownBlock ∨ v'.ownBlock = some w.heap.size) ∧ ∀ g, v'.ownBlock = some g → g ≠ ab := by
  obtain ⟨A, c0, rfl, hc0, hcm0⟩ := hr.form
  have hcell := hb.cell hv
  have hfz := hb.frozen ai
  have hai : ai < cur.length := by
    obtain ⟨h, _⟩ := List.getElem?_eq_some_iff.1 hv
    exact h
  have habl := hb.lt
  have hgr := grow_any B (.slice A KL c0) KL (bc bs) data.size w hr (by omega) (by omega) hB
  replace hKL := Lib.hid hKL
  replace hr := Lib.hid hr
  replace hb := Lib.hid hb
  unfold maxLen at hcm0
  go_enter Tryz.func285, Tryz.ntmps285
  go_wp2_with fail
  refine hgr.mono ?_
  rintro e w2 ⟨g, off, c, rfl, hc, hcm, hr2, hg2, how⟩
  have hb2 : Blk w2 ab cur T := (hg2.block ab habl (by simp)).trans hb.out
  have hga : g ≠ ab := by
    rcases how with how | how
    · exact hne g how
    · omega
  have hc2 := hb2.cell hv
  have hf2 := hb2.frozen ai
  obtain ⟨ys, hys⟩ := hr2.room (KL + data.size) (by omega) hc
  have hsz2 := hg2.size
  replace hys := Lib.hid hys
  replace hr2 := Lib.hid hr2
  replace hg2 := Lib.hid hg2
  replace hb2 := Lib.hid hb2
  replace how := Lib.hid how
  unfold maxLen at hcm
  clear hcell hfz hgr
  go_upto_region 4 with fail
  have hb3 := hb2.out.set ai (.slice (some ⟨g, off, none⟩) (KL + data.size) c)
  have hm3 : Mv B (fun b => b = ab ∨ (Value.slice A KL c0).ownBlock = some b) w (w2.setCell ⟨ab, ai, none⟩ (.slice (some ⟨g, off, none⟩) (KL + data.size) c)) := (Mv.of_none hg2.out).trans (Mv.set hb2.out (.inl rfl) hT hBb _ _)
  have hs3 : (w2.setCell ⟨ab, ai, none⟩ (.slice (some ⟨g, off, none⟩) (KL + data.size) c)).heap.size = w2.heap.size := by simp [World.setCell]
  have hys3 : Row (w2.setCell ⟨ab, ai, none⟩ (.slice (some ⟨g, off, none⟩) (KL + data.size) c)) B 5 (.slice (some ⟨g, off, none⟩) (KL + data.size) c) (KL + data.size) (bc bs ++ ys) := hys.out.keep fun g' hg' => by cases hg'; exact heap_setCell_other w2 _ g _ hga
  generalize w2.setCell ⟨ab, ai, none⟩ (.slice (some ⟨g, off, none⟩) (KL + data.size) c) = w3 at hb3 hm3 hs3 hys3 ⊢
  have hc3 := hb3.cell (show (cur.set ai _)[ai]? = some _ by rw [List.getElem?_set_self hai])
  obtain ⟨h0, _, ⟨cur3, hbg⟩⟩ := hys3.lt (g := g) rfl
  have hcur : off + c ≤ cur3.length ∧ (cur3.drop off).take KL = bc bs := by
    rcases hys3 with ⟨h, _⟩ | ⟨g', off', cap', cur', hv', _, h1, _, _, h4, h5⟩
    · cases h
    · cases hv'
      obtain rfl := Blk.inj h1 hbg
      refine ⟨h4, ?_⟩
      have := congrArg (List.take KL) h5
      rw [List.take_take, Nat.min_eq_left (by omega), List.take_left' (by rw [bc_len]; exact hKL.out)] at this
      exact this
  have hrun := fun ty => run_copy_str (P := Tryz.prog) w3 134 9 ty 5 Tryz.underlying134 (by kernel_rfl) g (off + KL) data.size (c - KL) cur3 5 hbg data (by omega) (by omega)
  have hrw : Row (w3.setRow g (cur3.take (off + KL) ++ (byteCells data).take data.size ++ cur3.drop (off + KL + data.size)).toArray) B 5 (.slice (some ⟨g, off, none⟩) (KL + data.size) c) (KL + data.size) (bc bs ++ (byteCells data).take data.size) :=
    row_over _ rfl h0 hbg hc (by unfold maxLen; omega) hcur.1 hcur.2 (by rw [List.length_take, byteCells_length]; omega)
  have hb4 : Blk (w3.setRow g (cur3.take (off + KL) ++ (byteCells data).take data.size ++ cur3.drop (off + KL + data.size)).toArray) ab _ T := (setRow_other w3 g ab _ (fun h => hga h.symm)).trans hb3
  have hm4 : Mv B (fun b => b = ab ∨ (Value.slice A KL c0).ownBlock = some b) w (w3.setRow g (cur3.take (off + KL) ++ (byteCells data).take data.size ++ cur3.drop (off + KL + data.size)).toArray) := by
    rcases how.out with how | how
    · exact hm3.trans (Mv.row hbg (.inr how) four_byte h0 _)
    · exact hm3.row_new (by omega) _
  generalize (cur3.take (off + KL) ++ (byteCells data).take data.size ++ cur3.drop (off + KL + data.size)).toArray = arr at hrun hrw hb4 hm4
  rw [bc_str, ← bc_take, ← bc_app] at hrw
  clear hb3 hm3 hys3 hcur hbg hs3
  replace hrw := Lib.hid hrw
  replace hb4 := Lib.hid hb4
  replace hm4 := Lib.hid hm4
  go_wp2_with (at_builtin; refine wpList_copy_of rfl _ _ 134 9 rfl _ _ _ _ rfl rfl (hrun _) ?_)
  go_wp2
  go_ret
  exact ⟨_, rfl, hb4.out, hrw.out, hm4.out, how.out.imp (fun h => h.symm) (fun h => by rw [h]; rfl), fun g' h => by cases h; exact hga⟩
set_option maxHeartbeats 2000000 in
set_option maxRecDepth 100000 in
theorem extend_part (B ab ai : Nat) (cur : List Value) (T : TypeId) (v : Value) (bs : List UInt8) (data : ByteArray) (most n KL : Nat) (w : World) (hb : Blk w ab cur T) (hv : cur[ai]? = some v) (hT : Four T) (hBb : B ≤ ab)
    (hr : Row w B 5 v KL (bc bs)) (hKL : bs.length = KL) (hne : ∀ g, v.ownBlock = some g → g ≠ ab) (hmost : most ≤ 65536) (hB : B ≤ w.heap.size) (hds : data.size ≤ 100000000) (hn0 : 0 < n) (hmn : (most : Int) - (KL : Int) = (n : Int)) (hgt : n < data.size) :
    Calls Tryz.prog 285 #[.pointer (some ⟨ab, ai, none⟩), .string data, .int .i64 (most : Int)] w fun e w' => ∃ v', e = .returned (.int .i64 (n : Int)) ∧
      Blk w' ab (cur.set ai v') T ∧ Row w' B 5 v' (KL + n) (bc (bs ++ (tl data).take n)) ∧ Mv B (fun b => b = ab ∨ v.ownBlock = some b) w w' ∧ (v'.ownBlock = v.ownBlock ∨ v'.ownBlock = some w.heap.size) ∧ ∀ g, v'.ownBlock = some g → g ≠ ab := by
  obtain ⟨A, c0, rfl, hc0, hcm0⟩ := hr.form
  have hcell := hb.cell hv
  have hfz := hb.frozen ai
  have hai : ai < cur.length := by
    obtain ⟨h, _⟩ := List.getElem?_eq_some_iff.1 hv
    exact h
  have habl := hb.lt
  have hgr := grow_any B (.slice A KL c0) KL (bc bs) n w hr (by omega) (by omega) hB
  replace hKL := Lib.hid hKL
  replace hr := Lib.hid hr
  replace hb := Lib.hid hb
  unfold maxLen at hcm0
  go_enter Tryz.func285, Tryz.ntmps285
  go_wp2_with fail
  refine hgr.mono ?_
  rintro e w2 ⟨g, off, c, rfl, hc, hcm, hr2, hg2, how⟩
  have hb2 : Blk w2 ab cur T := (hg2.block ab habl (by simp)).trans hb.out
  have hga : g ≠ ab := by
    rcases how with how | how
    · exact hne g how
    · omega
  have hc2 := hb2.cell hv
  have hf2 := hb2.frozen ai
  obtain ⟨ys, hys⟩ := hr2.room (KL + n) (by omega) hc
  have hsz2 := hg2.size
  replace hys := Lib.hid hys
  replace hr2 := Lib.hid hr2
  replace hg2 := Lib.hid hg2
  replace hb2 := Lib.hid hb2
  replace how := Lib.hid how
  unfold maxLen at hcm
  clear hcell hfz hgr
  go_upto_region 4 with fail
  have hb3 := hb2.out.set ai (.slice (some ⟨g, off, none⟩) (KL + n) c)
  have hm3 : Mv B (fun b => b = ab ∨ (Value.slice A KL c0).ownBlock = some b) w (w2.setCell ⟨ab, ai, none⟩ (.slice (some ⟨g, off, none⟩) (KL + n) c)) := (Mv.of_none hg2.out).trans (Mv.set hb2.out (.inl rfl) hT hBb _ _)
  have hs3 : (w2.setCell ⟨ab, ai, none⟩ (.slice (some ⟨g, off, none⟩) (KL + n) c)).heap.size = w2.heap.size := by simp [World.setCell]
  have hys3 : Row (w2.setCell ⟨ab, ai, none⟩ (.slice (some ⟨g, off, none⟩) (KL + n) c)) B 5 (.slice (some ⟨g, off, none⟩) (KL + n) c) (KL + n) (bc bs ++ ys) := hys.out.keep fun g' hg' => by cases hg'; exact heap_setCell_other w2 _ g _ hga
  generalize w2.setCell ⟨ab, ai, none⟩ (.slice (some ⟨g, off, none⟩) (KL + n) c) = w3 at hb3 hm3 hs3 hys3 ⊢
  have hc3 := hb3.cell (show (cur.set ai _)[ai]? = some _ by rw [List.getElem?_set_self hai])
  obtain ⟨h0, _, ⟨cur3, hbg⟩⟩ := hys3.lt (g := g) rfl
  have hcur : off + c ≤ cur3.length ∧ (cur3.drop off).take KL = bc bs := by
    rcases hys3 with ⟨h, _⟩ | ⟨g', off', cap', cur', hv', _, h1, _, _, h4, h5⟩
    · cases h
    · cases hv'
      obtain rfl := Blk.inj h1 hbg
      refine ⟨h4, ?_⟩
      have := congrArg (List.take KL) h5
      rw [List.take_take, Nat.min_eq_left (by omega), List.take_left' (by rw [bc_len]; exact hKL.out)] at this
      exact this
  have hrun := fun ty => run_copy_str (P := Tryz.prog) w3 134 9 ty 5 Tryz.underlying134 (by kernel_rfl) g (off + KL) n (c - KL) cur3 5 hbg data (by omega) (by omega)
  have hrw : Row (w3.setRow g (cur3.take (off + KL) ++ (byteCells data).take n ++ cur3.drop (off + KL + n)).toArray) B 5 (.slice (some ⟨g, off, none⟩) (KL + n) c) (KL + n) (bc bs ++ (byteCells data).take n) :=
    row_over _ rfl h0 hbg hc (by unfold maxLen; omega) hcur.1 hcur.2 (by rw [List.length_take, byteCells_length]; omega)
  have hb4 : Blk (w3.setRow g (cur3.take (off + KL) ++ (byteCells data).take n ++ cur3.drop (off + KL + n)).toArray) ab _ T := (setRow_other w3 g ab _ (fun h => hga h.symm)).trans hb3
  have hm4 : Mv B (fun b => b = ab ∨ (Value.slice A KL c0).ownBlock = some b) w (w3.setRow g (cur3.take (off + KL) ++ (byteCells data).take n ++ cur3.drop (off + KL + n)).toArray) := by
    rcases how.out with how | how
    · exact hm3.trans (Mv.row hbg (.inr how) four_byte h0 _)
    · exact hm3.row_new (by omega) _
  generalize (cur3.take (off + KL) ++ (byteCells data).take n ++ cur3.drop (off + KL + n)).toArray = arr at hrun hrw hb4 hm4
  rw [bc_str, ← bc_take, ← bc_app] at hrw
  clear hb3 hm3 hys3 hcur hbg hs3
  replace hrw := Lib.hid hrw
  replace hb4 := Lib.hid hb4
  replace hm4 := Lib.hid hm4
  go_wp2_with (at_builtin; refine wpList_copy_of rfl _ _ 134 9 rfl _ _ _ _ rfl rfl (hrun _) ?_)
  go_wp2
  go_ret
  exact ⟨_, rfl, hb4.out, hrw.out, hm4.out, how.out.imp (fun h => h.symm) (fun h => by rw [h]; rfl), fun g' h => by cases h; exact hga⟩
/-- Both ways. -/
theorem extend_any (B ab ai : Nat) (cur : List Value) (T : TypeId) (v : Value) (bs : List UInt8) (data : ByteArray) (most : Nat) (w : World) (hb : Blk w ab cur T) (hv : cur[ai]? = some v) (hT : Four T) (hBb : B ≤ ab)
    (hr : Row w B 5 v bs.length (bc bs)) (hne : ∀ g, v.ownBlock = some g → g ≠ ab) (hd : 0 < data.size) (hlt : bs.length < most) (hmost : most ≤ 65536) (hB : B ≤ w.heap.size) (hds : data.size ≤ 100000000) :
    Calls Tryz.prog 285 #[.pointer (some ⟨ab, ai, none⟩), .string data, .int .i64 (most : Int)] w fun e w' => ∃ n v', n = min data.size (most - bs.length) ∧ e = .returned (.int .i64 (n : Int)) ∧
      Blk w' ab (cur.set ai v') T ∧ Row w' B 5 v' (bs ++ (tl data).take n).length (bc (bs ++ (tl data).take n)) ∧ Mv B (fun b => b = ab ∨ v.ownBlock = some b) w w' ∧ (v'.ownBlock = v.ownBlock ∨ v'.ownBlock = some w.heap.size) ∧ ∀ g, v'.ownBlock = some g → g ≠ ab := by
  have hl : ∀ n, n ≤ data.size → (bs ++ (tl data).take n).length = bs.length + n := fun n hn => by rw [List.length_append, List.length_take, tl_len]; omega
  by_cases hle : bs.length + data.size ≤ most
  · refine (extend_all B ab ai cur T v bs data most bs.length w hb hv hT hBb hr rfl hne hmost hB hds hd hle).mono ?_
    rintro e w' ⟨v', he, h1, h2, h3⟩
    exact ⟨data.size, v', by omega, he, h1, by rw [hl _ (Nat.le_refl _)]; exact h2, h3⟩
  · refine (extend_part B ab ai cur T v bs data most (most - bs.length) bs.length w hb hv hT hBb hr rfl hne hmost hB hds (by omega) (by omega) (by omega)).mono ?_
    rintro e w' ⟨v', he, h1, h2, h3⟩
    exact ⟨most - bs.length, v', by omega, he, h1, by rw [hl _ (by omega)]; exact h2, h3⟩
end Go.Proofs.YtbjakhiflgjflaaGreatDoor
