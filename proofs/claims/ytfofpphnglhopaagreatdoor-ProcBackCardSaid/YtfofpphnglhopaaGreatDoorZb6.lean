/-
  A part. Conditions: each theorem's own.
-/
import Derived.Shelf.Strings.Trim
import Derived.Shelf.Strings.LastIndex
import Derived.Shelf.Small.Strs
import Derived.Test.YtfofpphnglhopaaGreatDoorProg
import Derived.WalkMore
import Derived.Handy
import Derived.Deep.AppendSrc
import Derived.Laws.CopyRow
import Derived.Deep.RegionHeld3
import Derived.Deep.QuietTactic
import Derived.BigQuiet
import Derived.Test.YtfofpphnglhopaaGreatDoorZb0
import Derived.Test.YtfofpphnglhopaaGreatDoorZb5
set_option maxHeartbeats 8000000
set_option maxRecDepth 100000
namespace Go.Proofs.YtfofpphnglhopaaGreatDoor
open Go Go.RowKit
def putB (d : List UInt8) (a : Nat) (s : List UInt8) : List UInt8 := (d ++ List.replicate (a + s.length - d.length) 0).take a ++ s ++ (d ++ List.replicate (a + s.length - d.length) 0).drop (a + s.length)
theorem putB_len {d : List UInt8} {a : Nat} {s : List UInt8} : (putB d a s).length = max d.length (a + s.length) := by
  unfold putB
  simp only [List.length_append, List.length_take, List.length_drop, List.length_replicate]
  omega
theorem bc_rep (k : Nat) : List.replicate k (Value.int .u8 0) = bc (List.replicate k 0) := by
  unfold bc
  rw [List.map_replicate]
  rfl
theorem row_part {w : World} {n : Nat} {v : Value} {l : List UInt8} {a : Nat} {s : ByteArray} (h : RowM w 5 v n ((bc l).take a ++ byteCells s ++ (bc l).drop (a + s.size))) : RowM w 5 v n (bc (l.take a ++ tl s ++ l.drop (a + (tl s).length))) := by
  rw [bc_str] at h
  have e : bc (l.take a ++ tl s ++ l.drop (a + (tl s).length)) = (bc l).take a ++ bc (tl s) ++ (bc l).drop (a + s.size) := by
    unfold bc
    rw [List.map_append, List.map_append, List.map_take, List.map_drop, tl_len]
  rw [e]
  exact h
section
variable {w : World} {lab : Nat → TL} {F : Nat → Prop} {fb most room mb : Nat} {nds : Nds} {mem : Int → NM}
theorem write_big (h : TreeR w lab fb most room nds mb mem) {k : Int} {x : Pn} (hx : look nds k = some x) (hk : x.kind = 2) (a : Nat) (s : ByteArray) (ha : a ≤ 1000000000) (hs : s.size ≤ 1000000000) (hb : 4096 < a + s.size) :
    Calls Tryz.prog 267 #[.pointer (some ⟨fb, 0, none⟩), .int .i64 k, .int .i64 (a : Int), .string s] w fun e w' => e = .returned (.int .i64 21) ∧ w' = w := by
  have hl := leaf_some h hx (by omega)
  have hN := h.nd k x hx
  have c0 := hN.blk.cell (show (bodyC x (mem k))[0]? = some _ from rfl)
  rw [hk] at c0
  have hlt := hN.blk.lt
  generalize (mem k).blk = kb at hl c0 hlt
  have e1 : ¬ (a : Int) < 0 := by omega
  have e2 : (4096 : Int) - (a : Int) < (s.size : Int) := by omega
  clear h hN hx hk
  go_enter Tryz.func267, Tryz.ntmps267
  go_wp2_with fail
  refine hl.mono ?_
  rintro e w' ⟨rfl, hw⟩
  obtain rfl := hw.symm
  clear hl hw
  go_wp2
  go_ret
  exact ⟨rfl, rfl⟩
theorem write_empty (h : TreeR w lab fb most room nds mb mem) {k : Int} {x : Pn} (hx : look nds k = some x) (hk : x.kind = 2) (a : Nat) (s : ByteArray) (ha : a ≤ 4096) (hs : s.size = 0) :
    Calls Tryz.prog 267 #[.pointer (some ⟨fb, 0, none⟩), .int .i64 k, .int .i64 (a : Int), .string s] w fun e w' => e = .returned (.int .i64 0) ∧ w' = w := by
  have hl := leaf_some h hx (by omega)
  have hN := h.nd k x hx
  have c0 := hN.blk.cell (show (bodyC x (mem k))[0]? = some _ from rfl)
  rw [hk] at c0
  have hlt := hN.blk.lt
  generalize (mem k).blk = kb at hl c0 hlt
  have e1 : ¬ (a : Int) < 0 := by omega
  have e2 : ¬ (4096 : Int) - (a : Int) < (0 : Int) := by omega
  have e3 : s.toList.isEmpty = true := by rw [tl_emp]; simp [hs]
  clear h hN hx hk
  go_enter Tryz.func267, Tryz.ntmps267
  go_wp2_with fail
  refine hl.mono ?_
  rintro e w' ⟨rfl, hw⟩
  obtain rfl := hw.symm
  clear hl hw
  go_wp2
  go_ret
  exact ⟨rfl, rfl⟩
theorem write_room (h : TreeR w lab fb most room nds mb mem) {k : Int} {x : Pn} (hx : look nds k = some x) (hk : x.kind = 2) (a : Nat) (s : ByteArray) (ha : a + s.size ≤ 4096) (hs : 0 < s.size) (hm : x.data.length < a + s.size) (hr : room < usedN nds + (a + s.size - x.data.length)) :
    Calls Tryz.prog 267 #[.pointer (some ⟨fb, 0, none⟩), .int .i64 k, .int .i64 (a : Int), .string s] w fun e w' => e = .returned (.int .i64 15) ∧ ∃ n, w' = w.drewN n := by
  have hl := leaf_some h hx (by omega)
  have hN := h.nd k x hx
  have c0 := hN.blk.cell (show (bodyC x (mem k))[0]? = some _ from rfl)
  have c3 := hN.blk.cell (show (bodyC x (mem k))[3]? = some _ from rfl)
  have f2 := h.fs.cell (i := 2) rfl
  have f3 := h.fs.cell (i := 3) rfl
  have hfl := h.fs.lt
  rw [hk] at c0
  obtain ⟨A, c, hdv, hc, hcm⟩ := hN.data.form
  rw [hdv] at c3
  have hlt := hN.blk.lt
  have hlim := h.lim
  obtain ⟨U, hU⟩ : ∃ U, usedN nds = U := ⟨_, rfl⟩
  obtain ⟨L, hL⟩ : ∃ L, x.data.length = L := ⟨_, rfl⟩
  rw [hU] at f3 hr hlim
  rw [hL] at c3 hm hr hc
  generalize (mem k).blk = kb at hl c0 c3 hlt
  have e1 : ¬ (a : Int) < 0 := by omega
  have e2 : ¬ (4096 : Int) - (a : Int) < (s.size : Int) := by omega
  have e3 : s.toList.isEmpty = false := by rw [tl_emp]; exact decide_eq_false (by omega)
  have e4 : (0 : Int) < (a : Int) + (s.size : Int) - (L : Int) := by omega
  have e5 : (room : Int) - (U : Int) < (a : Int) + (s.size : Int) - (L : Int) := by omega
  have e6 : IntKind.i64.wrap ((room : Int) - (U : Int)) = (room : Int) - (U : Int) := by rw [IntKind.wrap_i64]; omega
  clear h hN hx hk hU hL hdv
  go_enter Tryz.func267, Tryz.ntmps267
  go_wp2_with fail
  refine hl.mono ?_
  rintro e w' ⟨rfl, hw⟩
  obtain rfl := hw.symm
  clear hl hw
  go_upto_region 12 with fail
  go_quiet (fail)
  go_wp2
  go_ret
  exact ⟨rfl, _, rfl⟩
theorem TreeR.data_step {S S' : Nat → Prop} {w' : World} {k : Int} {x : Pn} {dv : Value} {d : List UInt8} (h : TreeR w lab fb most room nds mb mem) (hF : ∀ g, F g ↔ lab g ≠ .free) (hx : look nds k = some x) (c : Chg S S' w w')
    (hS : ∀ g, g < w.heap.size → S g → lab g = .fs ∨ lab g = .body k ∨ lab g = .data k)
    (hfs : Blk w' fb [.map (some mb), .int .i64 (most : Int), .int .i64 (room : Int), .int .i64 ((usedN nds + d.length - x.data.length : Nat) : Int)] 176)
    (hb : Blk w' (mem k).blk (bodyC { x with data := d } { mem k with dv := dv }) 156) (hd : RowM w' 5 dv d.length (bc d)) (ho : ∀ g, dv.ownBlock = some g → lab g = .data k ∨ w.heap.size ≤ g) (h4 : d.length ≤ 4096) (hu : usedN nds + d.length ≤ room + x.data.length) :
    ∃ F', TreeF w' F' fb most room (upd nds k { x with data := d }) ∧ Chg F F' w w' := by
  have hN := h.nd k x hx
  have htot := total_upd (f := fun x : Pn => x.data.length) h.apart hx { x with data := d }
  have hut : usedN (upd nds k { x with data := d }) = usedN nds + d.length - x.data.length := by
    unfold usedN
    simp only at htot
    omega
  have hsame : ∀ g l, lab g = l → l ≠ .fs → l ≠ .body k → l ≠ .data k → g < w.heap.size → w'.heap[g]? = w.heap[g]? := fun g l hg h1 h2 h3 hlt => c.block g hlt fun hs => by
    rcases hS g hlt hs with h | h | h
    · exact h1 (hg.symm.trans h)
    · exact h2 (hg.symm.trans h)
    · exact h3 (hg.symm.trans h)
  refine h.step (lab' := fun g => if w.heap.size ≤ g ∧ dv.ownBlock = some g then .data k else lab g) (m' := { mem k with dv := dv }) hF hx c (fun g hg hs => ?_) (fun g hg => if_neg (fun h => by omega)) (fun g hg => ?_) (by rw [hut]; exact hfs) ?_ rfl (by rw [hut]; omega)
  · rcases hS g hg hs with h | h | h
    · exact .inl h
    · exact .inr (by rw [h]; exact rfl)
    · exact .inr (by rw [h]; exact rfl)
  · rw [if_neg (fun h => by have := hd.lt h.2; omega)]
    exact h.new g (Nat.le_trans c.size hg)
  · exact {
      blk := hb
      lb := (if_neg (fun hh => by have := hN.blk.lt; have := hh.1; simp only at this; omega)).trans hN.lb
      data := hd
      dl := fun g hg => by
        by_cases hgw : w.heap.size ≤ g
        · exact if_pos ⟨hgw, hg⟩
        · rw [if_neg (fun hh => hgw hh.1)]
          exact (ho g hg).resolve_right hgw
      few := h4
      nil := hN.nil
      nms := fun l hl => by
        obtain ⟨nb, h1, h2, h3⟩ := hN.nms l hl
        exact ⟨nb, h1, (if_neg (fun hh => by have := h3.lt; omega)).trans h2, h3.keep (hsame nb _ h2 nofun nofun nofun h3.lt)⟩ }
theorem write_fit (h : TreeF w F fb most room nds) {k : Int} {x : Pn} (hx : look nds k = some x) (hk : x.kind = 2) (a : Nat) (s : ByteArray) (hs : 0 < s.size) (hm : a + s.size ≤ x.data.length) :
    Calls Tryz.prog 267 #[.pointer (some ⟨fb, 0, none⟩), .int .i64 k, .int .i64 (a : Int), .string s] w fun e w' => e = .returned (.int .i64 0) ∧ ∃ F', TreeF w' F' fb most room (upd nds k { x with data := putB x.data a (tl s) }) ∧ Chg F F' w w' := by
  obtain ⟨lab, mb, mem, h, hF⟩ := h
  have hl := leaf_some h hx (by omega)
  have hN := h.nd k x hx
  have c0 := hN.blk.cell (show (bodyC x (mem k))[0]? = some _ from rfl)
  have c3 := hN.blk.cell (show (bodyC x (mem k))[3]? = some _ from rfl)
  rw [hk] at c0
  have hfew := hN.few
  obtain ⟨g, off, c, hdv, hc, hcm⟩ := hN.data.form1 (by omega)
  rw [hdv] at c3
  have hlt := hN.blk.lt
  have hD := hN.data
  rw [hdv] at hD
  obtain ⟨w2, hrun, hD2, m2⟩ := run_copy_part (P := Tryz.prog) w 153 9 3 5 Tryz.underlying153 (by kernel_rfl) g off _ c a _ hD s hm (c - a)
  replace hD2 := row_part hD2
  have hgl : lab g = .data k := hN.dl g (by rw [hdv]; rfl)
  have hgt := hN.data.lt (by rw [hdv]; rfl : (mem k).dv.ownBlock = some g)
  have htl := tl_len s
  have hput : putB x.data a (tl s) = x.data.take a ++ tl s ++ x.data.drop (a + (tl s).length) := by
    unfold putB
    rw [show a + (tl s).length - x.data.length = 0 by omega, List.replicate_zero, List.append_nil]
  have hlen : (putB x.data a (tl s)).length = x.data.length := by rw [putB_len]; omega
  rw [← hput] at hD2
  have hdone := h.data_step (S := fun b => b = g) (dv := .slice (some ⟨g, off, none⟩) x.data.length c) (d := putB x.data a (tl s)) hF hx m2 (fun b _ hb => .inr (.inr (by rw [hb]; exact hgl)))
    (by rw [show usedN nds + (putB x.data a (tl s)).length - x.data.length = usedN nds by omega]; exact h.fs.chg m2 (fun e => by rw [← e, h.lfs] at hgl; cases hgl))
    (by
      have : bodyC { x with data := putB x.data a (tl s) } { mem k with dv := .slice (some ⟨g, off, none⟩) x.data.length c } = bodyC x (mem k) := by unfold bodyC; rw [hdv]
      rw [this]
      exact hN.blk.chg m2 (fun e => by rw [← e, hN.lb] at hgl; cases hgl))
    (by rw [hlen]; exact hD2) (fun b hb => by cases hb; exact .inl hgl) (by omega) (by have := h.lim.2.2; omega)
  obtain ⟨L, hL⟩ : ∃ L, x.data.length = L := ⟨_, rfl⟩
  rw [hL] at c3 hm hc hrun hfew
  generalize { x with data := putB x.data a (tl s) } = y at hdone ⊢
  generalize (mem k).blk = kb at hl c0 c3 hlt
  have e1 : ¬ (a : Int) < 0 := by omega
  have e2 : ¬ (4096 : Int) - (a : Int) < (s.size : Int) := by omega
  have e3 : s.toList.isEmpty = false := by rw [tl_emp]; exact decide_eq_false (by omega)
  have e4 : ¬ (0 : Int) < (a : Int) + (s.size : Int) - (L : Int) := by omega
  have e5 : a < c := by omega
  have e6 : (a : Int) ≤ (L : Int) := by omega
  have e7 : ¬ c = a := by omega
  have e8 : (0 : Int) ≤ (a : Int) := by omega
  have e9 : (L : Int) ≤ (c : Int) := by omega
  unfold maxLen at hcm
  replace hdone := Lib.hid hdone
  clear h hN hx hk hL hdv hD hD2 m2 hput hlen hgl hgt htl hF
  go_enter Tryz.func267, Tryz.ntmps267
  go_wp2_with fail
  refine hl.mono ?_
  rintro e w' ⟨rfl, hw⟩
  obtain rfl := hw.symm
  clear hl hw
  go_wp2
  go_ret
  exact ⟨rfl, hdone.out⟩
theorem write_more (h : TreeF w F fb most room nds) {k : Int} {x : Pn} (hx : look nds k = some x) (hk : x.kind = 2) (a : Nat) (s : ByteArray) (hs : 0 < s.size) (ha : a + s.size ≤ 4096) (hm : x.data.length < a + s.size) (hr : usedN nds + (a + s.size - x.data.length) ≤ room) :
    Calls Tryz.prog 267 #[.pointer (some ⟨fb, 0, none⟩), .int .i64 k, .int .i64 (a : Int), .string s] w fun e w' => e = .returned (.int .i64 0) ∧ ∃ F', TreeF w' F' fb most room (upd nds k { x with data := putB x.data a (tl s) }) ∧ Chg F F' w w' := by
  obtain ⟨lab, mb, mem, h, hF⟩ := h
  have hl := leaf_some h hx (by omega)
  have hN := h.nd k x hx
  have c0 := hN.blk.cell (show (bodyC x (mem k))[0]? = some _ from rfl)
  have c3 := hN.blk.cell (show (bodyC x (mem k))[3]? = some _ from rfl)
  have f2 := h.fs.cell (i := 2) rfl
  have f3 := h.fs.cell (i := 3) rfl
  rw [hk] at c0
  have hfew := hN.few
  have hlim := h.lim
  have hlt := hN.blk.lt
  have hfl := h.fs.lt
  have htl := tl_len s
  obtain ⟨i0, hi, hz0, hz1, hz2⟩ := info_parts infoU8
  obtain ⟨D, hD⟩ : ∃ D : Nat, D = a + s.size - x.data.length := ⟨_, rfl⟩
  -- the world behind the region that draws, whatever was drawn
  have hall : ∀ w0 : World, (∃ n, w0 = w.drewN n) → ∃ v1 w1 w4, (Builtin.append_ #[153, 3] 153 #[(mem k).dv, .int .i64 (D : Int)]).run Tryz.prog w0 = .ok v1 w1 ∧
      (∃ g off c, v1 = .slice (some ⟨g, off, none⟩) (a + s.size) c ∧ a + s.size ≤ c ∧ c ≤ maxLen ∧
        (Builtin.copy_ #[153, 9] 3 #[.slice (some ⟨g, off + a, none⟩) (a + s.size - a) (c - a), .string s]).run Tryz.prog ((w1.setCell ⟨(mem k).blk, 3, none⟩ v1).setCell ⟨fb, 3, none⟩ (.int .i64 ((usedN nds : Int) + (D : Int)))) = .ok (.int .i64 (s.size : Int)) w4) ∧
      w1.cell? ⟨(mem k).blk, 3, none⟩ = some (mem k).dv ∧ w1.frozen? ⟨(mem k).blk, 3, none⟩ = false ∧ w1.cell? ⟨fb, 3, none⟩ = some (.int .i64 (usedN nds : Int)) ∧ w1.frozen? ⟨fb, 3, none⟩ = false ∧ (mem k).blk ≠ fb ∧ (mem k).blk < w1.heap.size ∧ fb < w1.heap.size ∧
      ∃ F', TreeF w4 F' fb most room (upd nds k { x with data := putB x.data a (tl s) }) ∧ Chg F F' w w4 := by
    rintro w0 ⟨n, rfl⟩
    have hd0 : RowM (w.drewN n) 5 (mem k).dv x.data.length (bc x.data) := hN.data.keep fun _ _ => rfl
    have hbl0 : Blk (w.drewN n) (mem k).blk (bodyC x (mem k)) 156 := hN.blk
    have hfs0 : Blk (w.drewN n) fb [.map (some mb), .int .i64 (most : Int), .int .i64 (room : Int), .int .i64 (usedN nds : Int)] 176 := h.fs
    obtain ⟨v1, w1, hrun, hd1, m1, ho1⟩ := run_append_more (P := Tryz.prog) (w.drewN n) 153 3 153 5 i0 .i64 Tryz.underlying153 Tryz.underlying3 hi hz0 hz1 hz2 (mem k).dv _ _ hd0 .i64 D (by omega) (by omega)
    have hown : ∀ b, (mem k).dv.ownBlock = some b → lab b = .data k := hN.dl
    have hb1 := hbl0.chg m1 (fun e => by have := hown _ e; rw [hN.lb] at this; cases this)
    have hf1 := hfs0.chg m1 (fun e => by have := hown _ e; rw [h.lfs] at this; cases this)
    have hne : (mem k).blk ≠ fb := fun e => by have := hN.lb; rw [e, h.lfs] at this; cases this
    rw [bc_rep, ← bc_app, show x.data.length + D = a + s.size by omega] at hd1
    have hg1 : ∀ b, v1.ownBlock = some b → b ≠ (mem k).blk ∧ b ≠ fb := fun b hb => by
      rcases ho1 with h1 | h1
      · rw [h1] at hb
        have := hown b hb
        exact ⟨fun e => by (rw [e, hN.lb] at this; cases this), fun e => by (rw [e, h.lfs] at this; cases this)⟩
      · rw [h1] at hb
        cases hb
        exact ⟨fun e => by have := hN.blk.lt; have e : w.heap.size = (mem k).blk := e; omega, fun e => by have := h.fs.lt; have e : w.heap.size = fb := e; omega⟩
    have hb2 := (hb1.set 3 v1).other (a := ⟨fb, 3, none⟩) hne (.int .i64 ((usedN nds : Int) + (D : Int)))
    have hf2 := (hf1.other (a := ⟨(mem k).blk, 3, none⟩) hne.symm v1).set 3 (.int .i64 ((usedN nds : Int) + (D : Int)))
    have hd2 : RowM ((w1.setCell ⟨(mem k).blk, 3, none⟩ v1).setCell ⟨fb, 3, none⟩ (.int .i64 ((usedN nds : Int) + (D : Int)))) 5 v1 (a + s.size) (bc (x.data ++ List.replicate D 0)) :=
      hd1.keep fun g hg => (heap_setCell_other _ _ g _ (hg1 g hg).2).trans (heap_setCell_other _ _ g _ (hg1 g hg).1)
    have s1 : Chg (fun b => (mem k).dv.ownBlock = some b ∨ b = (mem k).blk ∨ b = fb) (fun b => (mem k).dv.ownBlock = some b ∨ b = (mem k).blk ∨ b = fb) w w1 := ((Chg.drewN _ w n).trans m1).mono (fun b hb => .inl hb) (fun b _ hb => .inr hb)
    have s2 := (s1.trans (Chg.set (b := (mem k).blk) (.inr (.inl rfl)) 3 v1)).trans (Chg.set (b := fb) (.inr (.inr rfl)) 3 (.int .i64 ((usedN nds : Int) + (D : Int))))
    obtain ⟨g, off, c, rfl, hc, hcm⟩ := hd1.form1 (by omega)
    obtain ⟨w4, hcopy, hd4, m4⟩ := run_copy_part (P := Tryz.prog) _ 153 9 3 5 Tryz.underlying153 (by kernel_rfl) g off _ c a _ hd2 s (by omega) (c - a)
    replace hd4 := row_part hd4
    have hput : putB x.data a (tl s) = (x.data ++ List.replicate D 0).take a ++ tl s ++ (x.data ++ List.replicate D 0).drop (a + (tl s).length) := by
      unfold putB
      rw [htl, hD]
    rw [← hput] at hd4
    have hlen : (putB x.data a (tl s)).length = a + s.size := by rw [putB_len, htl]; omega
    have hgg := hg1 g rfl
    refine ⟨_, w1, w4, hrun, ⟨g, off, c, rfl, hc, hcm, hcopy⟩, hb1.cell (show (bodyC x (mem k))[3]? = some _ from rfl), hb1.frozen 3, hf1.cell (i := 3) rfl, hf1.frozen 3, hne, hb1.lt, hf1.lt, ?_⟩
    refine h.data_step (S := fun b => ((mem k).dv.ownBlock = some b ∨ b = (mem k).blk ∨ b = fb) ∨ b = g) (dv := .slice (some ⟨g, off, none⟩) (a + s.size) c) (d := putB x.data a (tl s)) hF hx ((s2.wide (fun b => b = g)).trans (m4.mono (fun b hb => .inr hb) (fun b _ hb => .inr hb)))
      (fun b hb hS => ?_) ?_ ?_ (by rw [hlen]; exact hd4) (fun b hb => ?_) (by omega) (by omega)
    · rcases hS with (h1 | h1 | h1) | h1
      · exact .inr (.inr (hown b h1))
      · exact .inr (.inl (by rw [h1]; exact hN.lb))
      · exact .inl (by rw [h1]; exact h.lfs)
      · rcases ho1 with h2 | h2
        · exact .inr (.inr (hown b (by rw [← h2, h1]; rfl)))
        · have e : g = w.heap.size := by cases h2; rfl
          omega
    · have := hf2.chg m4 (fun e => hgg.2 e.symm)
      rw [show ((usedN nds + (putB x.data a (tl s)).length - x.data.length : Nat) : Int) = (usedN nds : Int) + (D : Int) by omega]
      exact this
    · exact hb2.chg m4 (fun e => hgg.1 e.symm)
    · rcases ho1 with h2 | h2
      · exact .inl (hown b (by rw [← h2]; exact hb))
      · right
        rw [h2] at hb
        cases hb
        exact Nat.le_refl _
  obtain ⟨A, c, hdv, hc, hcm⟩ := hN.data.form
  rw [hdv] at c3 hall
  obtain ⟨U, hU⟩ : ∃ U, usedN nds = U := ⟨_, rfl⟩
  obtain ⟨L, hL⟩ : ∃ L, x.data.length = L := ⟨_, rfl⟩
  rw [hU] at f3 hr hlim hall
  rw [hL] at c3 hm hr hc hD hall
  generalize { x with data := putB x.data a (tl s) } = y at hall ⊢
  generalize (mem k).blk = kb at hl c0 c3 hlt hall
  have e1 : ¬ (a : Int) < 0 := by omega
  have e2 : ¬ (4096 : Int) - (a : Int) < (s.size : Int) := by omega
  have e3 : s.toList.isEmpty = false := by rw [tl_emp]; exact decide_eq_false (by omega)
  have e0 : (a : Int) + (s.size : Int) - (L : Int) = (D : Int) := by omega
  have e4 : (0 : Int) < (D : Int) := by omega
  have e5 : ¬ (room : Int) - (U : Int) < (D : Int) := by omega
  have e6 : IntKind.i64.wrap ((room : Int) - (U : Int)) = (room : Int) - (U : Int) := by rw [IntKind.wrap_i64]; omega
  replace hall := Lib.hid hall
  clear h hN hx hk hU hL hdv hF hi hz0 hz1 hz2 htl hD
  go_enter Tryz.func267, Tryz.ntmps267
  go_wp2_with fail
  refine hl.mono ?_
  rintro e w' ⟨rfl, hw⟩
  obtain rfl := hw.symm
  clear hl hw
  go_upto_region 12 with fail
  go_quiet (fail)
  go_upto_region 14 with fail
  obtain ⟨v1, w1, w4, hrun, ⟨g, off, c', rfl, hc', hcm', hcopy⟩, d3, z3, k3, y3, hne, i5, i6, hdone⟩ := hall.out (w.drewN nq) ⟨nq, rfl⟩
  have hca : a < c' := by omega
  have i1 : (a : Int) ≤ ((a + s.size : Nat) : Int) := by omega
  have i2 : ((a + s.size : Nat) : Int) ≤ (c' : Int) := by omega
  have i3 : (0 : Int) ≤ (a : Int) := by omega
  have i4 : ¬ c' = a := by omega
  unfold maxLen at hcm'
  have hdone := Lib.hid hdone
  clear hall
  rw [Nat.add_sub_cancel_left] at hcopy
  replace hrun := Lib.hid hrun
  go_wp2_with (at_builtin; refine wpList_append_of rfl _ _ 153 3 rfl _ _ _ w1 rfl rfl hrun.out ?_)
  go_wp2
  go_ret
  exact ⟨rfl, hdone.out⟩
end
end Go.Proofs.YtfofpphnglhopaaGreatDoor
namespace Go.Proofs.YtfofpphnglhopaaGreatDoor
open Go Go.Shelf Go.RowKit
def shRen : Ren := ⟨fun | 119 => 218 | 149 => 138 | 222 => 164 | 120 => 208 | 137 => 152 | 151 => 192 | 152 => 210 | 162 => 137 | 165 => 214 | 166 => 145 | 169 => 115 | 197 => 209 | 217 => 177 | 224 => 219 | 225 => 220 | 227 => 161 | 228 => 190 | 232 => 160 | 234 => 162 | 236 => 163 | 240 => 173 | 241 => 232 | 260 => 217 | 266 => 201 | 271 => 191 | 276 => 196 | 277 => 238 | n => n, fun | 0 => 0 | 3 => 3 | 4 => 4 | 5 => 5 | 9 => 9 | 20 => 20 | 21 => 21 | 37 => 153 | 46 => 252 | 70 => 212 | 72 => 214 | 75 => 241 | 80 => 105 | 105 => 291 | 116 => 260 | 117 => 261 | 119 => 318 | 124 => 264 | 127 => 245 | 138 => 320 | 139 => 321 | 164 => 295 | n => n, fun | 3 => 1 | 4 => 2 | n => n⟩
theorem sh162 : Lays.n162 Tryz.prog shRen := {
  mixed := by kernel_rfl
  f119 := Tryz.func218.trans (congrArg some (by kernel_rfl))
  f120 := Tryz.func208.trans (congrArg some (by kernel_rfl))
  f137 := Tryz.func152.trans (congrArg some (by kernel_rfl))
  f151 := Tryz.func192.trans (congrArg some (by kernel_rfl))
  f152 := Tryz.func210.trans (congrArg some (by kernel_rfl))
  f162 := Tryz.func137.trans (congrArg some (by kernel_rfl))
  f197 := Tryz.func209.trans (congrArg some (by kernel_rfl))
  f217 := Tryz.func177.trans (congrArg some (by kernel_rfl))
  f224 := Tryz.func219.trans (congrArg some (by kernel_rfl))
  f225 := Tryz.func220.trans (congrArg some (by kernel_rfl))
  f227 := Tryz.func161.trans (congrArg some (by kernel_rfl))
  f228 := Tryz.func190.trans (congrArg some (by kernel_rfl))
  f232 := Tryz.func160.trans (congrArg some (by kernel_rfl))
  f234 := Tryz.func162.trans (congrArg some (by kernel_rfl))
  f236 := Tryz.func163.trans (congrArg some (by kernel_rfl))
  f260 := Tryz.func217.trans (congrArg some (by kernel_rfl))
  f266 := Tryz.func201.trans (congrArg some (by kernel_rfl))
  f271 := Tryz.func191.trans (congrArg some (by kernel_rfl))
  t0 := Tryz.underlying0
  a0 := Tryz.isAgg0
  z0 := Tryz.sizeOf0
  v0 := Tryz.zeroValue0
  t3 := Tryz.underlying3
  a3 := Tryz.isAgg3
  z3 := Tryz.sizeOf3
  v3 := Tryz.zeroValue3
  t4 := Tryz.underlying4
  a4 := Tryz.isAgg4
  z4 := Tryz.sizeOf4
  v4 := Tryz.zeroValue4
  t5 := Tryz.underlying5
  a5 := Tryz.isAgg5
  z5 := Tryz.sizeOf5
  v5 := Tryz.zeroValue5
  t9 := Tryz.underlying9
  a9 := Tryz.isAgg9
  z9 := Tryz.sizeOf9
  v9 := Tryz.zeroValue9
  t21 := Tryz.underlying21
  a21 := Tryz.isAgg21
  z21 := Tryz.sizeOf21
  v21 := Tryz.zeroValue21
  t46 := Tryz.underlying252
  a46 := Tryz.isAgg252
  z46 := Tryz.sizeOf252
  v46 := Tryz.zeroValue252
  t105 := Tryz.underlying291
  a105 := Tryz.isAgg291
  z105 := Tryz.sizeOf291
  v105 := Tryz.zeroValue291
  t116 := Tryz.underlying260
  a116 := Tryz.isAgg260
  z116 := Tryz.sizeOf260
  t117 := Tryz.underlying261
  a117 := Tryz.isAgg261
  z117 := Tryz.sizeOf261
  v117 := Tryz.zeroValue261
  t119 := Tryz.underlying318
  a119 := Tryz.isAgg318
  z119 := Tryz.sizeOf318
  t124 := Tryz.underlying264
  a124 := Tryz.isAgg264
  z124 := Tryz.sizeOf264
  v124 := Tryz.zeroValue264
  t138 := Tryz.underlying320
  a138 := Tryz.isAgg320
  z138 := Tryz.sizeOf320
  v138 := Tryz.zeroValue320
  t139 := Tryz.underlying321
  a139 := Tryz.isAgg321
  z139 := Tryz.sizeOf321
  v139 := Tryz.zeroValue321
  g3 := by kernel_rfl
  g4 := by kernel_rfl }
theorem sh137 : Lays.n137 Tryz.prog shRen := {
  mixed := by kernel_rfl
  f137 := Tryz.func152.trans (congrArg some (by kernel_rfl))
  f217 := Tryz.func177.trans (congrArg some (by kernel_rfl))
  f266 := Tryz.func201.trans (congrArg some (by kernel_rfl))
  t3 := Tryz.underlying3
  a3 := Tryz.isAgg3
  z3 := Tryz.sizeOf3
  v3 := Tryz.zeroValue3
  t5 := Tryz.underlying5
  a5 := Tryz.isAgg5
  z5 := Tryz.sizeOf5
  v5 := Tryz.zeroValue5
  t9 := Tryz.underlying9
  a9 := Tryz.isAgg9
  z9 := Tryz.sizeOf9
  v9 := Tryz.zeroValue9 }
theorem sh149 : Lays.n149 Tryz.prog shRen := {
  mixed := by kernel_rfl
  f149 := Tryz.func138.trans (congrArg some (by kernel_rfl))
  f222 := Tryz.func164.trans (congrArg some (by kernel_rfl))
  t3 := Tryz.underlying3
  a3 := Tryz.isAgg3
  z3 := Tryz.sizeOf3
  v3 := Tryz.zeroValue3
  t4 := Tryz.underlying4
  a4 := Tryz.isAgg4
  z4 := Tryz.sizeOf4
  v4 := Tryz.zeroValue4
  t5 := Tryz.underlying5
  a5 := Tryz.isAgg5
  z5 := Tryz.sizeOf5
  v5 := Tryz.zeroValue5
  t9 := Tryz.underlying9
  a9 := Tryz.isAgg9
  z9 := Tryz.sizeOf9
  v9 := Tryz.zeroValue9 }
theorem trimRight (s : ByteArray) (c : UInt8) (hc : c.toNat < 128) (w : World) (hs : s.size ≤ 9223372036854775807) :
    Calls Tryz.prog 137 #[.string s, .string ⟨#[c]⟩] w fun e w' => e = .returned (.string ⟨(Lib.trimRightB s.data.toList c).toArray⟩) ∧ w' = w :=
  Any.strings_TrimRight_one sh162 s c hc w hs
theorem indexByte (s : ByteArray) (c : Int) (w : World) :
    Calls Tryz.prog 152 #[.string s, .int .u8 c] w fun e w' => e = .returned (.int .i64 (Lib.indexByte s.data.toList c.toNat.toUInt8)) ∧ w' = w :=
  Any.strings_IndexByte sh137 s c w
theorem lastIndexByte (s : ByteArray) (c : Int) (hs : s.size < 4611686018427387904) (w : World) :
    Calls Tryz.prog 138 #[.string s, .int .u8 c] w fun e w' => e = .returned (.int .i64 (Lib.lastIndexByte s c)) ∧ w' = w :=
  Any.strings_LastIndexByte sh149 s c hs w
end Go.Proofs.YtfofpphnglhopaaGreatDoor
namespace Go.Proofs.YtfofpphnglhopaaGreatDoor
open Go Go.RowKit
def nm1 (c : UInt8) : ByteArray := ⟨#[c]⟩
theorem TreeR.grown {w w' : World} {lab : Nat → TL} {fb most room mb : Nat} {nds : Nds} {mem : Int → NM} (h : TreeR w lab fb most room nds mb mem) (hg : w.grownBy w' none) : TreeR w' lab fb most room nds mb mem :=
  have hk : ∀ g, g < w.heap.size → w'.heap[g]? = w.heap[g]? := fun g hlt => hg.block g hlt (by simp)
  ⟨(hk fb h.fs.lt).trans h.fs, h.lfs, h.map.keep (hk mb h.map.lt), h.lmap, fun k x hx => (h.nd k x hx).keep fun g hlt _ => ⟨hk g hlt, rfl⟩, fun g hlt => h.new g (Nat.le_trans hg.size hlt), h.lim⟩
theorem grownBy_tr {w w' w'' : World} (h : w.grownBy w' none) (k : w'.grownBy w'' none) : w.grownBy w'' none :=
  ⟨k.os.trans h.os, k.tape.trans h.tape, k.output.trans h.output, Nat.le_trans h.size k.size, fun b hb _ => (k.block b (Nat.lt_of_lt_of_le hb h.size) (by simp)).trans (h.block b hb (by simp))⟩
theorem grownBy_re (w : World) : w.grownBy w none := ⟨rfl, rfl, rfl, Nat.le_refl _, fun _ _ _ => rfl⟩
section
variable {w : World} {lab : Nat → TL} {F : Nat → Prop} {fb most room mb : Nat} {nds : Nds} {mem : Int → NM}
theorem begin_one (d : Int) (c : UInt8) (hc : c ≠ 47) (w : World) :
    Calls Tryz.prog 149 #[.int .i64 d, .string (nm1 c)] w fun e w' => e = .returned (.tuple #[.int .i64 d, .int .i64 0]) ∧ w' = w := by
  have e1 : ((c.toNat : Int) == 47) = false := by
    simp only [beq_eq_false_iff_ne, ne_eq]
    intro h
    exact hc (UInt8.toNat_inj.1 (by show c.toNat = 47; omega))
  have e2 : (nm1 c).toList.isEmpty = false := by rw [tl_emp]; rfl
  have e3 : (nm1 c).size = 1 := rfl
  have e4 : (nm1 c).data[0]? = some c := rfl
  have e5 : (nm1 c)[0]'(by rw [e3]; decide) = c := rfl
  go_enter Tryz.func149, Tryz.ntmps149
  go_wp2
  go_ret2
  exact ⟨rfl, rfl⟩
theorem start_one (h : TreeR w lab fb most room nds mb mem) {x : Pn} (hx : look nds 1 = some x) (hk : x.kind = 1) (c : UInt8) (hc : c ≠ 47) :
    Calls Tryz.prog 118 #[.pointer (some ⟨fb, 0, none⟩), .int .i64 1, .string (nm1 c)] w fun e w' => e = .returned (.tuple #[.int .i64 1, .int .i64 0]) ∧ w' = w := by
  have hb := begin_one 1 c hc w
  have hf := h.find_some hx
  have f0 := h.fs.cell (i := 0) rfl
  have hfl := h.fs.lt
  have c0 := (h.nd 1 x hx).blk.cell (show (bodyC x (mem 1))[0]? = some _ from rfl)
  have hlt := (h.nd 1 x hx).blk.lt
  rw [hk] at c0
  generalize (mem 1).blk = kb at hf c0 hlt
  clear h hx hk
  go_enter Tryz.func118, Tryz.ntmps118
  go_wp2_with fail
  refine hb.mono ?_
  rintro e w' ⟨rfl, hw⟩
  obtain rfl := hw.symm
  clear hb hw
  go_wp2
  go_ret2
  exact ⟨rfl, rfl⟩
theorem walk_empty (d : Int) (b : Bool) (w : World) :
    Calls Tryz.prog 119 #[.pointer (some ⟨fb, 0, none⟩), .int .i64 d, .string ⟨#[]⟩, .bool b] w fun e w' => e = .returned (.tuple #[.int .i64 d, .int .i64 0]) ∧ w' = w := by
  have e2 : (⟨#[]⟩ : ByteArray).toList.isEmpty = true := by decide +kernel
  go_enter Tryz.func119, Tryz.ntmps119
  go_wp2
  go_step3
  go_wp2
  go_step3
  go_wp2
  refine wp_loop_rounds 1 ?_
  rw [rounds_succ]
  go_wp2
  first | go_ret2 | (rw [Exit.noGoto_ret]; go_ret2)
  exact ⟨rfl, rfl⟩
theorem isDir_one (d : Int) (c : UInt8) (hc : c ≠ 46) (w : World) :
    Calls Tryz.prog 123 #[.agg #[.int .i64 d, .string (nm1 c), .bool false]] w fun e w' => e = .returned (.bool false) ∧ w.grownBy w' none := by
  have e2 : (nm1 c).toList.isEmpty = false := by rw [tl_emp]; rfl
  have e0 : ((nm1 c).toList == []) = false := by rw [ByteArray.toList_eq]; rfl
  have e3 : ((nm1 c).toList == [46]) = false := by
    rw [ByteArray.toList_eq]
    simp [nm1, hc]
  have e4 : ((nm1 c).toList == [46, 46]) = false := by
    rw [ByteArray.toList_eq]
    simp [nm1]
  generalize nm1 c = nm at e2 e0 e3 e4 ⊢
  have g1 : w.grownBy (w.alloc (.cells #[.int .i64 d, .string nm, .bool false] 178)) none := World.grownBy_alloc w _ _
  have b1 : Blk (w.alloc (.cells #[.int .i64 d, .string nm, .bool false] 178)) w.heap.size [.int .i64 d, .string nm, .bool false] 178 := Blk.new w _ _
  have c1 := b1.cell (i := 1) rfl
  have hlt := b1.lt
  replace b1 := Lib.hid b1
  replace g1 := Lib.hid g1
  go_enter Tryz.func123, Tryz.ntmps123
  go_wp2
  go_ret
  exact ⟨rfl, g1.out⟩
theorem find_none (h : TreeR w lab fb most room nds mb mem) {k : Int} {x : Pn} {l : List (ByteArray × Nat)} (hx : look nds k = some x) (hn : x.nms = some l) (c : UInt8) (hc : c ≠ 0) (hl : look l (nm1 c) = none) :
    Calls Tryz.prog 124 #[.pointer (some ⟨(mem k).blk, 0, none⟩), .string (nm1 c)] w fun e w' => e = .returned (.tuple #[.int .i64 0, .int .i64 10]) ∧ w' = w := by
  have hN := h.nd k x hx
  obtain ⟨nb, h1, _, h3⟩ := hN.nms l hn
  have hix := indexByte (nm1 c) 0 w
  have e0 : Lib.indexByte (nm1 c).data.toList (0 : Int).toNat.toUInt8 = -1 := by
    show Lib.indexByte [c] 0 = -1
    simp [Lib.indexByte, hc]
  rw [e0] at hix
  have hfi := h3.find keyS Tryz.underlying154 Tryz.underlying9 (Tryz.zeroValue3 w) true (nm1 c)
  have e1 : look (l.map fun p => (p.1, Value.int .i64 (p.2 : Int))) (nm1 c) = none := by rw [look_map (fun n : Nat => Value.int .i64 (n : Int)), hl]; rfl
  rw [e1] at hfi
  replace hfi : (Instr.lookup 154 (.map (some nb)) (.string (nm1 c)) true).run Tryz.prog w = .ok (.tuple #[.int .i64 0, .bool false]) w := hfi
  have c4 := hN.blk.cell (show (bodyC x (mem k))[4]? = some _ from rfl)
  have hlt := hN.blk.lt
  rw [h1] at c4
  have e3 : ¬ (32 : Int) < ((nm1 c).size : Int) := by show ¬ (32 : Int) < ((1 : Nat) : Int); omega
  generalize (mem k).blk = kb at c4 hlt ⊢
  generalize nm1 c = nm at hfi hix e3 ⊢
  clear h hN hx hn hl e0 e1 h3 h1
  go_enter Tryz.func124, Tryz.ntmps124
  go_wp2_with fail
  refine hix.mono ?_
  rintro e w' ⟨rfl, hw⟩
  obtain rfl := hw.symm
  clear hix hw
  go_wp2
  go_ret2
  exact ⟨rfl, rfl⟩
theorem nm1_trim (c : UInt8) (hc : c ≠ 47) : (⟨(Lib.trimRightB (nm1 c).data.toList 47).toArray⟩ : ByteArray) = nm1 c := by
  show (⟨(Lib.trimRightB [c] 47).toArray⟩ : ByteArray) = nm1 c
  simp [Lib.trimRightB, nm1, hc]
theorem nm1_last (c : UInt8) (hc : c ≠ 47) : Lib.lastIndexByte (nm1 c) 47 = -1 := by
  rcases Lib.lastIndexByte_spec (nm1 c) 47 with ⟨h, _⟩ | ⟨i, hi, _, h, _⟩
  · exact h
  · have hi : i < 1 := hi
    obtain rfl : i = 0 := by omega
    have h : ((c.toNat : Nat) : Int) = 47 := h
    exact absurd (UInt8.toNat_inj.1 (show c.toNat = (47 : UInt8).toNat by have e : (47 : UInt8).toNat = 47 := rfl; omega)) hc
theorem nm1_all (c : UInt8) : (nm1 c).extract 0 1 = nm1 c := rfl
theorem nm1_none (c : UInt8) : (nm1 c).extract 0 0 = ⟨#[]⟩ := rfl
theorem place_one (h : TreeR w lab fb most room nds mb mem) {x : Pn} (hx : look nds 1 = some x) (hk : x.kind = 1) (c : UInt8) (hc : c ≠ 47) :
    Calls Tryz.prog 95 #[.pointer (some ⟨fb, 0, none⟩), .int .i64 1, .string (nm1 c)] w fun e w' => e = .returned (.tuple #[.agg #[.int .i64 1, .string (nm1 c), .bool false], .int .i64 0]) ∧ w.grownBy w' none := by
  have hst := fun (W : World) (hW : w.grownBy W none) => start_one (h.grown hW) hx hk c hc
  have htr := fun (W : World) => trimRight (nm1 c) 47 (by decide) W (by show 1 ≤ _; omega)
  rw [nm1_trim c hc] at htr
  have hla := fun (W : World) => lastIndexByte (nm1 c) 47 (by show 1 < _; omega) W
  rw [nm1_last c hc] at hla
  have hwk := fun (W : World) => walk_empty (fb := fb) 1 true W
  have hsz : (nm1 c).size = 1 := rfl
  have x1 := nm1_all c
  have x0 := nm1_none c
  generalize nm1 c = nm at hst htr hla hsz x1 x0 ⊢
  clear h hx hk
  replace hst := Lib.hid hst
  replace htr := Lib.hid htr
  replace hla := Lib.hid hla
  replace hwk := Lib.hid hwk
  go_enter Tryz.func95, Tryz.ntmps95
  go_upto_region 1 with fail
  have b1 : Blk (w.alloc (.cells #[.int .i64 0, .string ⟨#[]⟩, .bool false] 178)) w.heap.size [.int .i64 0, .string ⟨#[]⟩, .bool false] 178 := Blk.new w _ _
  have g1 : w.grownBy (w.alloc (.cells #[.int .i64 0, .string ⟨#[]⟩, .bool false] 178)) none := World.grownBy_alloc w _ _
  obtain ⟨z, hz⟩ : ∃ z, w.heap.size = z := ⟨_, rfl⟩
  generalize (w.alloc (.cells #[.int .i64 0, .string ⟨#[]⟩, .bool false] 178)) = w1 at b1 g1 ⊢
  simp only [hz] at b1 ⊢
  have hst1 := hst.out w1 g1
  have htr1 := htr.out w1
  have hla1 := hla.out w1
  have hwk1 := hwk.out w1
  have z0 := b1.cell (i := 0) rfl
  have z1 := b1.cell (i := 1) rfl
  have z2 := b1.cell (i := 2) rfl
  have f0 := b1.frozen 0
  have f1 := b1.frozen 1
  have f2 := b1.frozen 2
  have hzl := b1.lt
  replace hz := Lib.hid hz
  replace g1 := Lib.hid g1
  replace b1 := Lib.hid b1
  clear hst htr hla hwk
  go_wp2_with fail
  refine hst1.mono ?_
  rintro e w' ⟨rfl, hw⟩
  obtain rfl := hw.symm
  clear hst1 hw
  go_wp2_with fail
  refine htr1.mono ?_
  rintro e w' ⟨rfl, hw⟩
  obtain rfl := hw.symm
  clear htr1 hw
  go_wp2_with fail
  refine hla1.mono ?_
  rintro e w' ⟨rfl, hw⟩
  obtain rfl := hw.symm
  clear hla1 hw
  go_wp2_with fail
  refine hwk1.mono ?_
  rintro e w' ⟨rfl, hw⟩
  obtain rfl := hw.symm
  clear hwk1 hw
  go_wp2
  have b3 := ((b1.out.set 0 (.int .i64 1)).set 1 (.string nm)).set 2 (.bool false)
  have g3 := grown_setNew (grown_setNew (grown_setNew g1.out (Nat.le_of_eq hz.out) 0 (.int .i64 1)) (Nat.le_of_eq hz.out) 1 (.string nm)) (Nat.le_of_eq hz.out) 2 (.bool false)
  generalize ((w1.setCell ⟨z, 0, none⟩ (.int .i64 1)).setCell ⟨z, 1, none⟩ (.string nm)).setCell ⟨z, 2, none⟩ (.bool false) = w3 at b3 g3 ⊢
  have e0 := b3.cell (i := 0) rfl
  have e1 := b3.cell (i := 1) rfl
  have e2 := b3.cell (i := 2) rfl
  exact bodyPost_ret (v := .tuple #[.agg #[.int .i64 1, .string nm, .bool false], .int .i64 0]) (by simp [results, Tryz.results95, go_sem, e0, e1, e2]) rfl ⟨rfl, g3⟩
theorem least_any (h : TreeR w lab fb most room nds mb mem) (m : Nat) (h1 : 1 ≤ m) (hm : m ≤ 1000000) (hno : look nds (m : Int) = none) (hall : ∀ j : Nat, 1 ≤ j → j < m → ∃ x, look nds (j : Int) = some x) :
    Calls Tryz.prog 97 #[.pointer (some ⟨fb, 0, none⟩)] w fun e w' => e = .returned (.int .i64 (m : Int)) ∧ w' = w := by
  have f0 := h.fs.cell (i := 0) rfl
  have hfl := h.fs.lt
  have hf0 := h.find_none hno
  have hf1 : ∀ j : Nat, 1 ≤ j → j < m → ∃ a, (Instr.lookup 174 (.map (some mb)) (.int .i64 (j : Int)) false).run Tryz.prog w = .ok (.pointer (some a)) w := fun j h1 h2 => by
    obtain ⟨x, hx⟩ := hall j h1 h2
    exact ⟨_, h.find_some hx⟩
  replace hf0 := Lib.hid hf0
  replace hf1 := Lib.hid hf1
  clear h hno hall
  go_enter Tryz.func97, Tryz.ntmps97
  go_wp2
  go_loopw [3] (fun nv wr => ∃ n : Nat, 1 ≤ n ∧ n ≤ m ∧ nv = .int .i64 (n : Int) ∧ wr = w) (fun nv _ => m - (intOf nv).toNat)
  case atStart => exact ⟨1, Nat.le_refl _, h1, rfl, rfl⟩
  case round =>
    obtain ⟨n, hn1, hn, rfl, hw⟩ := hrel
    obtain rfl := hw.symm
    by_cases hlt : n < m
    · obtain ⟨ad, hf⟩ := hf1.out n hn1 hlt
      go_wp2
      go_roundw
      case rel => exact ⟨n + 1, by omega, by omega, by go_num, by first | rfl | trivial⟩
      case measure => simp [intOf]; omega
    · obtain rfl : n = m := by omega
      have hf := hf0.out
      go_wp2
      go_ret
      exact ⟨rfl, rfl⟩
end
end Go.Proofs.YtfofpphnglhopaaGreatDoor
namespace Go.Proofs.YtfofpphnglhopaaGreatDoor
open Go Go.RowKit Go.ChangeMaps
theorem doesV_form (pp : Pps) (kd : Kd) (ob : Nat) : ∃ T u, doesV pp kd ob = .iface T u := by cases kd <;> exact ⟨_, _, rfl⟩
section
variable {w : World} {lab : Nat → HL} {F : Nat → Prop} {fb plb tb mb top : Nat} {hs : Hs} {pp : Pps} {mem : Int → HM} {v : Value} {xs : List Int}
theorem tab_add (h : TabF w F fb plb tb hs pp top []) (G : Nat → Prop) [DecidablePred G] (hG : ∀ g, G g → g < w.heap.size ∧ ¬ F g) (ht : top < 100000) (kd : Kd) (ob : Nat)
    (hob : ∀ w' lab', (∀ g, G g → w'.heap[g]? = w.heap[g]? ∧ lab' g = .obj ((top + 1 : Nat) : Int)) → ∀ kb, ObjAt w' lab' fb pp.length ((top + 1 : Nat) : Int) ⟨kb, ob, .slice none 0 0⟩ kd) :
    Calls Tryz.prog 92 #[ptrV tb, doesV pp kd ob] w fun e w' => e = .returned (.int .i64 ((top + 1 : Nat) : Int)) ∧ ∃ F', TabF w' F' fb plb tb (hs ++ [(((top + 1 : Nat) : Int), ⟨1, kd⟩)]) pp (top + 1) [] ∧ Chg (fun g => F g ∨ G g) F' w w' := by
  obtain ⟨lab, mb, mem, v, h, hF⟩ := h
  have htk := nums_take0 h.num ht
  have hlt := h.num.at_.blk.lt
  have hadd := fun w2 kb => h.add (S := fun g => g = tb ∨ g = mb) (S' := fun g => g = tb ∨ g = mb) (w2 := w2) (k := ((top + 1 : Nat) : Int)) (kd := kd) (ob := ob) (kb := kb) (top' := top + 1) (v' := v) (xs' := []) hF G hG
  have hno : look hs ((top + 1 : Nat) : Int) = none := by
    rw [look_none]
    intro p hp e
    have := (h.num.all p.1).2 (.inl (List.mem_map.2 ⟨p, hp, rfl⟩))
    omega
  have hlk : look (entH mem hs) ((top + 1 : Nat) : Int) = none := by rw [entH_look, hno]; rfl
  have hmt : mb ≠ tb := fun e => by have := h.lmap; rw [e, h.ltb] at this; cases this
  have hkm := h.map
  have hsp : ∀ g, g < w.heap.size → (fun g => g = tb ∨ g = mb) g → lab g = .tab ∨ lab g = .tmap ∨ lab g = .back := fun g _ hg => by
    rcases hg with hg | hg
    · exact .inl (by rw [hg]; exact h.ltb)
    · exact .inr (.inl (by rw [hg]; exact h.lmap))
  have hbk := h.lbk
  have hlm := h.lmap
  generalize ((top + 1 : Nat) : Int) = k at htk hadd hno hlk hob ⊢
  obtain ⟨T, u, hdv⟩ := doesV_form pp kd ob
  unfold ptrV
  rw [hdv]
  replace hdv := Lib.hid hdv
  replace hadd := Lib.hid hadd
  replace hob := Lib.hid hob
  replace hsp := Lib.hid hsp
  replace hbk := Lib.hid hbk
  replace hno := Lib.hid hno
  clear h
  go_enter Tryz.func92, Tryz.ntmps92
  go_wp2_with fail
  refine htk.mono ?_
  rintro e w1 ⟨rfl, hn, hC⟩
  clear htk
  have hkm1 := hkm.keep (hC.block mb hkm.lt hmt)
  have c2 := hn.at_.blk.cell (i := 2) rfl
  have hlt1 := hn.at_.blk.lt
  have hmb1 := hkm1.lt
  have hz1 := hC.size
  replace hn := Lib.hid hn
  replace hC := Lib.hid hC
  have hkm2 : KMap (w1.alloc (.cells #[.iface T u, .int .i64 1] 148)) mb (.int .i64) encI (entH mem hs) := hkm1.keep (Below.heap_alloc w1 _ mb hmb1)
  have hb2 : Blk (w1.alloc (.cells #[.iface T u, .int .i64 1] 148)) w1.heap.size [.iface T u, .int .i64 ((1 : Nat) : Int)] 148 := Blk.new w1 _ _
  have hc2 : Chg (fun g => g = tb ∨ g = mb) (fun g => g = tb ∨ g = mb) w1 (w1.alloc (.cells #[.iface T u, .int .i64 1] 148)) := Chg.alloc_other _ w1 _
  replace hb2 := Lib.hid hb2
  replace hc2 := Lib.hid hc2
  go_wp2_with (at_mapUpdate; go_loud (refine wpList_put_k rfl _ _ _ 134 rfl 3 135 keyI Tryz.underlying134 Tryz.underlying3 rfl hkm2 k rfl hlk (.pointer (some ⟨w1.heap.size, 0, none⟩)) rfl ?_); intro ob2 hkm3; refine Hid.out ?_)
  refine Lib.hid ?_
  have hc3 := (hC.out.mono (G := fun g => g = tb ∨ g = mb) (G' := fun g => g = tb ∨ g = mb) (fun b hb => .inl hb) (fun b _ hb => .inr hb)).trans (hc2.out.trans (Chg.setB (F := fun g => g = tb ∨ g = mb) (.inr rfl) ob2))
  have hb3 := hb2.out.setB (g := mb) (by omega) ob2
  have hn3 : NumR (setBlock (w1.alloc (.cells #[.iface T u, .int .i64 1] 148)) mb ob2) tb _ _ _ _ _ _ _ := hn.out.keep ((setB_other (Ne.symm hmt) ob2).trans (Below.heap_alloc w1 _ tb hlt1)) fun g hg => by
    have hgl := hn.out.at_.row.lt hg
    have hgm : g ≠ mb := fun e => by
      have := hbk.out g hg
      rw [e, hlm] at this
      cases this
    exact (setB_other hgm ob2).trans (Below.heap_alloc w1 _ g hgl)
  have hres := hadd.out _ w1.heap.size hno.out hc3 hsp.out hn3 hbk.out hkm3 (by rw [hdv.out]; exact hb3) hz1 hob.out
  generalize setBlock (w1.alloc (.cells #[.iface T u, .int .i64 1] 148)) mb ob2 = w3 at hres ⊢
  replace hres := Lib.hid hres
  clear hc3 hb3 hn3 hkm2 hb2 hc2 c2 hkm1 hkm3
  go_wp2
  go_ret
  exact ⟨rfl, hres.out⟩
end
end Go.Proofs.YtfofpphnglhopaaGreatDoor
namespace Go.Proofs.YtfofpphnglhopaaGreatDoor
open Go Go.RowKit
def fileC (fb : Nat) (n : Int) (a : Nat) (r wr m : Bool) : List Value := [ptrV fb, .int .i64 n, .int .i64 (a : Int), .bool r, .bool wr, .bool m]
section
variable {w : World} {F : Nat → Prop} {fb most room : Nat} {nds : Nds} {ob a : Nat} {n : Int} {r wr m : Bool}
theorem file_read (hb : Blk w ob (fileC fb n a true wr m) 162) (h : TreeF w F fb most room nds) {x : Pn} (hx : look nds n = some x) (hk : x.kind ≠ 1) (ha : a ≤ 1000000) (k : Nat) (hn : k ≤ 9223372036854775807) (hd : x.data.length ≤ 1000000) :
    Calls Tryz.prog 263 #[ptrV ob, .int .i64 (k : Int)] w fun e w' => e = .returned (.tuple #[.string ⟨((x.data.drop a).take k).toArray⟩, .int .i64 0]) ∧ ∃ j, w' = (w.drewN j).setCell ⟨ob, 2, none⟩ (.int .i64 ((a + ((x.data.drop a).take k).length : Nat) : Int)) := by
  obtain ⟨lab, mb, mem, h, hF⟩ := h
  have hr := fun j => read_some (h.grown (w' := w.drewN j) ⟨rfl, rfl, rfl, Nat.le_refl _, fun _ _ _ => rfl⟩) hx hk a k (by omega) hn
  have c0 := hb.cell (i := 0) rfl
  have c1 := hb.cell (i := 1) rfl
  have c2 := hb.cell (i := 2) rfl
  have c3 := hb.cell (i := 3) rfl
  have f2 := hb.frozen 2
  have hlt := hb.lt
  have hlen : ((x.data.drop a).take k).length ≤ 1000000 := by rw [List.length_take, List.length_drop]; omega
  have i1 : ¬ (k : Int) < 0 := by omega
  generalize (x.data.drop a).take k = s at hr hlen ⊢
  unfold ptrV at c0 ⊢
  replace hr := Lib.hid hr
  clear h hx hk hn hF hd hb
  go_enter Tryz.func263, Tryz.ntmps263
  go_upto_region 5 with fail
  obtain ⟨S, hS⟩ : ∃ S : ByteArray, ⟨s.toArray⟩ = S := ⟨_, rfl⟩
  have hsz : S.size = s.length := by rw [← hS]; show s.toArray.size = _; simp
  rw [hS] at hr
  go_quiet ((go_at_call 70; refine Calls.quiet_of (hr.out _)))
  have i2 : IntKind.i64.wrap ((a : Int) + (s.length : Int)) = (a : Int) + (s.length : Int) := by rw [IntKind.wrap_i64]; omega
  go_wp2
  go_ret2
  exact ⟨by first | rfl | (subst hS; rfl), nq, rfl⟩
end
section
variable {w : World} {F : Nat → Prop} {plb q M C tot k bb pb ends : Nat} {es : List Ent} {b : Bs}
theorem rd_read (n : Nat) (hp : Blk w pb [ptrV bb, .int .i64 (ends : Int)] 167) (h : AllF w F plb q M C es tot) (hk : es[k]? = some (bb, some b)) (ht : tot ≤ 500000) :
    Calls Tryz.prog 276 #[.agg #[ptrV pb], .int .i64 (n : Int)] w fun e w' => e = .returned (.tuple #[.string ⟨((b.all.drop b.gone).take n).toArray⟩, .int .i64 0]) ∧
      (∃ (F' : Nat → Prop) (b' : Bs), AllF w' F' plb q M C (es.set k (bb, some b')) tot ∧ Chg F F' w w' ∧ b'.all = b.all ∧ b'.gone = b.gone + min n (b.all.length - b.gone)) := by
  have hb1 : Blk (w.alloc (.cells #[ptrV pb] 169)) w.heap.size [ptrV pb] 169 := Blk.new w _ _
  have hp1 : Blk (w.alloc (.cells #[ptrV pb] 169)) pb _ _ := (Below.heap_alloc w _ pb hp.lt).trans hp
  have h1 : AllF (w.alloc (.cells #[ptrV pb] 169)) F plb q M C es tot := h.keep (by simp) fun g hg => Below.heap_alloc w _ g (h.lt hg)
  have hc1 : Chg F F w (w.alloc (.cells #[ptrV pb] 169)) := Chg.alloc_other F w _
  have hd := allF_drain n h1 hk ht
  unfold ptrV at hp1 hb1 hc1 hd ⊢
  replace hd := Lib.hid hd
  replace hc1 := Lib.hid hc1
  clear h1 hk ht hp h
  go_enter Tryz.func276, Tryz.ntmps276
  go_upto_region 1 with fail
  obtain ⟨z, hz⟩ : ∃ z, w.heap.size = z := ⟨_, rfl⟩
  generalize (w.alloc (.cells #[.pointer (some ⟨pb, 0, none⟩)] 169)) = w1 at hb1 hp1 hc1 hd ⊢
  simp only [hz] at hb1 ⊢
  replace hz := Lib.hid hz
  have z0 := hb1.cell (i := 0) rfl
  have c0 := hp1.cell (i := 0) rfl
  have hzl := hb1.lt
  have hpl := hp1.lt
  clear hb1 hp1
  go_wp2_with fail
  refine hd.out.mono ?_
  rintro e w' ⟨rfl, F', b', h1, h2, h3, h4⟩
  have h5 := hc1.out.trans h2
  replace h1 := Lib.hid h1
  replace h5 := Lib.hid h5
  replace h3 := Lib.hid h3
  replace h4 := Lib.hid h4
  clear hd hc1 h2 z0 c0
  go_wp2
  go_ret2
  exact ⟨rfl, F', b', h1.out, h5.out, h3.out, h4.out⟩
theorem wr_write (data : ByteArray) (hp : Blk w pb [ptrV bb, .int .i64 (ends : Int)] 167) (h : AllF w F plb q M C es tot) (hk : es[k]? = some (bb, some b)) (ht : tot + data.size ≤ 500000) :
    Calls Tryz.prog 281 #[.agg #[ptrV pb], .string data] w fun e w' =>
      (tally heldOf es + data.size ≤ q ∧ e = .returned (.int .i64 0) ∧ (∃ (F' : Nat → Prop) (b' : Bs), AllF w' F' plb q M C (es.set k (bb, some b')) (tot + data.size) ∧ Chg F F' w w' ∧ b'.all = b.all ++ tl data ∧ b'.gone = b.gone) ∨
       q < tally heldOf es + data.size ∧ e = .returned (.int .i64 41) ∧ AllF w' F plb q M C es tot ∧ Chg F F w w') := by
  have hb1 : Blk (w.alloc (.cells #[ptrV pb] 170)) w.heap.size [ptrV pb] 170 := Blk.new w _ _
  have hp1 : Blk (w.alloc (.cells #[ptrV pb] 170)) pb _ _ := (Below.heap_alloc w _ pb hp.lt).trans hp
  have h1 : AllF (w.alloc (.cells #[ptrV pb] 170)) F plb q M C es tot := h.keep (by simp) fun g hg => Below.heap_alloc w _ g (h.lt hg)
  have hc1 : Chg F F w (w.alloc (.cells #[ptrV pb] 170)) := Chg.alloc_other F w _
  have hd := allF_append data h1 hk ht
  unfold ptrV at hp1 hb1 hc1 hd ⊢
  replace hd := Lib.hid hd
  replace hc1 := Lib.hid hc1
  clear h1 hk ht hp h
  go_enter Tryz.func281, Tryz.ntmps281
  go_upto_region 1 with fail
  obtain ⟨z, hz⟩ : ∃ z, w.heap.size = z := ⟨_, rfl⟩
  generalize (w.alloc (.cells #[.pointer (some ⟨pb, 0, none⟩)] 170)) = w1 at hb1 hp1 hc1 hd ⊢
  simp only [hz] at hb1 ⊢
  replace hz := Lib.hid hz
  have z0 := hb1.cell (i := 0) rfl
  have c0 := hp1.cell (i := 0) rfl
  have hzl := hb1.lt
  have hpl := hp1.lt
  clear hb1 hp1
  go_wp2_with fail
  refine hd.out.mono ?_
  rintro e w' (⟨h0, rfl, F', b', h1, h2, h3, h4⟩ | ⟨h0, rfl, h1, h2⟩)
  · have h5 := hc1.out.trans h2
    replace h0 := Lib.hid h0
    replace h1 := Lib.hid h1
    replace h5 := Lib.hid h5
    replace h3 := Lib.hid h3
    replace h4 := Lib.hid h4
    clear hd hc1 h2 z0 c0
    go_wp2
    go_ret
    exact .inl ⟨h0.out, rfl, F', b', h1.out, h5.out, h3.out, h4.out⟩
  · have h5 := hc1.out.trans h2
    replace h0 := Lib.hid h0
    replace h1 := Lib.hid h1
    replace h5 := Lib.hid h5
    clear hd hc1 h2 z0 c0
    go_wp2
    go_ret
    exact .inr ⟨h0.out, rfl, h1.out, h5.out⟩
theorem pipe_end1 (hp : Blk w pb [ptrV bb, .int .i64 ((2 : Nat) : Int)] 167) :
    Calls Tryz.prog 271 #[ptrV pb] w fun e w' => e = .returned (.tuple #[]) ∧ w' = w.setCell ⟨pb, 1, none⟩ (.int .i64 ((1 : Nat) : Int)) := by
  have c1 := hp.cell (i := 1) rfl
  have f1 := hp.frozen 1
  have hlt := hp.lt
  unfold ptrV
  clear hp
  go_enter Tryz.func271, Tryz.ntmps271
  go_wp2
  go_end0
  exact ⟨rfl, rfl⟩
theorem pipe_end0 (hp : Blk w pb [ptrV bb, .int .i64 ((1 : Nat) : Int)] 167) (h : AllF w F plb q M C es tot) (hpf : ¬ F pb) (hk : es[k]? = some (bb, some b)) (ht : tot ≤ 500000) (hn : es.length ≤ 1000000) :
    Calls Tryz.prog 271 #[ptrV pb] w fun e w' => e = .returned (.tuple #[]) ∧ ∃ w1 F', w1 = w.setCell ⟨pb, 1, none⟩ (.int .i64 ((0 : Nat) : Int)) ∧ AllF w' F' plb q M C (es.set k (bb, none)) tot ∧ Chg F F' w1 w' := by
  have c1 := hp.cell (i := 1) rfl
  have c0 := hp.cell (i := 0) rfl
  have f1 := hp.frozen 1
  have hlt := hp.lt
  have h1 : AllF (w.setCell ⟨pb, 1, none⟩ (.int .i64 0)) F plb q M C es tot := h.keep (by simp [World.setCell]) fun g hg => heap_setCell_other w _ g _ fun e => hpf (by rw [show g = pb from e] at hg; exact hg)
  have hd := allF_close h1 hk ht hn
  unfold ptrV at c0 ⊢
  replace hd := Lib.hid hd
  clear hp h h1 hk
  go_enter Tryz.func271, Tryz.ntmps271
  go_wp2_with fail
  refine hd.out.mono ?_
  rintro e w' ⟨rfl, F', h1, h2⟩
  replace h1 := Lib.hid h1
  replace h2 := Lib.hid h2
  clear hd
  go_wp2
  go_end0
  exact ⟨rfl, _, F', rfl, h1.out, h2.out⟩
end
end Go.Proofs.YtfofpphnglhopaaGreatDoor
namespace Go.Proofs.YtfofpphnglhopaaGreatDoor
open Go Go.RowKit Go.ChangeMaps
structure Sy where
  fb : Nat
  plb : Nat
  tb : Nat
  most : Nat
  room : Nat
  q : Nat
  M : Nat
  C : Nat
structure St where
  nds : Nds
  es : List Ent
  tot : Nat
  hs : Hs
  pp : Pps
  top : Nat
  xs : List Int
structure SysR (w : World) (Ft Fp Fh : Nat → Prop) (c : Sy) (s : St) : Prop where
  tree : TreeF w Ft c.fb c.most c.room s.nds
  pool : AllF w Fp c.plb c.q c.M c.C s.es s.tot
  tab : TabF w Fh c.fb c.plb c.tb s.hs s.pp s.top s.xs
  tp : ∀ g, Ft g → ¬ Fp g
  th : ∀ g, Ft g → ¬ Fh g
  ph : ∀ g, Fp g → ¬ Fh g
def foot (Ft Fp Fh : Nat → Prop) (g : Nat) : Prop := Ft g ∨ Fp g ∨ Fh g
def Sys (w : World) (F : Nat → Prop) (c : Sy) (s : St) : Prop := ∃ Ft Fp Fh, SysR w Ft Fp Fh c s ∧ ∀ g, F g ↔ foot Ft Fp Fh g
section
variable {w w' : World} {F Ft Fp Fh Ft' Fp' Fh' : Nat → Prop} {c : Sy} {s s' : St}
theorem SysR.lt (h : SysR w Ft Fp Fh c s) {g : Nat} (hg : foot Ft Fp Fh g) : g < w.heap.size := by
  rcases hg with hg | hg | hg
  · exact h.tree.lt hg
  · exact h.pool.lt hg
  · exact h.tab.lt hg
theorem SysR.keep (h : SysR w Ft Fp Fh c s) (hs : w.heap.size ≤ w'.heap.size) (hk : ∀ g, foot Ft Fp Fh g → w'.heap[g]? = w.heap[g]?) : SysR w' Ft Fp Fh c s :=
  ⟨h.tree.keep hs fun g hg => hk g (.inl hg), h.pool.keep hs fun g hg => hk g (.inr (.inl hg)), h.tab.keep hs fun g hg => hk g (.inr (.inr hg)), h.tp, h.th, h.ph⟩
theorem Sys.lt (h : Sys w F c s) {g : Nat} (hg : F g) : g < w.heap.size := by
  obtain ⟨Ft, Fp, Fh, h, hF⟩ := h
  exact h.lt ((hF g).1 hg)
theorem Sys.keep (h : Sys w F c s) (hs : w.heap.size ≤ w'.heap.size) (hk : ∀ g, F g → w'.heap[g]? = w.heap[g]?) : Sys w' F c s := by
  obtain ⟨Ft, Fp, Fh, h, hF⟩ := h
  exact ⟨Ft, Fp, Fh, h.keep hs fun g hg => hk g ((hF g).2 hg), hF⟩
theorem Sys.grown (h : Sys w F c s) (hg : w.grownBy w' none) : Sys w' F c s := h.keep hg.size fun g hg' => hg.block g (h.lt hg') (by simp)
theorem Sys.of {w0 : World} (hF : ∀ g, F g ↔ foot Ft Fp Fh g) (h : SysR w' Ft' Fp' Fh' c s') (k : Chg (foot Ft Fp Fh) (foot Ft' Fp' Fh') w0 w') : ∃ F', Sys w' F' c s' ∧ Chg F F' w0 w' :=
  ⟨foot Ft' Fp' Fh', ⟨Ft', Fp', Fh', h, fun _ => Iff.rfl⟩, k.mono (fun b hb => (hF b).2 hb) fun _ _ h => .inl h⟩
theorem SysR.treeStep {nds' : Nds} (h : SysR w Ft Fp Fh c s) (ht : TreeF w' Ft' c.fb c.most c.room nds') (k : Chg Ft Ft' w w') :
    SysR w' Ft' Fp Fh c { s with nds := nds' } ∧ Chg (foot Ft Fp Fh) (foot Ft' Fp Fh) w w' := by
  have h1 := k.off (G := Fp) fun g hg => ⟨h.pool.lt hg, fun hf => h.tp g hf hg⟩
  have h2 := k.off (G := Fh) fun g hg => ⟨h.tab.lt hg, fun hf => h.th g hf hg⟩
  exact ⟨⟨ht, h.pool.keep k.size fun g hg => k.block g (h.pool.lt hg) fun hf => h.tp g hf hg, h.tab.keep k.size fun g hg => k.block g (h.tab.lt hg) fun hf => h.th g hf hg,
    fun g hg hp => h1 g hp hg, fun g hg hh => h2 g hh hg, h.ph⟩, k.mono (fun b hb => .inl hb) fun b _ hb => hb.elim .inl fun hb => .inr (.inr hb)⟩
theorem SysR.poolStep {es' : List Ent} {tot' : Nat} (h : SysR w Ft Fp Fh c s) (ht : AllF w' Fp' c.plb c.q c.M c.C es' tot') (k : Chg Fp Fp' w w') :
    SysR w' Ft Fp' Fh c { s with es := es', tot := tot' } ∧ Chg (foot Ft Fp Fh) (foot Ft Fp' Fh) w w' := by
  have h1 := k.off (G := Ft) fun g hg => ⟨h.tree.lt hg, fun hf => h.tp g hg hf⟩
  have h2 := k.off (G := Fh) fun g hg => ⟨h.tab.lt hg, fun hf => h.ph g hf hg⟩
  exact ⟨⟨h.tree.keep k.size fun g hg => k.block g (h.tree.lt hg) fun hf => h.tp g hg hf, ht, h.tab.keep k.size fun g hg => k.block g (h.tab.lt hg) fun hf => h.ph g hf hg,
    fun g hg hp => h1 g hg hp, h.th, fun g hg hh => h2 g hh hg⟩, k.mono (fun b hb => .inr (.inl hb)) fun b _ hb => by
      rcases hb with hb | hb | hb
      · exact .inr (.inl hb)
      · exact .inl hb
      · exact .inr (.inr (.inr hb))⟩
theorem SysR.tabStep {G : Nat → Prop} {hs' : Hs} {pp' : Pps} {top' : Nat} {xs' : List Int} (h : SysR w Ft Fp Fh c s) (hG : ∀ g, G g → ¬ Ft g ∧ ¬ Fp g) (ht : TabF w' Fh' c.fb c.plb c.tb hs' pp' top' xs') (k : Chg (fun g => Fh g ∨ G g) Fh' w w') :
    SysR w' Ft Fp Fh' c { s with hs := hs', pp := pp', top := top', xs := xs' } ∧ Chg (fun g => foot Ft Fp Fh g ∨ G g) (foot Ft Fp Fh') w w' := by
  have n1 : ∀ g, Ft g → ¬ (Fh g ∨ G g) := fun g hg hf => hf.elim (h.th g hg) fun hf => (hG g hf).1 hg
  have n2 : ∀ g, Fp g → ¬ (Fh g ∨ G g) := fun g hg hf => hf.elim (h.ph g hg) fun hf => (hG g hf).2 hg
  have h1 := k.off (G := Ft) fun g hg => ⟨h.tree.lt hg, n1 g hg⟩
  have h2 := k.off (G := Fp) fun g hg => ⟨h.pool.lt hg, n2 g hg⟩
  refine ⟨⟨h.tree.keep k.size fun g hg => k.block g (h.tree.lt hg) (n1 g hg), h.pool.keep k.size fun g hg => k.block g (h.pool.lt hg) (n2 g hg), ht, h.tp, fun g hg => h1 g hg, fun g hg => h2 g hg⟩,
    k.mono (fun b hb => hb.elim (fun hb => .inl (.inr (.inr hb))) .inr) fun b _ hb => ?_⟩
  rcases hb with hb | hb | hb
  · exact .inr (.inl (.inl hb))
  · exact .inr (.inl (.inr (.inl hb)))
  · exact .inl hb
theorem SysR.tabStep0 {hs' : Hs} {pp' : Pps} {top' : Nat} {xs' : List Int} (h : SysR w Ft Fp Fh c s) (ht : TabF w' Fh' c.fb c.plb c.tb hs' pp' top' xs') (k : Chg Fh Fh' w w') :
    SysR w' Ft Fp Fh' c { s with hs := hs', pp := pp', top := top', xs := xs' } ∧ Chg (foot Ft Fp Fh) (foot Ft Fp Fh') w w' := by
  have := h.tabStep (G := fun _ => False) nofun ht (k.mono (fun b hb => .inl hb) fun b _ hb => .inl hb)
  exact ⟨this.1, this.2.mono (fun b hb => hb.elim id False.elim) fun b _ hb => .inl hb⟩
end
section
variable {w : World} {lab : Nat → HL} {F : Nat → Prop} {fb plb tb mb top : Nat} {hs : Hs} {pp : Pps} {mem : Int → HM} {v : Value} {xs : List Int}
theorem TabR.refs (h : TabR w lab fb plb tb hs pp mb mem top v xs) (hF : ∀ g, F g ↔ lab g ≠ .free) {k : Int} {x : Hd} (hx : look hs k = some x) (r : Nat) :
    ∃ F', TabF (w.setCell ⟨(mem k).blk, 1, none⟩ (.int .i64 (r : Int))) F' fb plb tb (upd hs k { x with refs := r }) pp top xs ∧ Chg F F' w (w.setCell ⟨(mem k).blk, 1, none⟩ (.int .i64 (r : Int))) := by
  have hd := h.hd k x hx
  refine h.step (S := fun g => g = (mem k).blk) (S' := fun g => g = (mem k).blk) (lab' := lab) (M' := mem k) hF hx (Chg.set (F := fun g => g = (mem k).blk) rfl 1 _) (fun g _ hg => by rw [hg, hd.lb]; exact rfl) (fun _ _ => rfl) (fun g hg => h.new g (by simpa [World.setCell] using hg)) ⟨hd.blk.set 1 _, hd.lb, ?_⟩ rfl
  have ho := hd.ob
  have hne : ∀ g, lab g ≠ .hnd k → (w.setCell ⟨(mem k).blk, 1, none⟩ (.int .i64 (r : Int))).heap[g]? = w.heap[g]? := fun g hg => heap_setCell_other w _ g _ fun e => hg (by rw [show g = (mem k).blk from e]; exact hd.lb)
  generalize hkd : x.kd = kd at ho
  cases kd with
  | file n a r wr m => exact ⟨(hne _ (by rw [ho.2]; exact nofun)).trans ho.1, ho.2⟩
  | text s a => exact ⟨(hne _ (by rw [ho.2.1]; exact nofun)).trans ho.1, ho.2⟩
  | sink c most => exact ⟨(hne _ (by rw [ho.2.1]; exact nofun)).trans ho.1, ho.2.1, ho.2.2.1.keep fun g hg => hne g (by rw [ho.2.2.2.1 g hg]; exact nofun), ho.2.2.2⟩
  | rd p => exact ho
  | wr p => exact ho
theorem TabR.does (h : TabR w lab fb plb tb hs pp mb mem top v xs) (hF : ∀ g, F g ↔ lab g ≠ .free) {k : Int} {x : Hd} (hx : look hs k = some x) {w' : World} (kd : Kd) (hdv : doesV pp kd (mem k).ob = doesV pp x.kd (mem k).ob) (hl : lab (mem k).ob = .obj k) (c : Chg (fun g => g = (mem k).ob) (fun g => g = (mem k).ob) w w')
    (ho : ObjAt w' lab fb pp.length k (mem k) kd) : ∃ F', TabF w' F' fb plb tb (upd hs k { x with kd := kd }) pp top xs ∧ Chg F F' w w' := by
  have hd := h.hd k x hx
  refine h.step (S := fun g => g = (mem k).ob) (S' := fun g => g = (mem k).ob) (lab' := lab) (M' := mem k) hF hx c (fun g _ hg => by rw [hg, hl]; exact rfl) (fun _ _ => rfl) (fun g hg => h.new g (Nat.le_trans c.size hg)) ⟨?_, hd.lb, ho⟩ rfl
  rw [show doesV pp ({ x with kd := kd } : Hd).kd (mem k).ob = doesV pp x.kd (mem k).ob from hdv]
  exact (c.block _ hd.blk.lt fun e => by rw [← e, hd.lb] at hl; cases hl).trans hd.blk
end
section
variable {w w' : World} {b : Nat} {cur : List Value} {t : TypeId}
end
structure Stp (S : Nat → Prop) (w w' : World) : Prop where
  os : w'.os = w.os
  tape : w'.tape = w.tape
  output : w'.output = w.output
  size : w.heap.size ≤ w'.heap.size
  block : ∀ b, b < w.heap.size → ¬ S b → w'.heap[b]? = w.heap[b]?
section
variable {S S' : Nat → Prop} {w w' w'' : World}
theorem Stp.refl (S : Nat → Prop) (w : World) : Stp S w w := ⟨rfl, rfl, rfl, Nat.le_refl _, fun _ _ _ => rfl⟩
theorem Stp.trans (h : Stp S w w') (k : Stp S' w' w'') (hs : ∀ b, b < w.heap.size → S' b → S b) : Stp S w w'' :=
  ⟨k.os.trans h.os, k.tape.trans h.tape, k.output.trans h.output, Nat.le_trans h.size k.size, fun b hb hn => (k.block b (Nat.lt_of_lt_of_le hb h.size) (fun e => hn (hs b hb e))).trans (h.block b hb hn)⟩
theorem Stp.mono (h : Stp S w w') (hs : ∀ b, b < w.heap.size → S b → S' b) : Stp S' w w' := ⟨h.os, h.tape, h.output, h.size, fun b hb hn => h.block b hb fun k => hn (hs b hb k)⟩
theorem Stp.set {b : Nat} (hS : S b) (i : Nat) (u : Value) : Stp S w (w.setCell ⟨b, i, none⟩ u) :=
  ⟨rfl, rfl, rfl, by simp [World.setCell], fun k _ hk => heap_setCell_other w _ k u (fun e => hk (by rw [e]; exact hS))⟩
theorem Stp.row {b : Nat} (hS : S b) (cs : Array Value) : Stp S w (w.setRow b cs) :=
  ⟨rfl, rfl, rfl, by simp, fun k _ hk => setRow_other w b k cs (fun e => hk (by rw [e]; exact hS))⟩
theorem Stp.alloc (S : Nat → Prop) (w : World) (o : Obj) : Stp S w (w.alloc o) := ⟨rfl, rfl, rfl, by simp, fun k hk _ => Below.heap_alloc w o k hk⟩
theorem Stp.drew (S : Nat → Prop) (w : World) : Stp S w w.drew := ⟨rfl, rfl, rfl, Nat.le_refl _, fun _ _ _ => rfl⟩
theorem Blk.stp {b : Nat} {cur : List Value} {t : TypeId} (h : Blk w b cur t) (m : Stp S w w') (hb : ¬ S b) : Blk w' b cur t := (m.block b h.lt hb).trans h
end
structure Fr (B : Nat) (T : TypeId → Prop) (M : Nat → Prop) (w w' : World) : Prop where
  os : w'.os = w.os
  tape : w'.tape = w.tape
  output : w'.output = w.output
  size : w.heap.size ≤ w'.heap.size
  keep : ∀ b, b < w.heap.size → (b < B ∨ ¬ M b ∧ ∀ cur t f, w.heap[b]? = some (.cells cur t f) → ¬ T t) → w'.heap[b]? = w.heap[b]?
section
variable {B B' : Nat} {T T' : TypeId → Prop} {M M' S : Nat → Prop} {w w' w'' : World}
theorem Fr.trans (h : Fr B T M w w') (k : Fr B T M w' w'') : Fr B T M w w'' :=
  ⟨k.os.trans h.os, k.tape.trans h.tape, k.output.trans h.output, Nat.le_trans h.size k.size, fun b hb hf => by
    have e := h.keep b hb hf
    exact (k.keep b (Nat.lt_of_lt_of_le hb h.size) (hf.imp id fun hf => ⟨hf.1, fun cur t f hc => hf.2 cur t f (e ▸ hc)⟩)).trans e⟩
theorem Fr.of_stp (h : Stp S w w') (hs : ∀ b, b < w.heap.size → S b → B ≤ b ∧ (M b ∨ ∃ cur t f, w.heap[b]? = some (.cells cur t f) ∧ T t)) : Fr B T M w w' :=
  ⟨h.os, h.tape, h.output, h.size, fun b hb hf => h.block b hb fun k => by
    obtain ⟨h1, h2⟩ := hs b hb k
    rcases hf with hf | ⟨hf, hg⟩
    · omega
    · rcases h2 with h2 | ⟨cur, t, f, h3, h4⟩
      · exact hf h2
      · exact hg cur t f h3 h4⟩
theorem Fr.drewN (B : Nat) (T : TypeId → Prop) (M : Nat → Prop) (w : World) (n : Nat) : Fr B T M w (w.drewN n) := ⟨rfl, rfl, rfl, Nat.le_refl _, fun _ _ _ => rfl⟩
theorem Blk.fr {b : Nat} {cur : List Value} {t : TypeId} (h : Blk w b cur t) (m : Fr B T M w w') (ht : ¬ T t) (hM : ¬ M b) : Blk w' b cur t :=
  (m.keep b h.lt (.inr ⟨hM, fun _ _ _ hc => by
    have := h.symm.trans hc
    simp only [Option.some.injEq, Obj.cells.injEq] at this
    rw [← this.2.1]; exact ht⟩)).trans h
end
section
variable {w w' : World} {B : Nat} {e : TypeId} {v : Value} {n : Nat} {xs : List Value}
theorem Row.stp {S : Nat → Prop} (h : Row w B e v n xs) (m : Stp S w w') (hb : ∀ g, v.ownBlock = some g → ¬ S g) : Row w' B e v n xs :=
  h.keep fun g hg => m.block g (h.lt hg).2.1 (hb g hg)
end
section
variable {P : Program} (w : World)
theorem run_append_rowS (B : Nat) (t tx ty e : TypeId) (i : TypeInfo) (z : Value) (ht : P.underlying t = some (.slice e)) (hi : P.info? e = some i) (hz : i.zero = some z) (hs1 : i.size = 1) (hzs : z.cells.size = 1)
    (v : Value) (n : Nat) (xs : List Value) (hr : Row w B e v n xs) (x : Value) (m : Nat) (news : List Value) (hs : Src P 1 tx x m news w) (hb : (n + m) * i.bytes ≤ 140737488355328) (hm : n + m ≤ 100000000) (hB : B ≤ w.heap.size) :
    ∃ v' w', (Builtin.append_ #[t, tx] ty #[v, x]).run P w = .ok v' w' ∧ Row w' B e v' (n + m) (xs ++ news) ∧ Stp (fun b => v.ownBlock = some b) w w' ∧ (v'.ownBlock = v.ownBlock ∨ v'.ownBlock = some w.heap.size) := by
  have hs0 := hs
  rw [← hs1] at hs0
  have hnl : news.length = m := by simpa using hs.newsLen
  have hxl := hr.len
  have h63 : n + m ≤ maxLen := by simp only [maxLen]; omega
  have grown : ∀ (base : Option Addr) (cap : Nat) (hv : v = .slice base n cap) (hlt : cap < n + m) (hold : (Builtin.firstCells i.size n (.slice base n cap)).run P w.drew = .ok xs.toArray w.drew),
      ∃ v' w', (Builtin.append_ #[t, tx] ty #[v, x]).run P w = .ok v' w' ∧ Row w' B e v' (n + m) (xs ++ news) ∧ Stp (fun b => v.ownBlock = some b) w w' ∧ (v'.ownBlock = v.ownBlock ∨ v'.ownBlock = some w.heap.size) := by
    intro base cap hv hlt hold
    subst hv
    have hge := grownCap_ge w (n + m) cap e
    have hcm := grownCap_le_maxLen w (n + m) cap e h63
    refine ⟨_, _, run_append_grow_src w t tx ty e i z ht hi hz base n cap xs hold x m news hs0 hlt (by omega) (growslice_fits hlt hb), .inr ⟨w.heap.size, 0, _, (xs ++ news) ++ (Builtin.zeroCells z.cells (grownCap w (n + m) cap e - (n + m))).toList, rfl, hB, ?_, hge, hcm, ?_, ?_⟩, (Stp.drew _ w).trans (Stp.alloc _ w.drew _) (fun _ _ h => h), .inr rfl⟩
    · have e1 : ((xs ++ news).toArray ++ Builtin.zeroCells z.cells (grownCap w (n + m) cap e - (n + m))) = ((xs ++ news) ++ (Builtin.zeroCells z.cells (grownCap w (n + m) cap e - (n + m))).toList).toArray := by apply Array.ext'; simp
      rw [e1]
      exact Blk.new w.drew _ e
    · simp only [List.length_append, Array.length_toList, size_zeroCells, hzs]
      omega
    · rw [List.drop_zero]
      exact List.take_left' (by rw [List.length_append]; omega)
  rcases hr with ⟨rfl, rfl, rfl⟩ | ⟨g, off, cap, cur, rfl, h0, h1, h2, h3, h4, rfl⟩
  · by_cases hm0 : m = 0
    · subst hm0
      obtain rfl : news = [] := List.eq_nil_of_length_eq_zero hnl
      refine ⟨.slice none 0 0, w, ?_, .inl ⟨rfl, rfl, rfl⟩, Stp.refl _ _, .inl rfl⟩
      rcases hs.kind with ⟨e', hk⟩ | hk <;> simp [Builtin.append_, run_underlying ht, run_underlying hk, sizeOf, typeInfo, hi, hs0.len, hs0.cells]
    · exact grown none 0 rfl (by omega) (run_firstCells_none w.drew i.size 0 0 0)
  · by_cases hroom : n + m ≤ cap
    · have hst := run_storeCells_at P g (off + n) e news 0 cur.toArray w h1 (by simp; omega) hs.one
      simp only [Nat.add_zero] at hst
      refine ⟨.slice (some ⟨g, off, none⟩) (n + m) cap, w.setRow g (cur.take (off + n) ++ news ++ cur.drop (off + n + news.length)).toArray, ?_, .inr ⟨g, off, cap, _, rfl, h0, h1.row _, hroom, h3, ?_, ?_⟩, Stp.row (S := fun b => (Value.slice (some ⟨g, off, none⟩) n cap).ownBlock = some b) rfl _, .inl rfl⟩
      · rcases hs.kind with ⟨e', hk⟩ | hk <;> simp [Builtin.append_, run_underlying ht, run_underlying hk, sizeOf, typeInfo, hi, hs1, hs.len, hroom, hs.cells, Addr.add_lit, hst]
      · simp only [List.length_append, List.length_take, List.length_drop]; omega
      · have e1 : (cur.take (off + n) ++ news ++ cur.drop (off + n + news.length)).drop off = (cur.drop off).take n ++ news ++ cur.drop (off + n + news.length) := by
          rw [List.append_assoc, List.drop_append_of_le_length (by rw [List.length_take]; omega), List.drop_take, Nat.add_sub_cancel_left, List.append_assoc]
        rw [e1]
        exact List.take_left' (by simp only [List.length_append, List.length_take, List.length_drop]; omega)
    · refine grown (some ⟨g, off, none⟩) cap rfl (by omega) ?_
      refine run_firstCells_some w.drew i.size n ⟨g, off, none⟩ n cap _ (by rw [hs1, hxl, Nat.mul_one]) fun j u hu => ?_
      rw [add_plain0]
      exact Row.cell (w := w) (.inr ⟨g, off, cap, cur, rfl, h0, h1, h2, h3, h4, rfl⟩) hu
end
def IsFn (v : Value) : Prop := ∃ (k : Nat) (cap : Array Value), v = .func (.func k) #[] cap
theorem Blk.ne {w : World} {a b : Nat} {cur cur' : List Value} {t t' : TypeId} (h : Blk w a cur t) (k : Blk w b cur' t') (ht : t ≠ t') : a ≠ b := fun e => by
  subst e
  have := h.symm.trans k
  simp only [Option.some.injEq, Obj.cells.injEq] at this
  exact ht this.2.1
theorem Row.ne {w : World} {B a : Nat} {e t : TypeId} {v : Value} {n : Nat} {xs cur : List Value} (h : Row w B e v n xs) (k : Blk w a cur t) (ht : e ≠ t) {g : Nat} (hg : v.ownBlock = some g) : g ≠ a := by
  obtain ⟨_, _, cur', hb⟩ := h.lt hg
  exact hb.ne k ht
theorem Row.ne2 {w : World} {B B' : Nat} {e t : TypeId} {v v' : Value} {n n' : Nat} {xs xs' : List Value} (h : Row w B e v n xs) (k : Row w B' t v' n' xs') (ht : e ≠ t) {g g' : Nat} (hg : v.ownBlock = some g) (hg' : v'.ownBlock = some g') : g ≠ g' := by
  obtain ⟨_, _, cur', hb⟩ := h.lt hg
  obtain ⟨_, _, cur2, hb2⟩ := k.lt hg'
  exact hb.ne hb2 ht
structure Mk where
  blk : Nat
  notes : Nat
  count : Nat
def logC (most nest : Nat) (mv nv : Value) (c : Nat) : List Value := [.int .i64 (most : Int), .int .i64 (nest : Int), mv, nv, .int .i64 (c : Int)]
def mkC (m : Mk) (gone : Bool) : List Value := [.int .i64 (m.notes : Int), .int .i64 (m.count : Int), .bool gone]
structure LogR (w : World) (B lb most nest : Nat) (mv : Value) (ms : List Mk) (nv : Value) (fs : List Value) (c : Nat) : Prop where
  hB : B ≤ lb
  blk : Blk w lb (logC most nest mv nv c) 121
  mrow : Row w B 220 mv ms.length (ms.map fun m => ptrV m.blk)
  nrow : Row w B 1 nv fs.length fs
  mks : ∀ m ∈ ms, B ≤ m.blk ∧ Blk w m.blk (mkC m false) 222
  ap : (ms.map Mk.blk).Nodup
  nest1 : 1 ≤ nest
  nest2 : nest ≤ 1024
  most2 : most ≤ 1048576
  cp : c ≤ most
  mp : ms.length ≤ nest
  fc : fs.length ≤ c
  fn : ∀ v ∈ fs, IsFn v
  mc : ∀ m ∈ ms, m.notes ≤ m.count ∧ m.count ≤ most
def LogT (t : TypeId) : Prop := t = 121 ∨ t = 220 ∨ t = 1 ∨ t = 222
def LogAt (w : World) (B lb most nest : Nat) (ms : List Mk) (fs : List Value) (c : Nat) : Prop := ∃ mv nv, LogR w B lb most nest mv ms nv fs c
section
variable {w w' : World} {B lb most nest c : Nat} {mv nv : Value} {ms : List Mk} {fs : List Value}
structure KeepL (w w' : World) : Prop where
  size : w.heap.size ≤ w'.heap.size
  keep : ∀ (b : Nat) (cur : Array Value) (t : TypeId) (f : Nat × Nat), w.heap[b]? = some (.cells cur t f) → LogT t → w'.heap[b]? = w.heap[b]?
theorem KeepL.blk (h : KeepL w w') {b : Nat} {cur : List Value} {t : TypeId} (k : Blk w b cur t) (ht : LogT t) : Blk w' b cur t := (h.keep b _ _ _ k ht).trans k
theorem KeepL.row (h : KeepL w w') {e : TypeId} {v : Value} {n : Nat} {xs : List Value} (k : Row w B e v n xs) (ht : LogT e) : Row w' B e v n xs := k.keep fun g hg => by
  obtain ⟨_, _, cur, hb⟩ := k.lt hg
  exact h.keep g _ _ _ hb ht
theorem LogR.keep (h : LogR w B lb most nest mv ms nv fs c) (k : KeepL w w') : LogR w' B lb most nest mv ms nv fs c :=
  { h with
    blk := k.blk h.blk (.inl rfl)
    mrow := k.row h.mrow (.inr (.inl rfl))
    nrow := k.row h.nrow (.inr (.inr (.inl rfl)))
    mks := fun m hm => ⟨(h.mks m hm).1, k.blk (h.mks m hm).2 (.inr (.inr (.inr rfl)))⟩ }
theorem LogAt.keep (h : LogAt w B lb most nest ms fs c) (k : KeepL w w') : LogAt w' B lb most nest ms fs c := by
  obtain ⟨mv, nv, h⟩ := h
  exact ⟨mv, nv, h.keep k⟩
theorem KeepL.drewN (w : World) (n : Nat) : KeepL w (w.drewN n) := ⟨Nat.le_refl _, fun _ _ _ _ _ _ => rfl⟩
theorem KeepL.alloc (w : World) (o : Obj) : KeepL w (w.alloc o) := ⟨by simp, fun b _ _ _ hb _ => Below.heap_alloc w o b (Array.getElem?_eq_some_iff.1 hb).1⟩
theorem lisNil_no (h : LogR w B lb most nest mv ms nv fs c) :
    Calls Tryz.prog 78 #[ptrV lb] w fun e w' => e = .returned (.bool false) ∧ w' = w := by
  have c1 := h.blk.cell (i := 1) rfl
  have hlt := h.blk.lt
  have hn : ((nest : Int) == 0) = false := by have := h.nest1; rw [beq_eq_false_iff_ne]; omega
  unfold ptrV
  clear h
  go_enter Tryz.func78, Tryz.ntmps78
  go_wp2
  go_ret
  exact ⟨rfl, rfl⟩
theorem LogMarks_any (h : LogAt w B lb most nest ms fs c) :
    Calls Tryz.prog 20 #[ptrV lb] w fun e w' => e = .returned (.int .i64 (ms.length : Int)) ∧ w' = w := by
  obtain ⟨mv, nv, h⟩ := h
  have hi := lisNil_no h
  obtain ⟨A, cc, rfl, hc, hcm⟩ := h.mrow.form
  have c2 := h.blk.cell (i := 2) rfl
  have hlt := h.blk.lt
  unfold ptrV at hi ⊢
  generalize ms.length = K at c2 hc
  clear h
  go_enter Tryz.func20, Tryz.ntmps20
  go_wp2_with fail
  refine hi.mono ?_
  rintro e w' ⟨rfl, hw⟩
  obtain rfl := hw.symm
  go_wp2
  go_ret
  exact ⟨rfl, rfl⟩
theorem LogLen_any (h : LogAt w B lb most nest ms fs c) :
    Calls Tryz.prog 29 #[ptrV lb] w fun e w' => e = .returned (.int .i64 (c : Int)) ∧ w' = w := by
  obtain ⟨mv, nv, h⟩ := h
  have hi := lisNil_no h
  have c2 := h.blk.cell (i := 4) rfl
  have hlt := h.blk.lt
  unfold ptrV at hi ⊢
  clear h
  go_enter Tryz.func29, Tryz.ntmps29
  go_wp2_with fail
  refine hi.mono ?_
  rintro e w' ⟨rfl, hw⟩
  obtain rfl := hw.symm
  go_wp2
  go_ret
  exact ⟨rfl, rfl⟩
def refE (most : Nat) (ms : List Mk) (c : Nat) : Int := if ms ≠ [] ∧ c = most then 43 else 0
theorem refusal_any (h : LogAt w B lb most nest ms fs c) :
    Calls Tryz.prog 154 #[ptrV lb] w fun e w' => e = .returned (.int .i64 (refE most ms c)) ∧ ∃ n, w' = w.drewN n := by
  obtain ⟨mv, nv, h⟩ := h
  have hi := lisNil_no h
  obtain ⟨A, cc, rfl, hc, hcm⟩ := h.mrow.form
  have c2 := h.blk.cell (i := 2) rfl
  have c4 := h.blk.cell (i := 4) rfl
  have c0 := h.blk.cell (i := 0) rfl
  have hlt := h.blk.lt
  unfold ptrV at hi ⊢
  clear h
  obtain ⟨E, hE⟩ : ∃ E, refE most ms c = E := ⟨_, rfl⟩
  rw [hE]
  unfold refE at hE
  cases ms with
  | nil =>
    simp only [ne_eq, not_true_eq_false, false_and, if_false] at hE
    subst hE
    simp only [List.length_nil] at c2 hc
    go_enter Tryz.func154, Tryz.ntmps154
    go_wp2_with fail
    refine hi.mono ?_
    rintro e w' ⟨rfl, hw⟩
    obtain rfl := hw.symm
    have hd : decide ((0 : Int) < ((0 : Nat) : Int)) = false := rfl
    go_wp2_with fail
    go_quiet (fail)
    go_wp2
    go_ret
    exact ⟨rfl, _, rfl⟩
  | cons m ms =>
    obtain ⟨K, hK⟩ : ∃ K, (m :: ms).length = K := ⟨_, rfl⟩
    have hK0 : 0 < K := by rw [← hK]; simp
    rw [hK] at c2 hc
    clear hK
    simp only [ne_eq, reduceCtorEq, not_false_eq_true, true_and] at hE
    have hd : decide (0 < K) = true := by simpa using hK0
    by_cases hcm' : c = most
    · rw [if_pos hcm'] at hE
      subst hE hcm'
      go_enter Tryz.func154, Tryz.ntmps154
      go_wp2_with fail
      refine hi.mono ?_
      rintro e w' ⟨rfl, hw⟩
      obtain rfl := hw.symm
      go_wp2_with fail
      go_quiet (fail)
      go_wp2
      go_ret
      exact ⟨rfl, _, rfl⟩
    · rw [if_neg hcm'] at hE
      subst hE
      have hne : ((c : Int) == (most : Int)) = false := by rw [beq_eq_false_iff_ne]; omega
      have hne2 : (c == most) = false := by rw [beq_eq_false_iff_ne]; omega
      go_enter Tryz.func154, Tryz.ntmps154
      go_wp2_with fail
      refine hi.mono ?_
      rintro e w' ⟨rfl, hw⟩
      obtain rfl := hw.symm
      go_wp2_with fail
      go_quiet (fail)
      go_wp2
      go_ret
      exact ⟨rfl, _, rfl⟩
end
theorem LogNew_yes (most nest : Nat) (B : Nat) (w : World) (h1 : most ≤ 1048576) (h2 : 1 ≤ nest) (h3 : nest ≤ 1024) (hB : B ≤ w.heap.size) :
    Calls Tryz.prog 71 #[.int .i64 (most : Int), .int .i64 (nest : Int)] w fun e w' => e = .returned (.tuple #[ptrV w.heap.size, .int .i64 0]) ∧ LogAt w' B w.heap.size most nest [] [] 0 ∧ Below w.heap.size w w' ∧ w'.heap.size = w.heap.size + 1 := by
  have i1 : ¬ (most : Int) < 0 := by omega
  have i2 : ¬ 1048576 < (most : Int) := by omega
  have i3 : ¬ (nest : Int) < 1 := by omega
  have i4 : ¬ 1024 < (nest : Int) := by omega
  have hb : Blk (w.alloc (.cells #[.int .i64 (most : Int), .int .i64 (nest : Int), .slice none 0 0, .slice none 0 0, .int .i64 0] 121)) w.heap.size (logC most nest (.slice none 0 0) (.slice none 0 0) 0) 121 := Blk.new w _ _
  have hl : LogAt (w.alloc (.cells #[.int .i64 (most : Int), .int .i64 (nest : Int), .slice none 0 0, .slice none 0 0, .int .i64 0] 121)) B w.heap.size most nest [] [] 0 :=
    ⟨_, _, hB, hb, Row.nil_ _ _ _, Row.nil_ _ _ _, (fun _ h => by cases h), List.nodup_nil, h2, h3, h1, Nat.zero_le _, Nat.zero_le _, Nat.le_refl _, (fun _ h => by cases h), (fun _ h => by cases h)⟩
  replace hl := Lib.hid hl
  clear hb h1 h2 h3
  unfold ptrV
  go_enter Tryz.func71, Tryz.ntmps71
  go_wp2
  go_ret2
  exact ⟨rfl, hl.out, (Below.refl _ w).alloc (Nat.le_refl _) _, by simp⟩
end Go.Proofs.YtfofpphnglhopaaGreatDoor
