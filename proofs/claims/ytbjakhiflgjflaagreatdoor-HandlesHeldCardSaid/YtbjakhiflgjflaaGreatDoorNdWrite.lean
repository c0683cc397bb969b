/-
  Write of a tree's file: the bytes from a place on are the data's; bytes 0 between its end and the place. Conditions: places and data of fewer than a thousand million bytes.
-/
import Derived.Test.YtbjakhiflgjflaaGreatDoorNdSmall
import Derived.Test.YtbjakhiflgjflaaGreatDoorSpFoot
namespace Go.Proofs.YtbjakhiflgjflaaGreatDoor
open Go Go.RowKit

/-- What a file has behind a Write. -/
def putB (d : List UInt8) (a : Nat) (s : List UInt8) : List UInt8 := (d ++ List.replicate (a + s.length - d.length) 0).take a ++ s ++ (d ++ List.replicate (a + s.length - d.length) 0).drop (a + s.length)
theorem putB_len {d : List UInt8} {a : Nat} {s : List UInt8} : (putB d a s).length = max d.length (a + s.length) := by
  unfold putB
  simp only [List.length_append, List.length_take, List.length_drop, List.length_replicate]
  omega
theorem bc_rep (k : Nat) : List.replicate k (Value.int .u8 0) = bc (List.replicate k 0) := by
  unfold bc
  rw [List.map_replicate]
  rfl
theorem row_part {w : World} {n : Nat} {v : Value} {l : List UInt8} {a : Nat} {s : ByteArray} (h : RowM w 5 v n ((bc l).take a ++ byteCells s ++ (bc l).drop (a + s.size))) : RowM w 5 v n (bc (l.take a ++ tl s ++ l.drop (a + (tl s).length))) := by
  rw [bc_str] at h
  have e : bc (l.take a ++ tl s ++ l.drop (a + (tl s).length)) = (bc l).take a ++ bc (tl s) ++ (bc l).drop (a + s.size) := by
    unfold bc
    rw [List.map_append, List.map_append, List.map_take, List.map_drop, tl_len]
  rw [e]
  exact h

section
variable {w : World} {lab : Nat → TL} {F : Nat → Prop} {fb most room mb : Nat} {nds : Nds} {mem : Int → NM}

set_option maxHeartbeats 1000000 in
set_option maxRecDepth 100000 in
theorem write_big (h : TreeR w lab fb most room nds mb mem) {k : Int} {x : Pn} (hx : look nds k = some x) (hk : x.kind = 2) (a : Nat) (s : ByteArray) (ha : a ≤ 1000000000) (hs : s.size ≤ 1000000000) (hb : 4096 < a + s.size) :
    Calls Tryz.prog 268 #[.pointer (some ⟨fb, 0, none⟩), .int .i64 k, .int .i64 (a : Int), .string s] w fun e w' => e = .returned (.int .i64 21) ∧ w' = w := by
  have hl := leaf_some h hx (by omega)
  have hN := h.nd k x hx
  have c0 := hN.blk.cell (show (bodyC x (mem k))[0]? = some _ from rfl)
  rw [hk] at c0
  have hlt := hN.blk.lt
  generalize (mem k).blk = kb at hl c0 hlt
  have e1 : ¬ (a : Int) < 0 := by omega
  have e2 : (4096 : Int) - (a : Int) < (s.size : Int) := by omega
  clear h hN hx hk
  go_enter Tryz.func268, Tryz.ntmps268
  go_wp2_with fail
  refine hl.mono ?_
  rintro e w' ⟨rfl, hw⟩
  obtain rfl := hw.symm
  clear hl hw
  go_wp2
  go_ret
  exact ⟨rfl, rfl⟩
set_option maxHeartbeats 1000000 in
set_option maxRecDepth 100000 in
theorem write_empty (h : TreeR w lab fb most room nds mb mem) {k : Int} {x : Pn} (hx : look nds k = some x) (hk : x.kind = 2) (a : Nat) (s : ByteArray) (ha : a ≤ 4096) (hs : s.size = 0) :
    Calls Tryz.prog 268 #[.pointer (some ⟨fb, 0, none⟩), .int .i64 k, .int .i64 (a : Int), .string s] w fun e w' => e = .returned (.int .i64 0) ∧ w' = w := by
  have hl := leaf_some h hx (by omega)
  have hN := h.nd k x hx
  have c0 := hN.blk.cell (show (bodyC x (mem k))[0]? = some _ from rfl)
  rw [hk] at c0
  have hlt := hN.blk.lt
  generalize (mem k).blk = kb at hl c0 hlt
  have e1 : ¬ (a : Int) < 0 := by omega
  have e2 : ¬ (4096 : Int) - (a : Int) < (0 : Int) := by omega
  have e3 : s.toList.isEmpty = true := by rw [tl_emp]; simp [hs]
  clear h hN hx hk
  go_enter Tryz.func268, Tryz.ntmps268
  go_wp2_with fail
  refine hl.mono ?_
  rintro e w' ⟨rfl, hw⟩
  obtain rfl := hw.symm
  clear hl hw
  go_wp2
  go_ret
  exact ⟨rfl, rfl⟩
set_option maxHeartbeats 1000000 in
set_option maxRecDepth 100000 in
theorem write_room (h : TreeR w lab fb most room nds mb mem) {k : Int} {x : Pn} (hx : look nds k = some x) (hk : x.kind = 2) (a : Nat) (s : ByteArray) (ha : a + s.size ≤ 4096) (hs : 0 < s.size) (hm : x.data.length < a + s.size) (hr : room < usedN nds + (a + s.size - x.data.length)) :
    Calls Tryz.prog 268 #[.pointer (some ⟨fb, 0, none⟩), .int .i64 k, .int .i64 (a : Int), .string s] w fun e w' => e = .returned (.int .i64 15) ∧ ∃ n, w' = w.drewN n := by
  have hl := leaf_some h hx (by omega)
  have hN := h.nd k x hx
  have c0 := hN.blk.cell (show (bodyC x (mem k))[0]? = some _ from rfl)
  have c3 := hN.blk.cell (show (bodyC x (mem k))[3]? = some _ from rfl)
  have f2 := h.fs.cell (i := 2) rfl
  have f3 := h.fs.cell (i := 3) rfl
  have hfl := h.fs.lt
  rw [hk] at c0
  obtain ⟨A, c, hdv, hc, hcm⟩ := hN.data.form
  rw [hdv] at c3
  have hlt := hN.blk.lt
  have hlim := h.lim
  obtain ⟨U, hU⟩ : ∃ U, usedN nds = U := ⟨_, rfl⟩
  obtain ⟨L, hL⟩ : ∃ L, x.data.length = L := ⟨_, rfl⟩
  rw [hU] at f3 hr hlim
  rw [hL] at c3 hm hr hc
  generalize (mem k).blk = kb at hl c0 c3 hlt
  have e1 : ¬ (a : Int) < 0 := by omega
  have e2 : ¬ (4096 : Int) - (a : Int) < (s.size : Int) := by omega
  have e3 : s.toList.isEmpty = false := by rw [tl_emp]; exact decide_eq_false (by omega)
  have e4 : (0 : Int) < (a : Int) + (s.size : Int) - (L : Int) := by omega
  have e5 : (room : Int) - (U : Int) < (a : Int) + (s.size : Int) - (L : Int) := by omega
  have e6 : IntKind.i64.wrap ((room : Int) - (U : Int)) = (room : Int) - (U : Int) := by rw [IntKind.wrap_i64]; omega
  clear h hN hx hk hU hL hdv
  go_enter Tryz.func268, Tryz.ntmps268
  go_wp2_with fail
  refine hl.mono ?_
  rintro e w' ⟨rfl, hw⟩
  obtain rfl := hw.symm
  clear hl hw
  go_upto_region 12 with fail
  go_quiet (fail)
  go_wp2
  go_ret
  exact ⟨rfl, _, rfl⟩
/-- The data of a node is a row in a block of its own, behind a step. -/
theorem TreeR.data_step {S S' : Nat → Prop} {w' : World} {k : Int} {x : Pn} {dv : Value} {d : List UInt8} (h : TreeR w lab fb most room nds mb mem) (hF : ∀ g, F g ↔ lab g ≠ .free) (hx : look nds k = some x) (c : Chg S S' w w')
    (hS : ∀ g, g < w.heap.size → S g → lab g = .fs ∨ lab g = .body k ∨ lab g = .data k)
    (hfs : Blk w' fb [.map (some mb), .int .i64 (most : Int), .int .i64 (room : Int), .int .i64 ((usedN nds + d.length - x.data.length : Nat) : Int)] 176)
    (hb : Blk w' (mem k).blk (bodyC { x with data := d } { mem k with dv := dv }) 137) (hd : RowM w' 5 dv d.length (bc d)) (ho : ∀ g, dv.ownBlock = some g → lab g = .data k ∨ w.heap.size ≤ g) (h4 : d.length ≤ 4096) (hu : usedN nds + d.length ≤ room + x.data.length) :
    ∃ F', TreeF w' F' fb most room (upd nds k { x with data := d }) ∧ Chg F F' w w' := by
  have hN := h.nd k x hx
  have htot := total_upd (f := fun x : Pn => x.data.length) h.apart hx { x with data := d }
  have hut : usedN (upd nds k { x with data := d }) = usedN nds + d.length - x.data.length := by
    unfold usedN
    simp only at htot
    omega
  have hsame : ∀ g l, lab g = l → l ≠ .fs → l ≠ .body k → l ≠ .data k → g < w.heap.size → w'.heap[g]? = w.heap[g]? := fun g l hg h1 h2 h3 hlt => c.block g hlt fun hs => by
    rcases hS g hlt hs with h | h | h
    · exact h1 (hg.symm.trans h)
    · exact h2 (hg.symm.trans h)
    · exact h3 (hg.symm.trans h)
  refine h.step (lab' := fun g => if w.heap.size ≤ g ∧ dv.ownBlock = some g then .data k else lab g) (m' := { mem k with dv := dv }) hF hx c (fun g hg hs => ?_) (fun g hg => if_neg (fun h => by omega)) (fun g hg => ?_) (by rw [hut]; exact hfs) ?_ rfl (by rw [hut]; omega)
  · rcases hS g hg hs with h | h | h
    · exact .inl h
    · exact .inr (by rw [h]; exact rfl)
    · exact .inr (by rw [h]; exact rfl)
  · rw [if_neg (fun h => by have := hd.lt h.2; omega)]
    exact h.new g (Nat.le_trans c.size hg)
  · exact {
      blk := hb
      lb := (if_neg (fun hh => by have := hN.blk.lt; have := hh.1; simp only at this; omega)).trans hN.lb
      data := hd
      dl := fun g hg => by
        by_cases hgw : w.heap.size ≤ g
        · exact if_pos ⟨hgw, hg⟩
        · rw [if_neg (fun hh => hgw hh.1)]
          exact (ho g hg).resolve_right hgw
      few := h4
      nil := hN.nil
      nms := fun l hl => by
        obtain ⟨nb, h1, h2, h3⟩ := hN.nms l hl
        exact ⟨nb, h1, (if_neg (fun hh => by have := h3.lt; omega)).trans h2, h3.keep (hsame nb _ h2 nofun nofun nofun h3.lt)⟩ }

set_option maxHeartbeats 1000000 in
set_option maxRecDepth 100000 in
theorem write_fit (h : TreeF w F fb most room nds) {k : Int} {x : Pn} (hx : look nds k = some x) (hk : x.kind = 2) (a : Nat) (s : ByteArray) (hs : 0 < s.size) (hm : a + s.size ≤ x.data.length) :
    Calls Tryz.prog 268 #[.pointer (some ⟨fb, 0, none⟩), .int .i64 k, .int .i64 (a : Int), .string s] w fun e w' => e = .returned (.int .i64 0) ∧ ∃ F', TreeF w' F' fb most room (upd nds k { x with data := putB x.data a (tl s) }) ∧ Chg F F' w w' := by
  obtain ⟨lab, mb, mem, h, hF⟩ := h
  have hl := leaf_some h hx (by omega)
  have hN := h.nd k x hx
  have c0 := hN.blk.cell (show (bodyC x (mem k))[0]? = some _ from rfl)
  have c3 := hN.blk.cell (show (bodyC x (mem k))[3]? = some _ from rfl)
  rw [hk] at c0
  have hfew := hN.few
  obtain ⟨g, off, c, hdv, hc, hcm⟩ := hN.data.form1 (by omega)
  rw [hdv] at c3
  have hlt := hN.blk.lt
  have hD := hN.data
  rw [hdv] at hD
  obtain ⟨w2, hrun, hD2, m2⟩ := run_copy_part (P := Tryz.prog) w 134 9 3 5 Tryz.underlying134 (by kernel_rfl) g off _ c a _ hD s hm (c - a)
  replace hD2 := row_part hD2
  have hgl : lab g = .data k := hN.dl g (by rw [hdv]; rfl)
  have hgt := hN.data.lt (by rw [hdv]; rfl : (mem k).dv.ownBlock = some g)
  have htl := tl_len s
  have hput : putB x.data a (tl s) = x.data.take a ++ tl s ++ x.data.drop (a + (tl s).length) := by
    unfold putB
    rw [show a + (tl s).length - x.data.length = 0 by omega, List.replicate_zero, List.append_nil]
  have hlen : (putB x.data a (tl s)).length = x.data.length := by rw [putB_len]; omega
  rw [← hput] at hD2
  have hdone := h.data_step (S := fun b => b = g) (dv := .slice (some ⟨g, off, none⟩) x.data.length c) (d := putB x.data a (tl s)) hF hx m2 (fun b _ hb => .inr (.inr (by rw [hb]; exact hgl)))
    (by rw [show usedN nds + (putB x.data a (tl s)).length - x.data.length = usedN nds by omega]; exact h.fs.chg m2 (fun e => by rw [← e, h.lfs] at hgl; cases hgl))
    (by
      have : bodyC { x with data := putB x.data a (tl s) } { mem k with dv := .slice (some ⟨g, off, none⟩) x.data.length c } = bodyC x (mem k) := by unfold bodyC; rw [hdv]
      rw [this]
      exact hN.blk.chg m2 (fun e => by rw [← e, hN.lb] at hgl; cases hgl))
    (by rw [hlen]; exact hD2) (fun b hb => by cases hb; exact .inl hgl) (by omega) (by have := h.lim.2.2; omega)
  obtain ⟨L, hL⟩ : ∃ L, x.data.length = L := ⟨_, rfl⟩
  rw [hL] at c3 hm hc hrun hfew
  generalize { x with data := putB x.data a (tl s) } = y at hdone ⊢
  generalize (mem k).blk = kb at hl c0 c3 hlt
  have e1 : ¬ (a : Int) < 0 := by omega
  have e2 : ¬ (4096 : Int) - (a : Int) < (s.size : Int) := by omega
  have e3 : s.toList.isEmpty = false := by rw [tl_emp]; exact decide_eq_false (by omega)
  have e4 : ¬ (0 : Int) < (a : Int) + (s.size : Int) - (L : Int) := by omega
  have e5 : a < c := by omega
  have e6 : (a : Int) ≤ (L : Int) := by omega
  have e7 : ¬ c = a := by omega
  have e8 : (0 : Int) ≤ (a : Int) := by omega
  have e9 : (L : Int) ≤ (c : Int) := by omega
  unfold maxLen at hcm
  replace hdone := Lib.hid hdone
  clear h hN hx hk hL hdv hD hD2 m2 hput hlen hgl hgt htl hF
  go_enter Tryz.func268, Tryz.ntmps268
  go_wp2_with fail
  refine hl.mono ?_
  rintro e w' ⟨rfl, hw⟩
  obtain rfl := hw.symm
  clear hl hw
  go_wp2
  go_ret
  exact ⟨rfl, hdone.out⟩
set_option maxHeartbeats 1000000 in
set_option maxRecDepth 100000 in
theorem write_more (h : TreeF w F fb most room nds) {k : Int} {x : Pn} (hx : look nds k = some x) (hk : x.kind = 2) (a : Nat) (s : ByteArray) (hs : 0 < s.size) (ha : a + s.size ≤ 4096) (hm : x.data.length < a + s.size) (hr : usedN nds + (a + s.size - x.data.length) ≤ room) :
    Calls Tryz.prog 268 #[.pointer (some ⟨fb, 0, none⟩), .int .i64 k, .int .i64 (a : Int), .string s] w fun e w' => e = .returned (.int .i64 0) ∧ ∃ F', TreeF w' F' fb most room (upd nds k { x with data := putB x.data a (tl s) }) ∧ Chg F F' w w' := by
  obtain ⟨lab, mb, mem, h, hF⟩ := h
  have hl := leaf_some h hx (by omega)
  have hN := h.nd k x hx
  have c0 := hN.blk.cell (show (bodyC x (mem k))[0]? = some _ from rfl)
  have c3 := hN.blk.cell (show (bodyC x (mem k))[3]? = some _ from rfl)
  have f2 := h.fs.cell (i := 2) rfl
  have f3 := h.fs.cell (i := 3) rfl
  rw [hk] at c0
  have hfew := hN.few
  have hlim := h.lim
  have hlt := hN.blk.lt
  have hfl := h.fs.lt
  have htl := tl_len s
  obtain ⟨i0, hi, hz0, hz1, hz2⟩ := info_parts infoU8
  obtain ⟨D, hD⟩ : ∃ D : Nat, D = a + s.size - x.data.length := ⟨_, rfl⟩
  -- the world behind the region that draws, whatever was drawn
  have hall : ∀ w0 : World, (∃ n, w0 = w.drewN n) → ∃ v1 w1 w4, (Builtin.append_ #[134, 3] 134 #[(mem k).dv, .int .i64 (D : Int)]).run Tryz.prog w0 = .ok v1 w1 ∧
      (∃ g off c, v1 = .slice (some ⟨g, off, none⟩) (a + s.size) c ∧ a + s.size ≤ c ∧ c ≤ maxLen ∧
        (Builtin.copy_ #[134, 9] 3 #[.slice (some ⟨g, off + a, none⟩) (a + s.size - a) (c - a), .string s]).run Tryz.prog ((w1.setCell ⟨(mem k).blk, 3, none⟩ v1).setCell ⟨fb, 3, none⟩ (.int .i64 ((usedN nds : Int) + (D : Int)))) = .ok (.int .i64 (s.size : Int)) w4) ∧
      w1.cell? ⟨(mem k).blk, 3, none⟩ = some (mem k).dv ∧ w1.frozen? ⟨(mem k).blk, 3, none⟩ = false ∧ w1.cell? ⟨fb, 3, none⟩ = some (.int .i64 (usedN nds : Int)) ∧ w1.frozen? ⟨fb, 3, none⟩ = false ∧ (mem k).blk ≠ fb ∧ (mem k).blk < w1.heap.size ∧ fb < w1.heap.size ∧
      ∃ F', TreeF w4 F' fb most room (upd nds k { x with data := putB x.data a (tl s) }) ∧ Chg F F' w w4 := by
    rintro w0 ⟨n, rfl⟩
    have hd0 : RowM (w.drewN n) 5 (mem k).dv x.data.length (bc x.data) := hN.data.keep fun _ _ => rfl
    have hbl0 : Blk (w.drewN n) (mem k).blk (bodyC x (mem k)) 137 := hN.blk
    have hfs0 : Blk (w.drewN n) fb [.map (some mb), .int .i64 (most : Int), .int .i64 (room : Int), .int .i64 (usedN nds : Int)] 176 := h.fs
    obtain ⟨v1, w1, hrun, hd1, m1, ho1⟩ := run_append_more (P := Tryz.prog) (w.drewN n) 134 3 134 5 i0 .i64 Tryz.underlying134 Tryz.underlying3 hi hz0 hz1 hz2 (mem k).dv _ _ hd0 .i64 D (by omega) (by omega)
    have hown : ∀ b, (mem k).dv.ownBlock = some b → lab b = .data k := hN.dl
    have hb1 := hbl0.chg m1 (fun e => by have := hown _ e; rw [hN.lb] at this; cases this)
    have hf1 := hfs0.chg m1 (fun e => by have := hown _ e; rw [h.lfs] at this; cases this)
    have hne : (mem k).blk ≠ fb := fun e => by have := hN.lb; rw [e, h.lfs] at this; cases this
    rw [bc_rep, ← bc_app, show x.data.length + D = a + s.size by omega] at hd1
    have hg1 : ∀ b, v1.ownBlock = some b → b ≠ (mem k).blk ∧ b ≠ fb := fun b hb => by
      rcases ho1 with h1 | h1
      · rw [h1] at hb
        have := hown b hb
        exact ⟨fun e => by (rw [e, hN.lb] at this; cases this), fun e => by (rw [e, h.lfs] at this; cases this)⟩
      · rw [h1] at hb
        cases hb
        exact ⟨fun e => by have := hN.blk.lt; have e : w.heap.size = (mem k).blk := e; omega, fun e => by have := h.fs.lt; have e : w.heap.size = fb := e; omega⟩
    have hb2 := (hb1.set 3 v1).other (a := ⟨fb, 3, none⟩) hne (.int .i64 ((usedN nds : Int) + (D : Int)))
    have hf2 := (hf1.other (a := ⟨(mem k).blk, 3, none⟩) hne.symm v1).set 3 (.int .i64 ((usedN nds : Int) + (D : Int)))
    have hd2 : RowM ((w1.setCell ⟨(mem k).blk, 3, none⟩ v1).setCell ⟨fb, 3, none⟩ (.int .i64 ((usedN nds : Int) + (D : Int)))) 5 v1 (a + s.size) (bc (x.data ++ List.replicate D 0)) :=
      hd1.keep fun g hg => (heap_setCell_other _ _ g _ (hg1 g hg).2).trans (heap_setCell_other _ _ g _ (hg1 g hg).1)
    have s1 : Chg (fun b => (mem k).dv.ownBlock = some b ∨ b = (mem k).blk ∨ b = fb) (fun b => (mem k).dv.ownBlock = some b ∨ b = (mem k).blk ∨ b = fb) w w1 := ((Chg.drewN _ w n).trans m1).mono (fun b hb => .inl hb) (fun b _ hb => .inr hb)
    have s2 := (s1.trans (Chg.set (b := (mem k).blk) (.inr (.inl rfl)) 3 v1)).trans (Chg.set (b := fb) (.inr (.inr rfl)) 3 (.int .i64 ((usedN nds : Int) + (D : Int))))
    obtain ⟨g, off, c, rfl, hc, hcm⟩ := hd1.form1 (by omega)
    obtain ⟨w4, hcopy, hd4, m4⟩ := run_copy_part (P := Tryz.prog) _ 134 9 3 5 Tryz.underlying134 (by kernel_rfl) g off _ c a _ hd2 s (by omega) (c - a)
    replace hd4 := row_part hd4
    have hput : putB x.data a (tl s) = (x.data ++ List.replicate D 0).take a ++ tl s ++ (x.data ++ List.replicate D 0).drop (a + (tl s).length) := by
      unfold putB
      rw [htl, hD]
    rw [← hput] at hd4
    have hlen : (putB x.data a (tl s)).length = a + s.size := by rw [putB_len, htl]; omega
    have hgg := hg1 g rfl
    refine ⟨_, w1, w4, hrun, ⟨g, off, c, rfl, hc, hcm, hcopy⟩, hb1.cell (show (bodyC x (mem k))[3]? = some _ from rfl), hb1.frozen 3, hf1.cell (i := 3) rfl, hf1.frozen 3, hne, hb1.lt, hf1.lt, ?_⟩
    refine h.data_step (S := fun b => ((mem k).dv.ownBlock = some b ∨ b = (mem k).blk ∨ b = fb) ∨ b = g) (dv := .slice (some ⟨g, off, none⟩) (a + s.size) c) (d := putB x.data a (tl s)) hF hx ((s2.wide (fun b => b = g)).trans (m4.mono (fun b hb => .inr hb) (fun b _ hb => .inr hb)))
      (fun b hb hS => ?_) ?_ ?_ (by rw [hlen]; exact hd4) (fun b hb => ?_) (by omega) (by omega)
    · rcases hS with (h1 | h1 | h1) | h1
      · exact .inr (.inr (hown b h1))
      · exact .inr (.inl (by rw [h1]; exact hN.lb))
      · exact .inl (by rw [h1]; exact h.lfs)
      · rcases ho1 with h2 | h2
        · exact .inr (.inr (hown b (by rw [← h2, h1]; rfl)))
        · have e : g = w.heap.size := by cases h2; rfl
          omega
    · have := hf2.chg m4 (fun e => hgg.2 e.symm)
      rw [show ((usedN nds + (putB x.data a (tl s)).length - x.data.length : Nat) : Int) = (usedN nds : Int) + (D : Int) by omega]
      exact this
    · exact hb2.chg m4 (fun e => hgg.1 e.symm)
    · rcases ho1 with h2 | h2
      · exact .inl (hown b (by rw [← h2]; exact hb))
      · right
        rw [h2] at hb
        cases hb
        exact Nat.le_refl _
  obtain ⟨A, c, hdv, hc, hcm⟩ := hN.data.form
  rw [hdv] at c3 hall
  obtain ⟨U, hU⟩ : ∃ U, usedN nds = U := ⟨_, rfl⟩
  obtain ⟨L, hL⟩ : ∃ L, x.data.length = L := ⟨_, rfl⟩
  rw [hU] at f3 hr hlim hall
  rw [hL] at c3 hm hr hc hD hall
  generalize { x with data := putB x.data a (tl s) } = y at hall ⊢
  generalize (mem k).blk = kb at hl c0 c3 hlt hall
  have e1 : ¬ (a : Int) < 0 := by omega
  have e2 : ¬ (4096 : Int) - (a : Int) < (s.size : Int) := by omega
  have e3 : s.toList.isEmpty = false := by rw [tl_emp]; exact decide_eq_false (by omega)
  have e0 : (a : Int) + (s.size : Int) - (L : Int) = (D : Int) := by omega
  have e4 : (0 : Int) < (D : Int) := by omega
  have e5 : ¬ (room : Int) - (U : Int) < (D : Int) := by omega
  have e6 : IntKind.i64.wrap ((room : Int) - (U : Int)) = (room : Int) - (U : Int) := by rw [IntKind.wrap_i64]; omega
  replace hall := Lib.hid hall
  clear h hN hx hk hU hL hdv hF hi hz0 hz1 hz2 htl hD
  go_enter Tryz.func268, Tryz.ntmps268
  go_wp2_with fail
  refine hl.mono ?_
  rintro e w' ⟨rfl, hw⟩
  obtain rfl := hw.symm
  clear hl hw
  go_upto_region 12 with fail
  go_quiet (fail)
  go_upto_region 14 with fail
  obtain ⟨v1, w1, w4, hrun, ⟨g, off, c', rfl, hc', hcm', hcopy⟩, d3, z3, k3, y3, hne, i5, i6, hdone⟩ := hall.out (w.drewN nq) ⟨nq, rfl⟩
  have hca : a < c' := by omega
  have i1 : (a : Int) ≤ ((a + s.size : Nat) : Int) := by omega
  have i2 : ((a + s.size : Nat) : Int) ≤ (c' : Int) := by omega
  have i3 : (0 : Int) ≤ (a : Int) := by omega
  have i4 : ¬ c' = a := by omega
  unfold maxLen at hcm'
  have hdone := Lib.hid hdone
  clear hall
  rw [Nat.add_sub_cancel_left] at hcopy
  replace hrun := Lib.hid hrun
  go_wp2_with (at_builtin; refine wpList_append_of rfl _ _ 134 3 rfl _ _ _ w1 rfl rfl hrun.out ?_)
  go_wp2
  go_ret
  exact ⟨rfl, hdone.out⟩
end
end Go.Proofs.YtbjakhiflgjflaaGreatDoor
