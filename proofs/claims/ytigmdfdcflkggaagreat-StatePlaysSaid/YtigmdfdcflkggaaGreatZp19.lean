/-
  A state is kept where only the document's answers are changed. Conditions: none.
-/
import Derived.Deep.AppendLies
import Derived.Test.YtigmdfdcflkggaaGreatZp11
import Derived.Test.YtigmdfdcflkggaaGreatZp18
set_option linter.unusedSimpArgs false
set_option linter.unusedVariables false
namespace Go.Proofs.YtigmdfdcflkggaaGreat
open Go Go.RowKit Go.ChangeMaps

section
variable {w w' w'' : World} {B sb : Nat} {a : Ad} {pot : Nat} {t : Tg} {n : Int} {S : Nat → Prop}
/-- The types of the blocks that change with the document's answers. -/
def RT (t : TypeId) : Prop := t = 76 ∨ t = 34 ∨ t = 30
def KeepQ (w w' : World) : Prop := ∀ (b : Nat) cur t, Blk w b cur t → ¬ RT t → Blk w' b cur t
/-- Only blocks of such types are changed. -/
structure FrQ (w w' : World) : Prop where
  os : w'.os = w.os
  tape : w'.tape = w.tape
  output : w'.output = w.output
  size : w.heap.size ≤ w'.heap.size
  keep : ∀ b, b < w.heap.size → (∀ cur t, Blk w b cur t → ¬ RT t) → w'.heap[b]? = w.heap[b]?
theorem FrQ.q (h : FrQ w w') : KeepQ w w' := fun b cur t hb ht => (h.keep b hb.lt fun c t' hc hr => by
  have e2 := hb.symm.trans hc
  simp only [Option.some.injEq, Obj.cells.injEq] at e2
  exact ht (e2.2.1 ▸ hr)).trans hb
theorem FrQ.of_stp (k : Stp S w w') (hR : ∀ b, S b → b < w.heap.size → ∃ cur T, Blk w b cur T ∧ RT T) : FrQ w w' :=
  ⟨k.os, k.tape, k.output, k.size, fun b hb hn => k.block b hb fun hs => by
    obtain ⟨cur, T, h1, h2⟩ := hR b hs hb
    exact hn cur T h1 h2⟩
theorem FrQ.of_below (k : Below w.heap.size w w') : FrQ w w' := ⟨k.os, k.tape, k.output, k.size, fun b hb _ => k.block b hb⟩
theorem GvAt.keepQ {g : Gv} (h : GvAt w g) (k : KeepQ w w') : GvAt w' g :=
  ⟨h.1, h.2.1, h.2.2.1, fun hn => by
    obtain ⟨b, off, cur, e1, e2, e3⟩ := h.2.2.2 hn
    exact ⟨b, off, cur, e1, k _ _ _ e2 (by unfold RT; decide), e3⟩⟩
theorem MV.nr {t : TypeId} (h : MV.NoteT t) : ¬ RT t := by rcases h with rfl | rfl | rfl | rfl <;> (unfold RT; decide)
theorem MN.nr {t : TypeId} (h : MN.NoteT t) : ¬ RT t := by rcases h with rfl | rfl | rfl | rfl <;> (unfold RT; decide)
theorem MW.nr {t : TypeId} (h : MW.NoteT t) : ¬ RT t := by rcases h with rfl | rfl | rfl | rfl <;> (unfold RT; decide)
theorem CS.nr {t : TypeId} (h : CS.NoteT t) : ¬ RT t := by rcases h with rfl | rfl <;> (unfold RT; decide)
theorem CG.nr {t : TypeId} (h : CG.NoteT t) : ¬ RT t := by rcases h with rfl | rfl <;> (unfold RT; decide)
theorem NoteAt.keepQ {v : Value} {n : Nt} (h : NoteAt w a v n) (k : KeepQ w w') : NoteAt w' a v n := by
  cases n with
  | v key x => exact MV.NoteAt.keep h fun b cur t hb ht => k b cur t hb (MV.nr ht)
  | f key x => exact MN.NoteAt.keep h fun b cur t hb ht => k b cur t hb (MN.nr ht)
  | a key x => exact MW.NoteAt.keep h fun b cur t hb ht => k b cur t hb (MW.nr ht)
  | t key x => exact MW.NoteAt.keep h fun b cur t hb ht => k b cur t hb (MW.nr ht)
  | o s => exact CS.NoteAt.keep h fun b cur t hb ht => k b cur t hb (CS.nr ht)
  | g x => exact ⟨CG.NoteAt.keep h.1 fun b cur t hb ht => k b cur t hb (CG.nr ht), h.2.keepQ k⟩
theorem FrQ.cells (hS : FrQ w w') {b : Nat} {cur : List Value} {T : TypeId} (hb : Blk w b cur T) (hT : ¬ RT T) : w'.heap[b]? = w.heap[b]? := (hS.q b cur T hb hT).trans hb.symm
theorem ThAt.stpR (h : ThAt w B a pot t) (hS : FrQ w w') : ThAt w' B a pot t := by
  obtain ⟨ms, fs, ev, ef, ea, et, h1, h2, h5, h6, h7, h8, h9⟩ := h
  have k := hS.q
  refine ⟨ms, fs, ev, ef, ea, et, h1.keep ⟨hS.size, fun b cur T fr hc ht => hS.keep b (Array.getElem?_eq_some_iff.1 hc).1 (fun c T' hc' hr => ?_)⟩, ?_, h5, fun i n hi => ?_, h7, h8, h9⟩
  · have e2 := hc.symm.trans hc'
    simp only [Option.some.injEq, Obj.cells.injEq] at e2
    rw [e2.2.1] at ht
    rcases hr with rfl | rfl | rfl <;> (rcases ht with ht | ht | ht | ht <;> exact absurd ht (by decide))
  · exact {
      mv := h2.mv.keep (hS.cells h2.mv.blk (by unfold RT; decide)) (hS.keep _ h2.mv.map.lt (fun c T hc _ => h2.mv.map.no_cells hc))
      mf := h2.mf.keep (hS.cells h2.mf.blk (by unfold RT; decide)) (hS.keep _ h2.mf.map.lt (fun c T hc _ => h2.mf.map.no_cells hc))
      ma := h2.ma.keep (hS.cells h2.ma.blk (by unfold RT; decide)) (hS.keep _ h2.ma.map.lt (fun c T hc _ => h2.ma.map.no_cells hc))
      mt := h2.mt.keep (hS.cells h2.mt.blk (by unfold RT; decide)) (hS.keep _ h2.mt.map.lt (fun c T hc _ => h2.mt.map.no_cells hc))
      co := ⟨h2.co.hB, k _ _ _ h2.co.blk (by unfold RT; decide)⟩
      cg := ⟨h2.cg.hB, k _ _ _ h2.cg.blk (by unfold RT; decide)⟩
      lv := h2.lv
      lf := h2.lf
      la := h2.la
      lt := h2.lt
      ga := h2.ga.keepQ k
      d := h2.d }
  · obtain ⟨v, hv, hn⟩ := h6 i n hi
    exact ⟨v, hv, hn.keepQ k⟩
theorem StAt.stpR (h : StAt w B sb a pot t n) (hS : FrQ w w') : StAt w' B sb a pot t n := ⟨hS.q _ _ _ h.blk (by unfold RT; decide), h.th.stpR hS, h.hB⟩
end
end Go.Proofs.YtigmdfdcflkggaaGreat
/-
  Open and Undo asked of the document's answer. Conditions: none but the answer's form in memory.
-/
set_option linter.unusedSimpArgs false
set_option linter.unusedVariables false
namespace Go.Proofs.YtigmdfdcflkggaaGreat
open Go Go.RowKit Go.ChangeMaps

section
variable {Bz : Nat} {w w' W W' : World} {rb N p : Nat} {r : Rf} {t : Tg} {n : Int} {S : Nat → Prop}
/-- The document's answer and those that are kept of it. -/
structure AllA (Bz : Nat) (w : World) (p rb : Nat) (ws : List Nat) (A : Option Addr) (c : Nat) : Prop where
  blk : Blk w p [ptrV rb, .slice A ws.length c] 34
  row : w.ownsRow Bz 30 1 (.slice A ws.length c) ws.length (ws.map ptrV)
  hB : Bz ≤ p
theorem AllA.below {ws : List Nat} {A : Option Addr} {c : Nat} (h : AllA Bz w p rb ws A c) (k : Below w.heap.size w w') : AllA Bz w' p rb ws A c := ⟨(k.block p h.blk.lt).trans h.blk, own_keepT h.row fun g cur hb => (k.block g hb.lt).trans hb, h.hB⟩
theorem infoRS : (Tryz.prog.info? 30).map (fun i => (i.zero, i.size, i.bytes)) = some (some (.pointer none), 1, 8) := by kernel_rfl
theorem row_init {T : TypeId} {z k c : Nat} {A : Option Addr} {l : List Value} {x : Value} (h : w.ownsRow z T 1 (.slice A (k + 1) c) (k + 1) (l ++ [x])) : w.ownsRow z T 1 (.slice A k c) k l := by
  have hl : l.length = k := by
    have := h.1
    rw [List.length_append] at this
    simp at this
    omega
  refine ⟨by omega, ?_⟩
  rcases h.2 with ⟨h1, h2⟩ | ⟨g, cap, cur, h1, hb, hg, h2, h3, h4, h5⟩
  · omega
  · cases h1
    refine .inr ⟨g, c, cur, rfl, hb, hg, by omega, h3, h4, ?_⟩
    have e : cur.toList.take (k * 1) = (cur.toList.take ((k + 1) * 1)).take k := by rw [List.take_take]; congr 1; omega
    rw [e, h5, ← hl]
    exact List.take_left
theorem own_blk {base m : Nat} {e : TypeId} {size : Nat} {v : Value} {xs : List Value} (h : w.ownsRow base e size v m xs) {g : Nat} (hg : v.ownBlock = some g) : base ≤ g ∧ ∃ cur, Blk w g cur e := by
  rcases h.2 with ⟨rfl, _⟩ | ⟨g', cap, cur, rfl, hb, hc, _⟩
  · cases hg
  · cases hg
    exact ⟨hb, cur.toList, by unfold Blk; simpa using hc⟩
/-- An answer is kept where the things that hold it are changed. -/
theorem RfA.keepS (h : RfA W rb r) (k : Stp S W W') (hS : ∀ b, S b → ∃ cur T, Blk W b cur T ∧ (T = 34 ∨ T = 30)) : RfA W' rb r := by
  obtain ⟨sv, sf, sa, st, h⟩ := h
  have ty : ∀ (g : Nat) c T, Blk W g c T → T ≠ 34 → T ≠ 30 → Blk W' g c T := fun g c T hb h1 h2 => hb.stp k (fun e => by
    obtain ⟨cur, T', hp, hT⟩ := hS g e
    have e2 := hp.symm.trans hb
    simp only [Option.some.injEq, Obj.cells.injEq] at e2
    rcases hT with rfl | rfl
    · exact h1 e2.2.1.symm
    · exact h2 e2.2.1.symm)
  exact ⟨sv, sf, sa, st, h.all (fun g cur T hb hT => ty g cur T hb (by rcases hT with rfl | rfl | rfl | rfl <;> decide) (by rcases hT with rfl | rfl | rfl | rfl <;> decide)) (fun hb => ty _ _ _ hb (by decide) (by decide))⟩
/-- Another answer's own block is changed. -/
theorem RfA.other {q : Nat} {rq : Rf} (h : RfA W rb r) (hq : RfA W q rq) (hne : q ≠ rb) (k : Stp (fun b => b = q) W W') : RfA W' rb r := by
  obtain ⟨sv, sf, sa, st, h⟩ := h
  obtain ⟨_, _, _, _, hq⟩ := hq
  exact ⟨sv, sf, sa, st, h.stp hq.blk (by decide) hne k⟩
theorem stpBS {W'' : World} (h : Below W.heap.size W W') (k : Stp S W' W'') : Stp S W W'' :=
  Stp.trans (S := S) (S' := S) (Stp.mono (S := fun _ => False) ⟨h.os, h.tape, h.output, h.size, fun b hb' _ => h.block b hb'⟩ (fun _ _ h => h.elim)) k (fun _ _ h => h)
theorem grown_stp {o : Obj} {v : Option Nat} (h : (W.alloc o).grownBy W' v) : Stp (fun b => v = some b) W W' :=
  stpBS (Below.of_alloc W o) ⟨h.os, h.tape, h.output, h.size, fun b hb hn => h.block b hb (fun e => hn e.symm)⟩
theorem open_done {w2 w4 w5 : World} {ws : List Nat} {A2 : Option Addr} {L c2 Z gg cap : Nat} {o : Obj} (hb1 : Below w.heap.size w w2) (hb4 : Below w2.heap.size w2 w4) (hA4 : AllA Bz w4 p rb ws A2 c2) (hL : ws.length = L) (hY : RfA w4 Z r) (hS : RfA w4 rb r) (hge : w2.heap.size ≤ Z)
    (hown : w5.ownsRow Bz 30 1 (.slice (some ⟨gg, 0, none⟩) (L + 1) cap) (L + 1) (ws.map ptrV ++ [.pointer (some ⟨Z, 0, none⟩)])) (hgrow : (w4.alloc o).grownBy w5 (Value.slice A2 L c2).ownBlock) (b5 : Blk w5 p [ptrV rb, .slice A2 ws.length c2] 34) :
    ∃ Z A' c', w.heap.size ≤ Z ∧ AllA Bz (w5.setCell ⟨p, 1, none⟩ (.slice (some ⟨gg, 0, none⟩) (L + 1) cap)) p rb (ws ++ [Z]) A' c' ∧ RfA (w5.setCell ⟨p, 1, none⟩ (.slice (some ⟨gg, 0, none⟩) (L + 1) cap)) Z r ∧ RfA (w5.setCell ⟨p, 1, none⟩ (.slice (some ⟨gg, 0, none⟩) (L + 1) cap)) rb r ∧ Stp (fun b => b = p ∨ (Value.slice A2 ws.length c2).ownBlock = some b) w (w5.setCell ⟨p, 1, none⟩ (.slice (some ⟨gg, 0, none⟩) (L + 1) cap)) := by
  have s5 := grown_stp hgrow
  have t5 : ∀ b, (Value.slice A2 L c2).ownBlock = some b → ∃ cur T, Blk w4 b cur T ∧ (T = 34 ∨ T = 30) := fun b e => by
    have hr := hA4.row
    rw [hL] at hr
    obtain ⟨_, cur, hb⟩ := own_blk hr e
    exact ⟨cur, _, hb, .inr rfl⟩
  have s6 : Stp (fun b => b = p) w5 (w5.setCell ⟨p, 1, none⟩ (.slice (some ⟨gg, 0, none⟩) (L + 1) cap)) := Stp.set (S := fun b => b = p) rfl 1 _
  have t6 : ∀ b, b = p → ∃ cur T, Blk w5 b cur T ∧ (T = 34 ∨ T = 30) := fun b e => ⟨_, _, e ▸ b5, .inl rfl⟩
  have hlen : (ws ++ [Z]).length = L + 1 := by rw [List.length_append, hL]; rfl
  refine ⟨Z, some ⟨gg, 0, none⟩, cap, Nat.le_trans hb1.size hge, ⟨?_, ?_, hA4.hB⟩, (hY.keepS s5 t5).keepS s6 t6, (hS.keepS s5 t5).keepS s6 t6, ?_⟩
  · rw [hlen]; exact b5.set 1 _
  · rw [hlen, List.map_append]
    exact own_keepT hown (fun g' cur hb => hb.stp s6 (fun e => by
      subst e
      have e2 := b5.symm.trans hb
      simp only [Option.some.injEq, Obj.cells.injEq] at e2
      exact absurd e2.2.1 (by decide)))
  · rw [hL]
    exact stpBS hb1 (stpBS hb4 (Stp.trans (S := fun b => b = p ∨ (Value.slice A2 L c2).ownBlock = some b) (S' := fun b => b = p ∨ (Value.slice A2 L c2).ownBlock = some b) (s5.mono fun _ _ h => .inr h) (s6.mono fun _ _ h => .inl h) (fun _ _ h => h)))
theorem AllA.other {q : Nat} {rq : Rf} {ws : List Nat} {A : Option Addr} {c : Nat} (h : AllA Bz W p rb ws A c) (hq : RfA W q rq) (k : Stp (fun b => b = q) W W') : AllA Bz W' p rb ws A c := by
  obtain ⟨_, _, _, _, hq⟩ := hq
  have ty : ∀ (g : Nat) c T, Blk W g c T → T ≠ 76 → Blk W' g c T := fun g c T hb hn => hb.stp k (fun e => by
    subst e
    have e2 := hq.blk.symm.trans hb
    simp only [Option.some.injEq, Obj.cells.injEq] at e2
    exact hn e2.2.1.symm)
  exact ⟨ty _ _ _ h.blk (by decide), own_keepT h.row fun g cur hb => ty g cur _ hb (by decide), h.hB⟩
set_option maxRecDepth 100000 in
set_option maxHeartbeats 8000000 in
theorem asked_16n {A2 : Option Addr} {c2 : Nat} {ws : List Nat} (hp : AllA Bz w p rb ws A2 c2) (h : RfA w rb r) (x : Int) (k s : ByteArray) (q : Int) (A : Option Addr) (m c : Nat) (hx : In64 x) (hn : In64 q) (hK : askI x = 16) (hl : 20 ≤ ws.length) :
    Calls Tryz.prog 14 #[ptrV p, .agg #[.int .i64 x, .string k, .string s, .int .i64 q, .slice A m c]] w fun e w' => e = .returned (.int .i64 42) ∧ Below w.heap.size w w' := by
  obtain ⟨z, hz⟩ : ∃ z, w.heap.size = z := ⟨_, rfl⟩
  have bC : Blk (w.alloc (.cells #[.int .i64 x, .string k, .string s, .int .i64 q, .slice A m c] 39)) z [.int .i64 x, .string k, .string s, .int .i64 q, .slice A m c] 39 := by rw [← hz]; exact Blk.new w _ _
  have hb : Below w.heap.size w (w.alloc (.cells #[.int .i64 x, .string k, .string s, .int .i64 q, .slice A m c] 39)) := Below.of_alloc w _
  have bP := hp.below hb
  have hask := fun W => ask_any x k s q (.slice A m c) ⟨A, m, c, rfl⟩ hx W
  rw [hK] at hask
  unfold In64 at hn
  clear hx hK hp
  replace h := Lib.hid h
  replace hb := Lib.hid hb
  replace bC := Lib.hid bC
  replace bP := Lib.hid bP
  replace hz := Lib.hid hz
  unfold ptrV
  go_enter Tryz.func14, Tryz.ntmps14
  go_upto_region 1 with fail
  try rw [hz.out]
  generalize (w.alloc (.cells #[.int .i64 x, .string k, .string s, .int .i64 q, .slice A m c] 39)) = w1 at bC bP hb ⊢
  have e0 := bC.out.cell (i := 0) rfl
  have e1 := bC.out.cell (i := 1) rfl
  have e2 := bC.out.cell (i := 2) rfl
  have e3 := bC.out.cell (i := 3) rfl
  have e4 := bC.out.cell (i := 4) rfl
  have p0 : w1.cell? ⟨p, 0, none⟩ = some (ptrV rb) := bP.out.blk.cell (i := 0) rfl
  unfold ptrV at p0
  have lp := bP.out.blk.lt
  have lz := bC.out.lt
  have ha := hask w1
  go_wp2_with fail
  refine ha.mono ?_
  rintro e w2 ⟨rfl, hb2⟩
  have bD : Blk w2 z _ _ := (hb2.block z lz).trans bC.out
  have hbD := hb.out.trans (hb2.mono hb.out.size)
  have hS := h.out.below hbD
  have hA := bP.out.below hb2
  clear e0 e1 e2 e3 e4 lz lp p0 ha hask bC hb hb2 h bP
  have e0 := bD.cell (i := 0) rfl
  have e1 := bD.cell (i := 1) rfl
  have e2 := bD.cell (i := 2) rfl
  have e3 := bD.cell (i := 3) rfl
  have e4 := bD.cell (i := 4) rfl
  have lz := bD.lt
  replace bD := Lib.hid bD
  replace hbD := Lib.hid hbD
  clear hS
  have p1 : w2.cell? ⟨p, 1, none⟩ = some (.slice A2 ws.length c2) := hA.blk.cell (i := 1) rfl
  have lp := hA.blk.lt
  have hl1 : (20 : Int) ≤ (ws.length : Int) := by omega
  generalize ws.length = l at p1 hl1 hl
  clear hA e0 e1 e2 e3 e4 lz bD
  go_wp2
  go_ret
  exact ⟨rfl, hbD.out⟩
set_option maxRecDepth 100000 in
set_option maxHeartbeats 8000000 in
theorem asked_16 {A2 : Option Addr} {c2 : Nat} {ws : List Nat} (hp : AllA Bz w p rb ws A2 c2) (h : RfA w rb r) (x : Int) (k s : ByteArray) (q : Int) (A : Option Addr) (m c : Nat) (hx : In64 x) (hn : In64 q) (hK : askI x = 16) (hl : ws.length < 20) :
    Calls Tryz.prog 14 #[ptrV p, .agg #[.int .i64 x, .string k, .string s, .int .i64 q, .slice A m c]] w fun e w' => e = .returned (.int .i64 0) ∧ ∃ Z A' c', w.heap.size ≤ Z ∧ AllA Bz w' p rb (ws ++ [Z]) A' c' ∧ RfA w' Z r ∧ RfA w' rb r ∧ Stp (fun b => b = p ∨ (Value.slice A2 ws.length c2).ownBlock = some b) w w' := by
  obtain ⟨z, hz⟩ : ∃ z, w.heap.size = z := ⟨_, rfl⟩
  have bC : Blk (w.alloc (.cells #[.int .i64 x, .string k, .string s, .int .i64 q, .slice A m c] 39)) z [.int .i64 x, .string k, .string s, .int .i64 q, .slice A m c] 39 := by rw [← hz]; exact Blk.new w _ _
  have hb : Below w.heap.size w (w.alloc (.cells #[.int .i64 x, .string k, .string s, .int .i64 q, .slice A m c] 39)) := Below.of_alloc w _
  have bP := hp.below hb
  have hask := fun W => ask_any x k s q (.slice A m c) ⟨A, m, c, rfl⟩ hx W
  rw [hK] at hask
  unfold In64 at hn
  clear hx hK hp
  replace h := Lib.hid h
  replace hb := Lib.hid hb
  replace bC := Lib.hid bC
  replace bP := Lib.hid bP
  replace hz := Lib.hid hz
  unfold ptrV
  go_enter Tryz.func14, Tryz.ntmps14
  go_upto_region 1 with fail
  try rw [hz.out]
  generalize (w.alloc (.cells #[.int .i64 x, .string k, .string s, .int .i64 q, .slice A m c] 39)) = w1 at bC bP hb ⊢
  have e0 := bC.out.cell (i := 0) rfl
  have e1 := bC.out.cell (i := 1) rfl
  have e2 := bC.out.cell (i := 2) rfl
  have e3 := bC.out.cell (i := 3) rfl
  have e4 := bC.out.cell (i := 4) rfl
  have p0 : w1.cell? ⟨p, 0, none⟩ = some (ptrV rb) := bP.out.blk.cell (i := 0) rfl
  unfold ptrV at p0
  have lp := bP.out.blk.lt
  have lz := bC.out.lt
  have ha := hask w1
  go_wp2_with fail
  refine ha.mono ?_
  rintro e w2 ⟨rfl, hb2⟩
  have bD : Blk w2 z _ _ := (hb2.block z lz).trans bC.out
  have hbD := hb.out.trans (hb2.mono hb.out.size)
  have hS := h.out.below hbD
  have hA := bP.out.below hb2
  clear e0 e1 e2 e3 e4 lz lp p0 ha hask bC hb hb2 h bP
  have e0 := bD.cell (i := 0) rfl
  have e1 := bD.cell (i := 1) rfl
  have e2 := bD.cell (i := 2) rfl
  have e3 := bD.cell (i := 3) rfl
  have e4 := bD.cell (i := 4) rfl
  have lz := bD.lt
  replace bD := Lib.hid bD
  replace hbD := Lib.hid hbD
  have hrow := hA.row
  have p1 : w2.cell? ⟨p, 1, none⟩ = some (.slice A2 ws.length c2) := hA.blk.cell (i := 1) rfl
  have lp := hA.blk.lt
  have hl1 : ¬ (20 : Int) ≤ (ws.length : Int) := by omega
  obtain ⟨hcO, hcOm⟩ : ws.length ≤ c2 ∧ c2 ≤ maxLen := by obtain ⟨A', c', e', h1, h2⟩ := own_form hrow; cases e'; exact ⟨h1, h2⟩
  unfold maxLen at hcOm
  have hpg : ∀ g, (Value.slice A2 ws.length c2).ownBlock = some g → g ≠ p := fun g hg e => by
    obtain ⟨_, cur, hb5⟩ := own_blk hrow hg
    subst e
    have e5 := hA.blk.symm.trans hb5
    simp only [Option.some.injEq, Obj.cells.injEq] at e5
    exact absurd e5.2.1 (by decide)
  have hltw := hrow.lt
  obtain ⟨L, hL⟩ : ∃ L, ws.length = L := ⟨_, rfl⟩
  have hS1 := hS.below (drewN_below w2 1)
  have hb1 := hbD.trans (Below.mono (drewN_below w2 1) hbD.size)
  have hA1 := hA.below (drewN_below w2 1)
  have hcp := rCopy_any hS1
  obtain ⟨i0, hi, hz0, hz1, hz2⟩ := info_parts infoRS
  have fp1 := hA.blk.frozen 1
  rw [hL] at p1 hl1 hcO hl hpg
  unfold ptrV at hcp
  replace hS := Lib.hid hS1
  replace hA := Lib.hid hA1
  replace hb1 := Lib.hid hb1
  replace hi := Lib.hid hi
  replace hpg := Lib.hid hpg
  replace hL := Lib.hid hL
  replace hbD := Lib.hid hbD
  clear hrow hltw hS1 hA1 e0 e1 e2 e3 e4 lz bD hbD
  have hq1 : w2.drew.cell? ⟨p, 1, none⟩ = some (.slice A2 L c2) := p1
  have fq1 : w2.drew.frozen? ⟨p, 1, none⟩ = false := fp1
  have lq : p < w2.drew.heap.size := lp
  go_upto_region 40 with fail
  clear p1 fp1 lp
  go_region_law (first
    | (go_simp; go_at_call 65; refine hcp.mono ?_; rintro e w4 ⟨Z, rfl, hY, hge, hb4⟩
       have hA4 := hA.out.below hb4
       have p4 : w4.cell? ⟨p, 1, none⟩ = some (.slice A2 L c2) := by have := hA4.blk.cell (i := 1) rfl; rw [hL.out] at this; exact this
       have lp4 := hA4.blk.lt
       have hbz : Hid (Bz ≤ w4.heap.size) := Lib.hid (Nat.le_trans hA4.hB (Nat.le_of_lt lp4))
       have hr4 : w4.ownsRow Bz 30 1 (.slice A2 L c2) L (ws.map ptrV) := by have := hA4.row; rw [hL.out] at this; exact this
       replace hr4 := Lib.hid hr4
       replace hA4 := Lib.hid hA4
       replace hY := Lib.hid hY
       replace hb4 := Lib.hid hb4
       clear hcp)
    | (refine step_append_lies _ (by rfl) _ _ _ (by rfl) Bz 30 i0 _ 1 8 Tryz.underlying32 hi.out hz0 hz1 hz2 rfl (by decide) (.slice A2 L c2) L (ws.map ptrV) (by rfl) (hr4.out.alloc _) ⟨w4.heap.size, 0, none⟩ 1 1 [.pointer (some ⟨Z, 0, none⟩)] (by rfl) (by rfl) (World.news_of_block (cs := #[.pointer (some ⟨Z, 0, none⟩)]) (t := 30) (fr := (0, 0)) (heap_alloc_new w4 _)) (by simp [Value.oneCell']) (by omega) (by simp only [maxLen]; omega) (by omega) (Nat.le_trans hbz.out (by simp)) (w4.heap.size + 1) (by simp) ?_; intro gg cap w5 hown hgrow hat hlt
       have b5 : Blk w5 p [ptrV rb, .slice A2 ws.length c2] 34 := (hgrow.block p (by have := hA4.out.blk.lt; simp; omega) (fun e => hpg.out p e.symm rfl)).trans ((Below.heap_alloc w4 _ p hA4.out.blk.lt).trans hA4.out.blk)
       have p5 : w5.cell? ⟨p, 1, none⟩ = some (.slice A2 L c2) := by have := b5.cell (i := 1) rfl; rw [hL.out] at this; exact this
       have fp5 := b5.frozen 1
       have lp5 := b5.lt
       have hfin := Lib.hid (open_done hb1.out hb4.out hA4.out hL.out hY.out (hS.out.below hb4.out) hge hown hgrow b5)
       clear hown hgrow hat b5))
  all_goals (clear hA hS hpg hi hb1 hq1 fq1 lq hA4 hr4 hY hb4 p4 lp4 hbz; go_wp2; go_ret; exact ⟨rfl, hfin.out⟩)
set_option maxRecDepth 100000 in
set_option maxHeartbeats 8000000 in
theorem asked_17n {A2 : Option Addr} {c2 : Nat} {ws : List Nat} (hp : AllA Bz w p rb ws A2 c2) (h : RfA w rb r) (x : Int) (k s : ByteArray) (q : Int) (A : Option Addr) (m c : Nat) (hx : In64 x) (hn : In64 q) (hK : askI x = 17) (hl : 20 ≤ ws.length) :
    Calls Tryz.prog 14 #[ptrV p, .agg #[.int .i64 x, .string k, .string s, .int .i64 q, .slice A m c]] w fun e w' => e = .returned (.int .i64 42) ∧ Below w.heap.size w w' := by
  obtain ⟨z, hz⟩ : ∃ z, w.heap.size = z := ⟨_, rfl⟩
  have bC : Blk (w.alloc (.cells #[.int .i64 x, .string k, .string s, .int .i64 q, .slice A m c] 39)) z [.int .i64 x, .string k, .string s, .int .i64 q, .slice A m c] 39 := by rw [← hz]; exact Blk.new w _ _
  have hb : Below w.heap.size w (w.alloc (.cells #[.int .i64 x, .string k, .string s, .int .i64 q, .slice A m c] 39)) := Below.of_alloc w _
  have bP := hp.below hb
  have hask := fun W => ask_any x k s q (.slice A m c) ⟨A, m, c, rfl⟩ hx W
  rw [hK] at hask
  unfold In64 at hn
  clear hx hK hp
  replace h := Lib.hid h
  replace hb := Lib.hid hb
  replace bC := Lib.hid bC
  replace bP := Lib.hid bP
  replace hz := Lib.hid hz
  unfold ptrV
  go_enter Tryz.func14, Tryz.ntmps14
  go_upto_region 1 with fail
  try rw [hz.out]
  generalize (w.alloc (.cells #[.int .i64 x, .string k, .string s, .int .i64 q, .slice A m c] 39)) = w1 at bC bP hb ⊢
  have e0 := bC.out.cell (i := 0) rfl
  have e1 := bC.out.cell (i := 1) rfl
  have e2 := bC.out.cell (i := 2) rfl
  have e3 := bC.out.cell (i := 3) rfl
  have e4 := bC.out.cell (i := 4) rfl
  have p0 : w1.cell? ⟨p, 0, none⟩ = some (ptrV rb) := bP.out.blk.cell (i := 0) rfl
  unfold ptrV at p0
  have lp := bP.out.blk.lt
  have lz := bC.out.lt
  have ha := hask w1
  go_wp2_with fail
  refine ha.mono ?_
  rintro e w2 ⟨rfl, hb2⟩
  have bD : Blk w2 z _ _ := (hb2.block z lz).trans bC.out
  have hbD := hb.out.trans (hb2.mono hb.out.size)
  have hS := h.out.below hbD
  have hA := bP.out.below hb2
  clear e0 e1 e2 e3 e4 lz lp p0 ha hask bC hb hb2 h bP
  have e0 := bD.cell (i := 0) rfl
  have e1 := bD.cell (i := 1) rfl
  have e2 := bD.cell (i := 2) rfl
  have e3 := bD.cell (i := 3) rfl
  have e4 := bD.cell (i := 4) rfl
  have lz := bD.lt
  replace bD := Lib.hid bD
  replace hbD := Lib.hid hbD
  clear hS
  have p1 : w2.cell? ⟨p, 1, none⟩ = some (.slice A2 ws.length c2) := hA.blk.cell (i := 1) rfl
  have lp := hA.blk.lt
  have hl1 : (20 : Int) ≤ (ws.length : Int) := by omega
  generalize ws.length = l at p1 hl1 hl
  clear hA e0 e1 e2 e3 e4 lz bD
  go_wp2
  go_ret
  exact ⟨rfl, hbD.out⟩
set_option maxRecDepth 100000 in
set_option maxHeartbeats 8000000 in
theorem asked_17 {A2 : Option Addr} {c2 : Nat} {ws : List Nat} (hp : AllA Bz w p rb ws A2 c2) (h : RfA w rb r) (x : Int) (k s : ByteArray) (q : Int) (A : Option Addr) (m c : Nat) (hx : In64 x) (hn : In64 q) (hK : askI x = 17) (hl : ws.length < 20) :
    Calls Tryz.prog 14 #[ptrV p, .agg #[.int .i64 x, .string k, .string s, .int .i64 q, .slice A m c]] w fun e w' => e = .returned (.int .i64 0) ∧ ∃ Z A' c', w.heap.size ≤ Z ∧ AllA Bz w' p rb (ws ++ [Z]) A' c' ∧ RfA w' Z r ∧ RfA w' rb r ∧ Stp (fun b => b = p ∨ (Value.slice A2 ws.length c2).ownBlock = some b) w w' := by
  obtain ⟨z, hz⟩ : ∃ z, w.heap.size = z := ⟨_, rfl⟩
  have bC : Blk (w.alloc (.cells #[.int .i64 x, .string k, .string s, .int .i64 q, .slice A m c] 39)) z [.int .i64 x, .string k, .string s, .int .i64 q, .slice A m c] 39 := by rw [← hz]; exact Blk.new w _ _
  have hb : Below w.heap.size w (w.alloc (.cells #[.int .i64 x, .string k, .string s, .int .i64 q, .slice A m c] 39)) := Below.of_alloc w _
  have bP := hp.below hb
  have hask := fun W => ask_any x k s q (.slice A m c) ⟨A, m, c, rfl⟩ hx W
  rw [hK] at hask
  unfold In64 at hn
  clear hx hK hp
  replace h := Lib.hid h
  replace hb := Lib.hid hb
  replace bC := Lib.hid bC
  replace bP := Lib.hid bP
  replace hz := Lib.hid hz
  unfold ptrV
  go_enter Tryz.func14, Tryz.ntmps14
  go_upto_region 1 with fail
  try rw [hz.out]
  generalize (w.alloc (.cells #[.int .i64 x, .string k, .string s, .int .i64 q, .slice A m c] 39)) = w1 at bC bP hb ⊢
  have e0 := bC.out.cell (i := 0) rfl
  have e1 := bC.out.cell (i := 1) rfl
  have e2 := bC.out.cell (i := 2) rfl
  have e3 := bC.out.cell (i := 3) rfl
  have e4 := bC.out.cell (i := 4) rfl
  have p0 : w1.cell? ⟨p, 0, none⟩ = some (ptrV rb) := bP.out.blk.cell (i := 0) rfl
  unfold ptrV at p0
  have lp := bP.out.blk.lt
  have lz := bC.out.lt
  have ha := hask w1
  go_wp2_with fail
  refine ha.mono ?_
  rintro e w2 ⟨rfl, hb2⟩
  have bD : Blk w2 z _ _ := (hb2.block z lz).trans bC.out
  have hbD := hb.out.trans (hb2.mono hb.out.size)
  have hS := h.out.below hbD
  have hA := bP.out.below hb2
  clear e0 e1 e2 e3 e4 lz lp p0 ha hask bC hb hb2 h bP
  have e0 := bD.cell (i := 0) rfl
  have e1 := bD.cell (i := 1) rfl
  have e2 := bD.cell (i := 2) rfl
  have e3 := bD.cell (i := 3) rfl
  have e4 := bD.cell (i := 4) rfl
  have lz := bD.lt
  replace bD := Lib.hid bD
  replace hbD := Lib.hid hbD
  have hrow := hA.row
  have p1 : w2.cell? ⟨p, 1, none⟩ = some (.slice A2 ws.length c2) := hA.blk.cell (i := 1) rfl
  have lp := hA.blk.lt
  have hl1 : ¬ (20 : Int) ≤ (ws.length : Int) := by omega
  obtain ⟨hcO, hcOm⟩ : ws.length ≤ c2 ∧ c2 ≤ maxLen := by obtain ⟨A', c', e', h1, h2⟩ := own_form hrow; cases e'; exact ⟨h1, h2⟩
  unfold maxLen at hcOm
  have hpg : ∀ g, (Value.slice A2 ws.length c2).ownBlock = some g → g ≠ p := fun g hg e => by
    obtain ⟨_, cur, hb5⟩ := own_blk hrow hg
    subst e
    have e5 := hA.blk.symm.trans hb5
    simp only [Option.some.injEq, Obj.cells.injEq] at e5
    exact absurd e5.2.1 (by decide)
  have hltw := hrow.lt
  obtain ⟨L, hL⟩ : ∃ L, ws.length = L := ⟨_, rfl⟩
  have hS1 := hS.below (drewN_below w2 1)
  have hb1 := hbD.trans (Below.mono (drewN_below w2 1) hbD.size)
  have hA1 := hA.below (drewN_below w2 1)
  have hcp := rCopy_any hS1
  obtain ⟨i0, hi, hz0, hz1, hz2⟩ := info_parts infoRS
  have fp1 := hA.blk.frozen 1
  rw [hL] at p1 hl1 hcO hl hpg
  unfold ptrV at hcp
  replace hS := Lib.hid hS1
  replace hA := Lib.hid hA1
  replace hb1 := Lib.hid hb1
  replace hi := Lib.hid hi
  replace hpg := Lib.hid hpg
  replace hL := Lib.hid hL
  replace hbD := Lib.hid hbD
  clear hrow hltw hS1 hA1 e0 e1 e2 e3 e4 lz bD hbD
  have hq1 : w2.drew.cell? ⟨p, 1, none⟩ = some (.slice A2 L c2) := p1
  have fq1 : w2.drew.frozen? ⟨p, 1, none⟩ = false := fp1
  have lq : p < w2.drew.heap.size := lp
  go_upto_region 40 with fail
  clear p1 fp1 lp
  go_region_law (first
    | (go_simp; go_at_call 65; refine hcp.mono ?_; rintro e w4 ⟨Z, rfl, hY, hge, hb4⟩
       have hA4 := hA.out.below hb4
       have p4 : w4.cell? ⟨p, 1, none⟩ = some (.slice A2 L c2) := by have := hA4.blk.cell (i := 1) rfl; rw [hL.out] at this; exact this
       have lp4 := hA4.blk.lt
       have hbz : Hid (Bz ≤ w4.heap.size) := Lib.hid (Nat.le_trans hA4.hB (Nat.le_of_lt lp4))
       have hr4 : w4.ownsRow Bz 30 1 (.slice A2 L c2) L (ws.map ptrV) := by have := hA4.row; rw [hL.out] at this; exact this
       replace hr4 := Lib.hid hr4
       replace hA4 := Lib.hid hA4
       replace hY := Lib.hid hY
       replace hb4 := Lib.hid hb4
       clear hcp)
    | (refine step_append_lies _ (by rfl) _ _ _ (by rfl) Bz 30 i0 _ 1 8 Tryz.underlying32 hi.out hz0 hz1 hz2 rfl (by decide) (.slice A2 L c2) L (ws.map ptrV) (by rfl) (hr4.out.alloc _) ⟨w4.heap.size, 0, none⟩ 1 1 [.pointer (some ⟨Z, 0, none⟩)] (by rfl) (by rfl) (World.news_of_block (cs := #[.pointer (some ⟨Z, 0, none⟩)]) (t := 30) (fr := (0, 0)) (heap_alloc_new w4 _)) (by simp [Value.oneCell']) (by omega) (by simp only [maxLen]; omega) (by omega) (Nat.le_trans hbz.out (by simp)) (w4.heap.size + 1) (by simp) ?_; intro gg cap w5 hown hgrow hat hlt
       have b5 : Blk w5 p [ptrV rb, .slice A2 ws.length c2] 34 := (hgrow.block p (by have := hA4.out.blk.lt; simp; omega) (fun e => hpg.out p e.symm rfl)).trans ((Below.heap_alloc w4 _ p hA4.out.blk.lt).trans hA4.out.blk)
       have p5 : w5.cell? ⟨p, 1, none⟩ = some (.slice A2 L c2) := by have := b5.cell (i := 1) rfl; rw [hL.out] at this; exact this
       have fp5 := b5.frozen 1
       have lp5 := b5.lt
       have hfin := Lib.hid (open_done hb1.out hb4.out hA4.out hL.out hY.out (hS.out.below hb4.out) hge hown hgrow b5)
       clear hown hgrow hat b5))
  all_goals (clear hA hS hpg hi hb1 hq1 fq1 lq hA4 hr4 hY hb4 p4 lp4 hbz; go_wp2; go_ret; exact ⟨rfl, hfin.out⟩)
set_option maxRecDepth 100000 in
set_option maxHeartbeats 8000000 in
theorem asked_18n {A2 : Option Addr} {c2 : Nat} {ws : List Nat} (hp : AllA Bz w p rb ws A2 c2) (h : RfA w rb r) (x : Int) (k s : ByteArray) (q : Int) (A : Option Addr) (m c : Nat) (hx : In64 x) (hn : In64 q) (hK : askI x = 18) (hl : ws.length = 0) :
    Calls Tryz.prog 14 #[ptrV p, .agg #[.int .i64 x, .string k, .string s, .int .i64 q, .slice A m c]] w fun e w' => e = .returned (.int .i64 1) ∧ Below w.heap.size w w' := by
  obtain ⟨z, hz⟩ : ∃ z, w.heap.size = z := ⟨_, rfl⟩
  have bC : Blk (w.alloc (.cells #[.int .i64 x, .string k, .string s, .int .i64 q, .slice A m c] 39)) z [.int .i64 x, .string k, .string s, .int .i64 q, .slice A m c] 39 := by rw [← hz]; exact Blk.new w _ _
  have hb : Below w.heap.size w (w.alloc (.cells #[.int .i64 x, .string k, .string s, .int .i64 q, .slice A m c] 39)) := Below.of_alloc w _
  have bP := hp.below hb
  have hask := fun W => ask_any x k s q (.slice A m c) ⟨A, m, c, rfl⟩ hx W
  rw [hK] at hask
  unfold In64 at hn
  clear hx hK hp
  replace h := Lib.hid h
  replace hb := Lib.hid hb
  replace bC := Lib.hid bC
  replace bP := Lib.hid bP
  replace hz := Lib.hid hz
  unfold ptrV
  go_enter Tryz.func14, Tryz.ntmps14
  go_upto_region 1 with fail
  try rw [hz.out]
  generalize (w.alloc (.cells #[.int .i64 x, .string k, .string s, .int .i64 q, .slice A m c] 39)) = w1 at bC bP hb ⊢
  have e0 := bC.out.cell (i := 0) rfl
  have e1 := bC.out.cell (i := 1) rfl
  have e2 := bC.out.cell (i := 2) rfl
  have e3 := bC.out.cell (i := 3) rfl
  have e4 := bC.out.cell (i := 4) rfl
  have p0 : w1.cell? ⟨p, 0, none⟩ = some (ptrV rb) := bP.out.blk.cell (i := 0) rfl
  unfold ptrV at p0
  have lp := bP.out.blk.lt
  have lz := bC.out.lt
  have ha := hask w1
  go_wp2_with fail
  refine ha.mono ?_
  rintro e w2 ⟨rfl, hb2⟩
  have bD : Blk w2 z _ _ := (hb2.block z lz).trans bC.out
  have hbD := hb.out.trans (hb2.mono hb.out.size)
  have hS := h.out.below hbD
  have hA := bP.out.below hb2
  clear e0 e1 e2 e3 e4 lz lp p0 ha hask bC hb hb2 h bP
  have e0 := bD.cell (i := 0) rfl
  have e1 := bD.cell (i := 1) rfl
  have e2 := bD.cell (i := 2) rfl
  have e3 := bD.cell (i := 3) rfl
  have e4 := bD.cell (i := 4) rfl
  have lz := bD.lt
  replace bD := Lib.hid bD
  replace hbD := Lib.hid hbD
  clear hS
  have p1 : w2.cell? ⟨p, 1, none⟩ = some (.slice A2 0 c2) := by have := hA.blk.cell (i := 1) rfl; rw [hl] at this; exact this
  have lp := hA.blk.lt
  clear hA e0 e1 e2 e3 e4 lz bD hl
  go_wp2
  go_ret
  exact ⟨rfl, hbD.out⟩
set_option maxRecDepth 100000 in
set_option maxHeartbeats 8000000 in
theorem asked_18 {A2 : Option Addr} {c2 : Nat} {ws : List Nat} (hp : AllA Bz w p rb ws A2 c2) (h : RfA w rb r) (x : Int) (k s : ByteArray) (q : Int) (A : Option Addr) (m c : Nat) (hx : In64 x) (hn : In64 q) (hK : askI x = 18) {W0 : List Nat} {Z : Nat} {rz : Rf} (hws : ws = W0 ++ [Z]) (hZ : RfA w Z rz) (hl : ws.length ≤ 20) :
    Calls Tryz.prog 14 #[ptrV p, .agg #[.int .i64 x, .string k, .string s, .int .i64 q, .slice A m c]] w fun e w' => e = .returned (.int .i64 0) ∧ AllA Bz w' p Z W0 A2 c2 ∧ RfA w' Z { rz with n := r.n } ∧ (∀ g r0, RfA w g r0 → g ≠ Z → RfA w' g r0) ∧ Stp (fun b => b = p ∨ b = Z) w w' := by
  obtain ⟨z, hz⟩ : ∃ z, w.heap.size = z := ⟨_, rfl⟩
  have bC : Blk (w.alloc (.cells #[.int .i64 x, .string k, .string s, .int .i64 q, .slice A m c] 39)) z [.int .i64 x, .string k, .string s, .int .i64 q, .slice A m c] 39 := by rw [← hz]; exact Blk.new w _ _
  have hb : Below w.heap.size w (w.alloc (.cells #[.int .i64 x, .string k, .string s, .int .i64 q, .slice A m c] 39)) := Below.of_alloc w _
  have bP := hp.below hb
  have hask := fun W => ask_any x k s q (.slice A m c) ⟨A, m, c, rfl⟩ hx W
  rw [hK] at hask
  unfold In64 at hn
  clear hx hK hp
  replace h := Lib.hid h
  replace hb := Lib.hid hb
  replace bC := Lib.hid bC
  replace bP := Lib.hid bP
  replace hz := Lib.hid hz
  have hkp : ∀ W, Below w.heap.size w W → ∀ g r0, RfA w g r0 → RfA W g r0 := fun W hb g r0 h0 => h0.below hb
  replace hkp := Lib.hid hkp
  unfold ptrV
  go_enter Tryz.func14, Tryz.ntmps14
  go_upto_region 1 with fail
  try rw [hz.out]
  generalize (w.alloc (.cells #[.int .i64 x, .string k, .string s, .int .i64 q, .slice A m c] 39)) = w1 at bC bP hb ⊢
  have e0 := bC.out.cell (i := 0) rfl
  have e1 := bC.out.cell (i := 1) rfl
  have e2 := bC.out.cell (i := 2) rfl
  have e3 := bC.out.cell (i := 3) rfl
  have e4 := bC.out.cell (i := 4) rfl
  have p0 : w1.cell? ⟨p, 0, none⟩ = some (ptrV rb) := bP.out.blk.cell (i := 0) rfl
  unfold ptrV at p0
  have lp := bP.out.blk.lt
  have lz := bC.out.lt
  have ha := hask w1
  go_wp2_with fail
  refine ha.mono ?_
  rintro e w2 ⟨rfl, hb2⟩
  have bD : Blk w2 z _ _ := (hb2.block z lz).trans bC.out
  have hbD := hb.out.trans (hb2.mono hb.out.size)
  have hS := h.out.below hbD
  have hA := bP.out.below hb2
  clear e0 e1 e2 e3 e4 lz lp p0 ha hask bC hb hb2 h bP
  have e0 := bD.cell (i := 0) rfl
  have e1 := bD.cell (i := 1) rfl
  have e2 := bD.cell (i := 2) rfl
  have e3 := bD.cell (i := 3) rfl
  have e4 := bD.cell (i := 4) rfl
  have lz := bD.lt
  replace bD := Lib.hid bD
  replace hbD := Lib.hid hbD
  subst hws
  have hZ2 := hZ.below hbD.out
  have hkA := hkp.out w2 hbD.out
  have hrow := hA.row
  have hlen : (W0 ++ [Z]).length = W0.length + 1 := by rw [List.length_append]; rfl
  rw [List.map_append, hlen] at hrow
  have hini := row_init hrow
  have hBp := Lib.hid hA.hB
  have p1 : w2.cell? ⟨p, 1, none⟩ = some (.slice A2 (W0.length + 1) c2) := by have := hA.blk.cell (i := 1) rfl; rw [hlen] at this; exact this
  have p0 : w2.cell? ⟨p, 0, none⟩ = some (ptrV rb) := hA.blk.cell (i := 0) rfl
  have lp := hA.blk.lt
  obtain ⟨hcO, hcOm⟩ : W0.length + 1 ≤ c2 ∧ c2 ≤ maxLen := by obtain ⟨A', c', e', h1, h2⟩ := own_form hrow; cases e'; exact ⟨h1, h2⟩
  unfold maxLen at hcOm
  obtain ⟨g, rfl, _, hgl, hat⟩ := own_at hrow (by omega)
  have cg : w2.cell? ⟨g, W0.length, none⟩ = some (ptrV Z) := hat W0.length (ptrV Z) (by rw [List.getElem?_append_right (by rw [List.length_map]; exact Nat.le_refl _), List.length_map, Nat.sub_self]; rfl)
  obtain ⟨sv, sf, sa, st, hR⟩ := hS
  obtain ⟨zv, zf, za, zt, hZ3⟩ := hZ2
  have r8 : w2.cell? ⟨rb, 8, none⟩ = some (.int .i64 r.n) := hR.blk.cell (i := 8) rfl
  have z8 : w2.cell? ⟨Z, 8, none⟩ = some (.int .i64 rz.n) := hZ3.blk.cell (i := 8) rfl
  have lr := hR.blk.lt
  have lZ := hZ3.blk.lt
  have fp0 := hA.blk.frozen 0
  have fp1 := hA.blk.frozen 1
  have fz8 := hZ3.blk.frozen 8
  unfold ptrV at p0 cg
  obtain ⟨L, hL⟩ : ∃ L, W0.length = L := ⟨_, rfl⟩
  rw [hL] at p1 cg hcO hlen hini
  have hLn : ¬ (L : Int) < 0 := by omega
  replace hS := Lib.hid hR
  replace hZ3 := Lib.hid hZ3
  replace hini := Lib.hid hini
  replace hrow := Lib.hid hrow
  replace hA := Lib.hid hA
  clear hR hat hkA
  have bp3 : Blk (w2.setCell ⟨p, 0, none⟩ (ptrV Z)) p [ptrV Z, .slice (some ⟨g, 0, none⟩) (L + 1) c2] 34 := by have := hA.out.blk.set 0 (ptrV Z); rw [hlen] at this; exact this
  have st3 : Stp (fun b => b = p) w2 (w2.setCell ⟨p, 0, none⟩ (ptrV Z)) := Stp.set (S := fun b => b = p) rfl 0 _
  have hty : ∀ b, b = p → ∃ cur T, Blk w2 b cur T ∧ (T = 34 ∨ T = 30) := fun b e => ⟨_, _, e ▸ hA.out.blk, .inl rfl⟩
  have hR3 := RfA.keepS (⟨_, _, _, _, hS.out⟩ : RfA w2 rb r) st3 hty
  have hZ3 := RfA.keepS (⟨_, _, _, _, hZ3.out⟩ : RfA w2 Z rz) st3 hty
  have hini3 := own_keepT (W' := w2.setCell ⟨p, 0, none⟩ (ptrV Z)) hini.out (fun g' cur hb => hb.stp st3 (fun e => by
    subst e
    have e2 := hA.out.blk.symm.trans hb
    simp only [Option.some.injEq, Obj.cells.injEq] at e2
    exact absurd e2.2.1 (by decide)))
  have hoth : ∀ g r0, RfA w g r0 → RfA (w2.setCell ⟨p, 0, none⟩ (ptrV Z)) g r0 := fun g r0 h0 => (hkp.out _ hbD.out g r0 h0).keepS st3 hty
  have hst : Stp (fun b => b = p) w (w2.setCell ⟨p, 0, none⟩ (ptrV Z)) := stpB hbD.out st3
  clear hS hini hrow hA hty st3
  unfold ptrV at bp3 hR3 hZ3 hini3 hoth hst
  replace bp3 := Lib.hid bp3
  replace hR3 := Lib.hid hR3
  replace hZ3 := Lib.hid hZ3
  replace hini3 := Lib.hid hini3
  replace hoth := Lib.hid hoth
  replace hst := Lib.hid hst
  go_upto_region 46 with fail
  clear p0 p1 cg r8 z8 lr lZ fp0 fp1 fz8 lp hgl e0 e1 e2 e3 e4 lz bD hbD hkp hZ
  generalize w2.setCell ⟨p, 0, none⟩ (.pointer (some ⟨Z, 0, none⟩)) = w3 at bp3 hR3 hZ3 hini3 hoth hst ⊢
  have p0 : w3.cell? ⟨p, 0, none⟩ = some (.pointer (some ⟨Z, 0, none⟩)) := bp3.out.cell (i := 0) rfl
  have p1 : w3.cell? ⟨p, 1, none⟩ = some (.slice (some ⟨g, 0, none⟩) (L + 1) c2) := bp3.out.cell (i := 1) rfl
  have lp := bp3.out.lt
  obtain ⟨sv, sf, sa, st, hR4⟩ := hR3.out
  obtain ⟨zv, zf, za, zt, hZ4⟩ := hZ3.out
  have r8 : w3.cell? ⟨rb, 8, none⟩ = some (.int .i64 r.n) := hR4.blk.cell (i := 8) rfl
  have z8 : w3.cell? ⟨Z, 8, none⟩ = some (.int .i64 rz.n) := hZ4.blk.cell (i := 8) rfl
  have lr := hR4.blk.lt
  have lZ := hZ4.blk.lt
  have fz8 := hZ4.blk.frozen 8
  obtain ⟨hY, hYs⟩ := hZ4.set (r' := { rz with n := r.n }) 8 (.int .i64 r.n) rfl hZ4.rv hZ4.rf hZ4.ra hZ4.rt hZ4.ga
  have hY2 : RfA (w3.setCell ⟨Z, 8, none⟩ (.int .i64 r.n)).drew Z { rz with n := r.n } := RfA.below ⟨_, _, _, _, hY⟩ (drewN_below _ 1)
  have hYd : Stp (fun b => b = Z) w3 (w3.setCell ⟨Z, 8, none⟩ (.int .i64 r.n)).drew := Stp.trans (S := fun b => b = Z) (S' := fun b => b = Z) hYs (Stp.mono (S := fun _ => False) ⟨(drewN_below (w3.setCell ⟨Z, 8, none⟩ (.int .i64 r.n)) 1).os, (drewN_below (w3.setCell ⟨Z, 8, none⟩ (.int .i64 r.n)) 1).tape, (drewN_below (w3.setCell ⟨Z, 8, none⟩ (.int .i64 r.n)) 1).output, (drewN_below (w3.setCell ⟨Z, 8, none⟩ (.int .i64 r.n)) 1).size, fun b hb' _ => (drewN_below (w3.setCell ⟨Z, 8, none⟩ (.int .i64 r.n)) 1).block b hb'⟩ (fun _ _ h => h.elim)) (fun _ _ h => h)
  have hnR : ∀ b cur T, Blk w3 b cur T → T ≠ 76 → Blk (w3.setCell ⟨Z, 8, none⟩ (.int .i64 r.n)).drew b cur T := fun b cur T hb hT => hb.stp hYd (fun e => by
    subst e
    have e2 := hZ4.blk.symm.trans hb
    simp only [Option.some.injEq, Obj.cells.injEq] at e2
    exact hT e2.2.1.symm)
  have bp4 := hnR _ _ _ bp3.out (by decide)
  have hini4 := own_keepT hini3.out (fun g' cur hb => hnR g' cur _ hb (by decide))
  have hoth4 : ∀ g r0, RfA w g r0 → g ≠ Z → RfA (w3.setCell ⟨Z, 8, none⟩ (.int .i64 r.n)).drew g r0 := fun g r0 h0 hne => (hoth.out g r0 h0).other ⟨_, _, _, _, hZ4⟩ (Ne.symm hne) hYd
  have hst4 : Stp (fun b => b = p ∨ b = Z) w (w3.setCell ⟨Z, 8, none⟩ (.int .i64 r.n)).drew := Stp.trans (S := fun b => b = p ∨ b = Z) (S' := fun b => b = p ∨ b = Z) (hst.out.mono fun _ _ h => .inl h) (hYd.mono fun _ _ h => .inr h) (fun _ _ h => h)
  replace bp4 := Lib.hid bp4
  replace hini4 := Lib.hid hini4
  replace hoth4 := Lib.hid hoth4
  replace hst4 := Lib.hid hst4
  replace hY2 := Lib.hid hY2
  clear hR4 hR3 hY hYs hYd hnR hoth hst hini3 bp3 hZ4
  go_region
  clear p0 p1 lp r8 lr lZ z8 fz8 hZ3
  generalize (w3.setCell ⟨Z, 8, none⟩ (.int .i64 r.n)).drew = w4 at bp4 hini4 hoth4 hst4 hY2 ⊢
  have p1 : w4.cell? ⟨p, 1, none⟩ = some (.slice (some ⟨g, 0, none⟩) (L + 1) c2) := bp4.out.cell (i := 1) rfl
  have lp := bp4.out.lt
  have fp1 := bp4.out.frozen 1
  have bp5 := bp4.out.set 1 (.slice (some ⟨g, 0, none⟩) L c2)
  have st5 : Stp (fun b => b = p) w4 (w4.setCell ⟨p, 1, none⟩ (.slice (some ⟨g, 0, none⟩) L c2)) := Stp.set (S := fun b => b = p) rfl 1 _
  have hty : ∀ b, b = p → ∃ cur T, Blk w4 b cur T ∧ (T = 34 ∨ T = 30) := fun b e => ⟨_, _, e ▸ bp4.out, .inl rfl⟩
  have hini5 := own_keepT (W' := w4.setCell ⟨p, 1, none⟩ (.slice (some ⟨g, 0, none⟩) L c2)) hini4.out (fun g' cur hb => hb.stp st5 (fun e => by
    subst e
    have e2 := bp4.out.symm.trans hb
    simp only [Option.some.injEq, Obj.cells.injEq] at e2
    exact absurd e2.2.1 (by decide)))
  have hfin : Hid (AllA Bz (w4.setCell ⟨p, 1, none⟩ (.slice (some ⟨g, 0, none⟩) L c2)) p Z W0 (some ⟨g, 0, none⟩) c2 ∧ RfA (w4.setCell ⟨p, 1, none⟩ (.slice (some ⟨g, 0, none⟩) L c2)) Z { rz with n := r.n } ∧ (∀ g' r0, RfA w g' r0 → g' ≠ Z → RfA (w4.setCell ⟨p, 1, none⟩ (.slice (some ⟨g, 0, none⟩) L c2)) g' r0) ∧ Stp (fun b => b = p ∨ b = Z) w (w4.setCell ⟨p, 1, none⟩ (.slice (some ⟨g, 0, none⟩) L c2))) := Lib.hid ⟨⟨by rw [hL]; exact bp5, by rw [hL]; exact hini5, hBp.out⟩, hY2.out.keepS st5 hty, fun g' r0 h0 hne => (hoth4.out g' r0 h0 hne).keepS st5 hty, Stp.trans (S := fun b => b = p ∨ b = Z) (S' := fun b => b = p ∨ b = Z) hst4.out (st5.mono fun _ _ h => .inl h) (fun _ _ h => h)⟩
  clear bp4 bp5 hini4 hini5 hoth4 hst4 hY2 st5 hty
  go_wp2
  go_ret
  exact ⟨rfl, hfin.out⟩
set_option maxRecDepth 100000 in
set_option maxHeartbeats 8000000 in
theorem asked_19n {A2 : Option Addr} {c2 : Nat} {ws : List Nat} (hp : AllA Bz w p rb ws A2 c2) (h : RfA w rb r) (x : Int) (k s : ByteArray) (q : Int) (A : Option Addr) (m c : Nat) (hx : In64 x) (hn : In64 q) (hK : askI x = 19) (hl : ws.length = 0) :
    Calls Tryz.prog 14 #[ptrV p, .agg #[.int .i64 x, .string k, .string s, .int .i64 q, .slice A m c]] w fun e w' => e = .returned (.int .i64 1) ∧ Below w.heap.size w w' := by
  obtain ⟨z, hz⟩ : ∃ z, w.heap.size = z := ⟨_, rfl⟩
  have bC : Blk (w.alloc (.cells #[.int .i64 x, .string k, .string s, .int .i64 q, .slice A m c] 39)) z [.int .i64 x, .string k, .string s, .int .i64 q, .slice A m c] 39 := by rw [← hz]; exact Blk.new w _ _
  have hb : Below w.heap.size w (w.alloc (.cells #[.int .i64 x, .string k, .string s, .int .i64 q, .slice A m c] 39)) := Below.of_alloc w _
  have bP := hp.below hb
  have hask := fun W => ask_any x k s q (.slice A m c) ⟨A, m, c, rfl⟩ hx W
  rw [hK] at hask
  unfold In64 at hn
  clear hx hK hp
  replace h := Lib.hid h
  replace hb := Lib.hid hb
  replace bC := Lib.hid bC
  replace bP := Lib.hid bP
  replace hz := Lib.hid hz
  unfold ptrV
  go_enter Tryz.func14, Tryz.ntmps14
  go_upto_region 1 with fail
  try rw [hz.out]
  generalize (w.alloc (.cells #[.int .i64 x, .string k, .string s, .int .i64 q, .slice A m c] 39)) = w1 at bC bP hb ⊢
  have e0 := bC.out.cell (i := 0) rfl
  have e1 := bC.out.cell (i := 1) rfl
  have e2 := bC.out.cell (i := 2) rfl
  have e3 := bC.out.cell (i := 3) rfl
  have e4 := bC.out.cell (i := 4) rfl
  have p0 : w1.cell? ⟨p, 0, none⟩ = some (ptrV rb) := bP.out.blk.cell (i := 0) rfl
  unfold ptrV at p0
  have lp := bP.out.blk.lt
  have lz := bC.out.lt
  have ha := hask w1
  go_wp2_with fail
  refine ha.mono ?_
  rintro e w2 ⟨rfl, hb2⟩
  have bD : Blk w2 z _ _ := (hb2.block z lz).trans bC.out
  have hbD := hb.out.trans (hb2.mono hb.out.size)
  have hS := h.out.below hbD
  have hA := bP.out.below hb2
  clear e0 e1 e2 e3 e4 lz lp p0 ha hask bC hb hb2 h bP
  have e0 := bD.cell (i := 0) rfl
  have e1 := bD.cell (i := 1) rfl
  have e2 := bD.cell (i := 2) rfl
  have e3 := bD.cell (i := 3) rfl
  have e4 := bD.cell (i := 4) rfl
  have lz := bD.lt
  replace bD := Lib.hid bD
  replace hbD := Lib.hid hbD
  clear hS
  have p1 : w2.cell? ⟨p, 1, none⟩ = some (.slice A2 0 c2) := by have := hA.blk.cell (i := 1) rfl; rw [hl] at this; exact this
  have lp := hA.blk.lt
  clear hA e0 e1 e2 e3 e4 lz bD hl
  go_wp2
  go_ret
  exact ⟨rfl, hbD.out⟩
set_option maxRecDepth 100000 in
set_option maxHeartbeats 8000000 in
theorem asked_19 {A2 : Option Addr} {c2 : Nat} {ws : List Nat} (hp : AllA Bz w p rb ws A2 c2) (h : RfA w rb r) (x : Int) (k s : ByteArray) (q : Int) (A : Option Addr) (m c : Nat) (hx : In64 x) (hn : In64 q) (hK : askI x = 19) {W0 : List Nat} {Z : Nat} {rz : Rf} (hws : ws = W0 ++ [Z]) (hZ : RfA w Z rz) (hl : ws.length ≤ 20) :
    Calls Tryz.prog 14 #[ptrV p, .agg #[.int .i64 x, .string k, .string s, .int .i64 q, .slice A m c]] w fun e w' => e = .returned (.int .i64 0) ∧ AllA Bz w' p Z W0 A2 c2 ∧ RfA w' Z { rz with n := r.n } ∧ (∀ g r0, RfA w g r0 → g ≠ Z → RfA w' g r0) ∧ Stp (fun b => b = p ∨ b = Z) w w' := by
  obtain ⟨z, hz⟩ : ∃ z, w.heap.size = z := ⟨_, rfl⟩
  have bC : Blk (w.alloc (.cells #[.int .i64 x, .string k, .string s, .int .i64 q, .slice A m c] 39)) z [.int .i64 x, .string k, .string s, .int .i64 q, .slice A m c] 39 := by rw [← hz]; exact Blk.new w _ _
  have hb : Below w.heap.size w (w.alloc (.cells #[.int .i64 x, .string k, .string s, .int .i64 q, .slice A m c] 39)) := Below.of_alloc w _
  have bP := hp.below hb
  have hask := fun W => ask_any x k s q (.slice A m c) ⟨A, m, c, rfl⟩ hx W
  rw [hK] at hask
  unfold In64 at hn
  clear hx hK hp
  replace h := Lib.hid h
  replace hb := Lib.hid hb
  replace bC := Lib.hid bC
  replace bP := Lib.hid bP
  replace hz := Lib.hid hz
  have hkp : ∀ W, Below w.heap.size w W → ∀ g r0, RfA w g r0 → RfA W g r0 := fun W hb g r0 h0 => h0.below hb
  replace hkp := Lib.hid hkp
  unfold ptrV
  go_enter Tryz.func14, Tryz.ntmps14
  go_upto_region 1 with fail
  try rw [hz.out]
  generalize (w.alloc (.cells #[.int .i64 x, .string k, .string s, .int .i64 q, .slice A m c] 39)) = w1 at bC bP hb ⊢
  have e0 := bC.out.cell (i := 0) rfl
  have e1 := bC.out.cell (i := 1) rfl
  have e2 := bC.out.cell (i := 2) rfl
  have e3 := bC.out.cell (i := 3) rfl
  have e4 := bC.out.cell (i := 4) rfl
  have p0 : w1.cell? ⟨p, 0, none⟩ = some (ptrV rb) := bP.out.blk.cell (i := 0) rfl
  unfold ptrV at p0
  have lp := bP.out.blk.lt
  have lz := bC.out.lt
  have ha := hask w1
  go_wp2_with fail
  refine ha.mono ?_
  rintro e w2 ⟨rfl, hb2⟩
  have bD : Blk w2 z _ _ := (hb2.block z lz).trans bC.out
  have hbD := hb.out.trans (hb2.mono hb.out.size)
  have hS := h.out.below hbD
  have hA := bP.out.below hb2
  clear e0 e1 e2 e3 e4 lz lp p0 ha hask bC hb hb2 h bP
  have e0 := bD.cell (i := 0) rfl
  have e1 := bD.cell (i := 1) rfl
  have e2 := bD.cell (i := 2) rfl
  have e3 := bD.cell (i := 3) rfl
  have e4 := bD.cell (i := 4) rfl
  have lz := bD.lt
  replace bD := Lib.hid bD
  replace hbD := Lib.hid hbD
  subst hws
  have hZ2 := hZ.below hbD.out
  have hkA := hkp.out w2 hbD.out
  have hrow := hA.row
  have hlen : (W0 ++ [Z]).length = W0.length + 1 := by rw [List.length_append]; rfl
  rw [List.map_append, hlen] at hrow
  have hini := row_init hrow
  have hBp := Lib.hid hA.hB
  have p1 : w2.cell? ⟨p, 1, none⟩ = some (.slice A2 (W0.length + 1) c2) := by have := hA.blk.cell (i := 1) rfl; rw [hlen] at this; exact this
  have p0 : w2.cell? ⟨p, 0, none⟩ = some (ptrV rb) := hA.blk.cell (i := 0) rfl
  have lp := hA.blk.lt
  obtain ⟨hcO, hcOm⟩ : W0.length + 1 ≤ c2 ∧ c2 ≤ maxLen := by obtain ⟨A', c', e', h1, h2⟩ := own_form hrow; cases e'; exact ⟨h1, h2⟩
  unfold maxLen at hcOm
  obtain ⟨g, rfl, _, hgl, hat⟩ := own_at hrow (by omega)
  have cg : w2.cell? ⟨g, W0.length, none⟩ = some (ptrV Z) := hat W0.length (ptrV Z) (by rw [List.getElem?_append_right (by rw [List.length_map]; exact Nat.le_refl _), List.length_map, Nat.sub_self]; rfl)
  obtain ⟨sv, sf, sa, st, hR⟩ := hS
  obtain ⟨zv, zf, za, zt, hZ3⟩ := hZ2
  have r8 : w2.cell? ⟨rb, 8, none⟩ = some (.int .i64 r.n) := hR.blk.cell (i := 8) rfl
  have z8 : w2.cell? ⟨Z, 8, none⟩ = some (.int .i64 rz.n) := hZ3.blk.cell (i := 8) rfl
  have lr := hR.blk.lt
  have lZ := hZ3.blk.lt
  have fp0 := hA.blk.frozen 0
  have fp1 := hA.blk.frozen 1
  have fz8 := hZ3.blk.frozen 8
  unfold ptrV at p0 cg
  obtain ⟨L, hL⟩ : ∃ L, W0.length = L := ⟨_, rfl⟩
  rw [hL] at p1 cg hcO hlen hini
  have hLn : ¬ (L : Int) < 0 := by omega
  replace hS := Lib.hid hR
  replace hZ3 := Lib.hid hZ3
  replace hini := Lib.hid hini
  replace hrow := Lib.hid hrow
  replace hA := Lib.hid hA
  clear hR hat hkA
  have bp3 : Blk (w2.setCell ⟨p, 0, none⟩ (ptrV Z)) p [ptrV Z, .slice (some ⟨g, 0, none⟩) (L + 1) c2] 34 := by have := hA.out.blk.set 0 (ptrV Z); rw [hlen] at this; exact this
  have st3 : Stp (fun b => b = p) w2 (w2.setCell ⟨p, 0, none⟩ (ptrV Z)) := Stp.set (S := fun b => b = p) rfl 0 _
  have hty : ∀ b, b = p → ∃ cur T, Blk w2 b cur T ∧ (T = 34 ∨ T = 30) := fun b e => ⟨_, _, e ▸ hA.out.blk, .inl rfl⟩
  have hR3 := RfA.keepS (⟨_, _, _, _, hS.out⟩ : RfA w2 rb r) st3 hty
  have hZ3 := RfA.keepS (⟨_, _, _, _, hZ3.out⟩ : RfA w2 Z rz) st3 hty
  have hini3 := own_keepT (W' := w2.setCell ⟨p, 0, none⟩ (ptrV Z)) hini.out (fun g' cur hb => hb.stp st3 (fun e => by
    subst e
    have e2 := hA.out.blk.symm.trans hb
    simp only [Option.some.injEq, Obj.cells.injEq] at e2
    exact absurd e2.2.1 (by decide)))
  have hoth : ∀ g r0, RfA w g r0 → RfA (w2.setCell ⟨p, 0, none⟩ (ptrV Z)) g r0 := fun g r0 h0 => (hkp.out _ hbD.out g r0 h0).keepS st3 hty
  have hst : Stp (fun b => b = p) w (w2.setCell ⟨p, 0, none⟩ (ptrV Z)) := stpB hbD.out st3
  clear hS hini hrow hA hty st3
  unfold ptrV at bp3 hR3 hZ3 hini3 hoth hst
  replace bp3 := Lib.hid bp3
  replace hR3 := Lib.hid hR3
  replace hZ3 := Lib.hid hZ3
  replace hini3 := Lib.hid hini3
  replace hoth := Lib.hid hoth
  replace hst := Lib.hid hst
  go_upto_region 46 with fail
  clear p0 p1 cg r8 z8 lr lZ fp0 fp1 fz8 lp hgl e0 e1 e2 e3 e4 lz bD hbD hkp hZ
  generalize w2.setCell ⟨p, 0, none⟩ (.pointer (some ⟨Z, 0, none⟩)) = w3 at bp3 hR3 hZ3 hini3 hoth hst ⊢
  have p0 : w3.cell? ⟨p, 0, none⟩ = some (.pointer (some ⟨Z, 0, none⟩)) := bp3.out.cell (i := 0) rfl
  have p1 : w3.cell? ⟨p, 1, none⟩ = some (.slice (some ⟨g, 0, none⟩) (L + 1) c2) := bp3.out.cell (i := 1) rfl
  have lp := bp3.out.lt
  obtain ⟨sv, sf, sa, st, hR4⟩ := hR3.out
  obtain ⟨zv, zf, za, zt, hZ4⟩ := hZ3.out
  have r8 : w3.cell? ⟨rb, 8, none⟩ = some (.int .i64 r.n) := hR4.blk.cell (i := 8) rfl
  have z8 : w3.cell? ⟨Z, 8, none⟩ = some (.int .i64 rz.n) := hZ4.blk.cell (i := 8) rfl
  have lr := hR4.blk.lt
  have lZ := hZ4.blk.lt
  have fz8 := hZ4.blk.frozen 8
  obtain ⟨hY, hYs⟩ := hZ4.set (r' := { rz with n := r.n }) 8 (.int .i64 r.n) rfl hZ4.rv hZ4.rf hZ4.ra hZ4.rt hZ4.ga
  have hY2 : RfA (w3.setCell ⟨Z, 8, none⟩ (.int .i64 r.n)).drew Z { rz with n := r.n } := RfA.below ⟨_, _, _, _, hY⟩ (drewN_below _ 1)
  have hYd : Stp (fun b => b = Z) w3 (w3.setCell ⟨Z, 8, none⟩ (.int .i64 r.n)).drew := Stp.trans (S := fun b => b = Z) (S' := fun b => b = Z) hYs (Stp.mono (S := fun _ => False) ⟨(drewN_below (w3.setCell ⟨Z, 8, none⟩ (.int .i64 r.n)) 1).os, (drewN_below (w3.setCell ⟨Z, 8, none⟩ (.int .i64 r.n)) 1).tape, (drewN_below (w3.setCell ⟨Z, 8, none⟩ (.int .i64 r.n)) 1).output, (drewN_below (w3.setCell ⟨Z, 8, none⟩ (.int .i64 r.n)) 1).size, fun b hb' _ => (drewN_below (w3.setCell ⟨Z, 8, none⟩ (.int .i64 r.n)) 1).block b hb'⟩ (fun _ _ h => h.elim)) (fun _ _ h => h)
  have hnR : ∀ b cur T, Blk w3 b cur T → T ≠ 76 → Blk (w3.setCell ⟨Z, 8, none⟩ (.int .i64 r.n)).drew b cur T := fun b cur T hb hT => hb.stp hYd (fun e => by
    subst e
    have e2 := hZ4.blk.symm.trans hb
    simp only [Option.some.injEq, Obj.cells.injEq] at e2
    exact hT e2.2.1.symm)
  have bp4 := hnR _ _ _ bp3.out (by decide)
  have hini4 := own_keepT hini3.out (fun g' cur hb => hnR g' cur _ hb (by decide))
  have hoth4 : ∀ g r0, RfA w g r0 → g ≠ Z → RfA (w3.setCell ⟨Z, 8, none⟩ (.int .i64 r.n)).drew g r0 := fun g r0 h0 hne => (hoth.out g r0 h0).other ⟨_, _, _, _, hZ4⟩ (Ne.symm hne) hYd
  have hst4 : Stp (fun b => b = p ∨ b = Z) w (w3.setCell ⟨Z, 8, none⟩ (.int .i64 r.n)).drew := Stp.trans (S := fun b => b = p ∨ b = Z) (S' := fun b => b = p ∨ b = Z) (hst.out.mono fun _ _ h => .inl h) (hYd.mono fun _ _ h => .inr h) (fun _ _ h => h)
  replace bp4 := Lib.hid bp4
  replace hini4 := Lib.hid hini4
  replace hoth4 := Lib.hid hoth4
  replace hst4 := Lib.hid hst4
  replace hY2 := Lib.hid hY2
  clear hR4 hR3 hY hYs hYd hnR hoth hst hini3 bp3 hZ4
  go_region
  clear p0 p1 lp r8 lr lZ z8 fz8 hZ3
  generalize (w3.setCell ⟨Z, 8, none⟩ (.int .i64 r.n)).drew = w4 at bp4 hini4 hoth4 hst4 hY2 ⊢
  have p1 : w4.cell? ⟨p, 1, none⟩ = some (.slice (some ⟨g, 0, none⟩) (L + 1) c2) := bp4.out.cell (i := 1) rfl
  have lp := bp4.out.lt
  have fp1 := bp4.out.frozen 1
  have bp5 := bp4.out.set 1 (.slice (some ⟨g, 0, none⟩) L c2)
  have st5 : Stp (fun b => b = p) w4 (w4.setCell ⟨p, 1, none⟩ (.slice (some ⟨g, 0, none⟩) L c2)) := Stp.set (S := fun b => b = p) rfl 1 _
  have hty : ∀ b, b = p → ∃ cur T, Blk w4 b cur T ∧ (T = 34 ∨ T = 30) := fun b e => ⟨_, _, e ▸ bp4.out, .inl rfl⟩
  have hini5 := own_keepT (W' := w4.setCell ⟨p, 1, none⟩ (.slice (some ⟨g, 0, none⟩) L c2)) hini4.out (fun g' cur hb => hb.stp st5 (fun e => by
    subst e
    have e2 := bp4.out.symm.trans hb
    simp only [Option.some.injEq, Obj.cells.injEq] at e2
    exact absurd e2.2.1 (by decide)))
  have hfin : Hid (AllA Bz (w4.setCell ⟨p, 1, none⟩ (.slice (some ⟨g, 0, none⟩) L c2)) p Z W0 (some ⟨g, 0, none⟩) c2 ∧ RfA (w4.setCell ⟨p, 1, none⟩ (.slice (some ⟨g, 0, none⟩) L c2)) Z { rz with n := r.n } ∧ (∀ g' r0, RfA w g' r0 → g' ≠ Z → RfA (w4.setCell ⟨p, 1, none⟩ (.slice (some ⟨g, 0, none⟩) L c2)) g' r0) ∧ Stp (fun b => b = p ∨ b = Z) w (w4.setCell ⟨p, 1, none⟩ (.slice (some ⟨g, 0, none⟩) L c2))) := Lib.hid ⟨⟨by rw [hL]; exact bp5, by rw [hL]; exact hini5, hBp.out⟩, hY2.out.keepS st5 hty, fun g' r0 h0 hne => (hoth4.out g' r0 h0 hne).keepS st5 hty, Stp.trans (S := fun b => b = p ∨ b = Z) (S' := fun b => b = p ∨ b = Z) hst4.out (st5.mono fun _ _ h => .inl h) (fun _ _ h => h)⟩
  clear bp4 bp5 hini4 hini5 hoth4 hst4 hY2 st5 hty
  go_wp2
  go_ret
  exact ⟨rfl, hfin.out⟩
end
end Go.Proofs.YtigmdfdcflkggaaGreat
/-
  What is asked of the document's answer, whichever call it is. Conditions: a log with room; numbers of 64 bits.
-/
set_option linter.unusedSimpArgs false
set_option linter.unusedVariables false
namespace Go.Proofs.YtigmdfdcflkggaaGreat
open Go Go.RowKit Go.ChangeMaps

section
variable {Bz : Nat} {w w' W W' : World} {rb N p : Nat} {r : Rf} {t t' : Tg} {n : Int} {ws : List Nat}
/-- The answers that are kept, beside the marks. -/
structure Kept (Bz N : Nat) (w : World) (t : Tg) (rb : Nat) (ws : List Nat) : Prop where
  len : ws.length = t.was.length
  sv : ∀ (i : Nat) Z q, ws[i]? = some Z → t.was[i]? = some q → ∃ rz, RfA w Z rz ∧ Corr q.2 rz ∧ Bd N rz
  nd : (rb :: ws).Nodup
  lo : Bz ≤ rb ∧ ∀ Z ∈ ws, Bz ≤ Z
/-- All that is asked of the document's answer behind a call. -/
structure After (Bz N p : Nat) (n : Int) (t : Tg) (w w' : World) : Prop where
  out : ∃ rb r ws A c, AllA Bz w' p rb ws A c ∧ RfA w' rb r ∧ Corr t.cur r ∧ Bd N r ∧ Kept Bz N w' t rb ws ∧ r.n = n
  frq : FrQ w w'
  low : ∀ b, b < Bz → w'.heap[b]? = w.heap[b]?
theorem Kept.mem {Z : Nat} (h : Kept Bz N w t rb ws) (hZ : Z ∈ ws) : Z ≠ rb := fun e => (List.nodup_cons.1 h.nd).1 (e ▸ hZ)
theorem Kept.bd {M : Nat} (h : Kept Bz N w t rb ws) (hM : N ≤ M) : Kept Bz M w t rb ws := ⟨h.len, fun i Z q h1 h2 => by
  obtain ⟨rz, a1, a2, a3⟩ := h.sv i Z q h1 h2
  exact ⟨rz, a1, a2, a3.mono hM⟩, h.nd, h.lo⟩
/-- Where only the answer itself is changed. -/
theorem keep_out {A2 : Option Addr} {c2 : Nat} (hp : AllA Bz w p rb ws A2 c2) (h : RfA w rb r) (hk : Kept Bz N w t rb ws) (hw : t'.was = t.was) (ho : RfOut w rb (N + 1) n t'.cur w') : After Bz (N + 1) p n t' w w' := by
  have hs := ho.stp
  obtain ⟨r', h1, h2, h3, h4, h5⟩ := ho
  have hlo := hk.lo.1
  obtain ⟨sv, sf, sa, st, hR⟩ := h
  refine ⟨⟨rb, r', ws, A2, c2, hp.other ⟨_, _, _, _, hR⟩ hs, h1, h2, h3, ⟨by rw [hw]; exact hk.len, fun i Z q i1 i2 => ?_, hk.nd, hk.lo⟩, h4⟩, FrQ.of_stp hs (fun b e _ => ⟨_, _, e ▸ hR.blk, .inl rfl⟩), fun b hb => hs.block b ?_ (fun e => by omega)⟩
  · rw [hw] at i2
    obtain ⟨rz, a1, a2, a3⟩ := hk.sv i Z q i1 i2
    exact ⟨rz, a1.other ⟨_, _, _, _, hR⟩ (Ne.symm (hk.mem (List.mem_of_getElem? i1))) hs, a2, a3.mono (Nat.le_succ _)⟩
  · have := hR.blk.lt
    omega
/-- Where memory is only added to. -/
theorem keep_below {A2 : Option Addr} {c2 : Nat} (hp : AllA Bz w p rb ws A2 c2) (h : RfA w rb r) (hc : Corr t.cur r) (hbd : Bd N r) (hk : Kept Bz N w t rb ws) (hb : Below w.heap.size w w') : After Bz (N + 1) p r.n t w w' := by
  have hlt := h.lt
  have hlo := hk.lo.1
  refine ⟨⟨rb, r, ws, A2, c2, hp.below hb, h.below hb, hc, hbd.one, ⟨hk.len, fun i Z q i1 i2 => ?_, hk.nd, hk.lo⟩, rfl⟩, FrQ.of_below hb, fun b hb' => hb.block b (by omega)⟩
  obtain ⟨rz, a1, a2, a3⟩ := hk.sv i Z q i1 i2
  exact ⟨rz, a1.below hb, a2, a3.mono (Nat.le_succ _)⟩
theorem keep_open {A2 : Option Addr} {c2 : Nat} (hp : AllA Bz w p rb ws A2 c2) (h : RfA w rb r) (hc : Corr t.cur r) (hbd : Bd N r) (hk : Kept Bz N w t rb ws)
    (ho : ∃ Z A' c', w.heap.size ≤ Z ∧ AllA Bz w' p rb (ws ++ [Z]) A' c' ∧ RfA w' Z r ∧ RfA w' rb r ∧ Stp (fun b => b = p ∨ (Value.slice A2 ws.length c2).ownBlock = some b) w w') : After Bz (N + 1) p r.n t.marked w w' := by
  obtain ⟨Z, A', c', hge, h1, h2, h3, h4⟩ := ho
  have hlt := h.lt
  have hS : ∀ b, (b = p ∨ (Value.slice A2 ws.length c2).ownBlock = some b) → ∃ cur T, Blk w b cur T ∧ (T = 34 ∨ T = 30) := fun b e => by
    rcases e with rfl | e
    · exact ⟨_, _, hp.blk, .inl rfl⟩
    · obtain ⟨_, cur, hb⟩ := own_blk hp.row e
      exact ⟨cur, _, hb, .inr rfl⟩
  have hzlt : ∀ Z' ∈ ws, Z' < w.heap.size := fun Z' hZ' => by
    obtain ⟨i, hi, e⟩ := List.getElem_of_mem hZ'
    have i1 : ws[i]? = some Z' := by rw [List.getElem?_eq_getElem hi, e]
    have hi2 : i < t.was.length := by rw [← hk.len]; exact hi
    obtain ⟨rz, a1, _⟩ := hk.sv i Z' _ i1 (List.getElem?_eq_getElem hi2)
    exact a1.lt
  have hlo := hk.lo.1
  refine ⟨⟨rb, r, ws ++ [Z], A', c', h1, h3, hc, hbd.one, ⟨?_, fun i Z' q i1 i2 => ?_, ?_, hlo, fun Z' hZ' => ?_⟩, rfl⟩, FrQ.of_stp h4 (fun b e _ => ?_), fun b hb' => h4.block b (by omega) (fun e => ?_)⟩
  · show _ = (t.was ++ [_]).length
    rw [List.length_append, List.length_append, hk.len]
    rfl
  · have i2 : (t.was ++ [(t.ns.length, t.cur)])[i]? = some q := i2
    rcases Nat.lt_or_ge i ws.length with hi | hi
    · rw [List.getElem?_append_left hi] at i1
      rw [List.getElem?_append_left (by rw [← hk.len]; exact hi)] at i2
      obtain ⟨rz, a1, a2, a3⟩ := hk.sv i Z' q i1 i2
      exact ⟨rz, a1.keepS h4 hS, a2, a3.mono (Nat.le_succ _)⟩
    · rw [List.getElem?_append_right hi] at i1
      rw [List.getElem?_append_right (by rw [← hk.len]; exact hi), ← hk.len] at i2
      obtain ⟨e0, e1⟩ := List.getElem?_eq_some_iff.1 i1
      have h0 : i - ws.length = 0 := by simp at e0; omega
      rw [h0] at i1 i2
      cases i1
      cases i2
      exact ⟨r, h2, hc, hbd.one⟩
  · rw [show rb :: (ws ++ [Z]) = (rb :: ws) ++ [Z] from rfl]
    refine List.nodup_append.2 ⟨hk.nd, List.nodup_cons.2 ⟨fun e => (by cases e), List.nodup_nil⟩, fun a ha b hb e => ?_⟩
    rw [List.mem_singleton.1 hb] at e
    rcases List.mem_cons.1 ha with rfl | ha
    · omega
    · have := hzlt a ha; omega
  · rcases List.mem_append.1 hZ' with h | h
    · exact hk.lo.2 Z' h
    · rw [List.mem_singleton.1 h]; omega
  · obtain ⟨cur, T, hb, hT⟩ := hS b e
    exact ⟨cur, T, hb, by rcases hT with rfl | rfl; exact .inr (.inl rfl); exact .inr (.inr rfl)⟩
  · rcases e with rfl | e
    · have := hp.hB; omega
    · have := (hp.row.lt b e).1; omega
theorem keep_undo {A2 : Option Addr} {c2 Z : Nat} {W0 : List Nat} {rz : Rf} {T0 : List (Nat × Sta)} {q : Nat × Sta} (hp : AllA Bz w p rb ws A2 c2) (h : RfA w rb r) (hws : ws = W0 ++ [Z]) (hk : Kept Bz N w t rb ws) (hT : t.was = T0 ++ [q]) (hZ : RfA w Z rz) (hcz : Corr q.2 rz) (hbz : Bd N rz)
    (h1 : AllA Bz w' p Z W0 A2 c2) (h2 : RfA w' Z { rz with n := r.n }) (h3 : ∀ g r0, RfA w g r0 → g ≠ Z → RfA w' g r0) (h4 : Stp (fun b => b = p ∨ b = Z) w w') : After Bz (N + 1) p r.n (t.undone T0 q) w w' := by
  subst hws
  have hlen : W0.length = T0.length := by have := hk.len; rw [hT, List.length_append, List.length_append] at this; simpa using this
  have hnd := (List.nodup_cons.1 hk.nd).2
  have hnd2 := List.nodup_append.1 hnd
  have hzlo := hk.lo.2 Z (List.mem_append.2 (.inr (List.mem_singleton.2 rfl)))
  have hzl := hZ.lt
  obtain ⟨zv, zf, za, zt, hZR⟩ := hZ
  refine ⟨⟨Z, _, W0, A2, c2, h1, h2, ⟨hcz.v, hcz.f, hcz.a, hcz.t, hcz.o, hcz.os, hcz.gl, hcz.gn, hcz.ga, hcz.gi, hcz.b⟩, ⟨hbz.one.v, hbz.one.f, hbz.one.a, hbz.one.t⟩, ⟨hlen, fun i Z' q' i1 i2 => ?_, ?_, hzlo, fun Z' hZ' => hk.lo.2 Z' (List.mem_append.2 (.inl hZ'))⟩, rfl⟩, FrQ.of_stp h4 (fun b e _ => ?_), fun b hb' => h4.block b (by omega) (fun e => ?_)⟩
  · have j1 : i < W0.length := (List.getElem?_eq_some_iff.1 i1).1
    obtain ⟨rz', a1, a2, a3⟩ := hk.sv i Z' q' (by rw [List.getElem?_append_left j1]; exact i1) (by rw [hT, List.getElem?_append_left (by rw [← hlen]; exact j1)]; exact i2)
    exact ⟨rz', h3 Z' rz' a1 (fun e => hnd2.2.2 Z' (List.mem_of_getElem? i1) Z (List.mem_singleton.2 rfl) e), a2, a3.mono (Nat.le_succ _)⟩
  · exact List.nodup_cons.2 ⟨fun e => hnd2.2.2 Z e Z (List.mem_singleton.2 rfl) rfl, hnd2.1⟩
  · rcases e with rfl | rfl
    · exact ⟨_, _, hp.blk, .inr (.inl rfl)⟩
    · exact ⟨_, _, hZR.blk, .inl rfl⟩
  · rcases e with rfl | rfl
    · have := hp.hB; omega
    · omega
theorem setg_was (hf : ¬ t.full) (x : Gv) : (t.setg x).2.was = t.was := by unfold Tg.setg; rw [if_neg hf]; rfl
theorem undo_some {W0 : List (Nat × Sta)} {q : Nat × Sta} (h : t.was = W0 ++ [q]) : t.undo = (0, t.undone W0 q) := by
  unfold Tg.undo
  rw [h, List.getLast?_append]
  simp
set_option maxHeartbeats 2000000 in
/-- Whichever call it is. -/
theorem asked_all {o : Od} {ans : Int} {A2 : Option Addr} {c2 : Nat} (hp : AllA Bz w p rb ws A2 c2) (h : RfA w rb r) (hc : Corr t.cur r) (hbd : Bd N r) (hk : Kept Bz N w t rb ws) (hN : N ≤ 80000) (hf : ¬ t.full) (hroom : t.was ≠ [] → t.ns.length + 5 < t.most) (htr : TrapK t.cur) (hnest : t.nest = 20) (hwl : t.was.length ≤ 20)
    (htx : Txs w o.A o.m o.c o.l) (hx : In64 o.x) (hn : In64 o.n) (hok : OkO o) (hwas : askI o.x < 16 → t'.was = t.was) (hD : DoR o t (askI o.x) ans t') :
    Calls Tryz.prog 14 #[ptrV p, .agg #[.int .i64 o.x, .string o.k, .string o.s, .int .i64 o.n, .slice o.A o.m o.c]] w fun e w' => e = .returned (.int .i64 ans) ∧ After Bz (N + 1) p (if askI o.x = 15 then o.n.tmod 256 % 256 else r.n) t' w w' := by
  obtain ⟨x, k, s, q, A, m, c, l⟩ := o
  obtain ⟨hk1, hs1, hm1, hl1⟩ := hok
  dsimp only at *
  have hl2 : ∀ s ∈ l, s.size ≤ 1000000 := fun s hs => by have := hl1 s hs; omega
  obtain ⟨K, hK⟩ : ∃ K, askI x = K := ⟨_, rfl⟩
  have hK0 : 0 ≤ askI x ∧ askI x < 20 := by unfold askI; omega
  rw [hK] at hD hwas hK0 ⊢
  have fin : ∀ {an : Int} {tt : Tg} {nn : Int} {w' : World} {e : Ending}, tt.was = t.was → (e = .returned (.int .i64 an) ∧ RfOut w rb (N + 1) nn tt.cur w') → (e = .returned (.int .i64 an) ∧ After Bz (N + 1) p nn tt w w') := fun hw hh => ⟨hh.1, keep_out hp h hk hw hh.2⟩
  cases hD with
  | set => rw [if_neg (by decide)]; exact (asked_0 hp.blk h hc hbd hN hf x k s q A m c hx hn hK hk1 hs1).mono fun e w' hh => fin (hwas (by decide)) hh
  | unset => rw [if_neg (by decide)]; exact (asked_1 hp.blk h hc hbd hN hf x k s q A m c hx hn hK hk1 hs1).mono fun e w' hh => fin (hwas (by decide)) hh
  | mark =>
    rw [if_neg (by decide)]
    have hw := hwas (by decide)
    unfold oddI thirdI at hw ⊢
    by_cases h2 : q.tmod 2 = 0
    · by_cases h3 : q.tmod 3 = 0
      · rw [decide_eq_false (fun e => e h2), decide_eq_true h3] at hw ⊢
        exact (asked_21 hp.blk h hc hbd hN hf x k s q A m c hx hn hK hk1 hs1 h2 h3).mono fun e w' hh => fin hw hh
      · rw [decide_eq_false (fun e => e h2), decide_eq_false h3] at hw ⊢
        exact (asked_20 hp.blk h hc hbd hN hf x k s q A m c hx hn hK hk1 hs1 h2 h3).mono fun e w' hh => fin hw hh
    · by_cases h3 : q.tmod 3 = 0
      · rw [decide_eq_true (p := q.tmod 2 ≠ 0) h2, decide_eq_true h3] at hw ⊢
        exact (asked_23 hp.blk h hc hbd hN hf x k s q A m c hx hn hK hk1 hs1 h2 h3).mono fun e w' hh => fin hw hh
      · rw [decide_eq_true (p := q.tmod 2 ≠ 0) h2, decide_eq_false h3] at hw ⊢
        exact (asked_22 hp.blk h hc hbd hN hf x k s q A m c hx hn hK hk1 hs1 h2 h3).mono fun e w' hh => fin hw hh
  | setF => rw [if_neg (by decide)]; exact (asked_3 hp.blk h hc hbd hN hf x k s q A m c hx hn hK hk1 hs1).mono fun e w' hh => fin (hwas (by decide)) hh
  | unsetF => rw [if_neg (by decide)]; exact (asked_4 hp.blk h hc hbd hN hf x k s q A m c hx hn hK hk1 hs1).mono fun e w' hh => fin (hwas (by decide)) hh
  | setA => rw [if_neg (by decide)]; exact (asked_5 hp.blk h hc hbd hN hf x k s q A m c hx hn hK hk1 hs1).mono fun e w' hh => fin (hwas (by decide)) hh
  | unalias => rw [if_neg (by decide)]; exact (asked_6 hp.blk h hc hbd hN hf x k s q A m c hx hn hK hk1 hs1).mono fun e w' hh => fin (hwas (by decide)) hh
  | setT => rw [if_neg (by decide)]; exact (asked_7 hp.blk h hc hbd hN hf x k s q A m c hx hn hK hk1 hs1).mono fun e w' hh => fin (hwas (by decide)) hh
  | untrap => rw [if_neg (by decide)]; exact (asked_8 hp.blk h hc hbd hN hf x k s q A m c hx hn hK hk1 hs1).mono fun e w' hh => fin (hwas (by decide)) hh
  | enter ns hns =>
    rw [if_neg (by decide), (enterL_nf ns t (fun hw => by have := hroom hw; have := traps_five htr hns; omega) hns.nodup).1]
    exact (asked_9 hp.blk h hc hbd hN hf x k s q A m c hx hn hK hk1 hs1 htr hroom hns).mono fun e w' hh => fin (hwas (by decide)) hh
  | opt K' hK' =>
    rw [if_neg (by rcases hK' with rfl | rfl <;> decide)]
    have hw := hwas (by rcases hK' with rfl | rfl <;> decide)
    unfold oddI at hw ⊢
    by_cases h2 : q.tmod 2 = 0
    · rw [decide_eq_false (fun e => e h2)] at hw ⊢
      rcases hK' with rfl | rfl
      · exact (asked_10a hp.blk h hc hbd hN hf x k s q A m c hx hn hK hk1 hs1 h2).mono fun e w' hh => fin hw hh
      · exact (asked_11a hp.blk h hc hbd hN hf x k s q A m c hx hn hK hk1 hs1 h2).mono fun e w' hh => fin hw hh
    · rw [decide_eq_true (p := q.tmod 2 ≠ 0) h2] at hw ⊢
      rcases hK' with rfl | rfl
      · exact (asked_10b hp.blk h hc hbd hN hf x k s q A m c hx hn hK hk1 hs1 h2).mono fun e w' hh => fin hw hh
      · exact (asked_11b hp.blk h hc hbd hN hf x k s q A m c hx hn hK hk1 hs1 h2).mono fun e w' hh => fin hw hh
  | argsN hno => rw [if_neg (by decide)]; exact (asked_12n hp.blk h hc hbd hN hf x k s q A m c hx hn hK hk1 hs1 htx hl2 hno).mono fun e w' hh => fin rfl hh
  | args A' c' h1 h2 => rw [if_neg (by decide)]; exact (asked_12 hp.blk h hc hbd hN hf x k s q A m c hx hn hK hk1 hs1 htx hl2 h1 h2 A' c').mono fun e w' hh => fin (setg_was hf _) hh
  | shiftN hno => rw [if_neg (by decide)]; exact (asked_13n hp.blk h hc hbd hN hf x k s q A m c hx hn hK hk1 hs1 hno).mono fun e w' hh => fin rfl hh
  | shift A' c' h1 h2 => rw [if_neg (by decide)]; exact (asked_13 hp.blk h hc hbd hN hf x k s q A m c hx hn hK hk1 hs1 h1 h2 A' c').mono fun e w' hh => fin (setg_was hf _) hh
  | cursor => rw [if_neg (by decide)]; exact (asked_14 hp.blk h hc hbd hN hf x k s q A m c hx hn hK hk1 hs1 hm1).mono fun e w' hh => fin (hwas (by decide)) hh
  | status => rw [if_pos rfl]; exact (asked_15 hp.blk h hc hbd hN hf x k s q A m c hx hn hK hk1 hs1).mono fun e w' hh => fin rfl hh
  | open_ K' hK' =>
    rw [if_neg (by rcases hK' with rfl | rfl <;> decide)]
    unfold Tg.mark
    by_cases hfull : t.was.length = t.nest
    · rw [if_pos hfull]
      have hl : 20 ≤ ws.length := by rw [hk.len]; omega
      rcases hK' with rfl | rfl
      · exact (asked_16n hp h x k s q A m c hx hn hK hl).mono (by rintro e w' ⟨rfl, hb⟩; exact ⟨rfl, keep_below hp h hc hbd hk hb⟩)
      · exact (asked_17n hp h x k s q A m c hx hn hK hl).mono (by rintro e w' ⟨rfl, hb⟩; exact ⟨rfl, keep_below hp h hc hbd hk hb⟩)
    · rw [if_neg hfull]
      have hl : ws.length < 20 := by rw [hk.len]; omega
      rcases hK' with rfl | rfl
      · exact (asked_16 hp h x k s q A m c hx hn hK hl).mono (by rintro e w' ⟨rfl, hb⟩; exact ⟨rfl, keep_open hp h hc hbd hk hb⟩)
      · exact (asked_17 hp h x k s q A m c hx hn hK hl).mono (by rintro e w' ⟨rfl, hb⟩; exact ⟨rfl, keep_open hp h hc hbd hk hb⟩)
  | undo K' hK' =>
    rw [if_neg (by omega)]
    have hK2 : K = 18 ∨ K = 19 := by omega
    rcases List.eq_nil_or_concat t.was with hw | ⟨T0, qq, hw⟩
    · have hl : ws.length = 0 := by rw [hk.len, hw]; rfl
      have hu : t.undo = (1, t) := by unfold Tg.undo; rw [hw]; rfl
      rw [hu]
      rcases hK2 with rfl | rfl
      · exact (asked_18n hp h x k s q A m c hx hn hK hl).mono (by rintro e w' ⟨rfl, hb⟩; exact ⟨rfl, keep_below hp h hc hbd hk hb⟩)
      · exact (asked_19n hp h x k s q A m c hx hn hK hl).mono (by rintro e w' ⟨rfl, hb⟩; exact ⟨rfl, keep_below hp h hc hbd hk hb⟩)
    · rw [List.concat_eq_append] at hw
      rw [undo_some hw]
      rcases List.eq_nil_or_concat ws with hws | ⟨W0, Z, hws⟩
      · have := hk.len
        rw [hw, hws, List.length_append] at this
        simp at this
      · rw [List.concat_eq_append] at hws
        have hlen : W0.length = T0.length := by have := hk.len; rw [hw, hws, List.length_append, List.length_append] at this; simpa using this
        obtain ⟨rz, hZ, hcz, hbz⟩ := hk.sv W0.length Z qq (by rw [hws, List.getElem?_append_right (Nat.le_refl _), Nat.sub_self]; rfl) (by rw [hw, hlen, List.getElem?_append_right (Nat.le_refl _), Nat.sub_self]; rfl)
        have hl : ws.length ≤ 20 := by rw [hk.len]; exact hwl
        rcases hK2 with rfl | rfl
        · exact (asked_18 hp h x k s q A m c hx hn hK hws hZ hl).mono (by rintro e w' ⟨rfl, h1, h2, h3, h4⟩; exact ⟨rfl, keep_undo hp h hws hk hw hZ hcz hbz h1 h2 h3 h4⟩)
        · exact (asked_19 hp h x k s q A m c hx hn hK hws hZ hl).mono (by rintro e w' ⟨rfl, h1, h2, h3, h4⟩; exact ⟨rfl, keep_undo hp h hws hk hw hZ hcz hbz h1 h2 h3 h4⟩)
end
end Go.Proofs.YtigmdfdcflkggaaGreat
/-
  A state is kept where a variable that was put is blanked behind it. Conditions: the notes' old values are bare.
-/
set_option linter.unusedSimpArgs false
set_option linter.unusedVariables false
namespace Go.Proofs.YtigmdfdcflkggaaGreat
open Go Go.RowKit Go.ChangeMaps

section
variable {w w' w'' : World} {B sb : Nat} {a : Ad} {pot : Nat} {t : Tg} {n : Int} {S : Nat → Prop}
/-- The type of the block that is changed. -/
def VT (t : TypeId) : Prop := t = 59
def KeepV (w w' : World) : Prop := ∀ (b : Nat) cur t, Blk w b cur t → ¬ VT t → Blk w' b cur t
/-- Only blocks of such types are changed. -/
structure FrV (w w' : World) : Prop where
  os : w'.os = w.os
  tape : w'.tape = w.tape
  output : w'.output = w.output
  size : w.heap.size ≤ w'.heap.size
  keep : ∀ b, b < w.heap.size → (∀ cur t, Blk w b cur t → ¬ VT t) → w'.heap[b]? = w.heap[b]?
theorem FrV.q (h : FrV w w') : KeepV w w' := fun b cur t hb ht => (h.keep b hb.lt fun c t' hc hr => by
  have e2 := hb.symm.trans hc
  simp only [Option.some.injEq, Obj.cells.injEq] at e2
  exact ht (e2.2.1 ▸ hr)).trans hb
theorem FrV.of_stp (k : Stp S w w') (hR : ∀ b, S b → b < w.heap.size → ∃ cur T, Blk w b cur T ∧ VT T) : FrV w w' :=
  ⟨k.os, k.tape, k.output, k.size, fun b hb hn => k.block b hb fun hs => by
    obtain ⟨cur, T, h1, h2⟩ := hR b hs hb
    exact hn cur T h1 h2⟩
theorem GvAt.keepV {g : Gv} (h : GvAt w g) (k : KeepV w w') : GvAt w' g :=
  ⟨h.1, h.2.1, h.2.2.1, fun hn => by
    obtain ⟨b, off, cur, e1, e2, e3⟩ := h.2.2.2 hn
    exact ⟨b, off, cur, e1, k _ _ _ e2 (by unfold VT; decide), e3⟩⟩
theorem MN.nv {t : TypeId} (h : MN.NoteT t) : ¬ VT t := by rcases h with rfl | rfl | rfl | rfl <;> (unfold VT; decide)
theorem MW.nv {t : TypeId} (h : MW.NoteT t) : ¬ VT t := by rcases h with rfl | rfl | rfl | rfl <;> (unfold VT; decide)
theorem CS.nv {t : TypeId} (h : CS.NoteT t) : ¬ VT t := by rcases h with rfl | rfl <;> (unfold VT; decide)
theorem CG.nv {t : TypeId} (h : CG.NoteT t) : ¬ VT t := by rcases h with rfl | rfl <;> (unfold VT; decide)
theorem NoteAt.keepV {v : Value} {n : Nt} {y : Nat} {s : ByteArray} {b2 b3 : Bool} (h : NoteAt w a v n) (k : KeepV w w') (hn : ∀ key x, n = .v key (some x) → bareV x = x) (hy : Blk w y [.string s, .bool false, .bool b2, .bool b3] 59) (hS : Stp (fun b => b = y) w w') (hy' : Blk w' y [.string ⟨#[]⟩, .bool false, .bool b2, .bool b3] 59) : NoteAt w' a v n := by
  cases n with
  | v key x =>
    cases x with
    | none =>
      obtain ⟨c0, c1, c2, c3, hv, h0, h2, h3⟩ := h
      exact ⟨c0, c1, c2, c3, hv, k _ _ _ h0 (by unfold VT; decide), k _ _ _ h2 (by unfold VT; decide), k _ _ _ h3 (by unfold VT; decide)⟩
    | some x =>
      obtain ⟨c0, c1, c2, c3, hv, h0, h1, h2, h3⟩ := h
      refine ⟨c0, c1, c2, c3, hv, k _ _ _ h0 (by unfold VT; decide), ?_, k _ _ _ h2 (by unfold VT; decide), k _ _ _ h3 (by unfold VT; decide)⟩
      by_cases e : c1 = y
      · subst e
        have e2 := hy.symm.trans h1
        simp only [Option.some.injEq, Obj.cells.injEq] at e2
        have e3 := congrArg Array.toList e2.1
        have hx := hn key x rfl
        obtain ⟨xv, xs, xe, xf⟩ := x
        simp only [cellsV, List.cons.injEq, Value.string.injEq, Value.bool.injEq, and_true] at e3
        obtain ⟨rfl, rfl, rfl, rfl⟩ := e3
        have hs : s = ⟨#[]⟩ := (congrArg Vr.v hx).symm
        subst hs
        exact hy'
      · exact h1.stp hS e
  | f key x => exact MN.NoteAt.keep h fun b cur t hb ht => k b cur t hb (MN.nv ht)
  | a key x => exact MW.NoteAt.keep h fun b cur t hb ht => k b cur t hb (MW.nv ht)
  | t key x => exact MW.NoteAt.keep h fun b cur t hb ht => k b cur t hb (MW.nv ht)
  | o s => exact CS.NoteAt.keep h fun b cur t hb ht => k b cur t hb (CS.nv ht)
  | g x => exact ⟨CG.NoteAt.keep h.1 fun b cur t hb ht => k b cur t hb (CG.nv ht), h.2.keepV k⟩
/-- Old values are bare. -/
def BN (t : Tg) : Prop := ∀ k x, Nt.v k (some x) ∈ t.ns → bareV x = x
theorem FrV.cells (hS : FrV w w') {b : Nat} {cur : List Value} {T : TypeId} (hb : Blk w b cur T) (hT : ¬ VT T) : w'.heap[b]? = w.heap[b]? := (hS.q b cur T hb hT).trans hb.symm
theorem ThAt.stpV {y : Nat} {s : ByteArray} {b2 b3 : Bool} (h : ThAt w B a pot t) (hbn : BN t) (hy : Blk w y [.string s, .bool false, .bool b2, .bool b3] 59) (hSt : Stp (fun b => b = y) w w') (hy' : Blk w' y [.string ⟨#[]⟩, .bool false, .bool b2, .bool b3] 59) : ThAt w' B a pot t := by
  have hS : FrV w w' := FrV.of_stp hSt (fun b e _ => ⟨_, _, e ▸ hy, rfl⟩)
  obtain ⟨ms, fs, ev, ef, ea, et, h1, h2, h5, h6, h7, h8, h9⟩ := h
  have k := hS.q
  refine ⟨ms, fs, ev, ef, ea, et, h1.keep ⟨hS.size, fun b cur T fr hc ht => hS.keep b (Array.getElem?_eq_some_iff.1 hc).1 (fun c T' hc' hr => ?_)⟩, ?_, h5, fun i n hi => ?_, h7, h8, h9⟩
  · have e2 := hc.symm.trans hc'
    simp only [Option.some.injEq, Obj.cells.injEq] at e2
    rw [e2.2.1] at ht
    (cases hr; rcases ht with ht | ht | ht | ht <;> exact absurd ht (by decide))
  · exact {
      mv := h2.mv.keep (hS.cells h2.mv.blk (by unfold VT; decide)) (hS.keep _ h2.mv.map.lt (fun c T hc _ => h2.mv.map.no_cells hc))
      mf := h2.mf.keep (hS.cells h2.mf.blk (by unfold VT; decide)) (hS.keep _ h2.mf.map.lt (fun c T hc _ => h2.mf.map.no_cells hc))
      ma := h2.ma.keep (hS.cells h2.ma.blk (by unfold VT; decide)) (hS.keep _ h2.ma.map.lt (fun c T hc _ => h2.ma.map.no_cells hc))
      mt := h2.mt.keep (hS.cells h2.mt.blk (by unfold VT; decide)) (hS.keep _ h2.mt.map.lt (fun c T hc _ => h2.mt.map.no_cells hc))
      co := ⟨h2.co.hB, k _ _ _ h2.co.blk (by unfold VT; decide)⟩
      cg := ⟨h2.cg.hB, k _ _ _ h2.cg.blk (by unfold VT; decide)⟩
      lv := h2.lv
      lf := h2.lf
      la := h2.la
      lt := h2.lt
      ga := h2.ga.keepV k
      d := h2.d }
  · obtain ⟨v, hv, hn⟩ := h6 i n hi
    exact ⟨v, hv, hn.keepV k (fun key x e => hbn key x (e ▸ List.mem_of_getElem? hi)) hy hSt hy'⟩
theorem StAt.blank {y : Nat} {s : ByteArray} {b2 b3 : Bool} (h : StAt w B sb a pot t n) (hbn : BN t) (hy : Blk w y [.string s, .bool false, .bool b2, .bool b3] 59) (hSt : Stp (fun b => b = y) w w') (hy' : Blk w' y [.string ⟨#[]⟩, .bool false, .bool b2, .bool b3] 59) : StAt w' B sb a pot t n :=
  ⟨(FrV.of_stp hSt (fun b e _ => ⟨_, _, e ▸ hy, rfl⟩)).q _ _ _ h.blk (by unfold VT; decide), h.th.stpV hbn hy hSt hy', h.hB⟩
end
end Go.Proofs.YtigmdfdcflkggaaGreat
