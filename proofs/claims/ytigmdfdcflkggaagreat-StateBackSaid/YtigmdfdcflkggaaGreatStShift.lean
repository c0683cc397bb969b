/-
  Shift of a state. Conditions: none.
-/
import Derived.Test.YtigmdfdcflkggaaGreatStAlias
namespace Go.Proofs.YtigmdfdcflkggaaGreat
open Go Go.RowKit Go.ChangeMaps

section
variable {w w' : World} {B sb : Nat} {a : Ad} {pot : Nat} {t : Tg} {n : Int}
set_option maxRecDepth 100000 in
set_option maxHeartbeats 4000000 in
theorem Shift_no (h : StAt w B sb a pot t n) (p : Int) (hp : p < 0 ∨ (t.cur.g.n : Int) < p) :
    Calls Tryz.prog 33 #[ptrV sb, .int .i64 p] w fun e w' => e = .returned (.int .i64 1) ∧ Below w.heap.size w w' := by
  have hi := sisNil_no h.blk
  have hg := th_getg h.th
  have c5 := h.blk.cell (i := 5) rfl
  have hlt := h.blk.lt
  generalize t.cur.g = g at hg hp
  obtain ⟨A, m, c, x, y, l⟩ := g
  dsimp only at hg hp
  unfold ptrV at hi hg c5 ⊢
  clear h
  by_cases h0 : p < 0
  · clear hp
    go_enter Tryz.func33, Tryz.ntmps33
    go_wp2_with fail
    refine hi.mono ?_
    rintro e w' ⟨rfl, hw⟩
    obtain rfl := hw.symm
    clear hi hw
    go_wp2_with fail
    refine hg.mono ?_
    rintro e w2 ⟨rfl, hb2⟩
    have hfin := Lib.hid (hb2.alloc hb2.size (.cells #[.slice A m c, .int .i64 x, .int .i64 y] 103))
    clear hg hb2 c5 hlt
    go_wp2
    go_ret
    exact ⟨rfl, hfin.out⟩
  · have hm := hp.resolve_left h0
    clear hp
    go_enter Tryz.func33, Tryz.ntmps33
    go_wp2_with fail
    refine hi.mono ?_
    rintro e w' ⟨rfl, hw⟩
    obtain rfl := hw.symm
    clear hi hw
    go_wp2_with fail
    refine hg.mono ?_
    rintro e w2 ⟨rfl, hb2⟩
    have hfin := Lib.hid (hb2.alloc hb2.size (.cells #[.slice A m c, .int .i64 x, .int .i64 y] 103))
    have bC : Blk (w2.alloc (.cells #[.slice A m c, .int .i64 x, .int .i64 y] 103)) w2.heap.size [.slice A m c, .int .i64 x, .int .i64 y] 103 := Blk.new w2 _ _
    have e0 := bC.cell (i := 0) rfl
    have lz := bC.lt
    clear hg hb2 c5 hlt
    go_wp2
    go_ret
    exact ⟨rfl, hfin.out⟩
theorem GvAt.drop {A : Option Addr} {m c k : Nat} {x y : Int} {l : List ByteArray} (h : GvAt w ⟨A, m, c, x, y, l⟩) (hk : k ≤ m) : GvAt w ⟨if c = k then A else Option.map (fun x => x.add k) A, m - k, c - k, x, y, l.drop k⟩ := by
  obtain ⟨h1, h2, h3, h4⟩ := h
  dsimp only at h1 h2 h3 h4
  refine ⟨by dsimp only; rw [List.length_drop, h1], by dsimp only; omega, by dsimp only; omega, fun hn => ?_⟩
  dsimp only at hn ⊢
  obtain ⟨b, off, cur, e1, e2, e3⟩ := h4 (by omega)
  subst e1
  refine ⟨b, off + k, cur, ?_, e2, fun j s hs => ?_⟩
  · rw [if_neg (by omega), Option.map_some, add_plain0]
  · rw [List.getElem?_drop] at hs
    rw [Nat.add_assoc]
    exact e3 _ _ hs
set_option maxRecDepth 100000 in
set_option maxHeartbeats 4000000 in
theorem Shift_ok (h : StAt w B sb a pot t n) (p : Int) (h0 : ¬ p < 0) (hm : ¬ (t.cur.g.n : Int) < p) :
    Calls Tryz.prog 33 #[ptrV sb, .int .i64 p] w fun e w' => ∃ A' c', e = .returned (.int .i64 (t.setg ⟨A', t.cur.g.n - p.toNat, c', t.cur.g.a, t.cur.g.i, t.cur.g.l.drop p.toNat⟩).1) ∧ StAt w' B sb a (pot + 2) (t.setg ⟨A', t.cur.g.n - p.toNat, c', t.cur.g.a, t.cur.g.i, t.cur.g.l.drop p.toNat⟩).2 n ∧ FrT B a w w' := by
  have hi := sisNil_no h.blk
  have hg := th_getg h.th
  have hst := fun (W : World) (hb : Below w.heap.size w W) => h.below hb
  have hset := fun (W : World) (hb : Below w.heap.size w W) (g : Gv) (hg : GvAt W g) => th_setg (h.below hb).th g hg
  have hgv := fun (W : World) (hb : Below w.heap.size w W) => (h.below hb).gv
  have hgw := h.gv
  have c5 := h.blk.cell (i := 5) rfl
  have hlt := h.blk.lt
  generalize t.cur.g = g at hg hm hgv hgw ⊢
  obtain ⟨A, m, c, x, y, l⟩ := g
  dsimp only at hg hm ⊢
  obtain ⟨k, rfl⟩ : ∃ k : Nat, p = (k : Int) := ⟨p.toNat, by omega⟩
  have hkm : k ≤ m := by omega
  have hmc : m ≤ c := hgw.2.1
  have hcm : c ≤ 2 ^ 63 - 1 := hgw.2.2.1
  unfold ptrV at hi hg c5 hset ⊢
  replace hset := Lib.hid hset
  replace hst := Lib.hid hst
  replace hgv := Lib.hid hgv
  clear h hgw
  go_enter Tryz.func33, Tryz.ntmps33
  go_wp2_with fail
  refine hi.mono ?_
  rintro e w' ⟨rfl, hw⟩
  obtain rfl := hw.symm
  clear hi hw
  go_wp2_with fail
  refine hg.mono ?_
  rintro e w2 ⟨rfl, hb2⟩
  obtain ⟨z, hz⟩ : ∃ z, w2.heap.size = z := ⟨_, rfl⟩
  have bC : Blk (w2.alloc (.cells #[.slice A m c, .int .i64 x, .int .i64 y] 103)) z [.slice A m c, .int .i64 x, .int .i64 y] 103 := by rw [← hz]; exact Blk.new w2 _ _
  have hbC := hb2.alloc hb2.size (.cells #[.slice A m c, .int .i64 x, .int .i64 y] 103)
  have hzs : w.heap.size ≤ z := by rw [← hz]; exact hb2.size
  clear hg hb2 c5 hlt
  go_upto_region 4 with fail
  try rw [hz]
  generalize (w2.alloc (.cells #[.slice A m c, .int .i64 x, .int .i64 y] 103)) = w3 at bC hbC ⊢
  have e0 := bC.cell (i := 0) rfl
  have f0 := bC.frozen 0
  have lz := bC.lt
  have hG := fun (W : World) (hb : Below w.heap.size w W) => (hgv.out W hb).drop hkm
  obtain ⟨A', hA'⟩ : ∃ A', (if c = k then A else Option.map (fun x => x.add k) A) = A' := ⟨_, rfl⟩
  rw [hA'] at hG
  replace hG := Lib.hid hG
  have bD : Blk (w3.setCell ⟨z, 0, none⟩ (.slice A' (m - k) (c - k))) z [.slice A' (m - k) (c - k), .int .i64 x, .int .i64 y] 103 := bC.set 0 _
  have hbD : Below w.heap.size w (w3.setCell ⟨z, 0, none⟩ (.slice A' (m - k) (c - k))) := hbC.setCell hzs _
  replace bD := Lib.hid bD
  replace hbD := Lib.hid hbD
  replace hA' := Lib.hid hA'
  clear bC hbC
  go_upto_region 7 with fail
  rw [hA'.out]
  generalize (w3.setCell ⟨z, 0, none⟩ (.slice A' (m - k) (c - k))) = w4 at bD hbD ⊢
  clear e0 f0 lz
  have d0 := bD.out.cell (i := 0) rfl
  have d1 := bD.out.cell (i := 1) rfl
  have d2 := bD.out.cell (i := 2) rfl
  have lz := bD.out.lt
  have hbE := Lib.hid (drewB hbD.out 1)
  have hS4 := hst.out w4 hbD.out
  have c5 : w4.cell? ⟨sb, 5, none⟩ = some (.pointer (some ⟨a.g, 0, none⟩)) := hS4.blk.cell (i := 5) rfl
  have hlt := hS4.blk.lt
  have hk0 : w4.drew.cell? ⟨sb, 5, none⟩ = some (.pointer (some ⟨a.g, 0, none⟩)) ∧ w4.drew.cell? ⟨z, 0, none⟩ = some (.slice A' (m - k) (c - k)) ∧ w4.drew.cell? ⟨z, 1, none⟩ = some (.int .i64 x) ∧ w4.drew.cell? ⟨z, 2, none⟩ = some (.int .i64 y) := ⟨c5, d0, d1, d2⟩
  have hs := Lib.hid (hset.out _ hbE.out ⟨A', m - k, c - k, x, y, l.drop k⟩ (hG.out _ hbE.out))
  have hSE := Lib.hid (hst.out _ hbE.out)
  clear hS4
  go_region_held3 (fun w' => w'.cell? ⟨sb, 5, none⟩ = some (.pointer (some ⟨a.g, 0, none⟩)) ∧ w'.cell? ⟨z, 0, none⟩ = some (.slice A' (m - k) (c - k)) ∧ w'.cell? ⟨z, 1, none⟩ = some (.int .i64 x) ∧ w'.cell? ⟨z, 2, none⟩ = some (.int .i64 y))
    (first | go_keep | exact hk0 | exact hk1)
    ((go_at_call 96; refine hs.out.mono ?_; rintro e w5 ⟨rfl, q1, q2⟩; have hS5 := hSE.out.next q1 q2; have k5 : Blk w5 z _ _ := hSE.out.th.keepB q2 _ _ _ (show Blk (w4.drewN 1) z _ _ from bD.out) (nPk (by decide)); have hk1 : w5.cell? ⟨sb, 5, none⟩ = some (.pointer (some ⟨a.g, 0, none⟩)) ∧ w5.cell? ⟨z, 0, none⟩ = some (.slice A' (m - k) (c - k)) ∧ w5.cell? ⟨z, 1, none⟩ = some (.int .i64 x) ∧ w5.cell? ⟨z, 2, none⟩ = some (.int .i64 y) := ⟨hS5.blk.cell (i := 5) rfl, k5.cell (i := 0) rfl, k5.cell (i := 1) rfl, k5.cell (i := 2) rfl⟩; clear k5; replace hS5 := Lib.hid hS5; replace q2 := Lib.hid ((FrT.of_below hbE.out).trans q2); clear q1))
  clear hs hk0 hk1 hlt d0 d1 d2 lz c5
  go_wp2
  go_ret
  rw [Int.toNat_natCast]
  exact ⟨A', c - k, rfl, hS5.out, q2.out⟩
end
end Go.Proofs.YtigmdfdcflkggaaGreat
