/-
  get out of memory: bytes are copied out, and the memory goes when it is through. Conditions: bytes are left there; numbers of the size of a pool's.
-/
import Derived.Test.YtbjakhiflgjflaaGreatDoorSpPut1
namespace Go.Proofs.YtbjakhiflgjflaaGreatDoor
open Go Go.RowKit

theorem step_copy_of {P : Program} {ops : Array Oper} {o : Oper} {a : Act} {w : World} {K : Act → World → Prop} {Q : Exit → Act → World → Prop} {E : Prop} (hgd : o.guard = none) (s x : Operand) (t tx : TypeId)
    (ho : o.op = .call { callee := .builtin .copy, args := #[s, x], argTypes := #[t, tx] }) (v y r : Value) (w1 : World) (hs : a.eval s = v) (hx : a.eval x = y)
    (hrun : (Builtin.copy_ #[t, tx] o.type #[v, y]).run P w = .ok r w1) (h : K (a.put o.dst r) w1) :
    if Region.wanted o (yielded ops a.tmps) = true then Oper.wp P o a w K Q else E := by
  have hw : Region.wanted o (yielded ops a.tmps) = true := by simp [Region.wanted, hgd]
  rw [if_pos hw]
  unfold Oper.wp execOp
  simp only [ho, resolve, invoke, builtin, Sem.run_bind, Sem.run_pure, Result.andThen_ok, List.map_toArray, List.map_cons, List.map_nil, hs, hx, hrun]
  exact h

theorem step_copy_ex {P : Program} {ops : Array Oper} {o : Oper} {a : Act} {w : World} {K : Act → World → Prop} {Q : Exit → Act → World → Prop} {E : Prop} (hgd : o.guard = none) (s x : Operand) (t tx : TypeId)
    (ho : o.op = .call { callee := .builtin .copy, args := #[s, x], argTypes := #[t, tx] }) (v y r : Value) (R : World → Prop) (hs : a.eval s = v) (hx : a.eval x = y)
    (hrun : ∃ w1, (Builtin.copy_ #[t, tx] o.type #[v, y]).run P w = .ok r w1 ∧ R w1) (h : ∀ w1, R w1 → K (a.put o.dst r) w1) :
    if Region.wanted o (yielded ops a.tmps) = true then Oper.wp P o a w K Q else E := by
  obtain ⟨w1, h1, h2⟩ := hrun
  exact step_copy_of hgd s x t tx ho v y r w1 hs hx h1 (h w1 h2)

/-- Bytes are copied out of a stretch, from a place on, into a block. -/
theorem run_copy_stretch {P : Program} (W : World) (ty : TypeId) (hu : P.underlying 134 = some (.slice 5)) (hs : (P.info? 5).map (·.size) = some 1) (B og a dl dc g off c k N : Nat) (cur : List Value) (bs : List UInt8)
    (ho : Blk W og cur 5) (hfit : a + N ≤ cur.length) (hr : Row W B 5 (.slice (some ⟨g, off, none⟩) bs.length c) bs.length (bc bs)) (hN : N = min (bs.length - k) dl) :
    (Builtin.copy_ #[134, 134] ty #[.slice (some ⟨og, a, none⟩) dl dc, .slice (some ⟨g, off + k, none⟩) (bs.length - k) (c - k)]).run P W =
      .ok (goInt N) (W.setRow og (cur.take a ++ bc ((bs.drop k).take N) ++ cur.drop (a + N)).toArray) := by
  have hl : (bc ((bs.drop k).take N)).length = N := by rw [bc_len, List.length_take, List.length_drop]; omega
  have := run_copy_row P W 134 134 ty 5 og a dl dc ⟨g, off + k, none⟩ (bs.length - k) (c - k) cur.toArray 5 (bc ((bs.drop k).take N)) hu hs ho (by rw [hl, hN]) (fun j v hv => by
    rw [add_plain0, Nat.add_assoc]
    refine hr.cell ?_
    rw [bc_take, bc_drop, List.getElem?_take] at hv
    split at hv
    · rw [List.getElem?_drop] at hv; exact hv
    · cases hv) (by rw [hl]; simpa using hfit) (bc_one _)
  rw [hl] at this
  simpa using this

set_option maxHeartbeats 2000000 in
set_option maxRecDepth 100000 in
theorem get_mem (B pb bb gone len og a dl dc N K : Nat) (p : Ps) (S m c : Value) (bs : List UInt8) (cur : List Value) (w : World) (hp : Blk w pb (p.cells S) 140) (hb : Blk w bb (bufC pb gone len m c) 232) (hne : pb ≠ bb) (hBb : B ≤ bb)
    (hK : bs.length = K) (hr : Row w B 5 m K (bc bs)) (hg : gone < K) (hgm : K ≤ p.mem) (ho : Blk w og cur 5) (hBo : B ≤ og) (hob : og ≠ bb ∧ og ≠ pb ∧ m.ownBlock ≠ some og) (hmb : ∀ g, m.ownBlock = some g → g ≠ bb) (hfit : a + dl ≤ cur.length)
    (hN : N = min (K - gone) dl) :
    Calls Tryz.prog 280 #[.pointer (some ⟨bb, 0, none⟩), .slice (some ⟨og, a, none⟩) dl dc] w fun e w' => ∃ m', e = .returned (.int .i64 (N : Int)) ∧ Blk w' bb (bufC pb (gone + N) len m' c) 232 ∧
      (gone + N < p.mem → m' = m ∧ Row w' B 5 m K (bc bs)) ∧ Blk w' og (cur.take a ++ bc ((bs.drop gone).take N) ++ cur.drop (a + N)) 5 ∧ Mv B (fun b => b = bb ∨ b = og) w w' := by
  have c0 := hb.cell (show (bufC pb gone len m c)[0]? = some _ from rfl)
  have c1 := hb.cell (show (bufC pb gone len m c)[1]? = some _ from rfl)
  have c3 := hb.cell (show (bufC pb gone len m c)[3]? = some _ from rfl)
  have d1 := hp.cell (show (p.cells S)[1]? = some _ from rfl)
  obtain ⟨M, hM⟩ : ∃ M, p.mem = M := ⟨_, rfl⟩
  rw [hM] at d1 hgm ⊢
  replace hM := Lib.hid hM
  have hpl := hp.lt
  have hbl := hb.lt
  obtain ⟨g, off, cap, rfl, hcc, hcm, hBg⟩ := hr.form1 (by omega)
  have hNd : N ≤ dl := by omega
  have hNK : gone + N ≤ K := by omega
  have hcopy := fun W ty (h0 : W.heap = w.heap) (h01 : W.os = w.os) (h02 : W.tape = w.tape) (h03 : W.output = w.output) =>
    show ∃ w1, (Builtin.copy_ #[134, 134] ty #[.slice (some ⟨og, a, none⟩) dl dc, .slice (some ⟨g, off + gone, none⟩) (K - gone) (cap - gone)]).run Tryz.prog W = .ok (.int .i64 (N : Int)) w1 ∧ (fun w1 : World => Blk w1 og (cur.take a ++ bc ((bs.drop gone).take N) ++ cur.drop (a + N)) 5 ∧
      Blk w1 bb (bufC pb gone len (.slice (some ⟨g, off, none⟩) K cap) c) 232 ∧ Blk w1 pb (p.cells S) 140 ∧ Row w1 B 5 (.slice (some ⟨g, off, none⟩) K cap) K (bc bs) ∧ Mv B (fun b => b = bb ∨ b = og) w w1) w1 from by
    have hoW : Blk W og cur 5 := by unfold Blk; rw [h0]; exact ho
    have hrW : Row W B 5 (.slice (some ⟨g, off, none⟩) K cap) K (bc bs) := hr.keep fun g' _ => by rw [h0]
    have hbW : Blk W bb _ _ := show W.heap[bb]? = _ by rw [h0]; exact hb
    have hpW : Blk W pb _ _ := show W.heap[pb]? = _ by rw [h0]; exact hp
    have hmW : Mv B (fun b => b = bb ∨ b = og) w W := ⟨h01, h02, h03, by rw [h0]; exact Nat.le_refl _, fun b _ _ => by rw [h0], fun b _ _ => by rw [h0]⟩
    have hrun := run_copy_stretch (P := Tryz.prog) W ty Tryz.underlying134 (by kernel_rfl) B og a dl dc g off cap gone N cur bs hoW (by omega) (by rw [hK]; exact hrW) (by rw [hK]; exact hN)
    rw [hK] at hrun
    refine ⟨_, hrun, hoW.row _, (setRow_other W og bb _ (fun h => hob.1 h.symm)).trans hbW, (setRow_other W og pb _ (fun h => hob.2.1 h.symm)).trans hpW, hrW.keep fun g' hg' => setRow_other W og g' _ (fun h => hob.2.2 (by rw [hg', h])), hmW.trans (Mv.row (S := fun b => b = bb ∨ b = og) hoW (.inr rfl) four_byte hBo _)⟩
  replace hp := Lib.hid hp
  replace hb := Lib.hid hb
  replace hr := Lib.hid hr
  replace hN := Lib.hid hN
  replace hK := Lib.hid hK
  replace ho := Lib.hid ho
  replace hob := Lib.hid hob
  unfold maxLen at hcm
  have hi0 : (0 : Int) ≤ (gone : Int) := by omega
  have hi1 : (gone : Int) ≤ (K : Int) := by omega
  have hi2 : ¬ cap = gone := by omega
  have hlt : (gone : Int) < (M : Int) := by omega
  go_enter Tryz.func280, Tryz.ntmps280
  go_upto_region 2 with fail
  go_quiet (fail)
  go_wp2_with fail
  go_region_held3 (fun w' => w'.cell? ⟨bb, 3, none⟩ = some (.slice (some ⟨g, off, none⟩) K cap) ∧ w'.cell? ⟨bb, 1, none⟩ = some (.int .i64 (gone : Int)))
    (first
      | go_keep
      | exact hk)
    ((refine step_copy_ex rfl _ _ 134 134 rfl _ _ _ _ rfl rfl (hcopy _ _ rfl rfl rfl rfl) ?_; rintro w1 ⟨ho1, hb1, hp1, hr1, m1⟩; have hk : w1.cell? ⟨bb, 3, none⟩ = some (.slice (some ⟨g, off, none⟩) K cap) ∧ w1.cell? ⟨bb, 1, none⟩ = some (.int .i64 (gone : Int)) := ⟨hb1.cell rfl, hb1.cell rfl⟩))
  clear c0 c1 c3 d1 hcopy hk
  have c1 := hb1.cell (show (bufC pb gone len (.slice (some ⟨g, off, none⟩) K cap) c)[1]? = some _ from rfl)
  have f1 := hb1.frozen 1
  have hbl1 := hb1.lt
  replace ho1 := Lib.hid ho1
  replace hb1 := Lib.hid hb1
  replace hp1 := Lib.hid hp1
  replace hr1 := Lib.hid hr1
  replace m1 := Lib.hid m1
  go_upto_region 5 with fail
  have eN : ((gone : Int) + (N : Int)) = ((gone + N : Nat) : Int) := rfl
  have hb2 := hb1.out.set 1 (.int .i64 ((gone + N : Nat) : Int))
  have e2 : (bufC pb gone len (.slice (some ⟨g, off, none⟩) K cap) c).set 1 (.int .i64 ((gone + N : Nat) : Int)) = bufC pb (gone + N) len (.slice (some ⟨g, off, none⟩) K cap) c := rfl
  rw [e2] at hb2
  rw [eN]
  have hp2 := hp1.out.other (a := ⟨bb, 1, none⟩) hne (.int .i64 ((gone + N : Nat) : Int))
  have ho2 := ho1.out.other (a := ⟨bb, 1, none⟩) hob.out.1 (.int .i64 ((gone + N : Nat) : Int))
  have hr2 : Row (w1.setCell ⟨bb, 1, none⟩ (.int .i64 ((gone + N : Nat) : Int))) B 5 (.slice (some ⟨g, off, none⟩) K cap) K (bc bs) := hr1.out.keep fun g' hg' => heap_setCell_other w1 _ g' _ (hmb g' hg')
  have m2 := m1.out.trans (Mv.set (S := fun b => b = bb ∨ b = og) hb1.out (.inl rfl) four_buf hBb 1 (.int .i64 ((gone + N : Nat) : Int)))
  generalize w1.setCell ⟨bb, 1, none⟩ (.int .i64 ((gone + N : Nat) : Int)) = w2 at hb2 hp2 ho2 hr2 m2 ⊢
  obtain ⟨G, hG⟩ : ∃ G, gone + N = G := ⟨_, rfl⟩
  rw [hG] at hb2 hNK ⊢
  clear c1 f1 eN e2
  have c1 := hb2.cell (show (bufC pb G len (.slice (some ⟨g, off, none⟩) K cap) c)[1]? = some _ from rfl)
  have f3 := hb2.frozen 3
  have c3 := hb2.cell (show (bufC pb G len (.slice (some ⟨g, off, none⟩) K cap) c)[3]? = some _ from rfl)
  have d1 := hp2.cell (show (p.cells S)[1]? = some _ from rfl)
  simp only [hM.out] at d1
  have hbl2 := hb2.lt
  replace ho2 := Lib.hid ho2
  replace hb2 := Lib.hid hb2
  replace hp2 := Lib.hid hp2
  replace hr2 := Lib.hid hr2
  replace m2 := Lib.hid m2
  replace hG := Lib.hid hG
  by_cases hGM : G = M
  · have hq : ((G : Int) == (M : Int)) = true := by rw [hGM]; simp
    replace hGM := Lib.hid hGM
    go_quiet (fail)
    go_wp2
    go_ret
    have hb3 := hb2.out.set 3 (.slice none 0 0)
    have m3 := m2.out.trans (Mv.set (S := fun b => b = bb ∨ b = og) hb2.out (.inl rfl) four_buf hBb 3 (.slice none 0 0))
    refine ⟨.slice none 0 0, rfl, ?_, fun h => ?_, ?_, ⟨m3.os, m3.tape, m3.output, m3.size, m3.block, m3.keep⟩⟩
    · rw [hG.out]; exact hb3
    · have := hG.out; have := hGM.out; omega
    · exact ho2.out.other (a := ⟨bb, 3, none⟩) hob.out.1 _
  · have hq : ((G : Int) == (M : Int)) = false := by simp; omega
    go_quiet (fail)
    go_wp2
    go_ret
    have hm := m2.out
    exact ⟨_, rfl, by rw [hG.out]; exact hb2.out, fun _ => ⟨rfl, hr2.out⟩, ho2.out, ⟨hm.os, hm.tape, hm.output, hm.size, hm.block, hm.keep⟩⟩
end Go.Proofs.YtbjakhiflgjflaaGreatDoor
