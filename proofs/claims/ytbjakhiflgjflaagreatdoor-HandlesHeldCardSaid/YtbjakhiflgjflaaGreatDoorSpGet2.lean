/-
  get out of the first chunk: bytes are copied out; a chunk that is through is left. Conditions: bytes are left there; numbers of the size of a pool's.
-/
import Derived.Test.YtbjakhiflgjflaaGreatDoorSpGet1
namespace Go.Proofs.YtbjakhiflgjflaaGreatDoor
open Go Go.RowKit

set_option maxHeartbeats 4000000 in
set_option maxRecDepth 100000 in
theorem get_chunk_stay (B pb bb gone len og a dl dc N K n r r2 D D2 : Nat) (p : Ps) (S m c v : Value) (rest : List Value) (bs : List UInt8) (cur : List Value) (w : World) (hp : Blk w pb (p.cells S) 140) (hb : Blk w bb (bufC pb gone len m c) 232) (hne : pb ≠ bb) (hBb : B ≤ bb)
    (hc : Row w B 134 c (n + 1) (v :: rest)) (hcb : ∀ g, c.ownBlock = some g → g ≠ bb ∧ g ≠ pb ∧ g ≠ og) (hK : bs.length = K) (hr : Row w B 5 v K (bc bs)) (hg : r < K) (hC0 : 0 < p.ch) (hmost : p.mem ≤ 65536 ∧ p.ch ≤ 65536) (hgl : gone + K ≤ 100000000)
    (hD : (gone : Int) - (p.mem : Int) = (D : Int)) (hrem : (D : Int).tmod (p.ch : Int) = (r : Int)) (hD2 : ((gone + N : Nat) : Int) - (p.mem : Int) = (D2 : Int)) (hrem2 : (D2 : Int).tmod (p.ch : Int) = (r2 : Int)) (hr2 : 0 < r2)
    (ho : Blk w og cur 5) (hBo : B ≤ og) (hob : og ≠ bb ∧ og ≠ pb ∧ v.ownBlock ≠ some og) (hfit : a + dl ≤ cur.length) (hN : N = min (K - r) dl) :
    Calls Tryz.prog 280 #[.pointer (some ⟨bb, 0, none⟩), .slice (some ⟨og, a, none⟩) dl dc] w fun e w' => e = .returned (.int .i64 (N : Int)) ∧ Blk w' bb (bufC pb (gone + N) len m c) 232 ∧ Blk w' og (cur.take a ++ bc ((bs.drop r).take N) ++ cur.drop (a + N)) 5 ∧ Mv B (fun b => b = bb ∨ b = og) w w' := by
  have c0 := hb.cell (show (bufC pb gone len m c)[0]? = some _ from rfl)
  have c1 := hb.cell (show (bufC pb gone len m c)[1]? = some _ from rfl)
  have c4 := hb.cell (show (bufC pb gone len m c)[4]? = some _ from rfl)
  have d1 := hp.cell (show (p.cells S)[1]? = some _ from rfl)
  have d2 := hp.cell (show (p.cells S)[2]? = some _ from rfl)
  obtain ⟨M, hM⟩ : ∃ M, p.mem = M := ⟨_, rfl⟩
  obtain ⟨C, hC⟩ : ∃ C, p.ch = C := ⟨_, rfl⟩
  rw [hM] at d1 hD hD2 hmost
  rw [hC] at d2 hrem hrem2 hC0 hmost
  replace hM := Lib.hid hM
  replace hC := Lib.hid hC
  have hpl := hp.lt
  have hbl := hb.lt
  obtain ⟨cg, co, cc, rfl, hcc, hcm, hBc⟩ := hc.form1 (Nat.succ_pos _)
  obtain ⟨hcg1, hcg2, hcg3⟩ := hcb cg rfl
  have v0 := hc.cell (j := 0) (u := v) rfl
  rw [Nat.add_zero] at v0
  obtain ⟨g, off, cap, rfl, hvc, hvm, hBg⟩ := hr.form1 (by omega)
  have hNd : N ≤ dl := by omega
  have hNK : r + N ≤ K := by omega
  have hcopy := fun W ty (h0 : W.heap = w.heap) (h01 : W.os = w.os) (h02 : W.tape = w.tape) (h03 : W.output = w.output) =>
    show ∃ w1, (Builtin.copy_ #[134, 134] ty #[.slice (some ⟨og, a, none⟩) dl dc, .slice (some ⟨g, off + r, none⟩) (K - r) (cap - r)]).run Tryz.prog W = .ok (.int .i64 (N : Int)) w1 ∧ (fun w1 : World => Blk w1 og (cur.take a ++ bc ((bs.drop r).take N) ++ cur.drop (a + N)) 5 ∧
      Blk w1 bb (bufC pb gone len m (.slice (some ⟨cg, co, none⟩) (n + 1) cc)) 232 ∧ Blk w1 pb (p.cells S) 140 ∧ Row w1 B 134 (.slice (some ⟨cg, co, none⟩) (n + 1) cc) (n + 1) (.slice (some ⟨g, off, none⟩) K cap :: rest) ∧ Mv B (fun b => b = bb ∨ b = og) w w1) w1 from by
    have hoW : Blk W og cur 5 := by unfold Blk; rw [h0]; exact ho
    have hrW : Row W B 5 (.slice (some ⟨g, off, none⟩) K cap) K (bc bs) := hr.keep fun g' _ => by rw [h0]
    have hcW : Row W B 134 (.slice (some ⟨cg, co, none⟩) (n + 1) cc) (n + 1) (.slice (some ⟨g, off, none⟩) K cap :: rest) := hc.keep fun g' _ => by rw [h0]
    have hbW : Blk W bb _ _ := show W.heap[bb]? = _ by rw [h0]; exact hb
    have hpW : Blk W pb _ _ := show W.heap[pb]? = _ by rw [h0]; exact hp
    have hmW : Mv B (fun b => b = bb ∨ b = og) w W := ⟨h01, h02, h03, by rw [h0]; exact Nat.le_refl _, fun b _ _ => by rw [h0], fun b _ _ => by rw [h0]⟩
    have hrun := run_copy_stretch (P := Tryz.prog) W ty Tryz.underlying134 (by kernel_rfl) B og a dl dc g off cap r N cur bs hoW (by omega) (by rw [hK]; exact hrW) (by rw [hK]; exact hN)
    rw [hK] at hrun
    refine ⟨_, hrun, hoW.row _, (setRow_other W og bb _ (fun h => hob.1 h.symm)).trans hbW, (setRow_other W og pb _ (fun h => hob.2.1 h.symm)).trans hpW, hcW.keep fun g' hg' => setRow_other W og g' _ (hcb g' hg').2.2, hmW.trans (Mv.row (S := fun b => b = bb ∨ b = og) hoW (.inr rfl) four_byte hBo _)⟩
  replace hp := Lib.hid hp
  replace hb := Lib.hid hb
  replace hc := Lib.hid hc
  replace hr := Lib.hid hr
  replace hN := Lib.hid hN
  replace hK := Lib.hid hK
  replace ho := Lib.hid ho
  replace hob := Lib.hid hob
  replace hcb := Lib.hid hcb
  unfold maxLen at hcm hvm
  have hi0 : (0 : Int) ≤ (r : Int) := by omega
  have hi1 : (r : Int) ≤ (K : Int) := by omega
  have hi2 : ¬ cap = r := by omega
  have hn0 : (0 : Int) ≤ (n : Int) := by omega
  have hn1 : (0 : Int) < (n : Int) + 1 := by omega
  have hlt : ¬ (gone : Int) < (M : Int) := by omega
  have hC1 : C ≠ 0 := by omega
  have hwD : IntKind.i64.wrap (D : Int) = (D : Int) := by rw [IntKind.wrap_i64]; omega
  have hwD2 : IntKind.i64.wrap (D2 : Int) = (D2 : Int) := by rw [IntKind.wrap_i64]; omega
  go_enter Tryz.func280, Tryz.ntmps280
  go_upto_region 2 with fail
  go_quiet (fail)
  go_wp2_with fail
  go_region_held3 (fun w' => w'.cell? ⟨bb, 4, none⟩ = some (.slice (some ⟨cg, co, none⟩) (n + 1) cc) ∧ w'.cell? ⟨cg, co, none⟩ = some (.slice (some ⟨g, off, none⟩) K cap) ∧ w'.cell? ⟨bb, 1, none⟩ = some (.int .i64 (gone : Int)) ∧ w'.cell? ⟨pb, 1, none⟩ = some (.int .i64 (M : Int)) ∧ w'.cell? ⟨pb, 2, none⟩ = some (.int .i64 (C : Int)))
    (first | go_keep | exact hk)
    ((refine step_copy_ex rfl _ _ 134 134 rfl _ _ _ _ rfl rfl (hcopy _ _ rfl rfl rfl rfl) ?_; rintro w1 ⟨ho1, hb1, hp1, hc1, m1⟩; have hk : w1.cell? ⟨bb, 4, none⟩ = some (.slice (some ⟨cg, co, none⟩) (n + 1) cc) ∧ w1.cell? ⟨cg, co, none⟩ = some (.slice (some ⟨g, off, none⟩) K cap) ∧ w1.cell? ⟨bb, 1, none⟩ = some (.int .i64 (gone : Int)) ∧ w1.cell? ⟨pb, 1, none⟩ = some (.int .i64 (M : Int)) ∧ w1.cell? ⟨pb, 2, none⟩ = some (.int .i64 (C : Int)) :=
      ⟨hb1.cell rfl, hc1.cell (j := 0) rfl, hb1.cell rfl, by rw [← hM.out]; exact hp1.cell rfl, by rw [← hC.out]; exact hp1.cell rfl⟩))
  clear c0 c1 c4 d1 d2 hcopy hk v0
  have c1 := hb1.cell (show (bufC pb gone len m (.slice (some ⟨cg, co, none⟩) (n + 1) cc))[1]? = some _ from rfl)
  have f1 := hb1.frozen 1
  have hbl1 := hb1.lt
  replace ho1 := Lib.hid ho1
  replace hb1 := Lib.hid hb1
  replace hp1 := Lib.hid hp1
  replace hc1 := Lib.hid hc1
  replace m1 := Lib.hid m1
  go_upto_region 10 with fail
  have eN : ((gone : Int) + (N : Int)) = ((gone + N : Nat) : Int) := rfl
  have hb2 := hb1.out.set 1 (.int .i64 ((gone + N : Nat) : Int))
  have e2 : (bufC pb gone len m (.slice (some ⟨cg, co, none⟩) (n + 1) cc)).set 1 (.int .i64 ((gone + N : Nat) : Int)) = bufC pb (gone + N) len m (.slice (some ⟨cg, co, none⟩) (n + 1) cc) := rfl
  rw [e2] at hb2
  rw [eN]
  have hp2 := hp1.out.other (a := ⟨bb, 1, none⟩) hne (.int .i64 ((gone + N : Nat) : Int))
  have ho2 := ho1.out.other (a := ⟨bb, 1, none⟩) hob.out.1 (.int .i64 ((gone + N : Nat) : Int))
  have hc2 : Row (w1.setCell ⟨bb, 1, none⟩ (.int .i64 ((gone + N : Nat) : Int))) B 134 (.slice (some ⟨cg, co, none⟩) (n + 1) cc) (n + 1) (.slice (some ⟨g, off, none⟩) K cap :: rest) := hc1.out.keep fun g' hg' => heap_setCell_other w1 _ g' _ (hcb.out g' hg').1
  have m2 := m1.out.trans (Mv.set (S := fun b => b = bb ∨ b = og) hb1.out (.inl rfl) four_buf hBb 1 (.int .i64 ((gone + N : Nat) : Int)))
  generalize w1.setCell ⟨bb, 1, none⟩ (.int .i64 ((gone + N : Nat) : Int)) = w2 at hb2 hp2 ho2 hc2 m2 ⊢
  obtain ⟨G, hG⟩ : ∃ G, gone + N = G := ⟨_, rfl⟩
  rw [hG] at hb2 hD2 ⊢
  clear c1 f1 eN e2 hrem hD hwD hlt
  have c1 := hb2.cell (show (bufC pb G len m (.slice (some ⟨cg, co, none⟩) (n + 1) cc))[1]? = some _ from rfl)
  have c4 := hb2.cell (show (bufC pb G len m (.slice (some ⟨cg, co, none⟩) (n + 1) cc))[4]? = some _ from rfl)
  have d1 := hp2.cell (show (p.cells S)[1]? = some _ from rfl)
  have d2 := hp2.cell (show (p.cells S)[2]? = some _ from rfl)
  simp only [hM.out] at d1
  simp only [hC.out] at d2
  have hbl2 := hb2.lt
  have hpl2 := hp2.lt
  replace ho2 := Lib.hid ho2
  replace hb2 := Lib.hid hb2
  replace hp2 := Lib.hid hp2
  replace m2 := Lib.hid m2
  replace hG := Lib.hid hG
  replace hc2 := Lib.hid hc2
  have hrz : ((r2 : Int) == 0) = false := by simp; omega
  go_quiet (fail)
  go_wp2
  go_ret
  have hm := m2.out
  exact ⟨rfl, by rw [hG.out]; exact hb2.out, ho2.out, ⟨hm.os, hm.tape, hm.output, hm.size, hm.block, hm.keep⟩⟩

set_option maxHeartbeats 4000000 in
set_option maxRecDepth 100000 in
theorem get_chunk_go (B pb bb gone len og a dl dc N K n r D D2 : Nat) (p : Ps) (S m c v : Value) (rest sp : List Value) (bs : List UInt8) (cur : List Value) (w : World) (hp : Blk w pb (p.cells S) 140) (hb : Blk w bb (bufC pb gone len m c) 232) (hne : pb ≠ bb) (hBb : B ≤ bb) (hBp : B ≤ pb) (hS : Row w B 134 S sp.length sp) (hSb : ∀ g, S.ownBlock = some g → g ≠ bb ∧ g ≠ pb ∧ g ≠ og ∧ c.ownBlock ≠ some g) (hu : 0 < p.used) (hu2 : p.used ≤ 1000000) (hsp : sp.length ≤ 1000000)
    (hc : Row w B 134 c (n + 1) (v :: rest)) (hcb : ∀ g, c.ownBlock = some g → g ≠ bb ∧ g ≠ pb ∧ g ≠ og) (hK : bs.length = K) (hr : Row w B 5 v K (bc bs)) (hg : r < K) (hC0 : 0 < p.ch) (hmost : p.mem ≤ 65536 ∧ p.ch ≤ 65536) (hgl : gone + K ≤ 100000000)
    (hD : (gone : Int) - (p.mem : Int) = (D : Int)) (hrem : (D : Int).tmod (p.ch : Int) = (r : Int)) (hD2 : ((gone + N : Nat) : Int) - (p.mem : Int) = (D2 : Int)) (hrem2 : (D2 : Int).tmod (p.ch : Int) = 0)
    (ho : Blk w og cur 5) (hBo : B ≤ og) (hob : og ≠ bb ∧ og ≠ pb ∧ v.ownBlock ≠ some og) (hfit : a + dl ≤ cur.length) (hN : N = min (K - r) dl) :
    Calls Tryz.prog 280 #[.pointer (some ⟨bb, 0, none⟩), .slice (some ⟨og, a, none⟩) dl dc] w fun e w' => ∃ S' c', e = .returned (.int .i64 (N : Int)) ∧ Blk w' bb (bufC pb (gone + N) len m c') 232 ∧ Row w' B 134 c' n rest ∧ c'.ownBlock = c.ownBlock ∧
      Blk w' pb (({ p with used := p.used - 1 } : Ps).cells S') 140 ∧ Row w' B 134 S' (sp ++ [v]).length (sp ++ [v]) ∧ (S'.ownBlock = S.ownBlock ∨ ∃ g, S'.ownBlock = some g ∧ w.heap.size ≤ g) ∧ Blk w' og (cur.take a ++ bc ((bs.drop r).take N) ++ cur.drop (a + N)) 5 ∧ Mv B (fun b => b = pb ∨ b = bb ∨ b = og ∨ S.ownBlock = some b) w w' := by
  have c0 := hb.cell (show (bufC pb gone len m c)[0]? = some _ from rfl)
  have c1 := hb.cell (show (bufC pb gone len m c)[1]? = some _ from rfl)
  have c4 := hb.cell (show (bufC pb gone len m c)[4]? = some _ from rfl)
  have d1 := hp.cell (show (p.cells S)[1]? = some _ from rfl)
  have d2 := hp.cell (show (p.cells S)[2]? = some _ from rfl)
  obtain ⟨M, hM⟩ : ∃ M, p.mem = M := ⟨_, rfl⟩
  obtain ⟨C, hC⟩ : ∃ C, p.ch = C := ⟨_, rfl⟩
  rw [hM] at d1 hD hD2 hmost
  rw [hC] at d2 hrem hrem2 hC0 hmost
  replace hM := Lib.hid hM
  replace hC := Lib.hid hC
  have hpl := hp.lt
  have hbl := hb.lt
  obtain ⟨cg, co, cc, rfl, hcc, hcm, hBc⟩ := hc.form1 (Nat.succ_pos _)
  obtain ⟨hcg1, hcg2, hcg3⟩ := hcb cg rfl
  have v0 := hc.cell (j := 0) (u := v) rfl
  rw [Nat.add_zero] at v0
  obtain ⟨g, off, cap, rfl, hvc, hvm, hBg⟩ := hr.form1 (by omega)
  have hNd : N ≤ dl := by omega
  have hNK : r + N ≤ K := by omega
  have hcopy := fun W ty (h0 : W.heap = w.heap) (h01 : W.os = w.os) (h02 : W.tape = w.tape) (h03 : W.output = w.output) =>
    show ∃ w1, (Builtin.copy_ #[134, 134] ty #[.slice (some ⟨og, a, none⟩) dl dc, .slice (some ⟨g, off + r, none⟩) (K - r) (cap - r)]).run Tryz.prog W = .ok (.int .i64 (N : Int)) w1 ∧ (fun w1 : World => Blk w1 og (cur.take a ++ bc ((bs.drop r).take N) ++ cur.drop (a + N)) 5 ∧
      Blk w1 bb (bufC pb gone len m (.slice (some ⟨cg, co, none⟩) (n + 1) cc)) 232 ∧ Blk w1 pb (p.cells S) 140 ∧ Row w1 B 134 (.slice (some ⟨cg, co, none⟩) (n + 1) cc) (n + 1) (.slice (some ⟨g, off, none⟩) K cap :: rest) ∧ Mv B (fun b => b = bb ∨ b = og) w w1) w1 from by
    have hoW : Blk W og cur 5 := by unfold Blk; rw [h0]; exact ho
    have hrW : Row W B 5 (.slice (some ⟨g, off, none⟩) K cap) K (bc bs) := hr.keep fun g' _ => by rw [h0]
    have hcW : Row W B 134 (.slice (some ⟨cg, co, none⟩) (n + 1) cc) (n + 1) (.slice (some ⟨g, off, none⟩) K cap :: rest) := hc.keep fun g' _ => by rw [h0]
    have hbW : Blk W bb _ _ := show W.heap[bb]? = _ by rw [h0]; exact hb
    have hpW : Blk W pb _ _ := show W.heap[pb]? = _ by rw [h0]; exact hp
    have hmW : Mv B (fun b => b = bb ∨ b = og) w W := ⟨h01, h02, h03, by rw [h0]; exact Nat.le_refl _, fun b _ _ => by rw [h0], fun b _ _ => by rw [h0]⟩
    have hrun := run_copy_stretch (P := Tryz.prog) W ty Tryz.underlying134 (by kernel_rfl) B og a dl dc g off cap r N cur bs hoW (by omega) (by rw [hK]; exact hrW) (by rw [hK]; exact hN)
    rw [hK] at hrun
    refine ⟨_, hrun, hoW.row _, (setRow_other W og bb _ (fun h => hob.1 h.symm)).trans hbW, (setRow_other W og pb _ (fun h => hob.2.1 h.symm)).trans hpW, hcW.keep fun g' hg' => setRow_other W og g' _ (hcb g' hg').2.2, hmW.trans (Mv.row (S := fun b => b = bb ∨ b = og) hoW (.inr rfl) four_byte hBo _)⟩
  replace hp := Lib.hid hp
  replace hb := Lib.hid hb
  replace hc := Lib.hid hc
  replace hr := Lib.hid hr
  replace hN := Lib.hid hN
  replace hK := Lib.hid hK
  replace ho := Lib.hid ho
  replace hob := Lib.hid hob
  replace hcb := Lib.hid hcb
  unfold maxLen at hcm hvm
  have hi0 : (0 : Int) ≤ (r : Int) := by omega
  have hi1 : (r : Int) ≤ (K : Int) := by omega
  have hi2 : ¬ cap = r := by omega
  have hn0 : (0 : Int) ≤ (n : Int) := by omega
  have hn1 : (0 : Int) < (n : Int) + 1 := by omega
  have hlt : ¬ (gone : Int) < (M : Int) := by omega
  have hC1 : C ≠ 0 := by omega
  have hwD : IntKind.i64.wrap (D : Int) = (D : Int) := by rw [IntKind.wrap_i64]; omega
  have hwD2 : IntKind.i64.wrap (D2 : Int) = (D2 : Int) := by rw [IntKind.wrap_i64]; omega
  go_enter Tryz.func280, Tryz.ntmps280
  go_upto_region 2 with fail
  go_quiet (fail)
  go_wp2_with fail
  go_region_held3 (fun w' => w'.cell? ⟨bb, 4, none⟩ = some (.slice (some ⟨cg, co, none⟩) (n + 1) cc) ∧ w'.cell? ⟨cg, co, none⟩ = some (.slice (some ⟨g, off, none⟩) K cap) ∧ w'.cell? ⟨bb, 1, none⟩ = some (.int .i64 (gone : Int)) ∧ w'.cell? ⟨pb, 1, none⟩ = some (.int .i64 (M : Int)) ∧ w'.cell? ⟨pb, 2, none⟩ = some (.int .i64 (C : Int)))
    (first | go_keep | exact hk)
    ((refine step_copy_ex rfl _ _ 134 134 rfl _ _ _ _ rfl rfl (hcopy _ _ rfl rfl rfl rfl) ?_; rintro w1 ⟨ho1, hb1, hp1, hc1, m1⟩; have hk : w1.cell? ⟨bb, 4, none⟩ = some (.slice (some ⟨cg, co, none⟩) (n + 1) cc) ∧ w1.cell? ⟨cg, co, none⟩ = some (.slice (some ⟨g, off, none⟩) K cap) ∧ w1.cell? ⟨bb, 1, none⟩ = some (.int .i64 (gone : Int)) ∧ w1.cell? ⟨pb, 1, none⟩ = some (.int .i64 (M : Int)) ∧ w1.cell? ⟨pb, 2, none⟩ = some (.int .i64 (C : Int)) :=
      ⟨hb1.cell rfl, hc1.cell (j := 0) rfl, hb1.cell rfl, by rw [← hM.out]; exact hp1.cell rfl, by rw [← hC.out]; exact hp1.cell rfl⟩))
  clear c0 c1 c4 d1 d2 hcopy hk v0
  have c1 := hb1.cell (show (bufC pb gone len m (.slice (some ⟨cg, co, none⟩) (n + 1) cc))[1]? = some _ from rfl)
  have f1 := hb1.frozen 1
  have hbl1 := hb1.lt
  replace ho1 := Lib.hid ho1
  replace hb1 := Lib.hid hb1
  replace hp1 := Lib.hid hp1
  replace hc1 := Lib.hid hc1
  replace m1 := Lib.hid m1
  go_upto_region 10 with fail
  have eN : ((gone : Int) + (N : Int)) = ((gone + N : Nat) : Int) := rfl
  have hb2 := hb1.out.set 1 (.int .i64 ((gone + N : Nat) : Int))
  have e2 : (bufC pb gone len m (.slice (some ⟨cg, co, none⟩) (n + 1) cc)).set 1 (.int .i64 ((gone + N : Nat) : Int)) = bufC pb (gone + N) len m (.slice (some ⟨cg, co, none⟩) (n + 1) cc) := rfl
  rw [e2] at hb2
  rw [eN]
  have hp2 := hp1.out.other (a := ⟨bb, 1, none⟩) hne (.int .i64 ((gone + N : Nat) : Int))
  have ho2 := ho1.out.other (a := ⟨bb, 1, none⟩) hob.out.1 (.int .i64 ((gone + N : Nat) : Int))
  have hc2 : Row (w1.setCell ⟨bb, 1, none⟩ (.int .i64 ((gone + N : Nat) : Int))) B 134 (.slice (some ⟨cg, co, none⟩) (n + 1) cc) (n + 1) (.slice (some ⟨g, off, none⟩) K cap :: rest) := hc1.out.keep fun g' hg' => heap_setCell_other w1 _ g' _ (hcb.out g' hg').1
  have m2 := m1.out.trans (Mv.set (S := fun b => b = bb ∨ b = og) hb1.out (.inl rfl) four_buf hBb 1 (.int .i64 ((gone + N : Nat) : Int)))
  generalize w1.setCell ⟨bb, 1, none⟩ (.int .i64 ((gone + N : Nat) : Int)) = w2 at hb2 hp2 ho2 hc2 m2 ⊢
  obtain ⟨G, hG⟩ : ∃ G, gone + N = G := ⟨_, rfl⟩
  rw [hG] at hb2 hD2 ⊢
  clear c1 f1 eN e2 hrem hD hwD hlt
  have c1 := hb2.cell (show (bufC pb G len m (.slice (some ⟨cg, co, none⟩) (n + 1) cc))[1]? = some _ from rfl)
  have c4 := hb2.cell (show (bufC pb G len m (.slice (some ⟨cg, co, none⟩) (n + 1) cc))[4]? = some _ from rfl)
  have d1 := hp2.cell (show (p.cells S)[1]? = some _ from rfl)
  have d2 := hp2.cell (show (p.cells S)[2]? = some _ from rfl)
  simp only [hM.out] at d1
  simp only [hC.out] at d2
  have hbl2 := hb2.lt
  have hpl2 := hp2.lt
  replace ho2 := Lib.hid ho2
  replace hb2 := Lib.hid hb2
  replace hp2 := Lib.hid hp2
  replace m2 := Lib.hid m2
  replace hG := Lib.hid hG
  have hS2 : Row w2 B 134 S sp.length sp := hS.mv m2.out fun g' hg' h => h.elim (hSb g' hg').1 (hSb g' hg').2.2.1
  have hsz2 := m2.out.size
  have v0 := hc2.cell (j := 0) (u := .slice (some ⟨g, off, none⟩) K cap) rfl
  rw [Nat.add_zero] at v0
  have hcl2 := (hc2.lt (g := cg) rfl).2.1
  have hm2 : Mv B (fun b => b = pb ∨ b = bb ∨ b = og ∨ S.ownBlock = some b) w w2 := m2.out.mono fun b _ h => .inr (h.imp id .inl)
  have hgo := (Row.lt (w := w) hr.out (g := g) rfl).2.1
  replace hm2 := Lib.hid hm2
  replace hc2 := Lib.hid hc2
  replace hS2 := Lib.hid hS2
  replace hS := Lib.hid hS
  replace hSb := Lib.hid hSb
  go_quiet (fail)
  go_wp2_with fail
  refine (leave_any B pb p S _ sp [.slice (some ⟨g, off, none⟩) K cap] _ ?_ hBp ?_ ?_ (fun g' h => (hSb.out g' h).2.1) ?_ ?_ ?_ ?_ hu2 hsp).mono ?_
  · exact hp2.out.alloc _
  · show B ≤ (w2.alloc _).heap.size
    simp; omega
  · exact hS2.out.keep fun g' hg' => Below.heap_alloc w2 _ g' (hS2.out.lt hg').2.1
  · exact .inr ⟨w2.heap.size, 0, 1, [.slice (some ⟨g, off, none⟩) K cap], rfl, by omega, Blk.new w2 _ _, Nat.le_refl _, by decide, by simp, rfl⟩
  · intro g' h
    cases h
    exact Nat.ne_of_gt hpl2
  · simp [Value.oneCell']
  · exact hu
  rintro e w4 ⟨S', rfl, hp4, hS4, hSo, m4'⟩
  have m4 : Mv B (fun b => b = pb ∨ S.ownBlock = some b) (w2.alloc (.cells #[.slice (some ⟨g, off, none⟩) K cap] 134)) w4 := ⟨m4'.os, m4'.tape, m4'.output, m4'.size, m4'.block, m4'.keep⟩
  have m24 := (Mv.alloc B (fun b => b = pb ∨ S.ownBlock = some b) w2 (.cells #[.slice (some ⟨g, off, none⟩) K cap] 134)).trans m4
  have hb4 : Blk w4 bb _ _ := hb2.out.mv m24 fun h => h.elim (fun h => hne h.symm) (fun h => (hSb.out bb h).1 rfl)
  have ho4 : Blk w4 og _ _ := ho2.out.mv m24 fun h => h.elim (fun h => hob.out.2.1 h) (fun h => (hSb.out og h).2.2.1 rfl)
  have hc4 := hc2.out.mv m24 fun g' hg' h => h.elim (fun h => (hcb.out g' hg').2.1 h) (fun h => (hSb.out g' h).2.2.2 hg')
  have m4w := hm2.out.trans (m24.mono fun b _ h => h.imp id fun h => .inr (.inr h))
  have hSn : ∀ g', S'.ownBlock = some g' → g' ≠ bb := by
    intro g' hg'
    rcases hSo with h | h
    · exact (hSb.out g' (by rw [← h]; exact hg')).1
    · rw [h] at hg'
      have h1 : (w2.alloc (.cells #[.slice (some ⟨g, off, none⟩) K cap] 134)).heap.size = g' := Option.some.inj hg'
      have h2 : (w2.alloc (.cells #[.slice (some ⟨g, off, none⟩) K cap] 134)).heap.size = w2.heap.size + 1 := by simp
      omega
  have hSo : S'.ownBlock = S.ownBlock ∨ ∃ g', S'.ownBlock = some g' ∧ w.heap.size ≤ g' := by
    rcases hSo with h | h
    · exact .inl h
    · refine .inr ⟨_, h, ?_⟩
      have h2 : (w2.alloc (.cells #[.slice (some ⟨g, off, none⟩) K cap] 134)).heap.size = w2.heap.size + 1 := by simp
      show w.heap.size ≤ (w2.alloc (.cells #[.slice (some ⟨g, off, none⟩) K cap] 134)).heap.size
      omega
  clear m4' m4 c1 c4 d1 d2 v0
  have c4 := hb4.cell (show (bufC pb G len m (.slice (some ⟨cg, co, none⟩) (n + 1) cc))[4]? = some _ from rfl)
  have f4 := hb4.frozen 4
  have hbl4 := hb4.lt
  have htl := hc4.tail 1 (by omega)
  have hn11 : n + 1 - 1 = n := by omega
  rw [hn11, List.drop_succ_cons, List.drop_zero] at htl
  replace hp4 := Lib.hid hp4
  replace hS4 := Lib.hid hS4
  replace hSo := Lib.hid hSo
  replace hSn := Lib.hid hSn
  replace m24 := Lib.hid m24
  replace hb4 := Lib.hid hb4
  replace ho4 := Lib.hid ho4
  replace hc4 := Lib.hid hc4
  replace m4w := Lib.hid m4w
  have hj1 : (1 : Int) ≤ (n : Int) + 1 := by omega
  by_cases hcc1 : cc = 1
  · rw [if_pos hcc1] at htl
    subst hcc1
    replace htl := Lib.hid htl
    go_wp2
    go_ret
    have hb5 := hb4.out.set 4 (.slice (some ⟨cg, co, none⟩) n 0)
    have e5 : (bufC pb G len m (.slice (some ⟨cg, co, none⟩) (n + 1) 1)).set 4 (.slice (some ⟨cg, co, none⟩) n 0) = bufC pb G len m (.slice (some ⟨cg, co, none⟩) n 0) := rfl
    rw [e5] at hb5
    have m5 := m4w.out.trans (Mv.set hb4.out (.inr (.inl rfl)) four_buf hBb 4 (.slice (some ⟨cg, co, none⟩) n 0))
    refine ⟨S', .slice (some ⟨cg, co, none⟩) n 0, rfl, by rw [hG.out]; exact hb5, ?_, rfl, hp4.out.other (a := ⟨bb, 4, none⟩) hne _, hS4.out.keep fun g' hg' => heap_setCell_other w4 _ g' _ (hSn.out g' hg'), ?_, ho4.out.other (a := ⟨bb, 4, none⟩) hob.out.1 _, m5⟩
    · exact htl.out.keep fun g' hg' => heap_setCell_other w4 _ g' _ (by cases hg'; exact hcg1)
    · exact hSo.out
  · rw [if_neg hcc1, Option.map_some, add_plain0] at htl
    replace htl := Lib.hid htl
    go_wp2
    go_ret
    have hb5 := hb4.out.set 4 (.slice (some ⟨cg, co + 1, none⟩) n (cc - 1))
    have e5 : (bufC pb G len m (.slice (some ⟨cg, co, none⟩) (n + 1) cc)).set 4 (.slice (some ⟨cg, co + 1, none⟩) n (cc - 1)) = bufC pb G len m (.slice (some ⟨cg, co + 1, none⟩) n (cc - 1)) := rfl
    rw [e5] at hb5
    have m5 := m4w.out.trans (Mv.set hb4.out (.inr (.inl rfl)) four_buf hBb 4 (.slice (some ⟨cg, co + 1, none⟩) n (cc - 1)))
    refine ⟨S', .slice (some ⟨cg, co + 1, none⟩) n (cc - 1), rfl, by rw [hG.out]; exact hb5, ?_, rfl, hp4.out.other (a := ⟨bb, 4, none⟩) hne _, hS4.out.keep fun g' hg' => heap_setCell_other w4 _ g' _ (hSn.out g' hg'), ?_, ho4.out.other (a := ⟨bb, 4, none⟩) hob.out.1 _, m5⟩
    · exact htl.out.keep fun g' hg' => heap_setCell_other w4 _ g' _ (by cases hg'; exact hcg1)
    · exact hSo.out
end Go.Proofs.YtbjakhiflgjflaaGreatDoor
