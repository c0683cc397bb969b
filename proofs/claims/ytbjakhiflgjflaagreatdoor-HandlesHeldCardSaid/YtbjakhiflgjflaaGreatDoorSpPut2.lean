/-
  put behind the memory where the last chunk is not full: a beginning of the data goes there. Conditions: something is to be moved; numbers of the size of a pool's.
-/
import Derived.Test.YtbjakhiflgjflaaGreatDoorSpPut1
namespace Go.Proofs.YtbjakhiflgjflaaGreatDoor
open Go Go.RowKit

theorem row_set_last {w w' : World} {B : Nat} {e : TypeId} {g off c n : Nat} {init : List Value} {v v' : Value} {cur : List Value} (hr : Row w B e (.slice (some ⟨g, off, none⟩) (n + 1) c) (n + 1) (init ++ [v])) (hn : init.length = n) (hb : Blk w g cur e) (hb' : Blk w' g (cur.set (off + n) v') e) :
    Row w' B e (.slice (some ⟨g, off, none⟩) (n + 1) c) (n + 1) (init ++ [v']) := by
  rcases hr with ⟨h, _⟩ | ⟨g', off', cap, cur', hv, h0, h1, h2, h3, h4, h5⟩
  · cases h
  · cases hv
    obtain rfl := Blk.inj h1 hb
    refine .inr ⟨g, off, c, _, rfl, h0, hb', h2, h3, by rw [List.length_set]; exact h4, ?_⟩
    rw [List.drop_set, if_neg (by omega), Nat.add_sub_cancel_left, List.take_set, h5]
    subst hn
    simp

set_option maxHeartbeats 2000000 in
set_option maxRecDepth 100000 in
theorem put_last (B pb bb gone len r D : Nat) (p : Ps) (S m c v : Value) (init : List Value) (bs : List UInt8) (data : ByteArray) (w : World) (hp : Blk w pb (p.cells S) 140) (hb : Blk w bb (bufC pb gone len m c) 232) (hB : B ≤ w.heap.size)
    (hc : Row w B 134 c (init.length + 1) (init ++ [v])) (hcb : ∀ g, c.ownBlock = some g → g ≠ bb ∧ g ≠ pb ∧ v.ownBlock ≠ some g)
    (hr : Row w B 5 v bs.length (bc bs)) (hvb : ∀ g, v.ownBlock = some g → g ≠ bb ∧ g ≠ pb) (hd : 0 < data.size) (hlm : len ≤ 100000000) (hlt : bs.length < p.ch) (hmost : p.ch ≤ 65536) (hds : data.size ≤ 100000000)
    (hD : (len : Int) - (p.mem : Int) = (D : Int)) (hrem : (D : Int).tmod (p.ch : Int) = (r : Int)) (hr0 : 0 < r) :
    Calls Tryz.prog 284 #[.pointer (some ⟨bb, 0, none⟩), .string data] w fun e w' => ∃ n v', n = min data.size (p.ch - bs.length) ∧ e = .returned (.int .i64 (n : Int)) ∧
      Row w' B 134 c (init.length + 1) (init ++ [v']) ∧ Row w' B 5 v' (bs ++ (tl data).take n).length (bc (bs ++ (tl data).take n)) ∧ Mv B (fun b => c.ownBlock = some b ∨ v.ownBlock = some b) w w' ∧ (v'.ownBlock = v.ownBlock ∨ v'.ownBlock = some w.heap.size) := by
  have c0 := hb.cell (show (bufC pb gone len m c)[0]? = some _ from rfl)
  have c2 := hb.cell (show (bufC pb gone len m c)[2]? = some _ from rfl)
  have c4 := hb.cell (show (bufC pb gone len m c)[4]? = some _ from rfl)
  have d1 := hp.cell (show (p.cells S)[1]? = some _ from rfl)
  have d2 := hp.cell (show (p.cells S)[2]? = some _ from rfl)
  obtain ⟨M, hM⟩ : ∃ M, p.mem = M := ⟨_, rfl⟩
  obtain ⟨C, hC⟩ : ∃ C, p.ch = C := ⟨_, rfl⟩
  rw [hM] at d1 hD
  rw [hC] at d2 hlt hmost hrem ⊢
  replace hM := Lib.hid hM
  replace hC := Lib.hid hC
  have hpl := hp.lt
  have hbl := hb.lt
  obtain ⟨n, hn⟩ : ∃ n, init.length = n := ⟨_, rfl⟩
  rw [hn] at hc ⊢
  obtain ⟨g, off, cap, rfl, hcc, hcm, hBg⟩ := hc.form1 (Nat.succ_pos _)
  obtain ⟨hgb, hgp, hgv⟩ := hcb g rfl
  obtain ⟨_, hgl, cur, hcur⟩ := hc.lt (g := g) rfl
  have hv : cur[off + n]? = some v := by
    have h1 := hc.cell (j := n) (u := v) (by rw [← hn]; simp)
    rw [cell_of_row w g _ _ _ _ hcur] at h1
    simpa using h1
  have hcall := fun W (h1 : Blk W g cur 134) (h2 : Row W B 5 v bs.length (bc bs)) (h3 : B ≤ W.heap.size) => extend_any B g (off + n) _ 134 v bs data C W h1 hv four_rows hBg h2 (fun g' h => fun e => hgv (by rw [h, e])) hd hlt hmost h3 hds
  replace hp := Lib.hid hp
  replace hb := Lib.hid hb
  replace hr := Lib.hid hr
  replace hc := Lib.hid hc
  replace hcb := Lib.hid hcb
  replace hvb := Lib.hid hvb
  replace hcur := Lib.hid hcur
  replace hn := Lib.hid hn
  have hC1 : C ≠ 0 := by omega
  have hwD : IntKind.i64.wrap (D : Int) = (D : Int) := by rw [IntKind.wrap_i64]; omega
  have hrz : ((r : Int) == 0) = false := by simp; omega
  unfold maxLen at hcm
  have hi0 : (0 : Int) ≤ (n : Int) := by omega
  have hi1 : (n : Int) < (n : Int) + 1 := by omega
  have hwn : IntKind.i64.wrap (n : Int) = (n : Int) := by rw [IntKind.wrap_i64]; omega
  have hwn1 : IntKind.i64.wrap (((n + 1 : Nat) : Int) - 1) = (n : Int) := by rw [IntKind.wrap_i64]; omega
  have hwn2 : IntKind.i64.wrap ((n : Int) + 1 - 1) = (n : Int) := by rw [IntKind.wrap_i64]; omega
  clear hd hds hv hlt
  go_enter Tryz.func284, Tryz.ntmps284
  go_upto_region 2 with fail
  go_quiet (fail)
  go_wp2_with fail
  go_quiet (fail)
  go_wp2_with fail
  go_region_held3 (fun w' => w'.cell? ⟨pb, 2, none⟩ = some (.int .i64 (C : Int)) ∧ w'.cell? ⟨bb, 4, none⟩ = some (.slice (some ⟨g, off, none⟩) (n + 1) cap))
    (first | go_keep | exact hk)
    ((go_at_call 285; refine (hcall _ ?_ ?_ ?_).mono ?_; exact hcur.out; exact hr.out; exact hB; rintro e w2 ⟨N, v', hN, rfl, hb2, hr2, hm2, how, hne2⟩; replace hN := Lib.hid hN;
      have hk : w2.cell? ⟨pb, 2, none⟩ = some (.int .i64 (C : Int)) ∧ w2.cell? ⟨bb, 4, none⟩ = some (.slice (some ⟨g, off, none⟩) (n + 1) cap) := ⟨(World.cell?_of_block (a := ⟨pb, 2, none⟩) (hm2.block pb hpl (fun h => h.elim (fun h => hgp h.symm) (fun h => (hvb.out pb h).2 rfl)))).trans d2, (World.cell?_of_block (a := ⟨bb, 4, none⟩) (hm2.block bb hbl (fun h => h.elim (fun h => hgb h.symm) (fun h => (hvb.out bb h).1 rfl)))).trans c4⟩))
  have hrow := Lib.hid (row_set_last hc.out hn.out hcur.out hb2)
  go_wp2
  go_ret
  exact ⟨N, v', hN.out, rfl, hrow.out, hr2, Mv.mono (w := w) ⟨hm2.os, hm2.tape, hm2.output, hm2.size, hm2.block, hm2.keep⟩ (fun b _ h => h.imp (fun h => by rw [h]; rfl) id), how⟩
end Go.Proofs.YtbjakhiflgjflaaGreatDoor
