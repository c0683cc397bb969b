/-
  put where there is room in memory: a beginning of the data goes there. Conditions: something is to be moved; numbers of the size of a pool's.
-/
import Derived.Test.YtbjakhiflgjflaaGreatDoorSpTake
import Derived.Deep.RegionHeld3
import Derived.BigQuiet
namespace Go.Proofs.YtbjakhiflgjflaaGreatDoor
open Go Go.RowKit

/-- A buffer's cells. -/
def bufC (pb gone len : Nat) (m c : Value) : List Value := [.pointer (some ⟨pb, 0, none⟩), .int .i64 (gone : Int), .int .i64 (len : Int), m, c]

set_option maxHeartbeats 2000000 in
set_option maxRecDepth 100000 in
theorem put_mem (B pb bb gone len : Nat) (p : Ps) (S m c : Value) (bs : List UInt8) (data : ByteArray) (w : World) (hp : Blk w pb (p.cells S) 140) (hb : Blk w bb (bufC pb gone len m c) 232) (hne : pb ≠ bb) (hBb : B ≤ bb) (hB : B ≤ w.heap.size)
    (hl : bs.length = len) (hr : Row w B 5 m bs.length (bc bs)) (hmb : ∀ g, m.ownBlock = some g → g ≠ bb ∧ g ≠ pb) (hd : 0 < data.size) (hlt : len < p.mem) (hmost : p.mem ≤ 65536) (hds : data.size ≤ 100000000) :
    Calls Tryz.prog 284 #[.pointer (some ⟨bb, 0, none⟩), .string data] w fun e w' => ∃ n m', n = min data.size (p.mem - len) ∧ e = .returned (.int .i64 (n : Int)) ∧ Blk w' bb (bufC pb gone len m' c) 232 ∧
      Row w' B 5 m' (bs ++ (tl data).take n).length (bc (bs ++ (tl data).take n)) ∧ Mv B (fun b => b = bb ∨ m.ownBlock = some b) w w' ∧ (m'.ownBlock = m.ownBlock ∨ m'.ownBlock = some w.heap.size) ∧ ∀ g, m'.ownBlock = some g → g ≠ bb := by
  have c0 := hb.cell (show (bufC pb gone len m c)[0]? = some _ from rfl)
  have c2 := hb.cell (show (bufC pb gone len m c)[2]? = some _ from rfl)
  have d1 := hp.cell (show (p.cells S)[1]? = some _ from rfl)
  obtain ⟨M, hM⟩ : ∃ M, p.mem = M := ⟨_, rfl⟩
  rw [hM] at d1 hlt hmost ⊢
  replace hM := Lib.hid hM
  have hpl := hp.lt
  have hbl := hb.lt
  have hcall := fun W (h1 : Blk W bb (bufC pb gone len m c) 232) (h2 : Row W B 5 m bs.length (bc bs)) (h3 : B ≤ W.heap.size) => extend_any B bb 3 _ 232 m bs data M W h1 rfl four_buf hBb h2 (fun g h => (hmb g h).1) hd (by omega) hmost h3 hds
  rw [hl] at hcall hr
  replace hp := Lib.hid hp
  replace hb := Lib.hid hb
  replace hr := Lib.hid hr
  replace hmb := Lib.hid hmb
  replace hl := Lib.hid hl
  clear hd hds
  go_enter Tryz.func284, Tryz.ntmps284
  go_upto_region 2 with fail
  go_quiet (fail)
  go_wp2_with fail
  go_region_held3 (fun w' => w'.cell? ⟨pb, 1, none⟩ = some (.int .i64 (M : Int)))
    (first | go_keep | exact hk)
    ((go_at_call 285; refine (hcall _ ?_ ?_ ?_).mono ?_; exact hb.out; exact hr.out; exact hB; rintro e w2 ⟨n, m', hn, rfl, hb2, hr2, hm2, how, hne2⟩; replace hn := Lib.hid hn; have hk : w2.cell? ⟨pb, 1, none⟩ = some (.int .i64 (M : Int)) := (World.cell?_of_block (a := ⟨pb, 1, none⟩) (hm2.block pb hpl (fun h => h.elim hne (fun h => (hmb.out pb h).2 rfl)))).trans d1))
  go_wp2
  go_ret
  exact ⟨n, m', hn.out, rfl, hb2, hr2, ⟨hm2.os, hm2.tape, hm2.output, hm2.size, hm2.block, hm2.keep⟩, how, hne2⟩
end Go.Proofs.YtbjakhiflgjflaaGreatDoor
