/-
  An expression's value over the reference's table, by the reference. Conditions: at most a million pairs and Ops; numbers of 64 bits; texts of at most a million bytes.
  value, by the reference: the assignments. Conditions: as in the other ways of value.
  value and Value, by the reference: all ways. Conditions: as in the ways.
-/
import Derived.Test.YtlijlgbaikijnaaGreatDoorSmRSet
import Derived.Test.YtlijlgbaikijnaaGreatDoorSmRText
import Derived.OrdersHeld
import Derived.Test.YtlijlgbaikijnaaGreatDoorSmRRight
import Derived.Test.YtlijlgbaikijnaaGreatDoorSmFaceV
namespace Go.Proofs.YtlijlgbaikijnaaGreatDoor
open Go Go.RowKit

/-- What a value comes to in memory, by the reference. -/
def RValR (w : World) (rb B N : Nat) (T : Nat → Prop) (sz : Nat) (r : VRes) (e : Ending) (w' : World) : Prop := match r with
  | .ok m qs => e = .returned (.tuple #[.int .i64 m, .int .i64 0]) ∧ RMove w w' rb B qs (N + sz) T
  | .no c qs => (∃ m, e = .returned (.tuple #[.int .i64 m, .int .i64 c])) ∧ c ≠ 0 ∧ RMove w w' rb B qs (N + sz) T
/-- All that a value wants of the world and the table. -/
structure RPre (w : World) (rb B : Nat) (ok : Nat → Prop) (x : E) (ps : List Pr) (N : Nat) (T : Nat → Prop) : Prop where
  blk : ∀ g, ok g → g < w.heap.size ∧ ¬ T g
  tab : RTab w rb B ps N T
  val : Vals ps
  num : NumE x
  few : N + sizeE x ≤ 1000000
  lo : B ≤ w.heap.size
def RVal (rb B n : Nat) : Prop := ∀ (x : E) (v : Value) (ok : Nat → Prop) (w : World) (ps : List Pr) (N : Nat) (T : Nat → Prop), ExR w ok x v → RPre w rb B ok x ps N T → dpLe n x = true →
  Calls Tryz.prog 44 #[v, .pointer (some ⟨rb, 0, none⟩)] w (RValR w rb B N T (sizeE x) (valueP n x ps))
/-- A later world: what is not the table's is as it was. -/
structure FrameTo (w W : World) (T T1 : Nat → Prop) : Prop where
  size : w.heap.size ≤ W.heap.size
  sub : ∀ k, T1 k → T k ∨ w.heap.size ≤ k
  block : ∀ k, k < w.heap.size → ¬ T k → W.heap[k]? = w.heap[k]?
theorem frame_grown {w W : World} {T : Nat → Prop} (h : w.grownBy W none) : FrameTo w W T T := ⟨h.size, fun _ h => .inl h, fun k hk _ => h.block k hk (by simp)⟩
theorem FrameTo.move {w W W2 : World} {T T1 T2 : Nat → Prop} {rb B N : Nat} {qs : List Pr} (h : FrameTo w W T T1) (hm : RMove W W2 rb B qs N T1) (hs : ∀ k, T2 k → T1 k ∨ W.heap.size ≤ k) : FrameTo w W2 T T2 := by
  have h1 := h.size
  have h2 := hm.size
  refine ⟨by omega, fun k hk => ?_, fun k hk hT => (hm.block k (by omega) (fun e => (h.sub k e).elim hT (fun h => by omega))).trans (h.block k hk hT)⟩
  rcases hs k hk with h3 | h3
  · exact h.sub k h3
  · exact .inr (by omega)
theorem FrameTo.grown {w W W2 : World} {T T1 : Nat → Prop} (h : FrameTo w W T T1) (hg : W.grownBy W2 none) : FrameTo w W2 T T1 := by
  have h1 := h.size
  have h2 := hg.size
  exact ⟨by omega, h.sub, fun k hk hT => (hg.block k (by omega) (by simp)).trans (h.block k hk hT)⟩
theorem rkid_says {rb B n : Nat} (ih : RVal rb B n) {ok : Nat → Prop} {w : World} {ps : List Pr} {N : Nat} {T : Nat → Prop} {op name : List UInt8} {num : Int} {kids : List E} (hc : RPre w rb B ok (.mk op num name kids) ps N T) {k : E} {v : Value} (hm : k ∈ kids) (hk : ExR w ok k v) (hd : dpLe n k = true) :
    ∀ (W : World) (qs : List Pr) (M : Nat) (T1 : Nat → Prop), FrameTo w W T T1 → RTab W rb B qs M T1 → Vals qs → M + sizeE k ≤ 1000000 → Calls Tryz.prog 44 #[v, .pointer (some ⟨rb, 0, none⟩)] W (RValR W rb B M T1 (sizeE k) (valueP n k qs)) := by
  intro W qs M T1 hf ht hv hl
  have hnk := hc.num
  unfold NumE at hnk
  refine ih k v ok W qs M T1 (hk.keep (fun _ h => h) (fun g h => hf.block g (hc.blk g h).1 (hc.blk g h).2)) ⟨fun g h => ⟨Nat.lt_of_lt_of_le (hc.blk g h).1 hf.size, fun e => ?_⟩, ht, hv, hnk.2.mem k hm, hl, Nat.le_trans hc.lo hf.size⟩ hd
  have h1 := hc.blk g h
  rcases hf.sub g e with h2 | h2
  · exact h1.2 h2
  · omega
theorem rm_cell {w w' : World} {rb B N b j : Nat} {qs : List Pr} {T : Nat → Prop} {u : Value} (h : RMove w w' rb B qs N T) (hc : w.cell? ⟨b, j, none⟩ = some u) (hT : ¬ T b) : w'.cell? ⟨b, j, none⟩ = some u :=
  (World.cell?_of_block (a := ⟨b, j, none⟩) (h.block b (World.block_lt_of_cell? w ⟨b, j, none⟩ hc) hT)).trans hc
theorem rm_not {w : World} {b : Nat} {T T1 : Nat → Prop} (hs : ∀ k, T1 k → T k ∨ w.heap.size ≤ k) (hb : b < w.heap.size) (hT : ¬ T b) : ¬ T1 b := fun h => (hs b h).elim hT (fun h => by omega)
theorem ret_two {a b c : Int} (h : a = b) : Ending.returned (.tuple #[.int .i64 a, .int .i64 c]) = .returned (.tuple #[.int .i64 b, .int .i64 c]) := by rw [h]
/-- The result behind the box's making. -/
theorem rv_end {w w3 w' : World} {rb B N sz sz2 : Nat} {T : Nat → Prop} {qs : List Pr} (hg : w.grownBy w3 none) (h : RMove w3 w' rb B qs (N + sz) T) (hs : sz ≤ sz2) : RMove w w' rb B qs (N + sz2) T := (RMove.pre hg h).more (by omega)

set_option maxHeartbeats 8000000 in
set_option maxRecDepth 100000 in
theorem rv_neg (rb B n : Nat) (ih : RVal rb B n) (name : List UInt8) (num : Int) (a : E) (v : Value) (ok : Nat → Prop) (w : World) (ps : List Pr) (N : Nat) (T : Nat → Prop)
    (hx : ExR w ok (.mk [110, 101, 103] num name [a]) v) (hc : RPre w rb B ok (.mk [110, 101, 103] num name [a]) ps N T) (hda : dpLe n a = true)  :
    Calls Tryz.prog 44 #[v, .pointer (some ⟨rb, 0, none⟩)] w (RValR w rb B N T (sizeE (.mk [110, 101, 103] num name [a])) ((valueP n a ps).next fun m qs => .ok (wrap64 (-m)) qs)) := by
  obtain ⟨A, cc, rfl, hcc, hcm, hkr⟩ := hx.form
  obtain ⟨g, off, rfl, hgo, hkr⟩ := hkr.resolve_left (by simp)
  obtain ⟨a0, a1, a2, a3, ca0, ca1, ca2, ca3, hka⟩ := hkr.at_ 0 (by simp)
  simp only [List.getElem_cons_zero, Nat.zero_mul, Nat.add_zero] at ca0 ca1 ca2 ca3 hka
  have iha := rkid_says ih hc (by simp : a ∈ [a]) hka hda
  obtain ⟨hgl, hgT⟩ := hc.blk g hgo
  have hgood := good_val n a ps (by have := hc.num; unfold NumE at this; exact this.2.mem a (by simp)) hc.val
  have hlo := hc.lo
  have hval := hc.val
  have hfew := hc.few
  have htab := hc.tab
  have hnum := hc.num
  unfold NumE at hnum
  obtain ⟨SZ, hSZ⟩ : ∃ SZ, sizeE (.mk [110, 101, 103] num name [a]) = SZ := ⟨_, rfl⟩
  rw [hSZ] at hfew ⊢
  simp only [sizeE, sizeL] at hSZ
  simp only [List.length_cons, List.length_nil, Nat.zero_add] at hcc ⊢
  obtain ⟨x, hxx⟩ : ∃ x : ByteArray, (⟨([110, 101, 103] : List UInt8).toArray⟩ : ByteArray) = x := ⟨_, rfl⟩
  obtain ⟨nx, hnx⟩ : ∃ nx : ByteArray, (⟨name.toArray⟩ : ByteArray) = nx := ⟨_, rfl⟩
  have hxt : tl x = [110, 101, 103] := by rw [← hxx]; rfl
  have hxl : x.toList = [110, 101, 103] := by rw [Lib.toList_data]; exact hxt
  have hkd := fun W => rKids_any x W
  have has := fun W => rSets_any x W
  rw [hxt] at hkd has
  obtain ⟨R, hR⟩ : ∃ R : VRes, ((valueP n a ps).next fun m qs => .ok (wrap64 (-m)) qs) = R := ⟨_, rfl⟩
  rw [hR]
  replace hR := Lib.hid hR
  rw [hxx, hnx]
  have gnum : (x.toList == [110, 117, 109]) = false := by rw [hxl]; decide
  have gname : (x.toList == [110, 97, 109, 101]) = false := by rw [hxl]; decide
  have gneg : (x.toList == [110, 101, 103]) = true := by rw [hxl]; decide
  have gpos : (x.toList == [112, 111, 115]) = false := by rw [hxl]; decide
  have gnot : (x.toList == [110, 111, 116]) = false := by rw [hxl]; decide
  have gcom : (x.toList == [99, 111, 109]) = false := by rw [hxl]; decide
  obtain ⟨rk, hrk⟩ : ∃ r, valueP n a ps = r := ⟨_, rfl⟩
  have hR0 := hR.out
  rw [hrk] at hR0 hgood
  replace hR := Lib.hid hR0
  clear hx hkr ih hcm hxx hxt hxl hka hda hR0 hnum
  have iha : ∀ (W : World) (T1 : Nat → Prop), FrameTo w W T T1 → RTab W rb B ps N T1 → Calls Tryz.prog 44 #[.agg #[a0, a1, a2, a3], .pointer (some ⟨rb, 0, none⟩)] W (RValR W rb B N T1 (sizeE a) rk) := fun W T1 h1 h2 => by have := iha W ps N T1 h1 h2 hval (by omega); rwa [hrk] at this
  go_enter Tryz.func44, Tryz.ntmps44
  go_upto_region 1 with fail
  obtain ⟨w2, hW2, hs2, hgr, hcz, hfz, hold⟩ := one_new w #[.string x, .int .i64 num, .string nx, .slice (some ⟨g, off, none⟩) 1 cc] 37
  rw [hW2]
  obtain ⟨z, hz⟩ : ∃ z, w.heap.size = z := ⟨_, rfl⟩
  rw [hz] at hcz hs2 ⊢
  have q0 := hcz 0 _ rfl
  have q1 := hcz 1 _ rfl
  have q2 := hcz 2 _ rfl
  have q3 := hcz 3 _ rfl
  have ca0 := (World.cell?_of_block (a := ⟨g, off, none⟩) (hold g hgl)).trans ca0
  have ca1 := (World.cell?_of_block (a := ⟨g, off + 1, none⟩) (hold g hgl)).trans ca1
  have ca2 := (World.cell?_of_block (a := ⟨g, off + 2, none⟩) (hold g hgl)).trans ca2
  have ca3 := (World.cell?_of_block (a := ⟨g, off + 3, none⟩) (hold g hgl)).trans ca3
  have hg2 := hgr none
  have hzT : ¬ T z := fun h => by have := hc.tab.bd z h; omega
  clear hW2 hgr hcz hfz hold
  go_quiet ((go_at_call 66; refine Calls.quiet_of_same (hkd _)))
  have hgd : w2.grownBy (w2.drewN nq) none := ⟨rfl, rfl, rfl, Nat.le_refl _, fun _ _ _ => rfl⟩
  have q0 := hgd.cell q0 (by simp)
  have q1 := hgd.cell q1 (by simp)
  have q2 := hgd.cell q2 (by simp)
  have q3 := hgd.cell q3 (by simp)
  have ca0 := hgd.cell ca0 (by simp)
  have ca1 := hgd.cell ca1 (by simp)
  have ca2 := hgd.cell ca2 (by simp)
  have ca3 := hgd.cell ca3 (by simp)
  have hg3 := grownBy_trans' hg2 hgd
  clear hgd hg2 hs2 hkd
  generalize w2.drewN nq = w3 at *
  have htab3 := htab.grown hg3
  have hz3 : z < w3.heap.size := World.block_lt_of_cell? w3 ⟨z, 0, none⟩ q0
  have hfr3 : FrameTo w w3 T T := frame_grown hg3
  replace hz := Lib.hid hz
  replace hfr3 := Lib.hid hfr3
  replace htab3 := Lib.hid htab3
  clear htab hc
  go_wp2_with fail
  refine (has w3).mono ?_
  rintro e wq ⟨rfl, hwq⟩
  obtain rfl := hwq.symm
  clear has
  go_wp2_with fail
  refine (iha w3 T hfr3.out htab3.out).mono ?_
  intro e w6 h
  cases rk with
  | no c1 qs =>
    obtain ⟨⟨m1, rfl⟩, hc1, hmv⟩ := h
    have hcb : (c1 == 0) = false := by simpa using hc1
    obtain rfl : R = .no c1 qs := hR.out.symm
    clear iha hR hgood
    go_wp2
    go_ret2
    exact ⟨⟨_, rfl⟩, hc1, rv_end hg3 hmv (by omega)⟩
  | ok m1 qs =>
    obtain ⟨rfl, hmv⟩ := h
    obtain rfl : R = .ok (wrap64 (-m1)) qs := hR.out.symm
    have q0 := rm_cell hmv q0 hzT
    skip
    clear iha hR
    go_wp2
    go_ret2
    exact ⟨rfl, rv_end hg3 hmv (by omega)⟩

set_option maxHeartbeats 8000000 in
set_option maxRecDepth 100000 in
theorem rv_pos (rb B n : Nat) (ih : RVal rb B n) (name : List UInt8) (num : Int) (a : E) (v : Value) (ok : Nat → Prop) (w : World) (ps : List Pr) (N : Nat) (T : Nat → Prop)
    (hx : ExR w ok (.mk [112, 111, 115] num name [a]) v) (hc : RPre w rb B ok (.mk [112, 111, 115] num name [a]) ps N T) (hda : dpLe n a = true)  :
    Calls Tryz.prog 44 #[v, .pointer (some ⟨rb, 0, none⟩)] w (RValR w rb B N T (sizeE (.mk [112, 111, 115] num name [a])) ((valueP n a ps).next fun m qs => .ok (m) qs)) := by
  obtain ⟨A, cc, rfl, hcc, hcm, hkr⟩ := hx.form
  obtain ⟨g, off, rfl, hgo, hkr⟩ := hkr.resolve_left (by simp)
  obtain ⟨a0, a1, a2, a3, ca0, ca1, ca2, ca3, hka⟩ := hkr.at_ 0 (by simp)
  simp only [List.getElem_cons_zero, Nat.zero_mul, Nat.add_zero] at ca0 ca1 ca2 ca3 hka
  have iha := rkid_says ih hc (by simp : a ∈ [a]) hka hda
  obtain ⟨hgl, hgT⟩ := hc.blk g hgo
  have hgood := good_val n a ps (by have := hc.num; unfold NumE at this; exact this.2.mem a (by simp)) hc.val
  have hlo := hc.lo
  have hval := hc.val
  have hfew := hc.few
  have htab := hc.tab
  have hnum := hc.num
  unfold NumE at hnum
  obtain ⟨SZ, hSZ⟩ : ∃ SZ, sizeE (.mk [112, 111, 115] num name [a]) = SZ := ⟨_, rfl⟩
  rw [hSZ] at hfew ⊢
  simp only [sizeE, sizeL] at hSZ
  simp only [List.length_cons, List.length_nil, Nat.zero_add] at hcc ⊢
  obtain ⟨x, hxx⟩ : ∃ x : ByteArray, (⟨([112, 111, 115] : List UInt8).toArray⟩ : ByteArray) = x := ⟨_, rfl⟩
  obtain ⟨nx, hnx⟩ : ∃ nx : ByteArray, (⟨name.toArray⟩ : ByteArray) = nx := ⟨_, rfl⟩
  have hxt : tl x = [112, 111, 115] := by rw [← hxx]; rfl
  have hxl : x.toList = [112, 111, 115] := by rw [Lib.toList_data]; exact hxt
  have hkd := fun W => rKids_any x W
  have has := fun W => rSets_any x W
  rw [hxt] at hkd has
  obtain ⟨R, hR⟩ : ∃ R : VRes, ((valueP n a ps).next fun m qs => .ok (m) qs) = R := ⟨_, rfl⟩
  rw [hR]
  replace hR := Lib.hid hR
  rw [hxx, hnx]
  have gnum : (x.toList == [110, 117, 109]) = false := by rw [hxl]; decide
  have gname : (x.toList == [110, 97, 109, 101]) = false := by rw [hxl]; decide
  have gneg : (x.toList == [110, 101, 103]) = false := by rw [hxl]; decide
  have gpos : (x.toList == [112, 111, 115]) = true := by rw [hxl]; decide
  have gnot : (x.toList == [110, 111, 116]) = false := by rw [hxl]; decide
  have gcom : (x.toList == [99, 111, 109]) = false := by rw [hxl]; decide
  obtain ⟨rk, hrk⟩ : ∃ r, valueP n a ps = r := ⟨_, rfl⟩
  have hR0 := hR.out
  rw [hrk] at hR0 hgood
  replace hR := Lib.hid hR0
  clear hx hkr ih hcm hxx hxt hxl hka hda hR0 hnum
  have iha : ∀ (W : World) (T1 : Nat → Prop), FrameTo w W T T1 → RTab W rb B ps N T1 → Calls Tryz.prog 44 #[.agg #[a0, a1, a2, a3], .pointer (some ⟨rb, 0, none⟩)] W (RValR W rb B N T1 (sizeE a) rk) := fun W T1 h1 h2 => by have := iha W ps N T1 h1 h2 hval (by omega); rwa [hrk] at this
  go_enter Tryz.func44, Tryz.ntmps44
  go_upto_region 1 with fail
  obtain ⟨w2, hW2, hs2, hgr, hcz, hfz, hold⟩ := one_new w #[.string x, .int .i64 num, .string nx, .slice (some ⟨g, off, none⟩) 1 cc] 37
  rw [hW2]
  obtain ⟨z, hz⟩ : ∃ z, w.heap.size = z := ⟨_, rfl⟩
  rw [hz] at hcz hs2 ⊢
  have q0 := hcz 0 _ rfl
  have q1 := hcz 1 _ rfl
  have q2 := hcz 2 _ rfl
  have q3 := hcz 3 _ rfl
  have ca0 := (World.cell?_of_block (a := ⟨g, off, none⟩) (hold g hgl)).trans ca0
  have ca1 := (World.cell?_of_block (a := ⟨g, off + 1, none⟩) (hold g hgl)).trans ca1
  have ca2 := (World.cell?_of_block (a := ⟨g, off + 2, none⟩) (hold g hgl)).trans ca2
  have ca3 := (World.cell?_of_block (a := ⟨g, off + 3, none⟩) (hold g hgl)).trans ca3
  have hg2 := hgr none
  have hzT : ¬ T z := fun h => by have := hc.tab.bd z h; omega
  clear hW2 hgr hcz hfz hold
  go_quiet ((go_at_call 66; refine Calls.quiet_of_same (hkd _)))
  have hgd : w2.grownBy (w2.drewN nq) none := ⟨rfl, rfl, rfl, Nat.le_refl _, fun _ _ _ => rfl⟩
  have q0 := hgd.cell q0 (by simp)
  have q1 := hgd.cell q1 (by simp)
  have q2 := hgd.cell q2 (by simp)
  have q3 := hgd.cell q3 (by simp)
  have ca0 := hgd.cell ca0 (by simp)
  have ca1 := hgd.cell ca1 (by simp)
  have ca2 := hgd.cell ca2 (by simp)
  have ca3 := hgd.cell ca3 (by simp)
  have hg3 := grownBy_trans' hg2 hgd
  clear hgd hg2 hs2 hkd
  generalize w2.drewN nq = w3 at *
  have htab3 := htab.grown hg3
  have hz3 : z < w3.heap.size := World.block_lt_of_cell? w3 ⟨z, 0, none⟩ q0
  have hfr3 : FrameTo w w3 T T := frame_grown hg3
  replace hz := Lib.hid hz
  replace hfr3 := Lib.hid hfr3
  replace htab3 := Lib.hid htab3
  clear htab hc
  go_wp2_with fail
  refine (has w3).mono ?_
  rintro e wq ⟨rfl, hwq⟩
  obtain rfl := hwq.symm
  clear has
  go_wp2_with fail
  refine (iha w3 T hfr3.out htab3.out).mono ?_
  intro e w6 h
  cases rk with
  | no c1 qs =>
    obtain ⟨⟨m1, rfl⟩, hc1, hmv⟩ := h
    have hcb : (c1 == 0) = false := by simpa using hc1
    obtain rfl : R = .no c1 qs := hR.out.symm
    clear iha hR hgood
    go_wp2
    go_ret2
    exact ⟨⟨_, rfl⟩, hc1, rv_end hg3 hmv (by omega)⟩
  | ok m1 qs =>
    obtain ⟨rfl, hmv⟩ := h
    obtain rfl : R = .ok (m1) qs := hR.out.symm
    have q0 := rm_cell hmv q0 hzT
    skip
    clear iha hR
    go_wp2
    go_ret2
    exact ⟨rfl, rv_end hg3 hmv (by omega)⟩

set_option maxHeartbeats 8000000 in
set_option maxRecDepth 100000 in
theorem rv_not (rb B n : Nat) (ih : RVal rb B n) (name : List UInt8) (num : Int) (a : E) (v : Value) (ok : Nat → Prop) (w : World) (ps : List Pr) (N : Nat) (T : Nat → Prop)
    (hx : ExR w ok (.mk [110, 111, 116] num name [a]) v) (hc : RPre w rb B ok (.mk [110, 111, 116] num name [a]) ps N T) (hda : dpLe n a = true)  :
    Calls Tryz.prog 44 #[v, .pointer (some ⟨rb, 0, none⟩)] w (RValR w rb B N T (sizeE (.mk [110, 111, 116] num name [a])) ((valueP n a ps).next fun m qs => .ok (truthI (m == 0)) qs)) := by
  obtain ⟨A, cc, rfl, hcc, hcm, hkr⟩ := hx.form
  obtain ⟨g, off, rfl, hgo, hkr⟩ := hkr.resolve_left (by simp)
  obtain ⟨a0, a1, a2, a3, ca0, ca1, ca2, ca3, hka⟩ := hkr.at_ 0 (by simp)
  simp only [List.getElem_cons_zero, Nat.zero_mul, Nat.add_zero] at ca0 ca1 ca2 ca3 hka
  have iha := rkid_says ih hc (by simp : a ∈ [a]) hka hda
  obtain ⟨hgl, hgT⟩ := hc.blk g hgo
  have hgood := good_val n a ps (by have := hc.num; unfold NumE at this; exact this.2.mem a (by simp)) hc.val
  have hlo := hc.lo
  have hval := hc.val
  have hfew := hc.few
  have htab := hc.tab
  have hnum := hc.num
  unfold NumE at hnum
  obtain ⟨SZ, hSZ⟩ : ∃ SZ, sizeE (.mk [110, 111, 116] num name [a]) = SZ := ⟨_, rfl⟩
  rw [hSZ] at hfew ⊢
  simp only [sizeE, sizeL] at hSZ
  simp only [List.length_cons, List.length_nil, Nat.zero_add] at hcc ⊢
  obtain ⟨x, hxx⟩ : ∃ x : ByteArray, (⟨([110, 111, 116] : List UInt8).toArray⟩ : ByteArray) = x := ⟨_, rfl⟩
  obtain ⟨nx, hnx⟩ : ∃ nx : ByteArray, (⟨name.toArray⟩ : ByteArray) = nx := ⟨_, rfl⟩
  have hxt : tl x = [110, 111, 116] := by rw [← hxx]; rfl
  have hxl : x.toList = [110, 111, 116] := by rw [Lib.toList_data]; exact hxt
  have hkd := fun W => rKids_any x W
  have has := fun W => rSets_any x W
  rw [hxt] at hkd has
  obtain ⟨R, hR⟩ : ∃ R : VRes, ((valueP n a ps).next fun m qs => .ok (truthI (m == 0)) qs) = R := ⟨_, rfl⟩
  rw [hR]
  replace hR := Lib.hid hR
  rw [hxx, hnx]
  have gnum : (x.toList == [110, 117, 109]) = false := by rw [hxl]; decide
  have gname : (x.toList == [110, 97, 109, 101]) = false := by rw [hxl]; decide
  have gneg : (x.toList == [110, 101, 103]) = false := by rw [hxl]; decide
  have gpos : (x.toList == [112, 111, 115]) = false := by rw [hxl]; decide
  have gnot : (x.toList == [110, 111, 116]) = true := by rw [hxl]; decide
  have gcom : (x.toList == [99, 111, 109]) = false := by rw [hxl]; decide
  obtain ⟨rk, hrk⟩ : ∃ r, valueP n a ps = r := ⟨_, rfl⟩
  have hR0 := hR.out
  rw [hrk] at hR0 hgood
  replace hR := Lib.hid hR0
  clear hx hkr ih hcm hxx hxt hxl hka hda hR0 hnum
  have iha : ∀ (W : World) (T1 : Nat → Prop), FrameTo w W T T1 → RTab W rb B ps N T1 → Calls Tryz.prog 44 #[.agg #[a0, a1, a2, a3], .pointer (some ⟨rb, 0, none⟩)] W (RValR W rb B N T1 (sizeE a) rk) := fun W T1 h1 h2 => by have := iha W ps N T1 h1 h2 hval (by omega); rwa [hrk] at this
  go_enter Tryz.func44, Tryz.ntmps44
  go_upto_region 1 with fail
  obtain ⟨w2, hW2, hs2, hgr, hcz, hfz, hold⟩ := one_new w #[.string x, .int .i64 num, .string nx, .slice (some ⟨g, off, none⟩) 1 cc] 37
  rw [hW2]
  obtain ⟨z, hz⟩ : ∃ z, w.heap.size = z := ⟨_, rfl⟩
  rw [hz] at hcz hs2 ⊢
  have q0 := hcz 0 _ rfl
  have q1 := hcz 1 _ rfl
  have q2 := hcz 2 _ rfl
  have q3 := hcz 3 _ rfl
  have ca0 := (World.cell?_of_block (a := ⟨g, off, none⟩) (hold g hgl)).trans ca0
  have ca1 := (World.cell?_of_block (a := ⟨g, off + 1, none⟩) (hold g hgl)).trans ca1
  have ca2 := (World.cell?_of_block (a := ⟨g, off + 2, none⟩) (hold g hgl)).trans ca2
  have ca3 := (World.cell?_of_block (a := ⟨g, off + 3, none⟩) (hold g hgl)).trans ca3
  have hg2 := hgr none
  have hzT : ¬ T z := fun h => by have := hc.tab.bd z h; omega
  clear hW2 hgr hcz hfz hold
  go_quiet ((go_at_call 66; refine Calls.quiet_of_same (hkd _)))
  have hgd : w2.grownBy (w2.drewN nq) none := ⟨rfl, rfl, rfl, Nat.le_refl _, fun _ _ _ => rfl⟩
  have q0 := hgd.cell q0 (by simp)
  have q1 := hgd.cell q1 (by simp)
  have q2 := hgd.cell q2 (by simp)
  have q3 := hgd.cell q3 (by simp)
  have ca0 := hgd.cell ca0 (by simp)
  have ca1 := hgd.cell ca1 (by simp)
  have ca2 := hgd.cell ca2 (by simp)
  have ca3 := hgd.cell ca3 (by simp)
  have hg3 := grownBy_trans' hg2 hgd
  clear hgd hg2 hs2 hkd
  generalize w2.drewN nq = w3 at *
  have htab3 := htab.grown hg3
  have hz3 : z < w3.heap.size := World.block_lt_of_cell? w3 ⟨z, 0, none⟩ q0
  have hfr3 : FrameTo w w3 T T := frame_grown hg3
  replace hz := Lib.hid hz
  replace hfr3 := Lib.hid hfr3
  replace htab3 := Lib.hid htab3
  clear htab hc
  go_wp2_with fail
  refine (has w3).mono ?_
  rintro e wq ⟨rfl, hwq⟩
  obtain rfl := hwq.symm
  clear has
  go_wp2_with fail
  refine (iha w3 T hfr3.out htab3.out).mono ?_
  intro e w6 h
  cases rk with
  | no c1 qs =>
    obtain ⟨⟨m1, rfl⟩, hc1, hmv⟩ := h
    have hcb : (c1 == 0) = false := by simpa using hc1
    obtain rfl : R = .no c1 qs := hR.out.symm
    clear iha hR hgood
    go_wp2
    go_ret2
    exact ⟨⟨_, rfl⟩, hc1, rv_end hg3 hmv (by omega)⟩
  | ok m1 qs =>
    obtain ⟨rfl, hmv⟩ := h
    obtain rfl : R = .ok (truthI (m1 == 0)) qs := hR.out.symm
    have q0 := rm_cell hmv q0 hzT
    have hone := rOne_any (m1 == 0) w6
    clear iha hR
    go_wp2_with fail
    refine hone.mono ?_
    rintro e wq ⟨rfl, hwq⟩
    obtain rfl := hwq.symm
    clear hone
    go_wp2
    go_ret2
    exact ⟨rfl, rv_end hg3 hmv (by omega)⟩

set_option maxHeartbeats 8000000 in
set_option maxRecDepth 100000 in
theorem rv_com (rb B n : Nat) (ih : RVal rb B n) (name : List UInt8) (num : Int) (a : E) (v : Value) (ok : Nat → Prop) (w : World) (ps : List Pr) (N : Nat) (T : Nat → Prop)
    (hx : ExR w ok (.mk [99, 111, 109] num name [a]) v) (hc : RPre w rb B ok (.mk [99, 111, 109] num name [a]) ps N T) (hda : dpLe n a = true)  :
    Calls Tryz.prog 44 #[v, .pointer (some ⟨rb, 0, none⟩)] w (RValR w rb B N T (sizeE (.mk [99, 111, 109] num name [a])) ((valueP n a ps).next fun m qs => .ok (bits BinOp.xor IntKind.i64 (-1) m) qs)) := by
  obtain ⟨A, cc, rfl, hcc, hcm, hkr⟩ := hx.form
  obtain ⟨g, off, rfl, hgo, hkr⟩ := hkr.resolve_left (by simp)
  obtain ⟨a0, a1, a2, a3, ca0, ca1, ca2, ca3, hka⟩ := hkr.at_ 0 (by simp)
  simp only [List.getElem_cons_zero, Nat.zero_mul, Nat.add_zero] at ca0 ca1 ca2 ca3 hka
  have iha := rkid_says ih hc (by simp : a ∈ [a]) hka hda
  obtain ⟨hgl, hgT⟩ := hc.blk g hgo
  have hgood := good_val n a ps (by have := hc.num; unfold NumE at this; exact this.2.mem a (by simp)) hc.val
  have hlo := hc.lo
  have hval := hc.val
  have hfew := hc.few
  have htab := hc.tab
  have hnum := hc.num
  unfold NumE at hnum
  obtain ⟨SZ, hSZ⟩ : ∃ SZ, sizeE (.mk [99, 111, 109] num name [a]) = SZ := ⟨_, rfl⟩
  rw [hSZ] at hfew ⊢
  simp only [sizeE, sizeL] at hSZ
  simp only [List.length_cons, List.length_nil, Nat.zero_add] at hcc ⊢
  obtain ⟨x, hxx⟩ : ∃ x : ByteArray, (⟨([99, 111, 109] : List UInt8).toArray⟩ : ByteArray) = x := ⟨_, rfl⟩
  obtain ⟨nx, hnx⟩ : ∃ nx : ByteArray, (⟨name.toArray⟩ : ByteArray) = nx := ⟨_, rfl⟩
  have hxt : tl x = [99, 111, 109] := by rw [← hxx]; rfl
  have hxl : x.toList = [99, 111, 109] := by rw [Lib.toList_data]; exact hxt
  have hkd := fun W => rKids_any x W
  have has := fun W => rSets_any x W
  rw [hxt] at hkd has
  obtain ⟨R, hR⟩ : ∃ R : VRes, ((valueP n a ps).next fun m qs => .ok (bits BinOp.xor IntKind.i64 (-1) m) qs) = R := ⟨_, rfl⟩
  rw [hR]
  replace hR := Lib.hid hR
  rw [hxx, hnx]
  have gnum : (x.toList == [110, 117, 109]) = false := by rw [hxl]; decide
  have gname : (x.toList == [110, 97, 109, 101]) = false := by rw [hxl]; decide
  have gneg : (x.toList == [110, 101, 103]) = false := by rw [hxl]; decide
  have gpos : (x.toList == [112, 111, 115]) = false := by rw [hxl]; decide
  have gnot : (x.toList == [110, 111, 116]) = false := by rw [hxl]; decide
  have gcom : (x.toList == [99, 111, 109]) = true := by rw [hxl]; decide
  obtain ⟨rk, hrk⟩ : ∃ r, valueP n a ps = r := ⟨_, rfl⟩
  have hR0 := hR.out
  rw [hrk] at hR0 hgood
  replace hR := Lib.hid hR0
  clear hx hkr ih hcm hxx hxt hxl hka hda hR0 hnum
  have iha : ∀ (W : World) (T1 : Nat → Prop), FrameTo w W T T1 → RTab W rb B ps N T1 → Calls Tryz.prog 44 #[.agg #[a0, a1, a2, a3], .pointer (some ⟨rb, 0, none⟩)] W (RValR W rb B N T1 (sizeE a) rk) := fun W T1 h1 h2 => by have := iha W ps N T1 h1 h2 hval (by omega); rwa [hrk] at this
  go_enter Tryz.func44, Tryz.ntmps44
  go_upto_region 1 with fail
  obtain ⟨w2, hW2, hs2, hgr, hcz, hfz, hold⟩ := one_new w #[.string x, .int .i64 num, .string nx, .slice (some ⟨g, off, none⟩) 1 cc] 37
  rw [hW2]
  obtain ⟨z, hz⟩ : ∃ z, w.heap.size = z := ⟨_, rfl⟩
  rw [hz] at hcz hs2 ⊢
  have q0 := hcz 0 _ rfl
  have q1 := hcz 1 _ rfl
  have q2 := hcz 2 _ rfl
  have q3 := hcz 3 _ rfl
  have ca0 := (World.cell?_of_block (a := ⟨g, off, none⟩) (hold g hgl)).trans ca0
  have ca1 := (World.cell?_of_block (a := ⟨g, off + 1, none⟩) (hold g hgl)).trans ca1
  have ca2 := (World.cell?_of_block (a := ⟨g, off + 2, none⟩) (hold g hgl)).trans ca2
  have ca3 := (World.cell?_of_block (a := ⟨g, off + 3, none⟩) (hold g hgl)).trans ca3
  have hg2 := hgr none
  have hzT : ¬ T z := fun h => by have := hc.tab.bd z h; omega
  clear hW2 hgr hcz hfz hold
  go_quiet ((go_at_call 66; refine Calls.quiet_of_same (hkd _)))
  have hgd : w2.grownBy (w2.drewN nq) none := ⟨rfl, rfl, rfl, Nat.le_refl _, fun _ _ _ => rfl⟩
  have q0 := hgd.cell q0 (by simp)
  have q1 := hgd.cell q1 (by simp)
  have q2 := hgd.cell q2 (by simp)
  have q3 := hgd.cell q3 (by simp)
  have ca0 := hgd.cell ca0 (by simp)
  have ca1 := hgd.cell ca1 (by simp)
  have ca2 := hgd.cell ca2 (by simp)
  have ca3 := hgd.cell ca3 (by simp)
  have hg3 := grownBy_trans' hg2 hgd
  clear hgd hg2 hs2 hkd
  generalize w2.drewN nq = w3 at *
  have htab3 := htab.grown hg3
  have hz3 : z < w3.heap.size := World.block_lt_of_cell? w3 ⟨z, 0, none⟩ q0
  have hfr3 : FrameTo w w3 T T := frame_grown hg3
  replace hz := Lib.hid hz
  replace hfr3 := Lib.hid hfr3
  replace htab3 := Lib.hid htab3
  clear htab hc
  go_wp2_with fail
  refine (has w3).mono ?_
  rintro e wq ⟨rfl, hwq⟩
  obtain rfl := hwq.symm
  clear has
  go_wp2_with fail
  refine (iha w3 T hfr3.out htab3.out).mono ?_
  intro e w6 h
  cases rk with
  | no c1 qs =>
    obtain ⟨⟨m1, rfl⟩, hc1, hmv⟩ := h
    have hcb : (c1 == 0) = false := by simpa using hc1
    obtain rfl : R = .no c1 qs := hR.out.symm
    clear iha hR hgood
    go_wp2
    go_ret2
    exact ⟨⟨_, rfl⟩, hc1, rv_end hg3 hmv (by omega)⟩
  | ok m1 qs =>
    obtain ⟨rfl, hmv⟩ := h
    obtain rfl : R = .ok (bits BinOp.xor IntKind.i64 (-1) m1) qs := hR.out.symm
    have q0 := rm_cell hmv q0 hzT
    have e1 : wrap64 (-1 - m1) = bits BinOp.xor IntKind.i64 (-1) m1 := by rw [ar_com (hgood.2.2 m1 qs rfl)]; simp only [wrap64_bv, Int.sub_eq_add_neg, BitVec.ofInt_add, BitVec.ofInt_neg, BitVec.ofInt_toInt]; rw [BitVec.add_comm]
    clear iha hR
    go_wp2
    go_ret2
    exact ⟨ret_two e1, rv_end hg3 hmv (by omega)⟩

set_option maxHeartbeats 8000000 in
set_option maxRecDepth 100000 in
theorem rv_bad (rb B : Nat) (op : List UInt8) (name : List UInt8) (num : Int) (kids : List E) (v : Value) (ok : Nat → Prop) (w : World) (ps : List Pr) (N : Nat) (T : Nat → Prop)
    (hx : ExR w ok (.mk op num name kids) v) (hc : RPre w rb B ok (.mk op num name kids) ps N T)  (hK : ¬ (kids.length : Int) = kidsV op) :
    Calls Tryz.prog 44 #[v, .pointer (some ⟨rb, 0, none⟩)] w (RValR w rb B N T (sizeE (.mk op num name kids)) (.no 1 ps)) := by
  obtain ⟨A, cc, rfl, hcc, hcm, hkr⟩ := hx.form
  have hlo := hc.lo
  have hval := hc.val
  have hfew := hc.few
  have htab := hc.tab
  have hnum := hc.num
  unfold NumE at hnum
  obtain ⟨SZ, hSZ⟩ : ∃ SZ, sizeE (.mk op num name kids) = SZ := ⟨_, rfl⟩
  rw [hSZ] at hfew ⊢
  simp only [sizeE] at hSZ
  unfold maxLen at hcm
  obtain ⟨x, hxx⟩ : ∃ x : ByteArray, (⟨(op : List UInt8).toArray⟩ : ByteArray) = x := ⟨_, rfl⟩
  obtain ⟨nx, hnx⟩ : ∃ nx : ByteArray, (⟨name.toArray⟩ : ByteArray) = nx := ⟨_, rfl⟩
  have hxt : tl x = op := by rw [← hxx]; rfl
  have hxl : x.toList = op := by rw [Lib.toList_data]; exact hxt
  have hkd := fun W => rKids_any x W
  have has := fun W => rSets_any x W
  rw [hxt] at hkd has
  obtain ⟨R, hR⟩ : ∃ R : VRes, (.no 1 ps) = R := ⟨_, rfl⟩
  rw [hR]
  replace hR := Lib.hid hR
  rw [hxx, hnx]
  obtain ⟨KL, hKL⟩ : ∃ KL, kids.length = KL := ⟨_, rfl⟩
  rw [hKL] at hcc ⊢
  have htab0 := hc.tab
  have kne : (kidsV op != (KL : Int)) = true := by
    rw [← hKL, bne_iff_ne]
    exact fun e => hK e.symm
  obtain ⟨KV, hKV⟩ : ∃ KV, kidsV op = KV := ⟨_, rfl⟩
  rw [hKV] at hkd kne
  clear hKL hK hKV has
  clear hx hkr hcm hxx hxt hxl   
  go_enter Tryz.func44, Tryz.ntmps44
  go_upto_region 1 with fail
  obtain ⟨w2, hW2, hs2, hgr, hcz, hfz, hold⟩ := one_new w #[.string x, .int .i64 num, .string nx, .slice A KL cc] 37
  rw [hW2]
  obtain ⟨z, hz⟩ : ∃ z, w.heap.size = z := ⟨_, rfl⟩
  rw [hz] at hcz hs2 ⊢
  have q0 := hcz 0 _ rfl
  have q1 := hcz 1 _ rfl
  have q2 := hcz 2 _ rfl
  have q3 := hcz 3 _ rfl
  have hg2 := hgr none
  have hzT : ¬ T z := fun h => by have := hc.tab.bd z h; omega
  clear hW2 hgr hcz hfz hold
  go_quiet ((go_at_call 66; refine Calls.quiet_of_same (hkd _)))
  have hgd : w2.grownBy (w2.drewN nq) none := ⟨rfl, rfl, rfl, Nat.le_refl _, fun _ _ _ => rfl⟩
  have q0 := hgd.cell q0 (by simp)
  have q1 := hgd.cell q1 (by simp)
  have q2 := hgd.cell q2 (by simp)
  have q3 := hgd.cell q3 (by simp)
  have hg3 := grownBy_trans' hg2 hgd
  clear hgd hg2 hs2 hkd
  generalize w2.drewN nq = w3 at *
  have htab3 := htab.grown hg3
  have hz3 : z < w3.heap.size := World.block_lt_of_cell? w3 ⟨z, 0, none⟩ q0
  have hfr3 : FrameTo w w3 T T := frame_grown hg3
  replace hz := Lib.hid hz
  replace hfr3 := Lib.hid hfr3
  replace htab3 := Lib.hid htab3
  clear htab hc
  obtain rfl : R = .no 1 ps := hR.out.symm
  go_wp2
  go_ret2
  exact ⟨⟨_, rfl⟩, by decide, RMove.still htab0 hg3 (by omega)⟩

set_option maxHeartbeats 8000000 in
set_option maxRecDepth 100000 in
theorem rv_num (rb B : Nat) (op : List UInt8) (name : List UInt8) (num : Int) (kids : List E) (v : Value) (ok : Nat → Prop) (w : World) (ps : List Pr) (N : Nat) (T : Nat → Prop)
    (hx : ExR w ok (.mk op num name kids) v) (hc : RPre w rb B ok (.mk op num name kids) ps N T)  (hK : (kids.length : Int) = kidsV op) (hop : op = [110, 117, 109]) :
    Calls Tryz.prog 44 #[v, .pointer (some ⟨rb, 0, none⟩)] w (RValR w rb B N T (sizeE (.mk op num name kids)) (.ok num ps)) := by
  obtain ⟨A, cc, rfl, hcc, hcm, hkr⟩ := hx.form
  have hlo := hc.lo
  have hval := hc.val
  have hfew := hc.few
  have htab := hc.tab
  have hnum := hc.num
  unfold NumE at hnum
  obtain ⟨SZ, hSZ⟩ : ∃ SZ, sizeE (.mk op num name kids) = SZ := ⟨_, rfl⟩
  rw [hSZ] at hfew ⊢
  simp only [sizeE] at hSZ
  unfold maxLen at hcm
  obtain ⟨x, hxx⟩ : ∃ x : ByteArray, (⟨(op : List UInt8).toArray⟩ : ByteArray) = x := ⟨_, rfl⟩
  obtain ⟨nx, hnx⟩ : ∃ nx : ByteArray, (⟨name.toArray⟩ : ByteArray) = nx := ⟨_, rfl⟩
  have hxt : tl x = op := by rw [← hxx]; rfl
  have hxl : x.toList = op := by rw [Lib.toList_data]; exact hxt
  have hkd := fun W => rKids_any x W
  have has := fun W => rSets_any x W
  rw [hxt] at hkd has
  obtain ⟨R, hR⟩ : ∃ R : VRes, (.ok num ps) = R := ⟨_, rfl⟩
  rw [hR]
  replace hR := Lib.hid hR
  rw [hxx, hnx]
  have gnum : (x.toList == [110, 117, 109]) = true := by rw [hxl, hop]; decide
  obtain ⟨KL, hKL⟩ : ∃ KL, kids.length = KL := ⟨_, rfl⟩
  rw [hKL] at hcc ⊢
  have htab0 := hc.tab
  have kne : (kidsV op != (KL : Int)) = false := by rw [← hKL, hK]; simp
  obtain ⟨KV, hKV⟩ : ∃ KV, kidsV op = KV := ⟨_, rfl⟩
  rw [hKV] at hkd kne
  clear hKL hK hKV
  clear has hop
  clear hx hkr hcm hxx hxt hxl   
  go_enter Tryz.func44, Tryz.ntmps44
  go_upto_region 1 with fail
  obtain ⟨w2, hW2, hs2, hgr, hcz, hfz, hold⟩ := one_new w #[.string x, .int .i64 num, .string nx, .slice A KL cc] 37
  rw [hW2]
  obtain ⟨z, hz⟩ : ∃ z, w.heap.size = z := ⟨_, rfl⟩
  rw [hz] at hcz hs2 ⊢
  have q0 := hcz 0 _ rfl
  have q1 := hcz 1 _ rfl
  have q2 := hcz 2 _ rfl
  have q3 := hcz 3 _ rfl
  have hg2 := hgr none
  have hzT : ¬ T z := fun h => by have := hc.tab.bd z h; omega
  clear hW2 hgr hcz hfz hold
  go_quiet ((go_at_call 66; refine Calls.quiet_of_same (hkd _)))
  have hgd : w2.grownBy (w2.drewN nq) none := ⟨rfl, rfl, rfl, Nat.le_refl _, fun _ _ _ => rfl⟩
  have q0 := hgd.cell q0 (by simp)
  have q1 := hgd.cell q1 (by simp)
  have q2 := hgd.cell q2 (by simp)
  have q3 := hgd.cell q3 (by simp)
  have hg3 := grownBy_trans' hg2 hgd
  clear hgd hg2 hs2 hkd
  generalize w2.drewN nq = w3 at *
  have htab3 := htab.grown hg3
  have hz3 : z < w3.heap.size := World.block_lt_of_cell? w3 ⟨z, 0, none⟩ q0
  have hfr3 : FrameTo w w3 T T := frame_grown hg3
  replace hz := Lib.hid hz
  replace hfr3 := Lib.hid hfr3
  replace htab3 := Lib.hid htab3
  clear htab hc
  obtain rfl : R = .ok num ps := hR.out.symm
  go_wp2
  go_ret2
  exact ⟨rfl, RMove.still htab0 hg3 (by omega)⟩

set_option maxHeartbeats 8000000 in
set_option maxRecDepth 100000 in
theorem rv_name (rb B : Nat) (op : List UInt8) (name : List UInt8) (num : Int) (kids : List E) (v : Value) (ok : Nat → Prop) (w : World) (ps : List Pr) (N : Nat) (T : Nat → Prop)
    (hx : ExR w ok (.mk op num name kids) v) (hc : RPre w rb B ok (.mk op num name kids) ps N T)  (hK : (kids.length : Int) = kidsV op) (hop : op = [110, 97, 109, 101]) :
    Calls Tryz.prog 44 #[v, .pointer (some ⟨rb, 0, none⟩)] w (RValR w rb B N T (sizeE (.mk op num name kids)) (getR ps name)) := by
  obtain ⟨A, cc, rfl, hcc, hcm, hkr⟩ := hx.form
  have hlo := hc.lo
  have hval := hc.val
  have hfew := hc.few
  have htab := hc.tab
  have hnum := hc.num
  unfold NumE at hnum
  obtain ⟨SZ, hSZ⟩ : ∃ SZ, sizeE (.mk op num name kids) = SZ := ⟨_, rfl⟩
  rw [hSZ] at hfew ⊢
  simp only [sizeE] at hSZ
  unfold maxLen at hcm
  obtain ⟨x, hxx⟩ : ∃ x : ByteArray, (⟨(op : List UInt8).toArray⟩ : ByteArray) = x := ⟨_, rfl⟩
  obtain ⟨nx, hnx⟩ : ∃ nx : ByteArray, (⟨name.toArray⟩ : ByteArray) = nx := ⟨_, rfl⟩
  have hxt : tl x = op := by rw [← hxx]; rfl
  have hxl : x.toList = op := by rw [Lib.toList_data]; exact hxt
  have hkd := fun W => rKids_any x W
  have has := fun W => rSets_any x W
  rw [hxt] at hkd has
  obtain ⟨R, hR⟩ : ∃ R : VRes, (getR ps name) = R := ⟨_, rfl⟩
  rw [hR]
  replace hR := Lib.hid hR
  rw [hxx, hnx]
  have gnum : (x.toList == [110, 117, 109]) = false := by rw [hxl, hop]; decide
  have gname : (x.toList == [110, 97, 109, 101]) = true := by rw [hxl, hop]; decide
  obtain ⟨KL, hKL⟩ : ∃ KL, kids.length = KL := ⟨_, rfl⟩
  rw [hKL] at hcc ⊢
  have htab0 := hc.tab
  have kne : (kidsV op != (KL : Int)) = false := by rw [← hKL, hK]; simp
  obtain ⟨KV, hKV⟩ : ∃ KV, kidsV op = KV := ⟨_, rfl⟩
  rw [hKV] at hkd kne
  clear hKL hK hKV
  clear has hop
  clear hx hkr hcm hxx hxt hxl   
  go_enter Tryz.func44, Tryz.ntmps44
  go_upto_region 1 with fail
  obtain ⟨w2, hW2, hs2, hgr, hcz, hfz, hold⟩ := one_new w #[.string x, .int .i64 num, .string nx, .slice A KL cc] 37
  rw [hW2]
  obtain ⟨z, hz⟩ : ∃ z, w.heap.size = z := ⟨_, rfl⟩
  rw [hz] at hcz hs2 ⊢
  have q0 := hcz 0 _ rfl
  have q1 := hcz 1 _ rfl
  have q2 := hcz 2 _ rfl
  have q3 := hcz 3 _ rfl
  have hg2 := hgr none
  have hzT : ¬ T z := fun h => by have := hc.tab.bd z h; omega
  clear hW2 hgr hcz hfz hold
  go_quiet ((go_at_call 66; refine Calls.quiet_of_same (hkd _)))
  have hgd : w2.grownBy (w2.drewN nq) none := ⟨rfl, rfl, rfl, Nat.le_refl _, fun _ _ _ => rfl⟩
  have q0 := hgd.cell q0 (by simp)
  have q1 := hgd.cell q1 (by simp)
  have q2 := hgd.cell q2 (by simp)
  have q3 := hgd.cell q3 (by simp)
  have hg3 := grownBy_trans' hg2 hgd
  clear hgd hg2 hs2 hkd
  generalize w2.drewN nq = w3 at *
  have htab3 := htab.grown hg3
  have hz3 : z < w3.heap.size := World.block_lt_of_cell? w3 ⟨z, 0, none⟩ q0
  have hfr3 : FrameTo w w3 T T := frame_grown hg3
  replace hz := Lib.hid hz
  replace hfr3 := Lib.hid hfr3
  replace htab3 := Lib.hid htab3
  clear htab hc
  have hnu := rNum_any nx rb B ps N T w3 htab3.out hval
  have hR1 := hR.out
  unfold getR nmB at hR1
  rw [hnx] at hR1
  cases hg : getV ps nx with
  | some m =>
    rw [hg] at hR1 hnu
    obtain rfl : R = .ok m ps := hR1.symm
    simp only [numR] at hnu
    clear hR hR1 hg
    go_wp2_with fail
    refine hnu.mono ?_
    rintro e wq ⟨rfl, hwq⟩
    obtain rfl := hwq.symm
    clear hnu
    go_wp2
    go_ret2
    exact ⟨rfl, RMove.still htab0 hg3 (by omega)⟩
  | none =>
    rw [hg] at hR1 hnu
    obtain rfl : R = .no 23 ps := hR1.symm
    simp only [numR] at hnu
    clear hR hR1 hg
    go_wp2_with fail
    refine hnu.mono ?_
    rintro e wq ⟨rfl, hwq⟩
    obtain rfl := hwq.symm
    clear hnu
    go_wp2
    go_ret2
    exact ⟨⟨_, rfl⟩, by decide, RMove.still htab0 hg3 (by omega)⟩

set_option maxHeartbeats 8000000 in
set_option maxRecDepth 100000 in
theorem rv_three (rb B n : Nat) (ih : RVal rb B n) (name : List UInt8) (num : Int) (a b c : E) (v : Value) (ok : Nat → Prop) (w : World) (ps : List Pr) (N : Nat) (T : Nat → Prop)
    (hx : ExR w ok (.mk [63] num name [a, b, c]) v) (hc : RPre w rb B ok (.mk [63] num name [a, b, c]) ps N T) (hda : dpLe n a = true) (hdb : dpLe n b = true) (hdc : dpLe n c = true)  :
    Calls Tryz.prog 44 #[v, .pointer (some ⟨rb, 0, none⟩)] w (RValR w rb B N T (sizeE (.mk [63] num name [a, b, c])) ((valueP n a ps).next fun x qs => if ¬ x = 0 then valueP n b qs else valueP n c qs)) := by
  obtain ⟨A, cc, rfl, hcc, hcm, hkr⟩ := hx.form
  obtain ⟨g, off, rfl, hgo, hkr⟩ := hkr.resolve_left (by simp)
  obtain ⟨a0, a1, a2, a3, ca0, ca1, ca2, ca3, hka⟩ := hkr.at_ 0 (by simp)
  obtain ⟨b0, b1, b2, b3, cb0, cb1, cb2, cb3, hkb⟩ := hkr.at_ 1 (by simp)
  obtain ⟨c0, c1, c2, c3, cc0, cc1, cc2, cc3, hkc⟩ := hkr.at_ 2 (by simp)
  simp only [List.getElem_cons_zero, List.getElem_cons_succ, Nat.zero_mul, Nat.add_zero, Nat.one_mul, Nat.reduceMul] at ca0 ca1 ca2 ca3 cb0 cb1 cb2 cb3 cc0 cc1 cc2 cc3 hka hkb hkc
  have iha := rkid_says ih hc (by simp : a ∈ [a, b, c]) hka hda
  have ihb := rkid_says ih hc (by simp : b ∈ [a, b, c]) hkb hdb
  have ihc := rkid_says ih hc (by simp : c ∈ [a, b, c]) hkc hdc
  obtain ⟨hgl, hgT⟩ := hc.blk g hgo
  have hgood := good_val n a ps (by have := hc.num; unfold NumE at this; exact this.2.mem a (by simp)) hc.val
  have hlo := hc.lo
  have hval := hc.val
  have hfew := hc.few
  have htab := hc.tab
  have hnum := hc.num
  unfold NumE at hnum
  obtain ⟨SZ, hSZ⟩ : ∃ SZ, sizeE (.mk [63] num name [a, b, c]) = SZ := ⟨_, rfl⟩
  rw [hSZ] at hfew ⊢
  simp only [sizeE, sizeL] at hSZ
  simp only [List.length_cons, List.length_nil, Nat.zero_add, Nat.reduceAdd] at hcc ⊢
  obtain ⟨x, hxx⟩ : ∃ x : ByteArray, (⟨([63] : List UInt8).toArray⟩ : ByteArray) = x := ⟨_, rfl⟩
  obtain ⟨nx, hnx⟩ : ∃ nx : ByteArray, (⟨name.toArray⟩ : ByteArray) = nx := ⟨_, rfl⟩
  have hxt : tl x = [63] := by rw [← hxx]; rfl
  have hxl : x.toList = [63] := by rw [Lib.toList_data]; exact hxt
  have hkd := fun W => rKids_any x W
  have has := fun W => rSets_any x W
  rw [hxt] at hkd has
  obtain ⟨R, hR⟩ : ∃ R : VRes, ((valueP n a ps).next fun x qs => if ¬ x = 0 then valueP n b qs else valueP n c qs) = R := ⟨_, rfl⟩
  rw [hR]
  replace hR := Lib.hid hR
  rw [hxx, hnx]
  have gnum : (x.toList == [110, 117, 109]) = false := by rw [hxl]; decide
  have gname : (x.toList == [110, 97, 109, 101]) = false := by rw [hxl]; decide
  have gneg : (x.toList == [110, 101, 103]) = false := by rw [hxl]; decide
  have gpos : (x.toList == [112, 111, 115]) = false := by rw [hxl]; decide
  have gnot : (x.toList == [110, 111, 116]) = false := by rw [hxl]; decide
  have gcom : (x.toList == [99, 111, 109]) = false := by rw [hxl]; decide
  have gq : (x.toList == [63]) = true := by rw [hxl]; decide
  obtain ⟨rk, hrk⟩ : ∃ r, valueP n a ps = r := ⟨_, rfl⟩
  have hR0 := hR.out
  rw [hrk] at hR0 hgood
  replace hR := Lib.hid hR0
  clear hx hkr ih hcm hxx hxt hxl hka hkb hkc hda hdb hdc hR0 hnum
  have iha : ∀ (W : World) (T1 : Nat → Prop), FrameTo w W T T1 → RTab W rb B ps N T1 → Calls Tryz.prog 44 #[.agg #[a0, a1, a2, a3], .pointer (some ⟨rb, 0, none⟩)] W (RValR W rb B N T1 (sizeE a) rk) := fun W T1 h1 h2 => by have := iha W ps N T1 h1 h2 hval (by omega); rwa [hrk] at this
  clear hrk
  go_enter Tryz.func44, Tryz.ntmps44
  go_upto_region 1 with fail
  obtain ⟨w2, hW2, hs2, hgr, hcz, hfz, hold⟩ := one_new w #[.string x, .int .i64 num, .string nx, .slice (some ⟨g, off, none⟩) 3 cc] 37
  rw [hW2]
  obtain ⟨z, hz⟩ : ∃ z, w.heap.size = z := ⟨_, rfl⟩
  rw [hz] at hcz hs2 ⊢
  have q0 := hcz 0 _ rfl
  have q1 := hcz 1 _ rfl
  have q2 := hcz 2 _ rfl
  have q3 := hcz 3 _ rfl
  have ca0 := (World.cell?_of_block (a := ⟨g, off, none⟩) (hold g hgl)).trans ca0
  have ca1 := (World.cell?_of_block (a := ⟨g, off + 1, none⟩) (hold g hgl)).trans ca1
  have ca2 := (World.cell?_of_block (a := ⟨g, off + 2, none⟩) (hold g hgl)).trans ca2
  have ca3 := (World.cell?_of_block (a := ⟨g, off + 3, none⟩) (hold g hgl)).trans ca3
  have cb0 := (World.cell?_of_block (a := ⟨g, off + 4, none⟩) (hold g hgl)).trans cb0
  have cb1 := (World.cell?_of_block (a := ⟨g, off + 4 + 1, none⟩) (hold g hgl)).trans cb1
  have cb2 := (World.cell?_of_block (a := ⟨g, off + 4 + 2, none⟩) (hold g hgl)).trans cb2
  have cb3 := (World.cell?_of_block (a := ⟨g, off + 4 + 3, none⟩) (hold g hgl)).trans cb3
  have cc0 := (World.cell?_of_block (a := ⟨g, off + 8, none⟩) (hold g hgl)).trans cc0
  have cc1 := (World.cell?_of_block (a := ⟨g, off + 8 + 1, none⟩) (hold g hgl)).trans cc1
  have cc2 := (World.cell?_of_block (a := ⟨g, off + 8 + 2, none⟩) (hold g hgl)).trans cc2
  have cc3 := (World.cell?_of_block (a := ⟨g, off + 8 + 3, none⟩) (hold g hgl)).trans cc3
  have hg2 := hgr none
  have hzT : ¬ T z := fun h => by have := hc.tab.bd z h; omega
  clear hW2 hgr hcz hfz hold
  go_quiet ((go_at_call 66; refine Calls.quiet_of_same (hkd _)))
  have hgd : w2.grownBy (w2.drewN nq) none := ⟨rfl, rfl, rfl, Nat.le_refl _, fun _ _ _ => rfl⟩
  have q0 := hgd.cell q0 (by simp)
  have q1 := hgd.cell q1 (by simp)
  have q2 := hgd.cell q2 (by simp)
  have q3 := hgd.cell q3 (by simp)
  have ca0 := hgd.cell ca0 (by simp)
  have ca1 := hgd.cell ca1 (by simp)
  have ca2 := hgd.cell ca2 (by simp)
  have ca3 := hgd.cell ca3 (by simp)
  have cb0 := hgd.cell cb0 (by simp)
  have cb1 := hgd.cell cb1 (by simp)
  have cb2 := hgd.cell cb2 (by simp)
  have cb3 := hgd.cell cb3 (by simp)
  have cc0 := hgd.cell cc0 (by simp)
  have cc1 := hgd.cell cc1 (by simp)
  have cc2 := hgd.cell cc2 (by simp)
  have cc3 := hgd.cell cc3 (by simp)
  have hg3 := grownBy_trans' hg2 hgd
  clear hgd hg2 hs2 hkd
  generalize w2.drewN nq = w3 at *
  have htab3 := htab.grown hg3
  have hz3 : z < w3.heap.size := World.block_lt_of_cell? w3 ⟨z, 0, none⟩ q0
  have hfr3 : FrameTo w w3 T T := frame_grown hg3
  replace hz := Lib.hid hz
  replace hfr3 := Lib.hid hfr3
  replace htab3 := Lib.hid htab3
  clear htab hc
  go_wp2_with fail
  refine (has w3).mono ?_
  rintro e wq ⟨rfl, hwq⟩
  obtain rfl := hwq.symm
  clear has
  have hgT3 : ¬ T g := hgT
  go_wp2_with fail
  refine (iha w3 T hfr3.out htab3.out).mono ?_
  intro e w6 h
  cases rk with
  | no c1 qs =>
    obtain ⟨⟨m1, rfl⟩, hc1, hmv⟩ := h
    have hcb : (c1 == 0) = false := by simpa using hc1
    obtain rfl : R = .no c1 qs := hR.out.symm
    clear iha hR hgood ihb ihc
    go_wp2
    go_ret2
    exact ⟨⟨_, rfl⟩, hc1, rv_end hg3 hmv (by omega)⟩
  | ok m1 qs =>
    obtain ⟨rfl, hmv⟩ := h
    have q0 := rm_cell hmv q0 hzT
    have q1 := rm_cell hmv q1 hzT
    have q2 := rm_cell hmv q2 hzT
    have q3 := rm_cell hmv q3 hzT
    have cb0 := rm_cell hmv cb0 hgT
    have cb1 := rm_cell hmv cb1 hgT
    have cb2 := rm_cell hmv cb2 hgT
    have cb3 := rm_cell hmv cb3 hgT
    have cc0 := rm_cell hmv cc0 hgT
    have cc1 := rm_cell hmv cc1 hgT
    have cc2 := rm_cell hmv cc2 hgT
    have cc3 := rm_cell hmv cc3 hgT
    obtain ⟨T1, htab1, hsub1⟩ := hmv.tab
    have hfr6 := hfr3.out.move hmv hsub1
    have hvq : Vals qs := hgood.1
    have hm1 : InR m1 := hgood.2.2 m1 qs rfl
    have ihb6 := ihb w6 qs (N + sizeE a) T1 hfr6 htab1 hvq (by omega)
    have ihc6 := ihc w6 qs (N + sizeE a) T1 hfr6 htab1 hvq (by omega)
    have hmv0 := rv_end (sz2 := SZ) hg3 hmv (by omega)
    replace hmv := Lib.hid hmv
    replace hsub1 := Lib.hid hsub1
    replace hmv0 := Lib.hid hmv0
    replace hvq := Lib.hid hvq
    clear iha ihb ihc ca0 ca1 ca2 ca3 hfr6 htab1 hgood
    have hR1 := hR.out
    simp only [VRes.next] at hR1
    by_cases h0 : m1 = 0
    · have k0 : (m1 == 0) = true := by rw [h0]; rfl
      rw [if_neg (by simp [h0])] at hR1
      clear h0 ihb6
      obtain ⟨r2, hr2⟩ : ∃ r, valueP n c qs = r := ⟨_, rfl⟩
      rw [hr2] at ihc6
      obtain rfl : R = r2 := by rw [← hr2]; exact hR1.symm
      clear hR hR1 hr2
      go_wp2_with fail
      refine ihc6.mono ?_
      intro e w7 h
      cases R with
      | no c2 rs =>
        obtain ⟨⟨m2, rfl⟩, hc2, hmv2⟩ := h
        go_wp2
        go_ret2
        exact ⟨⟨_, rfl⟩, hc2, RMove.pre hg3 (RMove.then hmv.out hsub1.out (hmv2.more (by omega)))⟩
      | ok m2 rs =>
        obtain ⟨rfl, hmv2⟩ := h
        go_wp2
        go_ret2
        exact ⟨rfl, RMove.pre hg3 (RMove.then hmv.out hsub1.out (hmv2.more (by omega)))⟩
    · have k0 : (m1 == 0) = false := by simpa using h0
      rw [if_pos h0] at hR1
      clear h0 ihc6
      obtain ⟨r2, hr2⟩ : ∃ r, valueP n b qs = r := ⟨_, rfl⟩
      rw [hr2] at ihb6
      obtain rfl : R = r2 := by rw [← hr2]; exact hR1.symm
      clear hR hR1 hr2
      go_wp2_with fail
      refine ihb6.mono ?_
      intro e w7 h
      cases R with
      | no c2 rs =>
        obtain ⟨⟨m2, rfl⟩, hc2, hmv2⟩ := h
        go_wp2
        go_ret2
        exact ⟨⟨_, rfl⟩, hc2, RMove.pre hg3 (RMove.then hmv.out hsub1.out (hmv2.more (by omega)))⟩
      | ok m2 rs =>
        obtain ⟨rfl, hmv2⟩ := h
        go_wp2
        go_ret2
        exact ⟨rfl, RMove.pre hg3 (RMove.then hmv.out hsub1.out (hmv2.more (by omega)))⟩

set_option maxHeartbeats 8000000 in
set_option maxRecDepth 100000 in
theorem rv_and (rb B n : Nat) (ih : RVal rb B n) (name : List UInt8) (num : Int) (a b : E) (v : Value) (ok : Nat → Prop) (w : World) (ps : List Pr) (N : Nat) (T : Nat → Prop)
    (hx : ExR w ok (.mk [38, 38] num name [a, b]) v) (hc : RPre w rb B ok (.mk [38, 38] num name [a, b]) ps N T) (hda : dpLe n a = true) (hdb : dpLe n b = true)  :
    Calls Tryz.prog 44 #[v, .pointer (some ⟨rb, 0, none⟩)] w (RValR w rb B N T (sizeE (.mk [38, 38] num name [a, b])) ((valueP n a ps).next fun x qs => if ¬ x = 0 then (valueP n b qs).next fun y rs => .ok (truthI (!(y == 0))) rs else .ok 0 qs)) := by
  obtain ⟨A, cc, rfl, hcc, hcm, hkr⟩ := hx.form
  obtain ⟨g, off, rfl, hgo, hkr⟩ := hkr.resolve_left (by simp)
  obtain ⟨a0, a1, a2, a3, ca0, ca1, ca2, ca3, hka⟩ := hkr.at_ 0 (by simp)
  obtain ⟨b0, b1, b2, b3, cb0, cb1, cb2, cb3, hkb⟩ := hkr.at_ 1 (by simp)
  simp only [List.getElem_cons_zero, List.getElem_cons_succ, Nat.zero_mul, Nat.add_zero, Nat.one_mul] at ca0 ca1 ca2 ca3 cb0 cb1 cb2 cb3 hka hkb
  have iha := rkid_says ih hc (by simp : a ∈ [a, b]) hka hda
  have ihb := rkid_says ih hc (by simp : b ∈ [a, b]) hkb hdb
  obtain ⟨hgl, hgT⟩ := hc.blk g hgo
  have hgood := good_val n a ps (by have := hc.num; unfold NumE at this; exact this.2.mem a (by simp)) hc.val
  have hlo := hc.lo
  have hval := hc.val
  have hfew := hc.few
  have htab := hc.tab
  have hnum := hc.num
  unfold NumE at hnum
  obtain ⟨SZ, hSZ⟩ : ∃ SZ, sizeE (.mk [38, 38] num name [a, b]) = SZ := ⟨_, rfl⟩
  rw [hSZ] at hfew ⊢
  simp only [sizeE, sizeL] at hSZ
  simp only [List.length_cons, List.length_nil, Nat.zero_add, Nat.reduceAdd] at hcc ⊢
  obtain ⟨x, hxx⟩ : ∃ x : ByteArray, (⟨([38, 38] : List UInt8).toArray⟩ : ByteArray) = x := ⟨_, rfl⟩
  obtain ⟨nx, hnx⟩ : ∃ nx : ByteArray, (⟨name.toArray⟩ : ByteArray) = nx := ⟨_, rfl⟩
  have hxt : tl x = [38, 38] := by rw [← hxx]; rfl
  have hxl : x.toList = [38, 38] := by rw [Lib.toList_data]; exact hxt
  have hkd := fun W => rKids_any x W
  have has := fun W => rSets_any x W
  rw [hxt] at hkd has
  obtain ⟨R, hR⟩ : ∃ R : VRes, ((valueP n a ps).next fun x qs => if ¬ x = 0 then (valueP n b qs).next fun y rs => .ok (truthI (!(y == 0))) rs else .ok 0 qs) = R := ⟨_, rfl⟩
  rw [hR]
  replace hR := Lib.hid hR
  rw [hxx, hnx]
  have gnum : (x.toList == [110, 117, 109]) = false := by rw [hxl]; decide
  have gname : (x.toList == [110, 97, 109, 101]) = false := by rw [hxl]; decide
  have gneg : (x.toList == [110, 101, 103]) = false := by rw [hxl]; decide
  have gpos : (x.toList == [112, 111, 115]) = false := by rw [hxl]; decide
  have gnot : (x.toList == [110, 111, 116]) = false := by rw [hxl]; decide
  have gcom : (x.toList == [99, 111, 109]) = false := by rw [hxl]; decide
  have gq : (x.toList == [63]) = false := by rw [hxl]; decide
  have gand : (x.toList == [38, 38]) = true := by rw [hxl]; decide
  have gor : (x.toList == [124, 124]) = false := by rw [hxl]; decide
  obtain ⟨rk, hrk⟩ : ∃ r, valueP n a ps = r := ⟨_, rfl⟩
  have hR0 := hR.out
  rw [hrk] at hR0 hgood
  replace hR := Lib.hid hR0
  clear hx hkr ih hcm hxx hxt hxl hka hkb hda hdb hR0 hnum
  have iha : ∀ (W : World) (T1 : Nat → Prop), FrameTo w W T T1 → RTab W rb B ps N T1 → Calls Tryz.prog 44 #[.agg #[a0, a1, a2, a3], .pointer (some ⟨rb, 0, none⟩)] W (RValR W rb B N T1 (sizeE a) rk) := fun W T1 h1 h2 => by have := iha W ps N T1 h1 h2 hval (by omega); rwa [hrk] at this
  clear hrk
  go_enter Tryz.func44, Tryz.ntmps44
  go_upto_region 1 with fail
  obtain ⟨w2, hW2, hs2, hgr, hcz, hfz, hold⟩ := one_new w #[.string x, .int .i64 num, .string nx, .slice (some ⟨g, off, none⟩) 2 cc] 37
  rw [hW2]
  obtain ⟨z, hz⟩ : ∃ z, w.heap.size = z := ⟨_, rfl⟩
  rw [hz] at hcz hs2 ⊢
  have q0 := hcz 0 _ rfl
  have q1 := hcz 1 _ rfl
  have q2 := hcz 2 _ rfl
  have q3 := hcz 3 _ rfl
  have ca0 := (World.cell?_of_block (a := ⟨g, off, none⟩) (hold g hgl)).trans ca0
  have ca1 := (World.cell?_of_block (a := ⟨g, off + 1, none⟩) (hold g hgl)).trans ca1
  have ca2 := (World.cell?_of_block (a := ⟨g, off + 2, none⟩) (hold g hgl)).trans ca2
  have ca3 := (World.cell?_of_block (a := ⟨g, off + 3, none⟩) (hold g hgl)).trans ca3
  have cb0 := (World.cell?_of_block (a := ⟨g, off + 4, none⟩) (hold g hgl)).trans cb0
  have cb1 := (World.cell?_of_block (a := ⟨g, off + 4 + 1, none⟩) (hold g hgl)).trans cb1
  have cb2 := (World.cell?_of_block (a := ⟨g, off + 4 + 2, none⟩) (hold g hgl)).trans cb2
  have cb3 := (World.cell?_of_block (a := ⟨g, off + 4 + 3, none⟩) (hold g hgl)).trans cb3
  have hg2 := hgr none
  have hzT : ¬ T z := fun h => by have := hc.tab.bd z h; omega
  clear hW2 hgr hcz hfz hold
  go_quiet ((go_at_call 66; refine Calls.quiet_of_same (hkd _)))
  have hgd : w2.grownBy (w2.drewN nq) none := ⟨rfl, rfl, rfl, Nat.le_refl _, fun _ _ _ => rfl⟩
  have q0 := hgd.cell q0 (by simp)
  have q1 := hgd.cell q1 (by simp)
  have q2 := hgd.cell q2 (by simp)
  have q3 := hgd.cell q3 (by simp)
  have ca0 := hgd.cell ca0 (by simp)
  have ca1 := hgd.cell ca1 (by simp)
  have ca2 := hgd.cell ca2 (by simp)
  have ca3 := hgd.cell ca3 (by simp)
  have cb0 := hgd.cell cb0 (by simp)
  have cb1 := hgd.cell cb1 (by simp)
  have cb2 := hgd.cell cb2 (by simp)
  have cb3 := hgd.cell cb3 (by simp)
  have hg3 := grownBy_trans' hg2 hgd
  clear hgd hg2 hs2 hkd
  generalize w2.drewN nq = w3 at *
  have htab3 := htab.grown hg3
  have hz3 : z < w3.heap.size := World.block_lt_of_cell? w3 ⟨z, 0, none⟩ q0
  have hfr3 : FrameTo w w3 T T := frame_grown hg3
  replace hz := Lib.hid hz
  replace hfr3 := Lib.hid hfr3
  replace htab3 := Lib.hid htab3
  clear htab hc
  go_wp2_with fail
  refine (has w3).mono ?_
  rintro e wq ⟨rfl, hwq⟩
  obtain rfl := hwq.symm
  clear has
  have hgT3 : ¬ T g := hgT
  go_wp2_with fail
  refine (iha w3 T hfr3.out htab3.out).mono ?_
  intro e w6 h
  cases rk with
  | no c1 qs =>
    obtain ⟨⟨m1, rfl⟩, hc1, hmv⟩ := h
    have hcb : (c1 == 0) = false := by simpa using hc1
    obtain rfl : R = .no c1 qs := hR.out.symm
    clear iha hR hgood ihb
    go_wp2
    go_ret2
    exact ⟨⟨_, rfl⟩, hc1, rv_end hg3 hmv (by omega)⟩
  | ok m1 qs =>
    obtain ⟨rfl, hmv⟩ := h
    have q0 := rm_cell hmv q0 hzT
    have q1 := rm_cell hmv q1 hzT
    have q2 := rm_cell hmv q2 hzT
    have q3 := rm_cell hmv q3 hzT
    have cb0 := rm_cell hmv cb0 hgT
    have cb1 := rm_cell hmv cb1 hgT
    have cb2 := rm_cell hmv cb2 hgT
    have cb3 := rm_cell hmv cb3 hgT
    obtain ⟨T1, htab1, hsub1⟩ := hmv.tab
    have hfr6 := hfr3.out.move hmv hsub1
    have hvq : Vals qs := hgood.1
    have hm1 : InR m1 := hgood.2.2 m1 qs rfl
    have ihb6 := ihb w6 qs (N + sizeE a) T1 hfr6 htab1 hvq (by omega)
    have hmv0 := rv_end (sz2 := SZ) hg3 hmv (by omega)
    replace hmv := Lib.hid hmv
    replace hsub1 := Lib.hid hsub1
    replace hmv0 := Lib.hid hmv0
    replace hvq := Lib.hid hvq
    clear iha ihb ca0 ca1 ca2 ca3 hfr6 htab1 hgood
    have hR1 := hR.out
    simp only [VRes.next] at hR1
    by_cases h0 : m1 = 0
    · have k0 : (m1 == 0) = true := by rw [h0]; rfl
      rw [if_neg (by simp [h0])] at hR1
      clear h0
      obtain rfl : R = .ok 0 qs := hR1.symm
      clear hR hR1 ihb6
      go_wp2
      go_ret2
      exact ⟨rfl, hmv0.out⟩
    · have k0 : (m1 == 0) = false := by simpa using h0
      rw [if_pos h0] at hR1
      clear h0
      obtain ⟨r2, hr2⟩ : ∃ r, valueP n b qs = r := ⟨_, rfl⟩
      rw [hr2] at ihb6 hR1
      clear hR hr2
      go_wp2_with fail
      refine ihb6.mono ?_
      intro e w7 h
      cases r2 with
      | no c2 rs =>
        obtain ⟨⟨m2, rfl⟩, hc2, hmv2⟩ := h
        have hcb : (c2 == 0) = false := by simpa using hc2
        obtain rfl : R = .no c2 rs := hR1.symm
        clear hR1
        go_wp2
        go_ret2
        exact ⟨⟨_, rfl⟩, hc2, RMove.pre hg3 (RMove.then hmv.out hsub1.out (hmv2.more (by omega)))⟩
      | ok m2 rs =>
        obtain ⟨rfl, hmv2⟩ := h
        obtain rfl : R = .ok (truthI (!(m2 == 0))) rs := hR1.symm
        have q0 := rm_cell hmv2 q0 (rm_not hsub1.out (by have := hmv.out.size; omega) hzT)
        have hone := rOne_any (!(m2 == 0)) w7
        clear hR1
        go_wp2_with fail
        refine hone.mono ?_
        rintro e wq ⟨rfl, hwq⟩
        obtain rfl := hwq.symm
        clear hone
        go_wp2
        go_ret2
        exact ⟨rfl, RMove.pre hg3 (RMove.then hmv.out hsub1.out (hmv2.more (by omega)))⟩

set_option maxHeartbeats 8000000 in
set_option maxRecDepth 100000 in
theorem rv_or (rb B n : Nat) (ih : RVal rb B n) (name : List UInt8) (num : Int) (a b : E) (v : Value) (ok : Nat → Prop) (w : World) (ps : List Pr) (N : Nat) (T : Nat → Prop)
    (hx : ExR w ok (.mk [124, 124] num name [a, b]) v) (hc : RPre w rb B ok (.mk [124, 124] num name [a, b]) ps N T) (hda : dpLe n a = true) (hdb : dpLe n b = true)  :
    Calls Tryz.prog 44 #[v, .pointer (some ⟨rb, 0, none⟩)] w (RValR w rb B N T (sizeE (.mk [124, 124] num name [a, b])) ((valueP n a ps).next fun x qs => if ¬ x = 0 then .ok 1 qs else (valueP n b qs).next fun y rs => .ok (truthI (!(y == 0))) rs)) := by
  obtain ⟨A, cc, rfl, hcc, hcm, hkr⟩ := hx.form
  obtain ⟨g, off, rfl, hgo, hkr⟩ := hkr.resolve_left (by simp)
  obtain ⟨a0, a1, a2, a3, ca0, ca1, ca2, ca3, hka⟩ := hkr.at_ 0 (by simp)
  obtain ⟨b0, b1, b2, b3, cb0, cb1, cb2, cb3, hkb⟩ := hkr.at_ 1 (by simp)
  simp only [List.getElem_cons_zero, List.getElem_cons_succ, Nat.zero_mul, Nat.add_zero, Nat.one_mul] at ca0 ca1 ca2 ca3 cb0 cb1 cb2 cb3 hka hkb
  have iha := rkid_says ih hc (by simp : a ∈ [a, b]) hka hda
  have ihb := rkid_says ih hc (by simp : b ∈ [a, b]) hkb hdb
  obtain ⟨hgl, hgT⟩ := hc.blk g hgo
  have hgood := good_val n a ps (by have := hc.num; unfold NumE at this; exact this.2.mem a (by simp)) hc.val
  have hlo := hc.lo
  have hval := hc.val
  have hfew := hc.few
  have htab := hc.tab
  have hnum := hc.num
  unfold NumE at hnum
  obtain ⟨SZ, hSZ⟩ : ∃ SZ, sizeE (.mk [124, 124] num name [a, b]) = SZ := ⟨_, rfl⟩
  rw [hSZ] at hfew ⊢
  simp only [sizeE, sizeL] at hSZ
  simp only [List.length_cons, List.length_nil, Nat.zero_add, Nat.reduceAdd] at hcc ⊢
  obtain ⟨x, hxx⟩ : ∃ x : ByteArray, (⟨([124, 124] : List UInt8).toArray⟩ : ByteArray) = x := ⟨_, rfl⟩
  obtain ⟨nx, hnx⟩ : ∃ nx : ByteArray, (⟨name.toArray⟩ : ByteArray) = nx := ⟨_, rfl⟩
  have hxt : tl x = [124, 124] := by rw [← hxx]; rfl
  have hxl : x.toList = [124, 124] := by rw [Lib.toList_data]; exact hxt
  have hkd := fun W => rKids_any x W
  have has := fun W => rSets_any x W
  rw [hxt] at hkd has
  obtain ⟨R, hR⟩ : ∃ R : VRes, ((valueP n a ps).next fun x qs => if ¬ x = 0 then .ok 1 qs else (valueP n b qs).next fun y rs => .ok (truthI (!(y == 0))) rs) = R := ⟨_, rfl⟩
  rw [hR]
  replace hR := Lib.hid hR
  rw [hxx, hnx]
  have gnum : (x.toList == [110, 117, 109]) = false := by rw [hxl]; decide
  have gname : (x.toList == [110, 97, 109, 101]) = false := by rw [hxl]; decide
  have gneg : (x.toList == [110, 101, 103]) = false := by rw [hxl]; decide
  have gpos : (x.toList == [112, 111, 115]) = false := by rw [hxl]; decide
  have gnot : (x.toList == [110, 111, 116]) = false := by rw [hxl]; decide
  have gcom : (x.toList == [99, 111, 109]) = false := by rw [hxl]; decide
  have gq : (x.toList == [63]) = false := by rw [hxl]; decide
  have gand : (x.toList == [38, 38]) = false := by rw [hxl]; decide
  have gor : (x.toList == [124, 124]) = true := by rw [hxl]; decide
  obtain ⟨rk, hrk⟩ : ∃ r, valueP n a ps = r := ⟨_, rfl⟩
  have hR0 := hR.out
  rw [hrk] at hR0 hgood
  replace hR := Lib.hid hR0
  clear hx hkr ih hcm hxx hxt hxl hka hkb hda hdb hR0 hnum
  have iha : ∀ (W : World) (T1 : Nat → Prop), FrameTo w W T T1 → RTab W rb B ps N T1 → Calls Tryz.prog 44 #[.agg #[a0, a1, a2, a3], .pointer (some ⟨rb, 0, none⟩)] W (RValR W rb B N T1 (sizeE a) rk) := fun W T1 h1 h2 => by have := iha W ps N T1 h1 h2 hval (by omega); rwa [hrk] at this
  clear hrk
  go_enter Tryz.func44, Tryz.ntmps44
  go_upto_region 1 with fail
  obtain ⟨w2, hW2, hs2, hgr, hcz, hfz, hold⟩ := one_new w #[.string x, .int .i64 num, .string nx, .slice (some ⟨g, off, none⟩) 2 cc] 37
  rw [hW2]
  obtain ⟨z, hz⟩ : ∃ z, w.heap.size = z := ⟨_, rfl⟩
  rw [hz] at hcz hs2 ⊢
  have q0 := hcz 0 _ rfl
  have q1 := hcz 1 _ rfl
  have q2 := hcz 2 _ rfl
  have q3 := hcz 3 _ rfl
  have ca0 := (World.cell?_of_block (a := ⟨g, off, none⟩) (hold g hgl)).trans ca0
  have ca1 := (World.cell?_of_block (a := ⟨g, off + 1, none⟩) (hold g hgl)).trans ca1
  have ca2 := (World.cell?_of_block (a := ⟨g, off + 2, none⟩) (hold g hgl)).trans ca2
  have ca3 := (World.cell?_of_block (a := ⟨g, off + 3, none⟩) (hold g hgl)).trans ca3
  have cb0 := (World.cell?_of_block (a := ⟨g, off + 4, none⟩) (hold g hgl)).trans cb0
  have cb1 := (World.cell?_of_block (a := ⟨g, off + 4 + 1, none⟩) (hold g hgl)).trans cb1
  have cb2 := (World.cell?_of_block (a := ⟨g, off + 4 + 2, none⟩) (hold g hgl)).trans cb2
  have cb3 := (World.cell?_of_block (a := ⟨g, off + 4 + 3, none⟩) (hold g hgl)).trans cb3
  have hg2 := hgr none
  have hzT : ¬ T z := fun h => by have := hc.tab.bd z h; omega
  clear hW2 hgr hcz hfz hold
  go_quiet ((go_at_call 66; refine Calls.quiet_of_same (hkd _)))
  have hgd : w2.grownBy (w2.drewN nq) none := ⟨rfl, rfl, rfl, Nat.le_refl _, fun _ _ _ => rfl⟩
  have q0 := hgd.cell q0 (by simp)
  have q1 := hgd.cell q1 (by simp)
  have q2 := hgd.cell q2 (by simp)
  have q3 := hgd.cell q3 (by simp)
  have ca0 := hgd.cell ca0 (by simp)
  have ca1 := hgd.cell ca1 (by simp)
  have ca2 := hgd.cell ca2 (by simp)
  have ca3 := hgd.cell ca3 (by simp)
  have cb0 := hgd.cell cb0 (by simp)
  have cb1 := hgd.cell cb1 (by simp)
  have cb2 := hgd.cell cb2 (by simp)
  have cb3 := hgd.cell cb3 (by simp)
  have hg3 := grownBy_trans' hg2 hgd
  clear hgd hg2 hs2 hkd
  generalize w2.drewN nq = w3 at *
  have htab3 := htab.grown hg3
  have hz3 : z < w3.heap.size := World.block_lt_of_cell? w3 ⟨z, 0, none⟩ q0
  have hfr3 : FrameTo w w3 T T := frame_grown hg3
  replace hz := Lib.hid hz
  replace hfr3 := Lib.hid hfr3
  replace htab3 := Lib.hid htab3
  clear htab hc
  go_wp2_with fail
  refine (has w3).mono ?_
  rintro e wq ⟨rfl, hwq⟩
  obtain rfl := hwq.symm
  clear has
  have hgT3 : ¬ T g := hgT
  go_wp2_with fail
  refine (iha w3 T hfr3.out htab3.out).mono ?_
  intro e w6 h
  cases rk with
  | no c1 qs =>
    obtain ⟨⟨m1, rfl⟩, hc1, hmv⟩ := h
    have hcb : (c1 == 0) = false := by simpa using hc1
    obtain rfl : R = .no c1 qs := hR.out.symm
    clear iha hR hgood ihb
    go_wp2
    go_ret2
    exact ⟨⟨_, rfl⟩, hc1, rv_end hg3 hmv (by omega)⟩
  | ok m1 qs =>
    obtain ⟨rfl, hmv⟩ := h
    have q0 := rm_cell hmv q0 hzT
    have q1 := rm_cell hmv q1 hzT
    have q2 := rm_cell hmv q2 hzT
    have q3 := rm_cell hmv q3 hzT
    have cb0 := rm_cell hmv cb0 hgT
    have cb1 := rm_cell hmv cb1 hgT
    have cb2 := rm_cell hmv cb2 hgT
    have cb3 := rm_cell hmv cb3 hgT
    obtain ⟨T1, htab1, hsub1⟩ := hmv.tab
    have hfr6 := hfr3.out.move hmv hsub1
    have hvq : Vals qs := hgood.1
    have hm1 : InR m1 := hgood.2.2 m1 qs rfl
    have ihb6 := ihb w6 qs (N + sizeE a) T1 hfr6 htab1 hvq (by omega)
    have hmv0 := rv_end (sz2 := SZ) hg3 hmv (by omega)
    replace hmv := Lib.hid hmv
    replace hsub1 := Lib.hid hsub1
    replace hmv0 := Lib.hid hmv0
    replace hvq := Lib.hid hvq
    clear iha ihb ca0 ca1 ca2 ca3 hfr6 htab1 hgood
    have hR1 := hR.out
    simp only [VRes.next] at hR1
    by_cases h0 : m1 = 0
    · have k0 : (m1 == 0) = true := by rw [h0]; rfl
      rw [if_neg (by simp [h0])] at hR1
      clear h0
      obtain ⟨r2, hr2⟩ : ∃ r, valueP n b qs = r := ⟨_, rfl⟩
      rw [hr2] at ihb6 hR1
      clear hR hr2
      go_wp2_with fail
      refine ihb6.mono ?_
      intro e w7 h
      cases r2 with
      | no c2 rs =>
        obtain ⟨⟨m2, rfl⟩, hc2, hmv2⟩ := h
        have hcb : (c2 == 0) = false := by simpa using hc2
        obtain rfl : R = .no c2 rs := hR1.symm
        clear hR1
        go_wp2
        go_ret2
        exact ⟨⟨_, rfl⟩, hc2, RMove.pre hg3 (RMove.then hmv.out hsub1.out (hmv2.more (by omega)))⟩
      | ok m2 rs =>
        obtain ⟨rfl, hmv2⟩ := h
        obtain rfl : R = .ok (truthI (!(m2 == 0))) rs := hR1.symm
        have q0 := rm_cell hmv2 q0 (rm_not hsub1.out (by have := hmv.out.size; omega) hzT)
        have hone := rOne_any (!(m2 == 0)) w7
        clear hR1
        go_wp2_with fail
        refine hone.mono ?_
        rintro e wq ⟨rfl, hwq⟩
        obtain rfl := hwq.symm
        clear hone
        go_wp2
        go_ret2
        exact ⟨rfl, RMove.pre hg3 (RMove.then hmv.out hsub1.out (hmv2.more (by omega)))⟩
    · have k0 : (m1 == 0) = false := by simpa using h0
      rw [if_pos h0] at hR1
      clear h0
      obtain rfl : R = .ok 1 qs := hR1.symm
      clear hR hR1 ihb6
      go_wp2
      go_ret2
      exact ⟨rfl, hmv0.out⟩

theorem row_two {m : List UInt8} (h : 0 < rowV m) (h4 : m ≠ [38, 38]) (h5 : m ≠ [124, 124]) : m ∈ bothM ∧ (m == [38, 38]) = false ∧ (m == [124, 124]) = false := by
  have hm := row_mem (l := m) (by omega)
  have : ∀ m ∈ allM, 0 < rowV m → m ≠ [38, 38] → m ≠ [124, 124] → m ∈ bothM ∧ (m == [38, 38]) = false ∧ (m == [124, 124]) = false := by decide +kernel
  exact this m hm h h4 h5
theorem row_asg {m : List UInt8} (h : 0 < rowV m) : asgV m = false := by
  have hm := row_mem (l := m) (by omega)
  have : ∀ m ∈ allM, 0 < rowV m → asgV m = false := by decide +kernel
  exact this m hm h
theorem row_kids {m : List UInt8} (h : 0 < rowV m) : kidsV m = 2 := by
  have hm := row_mem (l := m) (by omega)
  have : ∀ m ∈ allM, 0 < rowV m → kidsV m = 2 := by decide +kernel
  exact this m hm h
theorem row_no {m : List UInt8} (h : 0 < rowV m) : (m == [110, 117, 109]) = false ∧ (m == [110, 97, 109, 101]) = false ∧ (m == [110, 101, 103]) = false ∧ (m == [112, 111, 115]) = false ∧ (m == [110, 111, 116]) = false ∧ (m == [99, 111, 109]) = false ∧ (m == [63]) = false := by
  have hm := row_mem (l := m) (by omega)
  have : ∀ m ∈ allM, 0 < rowV m → (m == [110, 117, 109]) = false ∧ (m == [110, 97, 109, 101]) = false ∧ (m == [110, 101, 103]) = false ∧ (m == [112, 111, 115]) = false ∧ (m == [110, 111, 116]) = false ∧ (m == [99, 111, 109]) = false ∧ (m == [63]) = false := by decide +kernel
  exact this m hm h

set_option maxHeartbeats 8000000 in
set_option maxRecDepth 100000 in
theorem rv_two (rb B n : Nat) (ih : RVal rb B n) (op : List UInt8) (name : List UInt8) (num : Int) (a b : E) (v : Value) (ok : Nat → Prop) (w : World) (ps : List Pr) (N : Nat) (T : Nat → Prop)
    (hx : ExR w ok (.mk op num name [a, b]) v) (hc : RPre w rb B ok (.mk op num name [a, b]) ps N T) (hda : dpLe n a = true) (hdb : dpLe n b = true) (hrow : 0 < rowV op) (h4 : op ≠ [38, 38]) (h5 : op ≠ [124, 124]) :
    Calls Tryz.prog 44 #[v, .pointer (some ⟨rb, 0, none⟩)] w (RValR w rb B N T (sizeE (.mk op num name [a, b])) ((valueP n a ps).next fun x qs => (valueP n b qs).next fun y rs => twoR op x y rs)) := by
  obtain ⟨A, cc, rfl, hcc, hcm, hkr⟩ := hx.form
  obtain ⟨g, off, rfl, hgo, hkr⟩ := hkr.resolve_left (by simp)
  obtain ⟨a0, a1, a2, a3, ca0, ca1, ca2, ca3, hka⟩ := hkr.at_ 0 (by simp)
  obtain ⟨b0, b1, b2, b3, cb0, cb1, cb2, cb3, hkb⟩ := hkr.at_ 1 (by simp)
  simp only [List.getElem_cons_zero, List.getElem_cons_succ, Nat.zero_mul, Nat.add_zero, Nat.one_mul] at ca0 ca1 ca2 ca3 cb0 cb1 cb2 cb3 hka hkb
  have iha := rkid_says ih hc (by simp : a ∈ [a, b]) hka hda
  have ihb := rkid_says ih hc (by simp : b ∈ [a, b]) hkb hdb
  obtain ⟨hgl, hgT⟩ := hc.blk g hgo
  have hgood := good_val n a ps (by have := hc.num; unfold NumE at this; exact this.2.mem a (by simp)) hc.val
  have hlo := hc.lo
  have hval := hc.val
  have hfew := hc.few
  have htab := hc.tab
  have hnum := hc.num
  unfold NumE at hnum
  obtain ⟨SZ, hSZ⟩ : ∃ SZ, sizeE (.mk op num name [a, b]) = SZ := ⟨_, rfl⟩
  rw [hSZ] at hfew ⊢
  simp only [sizeE, sizeL] at hSZ
  simp only [List.length_cons, List.length_nil, Nat.zero_add, Nat.reduceAdd] at hcc ⊢
  obtain ⟨x, hxx⟩ : ∃ x : ByteArray, (⟨(op : List UInt8).toArray⟩ : ByteArray) = x := ⟨_, rfl⟩
  obtain ⟨nx, hnx⟩ : ∃ nx : ByteArray, (⟨name.toArray⟩ : ByteArray) = nx := ⟨_, rfl⟩
  have hxt : tl x = op := by rw [← hxx]; rfl
  have hxl : x.toList = op := by rw [Lib.toList_data]; exact hxt
  have hkd := fun W => rKids_any x W
  have has := fun W => rSets_any x W
  rw [hxt] at hkd has
  obtain ⟨R, hR⟩ : ∃ R : VRes, ((valueP n a ps).next fun x qs => (valueP n b qs).next fun y rs => twoR op x y rs) = R := ⟨_, rfl⟩
  rw [hR]
  replace hR := Lib.hid hR
  rw [hxx, hnx]
  have hnb := Lib.hid (hnum.2.mem b (by simp))
  obtain ⟨hbm, fand, for_⟩ := row_two hrow h4 h5
  obtain ⟨fnum, fname, fneg, fpos, fnot, fcom, fq⟩ := row_no hrow
  have hAf := row_asg hrow
  rw [hAf] at has
  rw [row_kids hrow] at hkd
  have hxt2 := Lib.hid hxt
  have gnum : (x.toList == [110, 117, 109]) = false := by rw [hxl, fnum]
  have gname : (x.toList == [110, 97, 109, 101]) = false := by rw [hxl, fname]
  have gneg : (x.toList == [110, 101, 103]) = false := by rw [hxl, fneg]
  have gpos : (x.toList == [112, 111, 115]) = false := by rw [hxl, fpos]
  have gnot : (x.toList == [110, 111, 116]) = false := by rw [hxl, fnot]
  have gcom : (x.toList == [99, 111, 109]) = false := by rw [hxl, fcom]
  have gq : (x.toList == [63]) = false := by rw [hxl, fq]
  have gand : (x.toList == [38, 38]) = false := by rw [hxl, fand]
  have gor : (x.toList == [124, 124]) = false := by rw [hxl, for_]
  obtain ⟨rk, hrk⟩ : ∃ r, valueP n a ps = r := ⟨_, rfl⟩
  have hR0 := hR.out
  rw [hrk] at hR0 hgood
  replace hR := Lib.hid hR0
  clear fand for_ hAf fnum fname fneg fpos fnot fcom fq
  clear hx hkr ih hcm hxx hxt hxl hka hkb hda hdb hR0 hnum
  have iha : ∀ (W : World) (T1 : Nat → Prop), FrameTo w W T T1 → RTab W rb B ps N T1 → Calls Tryz.prog 44 #[.agg #[a0, a1, a2, a3], .pointer (some ⟨rb, 0, none⟩)] W (RValR W rb B N T1 (sizeE a) rk) := fun W T1 h1 h2 => by have := iha W ps N T1 h1 h2 hval (by omega); rwa [hrk] at this
  clear hrk
  go_enter Tryz.func44, Tryz.ntmps44
  go_upto_region 1 with fail
  obtain ⟨w2, hW2, hs2, hgr, hcz, hfz, hold⟩ := one_new w #[.string x, .int .i64 num, .string nx, .slice (some ⟨g, off, none⟩) 2 cc] 37
  rw [hW2]
  obtain ⟨z, hz⟩ : ∃ z, w.heap.size = z := ⟨_, rfl⟩
  rw [hz] at hcz hs2 ⊢
  have q0 := hcz 0 _ rfl
  have q1 := hcz 1 _ rfl
  have q2 := hcz 2 _ rfl
  have q3 := hcz 3 _ rfl
  have ca0 := (World.cell?_of_block (a := ⟨g, off, none⟩) (hold g hgl)).trans ca0
  have ca1 := (World.cell?_of_block (a := ⟨g, off + 1, none⟩) (hold g hgl)).trans ca1
  have ca2 := (World.cell?_of_block (a := ⟨g, off + 2, none⟩) (hold g hgl)).trans ca2
  have ca3 := (World.cell?_of_block (a := ⟨g, off + 3, none⟩) (hold g hgl)).trans ca3
  have cb0 := (World.cell?_of_block (a := ⟨g, off + 4, none⟩) (hold g hgl)).trans cb0
  have cb1 := (World.cell?_of_block (a := ⟨g, off + 4 + 1, none⟩) (hold g hgl)).trans cb1
  have cb2 := (World.cell?_of_block (a := ⟨g, off + 4 + 2, none⟩) (hold g hgl)).trans cb2
  have cb3 := (World.cell?_of_block (a := ⟨g, off + 4 + 3, none⟩) (hold g hgl)).trans cb3
  have hg2 := hgr none
  have hzT : ¬ T z := fun h => by have := hc.tab.bd z h; omega
  clear hW2 hgr hcz hfz hold
  go_quiet ((go_at_call 66; refine Calls.quiet_of_same (hkd _)))
  have hgd : w2.grownBy (w2.drewN nq) none := ⟨rfl, rfl, rfl, Nat.le_refl _, fun _ _ _ => rfl⟩
  have q0 := hgd.cell q0 (by simp)
  have q1 := hgd.cell q1 (by simp)
  have q2 := hgd.cell q2 (by simp)
  have q3 := hgd.cell q3 (by simp)
  have ca0 := hgd.cell ca0 (by simp)
  have ca1 := hgd.cell ca1 (by simp)
  have ca2 := hgd.cell ca2 (by simp)
  have ca3 := hgd.cell ca3 (by simp)
  have cb0 := hgd.cell cb0 (by simp)
  have cb1 := hgd.cell cb1 (by simp)
  have cb2 := hgd.cell cb2 (by simp)
  have cb3 := hgd.cell cb3 (by simp)
  have hg3 := grownBy_trans' hg2 hgd
  clear hgd hg2 hs2 hkd
  generalize w2.drewN nq = w3 at *
  have htab3 := htab.grown hg3
  have hz3 : z < w3.heap.size := World.block_lt_of_cell? w3 ⟨z, 0, none⟩ q0
  have hfr3 : FrameTo w w3 T T := frame_grown hg3
  replace hz := Lib.hid hz
  replace hfr3 := Lib.hid hfr3
  replace htab3 := Lib.hid htab3
  clear htab hc
  go_wp2_with fail
  refine (has w3).mono ?_
  rintro e wq ⟨rfl, hwq⟩
  obtain rfl := hwq.symm
  clear has
  have hgT3 : ¬ T g := hgT
  go_wp2_with fail
  refine (iha w3 T hfr3.out htab3.out).mono ?_
  intro e w6 h
  cases rk with
  | no c1 qs =>
    obtain ⟨⟨m1, rfl⟩, hc1, hmv⟩ := h
    have hcb : (c1 == 0) = false := by simpa using hc1
    obtain rfl : R = .no c1 qs := hR.out.symm
    clear iha hR hgood ihb
    go_wp2
    go_ret2
    exact ⟨⟨_, rfl⟩, hc1, rv_end hg3 hmv (by omega)⟩
  | ok m1 qs =>
    obtain ⟨rfl, hmv⟩ := h
    have q0 := rm_cell hmv q0 hzT
    have q1 := rm_cell hmv q1 hzT
    have q2 := rm_cell hmv q2 hzT
    have q3 := rm_cell hmv q3 hzT
    have cb0 := rm_cell hmv cb0 hgT
    have cb1 := rm_cell hmv cb1 hgT
    have cb2 := rm_cell hmv cb2 hgT
    have cb3 := rm_cell hmv cb3 hgT
    obtain ⟨T1, htab1, hsub1⟩ := hmv.tab
    have hfr6 := hfr3.out.move hmv hsub1
    have hvq : Vals qs := hgood.1
    have hm1 : InR m1 := hgood.2.2 m1 qs rfl
    have ihb6 := ihb w6 qs (N + sizeE a) T1 hfr6 htab1 hvq (by omega)
    have hgoodb := good_val n b qs hnb.out hvq
    have hmv0 := rv_end (sz2 := SZ) hg3 hmv (by omega)
    replace hmv := Lib.hid hmv
    replace hsub1 := Lib.hid hsub1
    replace hmv0 := Lib.hid hmv0
    replace hvq := Lib.hid hvq
    clear iha ihb ca0 ca1 ca2 ca3 hfr6 htab1 hgood
    have hR1 := hR.out
    simp only [VRes.next] at hR1
    obtain ⟨r2, hr2⟩ : ∃ r, valueP n b qs = r := ⟨_, rfl⟩
    rw [hr2] at ihb6 hR1 hgoodb
    clear hR hr2
    go_wp2_with fail
    refine ihb6.mono ?_
    intro e w7 h
    cases r2 with
    | no c2 rs =>
      obtain ⟨⟨m2, rfl⟩, hc2, hmv2⟩ := h
      have hcb : (c2 == 0) = false := by simpa using hc2
      obtain rfl : R = .no c2 rs := hR1.symm
      clear hR1 hgoodb
      go_wp2
      go_ret2
      exact ⟨⟨_, rfl⟩, hc2, RMove.pre hg3 (RMove.then hmv.out hsub1.out (hmv2.more (by omega)))⟩
    | ok m2 rs =>
      obtain ⟨rfl, hmv2⟩ := h
      have q0 := rm_cell hmv2 q0 (rm_not hsub1.out (by have := hmv.out.size; omega) hzT)
      have htw := rTwo_any x m1 m2 hm1 (by rw [hxt2.out]; exact hbm) w7
      rw [hxt2.out] at htw
      simp only [twoR] at hR1
      have hmvE := Lib.hid (RMove.pre hg3 (RMove.then hmv.out hsub1.out (hmv2.more (M := N + SZ) (by omega))))
      cases ht : twoV op m1 m2 with
      | some y =>
        rw [ht] at hR1 htw
        obtain rfl : R = .ok y rs := hR1.symm
        simp only [twoT] at htw
        clear hR1 ht hgoodb
        go_wp2_with fail
        refine htw.mono ?_
        rintro e wq ⟨rfl, hwq⟩
        obtain rfl := hwq.symm
        clear htw
        go_wp2
        go_ret2
        exact ⟨rfl, hmvE.out⟩
      | none =>
        rw [ht] at hR1 htw
        obtain rfl : R = .no 24 rs := hR1.symm
        simp only [twoT] at htw
        clear hR1 ht hgoodb
        go_wp2_with fail
        refine htw.mono ?_
        rintro e wq ⟨rfl, hwq⟩
        obtain rfl := hwq.symm
        clear htw
        go_wp2
        go_ret2
        exact ⟨⟨_, rfl⟩, by decide, hmvE.out⟩
end Go.Proofs.YtlijlgbaikijnaaGreatDoor

namespace Go.Proofs.YtlijlgbaikijnaaGreatDoor
open Go Go.RowKit

section
variable {P : Program} {ops : Array Oper} {Q : Exit → Act → World → Prop} {md : Region.Mode} {S : World → Prop}
theorem wpAnyH_oneR {i : Nat} {o : Oper} {fuel : Nat} {listed : Array Bool} {a : Act} {w : World} (ho : ops[i]? = some o) (hr : Region.ready md ops listed = [i]) (hg : o.guard = none)
    (h : o.wp P a w (fun a' w' => S w' ∧ wpAnyH P md ops Q S fuel (listed.setIfInBounds i true) a' w') Q) : wpAnyH P md ops Q S (fuel + 1) listed a w := by
  refine ⟨fun h0 => (by rw [hr] at h0; cases h0), fun j hj => ?_⟩
  rw [hr, List.mem_singleton] at hj
  subst hj
  unfold wpOp
  simp only [ho, Region.wanted, hg, if_true]
  exact .inl h
end
theorem asg_two {m : List UInt8} (h : asgV m = true) (h1 : m ≠ [61]) : Lib.trimSuffix m [61] ∈ bothM ∧ Lib.trimSuffix m [61] = m.take (m.length - 1) ∧ 2 ≤ m.length ∧ m.length ≤ 3 ∧ (m == [61]) = false ∧ (m == [110, 117, 109]) = false ∧ (m == [110, 97, 109, 101]) = false ∧ kidsV m = 1 := by
  have hm := asg_mem (l := m) (by rw [h]; decide)
  have : ∀ m ∈ allM, asgV m = true → m ≠ [61] → Lib.trimSuffix m [61] ∈ bothM ∧ Lib.trimSuffix m [61] = m.take (m.length - 1) ∧ 2 ≤ m.length ∧ m.length ≤ 3 ∧ (m == [61]) = false ∧ (m == [110, 117, 109]) = false ∧ (m == [110, 97, 109, 101]) = false ∧ kidsV m = 1 := by decide +kernel
  exact this m hm h h1
set_option maxHeartbeats 8000000 in
set_option maxRecDepth 100000 in
theorem rv_set (rb B n : Nat) (ih : RVal rb B n) (name : List UInt8) (num : Int) (a : E) (v : Value) (ok : Nat → Prop) (w : World) (ps : List Pr) (N : Nat) (T : Nat → Prop)
    (hx : ExR w ok (.mk [61] num name [a]) v) (hc : RPre w rb B ok (.mk [61] num name [a]) ps N T) (hda : dpLe n a = true)  :
    Calls Tryz.prog 44 #[v, .pointer (some ⟨rb, 0, none⟩)] w (RValR w rb B N T (sizeE (.mk [61] num name [a])) ((valueP n a ps).next fun v qs => setR qs name v)) := by
  obtain ⟨A, cc, rfl, hcc, hcm, hkr⟩ := hx.form
  obtain ⟨g, off, rfl, hgo, hkr⟩ := hkr.resolve_left (by simp)
  obtain ⟨a0, a1, a2, a3, ca0, ca1, ca2, ca3, hka⟩ := hkr.at_ 0 (by simp)
  simp only [List.getElem_cons_zero, Nat.zero_mul, Nat.add_zero] at ca0 ca1 ca2 ca3 hka
  have iha := rkid_says ih hc (by simp : a ∈ [a]) hka hda
  obtain ⟨hgl, hgT⟩ := hc.blk g hgo
  have hgood := good_val n a ps (by have := hc.num; unfold NumE at this; exact this.2.mem a (by simp)) hc.val
  have hlo := hc.lo
  have hval := hc.val
  have hfew := hc.few
  have htab := hc.tab
  have htab0 := hc.tab
  obtain ⟨SZ, hSZ⟩ : ∃ SZ, sizeE (.mk [61] num name [a]) = SZ := ⟨_, rfl⟩
  rw [hSZ] at hfew ⊢
  simp only [sizeE, sizeL] at hSZ
  simp only [List.length_cons, List.length_nil, Nat.zero_add] at hcc ⊢
  obtain ⟨x, hxx⟩ : ∃ x : ByteArray, (⟨([61] : List UInt8).toArray⟩ : ByteArray) = x := ⟨_, rfl⟩
  obtain ⟨nx, hnx⟩ : ∃ nx : ByteArray, (⟨name.toArray⟩ : ByteArray) = nx := ⟨_, rfl⟩
  have hxt : tl x = [61] := by rw [← hxx]; rfl
  have hxl : x.toList = [61] := by rw [Lib.toList_data]; exact hxt
  have hkd := fun W => rKids_any x W
  have has := fun W => rSets_any x W
  rw [hxt] at hkd has
  obtain ⟨R, hR⟩ : ∃ R : VRes, ((valueP n a ps).next fun v qs => setR qs name v) = R := ⟨_, rfl⟩
  rw [hR]
  replace hR := Lib.hid hR
  rw [hxx, hnx]
  rw [show asgV [61] = true by decide] at has
  have gnum : (x.toList == [110, 117, 109]) = false := by rw [hxl]; decide
  have gname : (x.toList == [110, 97, 109, 101]) = false := by rw [hxl]; decide
  have gset : (x.toList == [61]) = true := by rw [hxl]; decide
  clear hx hkr ih hcm hxx hxt hxl hka hda
  go_enter Tryz.func44, Tryz.ntmps44
  go_upto_region 1 with fail
  obtain ⟨w2, hW2, hs2, hgr, hcz, hfz, hold⟩ := one_new w #[.string x, .int .i64 num, .string nx, .slice (some ⟨g, off, none⟩) 1 cc] 37
  rw [hW2]
  obtain ⟨z, hz⟩ : ∃ z, w.heap.size = z := ⟨_, rfl⟩
  rw [hz] at hcz hs2 ⊢
  have q0 := hcz 0 _ rfl
  have q2 := hcz 2 _ rfl
  have q3 := hcz 3 _ rfl
  have ca0 := (World.cell?_of_block (a := ⟨g, off, none⟩) (hold g hgl)).trans ca0
  have ca1 := (World.cell?_of_block (a := ⟨g, off + 1, none⟩) (hold g hgl)).trans ca1
  have ca2 := (World.cell?_of_block (a := ⟨g, off + 2, none⟩) (hold g hgl)).trans ca2
  have ca3 := (World.cell?_of_block (a := ⟨g, off + 3, none⟩) (hold g hgl)).trans ca3
  have hg2 := hgr none
  have hzT : ¬ T z := fun h => by have := hc.tab.bd z h; omega
  clear hW2 hgr hcz hfz hold
  go_quiet ((go_at_call 66; refine Calls.quiet_of_same (hkd _)))
  have hgd : w2.grownBy (w2.drewN nq) none := ⟨rfl, rfl, rfl, Nat.le_refl _, fun _ _ _ => rfl⟩
  have q0 := hgd.cell q0 (by simp)
  have q2 := hgd.cell q2 (by simp)
  have q3 := hgd.cell q3 (by simp)
  have ca0 := hgd.cell ca0 (by simp)
  have ca1 := hgd.cell ca1 (by simp)
  have ca2 := hgd.cell ca2 (by simp)
  have ca3 := hgd.cell ca3 (by simp)
  have hg3 := grownBy_trans' hg2 hgd
  clear hgd hg2 hs2 hkd
  generalize w2.drewN nq = w3 at *
  have htab3 := htab.grown hg3
  have hz3 : z < w3.heap.size := World.block_lt_of_cell? w3 ⟨z, 0, none⟩ q0
  have hfr3 : FrameTo w w3 T T := frame_grown hg3
  replace hz := Lib.hid hz
  replace hfr3 := Lib.hid hfr3
  replace htab3 := Lib.hid htab3
  clear htab hc
  go_wp2_with fail
  refine (has w3).mono ?_
  rintro e wq ⟨rfl, hwq⟩
  obtain rfl := hwq.symm
  clear has
  have hR1 := hR.out
  clear hR
  have iha6 := iha w3 ps N T hfr3.out htab3.out hval (by omega)
  obtain ⟨rk, hrk⟩ : ∃ r, valueP n a ps = r := ⟨_, rfl⟩
  rw [hrk] at hR1 hgood iha6
  clear iha hrk
  go_wp2_with fail
  refine iha6.mono ?_
  intro e w6 h
  clear iha6
  cases rk with
  | no c1 qs =>
    obtain ⟨⟨m1, rfl⟩, hc1, hmv⟩ := h
    have hcb : (c1 == 0) = false := by simpa using hc1
    obtain rfl : R = .no c1 qs := hR1.symm
    clear hR1 hgood
    go_wp2
    go_ret2
    exact ⟨⟨_, rfl⟩, hc1, rv_end hg3 hmv (by omega)⟩
  | ok m1 qs =>
    obtain ⟨rfl, hmv⟩ := h
    have q0 := rm_cell hmv q0 hzT
    have q2 := rm_cell hmv q2 hzT
    have q3 := rm_cell hmv q3 hzT
    obtain ⟨T1, htab1, hsub1⟩ := hmv.tab
    have hm1 : InR m1 := hgood.2.2 m1 qs rfl
    replace hmv := Lib.hid hmv
    replace hsub1 := Lib.hid hsub1
    replace htab1 := Lib.hid htab1
    clear ca0 ca1 ca2 ca3 hgood
    have hmI := hm1
    simp only [VRes.next, setR, nmB, hnx] at hR1
    clear hm1
    obtain ⟨Tx, hTx⟩ : ∃ Tx : ByteArray, (⟨(Lib.itoa m1).toArray⟩ : ByteArray) = Tx := ⟨_, rfl⟩
    have htx := rText_any m1 hmI w6.drew
    unfold TextR at htx
    rw [hTx] at htx hR1
    have hzT1 := rm_not hsub1.out hz3 hzT
    have hs6 := hmv.out.size
    clear hTx
    go_wp2_with fail
    refine wp_region_held (S := (fun w' : World => w'.cell? ⟨z, 2, none⟩ = some (.string nx))) (by kernel_rfl) ?_
    have hS0 : (fun w' : World => w'.cell? ⟨z, 2, none⟩ = some (.string nx)) w6.drew := q2
    refine wpAnyH_take (i := 0) (v := .int .i64 m1) rfl (by kernel_rfl) (by kernel_rfl) (by kernel_rfl) (fun _ _ _ h => h) (Or.inl ⟨by rfl, ?_⟩) hS0 ?_
    · intro W hW
      clear hS0 q0 q2 q3 htx hR1 
      go_simp
    try simp only [Act.put, List.setIfInBounds_toArray]
    refine wpAnyH_take (i := 1) (v := .pointer (some ⟨rb, 0, none⟩)) rfl (by kernel_rfl) (by kernel_rfl) (by kernel_rfl) (fun _ _ _ h => h) (Or.inl ⟨by rfl, ?_⟩) hS0 ?_
    · intro W hW
      clear hS0 q0 q2 q3 htx hR1 
      go_simp
    try simp only [Act.put]
    refine wpAnyH_take (i := 2) (v := .pointer (some ⟨z, 2, none⟩)) rfl (by kernel_rfl) (by kernel_rfl) (by kernel_rfl) (fun _ _ _ h => h) (Or.inl ⟨by rfl, ?_⟩) hS0 ?_
    · intro W hW
      clear hS0 q0 q2 q3 htx hR1 
      go_simp
    try simp only [Act.put]
    refine wpAnyH_take (i := 3) (v := .string nx) rfl (by kernel_rfl) (by kernel_rfl) (by kernel_rfl) (fun _ _ _ h => h) (Or.inl ⟨by rfl, ?_⟩) hS0 ?_
    · intro W hW
      clear hS0 q0 q2 q3 htx hR1 
      go_simp
    try simp only [Act.put]
    refine wpAnyH_take (i := 4) (v := .int .i64 m1) rfl (by kernel_rfl) (by kernel_rfl) (by kernel_rfl) (fun _ _ _ h => h) (Or.inl ⟨by rfl, ?_⟩) hS0 ?_
    · intro W hW
      clear hS0 q0 q2 q3 htx hR1 
      go_simp
    try simp only [Act.put]
    clear hS0
    refine wpAnyH_oneR (i := 5) rfl (by kernel_rfl) rfl ?_
    go_simp
    refine htx.mono ?_
    rintro e v1 ⟨rfl, hh1⟩
    have gg1 : w6.grownBy v1 none := ⟨hh1.os, hh1.tape, hh1.output, hh1.size, hh1.block⟩
    have q2 := gg1.cell q2 (by simp)
    refine ⟨q2, ?_⟩
    have hs1 := gg1.size
    have htS := rSet_any nx Tx rb B qs (N + sizeE a) T1 v1 (htab1.out.grown gg1) (by omega) (by have := hg3.size; omega)
    refine wpAnyH_oneR (i := 6) rfl (by kernel_rfl) rfl ?_
    go_simp
    refine htS.mono ?_
    intro e wS h
    cases hs : setP qs nx Tx with
    | none =>
      rw [hs] at h hR1
      simp only at h hR1
      obtain ⟨rfl, hw⟩ := h
      obtain rfl := hw.symm
      obtain rfl : R = .no 26 qs := hR1.symm
      have hmvE := Lib.hid (RMove.pre hg3 ((RMove.post hmv.out gg1).more (M := N + SZ) (by omega)))
      clear htS htx hR1 hs 
      refine ⟨q2, ?_⟩
      have hS0 : (fun w' : World => w'.cell? ⟨z, 2, none⟩ = some (.string nx)) v1 := q2
      refine wpAnyH_take (i := 7) (v := .int .i64 m1) rfl (by kernel_rfl) (by kernel_rfl) (by kernel_rfl) (fun _ _ _ h => h) (Or.inl ⟨by rfl, ?_⟩) hS0 ?_
      · intro W hW
        clear hS0 q2 hmvE hh1 gg1
        go_simp
      try simp only [Act.put]
      refine wpAnyH_oneR (i := 8) rfl (by kernel_rfl) rfl ?_
      go_simp
      try (refine ⟨q2, ?_⟩)
      refine wpAnyH_done (by kernel_rfl) ?_ _
      clear hS0
      go_wp2
      go_ret2
      exact ⟨⟨_, rfl⟩, by decide, hmvE.out⟩
    | some rs =>
      rw [hs] at h hR1
      simp only at h hR1
      obtain ⟨rfl, hmvS⟩ := h
      obtain rfl : R = .ok m1 rs := hR1.symm
      have hmvE := Lib.hid (RMove.pre hg3 (RMove.then hmv.out hsub1.out ((RMove.pre gg1 hmvS).more (M := N + SZ) (by omega))))
      have q2 := rm_cell hmvS q2 hzT1
      clear htS htx hR1 hs hmvS 
      refine ⟨q2, ?_⟩
      have hS0 : (fun w' : World => w'.cell? ⟨z, 2, none⟩ = some (.string nx)) wS := q2
      refine wpAnyH_take (i := 7) (v := .int .i64 m1) rfl (by kernel_rfl) (by kernel_rfl) (by kernel_rfl) (fun _ _ _ h => h) (Or.inl ⟨by rfl, ?_⟩) hS0 ?_
      · intro W hW
        clear hS0 q2 hmvE hh1 gg1
        go_simp
      try simp only [Act.put]
      refine wpAnyH_oneR (i := 8) rfl (by kernel_rfl) rfl ?_
      go_simp
      try (refine ⟨q2, ?_⟩)
      refine wpAnyH_done (by kernel_rfl) ?_ _
      clear hS0
      go_wp2
      go_ret2
      exact ⟨rfl, hmvE.out⟩

set_option maxHeartbeats 8000000 in
set_option maxRecDepth 100000 in
theorem rv_asg (rb B n : Nat) (ih : RVal rb B n) (op : List UInt8) (name : List UInt8) (num : Int) (a : E) (v : Value) (ok : Nat → Prop) (w : World) (ps : List Pr) (N : Nat) (T : Nat → Prop)
    (hx : ExR w ok (.mk op num name [a]) v) (hc : RPre w rb B ok (.mk op num name [a]) ps N T) (hda : dpLe n a = true) (hA : asgV op = true) (h1 : op ≠ [61]) :
    Calls Tryz.prog 44 #[v, .pointer (some ⟨rb, 0, none⟩)] w (RValR w rb B N T (sizeE (.mk op num name [a])) ((getR ps name).next fun x qs => (valueP n a qs).next fun y rs => (twoR (Lib.trimSuffix op [61]) x y rs).next fun v us => setR us name v)) := by
  obtain ⟨A, cc, rfl, hcc, hcm, hkr⟩ := hx.form
  obtain ⟨g, off, rfl, hgo, hkr⟩ := hkr.resolve_left (by simp)
  obtain ⟨a0, a1, a2, a3, ca0, ca1, ca2, ca3, hka⟩ := hkr.at_ 0 (by simp)
  simp only [List.getElem_cons_zero, Nat.zero_mul, Nat.add_zero] at ca0 ca1 ca2 ca3 hka
  have iha := rkid_says ih hc (by simp : a ∈ [a]) hka hda
  obtain ⟨hgl, hgT⟩ := hc.blk g hgo
  have hgood := good_val n a ps (by have := hc.num; unfold NumE at this; exact this.2.mem a (by simp)) hc.val
  have hlo := hc.lo
  have hval := hc.val
  have hfew := hc.few
  have htab := hc.tab
  have htab0 := hc.tab
  obtain ⟨SZ, hSZ⟩ : ∃ SZ, sizeE (.mk op num name [a]) = SZ := ⟨_, rfl⟩
  rw [hSZ] at hfew ⊢
  simp only [sizeE, sizeL] at hSZ
  simp only [List.length_cons, List.length_nil, Nat.zero_add] at hcc ⊢
  obtain ⟨x, hxx⟩ : ∃ x : ByteArray, (⟨(op : List UInt8).toArray⟩ : ByteArray) = x := ⟨_, rfl⟩
  obtain ⟨nx, hnx⟩ : ∃ nx : ByteArray, (⟨name.toArray⟩ : ByteArray) = nx := ⟨_, rfl⟩
  have hxt : tl x = op := by rw [← hxx]; rfl
  have hxl : x.toList = op := by rw [Lib.toList_data]; exact hxt
  have hkd := fun W => rKids_any x W
  have has := fun W => rSets_any x W
  rw [hxt] at hkd has
  obtain ⟨R, hR⟩ : ∃ R : VRes, ((getR ps name).next fun x qs => (valueP n a qs).next fun y rs => (twoR (Lib.trimSuffix op [61]) x y rs).next fun v us => setR us name v) = R := ⟨_, rfl⟩
  rw [hR]
  replace hR := Lib.hid hR
  rw [hxx, hnx]
  obtain ⟨hbm, hcut, hol, hol3, fset, fnum, fname, fkids⟩ := asg_two hA h1
  rw [hA] at has
  rw [fkids] at hkd
  have hxs : x.size = op.length := by rw [← tl_len, hxt]
  replace hcut : Hid (tl (x.extract 0 (x.size - 1)) = Lib.trimSuffix op [61]) := by rw [hcut, tl_upto, hxt, hxs]; exact Lib.hid rfl
  obtain ⟨M, hM⟩ : ∃ M, Lib.trimSuffix op [61] = M := ⟨_, rfl⟩
  rw [hM] at hcut hbm hR
  have gnum : (x.toList == [110, 117, 109]) = false := by rw [hxl, fnum]
  have gname : (x.toList == [110, 97, 109, 101]) = false := by rw [hxl, fname]
  have gset : (x.toList == [61]) = false := by rw [hxl, fset]
  replace hbm := Lib.hid hbm
  have hxs2 : 2 ≤ x.size ∧ x.size ≤ 3 := by omega
  clear hM hA h1 fset fnum fname fkids hol hol3 hxs
  clear hx hkr ih hcm hxx hxt hxl hka hda
  go_enter Tryz.func44, Tryz.ntmps44
  go_upto_region 1 with fail
  obtain ⟨w2, hW2, hs2, hgr, hcz, hfz, hold⟩ := one_new w #[.string x, .int .i64 num, .string nx, .slice (some ⟨g, off, none⟩) 1 cc] 37
  rw [hW2]
  obtain ⟨z, hz⟩ : ∃ z, w.heap.size = z := ⟨_, rfl⟩
  rw [hz] at hcz hs2 ⊢
  have q0 := hcz 0 _ rfl
  have q2 := hcz 2 _ rfl
  have q3 := hcz 3 _ rfl
  have ca0 := (World.cell?_of_block (a := ⟨g, off, none⟩) (hold g hgl)).trans ca0
  have ca1 := (World.cell?_of_block (a := ⟨g, off + 1, none⟩) (hold g hgl)).trans ca1
  have ca2 := (World.cell?_of_block (a := ⟨g, off + 2, none⟩) (hold g hgl)).trans ca2
  have ca3 := (World.cell?_of_block (a := ⟨g, off + 3, none⟩) (hold g hgl)).trans ca3
  have hg2 := hgr none
  have hzT : ¬ T z := fun h => by have := hc.tab.bd z h; omega
  clear hW2 hgr hcz hfz hold
  go_quiet ((go_at_call 66; refine Calls.quiet_of_same (hkd _)))
  have hgd : w2.grownBy (w2.drewN nq) none := ⟨rfl, rfl, rfl, Nat.le_refl _, fun _ _ _ => rfl⟩
  have q0 := hgd.cell q0 (by simp)
  have q2 := hgd.cell q2 (by simp)
  have q3 := hgd.cell q3 (by simp)
  have ca0 := hgd.cell ca0 (by simp)
  have ca1 := hgd.cell ca1 (by simp)
  have ca2 := hgd.cell ca2 (by simp)
  have ca3 := hgd.cell ca3 (by simp)
  have hg3 := grownBy_trans' hg2 hgd
  clear hgd hg2 hs2 hkd
  generalize w2.drewN nq = w3 at *
  have htab3 := htab.grown hg3
  have hz3 : z < w3.heap.size := World.block_lt_of_cell? w3 ⟨z, 0, none⟩ q0
  have hfr3 : FrameTo w w3 T T := frame_grown hg3
  replace hz := Lib.hid hz
  replace hfr3 := Lib.hid hfr3
  replace htab3 := Lib.hid htab3
  clear htab hc
  go_wp2_with fail
  refine (has w3).mono ?_
  rintro e wq ⟨rfl, hwq⟩
  obtain rfl := hwq.symm
  clear has
  have hnu := rNum_any nx rb B ps N T w3 htab3.out hval
  have hR1 := hR.out
  clear hR
  unfold getR at hR1
  simp only [nmB, hnx] at hR1
  cases hg : getV ps nx with
  | none =>
    rw [hg] at hR1 hnu
    obtain rfl : R = .no 23 ps := hR1.symm
    simp only [numR] at hnu
    clear hR1 hg iha
    go_wp2_with fail
    refine hnu.mono ?_
    rintro e wq ⟨rfl, hwq⟩
    obtain rfl := hwq.symm
    clear hnu
    go_wp2
    go_ret2
    exact ⟨⟨_, rfl⟩, by decide, RMove.still htab0 hg3 (by omega)⟩
  | some m0 =>
    have hm0 := getV_in hg
    rw [hg] at hR1 hnu
    simp only [VRes.next] at hR1
    simp only [numR] at hnu
    clear hg
    go_wp2_with fail
    refine hnu.mono ?_
    rintro e wq ⟨rfl, hwq⟩
    obtain rfl := hwq.symm
    clear hnu
    have iha6 := iha w3 ps N T hfr3.out htab3.out hval (by omega)
    obtain ⟨rk, hrk⟩ : ∃ r, valueP n a ps = r := ⟨_, rfl⟩
    rw [hrk] at hR1 hgood iha6
    clear iha hrk
    go_wp2_with fail
    refine iha6.mono ?_
    intro e w6 h
    clear iha6
    cases rk with
    | no c1 qs =>
      obtain ⟨⟨m1, rfl⟩, hc1, hmv⟩ := h
      have hcb : (c1 == 0) = false := by simpa using hc1
      obtain rfl : R = .no c1 qs := hR1.symm
      clear hR1 hgood
      go_wp2
      go_ret2
      exact ⟨⟨_, rfl⟩, hc1, rv_end hg3 hmv (by omega)⟩
    | ok m1 qs =>
      obtain ⟨rfl, hmv⟩ := h
      have q0 := rm_cell hmv q0 hzT
      have q2 := rm_cell hmv q2 hzT
      have q3 := rm_cell hmv q3 hzT
      obtain ⟨T1, htab1, hsub1⟩ := hmv.tab
      have hm1 : InR m1 := hgood.2.2 m1 qs rfl
      replace hmv := Lib.hid hmv
      replace hsub1 := Lib.hid hsub1
      replace htab1 := Lib.hid htab1
      clear ca0 ca1 ca2 ca3 hgood
      have hbm2 := hbm.out
      have htw := rTwo_any (x.extract 0 (x.size - 1)) m0 m1 hm0 (by rw [hcut.out]; exact hbm2) w6
      rw [hcut.out] at htw
      clear hbm2
      simp only [twoR] at hR1
      cases ht : twoV M m0 m1 with
      | none =>
        rw [ht] at hR1 htw
        obtain rfl : R = .no 24 qs := hR1.symm
        simp only [twoT] at htw
        clear hR1 ht hm1
        go_wp2_with fail
        refine htw.mono ?_
        rintro e wq ⟨rfl, hwq⟩
        obtain rfl := hwq.symm
        clear htw
        go_wp2
        go_ret2
        exact ⟨⟨_, rfl⟩, by decide, rv_end hg3 hmv.out (by omega)⟩
      | some y =>
        have hmI : InR y := twoV_in hm0 ht
        rw [ht] at hR1 htw
        simp only [twoT] at htw
        simp only [setR, nmB, hnx] at hR1
        clear ht hm1
        go_wp2_with fail
        refine htw.mono ?_
        rintro e wq ⟨rfl, hwq⟩
        obtain rfl := hwq.symm
        clear htw
        obtain ⟨Tx, hTx⟩ : ∃ Tx : ByteArray, (⟨(Lib.itoa y).toArray⟩ : ByteArray) = Tx := ⟨_, rfl⟩
        have htx := rText_any y hmI w6.drew
        unfold TextR at htx
        rw [hTx] at htx hR1
        have hzT1 := rm_not hsub1.out hz3 hzT
        have hs6 := hmv.out.size
        clear hTx
        go_wp2_with fail
        refine wp_region_held (S := (fun w' : World => w'.cell? ⟨z, 2, none⟩ = some (.string nx))) (by kernel_rfl) ?_
        have hS0 : (fun w' : World => w'.cell? ⟨z, 2, none⟩ = some (.string nx)) w6.drew := q2
        refine wpAnyH_take (i := 0) (v := .int .i64 y) rfl (by kernel_rfl) (by kernel_rfl) (by kernel_rfl) (fun _ _ _ h => h) (Or.inl ⟨by rfl, ?_⟩) hS0 ?_
        · intro W hW
          clear hS0 q0 q2 q3 htx hR1 
          go_simp
        try simp only [Act.put, List.setIfInBounds_toArray]
        refine wpAnyH_take (i := 1) (v := .pointer (some ⟨rb, 0, none⟩)) rfl (by kernel_rfl) (by kernel_rfl) (by kernel_rfl) (fun _ _ _ h => h) (Or.inl ⟨by rfl, ?_⟩) hS0 ?_
        · intro W hW
          clear hS0 q0 q2 q3 htx hR1 
          go_simp
        try simp only [Act.put]
        refine wpAnyH_take (i := 2) (v := .pointer (some ⟨z, 2, none⟩)) rfl (by kernel_rfl) (by kernel_rfl) (by kernel_rfl) (fun _ _ _ h => h) (Or.inl ⟨by rfl, ?_⟩) hS0 ?_
        · intro W hW
          clear hS0 q0 q2 q3 htx hR1 
          go_simp
        try simp only [Act.put]
        refine wpAnyH_take (i := 3) (v := .string nx) rfl (by kernel_rfl) (by kernel_rfl) (by kernel_rfl) (fun _ _ _ h => h) (Or.inl ⟨by rfl, ?_⟩) hS0 ?_
        · intro W hW
          clear hS0 q0 q2 q3 htx hR1 
          go_simp
        try simp only [Act.put]
        refine wpAnyH_take (i := 4) (v := .int .i64 y) rfl (by kernel_rfl) (by kernel_rfl) (by kernel_rfl) (fun _ _ _ h => h) (Or.inl ⟨by rfl, ?_⟩) hS0 ?_
        · intro W hW
          clear hS0 q0 q2 q3 htx hR1 
          go_simp
        try simp only [Act.put]
        clear hS0
        refine wpAnyH_oneR (i := 5) rfl (by kernel_rfl) rfl ?_
        go_simp
        refine htx.mono ?_
        rintro e v1 ⟨rfl, hh1⟩
        have gg1 : w6.grownBy v1 none := ⟨hh1.os, hh1.tape, hh1.output, hh1.size, hh1.block⟩
        have q2 := gg1.cell q2 (by simp)
        refine ⟨q2, ?_⟩
        have hs1 := gg1.size
        have htS := rSet_any nx Tx rb B qs (N + sizeE a) T1 v1 (htab1.out.grown gg1) (by omega) (by have := hg3.size; omega)
        refine wpAnyH_oneR (i := 6) rfl (by kernel_rfl) rfl ?_
        go_simp
        refine htS.mono ?_
        intro e wS h
        cases hs : setP qs nx Tx with
        | none =>
          rw [hs] at h hR1
          simp only at h hR1
          obtain ⟨rfl, hw⟩ := h
          obtain rfl := hw.symm
          obtain rfl : R = .no 26 qs := hR1.symm
          have hmvE := Lib.hid (RMove.pre hg3 ((RMove.post hmv.out gg1).more (M := N + SZ) (by omega)))
          clear htS htx hR1 hs 
          refine ⟨q2, ?_⟩
          have hS0 : (fun w' : World => w'.cell? ⟨z, 2, none⟩ = some (.string nx)) v1 := q2
          refine wpAnyH_take (i := 7) (v := .int .i64 y) rfl (by kernel_rfl) (by kernel_rfl) (by kernel_rfl) (fun _ _ _ h => h) (Or.inl ⟨by rfl, ?_⟩) hS0 ?_
          · intro W hW
            clear hS0 q2 hmvE hh1 gg1
            go_simp
          try simp only [Act.put]
          refine wpAnyH_oneR (i := 8) rfl (by kernel_rfl) rfl ?_
          go_simp
          try (refine ⟨q2, ?_⟩)
          refine wpAnyH_done (by kernel_rfl) ?_ _
          clear hS0
          go_wp2
          go_ret2
          exact ⟨⟨_, rfl⟩, by decide, hmvE.out⟩
        | some rs =>
          rw [hs] at h hR1
          simp only at h hR1
          obtain ⟨rfl, hmvS⟩ := h
          obtain rfl : R = .ok y rs := hR1.symm
          have hmvE := Lib.hid (RMove.pre hg3 (RMove.then hmv.out hsub1.out ((RMove.pre gg1 hmvS).more (M := N + SZ) (by omega))))
          have q2 := rm_cell hmvS q2 hzT1
          clear htS htx hR1 hs hmvS 
          refine ⟨q2, ?_⟩
          have hS0 : (fun w' : World => w'.cell? ⟨z, 2, none⟩ = some (.string nx)) wS := q2
          refine wpAnyH_take (i := 7) (v := .int .i64 y) rfl (by kernel_rfl) (by kernel_rfl) (by kernel_rfl) (fun _ _ _ h => h) (Or.inl ⟨by rfl, ?_⟩) hS0 ?_
          · intro W hW
            clear hS0 q2 hmvE hh1 gg1
            go_simp
          try simp only [Act.put]
          refine wpAnyH_oneR (i := 8) rfl (by kernel_rfl) rfl ?_
          go_simp
          try (refine ⟨q2, ?_⟩)
          refine wpAnyH_done (by kernel_rfl) ?_ _
          clear hS0
          go_wp2
          go_ret2
          exact ⟨rfl, hmvE.out⟩
end Go.Proofs.YtlijlgbaikijnaaGreatDoor

namespace Go.Proofs.YtlijlgbaikijnaaGreatDoor
open Go Go.RowKit

theorem rk_one {op : List UInt8} (hk : kidsV op = 1) (hA : asgV op = false) : op = [110, 101, 103] ∨ op = [112, 111, 115] ∨ op = [110, 111, 116] ∨ op = [99, 111, 109] := by
  unfold kidsV at hk
  split at hk
  · omega
  · split at hk
    · rename_i hc
      simp only [hA, Bool.or_false] at hc
      unfold markV at hc
      by_cases h0 : op = [110, 101, 103]
      · exact .inl h0
      · by_cases h1 : op = [112, 111, 115]
        · exact .inr (.inl h1)
        · by_cases h2 : op = [110, 111, 116]
          · exact .inr (.inr (.inl h2))
          · by_cases h3 : op = [99, 111, 109]
            · exact .inr (.inr (.inr h3))
            · simp [h0, h1, h2, h3] at hc
    · repeat' split at hk
      all_goals omega
theorem rk_two {op : List UInt8} (hk : kidsV op = 2) : 0 < rowV op := by
  unfold kidsV at hk
  repeat' split at hk
  all_goals first | omega | assumption
theorem rk_zero {op : List UInt8} (h : kidsV op = 0) : op = [110, 117, 109] ∨ op = [110, 97, 109, 101] := by
  unfold kidsV at h
  split at h
  · rename_i hc; simpa using hc
  · repeat' split at h
    all_goals omega
theorem rv_all (rb B : Nat) : ∀ n, RVal rb B n
  | 0 => by
    intro x v ok w ps N T hx hc hd
    obtain ⟨op, num, name, kids⟩ := x
    rw [dpLe] at hd
    cases hd
  | n + 1 => by
    intro x v ok w ps N T hx hc hd
    have ih := rv_all rb B n
    obtain ⟨op, num, name, kids⟩ := x
    rw [dpLe, List.all_eq_true] at hd
    rw [valueP]
    by_cases hK : (kids.length : Int) = kidsV op
    · by_cases h1 : op = [110, 117, 109]
      · rw [show stepV (valueP n) op num name kids ps = .ok num ps by unfold stepV; rw [if_neg (by simp [hK]), if_pos h1]]
        exact rv_num rb B op name num kids v ok w ps N T hx hc hK h1
      · by_cases h2 : op = [110, 97, 109, 101]
        · rw [show stepV (valueP n) op num name kids ps = getR ps name by unfold stepV; rw [if_neg (by simp [hK]), if_neg h1, if_pos h2]]
          exact rv_name rb B op name num kids v ok w ps N T hx hc hK h2
        · by_cases hA : asgV op = true
          · have hk1 : kidsV op = 1 := by unfold kidsV; rw [if_neg (by simp [h1, h2]), if_pos (by simp [hA])]
            obtain ⟨k, rfl⟩ : ∃ k, kids = [k] := by
              match kids, hK with
              | [], hK => rw [hk1] at hK; simp at hK
              | [k], _ => exact ⟨k, rfl⟩
              | _ :: _ :: _, hK => rw [hk1] at hK; simp at hK; omega
            have hdk := hd k (by simp)
            unfold stepV
            rw [if_neg (by simp [hk1]), if_neg h1, if_neg h2, if_pos hA]
            simp only
            by_cases hm : op = [61]
            · subst hm
              rw [if_pos (by decide)]
              exact rv_set rb B n ih name num k v ok w ps N T hx hc hdk
            · rw [if_neg (fun h => by have := (asg_two hA hm).1; rw [h] at this; exact absurd this (by decide))]
              exact rv_asg rb B n ih op name num k v ok w ps N T hx hc hdk hA hm
          · have hA : asgV op = false := by simpa using hA
            by_cases hk : kidsV op = 1
            · obtain ⟨k, rfl⟩ : ∃ k, kids = [k] := by
                match kids, hK with
                | [], hK => rw [hk] at hK; simp at hK
                | [k], _ => exact ⟨k, rfl⟩
                | _ :: _ :: _, hK => rw [hk] at hK; simp at hK; omega
              rw [show stepV (valueP n) op num name [k] ps = (valueP n k ps).next fun a qs => .ok (oneV op a) qs by unfold stepV; rw [if_neg (by simp [hk]), if_neg h1, if_neg h2, if_neg (by simp [hA])]]
              have hdk := hd k (by simp)
              rcases rk_one hk hA with rfl | rfl | rfl | rfl
              · exact rv_neg rb B n ih name num k v ok w ps N T hx hc hdk
              · exact rv_pos rb B n ih name num k v ok w ps N T hx hc hdk
              · exact rv_not rb B n ih name num k v ok w ps N T hx hc hdk
              · exact rv_com rb B n ih name num k v ok w ps N T hx hc hdk
            · by_cases hk2 : kidsV op = 2
              · obtain ⟨a, b, rfl⟩ : ∃ a b, kids = [a, b] := by
                  match kids, hK with
                  | [], hK => rw [hk2] at hK; simp at hK
                  | [_], hK => rw [hk2] at hK; simp at hK
                  | [a, b], _ => exact ⟨a, b, rfl⟩
                  | _ :: _ :: _ :: _, hK => rw [hk2] at hK; simp at hK; omega
                have h3 : op ≠ [63] := by rintro rfl; exact absurd hk2 (by decide)
                have hda := hd a (by simp)
                have hdb := hd b (by simp)
                by_cases h4 : op = [38, 38]
                · subst h4
                  exact rv_and rb B n ih name num a b v ok w ps N T hx hc hda hdb
                · by_cases h5 : op = [124, 124]
                  · subst h5
                    exact rv_or rb B n ih name num a b v ok w ps N T hx hc hda hdb
                  · have := rv_two rb B n ih op name num a b v ok w ps N T hx hc hda hdb (rk_two hk2) h4 h5
                    unfold stepV
                    rw [if_neg (by simp [hk2]), if_neg h1, if_neg h2, if_neg (by simp [hA])]
                    simp only [if_neg h3, if_neg h4, if_neg h5]
                    exact this
              · by_cases hk3 : kidsV op = 3
                · obtain ⟨a, b, c, rfl⟩ : ∃ a b c, kids = [a, b, c] := by
                    match kids, hK with
                    | [], hK => rw [hk3] at hK; simp at hK
                    | [_], hK => rw [hk3] at hK; simp at hK
                    | [_, _], hK => rw [hk3] at hK; simp at hK
                    | [a, b, c], _ => exact ⟨a, b, c, rfl⟩
                    | _ :: _ :: _ :: _ :: _, hK => rw [hk3] at hK; simp at hK; omega
                  obtain rfl : op = [63] := by
                    unfold kidsV at hk3
                    repeat' split at hk3
                    all_goals first | omega | (rename_i hc; simpa using hc)
                  exact rv_three rb B n ih name num a b c v ok w ps N T hx hc (hd a (by simp)) (hd b (by simp)) (hd c (by simp))
                · exfalso
                  have h0 : kidsV op = 0 ∨ kidsV op = -1 := by
                    have hcs : kidsV op = 0 ∨ kidsV op = 1 ∨ kidsV op = 2 ∨ kidsV op = 3 ∨ kidsV op = -1 := by
                      unfold kidsV
                      repeat' split
                      all_goals simp
                    omega
                  rcases h0 with h | h
                  · rcases rk_zero h with h | h
                    · exact h1 h
                    · exact h2 h
                  · rw [h] at hK; omega
    · rw [show stepV (valueP n) op num name kids ps = .no 1 ps by unfold stepV; rw [if_pos hK]]
      exact rv_bad rb B op name num kids v ok w ps N T hx hc hK

/-- What Value answers, by the reference. -/
def RFaceR (w : World) (rb B N : Nat) (T : Nat → Prop) (sz : Nat) (r : VRes) (e : Ending) (w' : World) : Prop := match r with
  | .ok m qs => e = .returned (.tuple #[.int .i64 m, .int .i64 0]) ∧ RMove w w' rb B qs (N + sz) T
  | .no c qs => e = .returned (.tuple #[.int .i64 0, .int .i64 c]) ∧ c ≠ 0 ∧ RMove w w' rb B qs (N + sz) T
set_option maxHeartbeats 4000000 in
set_option maxRecDepth 100000 in
theorem rValue_any (rb B : Nat) (x : E) (v : Value) (ok : Nat → Prop) (w : World) (ps : List Pr) (N : Nat) (T : Nat → Prop) (hx : ExR w ok x v) (hc : RPre w rb B ok x ps N T) :
    Calls Tryz.prog 19 #[v, .pointer (some ⟨rb, 0, none⟩)] w (RFaceR w rb B N T (sizeE x) (faceV x ps)) := by
  have hkeep : ∀ W, w.grownBy W none → ExR W ok x v := fun W hW => hx.keep (fun _ h => h) (fun g h => hW.block g (hc.blk g h).1 (by simp))
  have hfew := hc.few
  have hde := fun W (hW : w.grownBy W none) => rDeep_any x (by omega) v ok W (hkeep W hW) (fun g h => Nat.lt_of_lt_of_le (hc.blk g h).1 hW.size)
  have hrv := fun W (hW : w.grownBy W none) hd => rv_all rb B 200 x v ok W ps N T (hkeep W hW) ⟨fun g h => ⟨Nat.lt_of_lt_of_le (hc.blk g h).1 hW.size, (hc.blk g h).2⟩, hc.tab.grown hW, hc.val, hc.num, hc.few, Nat.le_trans hc.lo hW.size⟩ hd
  have htab := hc.tab
  have hbd := hc.tab.bd
  unfold faceV
  rw [dpLe_deep] at hrv ⊢
  obtain ⟨D, hD⟩ : ∃ D, deepE x = D := ⟨_, rfl⟩
  rw [hD] at hde hrv ⊢
  obtain ⟨SZ, hSZ⟩ : ∃ SZ, sizeE x = SZ := ⟨_, rfl⟩
  rw [hSZ] at hrv ⊢ hfew
  obtain ⟨rk, hrk⟩ : ∃ r, valueP 200 x ps = r := ⟨_, rfl⟩
  rw [hrk] at hrv ⊢
  obtain ⟨a0, a1, a2, a3, rfl⟩ : ∃ a0 a1 a2 a3, v = .agg #[a0, a1, a2, a3] := by
    obtain ⟨op, num, name, kids⟩ := x
    obtain ⟨A, cc, rfl, _⟩ := hx.form
    exact ⟨_, _, _, _, rfl⟩
  obtain ⟨F, hF⟩ : ∃ F, (if decide (D ≤ 200) = true then rk else VRes.no 32 ps) = F := ⟨_, rfl⟩
  rw [hF]
  replace hF := Lib.hid hF
  clear hkeep hD hSZ hrk hc hx
  go_enter Tryz.func19, Tryz.ntmps19
  go_upto_region 1 with fail
  obtain ⟨w2, hW2, hs2, hgr, hcz, hfz, hold⟩ := one_new w #[a0, a1, a2, a3] 37
  rw [hW2]
  obtain ⟨z, hz⟩ : ∃ z, w.heap.size = z := ⟨_, rfl⟩
  rw [hz] at hcz hs2 ⊢
  have q0 := hcz 0 _ rfl
  have q1 := hcz 1 _ rfl
  have q2 := hcz 2 _ rfl
  have q3 := hcz 3 _ rfl
  have hg2 := hgr none
  replace hz := Lib.hid hz
  clear hW2 hgr hcz hfz hold hbd
  have hde := hde w2 hg2
  go_wp2_with fail
  refine hde.mono ?_
  rintro e wq ⟨rfl, hgq⟩
  have q0 := hgq.cell q0 (by simp)
  have q1 := hgq.cell q1 (by simp)
  have q2 := hgq.cell q2 (by simp)
  have q3 := hgq.cell q3 (by simp)
  have hg3 := grownBy_trans' hg2 hgq
  have hrv := hrv wq hg3
  have htab2 := RMove.still htab hg3 (M := N + SZ) (by omega)
  clear hde htab hgq hg2
  by_cases hd : D ≤ 200
  · have hrv := hrv (by simpa using hd)
    obtain rfl : rk = F := by rw [← hF.out, if_pos (by simpa using hd)]
    have i1 : ¬ (200 : Int) < (D : Int) := by omega
    clear htab2 hF
    go_wp2_with fail
    refine hrv.mono ?_
    intro e w6 h
    cases rk with
    | no c qs =>
      obtain ⟨⟨m, rfl⟩, hc1, hmv⟩ := h
      have hcb : (c == 0) = false := by simpa using hc1
      clear hrv
      go_wp2
      go_ret2
      exact ⟨rfl, hc1, RMove.pre hg3 hmv⟩
    | ok m qs =>
      obtain ⟨rfl, hmv⟩ := h
      clear hrv
      go_wp2
      go_ret2
      exact ⟨rfl, RMove.pre hg3 hmv⟩
  · obtain rfl : VRes.no 32 ps = F := by rw [← hF.out, if_neg (by simpa using hd)]
    have i1 : (200 : Int) < (D : Int) := by omega
    clear hrv hF
    go_wp2
    go_ret2
    exact ⟨rfl, by decide, htab2⟩
end Go.Proofs.YtlijlgbaikijnaaGreatDoor
