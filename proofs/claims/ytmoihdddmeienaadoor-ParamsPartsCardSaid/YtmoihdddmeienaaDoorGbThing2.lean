/-
  thing: the ranges of what stands at a place of a group. Conditions: at most a million bytes.
-/
import Derived.Test.YtmoihdddmeienaaDoorGbThing
import Derived.Deep.QuietTactic
import Derived.BigQuiet
import Derived.Lib.SliceRun
namespace Go.Proofs.YtmoihdddmeienaaDoor
open Go Go.RowKit

theorem plainS_empty (cl : List Ch) : (plainS cl).toList.isEmpty = cl.isEmpty := by
  rw [Lib.toList_data]; simp [plainS, plainL]
theorem plainS_size' (l : List Ch) : (plainS l).size = l.length := by rw [Lib.size_eq]; simp [plainS, plainL]
theorem byteAt_get {l : List Ch} {k : Nat} (h : k < l.length) : byteAt l k = l[k].1 := by simp [byteAt, List.getElem?_eq_getElem h]
theorem thingP_byte {path : Bool} {l : List Ch} {k : Nat} (h : classNm l k = []) : thingP path l k = if path && (byteAt l k == 47 || byteAt l (k + byteN l k - 1) == 47) then ([], 0) else if (byteAt l (k + byteN l k - 1)).toNat < (byteAt l k).toNat then ([], byteN l k) else ([(byteAt l k, byteAt l (k + byteN l k - 1))], byteN l k) := by
  unfold thingP
  rw [if_neg (by simp [h])]
theorem thingP_class {path : Bool} {l : List Ch} {k : Nat} (h : ¬ classNm l k = []) : thingP path l k = if classR (plainS (classNm l k)) = [] then ([], 0) else (classR (plainS (classNm l k)), (classNm l k).length + 4) := by
  unfold thingP
  rw [if_pos h]
theorem own_none (w : World) (base : Nat) : w.ownsRow base 137 2 (.slice none 0 0) ([] : List Rg).length (cellsRg []) := World.ownsRow_nil _ _ _ _

/-- What thing answers. -/
def ThingPost (w : World) (r : List Rg × Nat) (e : Ending) (w' : World) : Prop :=
  ∃ v, e = .returned (.tuple #[v, .int .i64 (r.2 : Int)]) ∧ w'.ownsRow w.heap.size 137 2 v r.1.length (cellsRg r.1) ∧ Below w.heap.size w w'

set_option maxHeartbeats 4000000 in
set_option maxRecDepth 100000 in
theorem thing_any {w : World} {rb pb B : Nat} {A : Option Addr} {c : Nat} {l : List Ch} {path : Bool} {ps : List Bool} (h : Rd w rb pb B A c l path ps) (k : Nat) (hl : l.length ≤ 1000000) (hk : k < l.length) :
    Calls Tryd.prog 78 #[.pointer (some ⟨rb, 0, none⟩), .int .i64 (k : Int)] w (ThingPost w (thingP path l k)) := by
  have hsn : ∀ (W : World) (a : Option Addr) (n c : Nat), (binOp .eql 70 (.slice a n c) (.slice none 0 0)).run Tryd.prog W = .ok (.bool a.isNone) W := fun W a n c => Lib.run_eql_slice_nil W _ _ a n c 0 0 Tryd.underlying70
  go_enter Tryd.func78, Tryd.ntmps78
  go_wp2_with fail
  refine (className_any h k hl (by omega)).mono ?_
  rintro e w1 ⟨rfl, hb1⟩
  have h1 := h.below hb1
  by_cases hcn : classNm l k = []
  · have hT := Lib.hid (thingP_byte (path := path) hcn)
    rw [hcn]
    have he : (plainS []).toList.isEmpty = true := plainS_empty []
    clear hcn
    generalize plainS [] = pe at he
    have hN : byteN l k = if bareAt l (k + 1) 45 && (decide (k + 2 < l.length) && !bareAt l (k + 2) 93) then 3 else 1 := rfl
    have hb2 := bare_any h1 (k + 1) 45 hl (by omega)
    have hn : (byteN l k = 3 ∧ bareAt l (k + 1) 45 = true ∧ k + 2 < l.length ∧ bareAt l (k + 2) 93 = false) ∨ (byteN l k = 1 ∧ bareAt l (k + 1) 45 = false) ∨ (byteN l k = 1 ∧ bareAt l (k + 1) 45 = true ∧ ¬ k + 2 < l.length) ∨ (byteN l k = 1 ∧ bareAt l (k + 1) 45 = true ∧ k + 2 < l.length ∧ bareAt l (k + 2) 93 = true) := by
      rw [hN]
      cases bareAt l (k + 1) 45 <;> cases bareAt l (k + 2) 93 <;> by_cases hx : k + 2 < l.length <;> simp [hx]
    clear hN
    rcases hn with ⟨hn, h45, hk2, h93⟩ | ⟨hn, h45⟩ | ⟨hn, h45, hk2⟩ | ⟨hn, h45, hk2, h93⟩
    · have hb3 := bare_any h1 (k + 2) 93 hl (by omega)
      rw [h45] at hb2
      rw [h93] at hb3
      clear h45 h93
      have hlast : k + 2 < l.length := by omega
      obtain ⟨blk, off, rfl, hblk, g0, g1⟩ := h1.tx.at_ hk
      obtain ⟨blk2, off2, hA2, _, f0, _⟩ := h1.tx.at_ hlast
      injection hA2 with hA2
      injection hA2 with e1 e2 _
      subst e1 e2
      have hT2 := hT.out
      rw [hn, byteAt_get hk, show k + 3 - 1 = k + 2 by omega, byteAt_get hlast] at hT2
      have hT3 := Lib.hid hT2
      clear hT hT2 hn
      have c0 := h1.c0
      have c1 := h1.c1
      have s1 : IntKind.i64.wrap ((k : Int) + 3) = (k : Int) + 3 := IntWalk.i64_in _ (by omega)
      have s2 : IntKind.i64.wrap ((k : Int) + 3 - 1) = ((k : Int) + 2) := by rw [IntWalk.i64_in _ (by omega)]; omega
      have s3 : IntKind.i64.wrap ((k : Int) + 2) = (k : Int) + 2 := IntWalk.i64_in _ (by omega)
      have s4 : (k : Int) < (l.length : Int) := by omega
      have s5 : (k : Int) + 2 < (l.length : Int) := by omega
      have s6 : (0 : Int) ≤ (k : Int) + 2 := by omega
      have s7 : ((k : Int) + 2).toNat = k + 2 := by omega
      generalize l[k].1 = x at g0 hT3
      generalize l[k + 2].1 = y at f0 hT3
      go_wp2_with fail
      refine hb2.mono ?_
      rintro e w2 ⟨rfl, rfl⟩
      go_wp2_with fail
      refine hb3.mono ?_
      rintro e w2 ⟨rfl, rfl⟩
      go_wp2
      go_quiet (fail)
      clear s2 s3 s1
      have hcase : (path = true ∧ x = 47) ∨ (path = true ∧ ¬ x = 47 ∧ y = 47) ∨ (path = true ∧ ¬ x = 47 ∧ ¬ y = 47) ∨ path = false := by
        cases path
        · simp
        · by_cases hx : x = 47 <;> by_cases hy : y = 47 <;> simp [hx, hy]
      rcases hcase with ⟨rfl, rfl⟩ | ⟨rfl, hx, rfl⟩ | ⟨rfl, hx, hy⟩ | rfl
      · have hT4 : Hid (thingP true l k = ([], 0)) := by rw [Hid, hT3.out]; simp
        clear hT3
        have x1 : (((47 : UInt8).toNat : Int)) = 47 := rfl
        go_wp2
        go_ret2
        exact ⟨_, by rw [hT4.out]; rfl, by rw [hT4.out]; exact own_none _ _, below_drewN hb1 _⟩
      · have hT4 : Hid (thingP true l k = ([], 0)) := by rw [Hid, hT3.out]; simp
        clear hT3
        have x1 : (((47 : UInt8).toNat : Int)) = 47 := rfl
        have x2 : ¬ (x.toNat : Int) = 47 := fun e => hx (UInt8.toNat.inj (by have : ((47 : UInt8).toNat : Int) = 47 := rfl; omega))
        go_wp2
        go_ret2
        exact ⟨_, by rw [hT4.out]; rfl, by rw [hT4.out]; exact own_none _ _, below_drewN hb1 _⟩
      · have x2 : ¬ (x.toNat : Int) = 47 := fun e => hx (UInt8.toNat.inj (by have : ((47 : UInt8).toNat : Int) = 47 := rfl; omega))
        have y2 : ¬ (y.toNat : Int) = 47 := fun e => hy (UInt8.toNat.inj (by have : ((47 : UInt8).toNat : Int) = 47 := rfl; omega))
        have x3 : ((x.toNat : Int) == 47) = false := beq_eq_false_iff_ne.2 x2
        have y3 : ((y.toNat : Int) == 47) = false := beq_eq_false_iff_ne.2 y2
        by_cases hxy : y.toNat < x.toNat
        · have hT4 : Hid (thingP true l k = ([], 3)) := by rw [Hid, hT3.out]; simp [hx, hy, hxy]
          clear hT3
          have hxyI : (y.toNat : Int) < (x.toNat : Int) := by omega
          go_wp2
          go_ret2
          exact ⟨_, by rw [hT4.out]; rfl, by rw [hT4.out]; exact own_none _ _, below_drewN hb1 _⟩
        · have hT4 : Hid (thingP true l k = ([(x, y)], 3)) := by rw [Hid, hT3.out]; simp [hx, hy, hxy]
          clear hT3
          have hxyI : ¬ (y.toNat : Int) < (x.toNat : Int) := by omega
          go_wp2
          go_ret2
          exact ⟨_, by rw [hT4.out]; rfl, by rw [hT4.out]; exact own_base (World.ownsRow_lit (w2.drewN nq) #[.int .u8 (x.toNat : Int), .int .u8 (y.toNat : Int)] 1 (Nat.le_refl _) (by decide) rfl) hb1.size, (below_drewN hb1 _).alloc hb1.size _⟩
      · by_cases hxy : y.toNat < x.toNat
        · have hT4 : Hid (thingP false l k = ([], 3)) := by rw [Hid, hT3.out]; simp [hxy]
          clear hT3
          have hxyI : (y.toNat : Int) < (x.toNat : Int) := by omega
          go_wp2
          go_ret2
          exact ⟨_, by rw [hT4.out]; rfl, by rw [hT4.out]; exact own_none _ _, below_drewN hb1 _⟩
        · have hT4 : Hid (thingP false l k = ([(x, y)], 3)) := by rw [Hid, hT3.out]; simp [hxy]
          clear hT3
          have hxyI : ¬ (y.toNat : Int) < (x.toNat : Int) := by omega
          go_wp2
          go_ret2
          exact ⟨_, by rw [hT4.out]; rfl, by rw [hT4.out]; exact own_base (World.ownsRow_lit (w2.drewN nq) #[.int .u8 (x.toNat : Int), .int .u8 (y.toNat : Int)] 1 (Nat.le_refl _) (by decide) rfl) hb1.size, (below_drewN hb1 _).alloc hb1.size _⟩
    · rw [h45] at hb2
      clear h45
      have hlast : k < l.length := by omega
      obtain ⟨blk, off, rfl, hblk, g0, g1⟩ := h1.tx.at_ hk
      obtain ⟨blk2, off2, hA2, _, f0, _⟩ := h1.tx.at_ hlast
      injection hA2 with hA2
      injection hA2 with e1 e2 _
      subst e1 e2
      have hT2 := hT.out
      rw [hn, byteAt_get hk, show k + 1 - 1 = k by omega, byteAt_get hlast] at hT2
      have hT3 := Lib.hid hT2
      clear hT hT2 hn
      have c0 := h1.c0
      have c1 := h1.c1
      have s1 : IntKind.i64.wrap ((k : Int) + 1) = (k : Int) + 1 := IntWalk.i64_in _ (by omega)
      have s2 : IntKind.i64.wrap ((k : Int) + 1 - 1) = ((k : Int)) := by rw [IntWalk.i64_in _ (by omega)]; omega
      have s3 : IntKind.i64.wrap ((k : Int)) = (k : Int) := IntWalk.i64_in _ (by omega)
      have s4 : (k : Int) < (l.length : Int) := by omega
      have s5 : (k : Int) < (l.length : Int) := by omega
      have s6 : (0 : Int) ≤ (k : Int) := by omega
      generalize l[k].1 = x at g0 f0 hT3
      go_wp2_with fail
      refine hb2.mono ?_
      rintro e w2 ⟨rfl, rfl⟩
      go_wp2
      go_quiet (fail)
      clear s2 s3 s1
      have hcase : (path = true ∧ x = 47) ∨ (path = true ∧ ¬ x = 47) ∨ path = false := by
        cases path
        · simp
        · by_cases hx : x = 47 <;> simp [hx]
      have hlt0 : ¬ (x.toNat : Int) < (x.toNat : Int) := by omega
      rcases hcase with ⟨rfl, rfl⟩ | ⟨rfl, hx⟩ | rfl
      · have hT4 : Hid (thingP true l k = ([], 0)) := by rw [Hid, hT3.out]; simp
        clear hT3
        have x1 : (((47 : UInt8).toNat : Int)) = 47 := rfl
        go_wp2
        go_ret2
        exact ⟨_, by rw [hT4.out]; rfl, by rw [hT4.out]; exact own_none _ _, below_drewN hb1 _⟩
      · have x2 : ¬ (x.toNat : Int) = 47 := fun e => hx (UInt8.toNat.inj (by have : ((47 : UInt8).toNat : Int) = 47 := rfl; omega))
        have x3 : ((x.toNat : Int) == 47) = false := beq_eq_false_iff_ne.2 x2
        have hT4 : Hid (thingP true l k = ([(x, x)], 1)) := by rw [Hid, hT3.out]; simp [hx]
        clear hT3
        go_wp2
        go_ret2
        exact ⟨_, by rw [hT4.out]; rfl, by rw [hT4.out]; exact own_base (World.ownsRow_lit (w2.drewN nq) #[.int .u8 (x.toNat : Int), .int .u8 (x.toNat : Int)] 1 (Nat.le_refl _) (by decide) rfl) hb1.size, (below_drewN hb1 _).alloc hb1.size _⟩
      · have hT4 : Hid (thingP false l k = ([(x, x)], 1)) := by rw [Hid, hT3.out]; simp
        clear hT3
        go_wp2
        go_ret2
        exact ⟨_, by rw [hT4.out]; rfl, by rw [hT4.out]; exact own_base (World.ownsRow_lit (w2.drewN nq) #[.int .u8 (x.toNat : Int), .int .u8 (x.toNat : Int)] 1 (Nat.le_refl _) (by decide) rfl) hb1.size, (below_drewN hb1 _).alloc hb1.size _⟩
    · rw [h45] at hb2
      clear h45
      have hlast : k < l.length := by omega
      obtain ⟨blk, off, rfl, hblk, g0, g1⟩ := h1.tx.at_ hk
      obtain ⟨blk2, off2, hA2, _, f0, _⟩ := h1.tx.at_ hlast
      injection hA2 with hA2
      injection hA2 with e1 e2 _
      subst e1 e2
      have hT2 := hT.out
      rw [hn, byteAt_get hk, show k + 1 - 1 = k by omega, byteAt_get hlast] at hT2
      have hT3 := Lib.hid hT2
      clear hT hT2 hn
      have c0 := h1.c0
      have c1 := h1.c1
      have s1 : IntKind.i64.wrap ((k : Int) + 1) = (k : Int) + 1 := IntWalk.i64_in _ (by omega)
      have s2 : IntKind.i64.wrap ((k : Int) + 1 - 1) = ((k : Int)) := by rw [IntWalk.i64_in _ (by omega)]; omega
      have s3 : IntKind.i64.wrap ((k : Int)) = (k : Int) := IntWalk.i64_in _ (by omega)
      have s4 : (k : Int) < (l.length : Int) := by omega
      have s5 : (k : Int) < (l.length : Int) := by omega
      have s6 : (0 : Int) ≤ (k : Int) := by omega
      generalize l[k].1 = x at g0 f0 hT3
      go_wp2_with fail
      refine hb2.mono ?_
      rintro e w2 ⟨rfl, rfl⟩
      go_wp2
      go_quiet (fail)
      clear s2 s3 s1
      have hcase : (path = true ∧ x = 47) ∨ (path = true ∧ ¬ x = 47) ∨ path = false := by
        cases path
        · simp
        · by_cases hx : x = 47 <;> simp [hx]
      have hlt0 : ¬ (x.toNat : Int) < (x.toNat : Int) := by omega
      rcases hcase with ⟨rfl, rfl⟩ | ⟨rfl, hx⟩ | rfl
      · have hT4 : Hid (thingP true l k = ([], 0)) := by rw [Hid, hT3.out]; simp
        clear hT3
        have x1 : (((47 : UInt8).toNat : Int)) = 47 := rfl
        go_wp2
        go_ret2
        exact ⟨_, by rw [hT4.out]; rfl, by rw [hT4.out]; exact own_none _ _, below_drewN hb1 _⟩
      · have x2 : ¬ (x.toNat : Int) = 47 := fun e => hx (UInt8.toNat.inj (by have : ((47 : UInt8).toNat : Int) = 47 := rfl; omega))
        have x3 : ((x.toNat : Int) == 47) = false := beq_eq_false_iff_ne.2 x2
        have hT4 : Hid (thingP true l k = ([(x, x)], 1)) := by rw [Hid, hT3.out]; simp [hx]
        clear hT3
        go_wp2
        go_ret2
        exact ⟨_, by rw [hT4.out]; rfl, by rw [hT4.out]; exact own_base (World.ownsRow_lit (w2.drewN nq) #[.int .u8 (x.toNat : Int), .int .u8 (x.toNat : Int)] 1 (Nat.le_refl _) (by decide) rfl) hb1.size, (below_drewN hb1 _).alloc hb1.size _⟩
      · have hT4 : Hid (thingP false l k = ([(x, x)], 1)) := by rw [Hid, hT3.out]; simp
        clear hT3
        go_wp2
        go_ret2
        exact ⟨_, by rw [hT4.out]; rfl, by rw [hT4.out]; exact own_base (World.ownsRow_lit (w2.drewN nq) #[.int .u8 (x.toNat : Int), .int .u8 (x.toNat : Int)] 1 (Nat.le_refl _) (by decide) rfl) hb1.size, (below_drewN hb1 _).alloc hb1.size _⟩
    · have hb3 := bare_any h1 (k + 2) 93 hl (by omega)
      rw [h45] at hb2
      rw [h93] at hb3
      clear h45 h93
      have hlast : k < l.length := by omega
      obtain ⟨blk, off, rfl, hblk, g0, g1⟩ := h1.tx.at_ hk
      obtain ⟨blk2, off2, hA2, _, f0, _⟩ := h1.tx.at_ hlast
      injection hA2 with hA2
      injection hA2 with e1 e2 _
      subst e1 e2
      have hT2 := hT.out
      rw [hn, byteAt_get hk, show k + 1 - 1 = k by omega, byteAt_get hlast] at hT2
      have hT3 := Lib.hid hT2
      clear hT hT2 hn
      have c0 := h1.c0
      have c1 := h1.c1
      have s1 : IntKind.i64.wrap ((k : Int) + 1) = (k : Int) + 1 := IntWalk.i64_in _ (by omega)
      have s2 : IntKind.i64.wrap ((k : Int) + 1 - 1) = ((k : Int)) := by rw [IntWalk.i64_in _ (by omega)]; omega
      have s3 : IntKind.i64.wrap ((k : Int)) = (k : Int) := IntWalk.i64_in _ (by omega)
      have s4 : (k : Int) < (l.length : Int) := by omega
      have s5 : (k : Int) < (l.length : Int) := by omega
      have s6 : (0 : Int) ≤ (k : Int) := by omega
      generalize l[k].1 = x at g0 f0 hT3
      go_wp2_with fail
      refine hb2.mono ?_
      rintro e w2 ⟨rfl, rfl⟩
      go_wp2_with fail
      refine hb3.mono ?_
      rintro e w2 ⟨rfl, rfl⟩
      go_wp2
      go_quiet (fail)
      clear s2 s3 s1
      have hcase : (path = true ∧ x = 47) ∨ (path = true ∧ ¬ x = 47) ∨ path = false := by
        cases path
        · simp
        · by_cases hx : x = 47 <;> simp [hx]
      have hlt0 : ¬ (x.toNat : Int) < (x.toNat : Int) := by omega
      rcases hcase with ⟨rfl, rfl⟩ | ⟨rfl, hx⟩ | rfl
      · have hT4 : Hid (thingP true l k = ([], 0)) := by rw [Hid, hT3.out]; simp
        clear hT3
        have x1 : (((47 : UInt8).toNat : Int)) = 47 := rfl
        go_wp2
        go_ret2
        exact ⟨_, by rw [hT4.out]; rfl, by rw [hT4.out]; exact own_none _ _, below_drewN hb1 _⟩
      · have x2 : ¬ (x.toNat : Int) = 47 := fun e => hx (UInt8.toNat.inj (by have : ((47 : UInt8).toNat : Int) = 47 := rfl; omega))
        have x3 : ((x.toNat : Int) == 47) = false := beq_eq_false_iff_ne.2 x2
        have hT4 : Hid (thingP true l k = ([(x, x)], 1)) := by rw [Hid, hT3.out]; simp [hx]
        clear hT3
        go_wp2
        go_ret2
        exact ⟨_, by rw [hT4.out]; rfl, by rw [hT4.out]; exact own_base (World.ownsRow_lit (w2.drewN nq) #[.int .u8 (x.toNat : Int), .int .u8 (x.toNat : Int)] 1 (Nat.le_refl _) (by decide) rfl) hb1.size, (below_drewN hb1 _).alloc hb1.size _⟩
      · have hT4 : Hid (thingP false l k = ([(x, x)], 1)) := by rw [Hid, hT3.out]; simp
        clear hT3
        go_wp2
        go_ret2
        exact ⟨_, by rw [hT4.out]; rfl, by rw [hT4.out]; exact own_base (World.ownsRow_lit (w2.drewN nq) #[.int .u8 (x.toNat : Int), .int .u8 (x.toNat : Int)] 1 (Nat.le_refl _) (by decide) rfl) hb1.size, (below_drewN hb1 _).alloc hb1.size _⟩
  · have hT := Lib.hid (thingP_class (path := path) hcn)
    have he : (plainS (classNm l k)).toList.isEmpty = false := by rw [plainS_empty]; simpa using hcn
    have hlen := plainS_size' (classNm l k)
    have hcl : (classNm l k).length ≤ l.length := by
      unfold classNm
      split
      · rw [List.length_take, List.length_drop]; omega
      · simp
    generalize classNm l k = cl at he hT hcl hlen
    have hsz : (plainS cl).size ≤ 1000000 := by omega
    go_wp2_with fail
    refine (class_any (plainS cl) w1).mono ?_
    rintro e w2 ⟨v, rfl, hown, hnil, hb2⟩
    have hb3 : Below w.heap.size w w2 := hb1.trans (hb2.mono hb1.size)
    have hown2 := own_base hown hb1.size
    by_cases hr : classR (plainS cl) = []
    · have hv := hnil hr
      subst hv
      have hT2 : Hid (thingP path l k = ([], 0)) := by rw [Hid, hT.out, if_pos hr]
      clear hT hown hown2 hb1 hb2 hnil hr h1 he hlen
      go_wp2
      go_ret2
      exact ⟨_, by rw [hT2.out]; rfl, by rw [hT2.out]; exact own_none _ _, hb3⟩
    · obtain ⟨m, hm⟩ : ∃ m, (classR (plainS cl)).length = m + 1 := ⟨(classR (plainS cl)).length - 1, by have := List.length_pos_iff.2 hr; omega⟩
      rw [hm] at hown2
      obtain ⟨g, cap, rfl⟩ := own_succ' hown2
      have hT2 : Hid (thingP path l k = (classR (plainS cl), cl.length + 4)) := by rw [Hid, hT.out, if_neg hr]
      clear hT hown hb1 hb2 hnil hr h1
      go_wp2
      go_ret2
      refine ⟨_, ?_, by rw [hT2.out, hm]; exact hown2, hb3⟩
      rw [hT2.out]
      have e9 : (2 + (cl.length : Int) + 2) = ((cl.length + 4 : Nat) : Int) := by omega
      show Ending.returned (.tuple #[_, .int .i64 (2 + (cl.length : Int) + 2)]) = _
      rw [e9]
      rfl
end Go.Proofs.YtmoihdddmeienaaDoor
