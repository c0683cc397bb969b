/-
  A pattern out of a marked text, in plain words; the reader in memory; bare and enter.
-/
import Derived.Test.YtmoihdddmeienaaDoorGbIts
import Derived.Test.YtmoihdddmeienaaDoorMkPlain
import Derived.IntWalk
namespace Go.Proofs.YtmoihdddmeienaaDoor
open Go Go.RowKit

def bareAt (l : List Ch) (k : Nat) (b : UInt8) : Bool := match l[k]? with | some c => c.1 == b && !c.2 | none => false
def lowCh (c : Ch) : Bool := !c.2 && (decide (97 ≤ c.1.toNat) && decide (c.1.toNat ≤ 122))
/-- Where the row of bare small letters from k on ends. -/
def lowEnd (l : List Ch) (k : Nat) : Nat := k + ((l.drop k).takeWhile lowCh).length
def classNm (l : List Ch) (k : Nat) : List Ch :=
  if bareAt l k 91 && bareAt l (k + 1) 58 && bareAt l (lowEnd l (k + 2)) 58 && bareAt l (lowEnd l (k + 2) + 1) 93 then (l.drop (k + 2)).take (lowEnd l (k + 2) - (k + 2)) else []
def classR (s : ByteArray) : List Rg :=
  if s.toList == [97, 108, 110, 117, 109] then [(48, 57), (65, 90), (97, 122)]
  else if s.toList == [97, 108, 112, 104, 97] then [(65, 90), (97, 122)]
  else if s.toList == [98, 108, 97, 110, 107] then [(9, 9), (32, 32)]
  else if s.toList == [115, 112, 97, 99, 101] then [(9, 13), (32, 32)]
  else if s.toList == [99, 110, 116, 114, 108] then [(0, 31), (127, 127)]
  else if s.toList == [112, 114, 105, 110, 116] then [(32, 126)]
  else if s.toList == [103, 114, 97, 112, 104] then [(33, 126)]
  else if s.toList == [100, 105, 103, 105, 116] then [(48, 57)]
  else if s.toList == [120, 100, 105, 103, 105, 116] then [(48, 57), (65, 70), (97, 102)]
  else if s.toList == [108, 111, 119, 101, 114] then [(97, 122)]
  else if s.toList == [117, 112, 112, 101, 114] then [(65, 90)]
  else if s.toList == [112, 117, 110, 99, 116] then [(33, 47), (58, 64), (91, 96), (123, 126)]
  else []
/-- The thing at k: its ranges, and of how many bytes it is told; of none, if no group may have it. -/
def byteN (l : List Ch) (k : Nat) : Nat := if bareAt l (k + 1) 45 && (decide (k + 2 < l.length) && !bareAt l (k + 2) 93) then 3 else 1
def byteAt (l : List Ch) (k : Nat) : UInt8 := match l[k]? with | some c => c.1 | none => 0
def thingP (path : Bool) (l : List Ch) (k : Nat) : List Rg × Nat :=
  if classNm l k ≠ [] then
    (if classR (plainS (classNm l k)) = [] then ([], 0) else (classR (plainS (classNm l k)), (classNm l k).length + 4))
  else if path && (byteAt l k == 47 || byteAt l (k + byteN l k - 1) == 47) then ([], 0)
  else if (byteAt l (k + byteN l k - 1)).toNat < (byteAt l k).toNat then ([], byteN l k)
  else ([(byteAt l k, byteAt l (k + byteN l k - 1))], byteN l k)

theorem bareAt_some {l : List Ch} {k : Nat} (h : k < l.length) (b : UInt8) : bareAt l k b = (l[k].1 == b && !l[k].2) := by simp [bareAt, List.getElem?_eq_getElem h]
theorem bareAt_none {l : List Ch} {k : Nat} (h : ¬ k < l.length) (b : UInt8) : bareAt l k b = false := by simp [bareAt, List.getElem?_eq_none (Nat.not_lt.1 h)]
theorem bareAt_lt {l : List Ch} {k : Nat} {b : UInt8} (h : bareAt l k b = true) : k < l.length := by
  rcases Nat.lt_or_ge k l.length with h' | h'
  · exact h'
  · rw [bareAt_none (by omega)] at h; cases h
theorem lowEnd_here {l : List Ch} {k : Nat} (h : k < l.length) (hc : lowCh l[k] = true) : lowEnd l k = lowEnd l (k + 1) := by
  unfold lowEnd
  rw [List.drop_eq_getElem_cons h, List.takeWhile_cons, if_pos hc]
  simp; omega
theorem lowEnd_stop {l : List Ch} {k : Nat} (h : k < l.length) (hc : lowCh l[k] = false) : lowEnd l k = k := by
  unfold lowEnd
  rw [List.drop_eq_getElem_cons h, List.takeWhile_cons, if_neg (by simp [hc])]
  simp
theorem lowEnd_end {l : List Ch} {k : Nat} (h : ¬ k < l.length) : lowEnd l k = k := by
  unfold lowEnd
  rw [List.drop_of_length_le (by omega)]
  simp
theorem lowEnd_le {l : List Ch} {k : Nat} (h : k ≤ l.length) : k ≤ lowEnd l k ∧ lowEnd l k ≤ l.length := by
  unfold lowEnd
  have h1 : ((l.drop k).takeWhile lowCh).length ≤ (l.drop k).length := (List.takeWhile_sublist _).length_le
  rw [List.length_drop] at h1
  omega

/-- The reader in memory: its three cells, the text, and the row of places that were passed, in a block of its own. -/
structure Rd (w : World) (rb pb B : Nat) (A : Option Addr) (c : Nat) (l : List Ch) (path : Bool) (ps : List Bool) : Prop where
  rd : w.heap[rb]? = some (.cells #[.slice A l.length c, .bool path, .slice (some ⟨pb, 0, none⟩) l.length l.length] 69 (0, 0))
  tx : Tx w B (.slice A l.length c) l
  low : B ≤ pb
  row : w.heap[pb]? = some (.cells (ps.map Value.bool).toArray 4 (0, 0))
  len : ps.length = l.length
  ne : rb ≠ pb
section
variable {w w' : World} {rb pb B : Nat} {A : Option Addr} {c : Nat} {l : List Ch} {path : Bool} {ps ps' : List Bool}
theorem Rd.rlt (h : Rd w rb pb B A c l path ps) : rb < w.heap.size := (Array.getElem?_eq_some_iff.1 h.rd).1
theorem Rd.plt (h : Rd w rb pb B A c l path ps) : pb < w.heap.size := (Array.getElem?_eq_some_iff.1 h.row).1
theorem Rd.c0 (h : Rd w rb pb B A c l path ps) : w.cell? ⟨rb, 0, none⟩ = some (.slice A l.length c) := by rw [cell_of_row w _ _ _ _ _ h.rd]; rfl
theorem Rd.c1 (h : Rd w rb pb B A c l path ps) : w.cell? ⟨rb, 1, none⟩ = some (.bool path) := by rw [cell_of_row w _ _ _ _ _ h.rd]; rfl
theorem Rd.c2 (h : Rd w rb pb B A c l path ps) : w.cell? ⟨rb, 2, none⟩ = some (.slice (some ⟨pb, 0, none⟩) l.length l.length) := by rw [cell_of_row w _ _ _ _ _ h.rd]; rfl
theorem Rd.pc (h : Rd w rb pb B A c l path ps) (k : Nat) (hk : k < ps.length) : w.cell? ⟨pb, k, none⟩ = some (.bool ps[k]) := by
  rw [cell_of_row w _ _ _ _ _ h.row]; simp [hk]
theorem Rd.pf (h : Rd w rb pb B A c l path ps) (k : Nat) : w.frozen? ⟨pb, k, none⟩ = false := frozen_of_row w _ _ _ _ h.row
theorem Rd.grow (h : Rd w rb pb B A c l path ps) (hg : w.grownBy w' (some pb)) (hr : w'.heap[pb]? = some (.cells (ps'.map Value.bool).toArray 4 (0, 0))) (hl : ps'.length = l.length) : Rd w' rb pb B A c l path ps' :=
  ⟨(hg.block rb h.rlt (by intro e; injection e with e; exact h.ne e)).trans h.rd, Sl.keep h.tx fun p hp => by
    have h1 : p.block ≠ pb := by have := h.low; omega
    exact World.cell?_of_block (hg.block p.block (by have := h.low; have := h.plt; omega) (by intro e; injection e with e; exact h1 e)), h.low, hr, hl, h.ne⟩
theorem Rd.below (h : Rd w rb pb B A c l path ps) (hb : Below w.heap.size w w') : Rd w' rb pb B A c l path ps :=
  ⟨(hb.block rb h.rlt).trans h.rd, h.tx.below (hb.mono (by have := h.low; have := h.plt; omega)), h.low, (hb.block pb h.plt).trans h.row, h.len, h.ne⟩
end
theorem below_grown {w w' : World} {r : Option Nat} (h : Below w.heap.size w w') : w.grownBy w' r := ⟨h.os, h.tape, h.output, h.size, fun k hk _ => h.block k hk⟩

set_option maxHeartbeats 400000 in
theorem bare_any {w : World} {rb pb B : Nat} {A : Option Addr} {c : Nat} {l : List Ch} {path : Bool} {ps : List Bool} (h : Rd w rb pb B A c l path ps) (k : Nat) (b : UInt8) (_hl : l.length ≤ 1000000) (_hk : k ≤ 2000000) :
    Calls Tryd.prog 60 #[.pointer (some ⟨rb, 0, none⟩), .int .i64 (k : Int), .int .u8 (b.toNat : Int)] w fun e w' => e = .returned (.bool (bareAt l k b)) ∧ w' = w := by
  have c0 := h.c0
  by_cases hlt : k < l.length
  · obtain ⟨blk, off, rfl, hblk, g0, g1⟩ := h.tx.at_ hlt
    have hb := Lib.hid (bareAt_some hlt b)
    generalize l[k] = z at g0 g1 hb
    obtain ⟨x, q⟩ := z
    simp only at g0 g1
    by_cases hx : x = b
    · subst hx
      cases q
      all_goals
        go_enter Tryd.func60, Tryd.ntmps60
        go_wp2
        go_ret
        exact ⟨ret_bool (by rw [hb.out]; try simp), rfl⟩
    · have hxi : ¬ (x.toNat : Int) = (b.toNat : Int) := fun e => hx (UInt8.toNat.inj (by omega))
      have hb2 : Hid (bareAt l k b = false) := by rw [Hid, hb.out]; simp [hx]
      clear hx hb
      go_enter Tryd.func60, Tryd.ntmps60
      go_wp2
      go_ret
      exact ⟨ret_bool (by rw [hb2.out]), rfl⟩
  · have hb := Lib.hid (bareAt_none hlt b)
    go_enter Tryd.func60, Tryd.ntmps60
    go_wp2
    go_ret
    exact ⟨ret_bool (by rw [hb.out]), rfl⟩

set_option maxHeartbeats 400000 in
theorem enter_any {w : World} {rb pb B : Nat} {A : Option Addr} {c : Nat} {l : List Ch} {path : Bool} {ps : List Bool} (h : Rd w rb pb B A c l path ps) (k : Nat) (_hl : l.length ≤ 1000000) (_hk : k ≤ 2000000) :
    Calls Tryd.prog 77 #[.pointer (some ⟨rb, 0, none⟩), .int .i64 (k : Int)] w fun e w' =>
      (e = .returned (.bool false) ∧ w' = w ∧ (l.length ≤ k ∨ ps[k]? = some true)) ∨ (e = .returned (.bool true) ∧ k < l.length ∧ Rd w' rb pb B A c l path (ps.set k true) ∧ w.grownBy w' (some pb)) := by
  have c0 := h.c0
  have c2 := h.c2
  by_cases hlt : k < l.length
  · have pc := h.pc k (by rw [h.len]; exact hlt)
    have pf := h.pf k
    cases hp : ps[k]'(by rw [h.len]; exact hlt) with
    | true =>
      have hq : Hid (ps[k]? = some true) := by rw [Hid, List.getElem?_eq_getElem (by rw [h.len]; exact hlt), hp]
      rw [hp] at pc
      clear hp
      go_enter Tryd.func77, Tryd.ntmps77
      go_wp2
      go_ret
      exact .inl ⟨rfl, rfl, .inr hq.out⟩
    | false =>
      rw [hp] at pc
      clear hp
      have hset := heap_setCell_same w pb k _ _ (.bool true) h.row
      have hR : Rd (w.setCell ⟨pb, k, none⟩ (.bool true)) rb pb B A c l path (ps.set k true) := by
        refine h.grow ⟨rfl, rfl, rfl, by simp [World.setCell], fun j _ hj => heap_setCell_other w ⟨pb, k, none⟩ j _ (fun e => hj (by rw [e]))⟩ ?_ (by rw [List.length_set]; exact h.len)
        rw [hset, List.setIfInBounds_toArray, List.map_set]
      have hG : w.grownBy (w.setCell ⟨pb, k, none⟩ (.bool true)) (some pb) := ⟨rfl, rfl, rfl, by simp [World.setCell], fun j _ hj => heap_setCell_other w ⟨pb, k, none⟩ j _ (fun e => hj (by rw [e]))⟩
      clear hset
      go_enter Tryd.func77, Tryd.ntmps77
      go_wp2
      go_ret
      exact .inr ⟨rfl, hlt, hR, hG⟩
  · go_enter Tryd.func77, Tryd.ntmps77
    go_wp2
    go_ret
    exact .inl ⟨rfl, rfl, .inl (by omega)⟩

set_option maxHeartbeats 4000000 in
set_option maxRecDepth 100000 in
theorem class_any (s : ByteArray) (w : World) :
    Calls Tryd.prog 93 #[.string s] w fun e w' => ∃ v, e = .returned v ∧ w'.ownsRow w.heap.size 137 2 v (classR s).length (cellsRg (classR s)) ∧ (classR s = [] → v = .slice none 0 0) ∧ Below w.heap.size w w' := by
  go_enter Tryd.func93, Tryd.ntmps93
  go_wp2
  all_goals
    go_ret
    first
      | exact ⟨_, rfl, by simp only [classR, *, if_true, Bool.false_eq_true, if_false]; exact World.ownsRow_lit w _ 3 (Nat.le_refl _) (by decide) rfl, by simp [classR, *], (Below.refl _ _).alloc (Nat.le_refl _) _⟩
      | exact ⟨_, rfl, by simp only [classR, *, if_true, Bool.false_eq_true, if_false]; exact World.ownsRow_lit w _ 2 (Nat.le_refl _) (by decide) rfl, by simp [classR, *], (Below.refl _ _).alloc (Nat.le_refl _) _⟩
      | exact ⟨_, rfl, by simp only [classR, *, if_true, Bool.false_eq_true, if_false]; exact World.ownsRow_lit w _ 1 (Nat.le_refl _) (by decide) rfl, by simp [classR, *], (Below.refl _ _).alloc (Nat.le_refl _) _⟩
      | exact ⟨_, rfl, by simp only [classR, *, if_true, Bool.false_eq_true, if_false]; exact World.ownsRow_lit w _ 4 (Nat.le_refl _) (by decide) rfl, by simp [classR, *], (Below.refl _ _).alloc (Nat.le_refl _) _⟩
      | exact ⟨_, rfl, by simp only [classR, *, Bool.false_eq_true, if_false]; exact World.ownsRow_nil _ _ _ _, fun _ => rfl, Below.refl _ _⟩
end Go.Proofs.YtmoihdddmeienaaDoor
