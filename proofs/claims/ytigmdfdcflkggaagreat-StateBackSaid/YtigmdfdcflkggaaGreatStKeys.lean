/-
  Keys of a state's maps: the names, rising. Conditions: keys of at most 200 bytes, fewer than a hundred thousand.
-/
import Derived.Test.YtigmdfdcflkggaaGreatStNamed
import Derived.Test.YtigmdfdcflkggaaGreatStShelf
namespace Go.Proofs.YtigmdfdcflkggaaGreat
open Go Go.Proofs Go.RowKit Go.ChangeMaps Go.MapKept Go.WideElems Go.Maps Go.Sort Go.Shelf
open Go.WideShapes (sorted_perm)

def bytesOf (k : ByteArray) : List UInt8 := k.data.toList
def keysL {α : Type} (es : Es α) : List (List UInt8) := (es.map fun p => bytesOf p.1).mergeSort fun x y => decide (x ≤ y)
def readV : Value → Option (DataW Unit × List MemPlace) := fun _ => some (.nil, [])
set_option maxRecDepth 100000 in
theorem MapAt.owns {T : TypeId} {α : Type} {enc : α → Value} {w : World} {B mb ob : Nat} {lo : Option Addr} {es : Es α} (h : MapAt T enc w B mb lo ob es) (hk : ∀ p ∈ es, p.1.size ≤ 200) (hl : es.length ≤ 100000) :
    ∃ nn D0, w.ownsMap (H := Unit) Tryz.prog 9 readV ob nn D0 ∧ (strKeys D0).Perm (es.map fun p => bytesOf p.1) ∧ Maps.size D0 = es.length := by
  obtain ⟨es', clock, hb, hs, he⟩ := h.map
  have hlen : es'.size = es.length := by
    have := congrArg List.length he
    simpa [encE] using this
  have hkey : ∀ x ∈ es'.toList, ∃ s : ByteArray, x.key = .string s ∧ s.size ≤ 200 := fun x hx => by
    have : (x.key, x.val) ∈ (encE enc es).map fun p => (encS p.1, p.2) := by rw [← he]; exact List.mem_map_of_mem (f := fun x : MapEntry => (x.key, x.val)) hx
    obtain ⟨p, hp, e⟩ := List.mem_map.1 this
    obtain ⟨q, hq, rfl⟩ := List.mem_map.1 hp
    exact ⟨q.1, (congrArg Prod.fst e).symm, hk q hq⟩
  have hko : ∀ x ∈ es'.toList, ∀ s : ByteArray, x.key = .string s → keyOf Tryz.prog 9 x.key = some (.string (bytesOf s)) := fun x hx s hxs => by
    obtain ⟨s', h1, h2⟩ := hkey x hx
    rw [hxs] at h1
    cases h1
    rw [hxs]
    have h3 : s.size ≤ maxLen := Nat.le_trans h2 (by decide)
    simp [keyOf, mapKey, Tryz.underlying9, h3, bytesOf]
  have F : Fit Tryz.prog 9 readV es' clock := ⟨by rw [hlen]; exact Nat.le_trans hl (by decide), hs, fun x hx => by
    obtain ⟨s, h1, h2⟩ := hkey x hx
    exact ⟨_, by unfold WideElems.rd; rw [hko x hx s h1]; rfl⟩⟩
  refine ⟨es'.size, _, ⟨es', clock, hb, F, Nat.le_refl _, rfl⟩, ?_, ?_⟩
  · refine ((sorted_perm _).map _).trans ?_
    have e1 : (es'.toList.map (WideElems.rg Tryz.prog 9 readV)).map (fun p => strOf p.1) = es.map fun p => bytesOf p.1 := by
      have e2 : es'.toList.map (fun x => match x.key with | .string s => bytesOf s | _ => []) = es.map fun p => bytesOf p.1 := by
        have := congrArg (List.map fun q : Value × Value => match q.1 with | .string s => bytesOf s | _ => []) he
        rw [List.map_map, List.map_map] at this
        simp only [encE, List.map_map] at this
        exact this
      rw [← e2, List.map_map]
      refine List.map_congr_left fun x hx => ?_
      obtain ⟨s, h1, h2⟩ := hkey x hx
      show strOf (WideElems.rg Tryz.prog 9 readV x).1 = _
      unfold WideElems.rg WideElems.rd
      rw [hko x hx s h1, h1]
      rfl
    exact List.Perm.of_eq e1
  · show ((es'.toList.map (WideElems.rg Tryz.prog 9 readV)).foldr DataW.insert []).length = _
    rw [(sorted_perm _).length_eq, List.length_map, Array.length_toList, hlen]
theorem keysL_perm {α : Type} {es : Es α} {ss : List (List UInt8)} (h : ss.Perm (es.map fun p => bytesOf p.1)) : (ss.mergeSort fun x y => decide (x ≤ y)) = keysL es := mergeSort_of_perm h

set_option maxRecDepth 100000 in
set_option maxHeartbeats 1000000 in
theorem Keys_V {w : World} {B mb ob : Nat} {lo : Option Addr} {es : Es Vr} (h : MapAt 148 encV w B mb lo ob es) (hk : ∀ p ∈ es, p.1.size ≤ 200) (hl : es.length ≤ 100000) :
    Calls Tryz.prog 116 #[ptrV mb] w fun e w' => ∃ v, e = .returned v ∧ w'.ownsRow w.heap.size 9 1 v es.length ((keysL es).map encStr) ∧ Below w.heap.size w w' := by
  obtain ⟨nn, D0, hown, hperm, hsz⟩ := h.owns hk hl
  have c1 : w.cell? ⟨mb, 1, none⟩ = some (.map (some ob)) := h.blk.cell (i := 1) rfl
  have hlt := h.blk.lt
  have cS := Tryz.slices_Sorted_keys_132_135 ob nn D0 readV w hown (by rw [hsz]; exact Nat.le_trans hl (by decide)) (by rw [hsz]; omega)
  have hln : ∀ ss : List (List UInt8), ss.Perm (strKeys D0) → ss.length = es.length := fun ss hp => by
    have := (hp.trans hperm).length_eq
    simpa using this
  have hfin : ∀ ss : List (List UInt8), ss.Perm (strKeys D0) → (ss.mergeSort fun x y => decide (x ≤ y)) = keysL es := fun ss hp => keysL_perm (hp.trans hperm)
  replace hln := Lib.hid hln
  replace hfin := Lib.hid hfin
  unfold ptrV
  clear h hk hl hperm hsz hown
  refine (callsIn_wide (n := 6)).1 ?_
  have hfK : Fence.wide.fn 135 := trivial
  have hfS : Fence.wide.fn 132 := trivial
  refine callsIn_of_wp Tryz.func116 rfl trivial ?_ rfl
  simp only [Tryz.ntmps116, List.size_toArray, List.length_cons, List.length_nil, Nat.reduceAdd, Nat.reduceSub, Array.replicate_succ, Array.replicate_zero, List.push_toArray, List.append_toArray, List.nil_append, List.cons_append]
  gi_wp2_with (first
    | (gi_at_call 135; refine (Tryz.maps_Keys_135 _ _).mono ?_; rintro e w' ⟨rfl, rfl⟩)
    | (gi_at_call 132; refine cS.mono ?_; rintro e w' ⟨v, ss, rfl, hS, hrow, hnil, hb⟩))
  go_ret
  rw [hfin.out ss hS, hln.out ss hS] at hrow
  exact ⟨v, rfl, ownsRow_base_a hrow (by simp), ((Below.refl _ w).alloc (Nat.le_refl _) _).trans (hb.mono (by simp))⟩
set_option maxRecDepth 100000 in
set_option maxHeartbeats 1000000 in
theorem Keys_W {w : World} {B mb ob : Nat} {lo : Option Addr} {es : Es ByteArray} (h : MapAt 155 encW w B mb lo ob es) (hk : ∀ p ∈ es, p.1.size ≤ 200) (hl : es.length ≤ 100000) :
    Calls Tryz.prog 100 #[ptrV mb] w fun e w' => ∃ v, e = .returned v ∧ w'.ownsRow w.heap.size 9 1 v es.length ((keysL es).map encStr) ∧ Below w.heap.size w w' := by
  obtain ⟨nn, D0, hown, hperm, hsz⟩ := h.owns hk hl
  have c1 : w.cell? ⟨mb, 1, none⟩ = some (.map (some ob)) := h.blk.cell (i := 1) rfl
  have hlt := h.blk.lt
  have cS := Tryz.slices_Sorted_keys_132_133 ob nn D0 readV w hown (by rw [hsz]; exact Nat.le_trans hl (by decide)) (by rw [hsz]; omega)
  have hln : ∀ ss : List (List UInt8), ss.Perm (strKeys D0) → ss.length = es.length := fun ss hp => by
    have := (hp.trans hperm).length_eq
    simpa using this
  have hfin : ∀ ss : List (List UInt8), ss.Perm (strKeys D0) → (ss.mergeSort fun x y => decide (x ≤ y)) = keysL es := fun ss hp => keysL_perm (hp.trans hperm)
  replace hln := Lib.hid hln
  replace hfin := Lib.hid hfin
  unfold ptrV
  clear h hk hl hperm hsz hown
  refine (callsIn_wide (n := 6)).1 ?_
  have hfK : Fence.wide.fn 133 := trivial
  have hfS : Fence.wide.fn 132 := trivial
  refine callsIn_of_wp Tryz.func100 rfl trivial ?_ rfl
  simp only [Tryz.ntmps100, List.size_toArray, List.length_cons, List.length_nil, Nat.reduceAdd, Nat.reduceSub, Array.replicate_succ, Array.replicate_zero, List.push_toArray, List.append_toArray, List.nil_append, List.cons_append]
  gi_wp2_with (first
    | (gi_at_call 133; refine (Tryz.maps_Keys_133 _ _).mono ?_; rintro e w' ⟨rfl, rfl⟩)
    | (gi_at_call 132; refine cS.mono ?_; rintro e w' ⟨v, ss, rfl, hS, hrow, hnil, hb⟩))
  go_ret
  rw [hfin.out ss hS, hln.out ss hS] at hrow
  exact ⟨v, rfl, ownsRow_base_a hrow (by simp), ((Below.refl _ w).alloc (Nat.le_refl _) _).trans (hb.mono (by simp))⟩
/-- Names in rising order, as texts. -/
def names {α : Type} (es : Es α) : List ByteArray := (keysL es).map fun l => ⟨l.toArray⟩
theorem encStr_bytes (l : List UInt8) : encStr l = .string ⟨l.toArray⟩ := rfl
theorem names_enc {α : Type} (es : Es α) : (keysL es).map encStr = (names es).map .string := by
  unfold names
  rw [List.map_map]
  rfl
theorem names_len {α : Type} (es : Es α) : (names es).length = es.length := by
  unfold names keysL
  rw [List.length_map, List.length_mergeSort, List.length_map]
theorem names_mem {α : Type} (es : Es α) (k : ByteArray) : k ∈ names es ↔ ∃ p ∈ es, p.1 = k := by
  unfold names keysL
  rw [List.mem_map]
  constructor
  · rintro ⟨l, hl, rfl⟩
    rw [(List.mergeSort_perm _ _).mem_iff] at hl
    obtain ⟨p, hp, rfl⟩ := List.mem_map.1 hl
    exact ⟨p, hp, rfl⟩
  · rintro ⟨p, hp, rfl⟩
    exact ⟨bytesOf p.1, (List.mergeSort_perm _ _).mem_iff.2 (List.mem_map.2 ⟨p, hp, rfl⟩), rfl⟩
end Go.Proofs.YtigmdfdcflkggaaGreat
