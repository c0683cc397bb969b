/-
  slices.Sorted of maps.Keys of a state's maps, met by the shelf's contracts at this translation: the keys, sorted. Conditions: each theorem's own.
-/
import Derived.Shelf.SlIter.Nil
import Derived.Shelf.SortM.Plain
import Derived.Shelf.SortM.SortNone
import Derived.Ground.GgzProg
import Derived.Ground.SlgmProg
import Derived.Test.YtigmdfdcflkggaaGreatProg
import Derived.Shelf.AbstractIn
import Derived.Laws.Concat
import Derived.Deep.AppendLies
import Derived.Deep.Cut
import Derived.Deep.DeepCutAuto
import Derived.Laws.IdiomStrings
import Derived.Lib.BufferRead
import Derived.Lib.SlBytesConst
import Derived.OwnWalk
import Derived.Test.YtigmdfdcflkggaaGreatZp7
namespace Go.Proofs.YtigmdfdcflkggaaGreat
open Go Go.Proofs Go.RowKit Go.Maps Go.Sort Go.Shelf
def Tryz.keys133_ren : Go.Shelf.Ren := ⟨fun | 7 => 133 | 10 => 142 | n => n, fun | 23 => 153 | 26 => 9 | 3 => 126 | 28 => 162 | 0 => 0 | 27 => 161 | 33 => 55 | 4 => 4 | n => n, fun | n => n⟩
theorem Tryz.keys133 : Go.Proofs.SlLaysZ.n7 Tryz.prog Tryz.keys133_ren := {
  mixed := by kernel_rfl
  f7 := ⟨Tryz.f133.name, by decide, Tryz.func133.trans (congrArg some (by kernel_rfl))⟩
  f10 := ⟨Tryz.f142.name, by decide, Tryz.func142.trans (congrArg some (by kernel_rfl))⟩
  t0 := Tryz.underlying0
  a0 := Tryz.isAgg0
  z0 := Tryz.sizeOf0
  v0 := Tryz.zeroValue0
  t4 := Tryz.underlying4
  a4 := Tryz.isAgg4
  z4 := Tryz.sizeOf4
  v4 := Tryz.zeroValue4
  t23 := Tryz.underlying153
  a23 := Tryz.isAgg153
  z23 := Tryz.sizeOf153
  v23 := Tryz.zeroValue153
  t26 := Tryz.underlying9
  a26 := Tryz.isAgg9
  z26 := Tryz.sizeOf9
  v26 := Tryz.zeroValue9
  t27 := Tryz.underlying161
  a27 := Tryz.isAgg161
  z27 := Tryz.sizeOf161
  v27 := Tryz.zeroValue161
  t28 := Tryz.underlying162
  a28 := Tryz.isAgg162
  z28 := Tryz.sizeOf162
  v28 := Tryz.zeroValue162
  t33 := Tryz.underlying55
  a33 := Tryz.isAgg55
  z33 := Tryz.sizeOf55
  v33 := Tryz.zeroValue55 }
def Tryz.sorted132_ren : Go.Shelf.Ren := ⟨fun | 6 => 132 | 8 => 140 | 9 => 141 | 11 => 145 | 13 => 147 | 12 => 146 | 23 => 157 | 24 => 158 | 14 => 148 | 15 => 149 | 16 => 150 | 17 => 151 | 18 => 152 | 19 => 153 | 20 => 154 | 21 => 155 | 22 => 156 | 25 => 159 | 26 => 160 | 27 => 161 | 28 => 162 | 29 => 163 | 30 => 164 | 31 => 165 | n => n, fun | 26 => 9 | 28 => 162 | 24 => 35 | 0 => 0 | 3 => 3 | 37 => 171 | 48 => 181 | 50 => 183 | 4 => 4 | 40 => 174 | 39 => 173 | 45 => 178 | 5 => 5 | 9 => 9 | 51 => 184 | 55 => 188 | 57 => 190 | 58 => 46 | 33 => 55 | n => n, fun | n => n⟩
theorem Tryz.sorted132 : Go.Proofs.SlLaysZ.n6 Tryz.prog Tryz.sorted132_ren := {
  mixed := by kernel_rfl
  f6 := ⟨Tryz.f132.name, by decide, Tryz.func132.trans (congrArg some (by kernel_rfl))⟩
  f8 := ⟨Tryz.f140.name, by decide, Tryz.func140.trans (congrArg some (by kernel_rfl))⟩
  f11 := ⟨Tryz.f145.name, by decide, Tryz.func145.trans (congrArg some (by kernel_rfl))⟩
  t0 := Tryz.underlying0
  a0 := Tryz.isAgg0
  z0 := Tryz.sizeOf0
  v0 := Tryz.zeroValue0
  t24 := Tryz.underlying35
  a24 := Tryz.isAgg35
  z24 := Tryz.sizeOf35
  v24 := Tryz.zeroValue35
  t26 := Tryz.underlying9
  a26 := Tryz.isAgg9
  z26 := Tryz.sizeOf9
  v26 := Tryz.zeroValue9
  t28 := Tryz.underlying162
  a28 := Tryz.isAgg162
  z28 := Tryz.sizeOf162
  v28 := Tryz.zeroValue162
  i26 := by kernel_rfl }
def Tryz.sort141_ren : Go.Shelf.Ren := ⟨fun | 6 => 141 | 8 => 147 | 9 => 146 | 19 => 157 | 20 => 158 | 21 => 148 | 22 => 149 | 23 => 150 | 24 => 151 | 25 => 152 | 26 => 153 | 27 => 154 | 28 => 155 | 29 => 156 | 36 => 159 | 31 => 160 | 32 => 161 | 37 => 162 | 38 => 163 | 39 => 164 | 41 => 165 | n => n, fun | 27 => 35 | 29 => 9 | 3 => 3 | 32 => 171 | 26 => 35 | 0 => 0 | 44 => 181 | 46 => 183 | 4 => 4 | 36 => 174 | 35 => 173 | 41 => 178 | 5 => 5 | 9 => 9 | 53 => 184 | 57 => 188 | 63 => 190 | 64 => 46 | n => n, fun | n => n⟩
theorem Tryz.sort141 : Go.Proofs.SlLaysM.n6 Tryz.prog Tryz.sort141_ren := {
  mixed := by kernel_rfl
  f6 := ⟨Tryz.f141.name, by decide, Tryz.func141.trans (congrArg some (by kernel_rfl))⟩
  f8 := Tryz.func147.trans (congrArg some (by kernel_rfl))
  f9 := ⟨Tryz.f146.name, by decide, Tryz.func146.trans (congrArg some (by kernel_rfl))⟩
  f19 := Tryz.func157.trans (congrArg some (by kernel_rfl))
  f20 := Tryz.func158.trans (congrArg some (by kernel_rfl))
  f21 := ⟨Tryz.f148.name, by decide, Tryz.func148.trans (congrArg some (by kernel_rfl))⟩
  f22 := ⟨Tryz.f149.name, by decide, Tryz.func149.trans (congrArg some (by kernel_rfl))⟩
  f23 := ⟨Tryz.f150.name, by decide, Tryz.func150.trans (congrArg some (by kernel_rfl))⟩
  f24 := ⟨Tryz.f151.name, by decide, Tryz.func151.trans (congrArg some (by kernel_rfl))⟩
  f25 := ⟨Tryz.f152.name, by decide, Tryz.func152.trans (congrArg some (by kernel_rfl))⟩
  f26 := ⟨Tryz.f153.name, by decide, Tryz.func153.trans (congrArg some (by kernel_rfl))⟩
  f27 := ⟨Tryz.f154.name, by decide, Tryz.func154.trans (congrArg some (by kernel_rfl))⟩
  f28 := ⟨Tryz.f155.name, by decide, Tryz.func155.trans (congrArg some (by kernel_rfl))⟩
  f29 := ⟨Tryz.f156.name, by decide, Tryz.func156.trans (congrArg some (by kernel_rfl))⟩
  f31 := Tryz.func160.trans (congrArg some (by kernel_rfl))
  f32 := Tryz.func161.trans (congrArg some (by kernel_rfl))
  f36 := ⟨Tryz.f159.name, by decide, Tryz.func159.trans (congrArg some (by kernel_rfl))⟩
  f37 := ⟨Tryz.f162.name, by decide, Tryz.func162.trans (congrArg some (by kernel_rfl))⟩
  f38 := ⟨Tryz.f163.name, by decide, Tryz.func163.trans (congrArg some (by kernel_rfl))⟩
  f39 := ⟨Tryz.f164.name, by decide, Tryz.func164.trans (congrArg some (by kernel_rfl))⟩
  f41 := ⟨Tryz.f165.name, by decide, Tryz.func165.trans (congrArg some (by kernel_rfl))⟩
  t0 := Tryz.underlying0
  a0 := Tryz.isAgg0
  z0 := Tryz.sizeOf0
  v0 := Tryz.zeroValue0
  t3 := Tryz.underlying3
  a3 := Tryz.isAgg3
  z3 := Tryz.sizeOf3
  v3 := Tryz.zeroValue3
  t4 := Tryz.underlying4
  a4 := Tryz.isAgg4
  z4 := Tryz.sizeOf4
  v4 := Tryz.zeroValue4
  t5 := Tryz.underlying5
  a5 := Tryz.isAgg5
  z5 := Tryz.sizeOf5
  v5 := Tryz.zeroValue5
  t9 := Tryz.underlying9
  a9 := Tryz.isAgg9
  z9 := Tryz.sizeOf9
  v9 := Tryz.zeroValue9
  t26 := Tryz.underlying35
  a26 := Tryz.isAgg35
  z26 := Tryz.sizeOf35
  v26 := Tryz.zeroValue35
  t27 := Tryz.underlying35
  a27 := Tryz.isAgg35
  z27 := Tryz.sizeOf35
  v27 := Tryz.zeroValue35
  t29 := Tryz.underlying9
  a29 := Tryz.isAgg9
  z29 := Tryz.sizeOf9
  v29 := Tryz.zeroValue9
  t32 := Tryz.underlying171
  a32 := Tryz.isAgg171
  z32 := Tryz.sizeOf171
  v32 := Tryz.zeroValue171
  t35 := Tryz.underlying173
  a35 := Tryz.isAgg173
  z35 := Tryz.sizeOf173
  v35 := Tryz.zeroValue173
  t36 := Tryz.underlying174
  a36 := Tryz.isAgg174
  z36 := Tryz.sizeOf174
  v36 := Tryz.zeroValue174
  t41 := Tryz.underlying178
  a41 := Tryz.isAgg178
  z41 := Tryz.sizeOf178
  v41 := Tryz.zeroValue178
  t44 := Tryz.underlying181
  a44 := Tryz.isAgg181
  z44 := Tryz.sizeOf181
  v44 := Tryz.zeroValue181
  t46 := Tryz.underlying183
  a46 := Tryz.isAgg183
  z46 := Tryz.sizeOf183
  v46 := Tryz.zeroValue183
  t53 := Tryz.underlying184
  a53 := Tryz.isAgg184
  z53 := Tryz.sizeOf184
  v53 := Tryz.zeroValue184
  t57 := Tryz.underlying188
  a57 := Tryz.isAgg188
  z57 := Tryz.sizeOf188
  v57 := Tryz.zeroValue188
  t63 := Tryz.underlying190
  a63 := Tryz.isAgg190
  z63 := Tryz.sizeOf190
  v63 := Tryz.zeroValue190
  t64 := Tryz.underlying46
  a64 := Tryz.isAgg46
  z64 := Tryz.sizeOf46
  v64 := Tryz.zeroValue46 }
def Tryz.keys135_ren : Go.Shelf.Ren := ⟨fun | 7 => 135 | 10 => 144 | n => n, fun | 23 => 146 | 26 => 9 | 3 => 59 | 28 => 162 | 0 => 0 | 27 => 161 | 33 => 55 | 4 => 4 | n => n, fun | n => n⟩
theorem Tryz.keys135 : Go.Proofs.SlLaysZ.n7 Tryz.prog Tryz.keys135_ren := {
  mixed := by kernel_rfl
  f7 := ⟨Tryz.f135.name, by decide, Tryz.func135.trans (congrArg some (by kernel_rfl))⟩
  f10 := ⟨Tryz.f144.name, by decide, Tryz.func144.trans (congrArg some (by kernel_rfl))⟩
  t0 := Tryz.underlying0
  a0 := Tryz.isAgg0
  z0 := Tryz.sizeOf0
  v0 := Tryz.zeroValue0
  t4 := Tryz.underlying4
  a4 := Tryz.isAgg4
  z4 := Tryz.sizeOf4
  v4 := Tryz.zeroValue4
  t23 := Tryz.underlying146
  a23 := Tryz.isAgg146
  z23 := Tryz.sizeOf146
  v23 := Tryz.zeroValue146
  t26 := Tryz.underlying9
  a26 := Tryz.isAgg9
  z26 := Tryz.sizeOf9
  v26 := Tryz.zeroValue9
  t27 := Tryz.underlying161
  a27 := Tryz.isAgg161
  z27 := Tryz.sizeOf161
  v27 := Tryz.zeroValue161
  t28 := Tryz.underlying162
  a28 := Tryz.isAgg162
  z28 := Tryz.sizeOf162
  v28 := Tryz.zeroValue162
  t33 := Tryz.underlying55
  a33 := Tryz.isAgg55
  z33 := Tryz.sizeOf55
  v33 := Tryz.zeroValue55 }
theorem Tryz.sorts132 (m : Nat) : AnyZ.SortsIn Tryz.prog Tryz.sorted132_ren Fence.wide m :=
  ⟨fun blk off cap ss W hH hblk hsz => callsIn_wide.2 (AnyM.slices_Sort_string Tryz.sort141 blk off cap ss W hH hblk hsz),
   fun p cap W => callsIn_wide.2 (AnyM.slices_Sort_string_none Tryz.sort141 p cap W)⟩

theorem Tryz.maps_Keys_133 (mb : Option Nat) (W : World) : CallsIn Fence.wide 5 Tryz.prog 133 #[.map mb] W fun e w' => e = .returned (.func (.func 142) #[] #[.pointer (some ⟨W.heap.size, 0, none⟩)]) ∧ w' = W.alloc (.cells #[.map mb] 153) :=
  AnyZ.keys_in Tryz.keys133 Fence.wide 5 trivial rfl mb W

set_option maxHeartbeats 1000000 in
theorem Tryz.slices_Sorted_keys_132_133 {H : Type} (b nn : Nat) (D0 : DataW H) (R : Value → Option (DataW H × List MemPlace)) (w : World) (hown : w.ownsMap Tryz.prog 9 R b nn D0) (hmax : Maps.size D0 ≤ maxLen) (hbytes : Maps.size D0 * 16 ≤ 140737488355328) :
    CallsIn Fence.wide 5 Tryz.prog 132 #[.func (.func 142) #[] #[.pointer (some ⟨w.heap.size, 0, none⟩)]] (w.alloc (.cells #[.map (some b)] 153)) fun e w' => ∃ (v : Value) (ss : List (List UInt8)), e = .returned v ∧ ss.Perm (strKeys D0) ∧
      w'.ownsRow (w.alloc (.cells #[.map (some b)] 153)).heap.size 9 1 v ss.length ((ss.mergeSort (fun x y => decide (x ≤ y))).map encStr) ∧ (v = .slice none 0 0 ↔ ss = []) ∧ Below (w.alloc (.cells #[.map (some b)] 153)).heap.size (w.alloc (.cells #[.map (some b)] 153)) w' := by
  have hbl := hown.lt
  have hseq : SeqGives Fence.wide 2 Tryz.prog 142 #[.pointer (some ⟨w.heap.size, 0, none⟩)] encStr (fun ss => ss.Perm (strKeys D0)) (Maps.size D0) (w.alloc (.cells #[.map (some b)] 153)) :=
    AnyZ.keys_gives (ρ := Tryz.keys133_ren) { Tryz.keys133 with } Fence.wide _ trivial rfl (by omega) w.heap.size b nn D0 _ (by simp) (by simp) (by
      obtain ⟨es, clock, hb, Ft, hs, hD⟩ := hown
      exact ⟨es, clock, (Below.heap_alloc _ _ b hbl).trans hb, Ft, hs, hD⟩)
  exact AnyZ.sorted_in Tryz.sorted132 Fence.wide 5 trivial trivial trivial trivial rfl (by omega) (Tryz.sorts132 _) (enters_of Tryz.func141 (by kernel_rfl) rfl) 142 #[.pointer (some ⟨w.heap.size, 0, none⟩)] trivial (enters_of Tryz.func142 (by kernel_rfl) rfl) _ _ hmax hbytes _ hseq

theorem Tryz.maps_Keys_135 (mb : Option Nat) (W : World) : CallsIn Fence.wide 5 Tryz.prog 135 #[.map mb] W fun e w' => e = .returned (.func (.func 144) #[] #[.pointer (some ⟨W.heap.size, 0, none⟩)]) ∧ w' = W.alloc (.cells #[.map mb] 146) :=
  AnyZ.keys_in Tryz.keys135 Fence.wide 5 trivial rfl mb W

set_option maxHeartbeats 1000000 in
theorem Tryz.slices_Sorted_keys_132_135 {H : Type} (b nn : Nat) (D0 : DataW H) (R : Value → Option (DataW H × List MemPlace)) (w : World) (hown : w.ownsMap Tryz.prog 9 R b nn D0) (hmax : Maps.size D0 ≤ maxLen) (hbytes : Maps.size D0 * 16 ≤ 140737488355328) :
    CallsIn Fence.wide 5 Tryz.prog 132 #[.func (.func 144) #[] #[.pointer (some ⟨w.heap.size, 0, none⟩)]] (w.alloc (.cells #[.map (some b)] 146)) fun e w' => ∃ (v : Value) (ss : List (List UInt8)), e = .returned v ∧ ss.Perm (strKeys D0) ∧
      w'.ownsRow (w.alloc (.cells #[.map (some b)] 146)).heap.size 9 1 v ss.length ((ss.mergeSort (fun x y => decide (x ≤ y))).map encStr) ∧ (v = .slice none 0 0 ↔ ss = []) ∧ Below (w.alloc (.cells #[.map (some b)] 146)).heap.size (w.alloc (.cells #[.map (some b)] 146)) w' := by
  have hbl := hown.lt
  have hseq : SeqGives Fence.wide 2 Tryz.prog 144 #[.pointer (some ⟨w.heap.size, 0, none⟩)] encStr (fun ss => ss.Perm (strKeys D0)) (Maps.size D0) (w.alloc (.cells #[.map (some b)] 146)) :=
    AnyZ.keys_gives (ρ := Tryz.keys135_ren) { Tryz.keys135 with } Fence.wide _ trivial rfl (by omega) w.heap.size b nn D0 _ (by simp) (by simp) (by
      obtain ⟨es, clock, hb, Ft, hs, hD⟩ := hown
      exact ⟨es, clock, (Below.heap_alloc _ _ b hbl).trans hb, Ft, hs, hD⟩)
  exact AnyZ.sorted_in Tryz.sorted132 Fence.wide 5 trivial trivial trivial trivial rfl (by omega) (Tryz.sorts132 _) (enters_of Tryz.func141 (by kernel_rfl) rfl) 144 #[.pointer (some ⟨w.heap.size, 0, none⟩)] trivial (enters_of Tryz.func144 (by kernel_rfl) rfl) _ _ hmax hbytes _ hseq

end Go.Proofs.YtigmdfdcflkggaaGreat
/-
  Keys of a state's maps: the names, rising. Conditions: keys of at most 200 bytes, fewer than a hundred thousand.
-/
namespace Go.Proofs.YtigmdfdcflkggaaGreat
open Go Go.Proofs Go.RowKit Go.ChangeMaps Go.MapKept Go.WideElems Go.Maps Go.Sort Go.Shelf
open Go.WideShapes (sorted_perm)

def bytesOf (k : ByteArray) : List UInt8 := k.data.toList
def keysL {α : Type} (es : Es α) : List (List UInt8) := (es.map fun p => bytesOf p.1).mergeSort fun x y => decide (x ≤ y)
def readV : Value → Option (DataW Unit × List MemPlace) := fun _ => some (.nil, [])
set_option maxRecDepth 100000 in
theorem MapAt.owns {T : TypeId} {α : Type} {enc : α → Value} {w : World} {B mb ob : Nat} {lo : Option Addr} {es : Es α} (h : MapAt T enc w B mb lo ob es) (hk : ∀ p ∈ es, p.1.size ≤ 200) (hl : es.length ≤ 100000) :
    ∃ nn D0, w.ownsMap (H := Unit) Tryz.prog 9 readV ob nn D0 ∧ (strKeys D0).Perm (es.map fun p => bytesOf p.1) ∧ Maps.size D0 = es.length := by
  obtain ⟨es', clock, hb, hs, he⟩ := h.map
  have hlen : es'.size = es.length := by
    have := congrArg List.length he
    simpa [encE] using this
  have hkey : ∀ x ∈ es'.toList, ∃ s : ByteArray, x.key = .string s ∧ s.size ≤ 200 := fun x hx => by
    have : (x.key, x.val) ∈ (encE enc es).map fun p => (encS p.1, p.2) := by rw [← he]; exact List.mem_map_of_mem (f := fun x : MapEntry => (x.key, x.val)) hx
    obtain ⟨p, hp, e⟩ := List.mem_map.1 this
    obtain ⟨q, hq, rfl⟩ := List.mem_map.1 hp
    exact ⟨q.1, (congrArg Prod.fst e).symm, hk q hq⟩
  have hko : ∀ x ∈ es'.toList, ∀ s : ByteArray, x.key = .string s → keyOf Tryz.prog 9 x.key = some (.string (bytesOf s)) := fun x hx s hxs => by
    obtain ⟨s', h1, h2⟩ := hkey x hx
    rw [hxs] at h1
    cases h1
    rw [hxs]
    have h3 : s.size ≤ maxLen := Nat.le_trans h2 (by decide)
    simp [keyOf, mapKey, Tryz.underlying9, h3, bytesOf]
  have F : Fit Tryz.prog 9 readV es' clock := ⟨by rw [hlen]; exact Nat.le_trans hl (by decide), hs, fun x hx => by
    obtain ⟨s, h1, h2⟩ := hkey x hx
    exact ⟨_, by unfold WideElems.rd; rw [hko x hx s h1]; rfl⟩⟩
  refine ⟨es'.size, _, ⟨es', clock, hb, F, Nat.le_refl _, rfl⟩, ?_, ?_⟩
  · refine ((sorted_perm _).map _).trans ?_
    have e1 : (es'.toList.map (WideElems.rg Tryz.prog 9 readV)).map (fun p => strOf p.1) = es.map fun p => bytesOf p.1 := by
      have e2 : es'.toList.map (fun x => match x.key with | .string s => bytesOf s | _ => []) = es.map fun p => bytesOf p.1 := by
        have := congrArg (List.map fun q : Value × Value => match q.1 with | .string s => bytesOf s | _ => []) he
        rw [List.map_map, List.map_map] at this
        simp only [encE, List.map_map] at this
        exact this
      rw [← e2, List.map_map]
      refine List.map_congr_left fun x hx => ?_
      obtain ⟨s, h1, h2⟩ := hkey x hx
      show strOf (WideElems.rg Tryz.prog 9 readV x).1 = _
      unfold WideElems.rg WideElems.rd
      rw [hko x hx s h1, h1]
      rfl
    exact List.Perm.of_eq e1
  · show ((es'.toList.map (WideElems.rg Tryz.prog 9 readV)).foldr DataW.insert []).length = _
    rw [(sorted_perm _).length_eq, List.length_map, Array.length_toList, hlen]
theorem keysL_perm {α : Type} {es : Es α} {ss : List (List UInt8)} (h : ss.Perm (es.map fun p => bytesOf p.1)) : (ss.mergeSort fun x y => decide (x ≤ y)) = keysL es := mergeSort_of_perm h

set_option maxRecDepth 100000 in
set_option maxHeartbeats 1000000 in
theorem Keys_V {w : World} {B mb ob : Nat} {lo : Option Addr} {es : Es Vr} (h : MapAt 148 encV w B mb lo ob es) (hk : ∀ p ∈ es, p.1.size ≤ 200) (hl : es.length ≤ 100000) :
    Calls Tryz.prog 116 #[ptrV mb] w fun e w' => ∃ v, e = .returned v ∧ w'.ownsRow w.heap.size 9 1 v es.length ((keysL es).map encStr) ∧ Below w.heap.size w w' := by
  obtain ⟨nn, D0, hown, hperm, hsz⟩ := h.owns hk hl
  have c1 : w.cell? ⟨mb, 1, none⟩ = some (.map (some ob)) := h.blk.cell (i := 1) rfl
  have hlt := h.blk.lt
  have cS := Tryz.slices_Sorted_keys_132_135 ob nn D0 readV w hown (by rw [hsz]; exact Nat.le_trans hl (by decide)) (by rw [hsz]; omega)
  have hln : ∀ ss : List (List UInt8), ss.Perm (strKeys D0) → ss.length = es.length := fun ss hp => by
    have := (hp.trans hperm).length_eq
    simpa using this
  have hfin : ∀ ss : List (List UInt8), ss.Perm (strKeys D0) → (ss.mergeSort fun x y => decide (x ≤ y)) = keysL es := fun ss hp => keysL_perm (hp.trans hperm)
  replace hln := Lib.hid hln
  replace hfin := Lib.hid hfin
  unfold ptrV
  clear h hk hl hperm hsz hown
  refine (callsIn_wide (n := 6)).1 ?_
  have hfK : Fence.wide.fn 135 := trivial
  have hfS : Fence.wide.fn 132 := trivial
  refine callsIn_of_wp Tryz.func116 rfl trivial ?_ rfl
  simp only [Tryz.ntmps116, List.size_toArray, List.length_cons, List.length_nil, Nat.reduceAdd, Nat.reduceSub, Array.replicate_succ, Array.replicate_zero, List.push_toArray, List.append_toArray, List.nil_append, List.cons_append]
  gi_wp2_with (first
    | (gi_at_call 135; refine (Tryz.maps_Keys_135 _ _).mono ?_; rintro e w' ⟨rfl, rfl⟩)
    | (gi_at_call 132; refine cS.mono ?_; rintro e w' ⟨v, ss, rfl, hS, hrow, hnil, hb⟩))
  go_ret
  rw [hfin.out ss hS, hln.out ss hS] at hrow
  exact ⟨v, rfl, ownsRow_base_a hrow (by simp), ((Below.refl _ w).alloc (Nat.le_refl _) _).trans (hb.mono (by simp))⟩
set_option maxRecDepth 100000 in
set_option maxHeartbeats 1000000 in
theorem Keys_W {w : World} {B mb ob : Nat} {lo : Option Addr} {es : Es ByteArray} (h : MapAt 155 encW w B mb lo ob es) (hk : ∀ p ∈ es, p.1.size ≤ 200) (hl : es.length ≤ 100000) :
    Calls Tryz.prog 100 #[ptrV mb] w fun e w' => ∃ v, e = .returned v ∧ w'.ownsRow w.heap.size 9 1 v es.length ((keysL es).map encStr) ∧ Below w.heap.size w w' := by
  obtain ⟨nn, D0, hown, hperm, hsz⟩ := h.owns hk hl
  have c1 : w.cell? ⟨mb, 1, none⟩ = some (.map (some ob)) := h.blk.cell (i := 1) rfl
  have hlt := h.blk.lt
  have cS := Tryz.slices_Sorted_keys_132_133 ob nn D0 readV w hown (by rw [hsz]; exact Nat.le_trans hl (by decide)) (by rw [hsz]; omega)
  have hln : ∀ ss : List (List UInt8), ss.Perm (strKeys D0) → ss.length = es.length := fun ss hp => by
    have := (hp.trans hperm).length_eq
    simpa using this
  have hfin : ∀ ss : List (List UInt8), ss.Perm (strKeys D0) → (ss.mergeSort fun x y => decide (x ≤ y)) = keysL es := fun ss hp => keysL_perm (hp.trans hperm)
  replace hln := Lib.hid hln
  replace hfin := Lib.hid hfin
  unfold ptrV
  clear h hk hl hperm hsz hown
  refine (callsIn_wide (n := 6)).1 ?_
  have hfK : Fence.wide.fn 133 := trivial
  have hfS : Fence.wide.fn 132 := trivial
  refine callsIn_of_wp Tryz.func100 rfl trivial ?_ rfl
  simp only [Tryz.ntmps100, List.size_toArray, List.length_cons, List.length_nil, Nat.reduceAdd, Nat.reduceSub, Array.replicate_succ, Array.replicate_zero, List.push_toArray, List.append_toArray, List.nil_append, List.cons_append]
  gi_wp2_with (first
    | (gi_at_call 133; refine (Tryz.maps_Keys_133 _ _).mono ?_; rintro e w' ⟨rfl, rfl⟩)
    | (gi_at_call 132; refine cS.mono ?_; rintro e w' ⟨v, ss, rfl, hS, hrow, hnil, hb⟩))
  go_ret
  rw [hfin.out ss hS, hln.out ss hS] at hrow
  exact ⟨v, rfl, ownsRow_base_a hrow (by simp), ((Below.refl _ w).alloc (Nat.le_refl _) _).trans (hb.mono (by simp))⟩
/-- Names in rising order, as texts. -/
def names {α : Type} (es : Es α) : List ByteArray := (keysL es).map fun l => ⟨l.toArray⟩
theorem names_enc {α : Type} (es : Es α) : (keysL es).map encStr = (names es).map .string := by
  unfold names
  rw [List.map_map]
  rfl
theorem names_len {α : Type} (es : Es α) : (names es).length = es.length := by
  unfold names keysL
  rw [List.length_map, List.length_mergeSort, List.length_map]
theorem names_mem {α : Type} (es : Es α) (k : ByteArray) : k ∈ names es ↔ ∃ p ∈ es, p.1 = k := by
  unfold names keysL
  rw [List.mem_map]
  constructor
  · rintro ⟨l, hl, rfl⟩
    rw [(List.mergeSort_perm _ _).mem_iff] at hl
    obtain ⟨p, hp, rfl⟩ := List.mem_map.1 hl
    exact ⟨p, hp, rfl⟩
  · rintro ⟨p, hp, rfl⟩
    exact ⟨bytesOf p.1, (List.mergeSort_perm _ _).mem_iff.2 (List.mem_map.2 ⟨p, hp, rfl⟩), rfl⟩
end Go.Proofs.YtigmdfdcflkggaaGreat
/-
  Names and Environ of a state. Conditions: what is told stands; fewer than a hundred thousand names.
-/
namespace Go.Proofs.YtigmdfdcflkggaaGreat
open Go Go.RowKit Go.ChangeMaps

/-- All names, rising. -/
def KeysOf {α : Type} (f : ByteArray → Option α) (ns : List ByteArray) : Prop := ∃ es : Es α, es.Pairwise (fun p q => p.1 ≠ q.1) ∧ (∀ k, look es k = f k) ∧ ns = names es
theorem KeysOf.mem {α : Type} {f : ByteArray → Option α} {ns : List ByteArray} (h : KeysOf f ns) {k : ByteArray} (hk : k ∈ ns) : ∃ x, f k = some x := by
  obtain ⟨es, h1, h2, rfl⟩ := h
  obtain ⟨p, hp, rfl⟩ := (names_mem es k).1 hk
  exact ⟨p.2, (h2 p.1).symm.trans (look_of_mem h1 (show (p.1, p.2) ∈ es from hp))⟩
section
variable {w w' : World} {B sb : Nat} {a : Ad} {pot : Nat} {t : Tg} {n : Int}
theorem enc_apart {α : Type} {enc : α → Value} {es : Es α} (h : (encE enc es).Pairwise (fun p q => p.1 ≠ q.1)) : es.Pairwise (fun p q => p.1 ≠ q.1) := by
  unfold encE at h
  rw [List.pairwise_map] at h
  exact h
set_option maxRecDepth 100000 in
theorem Names_any (h : StAt w B sb a pot t n) (hp : pot ≤ 100000) : ∃ ns, KeysOf t.cur.v ns ∧ ns.length ≤ pot ∧
    Calls Tryz.prog 68 #[ptrV sb] w fun e w' => ∃ v, e = .returned v ∧ w'.ownsRow w.heap.size 9 1 v ns.length (ns.map .string) ∧ Below w.heap.size w w' := by
  have hi := sisNil_no h.blk
  have c0 := h.blk.cell (i := 0) rfl
  have hlt := h.blk.lt
  have hgood := h.th.good
  obtain ⟨ms, fs, ev, ef, ea, et, h1, h2, h5, h6, h7, h8, h9⟩ := h.th
  have hap := enc_apart h2.mv.map.apart
  have hkb : ∀ p ∈ ev, p.1.size ≤ 200 := fun p hp => (hgood.kb.v p.1 p.2 (by rw [← h2.lv]; exact look_of_mem hap (show (p.1, p.2) ∈ ev from hp))).1
  have hks := Keys_V h2.mv hkb (by omega)
  rw [names_enc, ← names_len ev] at hks
  refine ⟨names ev, ⟨ev, hap, h2.lv, rfl⟩, by rw [names_len]; omega, ?_⟩
  generalize names ev = ns at hks ⊢
  unfold ptrV at hi c0 hks ⊢
  clear h h1 h2 h5 h6 h7 h8 h9 hap hkb hgood
  go_enter Tryz.func68, Tryz.ntmps68
  go_wp2_with fail
  refine hi.mono ?_
  rintro e w' ⟨rfl, hw⟩
  obtain rfl := hw.symm
  clear hi hw
  go_wp2_with fail
  refine hks.mono ?_
  rintro e w2 ⟨v, rfl, hr, hb⟩
  have hfin := Lib.hid (And.intro hr hb)
  clear hks hr hb
  go_wp2
  go_ret
  exact ⟨v, rfl, hfin.out⟩
def envT (t : Tg) (k : ByteArray) : ByteArray := k ++ ⟨#[61]⟩ ++ (valV t k).v
def envL (t : Tg) (ns : List ByteArray) : List ByteArray := (ns.filter fun k => (valV t k).e && (valV t k).s).map (envT t)
theorem envL_snoc (t : Tg) (ns : List ByteArray) (k : ByteArray) : envL t (ns ++ [k]) = envL t ns ++ (if ((valV t k).e && (valV t k).s) = true then [envT t k] else []) := by
  unfold envL
  rw [List.filter_append, List.map_append]
  congr 1
  rw [List.filter_cons]
  split <;> rfl
theorem envL_len (t : Tg) (ns : List ByteArray) : (envL t ns).length ≤ ns.length := by
  unfold envL
  rw [List.length_map]
  exact List.length_filter_le _ _
theorem own_at {w : World} {base : Nat} {e : TypeId} {c m : Nat} {A : Option Addr} {xs : List Value} (h : w.ownsRow base e 1 (.slice A m c) m xs) (hn : 0 < m) : ∃ g, A = some ⟨g, 0, none⟩ ∧ base ≤ g ∧ g < w.heap.size ∧ ∀ (j : Nat) (u : Value), xs[j]? = some u → w.cell? ⟨g, j, none⟩ = some u := by
  rcases h.2 with ⟨h1, h2⟩ | ⟨g, cap, cur, h1, hb, hg, h2⟩
  · omega
  · cases h1
    refine ⟨g, rfl, hb, (Array.getElem?_eq_some_iff.1 hg).1, fun j u hu => ?_⟩
    have := h.cells (g := g) rfl j u hu
    rwa [add_plain0, Nat.zero_add] at this
theorem own_form {w : World} {base : Nat} {e : TypeId} {size m : Nat} {v : Value} {xs : List Value} (h : w.ownsRow base e size v m xs) : ∃ A c, v = .slice A m c ∧ m ≤ c ∧ c ≤ maxLen := by
  rcases h.2 with ⟨rfl, rfl⟩ | ⟨g, cap, cur, rfl, hb, hg, h1, h2, _⟩
  · exact ⟨none, 0, rfl, Nat.le_refl _, Nat.zero_le _⟩
  · exact ⟨_, cap, rfl, h1, h2⟩
theorem ownBelow {base m : Nat} {e : TypeId} {size : Nat} {v : Value} {xs : List Value} (h : w.ownsRow base e size v m xs) (k : Below w.heap.size w w') : w'.ownsRow base e size v m xs :=
  h.kept (row := none) ⟨k.os, k.tape, k.output, k.size, fun b hb _ => k.block b hb⟩ (by cases v.ownBlock <;> simp)
set_option maxRecDepth 100000 in
set_option maxHeartbeats 4000000 in
theorem Environ_any (h : StAt w B sb a pot t n) (hp : pot ≤ 100000) : ∃ ns, KeysOf t.cur.v ns ∧
    Calls Tryz.prog 31 #[ptrV sb] w fun e w' => ∃ v, e = .returned v ∧ w'.ownsRow w.heap.size 9 1 v (envL t ns).length ((envL t ns).map .string) ∧ Below w.heap.size w w' := by
  obtain ⟨i0, hi, hz0, hz1, hz2⟩ := info_parts infoStr
  obtain ⟨ns, hkeys, hns, hnm⟩ := Names_any h hp
  refine ⟨ns, hkeys, ?_⟩
  have hvar := fun (W : World) (hb : Below w.heap.size w W) (k : ByteArray) => Var_any (h.below hb) k
  have hvb := h.vb
  have hkb : ∀ j (hj : j < ns.length), ns[j].size ≤ 200 := fun j hj => by
    obtain ⟨x, hx⟩ := hkeys.mem (List.getElem_mem hj)
    exact (h.th.good.kb.v _ x hx).1
  unfold ptrV at hnm hvar ⊢
  replace hvar := Lib.hid hvar
  replace hvb := Lib.hid hvb
  replace hkb := Lib.hid hkb
  replace hi := Lib.hid hi
  clear h hkeys
  go_enter Tryz.func31, Tryz.ntmps31
  go_wp2_with fail
  refine hnm.mono ?_
  rintro e w2 ⟨nv, rfl, hnr, hb2⟩
  obtain ⟨A, c, rfl, hc, hcm⟩ := own_form hnr
  obtain ⟨KN, hKN⟩ : ∃ K, ns.length = K := ⟨_, rfl⟩
  obtain ⟨z, hz⟩ : ∃ z, w2.heap.size = z := ⟨_, rfl⟩
  rw [hKN] at hnr hc hns ⊢
  have hwz := hb2.size
  rw [hz] at hwz
  have hrow0 : Hid (w2.ownsRow z 9 1 (.slice none 0 0) (envL t (ns.take 0)).length ((envL t (ns.take 0)).map .string)) := Lib.hid (World.ownsRow_nil _ _ _ _)
  have hbz : Hid (Below z w2 w2) := Lib.hid (Below.refl _ _)
  unfold maxLen at hcm
  replace hb2 := Lib.hid hb2
  replace hKN := Lib.hid hKN
  replace hz := Lib.hid hz
  replace hnr := Lib.hid hnr
  clear hnm
  go_wp2
  go_loopw [10, 3] (fun iv ov wr => ∃ j : Nat, j ≤ KN ∧ iv = .int .i64 (j : Int) ∧ Hid (wr.ownsRow z 9 1 ov (envL t (ns.take j)).length ((envL t (ns.take j)).map .string)) ∧ Hid (Below z w2 wr)) (fun iv _ _ => KN - (intOf iv).toNat)
  case atStart => exact ⟨0, Nat.zero_le _, rfl, hrow0, hbz⟩
  case round =>
    clear hrow0 hbz
    obtain ⟨j, hj, rfl, hrow, hbz⟩ := hrel
    obtain ⟨A2, c2, rfl, hc2, hcm2⟩ := own_form hrow.out
    by_cases hlt : j < KN
    · have hjn : j < ns.length := by rw [hKN.out]; exact hlt
      obtain ⟨g, rfl, hg1, hg2, hgc⟩ := own_at hnr.out (by omega)
      have hgz : g < z := by rw [← hz.out]; exact hg2
      have ck := hgc j (.string ns[j]) (by rw [List.getElem?_map, List.getElem?_eq_getElem hjn]; rfl)
      have ck2 : wr.cell? ⟨g, j, none⟩ = some (.string ns[j]) := (World.cell?_of_block (a := ⟨g, j, none⟩) (hbz.out.block g hgz)).trans ck
      have hgl : g < wr.heap.size := by have := hbz.out.size; rw [hz.out] at this; omega
      have htk : ns.take (j + 1) = ns.take j ++ [ns[j]] := List.take_succ_eq_append_getElem hjn
      have hks := hkb.out j hjn
      have hvs := hvb.out ns[j]
      have hbw : Below w.heap.size w wr := hb2.out.trans (hbz.out.mono (by omega))
      have hv := hvar.out wr hbw ns[j]
      have hsn := envL_snoc t (ns.take j) ns[j]
      have hlen := envL_len t (ns.take j)
      rw [← htk] at hsn
      unfold envT at hsn
      have hj1 : (0 : Int) ≤ (j : Int) := by omega
      have hj2 : (j : Int) < (KN : Int) := by omega
      rw [List.length_take] at hlen
      generalize ns[j] = k at ck2 hks hvs hv hsn
      obtain ⟨V, hV⟩ : ∃ V, valV t k = V := ⟨_, rfl⟩
      rw [hV] at hvs hv hsn
      obtain ⟨x0, x1, x2, x3⟩ := V
      unfold encV at hv
      dsimp only at hvs hv hsn
      obtain ⟨L2, hL2⟩ : ∃ L2, envL t (ns.take (j + 1)) = L2 := ⟨_, rfl⟩
      rw [hL2] at hsn
      replace hL2 := Lib.hid hL2
      generalize envL t (ns.take j) = L1 at hrow hc2 hsn hlen ⊢
      replace hV := Lib.hid hV
      replace hsn := Lib.hid hsn
      clear ck hgc hg1 hg2 htk hbw
      cases x2
      · skip
        go_wp2_with fail
        refine hv.mono ?_
        rintro e w3 ⟨rfl, hb3⟩
        have hrow3 := ownBelow hrow.out hb3
        have hbz3 : Below z w2 w3 := hbz.out.trans (hb3.mono (by have := hbz.out.size; rw [hz.out] at this; omega))
        go_upto_region 6 with fail
        have hrowB := ownBelow hrow3 (Below.of_alloc w3 (.cells #[.string x0, .bool x1, .bool false, .bool x3] 59))
        have hbzB := hbz3.alloc (by have := hbz3.size; rw [hz.out] at this; omega) (.cells #[.string x0, .bool x1, .bool false, .bool x3] 59)
        have bB : Blk (w3.alloc (.cells #[.string x0, .bool x1, .bool false, .bool x3] 59)) w3.heap.size [.string x0, .bool x1, .bool false, .bool x3] 59 := Blk.new w3 _ _
        generalize (w3.alloc (.cells #[.string x0, .bool x1, .bool false, .bool x3] 59)) = wB at hrowB hbzB bB ⊢
        generalize w3.heap.size = y at bB ⊢
        have y0 := bB.cell (i := 0) rfl
        have y1 := bB.cell (i := 1) rfl
        have y2 := bB.cell (i := 2) rfl
        have yl := bB.lt
        clear bB hb3 hrow3 hbz3 hv hrow hbz ck2
        have hrowE : Hid (wB.ownsRow z 9 1 (.slice A2 L1.length c2) L2.length (L2.map .string)) := Lib.hid (by rw [hsn.out]; simpa using hrowB)
        replace hbzB := Lib.hid hbzB
        clear hrowB
        go_wp2
        go_roundw
        case rel => exact ⟨j + 1, by omega, by go_num, (by rw [hL2.out]; exact hrowE), hbzB⟩
        case measure => simp [intOf]; omega
      · cases x1
        · skip
          go_wp2_with fail
          refine hv.mono ?_
          rintro e w3 ⟨rfl, hb3⟩
          have hrow3 := ownBelow hrow.out hb3
          have hbz3 : Below z w2 w3 := hbz.out.trans (hb3.mono (by have := hbz.out.size; rw [hz.out] at this; omega))
          go_upto_region 6 with fail
          have hrowB := ownBelow hrow3 (Below.of_alloc w3 (.cells #[.string x0, .bool false, .bool true, .bool x3] 59))
          have hbzB := hbz3.alloc (by have := hbz3.size; rw [hz.out] at this; omega) (.cells #[.string x0, .bool false, .bool true, .bool x3] 59)
          have bB : Blk (w3.alloc (.cells #[.string x0, .bool false, .bool true, .bool x3] 59)) w3.heap.size [.string x0, .bool false, .bool true, .bool x3] 59 := Blk.new w3 _ _
          generalize (w3.alloc (.cells #[.string x0, .bool false, .bool true, .bool x3] 59)) = wB at hrowB hbzB bB ⊢
          generalize w3.heap.size = y at bB ⊢
          have y0 := bB.cell (i := 0) rfl
          have y1 := bB.cell (i := 1) rfl
          have y2 := bB.cell (i := 2) rfl
          have yl := bB.lt
          clear bB hb3 hrow3 hbz3 hv hrow hbz ck2
          have hrowE : Hid (wB.ownsRow z 9 1 (.slice A2 L1.length c2) L2.length (L2.map .string)) := Lib.hid (by rw [hsn.out]; simpa using hrowB)
          replace hbzB := Lib.hid hbzB
          clear hrowB
          go_wp2
          go_roundw
          case rel => exact ⟨j + 1, by omega, by go_num, (by rw [hL2.out]; exact hrowE), hbzB⟩
          case measure => simp [intOf]; omega
        · skip
          go_wp2_with fail
          refine hv.mono ?_
          rintro e w3 ⟨rfl, hb3⟩
          have hrow3 := ownBelow hrow.out hb3
          have hbz3 : Below z w2 w3 := hbz.out.trans (hb3.mono (by have := hbz.out.size; rw [hz.out] at this; omega))
          go_upto_region 6 with fail
          have hrowB := ownBelow hrow3 (Below.of_alloc w3 (.cells #[.string x0, .bool true, .bool true, .bool x3] 59))
          have hbzB := hbz3.alloc (by have := hbz3.size; rw [hz.out] at this; omega) (.cells #[.string x0, .bool true, .bool true, .bool x3] 59)
          have bB : Blk (w3.alloc (.cells #[.string x0, .bool true, .bool true, .bool x3] 59)) w3.heap.size [.string x0, .bool true, .bool true, .bool x3] 59 := Blk.new w3 _ _
          generalize (w3.alloc (.cells #[.string x0, .bool true, .bool true, .bool x3] 59)) = wB at hrowB hbzB bB ⊢
          generalize w3.heap.size = y at bB ⊢
          have y0 := bB.cell (i := 0) rfl
          have y1 := bB.cell (i := 1) rfl
          have y2 := bB.cell (i := 2) rfl
          have yl := bB.lt
          clear bB hb3 hrow3 hbz3 hv hrow hbz ck2
          have hadd1 : ∀ W : World, (Op.stringOp .add k ⟨#[61]⟩).run Tryz.prog W = .ok (.string (k ++ ⟨#[61]⟩)) W := fun W => run_string_add W _ _ (by omega) (by decide)
          have hsz2 : ((k ++ ⟨#[61]⟩ : ByteArray).size : Int) ≤ 8388608 := by rw [ByteArray.size_append]; have : (⟨#[61]⟩ : ByteArray).size = 1 := rfl; omega
          have hadd2 : ∀ W : World, (Op.stringOp .add (k ++ ⟨#[61]⟩) x0).run Tryz.prog W = .ok (.string (k ++ ⟨#[61]⟩ ++ x0)) W := fun W => run_string_add W _ _ hsz2 (by omega)
          have hBn : ∀ i u, ([.string (k ++ ⟨#[61]⟩ ++ x0)] : List Value)[i]? = some u → (wB.alloc (.cells #[.string (k ++ ⟨#[61]⟩ ++ x0)] 9)).cell? ((⟨wB.heap.size, 0, none⟩ : Addr).add i) = some u := by
            intro i u hu
            rw [add_plain0, Nat.zero_add]
            exact (Blk.new wB [.string (k ++ ⟨#[61]⟩ ++ x0)] 9).cell hu
          obtain ⟨gg, cap, w5, hrun, hrow5, hgr5, hat, hgl5⟩ := run_append_lies (P := Tryz.prog) (wB.alloc (.cells #[.string (k ++ ⟨#[61]⟩ ++ x0)] 9)) 35 35 z 9 i0 _ 1 16 Tryz.underlying35 hi.out hz0 hz1 hz2 rfl (by decide)
            (.slice A2 L1.length c2) L1.length _ (hrowB.alloc _) ⟨wB.heap.size, 0, none⟩ 1 1 [.string (k ++ ⟨#[61]⟩ ++ x0)] rfl hBn (by simp [Value.oneCell']) (by decide) (by unfold maxLen; omega) (by omega) (by have := hbzB.size; rw [hz.out] at this; simp; omega) (wB.heap.size + 1) (by simp)
          have hlt5 := hrowB.lt
          have hbz5 : Hid (Below z w2 w5) := Lib.hid ((hbzB.alloc (by have := hbzB.size; rw [hz.out] at this; omega) _).grown hgr5 (by have := hbzB.size; rw [hz.out] at this; simp; omega) (fun k hk => (hlt5 k hk).1))
          have hrowE : Hid (w5.ownsRow z 9 1 (.slice (some ⟨gg, 0, none⟩) (L1.length + 1) cap) L2.length (L2.map .string)) := Lib.hid (by rw [hsn.out]; simpa using hrow5)
          replace hrun := Lib.hid hrun
          clear hrowB hrow5 hgr5 hat hgl5 hlt5 hBn hbzB hsz2
          go_wp2_with (at_builtin; refine wpList_append_of rfl _ _ 35 35 rfl _ _ _ w5 rfl rfl hrun.out ?_)
          go_wp2
          go_roundw
          case rel => exact ⟨j + 1, by omega, by go_num, (by rw [hL2.out]; exact hrowE), hbz5⟩
          case measure => simp [intOf]; omega
    · obtain rfl : j = KN := by omega
      have hj2 : ¬ (j : Int) < (j : Int) := by omega
      have hfin : Hid (wr.ownsRow w.heap.size 9 1 (.slice A2 (envL t (ns.take j)).length c2) (envL t ns).length ((envL t ns).map .string) ∧ Below w.heap.size w wr) := Lib.hid ⟨by
        have := hrow.out
        rw [← hKN.out, List.take_length] at this ⊢
        exact World.ownsRow.mono this hwz, hb2.out.trans (hbz.out.mono hwz)⟩
      clear hrow hbz
      go_wp2
      go_ret
      exact ⟨_, rfl, hfin.out⟩
end
end Go.Proofs.YtigmdfdcflkggaaGreat
/-
  Aliases and SetOption of a state. Conditions: what is told stands; fewer than a hundred thousand names.
-/
namespace Go.Proofs.YtigmdfdcflkggaaGreat
open Go Go.RowKit Go.ChangeMaps

section
variable {w w' : World} {B sb : Nat} {a : Ad} {pot : Nat} {t : Tg} {n : Int}
set_option maxRecDepth 100000 in
theorem Aliases_any (h : StAt w B sb a pot t n) (hp : pot ≤ 100000) : ∃ ns, KeysOf t.cur.a ns ∧ ns.length ≤ pot ∧
    Calls Tryz.prog 69 #[ptrV sb] w fun e w' => ∃ v, e = .returned v ∧ w'.ownsRow w.heap.size 9 1 v ns.length (ns.map .string) ∧ Below w.heap.size w w' := by
  have hi := sisNil_no h.blk
  have c0 := h.blk.cell (i := 2) rfl
  have hlt := h.blk.lt
  have hgood := h.th.good
  obtain ⟨ms, fs, ev, ef, ea, et, h1, h2, h5, h6, h7, h8, h9⟩ := h.th
  have hap := enc_apart h2.ma.map.apart
  have hkb : ∀ p ∈ ea, p.1.size ≤ 200 := fun p hp => (hgood.kb.a p.1 p.2 (by rw [← h2.la]; exact look_of_mem hap (show (p.1, p.2) ∈ ea from hp))).1
  have hks := Keys_W h2.ma hkb (by omega)
  rw [names_enc, ← names_len ea] at hks
  refine ⟨names ea, ⟨ea, hap, h2.la, rfl⟩, by rw [names_len]; omega, ?_⟩
  generalize names ea = ns at hks ⊢
  unfold ptrV at hi c0 hks ⊢
  clear h h1 h2 h5 h6 h7 h8 h9 hap hkb hgood
  go_enter Tryz.func69, Tryz.ntmps69
  go_wp2_with fail
  refine hi.mono ?_
  rintro e w' ⟨rfl, hw⟩
  obtain rfl := hw.symm
  clear hi hw
  go_wp2_with fail
  refine hks.mono ?_
  rintro e w2 ⟨v, rfl, hr, hb⟩
  have hfin := Lib.hid (And.intro hr hb)
  clear hks hr hb
  go_wp2
  go_ret
  exact ⟨v, rfl, hfin.out⟩
theorem ownKeepB {base m : Nat} {e : TypeId} {v : Value} {xs : List Value} (h : w.ownsRow base e 1 v m xs) (k : KeepB w w') (he : ¬ PkT e) : w'.ownsRow base e 1 v m xs := by
  refine ⟨h.1, h.2.elim .inl (fun ⟨g, cap, cur, hv, hb, hg, h1, h2, h3, h4⟩ => .inr ⟨g, cap, cur, hv, hb, ?_, h1, h2, h3, h4⟩)⟩
  have b : Blk w g cur.toList e := by unfold Blk; simpa using hg
  have := k _ _ _ b he
  unfold Blk at this
  simpa using this
theorem infoByte : (Tryz.prog.info? 5).map (fun i => (i.zero, i.size, i.bytes)) = some (some (.int .u8 0), 1, 1) := by kernel_rfl
/-- string(b) of a row of bytes that the call has made; nil too. -/
theorem run_string_own {base n : Nat} {v : Value} {l : List UInt8} (h : w.ownsRow base 5 1 v n (Lib.byteCells l)) :
    (convert 130 9 v).run Tryz.prog w = .ok (.string ⟨l.toArray⟩) w := by
  have hl := h.1
  rw [Lib.byteCells_length, Nat.mul_one] at hl
  rcases h.2 with ⟨rfl, h0⟩ | ⟨g, cap, cur, rfl, r⟩
  · have : l = [] := List.eq_nil_of_length_eq_zero (by omega)
    subst this
    exact Lib.run_convert_nil_bytes w _ _ _ _ Tryz.underlying130 Tryz.underlying5 Tryz.underlying9
  · subst hl
    refine run_convert_bytes_back w _ _ 5 _ _ l Tryz.underlying130 Tryz.underlying5 Tryz.underlying9 (fun j hj => ?_)
    refine h.cells (g := g) rfl j _ ?_
    simp [Lib.byteCells, hj]
def optA : List UInt8 := [67, 97, 101, 102, 117, 120]
/-- Whether an option is on behind SetOption. -/
def optK (t : Tg) (o : UInt8) (on : Bool) (x : UInt8) : Bool := if x = o then on else optB t x
def optL (t : Tg) (o : UInt8) (on : Bool) (l : List UInt8) : List UInt8 := l.filter (optK t o on)
theorem optL_snoc (t : Tg) (o : UInt8) (on : Bool) (l : List UInt8) (x : UInt8) : optL t o on (l ++ [x]) = optL t o on l ++ (if optK t o on x = true then [x] else []) := by
  unfold optL
  rw [List.filter_append]
  congr 1
  rw [List.filter_cons]
  split <;> rfl
theorem optL_len (t : Tg) (o : UInt8) (on : Bool) (l : List UInt8) : (optL t o on l).length ≤ l.length := List.length_filter_le _ _
def Tg.setO (t : Tg) (o : UInt8) (on : Bool) : Int × Tg := if Lib.indexByte optA o < 0 then (1, t) else t.seto ⟨(optL t o on optA).toArray⟩
set_option maxRecDepth 100000 in
theorem SetOption_no (h : StAt w B sb a pot t n) (o : UInt8) (on : Bool) (hno : Lib.indexByte optA o < 0) :
    Calls Tryz.prog 30 #[ptrV sb, .int .u8 (o.toNat : Int), .bool on] w fun e w' => e = .returned (.int .i64 1) ∧ w' = w := by
  have hi := sisNil_no h.blk
  have hix := indexByte ⟨optA.toArray⟩ (o.toNat : Int) w
  rw [show ((o.toNat : Int)).toNat.toUInt8 = o by simp] at hix
  rw [show (⟨optA.toArray⟩ : ByteArray).data.toList = optA from rfl] at hix
  generalize Lib.indexByte optA o = ix at hix hno
  unfold optA at hix
  unfold ptrV at hi ⊢
  clear h
  go_enter Tryz.func30, Tryz.ntmps30
  go_wp2_with fail
  refine hi.mono ?_
  rintro e w' ⟨rfl, hw⟩
  obtain rfl := hw.symm
  clear hi hw
  go_wp2_with fail
  refine hix.mono ?_
  rintro e w' ⟨rfl, hw⟩
  obtain rfl := hw.symm
  clear hix hw
  go_wp2
  go_ret
  exact ⟨rfl, rfl⟩
set_option maxRecDepth 100000 in
set_option maxHeartbeats 4000000 in
theorem SetOption_ok (h : StAt w B sb a pot t n) (o : UInt8) (on : Bool) (hno : ¬ Lib.indexByte optA o < 0) :
    Calls Tryz.prog 30 #[ptrV sb, .int .u8 (o.toNat : Int), .bool on] w fun e w' => e = .returned (.int .i64 (t.seto ⟨(optL t o on optA).toArray⟩).1) ∧ StAt w' B sb a (pot + 2) (t.seto ⟨(optL t o on optA).toArray⟩).2 n ∧ FrT B a w w' := by
  obtain ⟨i0, hif, hz0, hz1, hz2⟩ := info_parts infoByte
  have hi := sisNil_no h.blk
  have hix := indexByte ⟨optA.toArray⟩ (o.toNat : Int) w
  rw [show ((o.toNat : Int)).toNat.toUInt8 = o by simp] at hix
  rw [show (⟨optA.toArray⟩ : ByteArray).data.toList = optA from rfl] at hix
  generalize Lib.indexByte optA o = ix at hix hno
  obtain ⟨OC, hOC⟩ : ∃ OC : ByteArray, OC = ⟨optA.toArray⟩ := ⟨_, rfl⟩
  have hopt := fun (W : World) (hb : Below w.heap.size w W) (c : UInt8) => Option_any (h.below hb) c
  have hst := fun (W : World) (hb : Below w.heap.size w W) => h.below hb
  have hset := fun (W : World) (hb : Below w.heap.size w W) (x : ByteArray) => th_seto (h.below hb).th x
  unfold optA at hix
  unfold ptrV at hi hopt hset ⊢
  replace hopt := Lib.hid hopt
  replace hst := Lib.hid hst
  replace hset := Lib.hid hset
  replace hif := Lib.hid hif
  clear h hOC
  have kc := fun (w : World) (C : Array Value) (n c : Nat) => Lib.run_convert_bytes_const (P := Tryz.prog) w 130 5 C n c Tryz.underlying130 Tryz.underlying5
  go_enter Tryz.func30, Tryz.ntmps30
  go_wp2_with fail
  refine hi.mono ?_
  rintro e w' ⟨rfl, hw⟩
  obtain rfl := hw.symm
  clear hi hw
  go_wp2_with fail
  refine hix.mono ?_
  rintro e w' ⟨rfl, hw⟩
  obtain rfl := hw.symm
  clear hix hw
  have bC : ∀ j (hj : j < 6), (w.alloc (.cells #[.int .u8 67, .int .u8 97, .int .u8 101, .int .u8 102, .int .u8 117, .int .u8 120] 5 (6, 7))).cell? ⟨w.heap.size, j, none⟩ = some (.int .u8 ((optA[j]'hj).toNat : Int)) := by
    intro j hj
    have e : (#[.int .u8 67, .int .u8 97, .int .u8 101, .int .u8 102, .int .u8 117, .int .u8 120] : Array Value)[j]? = some (.int .u8 ((optA[j]'hj).toNat : Int)) := by
      match j, hj with
      | 0, _ => rfl
      | 1, _ => rfl
      | 2, _ => rfl
      | 3, _ => rfl
      | 4, _ => rfl
      | 5, _ => rfl
    have hr : (w.alloc (.cells #[.int .u8 67, .int .u8 97, .int .u8 101, .int .u8 102, .int .u8 117, .int .u8 120] 5 (6, 7))).heap[w.heap.size]? = some (.cells #[.int .u8 67, .int .u8 97, .int .u8 101, .int .u8 102, .int .u8 117, .int .u8 120] 5 (6, 7)) := heap_alloc_new w _
    generalize (w.alloc (.cells #[.int .u8 67, .int .u8 97, .int .u8 101, .int .u8 102, .int .u8 117, .int .u8 120] 5 (6, 7))) = W at hr ⊢
    unfold World.cell?
    rw [hr]
    exact e
  have hbC : Below w.heap.size w (w.alloc (.cells #[.int .u8 67, .int .u8 97, .int .u8 101, .int .u8 102, .int .u8 117, .int .u8 120] 5 (6, 7))) := Below.of_alloc w _
  have hgs : w.heap.size < (w.alloc (.cells #[.int .u8 67, .int .u8 97, .int .u8 101, .int .u8 102, .int .u8 117, .int .u8 120] 5 (6, 7))).heap.size := by simp
  replace bC := Lib.hid bC
  replace hbC := Lib.hid hbC
  replace hgs := Lib.hid hgs
  go_upto_region 7 with fail
  obtain ⟨g, hg⟩ : ∃ g, w.heap.size = g := ⟨_, rfl⟩
  rw [hg] at bC hbC hgs ⊢
  generalize (w.alloc (.cells #[.int .u8 67, .int .u8 97, .int .u8 101, .int .u8 102, .int .u8 117, .int .u8 120] 5 (6, 7))) = w2 at bC hbC hgs ⊢
  replace hg := Lib.hid hg
  obtain ⟨z, hz⟩ : ∃ z, w2.heap.size = z := ⟨_, rfl⟩
  have hgz : g < z := by rw [← hz]; exact hgs.out
  replace hz := Lib.hid hz
  have hrow0 : Hid (w2.ownsRow z 5 1 (.slice none 0 0) (optL t o on (optA.take 0)).length (Lib.byteCells (optL t o on (optA.take 0)))) := Lib.hid (World.ownsRow_nil _ _ _ _)
  have hbz : Hid (Below z w2 w2) := Lib.hid (Below.refl _ _)
  clear kc
  go_loopw [20, 7] (fun iv ov wr => ∃ j : Nat, j ≤ 6 ∧ iv = .int .i64 (j : Int) ∧ Hid (wr.ownsRow z 5 1 ov (optL t o on (optA.take j)).length (Lib.byteCells (optL t o on (optA.take j)))) ∧ Hid (Below z w2 wr)) (fun iv _ _ => 6 - (intOf iv).toNat)
  case atStart => exact ⟨0, Nat.zero_le _, rfl, hrow0, hbz⟩
  case round =>
    clear hrow0 hbz
    obtain ⟨j, hj, rfl, hrow, hbz⟩ := hrel
    obtain ⟨A2, c2, rfl, hc2, hcm2⟩ := own_form hrow.out
    by_cases hlt : j < 6
    · have hjn : j < optA.length := hlt
      have htk : optA.take (j + 1) = optA.take j ++ [optA[j]] := List.take_succ_eq_append_getElem hjn
      have ck : wr.cell? ⟨g, j, none⟩ = some (.int .u8 ((optA[j]).toNat : Int)) := (World.cell?_of_block (a := ⟨g, j, none⟩) (hbz.out.block g hgz)).trans (bC.out j hlt)
      have hgl : g < wr.heap.size := by have := hbz.out.size; rw [hz.out] at this; omega
      have hsn := optL_snoc t o on (optA.take j) optA[j]
      rw [← htk] at hsn
      have hlen := optL_len t o on (optA.take j)
      rw [List.length_take] at hlen
      have hj1 : (0 : Int) ≤ (j : Int) := by omega
      have hj2 : (j : Int) < 6 := by omega
      generalize optA[j] = x at ck hsn
      obtain ⟨L2, hL2⟩ : ∃ L2, optL t o on (optA.take (j + 1)) = L2 := ⟨_, rfl⟩
      rw [hL2] at hsn
      replace hL2 := Lib.hid hL2
      generalize optL t o on (optA.take j) = L1 at hrow hc2 hsn hlen ⊢
      replace hsn := Lib.hid hsn
      have hv := hopt.out wr (hbC.out.trans (hbz.out.mono (by omega))|>.mono (by rw [hg.out]; exact Nat.le_refl _)) x
      clear htk
      by_cases hxo : x = o
      · subst hxo
        clear hv
        have hrowB := hrow.out
        have hbzB := hbz.out
        clear hrow hbz
        cases on
        · have hkk : (if optK t x false x = true then [x] else []) = ([] : List UInt8) := by unfold optK; simp
          have hrowE : Hid (wr.ownsRow z 5 1 (.slice A2 L1.length c2) L2.length (Lib.byteCells L2)) := Lib.hid (by rw [hsn.out, hkk]; simpa using hrowB)
          replace hbzB := Lib.hid hbzB
          clear hrowB
          go_wp2
          go_roundw
          case rel => exact ⟨j + 1, by omega, by go_num, (by rw [hL2.out]; exact hrowE), hbzB⟩
          case measure => simp [intOf]; omega
        · have hkk : (if optK t x true x = true then [x] else []) = [x] := by unfold optK; simp
          have hBn : ∀ i u, ([.int .u8 (x.toNat : Int)] : List Value)[i]? = some u → (wr.alloc (.cells #[.int .u8 (x.toNat : Int)] 5)).cell? ((⟨wr.heap.size, 0, none⟩ : Addr).add i) = some u := by
            intro i u hu
            rw [add_plain0, Nat.zero_add]
            exact (Blk.new wr [.int .u8 (x.toNat : Int)] 5).cell hu
          obtain ⟨gg, cap, w5, hrun, hrow5, hgr5, hat, hgl5⟩ := run_append_lies (P := Tryz.prog) (wr.alloc (.cells #[.int .u8 (x.toNat : Int)] 5)) 130 130 z 5 i0 _ 1 1 Tryz.underlying130 hif.out hz0 hz1 hz2 rfl (by decide)
            (.slice A2 L1.length c2) L1.length _ (hrowB.alloc _) ⟨wr.heap.size, 0, none⟩ 1 1 [.int .u8 (x.toNat : Int)] rfl hBn (by simp [Value.oneCell']) (by decide) (by unfold maxLen; omega) (by omega) (by have := hbzB.size; rw [hz.out] at this; simp; omega) (wr.heap.size + 1) (by simp)
          have hlt5 := hrowB.lt
          have hbz5 : Hid (Below z w2 w5) := Lib.hid ((hbzB.alloc (by have := hbzB.size; rw [hz.out] at this; omega) _).grown hgr5 (by have := hbzB.size; rw [hz.out] at this; simp; omega) (fun k hk => (hlt5 k hk).1))
          have hrowE : Hid (w5.ownsRow z 5 1 (.slice (some ⟨gg, 0, none⟩) (L1.length + 1) cap) L2.length (Lib.byteCells L2)) := Lib.hid (by rw [hsn.out, hkk]; simpa [Lib.byteCells] using hrow5)
          replace hrun := Lib.hid hrun
          clear hrowB hrow5 hgr5 hat hgl5 hlt5 hBn hbzB
          go_wp2_with (at_builtin; refine wpList_append_of rfl _ _ 130 130 rfl _ _ _ w5 rfl rfl hrun.out ?_)
          go_wp2
          go_roundw
          case rel => exact ⟨j + 1, by omega, by go_num, (by rw [hL2.out]; exact hrowE), hbz5⟩
          case measure => simp [intOf]; omega
      · have hne : ((x.toNat : Int) == (o.toNat : Int)) = false := by
          rw [beq_eq_false_iff_ne]
          intro e
          exact hxo (UInt8.toNat_inj.1 (by omega))
        have hne2 : ((x.toNat : Int) != (o.toNat : Int)) = true := by rw [bne, hne]; rfl
        have hkk0 : optK t o on x = optB t x := if_neg hxo
        obtain ⟨R, hR⟩ : ∃ R, optB t x = R := ⟨_, rfl⟩
        rw [hR] at hv hkk0
        replace hR := Lib.hid hR
        replace hkk0 := Lib.hid hkk0
        cases R
        · go_wp2_with fail
          refine hv.mono ?_
          rintro e w3 ⟨rfl, hb3⟩
          have hrowB := ownBelow hrow.out hb3
          have hbzB : Below z w2 w3 := hbz.out.trans (hb3.mono (by have := hbz.out.size; rw [hz.out] at this; omega))
          have hkk : (if optK t o on x = true then [x] else []) = ([] : List UInt8) := by rw [hkk0.out]; rfl
          clear hb3 hv hrow hbz ck
          have hrowE : Hid (w3.ownsRow z 5 1 (.slice A2 L1.length c2) L2.length (Lib.byteCells L2)) := Lib.hid (by rw [hsn.out, hkk]; simpa using hrowB)
          replace hbzB := Lib.hid hbzB
          clear hrowB
          go_wp2
          go_roundw
          case rel => exact ⟨j + 1, by omega, by go_num, (by rw [hL2.out]; exact hrowE), hbzB⟩
          case measure => simp [intOf]; omega
        · go_wp2_with fail
          refine hv.mono ?_
          rintro e w3 ⟨rfl, hb3⟩
          have hrowB := ownBelow hrow.out hb3
          have hbzB : Below z w2 w3 := hbz.out.trans (hb3.mono (by have := hbz.out.size; rw [hz.out] at this; omega))
          have hkk : (if optK t o on x = true then [x] else []) = [x] := by rw [hkk0.out]; rfl
          clear hb3 hv hrow hbz ck
          have hBn : ∀ i u, ([.int .u8 (x.toNat : Int)] : List Value)[i]? = some u → (w3.alloc (.cells #[.int .u8 (x.toNat : Int)] 5)).cell? ((⟨w3.heap.size, 0, none⟩ : Addr).add i) = some u := by
            intro i u hu
            rw [add_plain0, Nat.zero_add]
            exact (Blk.new w3 [.int .u8 (x.toNat : Int)] 5).cell hu
          obtain ⟨gg, cap, w5, hrun, hrow5, hgr5, hat, hgl5⟩ := run_append_lies (P := Tryz.prog) (w3.alloc (.cells #[.int .u8 (x.toNat : Int)] 5)) 130 130 z 5 i0 _ 1 1 Tryz.underlying130 hif.out hz0 hz1 hz2 rfl (by decide)
            (.slice A2 L1.length c2) L1.length _ (hrowB.alloc _) ⟨w3.heap.size, 0, none⟩ 1 1 [.int .u8 (x.toNat : Int)] rfl hBn (by simp [Value.oneCell']) (by decide) (by unfold maxLen; omega) (by omega) (by have := hbzB.size; rw [hz.out] at this; simp; omega) (w3.heap.size + 1) (by simp)
          have hlt5 := hrowB.lt
          have hbz5 : Hid (Below z w2 w5) := Lib.hid ((hbzB.alloc (by have := hbzB.size; rw [hz.out] at this; omega) _).grown hgr5 (by have := hbzB.size; rw [hz.out] at this; simp; omega) (fun k hk => (hlt5 k hk).1))
          have hrowE : Hid (w5.ownsRow z 5 1 (.slice (some ⟨gg, 0, none⟩) (L1.length + 1) cap) L2.length (Lib.byteCells L2)) := Lib.hid (by rw [hsn.out, hkk]; simpa [Lib.byteCells] using hrow5)
          replace hrun := Lib.hid hrun
          clear hrowB hrow5 hgr5 hat hgl5 hlt5 hBn hbzB
          go_wp2_with (at_builtin; refine wpList_append_of rfl _ _ 130 130 rfl _ _ _ w5 rfl rfl hrun.out ?_)
          go_wp2
          go_roundw
          case rel => exact ⟨j + 1, by omega, by go_num, (by rw [hL2.out]; exact hrowE), hbz5⟩
          case measure => simp [intOf]; omega
    · obtain rfl : j = 6 := by omega
      have hj2 : ¬ (6 : Int) < (6 : Int) := by omega
      have hbw : Below w.heap.size w wr := hbC.out.trans (hbz.out.mono (by omega)) |>.mono (by rw [hg.out]; exact Nat.le_refl _)
      have hrowD := ownBelow hrow.out (drewN_below wr 1)
      rw [show optA.take 6 = optA from rfl] at hrowD 
      have hcv : (convert 130 9 (.slice A2 (optL t o on (optA.take 6)).length c2)).run Tryz.prog wr.drew = .ok (.string ⟨(optL t o on optA).toArray⟩) wr.drew := run_string_own hrowD
      have hS4 := hst.out wr hbw
      have c4 : wr.cell? ⟨sb, 4, none⟩ = some (.pointer (some ⟨a.o, 0, none⟩)) := hS4.blk.cell (i := 4) rfl
      have hlt4 := hS4.blk.lt
      obtain ⟨SV, hSV⟩ : ∃ SV : ByteArray, (⟨(optL t o on optA).toArray⟩ : ByteArray) = SV := ⟨_, rfl⟩
      rw [hSV] at hcv
      have hk0 : wr.drew.cell? ⟨sb, 4, none⟩ = some (.pointer (some ⟨a.o, 0, none⟩)) ∧ (convert 130 9 (.slice A2 (optL t o on (optA.take 6)).length c2)).run Tryz.prog wr.drew = .ok (.string SV) wr.drew := ⟨c4, hcv⟩
      replace hrowD := Lib.hid hrowD
      have hbE := Lib.hid (drewB hbw 1)
      have hs := Lib.hid (hset.out _ hbE.out SV)
      replace hSV := Lib.hid hSV
      have hSE := Lib.hid (hst.out _ hbE.out)
      clear hS4 hrow hbz hc2 hbw
      go_wp2
      go_region_held3 (fun w' => w'.cell? ⟨sb, 4, none⟩ = some (.pointer (some ⟨a.o, 0, none⟩)) ∧ (convert 130 9 (.slice A2 (optL t o on (optA.take 6)).length c2)).run Tryz.prog w' = .ok (.string SV) w')
        (first | go_keep | exact hk0 | exact hk1)
        ((go_at_call 95; refine hs.out.mono ?_; rintro e w5 ⟨rfl, q1, q2⟩; have hS5 := hSE.out.next q1 q2; have hk1 : w5.cell? ⟨sb, 4, none⟩ = some (.pointer (some ⟨a.o, 0, none⟩)) ∧ (convert 130 9 (.slice A2 (optL t o on (optA.take 6)).length c2)).run Tryz.prog w5 = .ok (.string SV) w5 := ⟨hS5.blk.cell (i := 4) rfl, by rw [← hSV.out]; exact run_string_own (ownKeepB hrowD.out (hSE.out.th.keepB q2) (nPk (by decide)))⟩; replace hS5 := Lib.hid hS5; replace q2 := Lib.hid ((FrT.of_below hbE.out).trans q2); clear q1))
      clear hs hk0 hk1 hlt4 c4 hcv
      go_wp2
      go_ret
      rw [hSV.out]
      exact ⟨rfl, hS5.out, q2.out⟩
theorem SetOption_any (h : StAt w B sb a pot t n) (o : UInt8) (on : Bool) :
    Calls Tryz.prog 30 #[ptrV sb, .int .u8 (o.toNat : Int), .bool on] w fun e w' => e = .returned (.int .i64 (t.setO o on).1) ∧ StAt w' B sb a (pot + 2) (t.setO o on).2 n ∧ FrT B a w w' := by
  by_cases hno : Lib.indexByte optA o < 0
  · rw [show t.setO o on = (1, t) from if_pos hno]
    refine (SetOption_no h o on hno).mono ?_
    rintro e w' ⟨rfl, rfl⟩
    exact ⟨rfl, h.mono (Nat.le_add_right pot 2), FrT.of_below (Below.refl _ _)⟩
  · rw [show t.setO o on = t.seto ⟨(optL t o on optA).toArray⟩ from if_neg hno]
    exact SetOption_ok h o on hno
end
end Go.Proofs.YtigmdfdcflkggaaGreat
/-
  New of a state, and begun: a state of a new log. Conditions: none.
-/
namespace Go.Proofs.YtigmdfdcflkggaaGreat
open Go Go.RowKit Go.ChangeMaps

def sta0 : Sta := ⟨fun _ => none, fun _ => none, fun _ => none, fun _ => none, ⟨#[]⟩, ⟨none, 0, 0, 1, 0, []⟩⟩
/-- Nothing yet. -/
def new0 (most nest : Nat) : Tg := ⟨most, nest, sta0, [], []⟩
theorem MapAt.less {T : TypeId} {α : Type} {enc : α → Value} {w : World} {B B' mb ob : Nat} {lo : Option Addr} {es : Es α} (h : MapAt T enc w B mb lo ob es) (hB : B' ≤ B) : MapAt T enc w B' mb lo ob es := ⟨Nat.le_trans hB h.hB, Nat.le_trans hB h.hO, h.blk, h.map⟩
theorem CellAt.less {T : TypeId} {w : World} {B B' cb : Nat} {lo : Option Addr} {cs : List Value} (h : CellAt T w B cb lo cs) (hB : B' ≤ B) : CellAt T w B' cb lo cs := ⟨Nat.le_trans hB h.hB, h.blk⟩
theorem new0_good (most nest : Nat) : (new0 most nest).Good := by
  refine ⟨fun p h => (by cases h), fun p h => (by cases h), List.Pairwise.nil, fun _ => rfl, fun p h => (by cases h), Nat.zero_le _, Nat.zero_le _, ?_, fun n h => (by cases h)⟩
  exact ⟨fun k x h => (by cases h), fun k x h => (by cases h), fun k x h => (by cases h), fun k x h => (by cases h)⟩
section
variable {w w' : World} {B : Nat}
set_option maxRecDepth 100000 in
set_option maxHeartbeats 4000000 in
theorem New_st {l most nest : Nat} (hL : LogAt w B l most nest [] [] 0) (hB : B ≤ w.heap.size) :
    Calls Tryz.prog 29 #[ptrV l] w fun e w' => ∃ a sb, a.l = l ∧ e = .returned (.tuple #[ptrV sb, .int .i64 0]) ∧ StAt w' B sb a 0 (new0 most nest) 0 ∧ Below w.heap.size w w' := by
  obtain ⟨z, hz⟩ : ∃ z, w.heap.size = z := ⟨_, rfl⟩
  obtain ⟨lo, hlo⟩ : ∃ lo : Option Addr, lo = some ⟨l, 0, none⟩ := ⟨_, rfl⟩
  have hne : lo.isNone = false := by rw [hlo]; rfl
  have m1 := MV.NewMap_any lo w
  rw [hz] at m1
  unfold ptrV at m1 ⊢
  rw [← hlo]
  replace hL := Lib.hid hL
  replace hlo := Lib.hid hlo
  rw [hz] at hB ⊢
  replace hz := Lib.hid hz
  go_enter Tryz.func29, Tryz.ntmps29
  go_wp2_with fail
  refine m1.mono ?_
  rintro e w1 ⟨rfl, hM1, hb1, hs1⟩
  have m2 := MN.NewMap_any lo w1
  rw [hs1] at m2
  unfold ptrV at m2
  replace hM1 := Lib.hid hM1
  replace hb1 := Lib.hid hb1
  replace hs1 := Lib.hid hs1
  clear m1
  go_wp2_with fail
  refine m2.mono ?_
  rintro e w2 ⟨rfl, hM2, hb2, hs2⟩
  have m3 := MW.NewMap_any lo w2
  rw [hs2] at m3
  unfold ptrV at m3
  replace hM2 := Lib.hid hM2
  replace hb2 := Lib.hid hb2
  replace hs2 := Lib.hid hs2
  clear m2
  go_wp2_with fail
  refine m3.mono ?_
  rintro e w3 ⟨rfl, hM3, hb3, hs3⟩
  have m4 := MW.NewMap_any lo w3
  rw [hs3] at m4
  unfold ptrV at m4
  replace hM3 := Lib.hid hM3
  replace hb3 := Lib.hid hb3
  replace hs3 := Lib.hid hs3
  clear m3
  go_wp2_with fail
  refine m4.mono ?_
  rintro e w4 ⟨rfl, hM4, hb4, hs4⟩
  have m5 := CS.New_any lo ⟨#[]⟩ w4
  rw [hs4] at m5
  unfold ptrV at m5
  replace hM4 := Lib.hid hM4
  replace hb4 := Lib.hid hb4
  replace hs4 := Lib.hid hs4
  clear m4
  go_wp2_with fail
  refine m5.mono ?_
  rintro e w5 ⟨co, rfl, hC5, hb5, _⟩
  have m6 := CG.New_any lo none 0 0 1 0 w5
  unfold ptrV at m6
  replace hC5 := Lib.hid hC5
  replace hb5 := Lib.hid hb5
  clear m5
  go_wp2_with fail
  refine m6.mono ?_
  rintro e w6 ⟨cg, rfl, hC6, hb6, _⟩
  have k1 : Below w1.heap.size w1 w2 := by rw [hs1.out]; exact hb2.out
  have k2 : Below w2.heap.size w2 w3 := by rw [hs2.out]; exact hb3.out
  have k3 : Below w3.heap.size w3 w4 := by rw [hs3.out]; exact hb4.out
  have k4 : Below w4.heap.size w4 w5 := by rw [hs4.out]; exact hb5.out
  have k0 : Below w.heap.size w w1 := by rw [hz.out]; exact hb1.out
  have j5 := hb6
  have j4 : Below w4.heap.size w4 w6 := k4.trans (j5.mono k4.size)
  have j3 : Below w3.heap.size w3 w6 := k3.trans (j4.mono k3.size)
  have j2 : Below w2.heap.size w2 w6 := k2.trans (j3.mono k2.size)
  have j1 : Below w1.heap.size w1 w6 := k1.trans (j2.mono k1.size)
  have j0 : Below w.heap.size w w6 := k0.trans (j1.mono k0.size)
  have s4 : z + 8 ≤ w5.heap.size := by have := k4.size; rw [hs4.out] at this; omega
  have hO : Objs w6 B ⟨l, z + 1, z + 2 + 1, z + 2 + 2 + 1, z + 2 + 2 + 2 + 1, co, cg, z, z + 2, z + 2 + 2, z + 2 + 2 + 2⟩ sta0 [] [] [] [] := by
    rw [hlo.out] at hM1 hM2 hM3 hM4 hC5 hC6
    exact {
      mv := (hM1.out.less hB).below j1
      mf := (hM2.out.less (by omega)).below j2
      ma := (hM3.out.less (by omega)).below j3
      mt := (hM4.out.less (by omega)).below j4
      co := (hC5.out.less (by omega)).below j5
      cg := hC6.less (by omega)
      lv := fun _ => rfl
      lf := fun _ => rfl
      la := fun _ => rfl
      lt := fun _ => rfl
      ga := ⟨rfl, Nat.le_refl _, Nat.zero_le _, fun h => absurd h (by decide)⟩
      d := by refine ⟨?_, ?_, ?_, ?_, ?_, ?_⟩ <;> (dsimp only; omega) }
  have hT : ThAt w6 B ⟨l, z + 1, z + 2 + 1, z + 2 + 2 + 1, z + 2 + 2 + 2 + 1, co, cg, z, z + 2, z + 2 + 2, z + 2 + 2 + 2⟩ 0 (new0 most nest) :=
    ⟨[], [], [], [], [], [], hL.out.keep (KeepL.of_below j0), hO, rfl, fun i n hi => (by cases hi), rfl, new0_good _ _, Nat.zero_le _⟩
  have hbF : Below z w (w6.alloc (.cells #[.pointer (some ⟨z + 1, 0, none⟩), .pointer (some ⟨z + 2 + 1, 0, none⟩), .pointer (some ⟨z + 2 + 2 + 1, 0, none⟩), .pointer (some ⟨z + 2 + 2 + 2 + 1, 0, none⟩), .pointer (some ⟨co, 0, none⟩), .pointer (some ⟨cg, 0, none⟩), .int .i64 0] 110)) := by
    have := j0.alloc j0.size (.cells #[.pointer (some ⟨z + 1, 0, none⟩), .pointer (some ⟨z + 2 + 1, 0, none⟩), .pointer (some ⟨z + 2 + 2 + 1, 0, none⟩), .pointer (some ⟨z + 2 + 2 + 2 + 1, 0, none⟩), .pointer (some ⟨co, 0, none⟩), .pointer (some ⟨cg, 0, none⟩), .int .i64 0] 110)
    rw [hz.out] at this
    exact this
  have hSt : StAt (w6.alloc (.cells #[.pointer (some ⟨z + 1, 0, none⟩), .pointer (some ⟨z + 2 + 1, 0, none⟩), .pointer (some ⟨z + 2 + 2 + 1, 0, none⟩), .pointer (some ⟨z + 2 + 2 + 2 + 1, 0, none⟩), .pointer (some ⟨co, 0, none⟩), .pointer (some ⟨cg, 0, none⟩), .int .i64 0] 110)) B w6.heap.size ⟨l, z + 1, z + 2 + 1, z + 2 + 2 + 1, z + 2 + 2 + 2 + 1, co, cg, z, z + 2, z + 2 + 2, z + 2 + 2 + 2⟩ 0 (new0 most nest) 0 :=
    ⟨Blk.new w6 _ _, hT.below (Below.of_alloc w6 _), hT.hB⟩
  replace hbF := Lib.hid hbF
  replace hSt := Lib.hid hSt
  clear k0 k1 k2 k3 k4 j0 j1 j2 j3 j4 j5 s4 hO hT hC6 hb6 m6
  go_wp2
  go_ret2
  exact ⟨_, w6.heap.size, rfl, rfl, hSt.out, hbF.out⟩
set_option maxRecDepth 100000 in
theorem begun_any (most : Nat) (w : World) (hm : most ≤ 1048576) :
    Calls Tryz.prog 9 #[.int .i64 (most : Int)] w fun e w' => ∃ a sb, e = .returned (.tuple #[ptrV sb, ptrV a.l, .bool true]) ∧ StAt w' w.heap.size sb a 0 (new0 most 20) 0 ∧ Below w.heap.size w w' := by
  have hn := New_yes most 20 w.heap.size w hm (by decide) (by decide) (Nat.le_refl _)
  unfold ptrV at hn ⊢
  go_enter Tryz.func9, Tryz.ntmps9
  go_wp2_with fail
  refine hn.mono ?_
  rintro e w1 ⟨rfl, hL, hb1, hs1⟩
  have hst := New_st hL (by omega)
  unfold ptrV at hst
  replace hb1 := Lib.hid hb1
  clear hn hL hs1
  go_wp2_with fail
  refine hst.mono ?_
  rintro e w2 ⟨a, sb, hal, rfl, hS, hb2⟩
  have hfin := Lib.hid (And.intro hS (hb1.out.trans (hb2.mono hb1.out.size)))
  replace hal := Lib.hid hal
  clear hst hS hb2
  go_wp2
  go_ret3
  exact ⟨a, sb, by rw [hal.out]; rfl, hfin.out⟩
end
end Go.Proofs.YtigmdfdcflkggaaGreat
/-
  Enter of a state. Conditions: what is told stands; fewer than a hundred thousand names.
-/
namespace Go.Proofs.YtigmdfdcflkggaaGreat
open Go Go.RowKit Go.ChangeMaps

section
variable {w w' : World} {B sb : Nat} {a : Ad} {pot : Nat} {t : Tg} {n : Int}
/-- Traps whose action has bytes go, one by one. -/
def enterL : List ByteArray → Tg → Int × Tg
  | [], t => (0, t)
  | k :: ks, t => if 0 < ((t.cur.t k).getD noW).size then (if (t.delt k).1 = 0 then enterL ks (t.delt k).2 else t.delt k) else enterL ks t
set_option maxRecDepth 100000 in
set_option maxHeartbeats 4000000 in
theorem Enter_any (h : StAt w B sb a pot t n) (hp : pot ≤ 100000) : ∃ ns, KeysOf t.cur.t ns ∧
    Calls Tryz.prog 36 #[ptrV sb] w fun e w' => e = .returned (.int .i64 (enterL ns t).1) ∧ StAt w' B sb a (pot + 2 * ns.length) (enterL ns t).2 n ∧ FrT B a w w' := by
  have hi := sisNil_no h.blk
  have c3 := h.blk.cell (i := 3) rfl
  have hlt := h.blk.lt
  have hgood := h.th.good
  have hst := fun (W : World) (hb : Below w.heap.size w W) => h.below hb
  obtain ⟨ms, fs, ev, ef, ea, et, h1, h2, h5, h6, h7, h8, h9⟩ := h.th
  have hap := enc_apart h2.mt.map.apart
  have hkb : ∀ p ∈ et, p.1.size ≤ 200 := fun p hp => (hgood.kb.t p.1 p.2 (by rw [← h2.lt]; exact look_of_mem hap (show (p.1, p.2) ∈ et from hp))).1
  have hks := Keys_W h2.mt hkb (by omega)
  rw [names_enc, ← names_len et] at hks
  refine ⟨names et, ⟨et, hap, h2.lt, rfl⟩, ?_⟩
  have hnl : (names et).length ≤ 100000 := by rw [names_len]; omega
  generalize names et = ns at hks hnl ⊢
  unfold ptrV at hi c3 hks ⊢
  replace hst := Lib.hid hst
  clear h h1 h2 h5 h6 h7 h8 h9 hap hkb hgood
  obtain ⟨RE, hRE⟩ : ∃ r, enterL ns t = r := ⟨_, rfl⟩
  rw [hRE]
  replace hRE := Lib.hid hRE
  go_enter Tryz.func36, Tryz.ntmps36
  go_wp2_with fail
  refine hi.mono ?_
  rintro e w' ⟨rfl, hw⟩
  obtain rfl := hw.symm
  clear hi hw
  go_wp2_with fail
  refine hks.mono ?_
  rintro e w2 ⟨v, rfl, hr, hb2⟩
  obtain ⟨A, c, rfl, hc, hcm⟩ := own_form hr
  have hS2 := Lib.hid ((hst.out w2 hb2).mono (Nat.le_add_right pot (2 * 0)))
  have hF2 : Hid (FrT B a w w2) := Lib.hid (FrT.of_below hb2)
  have hrow : Hid (∀ j (hj : j < ns.length), ∃ g cur, A = some ⟨g, 0, none⟩ ∧ Blk w2 g cur 9 ∧ cur[j]? = some (.string ns[j])) := Lib.hid (fun j hj => by
    rcases hr.2 with ⟨_, h0⟩ | ⟨g, cap, cur, e, hb, hg, _, _, _, h4⟩
    · omega
    · cases e
      refine ⟨g, cur.toList, rfl, by unfold Blk; simpa using hg, ?_⟩
      have e : (cur.toList.take (ns.length * 1))[j]? = some (.string ns[j]) := by rw [h4, List.getElem?_map, List.getElem?_eq_getElem hj]; rfl
      rw [List.getElem?_take] at e
      split at e
      · exact e
      · cases e)
  obtain ⟨KN, hKN⟩ : ∃ K, ns.length = K := ⟨_, rfl⟩
  rw [hKN] at hc hnl ⊢
  unfold maxLen at hcm
  replace hKN := Lib.hid hKN
  have hK2 : Hid (KeepB w2 w2) := Lib.hid (fun _ _ _ hb _ => hb)
  have hE0 : Hid (enterL (ns.drop 0) t = RE) := Lib.hid (by rw [List.drop_zero]; exact hRE.out)
  clear hks hr c3 hlt hb2
  go_wp2
  go_loopw [16] (fun iv wr => ∃ (j : Nat) (t' : Tg), j ≤ KN ∧ iv = .int .i64 (j : Int) ∧ Hid (StAt wr B sb a (pot + 2 * j) t' n) ∧ Hid (FrT B a w wr) ∧ Hid (KeepB w2 wr) ∧ Hid (enterL (ns.drop j) t' = RE)) (fun iv _ => KN - (intOf iv).toNat)
  case atStart => exact ⟨0, t, Nat.zero_le _, rfl, hS2, hF2, hK2, hE0⟩
  case round =>
    clear hS2 hF2 hK2 hE0
    obtain ⟨j, t', hj, rfl, hS, hF, hK, hE⟩ := hrel
    by_cases hlt : j < KN
    · have hjn : j < ns.length := by rw [hKN.out]; exact hlt
      obtain ⟨g, cur, rfl, hbk, hcj⟩ := hrow.out j hjn
      have hbr : Blk wr g cur 9 := hK.out _ _ _ hbk (nPk (by decide))
      have ck := hbr.cell hcj
      have hgl := hbr.lt
      have hdr : ns.drop j = ns[j] :: ns.drop (j + 1) := List.drop_eq_getElem_cons hjn
      rw [hdr] at hE
      have htr := Trap_any hS.out ns[j]
      have hj1 : (0 : Int) ≤ (j : Int) := by omega
      have hj2 : (j : Int) < (KN : Int) := by omega
      have hbelow := fun (W : World) (hb : Below wr.heap.size wr W) => (And.intro (hS.out.below hb) (And.intro (hF.out.trans (FrT.of_below hb)) (hK.out.trans (KeepB.of_below hb))))
      have hdel := fun (W : World) (hb : Below wr.heap.size wr W) => th_delt (hS.out.below hb).th ns[j]
      generalize ns[j] = k at ck htr hE hdel
      unfold ptrV at htr hdel
      unfold enterL at hE
      replace hbelow := Lib.hid hbelow
      replace hdel := Lib.hid hdel
      generalize hV : (t'.cur.t k).getD noW = V at htr hE
      replace hV := Lib.hid hV
      generalize (t'.cur.t k).isSome = E at htr
      clear hbr hbk hcj hdr hS hF hK
      by_cases h0 : 0 < V.size
      · have hie := bytesIs h0
        rw [if_pos h0] at hE
        go_wp2_with fail
        refine htr.mono ?_
        rintro e w3 ⟨rfl, hb3⟩
        obtain ⟨hS3, hF3, hK3⟩ := hbelow.out w3 hb3
        have hd := hdel.out w3 hb3
        have c3 := hS3.blk.cell (i := 3) rfl
        have cl := hS3.blk.lt
        unfold ptrV at c3
        replace hS3 := Lib.hid hS3
        replace hF3 := Lib.hid hF3
        replace hK3 := Lib.hid hK3
        clear htr hb3 ck hgl
        generalize t'.delt k = R at hd hE
        obtain ⟨de, t2⟩ : Int × Tg := R
        go_wp2_with fail
        refine hd.mono ?_
        rintro e w4 ⟨rfl, q1, q2⟩
        have hS4 := Lib.hid ((hS3.out.next q1 q2).mono (show pot + 2 * j + 2 ≤ pot + 2 * (j + 1) by omega))
        have hF4 := Lib.hid (hF3.out.trans q2)
        have hK4 := Lib.hid (hK3.out.trans (hS3.out.th.keepB q2))
        clear hd q1 q2 c3 cl hS3 hF3 hK3
        by_cases hz : de = 0
        · subst hz
          rw [if_pos rfl] at hE
          go_wp2
          go_roundw
          case rel => exact ⟨j + 1, t2, by omega, by go_num, hS4, hF4, hK4, hE⟩
          case measure => simp [intOf]; omega
        · rw [if_neg hz] at hE
          have hz1 : (de == 0) = false := by rw [beq_eq_false_iff_ne]; exact hz
          have hz2 : (de != 0) = true := by rw [bne_iff_ne]; exact hz
          have hS5 := Lib.hid (hS4.out.mono (show pot + 2 * (j + 1) ≤ pot + 2 * ns.length by have := hKN.out; omega))
          have hE' := Lib.hid hE
          clear hE hS4
          go_wp2
          go_ret
          exact ⟨by rw [← hE'.out]; rfl, by rw [← hE'.out]; exact hS5.out, hF4.out⟩
      · obtain rfl := noBytes h0
        rw [if_neg h0] at hE
        clear hdel h0
        go_wp2_with fail
        refine htr.mono ?_
        rintro e w3 ⟨rfl, hb3⟩
        obtain ⟨hS3, hF3, hK3⟩ := hbelow.out w3 hb3
        have hS4 := Lib.hid (hS3.mono (show pot + 2 * j ≤ pot + 2 * (j + 1) by omega))
        replace hF3 := Lib.hid hF3
        replace hK3 := Lib.hid hK3
        clear htr hb3 hS3 ck hgl
        go_wp2
        go_roundw
        case rel => exact ⟨j + 1, t', by omega, by go_num, hS4, hF3, hK3, hE⟩
        case measure => simp [intOf]; omega
    · obtain rfl : j = KN := by omega
      have hj2 : ¬ (j : Int) < (j : Int) := by omega
      have hfin : Hid (RE = (0, t')) := Lib.hid (by
        rw [← hE.out, ← hKN.out, List.drop_length]; rfl)
      clear hK hrow
      go_wp2
      go_ret
      exact ⟨by rw [hfin.out]; rfl, by rw [hfin.out, hKN.out]; exact hS.out, hF.out⟩
end
end Go.Proofs.YtigmdfdcflkggaaGreat
/-
  The chapter's example, told of what a state knows. Conditions: none.
-/
namespace Go.Proofs.YtigmdfdcflkggaaGreat
open Go Go.RowKit Go.ChangeMaps

def xN : ByteArray := ⟨#[120]⟩
def intN : ByteArray := ⟨#[73, 78, 84]⟩
def exitN : ByteArray := ⟨#[69, 88, 73, 84]⟩
def aS1 : Tg := ⟨10, 20, { sta0 with o := ⟨#[97]⟩ }, [], []⟩
def aS2 : Tg := ⟨10, 20, { aS1.cur with v := updF (fun _ => none) xN (some ⟨⟨#[49]⟩, true, true, false⟩) }, [], []⟩
def aS3 : Tg := ⟨10, 20, { aS1.cur with v := updF aS2.cur.v xN (some ⟨⟨#[49]⟩, true, true, true⟩) }, [], []⟩
def aS4 (g : Gv) : Tg := ⟨10, 20, { aS3.cur with g := g }, [], []⟩
def aS6 (g : Gv) : Tg := ⟨10, 20, { (aS4 g).cur with t := updF (fun _ => none) intN (some ⟨#[]⟩) }, [], []⟩
def aS7 (g : Gv) : Tg := ⟨10, 20, { (aS4 g).cur with t := updF (aS6 g).cur.t exitN (some ⟨#[121]⟩) }, [], []⟩
theorem noted_no {t : Tg} (h : t.was = []) (n : Nt) (st : Sta) : t.noted n st = { t with cur := st } := by
  unfold Tg.noted
  rw [if_pos h]
theorem full_no {t : Tg} (h : t.was = []) : ¬ t.full := fun f => f.1 h
theorem a1 : (new0 10 20).setO 97 true = (0, aS1) := by
  have h1 : ¬ Lib.indexByte optA 97 < 0 := by decide
  have h2 : optL (new0 10 20) 97 true optA = [97] := by decide
  unfold Tg.setO
  rw [if_neg h1, h2]
  unfold Tg.seto
  rw [if_neg (full_no rfl), noted_no rfl]
  rfl
theorem a2 : aS1.setV xN ⟨#[49]⟩ = (0, aS2) := by
  have h1 : nameB xN = true := by decide
  have h2 : valV aS1 xN = noV := rfl
  have h3 : optB aS1 97 = true := by decide
  unfold Tg.setV
  rw [if_pos h1, if_neg (by decide), h2, if_neg (by decide), h3]
  unfold Tg.putv
  rw [if_neg (full_no rfl), noted_no rfl]
  rfl
theorem vS2 : valV aS2 xN = ⟨⟨#[49]⟩, true, true, false⟩ := by
  unfold valV aS2 updF
  simp
theorem a3 : aS2.markV xN false true = (0, aS3) := by
  unfold Tg.markV
  rw [vS2]
  unfold Tg.put
  rw [if_pos (by decide), if_neg (by decide)]
  unfold Tg.putv
  rw [if_neg (full_no rfl), noted_no rfl]
  rfl
theorem vS3 : valV aS3 xN = ⟨⟨#[49]⟩, true, true, true⟩ := by
  unfold valV aS3 updF
  simp
theorem a3b : aS3.setV xN ⟨#[50]⟩ = (26, aS3) := by
  unfold Tg.setV
  rw [if_pos (by decide), if_neg (by decide), vS3, if_pos (by decide)]
theorem a4 (g : Gv) : aS3.setg g = (0, aS4 g) := by
  unfold Tg.setg
  rw [if_neg (full_no rfl), noted_no rfl]
  rfl
theorem a5 (g g' : Gv) : (aS4 g).setg g' = (0, aS4 g') := by
  unfold Tg.setg
  rw [if_neg (full_no rfl), noted_no rfl]
  rfl
theorem a6 (g : Gv) : (aS4 g).setT intN ⟨#[]⟩ = (0, aS6 g) := by
  unfold Tg.setT
  rw [if_pos (by decide), if_neg (by decide)]
  unfold Tg.putt
  rw [if_neg (full_no rfl), noted_no rfl]
  rfl
theorem a7 (g : Gv) : (aS6 g).setT exitN ⟨#[121]⟩ = (0, aS7 g) := by
  unfold Tg.setT
  rw [if_pos (by decide), if_neg (by decide)]
  unfold Tg.putt
  rw [if_neg (full_no rfl), noted_no rfl]
  rfl
theorem tS7 (g : Gv) : (aS7 g).cur.t exitN = some ⟨#[121]⟩ ∧ (aS7 g).cur.t intN = some ⟨#[]⟩ := by
  have h1 : ¬ intN = exitN := by decide
  unfold aS7 aS6 updF
  refine ⟨by dsimp only; rw [if_pos rfl], ?_⟩
  dsimp only
  rw [if_neg h1, if_pos rfl]
/-- Enter with no mark. -/
theorem enterL_t (ns : List ByteArray) : ∀ (t : Tg), t.was = [] → (enterL ns t).2.was = [] ∧ ∀ k, (k ∈ ns → 0 < ((t.cur.t k).getD noW).size → (enterL ns t).2.cur.t k = none) ∧ (¬ 0 < ((t.cur.t k).getD noW).size → (enterL ns t).2.cur.t k = t.cur.t k) := by
  induction ns with
  | nil => intro t hw; exact ⟨hw, fun k => ⟨fun h => (by cases h), fun _ => rfl⟩⟩
  | cons j js ih =>
    intro t hw
    unfold enterL
    by_cases hj : 0 < ((t.cur.t j).getD noW).size
    · obtain ⟨x, hx⟩ : ∃ x, t.cur.t j = some x := by
        cases hc : t.cur.t j with
        | none => rw [hc] at hj; exact absurd hj (by decide)
        | some x => exact ⟨x, rfl⟩
      obtain ⟨t1, ht1⟩ : ∃ t1 : Tg, t1 = { t with cur := { t.cur with t := updF t.cur.t j none } } := ⟨_, rfl⟩
      have hw1 : t1.was = [] := by rw [ht1]; exact hw
      have hc1 : t1.cur.t = updF t.cur.t j none := by rw [ht1]
      have hd : t.delt j = (0, t1) := by
        unfold Tg.delt
        rw [hx]
        dsimp only
        rw [if_neg (full_no hw), noted_no hw, ht1]
      rw [if_pos hj, hd, if_pos rfl]
      obtain ⟨h1, h2⟩ := ih t1 hw1
      refine ⟨h1, fun k => ?_⟩
      have h3 := h2 k
      by_cases hk : k = j
      · subst hk
        have e : t1.cur.t k = none := by rw [hc1]; unfold updF; simp
        rw [e] at h3
        exact ⟨fun _ _ => h3.2 (by decide), fun h => absurd hj h⟩
      · have e : t1.cur.t k = t.cur.t k := by rw [hc1]; unfold updF; simp [hk]
        rw [e] at h3
        exact ⟨fun h => h3.1 ((List.mem_cons.1 h).resolve_left hk), h3.2⟩
    · rw [if_neg hj]
      obtain ⟨h1, h2⟩ := ih t hw
      refine ⟨h1, fun k => ⟨fun h h0 => ?_, (h2 k).2⟩⟩
      rcases List.mem_cons.1 h with e | e
      · subst e; exact absurd h0 hj
      · exact (h2 k).1 e h0
theorem KeysOf.iff {α : Type} {f : ByteArray → Option α} {ns : List ByteArray} (h : KeysOf f ns) {k : ByteArray} {x : α} (hk : f k = some x) : k ∈ ns := by
  obtain ⟨es, h1, h2, rfl⟩ := h
  rw [← h2 k] at hk
  exact (names_mem es k).2 ⟨(k, x), look_mem hk, rfl⟩
end Go.Proofs.YtigmdfdcflkggaaGreat
