/-
  slices.Sorted of maps.Keys of a table's handles, met by the shelf's contracts at this translation: the numbers, rising. Conditions: each theorem's own.
  All of a table: the numbers, rising. Conditions: fewer than a hundred thousand handles.
-/
import Derived.Shelf.SlIterI.Nil
import Derived.Shelf.SortM.Plain
import Derived.Shelf.SortM.SortNone
import Derived.Ground.GgzProg
import Derived.Ground.SlgmProg
import Derived.Test.YtbjakhiflgjflaaGreatDoorProg
import Derived.Shelf.AbstractIn
import Derived.Test.YtbjakhiflgjflaaGreatDoorHnSys
namespace Go.Proofs.YtbjakhiflgjflaaGreatDoor
open Go Go.Proofs Go.RowKit Go.Maps Go.Sort Go.Shelf
def Tryz.keysI_ren : Go.Shelf.Ren := ⟨fun | 7 => 70 | 10 => 120 | n => n, fun | 23 => 115 | 26 => 3 | 3 => 116 | 28 => 113 | 0 => 0 | 27 => 112 | 33 => 219 | 4 => 4 | n => n, fun | n => n⟩
theorem Tryz.keysI : Go.Proofs.SlLaysZI.n7 Tryz.prog Tryz.keysI_ren := {
  mixed := by kernel_rfl
  f7 := ⟨Tryz.f70.name, by decide, Tryz.func70.trans (congrArg some (by kernel_rfl))⟩
  f10 := ⟨Tryz.f120.name, by decide, Tryz.func120.trans (congrArg some (by kernel_rfl))⟩
  t0 := Tryz.underlying0
  a0 := Tryz.isAgg0
  z0 := Tryz.sizeOf0
  v0 := Tryz.zeroValue0
  t4 := Tryz.underlying4
  a4 := Tryz.isAgg4
  z4 := Tryz.sizeOf4
  v4 := Tryz.zeroValue4
  t23 := Tryz.underlying115
  a23 := Tryz.isAgg115
  z23 := Tryz.sizeOf115
  v23 := Tryz.zeroValue115
  t26 := Tryz.underlying3
  a26 := Tryz.isAgg3
  z26 := Tryz.sizeOf3
  v26 := Tryz.zeroValue3
  t27 := Tryz.underlying112
  a27 := Tryz.isAgg112
  z27 := Tryz.sizeOf112
  v27 := Tryz.zeroValue112
  t28 := Tryz.underlying113
  a28 := Tryz.isAgg113
  z28 := Tryz.sizeOf113
  v28 := Tryz.zeroValue113
  t33 := Tryz.underlying219
  a33 := Tryz.isAgg219
  z33 := Tryz.sizeOf219
  v33 := Tryz.zeroValue219 }
def Tryz.sortedI_ren : Go.Shelf.Ren := ⟨fun | 6 => 69 | 8 => 118 | 9 => 119 | 11 => 148 | 13 => 150 | 12 => 149 | 23 => 185 | 24 => 186 | 14 => 176 | 15 => 177 | 16 => 178 | 17 => 179 | 18 => 180 | 19 => 181 | 20 => 182 | 21 => 183 | 22 => 184 | 25 => 199 | 26 => 200 | 27 => 201 | 28 => 202 | 29 => 203 | 30 => 204 | 31 => 217 | n => n, fun | 26 => 3 | 28 => 113 | 24 => 43 | 0 => 0 | 3 => 3 | 37 => 249 | 48 => 283 | 50 => 285 | 4 => 4 | 40 => 276 | 39 => 275 | 45 => 74 | 5 => 5 | 9 => 9 | 51 => 298 | 55 => 302 | 57 => 308 | 58 => 99 | 33 => 219 | n => n, fun | n => n⟩
theorem Tryz.sortedI : Go.Proofs.SlLaysZI.n6 Tryz.prog Tryz.sortedI_ren := {
  mixed := by kernel_rfl
  f6 := ⟨Tryz.f69.name, by decide, Tryz.func69.trans (congrArg some (by kernel_rfl))⟩
  f8 := ⟨Tryz.f118.name, by decide, Tryz.func118.trans (congrArg some (by kernel_rfl))⟩
  f11 := ⟨Tryz.f148.name, by decide, Tryz.func148.trans (congrArg some (by kernel_rfl))⟩
  t0 := Tryz.underlying0
  a0 := Tryz.isAgg0
  z0 := Tryz.sizeOf0
  v0 := Tryz.zeroValue0
  t24 := Tryz.underlying43
  a24 := Tryz.isAgg43
  z24 := Tryz.sizeOf43
  v24 := Tryz.zeroValue43
  t26 := Tryz.underlying3
  a26 := Tryz.isAgg3
  z26 := Tryz.sizeOf3
  v26 := Tryz.zeroValue3
  t28 := Tryz.underlying113
  a28 := Tryz.isAgg113
  z28 := Tryz.sizeOf113
  v28 := Tryz.zeroValue113
  i26 := by kernel_rfl }
def Tryz.sortI_ren : Go.Shelf.Ren := ⟨fun | 5 => 119 | 8 => 150 | 7 => 149 | 19 => 185 | 20 => 186 | 10 => 176 | 11 => 177 | 12 => 178 | 13 => 179 | 14 => 180 | 15 => 181 | 16 => 182 | 17 => 183 | 18 => 184 | 30 => 199 | 31 => 200 | 32 => 201 | 33 => 202 | 34 => 203 | 35 => 204 | 40 => 217 | n => n, fun | 23 => 43 | 25 => 3 | 3 => 3 | 32 => 249 | 22 => 43 | 0 => 0 | 44 => 283 | 46 => 285 | 4 => 4 | 36 => 276 | 35 => 275 | 41 => 74 | 5 => 5 | 9 => 9 | 53 => 298 | 57 => 302 | 63 => 308 | 64 => 99 | n => n, fun | n => n⟩
theorem Tryz.sortI : Go.Proofs.SlLaysM.n5 Tryz.prog Tryz.sortI_ren := {
  mixed := by kernel_rfl
  f5 := ⟨Tryz.f119.name, by decide, Tryz.func119.trans (congrArg some (by kernel_rfl))⟩
  f7 := ⟨Tryz.f149.name, by decide, Tryz.func149.trans (congrArg some (by kernel_rfl))⟩
  f8 := Tryz.func150.trans (congrArg some (by kernel_rfl))
  f10 := ⟨Tryz.f176.name, by decide, Tryz.func176.trans (congrArg some (by kernel_rfl))⟩
  f11 := ⟨Tryz.f177.name, by decide, Tryz.func177.trans (congrArg some (by kernel_rfl))⟩
  f12 := ⟨Tryz.f178.name, by decide, Tryz.func178.trans (congrArg some (by kernel_rfl))⟩
  f13 := ⟨Tryz.f179.name, by decide, Tryz.func179.trans (congrArg some (by kernel_rfl))⟩
  f14 := ⟨Tryz.f180.name, by decide, Tryz.func180.trans (congrArg some (by kernel_rfl))⟩
  f15 := ⟨Tryz.f181.name, by decide, Tryz.func181.trans (congrArg some (by kernel_rfl))⟩
  f16 := ⟨Tryz.f182.name, by decide, Tryz.func182.trans (congrArg some (by kernel_rfl))⟩
  f17 := ⟨Tryz.f183.name, by decide, Tryz.func183.trans (congrArg some (by kernel_rfl))⟩
  f18 := ⟨Tryz.f184.name, by decide, Tryz.func184.trans (congrArg some (by kernel_rfl))⟩
  f19 := Tryz.func185.trans (congrArg some (by kernel_rfl))
  f20 := Tryz.func186.trans (congrArg some (by kernel_rfl))
  f30 := ⟨Tryz.f199.name, by decide, Tryz.func199.trans (congrArg some (by kernel_rfl))⟩
  f31 := Tryz.func200.trans (congrArg some (by kernel_rfl))
  f32 := Tryz.func201.trans (congrArg some (by kernel_rfl))
  f33 := ⟨Tryz.f202.name, by decide, Tryz.func202.trans (congrArg some (by kernel_rfl))⟩
  f34 := ⟨Tryz.f203.name, by decide, Tryz.func203.trans (congrArg some (by kernel_rfl))⟩
  f35 := ⟨Tryz.f204.name, by decide, Tryz.func204.trans (congrArg some (by kernel_rfl))⟩
  f40 := ⟨Tryz.f217.name, by decide, Tryz.func217.trans (congrArg some (by kernel_rfl))⟩
  t0 := Tryz.underlying0
  a0 := Tryz.isAgg0
  z0 := Tryz.sizeOf0
  v0 := Tryz.zeroValue0
  t3 := Tryz.underlying3
  a3 := Tryz.isAgg3
  z3 := Tryz.sizeOf3
  v3 := Tryz.zeroValue3
  t4 := Tryz.underlying4
  a4 := Tryz.isAgg4
  z4 := Tryz.sizeOf4
  v4 := Tryz.zeroValue4
  t5 := Tryz.underlying5
  a5 := Tryz.isAgg5
  z5 := Tryz.sizeOf5
  v5 := Tryz.zeroValue5
  t9 := Tryz.underlying9
  a9 := Tryz.isAgg9
  z9 := Tryz.sizeOf9
  v9 := Tryz.zeroValue9
  t22 := Tryz.underlying43
  a22 := Tryz.isAgg43
  z22 := Tryz.sizeOf43
  v22 := Tryz.zeroValue43
  t23 := Tryz.underlying43
  a23 := Tryz.isAgg43
  z23 := Tryz.sizeOf43
  v23 := Tryz.zeroValue43
  t25 := Tryz.underlying3
  a25 := Tryz.isAgg3
  z25 := Tryz.sizeOf3
  v25 := Tryz.zeroValue3
  t32 := Tryz.underlying249
  a32 := Tryz.isAgg249
  z32 := Tryz.sizeOf249
  v32 := Tryz.zeroValue249
  t35 := Tryz.underlying275
  a35 := Tryz.isAgg275
  z35 := Tryz.sizeOf275
  v35 := Tryz.zeroValue275
  t36 := Tryz.underlying276
  a36 := Tryz.isAgg276
  z36 := Tryz.sizeOf276
  v36 := Tryz.zeroValue276
  t41 := Tryz.underlying74
  a41 := Tryz.isAgg74
  z41 := Tryz.sizeOf74
  v41 := Tryz.zeroValue74
  t44 := Tryz.underlying283
  a44 := Tryz.isAgg283
  z44 := Tryz.sizeOf283
  v44 := Tryz.zeroValue283
  t46 := Tryz.underlying285
  a46 := Tryz.isAgg285
  z46 := Tryz.sizeOf285
  v46 := Tryz.zeroValue285
  t53 := Tryz.underlying298
  a53 := Tryz.isAgg298
  z53 := Tryz.sizeOf298
  v53 := Tryz.zeroValue298
  t57 := Tryz.underlying302
  a57 := Tryz.isAgg302
  z57 := Tryz.sizeOf302
  v57 := Tryz.zeroValue302
  t63 := Tryz.underlying308
  a63 := Tryz.isAgg308
  z63 := Tryz.sizeOf308
  v63 := Tryz.zeroValue308
  t64 := Tryz.underlying99
  a64 := Tryz.isAgg99
  z64 := Tryz.sizeOf99
  v64 := Tryz.zeroValue99 }

/-- slices.Sort's two contracts at this dump, at the fence that asks nothing. -/
theorem Tryz.sortsI (m : Nat) : AnyZI.SortsIn Tryz.prog Tryz.sortedI_ren Fence.wide m :=
  ⟨fun blk off cap ss W hH hblk hsz => callsIn_wide.2 (AnyM.slices_Sort_int Tryz.sortI blk off cap ss W hH hblk hsz),
   fun p cap W => callsIn_wide.2 (AnyM.slices_Sort_int_none Tryz.sortI p cap W)⟩
end Go.Proofs.YtbjakhiflgjflaaGreatDoor

namespace Go.Proofs.YtbjakhiflgjflaaGreatDoor
open Go Go.Proofs Go.RowKit Go.ChangeMaps Go.MapKept Go.WideElems Go.Maps Go.Sort Go.Shelf
open Go.WideShapes (sorted_perm)

def sortI (l : List Int) : List Int := l.mergeSort fun x y => decide (x ≤ y)
def readH : Value → Option (DataW Unit × List MemPlace) := fun _ => some (.nil, [])
def litI : Lit → Int | .int _ n => n | _ => 0
set_option maxRecDepth 100000 in
theorem entH_owns {w : World} {mb : Nat} {mem : Int → HM} {hs : Hs} (h : KMap w mb (.int .i64) encI (entH mem hs)) (hk : ∀ p ∈ hs, 1 ≤ p.1 ∧ p.1 ≤ 100000) (hl : hs.length ≤ 100000) :
    ∃ nn D0, w.ownsMap (H := Unit) Tryz.prog 3 readH mb nn D0 ∧ (intKeys D0).Perm (ids hs) ∧ Maps.size D0 = hs.length := by
  obtain ⟨es', clock, hb, hss, he⟩ := h
  have hlen : es'.size = hs.length := by
    have := congrArg List.length he
    simpa [entH] using this
  have hkey : ∀ x ∈ es'.toList, ∃ k : Int, x.key = .int .i64 k ∧ 1 ≤ k ∧ k ≤ 100000 := fun x hx => by
    have : (x.key, x.val) ∈ (entH mem hs).map fun p => (encI p.1, p.2) := by rw [← he]; exact List.mem_map_of_mem (f := fun x : MapEntry => (x.key, x.val)) hx
    obtain ⟨p, hp, e⟩ := List.mem_map.1 this
    obtain ⟨q, hq, rfl⟩ := List.mem_map.1 hp
    exact ⟨q.1, (congrArg Prod.fst e).symm, hk q hq⟩
  have hko : ∀ x ∈ es'.toList, ∀ k : Int, x.key = .int .i64 k → keyOf Tryz.prog 3 x.key = some (.int .i64 k) := fun x hx k hxk => by
    obtain ⟨k', h1, h2, h3⟩ := hkey x hx
    rw [hxk] at h1
    cases h1
    rw [hxk]
    have hwf : (Lit.int .i64 k).wf = true := by
      have h4 : IntKind.i64.min = -9223372036854775808 := rfl
      have h5 : IntKind.i64.max = 9223372036854775807 := rfl
      show (decide (IntKind.i64.min ≤ k) && decide (k ≤ IntKind.i64.max)) = true
      rw [h4, h5, Bool.and_eq_true, decide_eq_true_eq, decide_eq_true_eq]
      omega
    simp [keyOf, mapKey, Tryz.underlying3, hwf]
  have F : Fit Tryz.prog 3 readH es' clock := ⟨by rw [hlen]; exact Nat.le_trans hl (by decide), hss, fun x hx => by
    obtain ⟨s, h1, h2⟩ := hkey x hx
    exact ⟨_, by unfold WideElems.rd; rw [hko x hx s h1]; rfl⟩⟩
  refine ⟨es'.size, _, ⟨es', clock, hb, F, Nat.le_refl _, rfl⟩, ?_, ?_⟩
  · refine ((sorted_perm _).map _).trans ?_
    have e2 : es'.toList.map (fun x => match x.key with | .int _ k => k | _ => 0) = ids hs := by
      have := congrArg (List.map fun q : Value × Value => match q.1 with | .int _ k => k | _ => 0) he
      rw [List.map_map, List.map_map] at this
      simp only [entH, List.map_map] at this
      exact this
    rw [← e2, List.map_map]
    refine List.Perm.of_eq (List.map_congr_left fun x hx => ?_)
    obtain ⟨s, h1, h2⟩ := hkey x hx
    simp only [Function.comp]
    unfold WideElems.rg WideElems.rd
    rw [hko x hx s h1, h1]
    rfl
  · show ((es'.toList.map (WideElems.rg Tryz.prog 3 readH)).foldr DataW.insert []).length = _
    rw [(sorted_perm _).length_eq, List.length_map, Array.length_toList, hlen]

section
variable {w : World} {F : Nat → Prop} {c : Sy} {s : St}
set_option maxRecDepth 1000000 in
set_option maxHeartbeats 1000000 in
theorem sys_All (h : Sys w F c s) :
    Calls Tryz.prog 16 #[ptrV c.tb] w fun e w' => ∃ v, e = .returned v ∧ w'.ownsRow w.heap.size 3 1 v s.hs.length ((sortI (ids s.hs)).map encZ) ∧ Below w.heap.size w w' := by
  obtain ⟨Ft, Fp, Fh, h, hF⟩ := h
  obtain ⟨lab, mb, mem, v, ht, hFh⟩ := h.tab
  have hi := isNil_no ht
  have hfew : s.hs.length ≤ 100000 := by have := ht.num.cnt; have := ht.num.few; unfold ids at *; rw [List.length_map] at *; omega
  have hk : ∀ p ∈ s.hs, 1 ≤ p.1 ∧ p.1 ≤ 100000 := fun p hp => by
    have := (ht.num.all p.1).2 (.inl (List.mem_map.2 ⟨p, hp, rfl⟩))
    have := ht.num.few
    omega
  obtain ⟨nn, D0, hown, hperm, hsz⟩ := entH_owns ht.map hk hfew
  have t2 := ht.num.at_.blk.cell (i := 2) rfl
  have hlt := ht.num.at_.blk.lt
  have hbl := hown.lt
  have hseq : SeqGives Fence.wide 2 Tryz.prog 120 #[.pointer (some ⟨w.heap.size, 0, none⟩)] encZ (fun ss => ss.Perm (intKeys D0)) (Maps.size D0) (w.alloc (.cells #[.map (some mb)] 115)) :=
    AnyZI.keys_gives (ρ := Tryz.keysI_ren) { Tryz.keysI with } Fence.wide _ trivial rfl (by omega) w.heap.size mb nn D0 _ (by simp) (by simp) (by
      obtain ⟨es, clock, hb, Ft, hs, hD⟩ := hown
      exact ⟨es, clock, (Below.heap_alloc _ _ mb hbl).trans hb, Ft, hs, hD⟩)
  have cK : ∀ mb W, CallsIn Fence.wide 5 Tryz.prog 70 #[.map mb] W fun e w' => e = .returned (.func (.func 120) #[] #[.pointer (some ⟨W.heap.size, 0, none⟩)]) ∧ w' = W.alloc (.cells #[.map mb] 115) := fun mb W => AnyZI.keys_in Tryz.keysI Fence.wide 5 trivial rfl mb W
  have cS := AnyZI.sorted_in Tryz.sortedI Fence.wide 5 trivial trivial trivial trivial rfl (by omega) (Tryz.sortsI _) (enters_of Tryz.func119 (by kernel_rfl) rfl) 120 #[.pointer (some ⟨w.heap.size, 0, none⟩)] trivial (enters_of Tryz.func120 (by kernel_rfl) rfl) _ _ (by rw [hsz]; exact Nat.le_trans hfew (by decide)) (by rw [hsz]; omega) _ hseq
  change CallsIn _ _ Tryz.prog 69 _ _ _ at cS
  have hln : ∀ ss : List Int, ss.Perm (intKeys D0) → ss.length = s.hs.length := fun ss hp => by
    have := (hp.trans hperm).length_eq
    simpa [ids] using this
  have hfin : ∀ ss : List Int, ss.Perm (intKeys D0) → (ss.mergeSort fun x y => decide (x ≤ y)) = sortI (ids s.hs) := fun ss hp => mergeSort_of_perm_i (hp.trans hperm)
  replace hln := Lib.hid hln
  replace hfin := Lib.hid hfin
  unfold ptrV at hi ⊢
  clear h ht hk hfew hperm hsz hown hF hFh hseq
  refine (callsIn_wide (n := 6)).1 ?_
  have hfK : Fence.wide.fn 70 := trivial
  have hfS : Fence.wide.fn 69 := trivial
  have hfN : Fence.wide.fn 68 := trivial
  have hi' := (callsIn_wide (n := 5)).2 hi
  refine callsIn_of_wp Tryz.func16 rfl trivial ?_ rfl
  simp only [Tryz.ntmps16, List.size_toArray, List.length_cons, List.length_nil, Nat.reduceAdd, Nat.reduceSub, Array.replicate_succ, Array.replicate_zero, List.push_toArray, List.append_toArray, List.nil_append, List.cons_append]
  gi_wp2_with (first
    | (gi_at_call 68; refine hi'.mono ?_; rintro e w' ⟨rfl, hw⟩; obtain rfl := hw.symm)
    | (gi_at_call 70; refine (cK _ _).mono ?_; rintro e w' ⟨rfl, rfl⟩)
    | (gi_at_call 69; refine cS.mono ?_; rintro e w' ⟨v, ss, rfl, hS, hrow, hnil, hb⟩))
  go_ret
  rw [hfin.out ss hS, hln.out ss hS] at hrow
  exact ⟨v, rfl, ownsRow_base_a hrow (by simp), ((Below.refl _ w).alloc (Nat.le_refl _) _).trans (hb.mono (by simp))⟩
end
end Go.Proofs.YtbjakhiflgjflaaGreatDoor
