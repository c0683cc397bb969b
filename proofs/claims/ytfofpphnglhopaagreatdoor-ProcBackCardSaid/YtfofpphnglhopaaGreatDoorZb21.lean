/-
  A part. Conditions: each theorem's own.
-/
import Derived.Shelf.SlIterI.Nil
import Derived.Shelf.SortM.Plain
import Derived.Shelf.SortM.SortNone
import Derived.Ground.GgzProg
import Derived.Ground.SlgmProg
import Derived.Test.YtfofpphnglhopaaGreatDoorProg
import Derived.Shelf.AbstractIn
import Derived.Deep.RegionHeld3
import Derived.Deep.Cut
import Derived.Deep.DeepCutAuto
import Derived.Deep.AppendLies
import Derived.Deep.Onto
import Derived.Test.YtfofpphnglhopaaGreatDoorZb6
import Derived.Test.YtfofpphnglhopaaGreatDoorZb13
import Derived.Test.YtfofpphnglhopaaGreatDoorZb16
import Derived.Test.YtfofpphnglhopaaGreatDoorZb20
set_option maxHeartbeats 8000000
set_option maxRecDepth 100000
namespace Go.Proofs.YtfofpphnglhopaaGreatDoor
open Go Go.RowKit Go.ChangeMaps
theorem hown_form {w : World} {base : Nat} {e : TypeId} {size n : Nat} {v : Value} {xs : List Value} (h : w.ownsRow base e size v n xs) : ∃ A c, v = .slice A n c ∧ n ≤ c ∧ c ≤ maxLen := by
  rcases h.2 with ⟨rfl, rfl⟩ | ⟨g, cap, cur, rfl, hb, hg, h1, h2, _⟩
  · exact ⟨none, 0, rfl, Nat.le_refl _, Nat.zero_le _⟩
  · exact ⟨_, cap, rfl, h1, h2⟩
theorem hown_at {w : World} {base : Nat} {e : TypeId} {size n c : Nat} {A : Option Addr} {xs : List Value} (h : w.ownsRow base e size (.slice A n c) n xs) (hn : 0 < n) : ∃ g, A = some ⟨g, 0, none⟩ ∧ base ≤ g ∧ g < w.heap.size ∧ ∀ (j : Nat) (u : Value), xs[j]? = some u → w.cell? ⟨g, j, none⟩ = some u := by
  rcases h.2 with ⟨h1, h2⟩ | ⟨g, cap, cur, h1, hb, hg, h2⟩
  · omega
  · cases h1
    refine ⟨g, rfl, hb, (Array.getElem?_eq_some_iff.1 hg).1, fun j u hu => ?_⟩
    have := h.cells (g := g) rfl j u hu
    rwa [add_plain0, Nat.zero_add] at this
theorem hown_block {w : World} {base : Nat} {e : TypeId} {size n : Nat} {v : Value} {xs : List Value} (h : w.ownsRow base e size v n xs) {g : Nat} (hg : v.ownBlock = some g) : base ≤ g ∧ ∃ cur, Blk w g cur e := by
  rcases h.2 with ⟨rfl, _⟩ | ⟨g', cap, cur, rfl, hb, hc, _⟩
  · cases hg
  · cases hg
    exact ⟨hb, cur.toList, by unfold Blk; simpa using hc⟩
section
variable {w w' : World} {F F' G : Nat → Prop} {c : Sy} {s : St} {b i : Nat}
theorem grown_of_below (h : Below w.heap.size w w') : w.grownBy w' none := ⟨h.os, h.tape, h.output, h.size, fun k hk _ => h.block k hk⟩
end
theorem Sys.nodup {w : World} {F : Nat → Prop} {c : Sy} {s : St} (h : Sys w F c s) : (ids s.hs).Nodup := by
  obtain ⟨Ft, Fp, Fh, h, hF⟩ := h
  obtain ⟨lab, mb, mem, v, ht, hFh⟩ := h.tab
  exact ht.nodup
end Go.Proofs.YtfofpphnglhopaaGreatDoor
namespace Go.Proofs.YtfofpphnglhopaaGreatDoor
open Go Go.RowKit
def marksOf (lb : Nat) (w : World) : Nat := match w.cell? ⟨lb, 2, none⟩ with | some (.slice _ n _) => n | _ => 0
section
variable {w : World} {B : Nat} {F : Nat → Prop} {c : Sy} {pb lb most nest : Nat} {s : St} {ps : List Pt} {ns : Nts} {mk : List Nat} {N : Nat}
theorem PrR.marksOf (h : PrR w B F c pb lb most nest s ps ns mk) : marksOf lb w = mk.length := by
  obtain ⟨ms, fs, ⟨mv, nv, hl⟩, h2, h3, h4, h5⟩ := h.log
  obtain ⟨A, cc, hmv, _, _⟩ := hl.mrow.form
  have hc := hl.blk.cell (show (logC most nest mv nv ns.length)[2]? = some mv from rfl)
  unfold Proofs.YtfofpphnglhopaaGreatDoor.marksOf
  rw [hc, hmv, ← h3, List.length_map]
theorem pr_marks (h : PrR w B F c pb lb most nest s ps ns mk) : Calls Tryz.prog 20 #[ptrV lb] w fun e w' => e = .returned (.int .i64 (mk.length : Int)) ∧ w' = w := by
  obtain ⟨ms, fs, h1, h2, h3, h4, h5⟩ := h.log
  have hl : ms.length = mk.length := by rw [← h3, List.length_map]
  rw [← hl]
  exact LogMarks_any h1
theorem PI.undo (P : PI w B F c pb lb most nest s ps ns mk N) (hN : N ≤ 900) (hmk : mk ≠ []) :
    Calls Tryz.prog 23 #[ptrV pb] w fun e w' => e = .returned (.int .i64 0) ∧ ∃ F' s' ps' ns' mk', PI w' B F' c pb lb most nest s' ps' ns' mk' N ∧ mk'.length + 1 = mk.length ∧ PCh B F F' pb w w' ∧ ∃ m, mk = mk' ++ [m] ∧ ps' = back (ns.drop m) ps ∧ ns' = ns.take m := by
  have hm := P.m
  have hn := P.n
  have hl := P.l
  refine (dUndo P hN).mono ?_
  rintro e w' ⟨er, rfl, ⟨e0, _⟩ | ⟨rfl, mk0, m, rfl, e3, F', s', q1, q2, q3⟩⟩
  · exact absurd e0 hmk
  · have q4 : PSt most ps ns (mk0 ++ [m]) (back (ns.drop m) ps) (ns.take m) mk0 := .undo e3
    exact ⟨rfl, F', s', _, _, mk0, ⟨q1, q2, q4.lv hl, by rw [List.length_take]; omega, by rw [List.length_take]; omega, P.cm, P.cr⟩, by simp, q3, m, rfl, rfl, rfl⟩
end
end Go.Proofs.YtfofpphnglhopaaGreatDoor
namespace Go.Proofs.YtfofpphnglhopaaGreatDoor
open Go Go.Proofs Go.RowKit Go.Maps Go.Sort Go.Shelf
def Tryz.keysI_ren : Go.Shelf.Ren := ⟨fun | 7 => 87 | 10 => 133 | n => n, fun | 23 => 134 | 26 => 3 | 3 => 135 | 28 => 132 | 0 => 0 | 27 => 131 | 33 => 227 | 4 => 4 | n => n, fun | n => n⟩
theorem Tryz.keysI : Go.Proofs.SlLaysZI.n7 Tryz.prog Tryz.keysI_ren := {
  mixed := by kernel_rfl
  f7 := ⟨Tryz.f87.name, by decide, Tryz.func87.trans (congrArg some (by kernel_rfl))⟩
  f10 := ⟨Tryz.f133.name, by decide, Tryz.func133.trans (congrArg some (by kernel_rfl))⟩
  t0 := Tryz.underlying0
  a0 := Tryz.isAgg0
  z0 := Tryz.sizeOf0
  v0 := Tryz.zeroValue0
  t4 := Tryz.underlying4
  a4 := Tryz.isAgg4
  z4 := Tryz.sizeOf4
  v4 := Tryz.zeroValue4
  t23 := Tryz.underlying134
  a23 := Tryz.isAgg134
  z23 := Tryz.sizeOf134
  v23 := Tryz.zeroValue134
  t26 := Tryz.underlying3
  a26 := Tryz.isAgg3
  z26 := Tryz.sizeOf3
  v26 := Tryz.zeroValue3
  t27 := Tryz.underlying131
  a27 := Tryz.isAgg131
  z27 := Tryz.sizeOf131
  v27 := Tryz.zeroValue131
  t28 := Tryz.underlying132
  a28 := Tryz.isAgg132
  z28 := Tryz.sizeOf132
  v28 := Tryz.zeroValue132
  t33 := Tryz.underlying227
  a33 := Tryz.isAgg227
  z33 := Tryz.sizeOf227
  v33 := Tryz.zeroValue227 }
def Tryz.sortedI_ren : Go.Shelf.Ren := ⟨fun | 6 => 86 | 8 => 131 | 9 => 132 | 11 => 155 | 13 => 157 | 12 => 156 | 23 => 187 | 24 => 188 | 14 => 178 | 15 => 179 | 16 => 180 | 17 => 181 | 18 => 182 | 19 => 183 | 20 => 184 | 21 => 185 | 22 => 186 | 25 => 202 | 26 => 203 | 27 => 204 | 28 => 205 | 29 => 206 | 30 => 207 | 31 => 216 | n => n, fun | 26 => 3 | 28 => 132 | 24 => 54 | 0 => 0 | 3 => 3 | 37 => 252 | 48 => 284 | 50 => 286 | 4 => 4 | 40 => 277 | 39 => 276 | 45 => 74 | 5 => 5 | 9 => 9 | 51 => 298 | 55 => 302 | 57 => 308 | 58 => 99 | 33 => 227 | n => n, fun | n => n⟩
theorem Tryz.sortedI : Go.Proofs.SlLaysZI.n6 Tryz.prog Tryz.sortedI_ren := {
  mixed := by kernel_rfl
  f6 := ⟨Tryz.f86.name, by decide, Tryz.func86.trans (congrArg some (by kernel_rfl))⟩
  f8 := ⟨Tryz.f131.name, by decide, Tryz.func131.trans (congrArg some (by kernel_rfl))⟩
  f11 := ⟨Tryz.f155.name, by decide, Tryz.func155.trans (congrArg some (by kernel_rfl))⟩
  t0 := Tryz.underlying0
  a0 := Tryz.isAgg0
  z0 := Tryz.sizeOf0
  v0 := Tryz.zeroValue0
  t24 := Tryz.underlying54
  a24 := Tryz.isAgg54
  z24 := Tryz.sizeOf54
  v24 := Tryz.zeroValue54
  t26 := Tryz.underlying3
  a26 := Tryz.isAgg3
  z26 := Tryz.sizeOf3
  v26 := Tryz.zeroValue3
  t28 := Tryz.underlying132
  a28 := Tryz.isAgg132
  z28 := Tryz.sizeOf132
  v28 := Tryz.zeroValue132
  i26 := by kernel_rfl }
def Tryz.sortI_ren : Go.Shelf.Ren := ⟨fun | 5 => 132 | 8 => 157 | 7 => 156 | 19 => 187 | 20 => 188 | 10 => 178 | 11 => 179 | 12 => 180 | 13 => 181 | 14 => 182 | 15 => 183 | 16 => 184 | 17 => 185 | 18 => 186 | 30 => 202 | 31 => 203 | 32 => 204 | 33 => 205 | 34 => 206 | 35 => 207 | 40 => 216 | n => n, fun | 23 => 54 | 25 => 3 | 3 => 3 | 32 => 252 | 22 => 54 | 0 => 0 | 44 => 284 | 46 => 286 | 4 => 4 | 36 => 277 | 35 => 276 | 41 => 74 | 5 => 5 | 9 => 9 | 53 => 298 | 57 => 302 | 63 => 308 | 64 => 99 | n => n, fun | n => n⟩
theorem Tryz.sortI : Go.Proofs.SlLaysM.n5 Tryz.prog Tryz.sortI_ren := {
  mixed := by kernel_rfl
  f5 := ⟨Tryz.f132.name, by decide, Tryz.func132.trans (congrArg some (by kernel_rfl))⟩
  f7 := ⟨Tryz.f156.name, by decide, Tryz.func156.trans (congrArg some (by kernel_rfl))⟩
  f8 := Tryz.func157.trans (congrArg some (by kernel_rfl))
  f10 := ⟨Tryz.f178.name, by decide, Tryz.func178.trans (congrArg some (by kernel_rfl))⟩
  f11 := ⟨Tryz.f179.name, by decide, Tryz.func179.trans (congrArg some (by kernel_rfl))⟩
  f12 := ⟨Tryz.f180.name, by decide, Tryz.func180.trans (congrArg some (by kernel_rfl))⟩
  f13 := ⟨Tryz.f181.name, by decide, Tryz.func181.trans (congrArg some (by kernel_rfl))⟩
  f14 := ⟨Tryz.f182.name, by decide, Tryz.func182.trans (congrArg some (by kernel_rfl))⟩
  f15 := ⟨Tryz.f183.name, by decide, Tryz.func183.trans (congrArg some (by kernel_rfl))⟩
  f16 := ⟨Tryz.f184.name, by decide, Tryz.func184.trans (congrArg some (by kernel_rfl))⟩
  f17 := ⟨Tryz.f185.name, by decide, Tryz.func185.trans (congrArg some (by kernel_rfl))⟩
  f18 := ⟨Tryz.f186.name, by decide, Tryz.func186.trans (congrArg some (by kernel_rfl))⟩
  f19 := Tryz.func187.trans (congrArg some (by kernel_rfl))
  f20 := Tryz.func188.trans (congrArg some (by kernel_rfl))
  f30 := ⟨Tryz.f202.name, by decide, Tryz.func202.trans (congrArg some (by kernel_rfl))⟩
  f31 := Tryz.func203.trans (congrArg some (by kernel_rfl))
  f32 := Tryz.func204.trans (congrArg some (by kernel_rfl))
  f33 := ⟨Tryz.f205.name, by decide, Tryz.func205.trans (congrArg some (by kernel_rfl))⟩
  f34 := ⟨Tryz.f206.name, by decide, Tryz.func206.trans (congrArg some (by kernel_rfl))⟩
  f35 := ⟨Tryz.f207.name, by decide, Tryz.func207.trans (congrArg some (by kernel_rfl))⟩
  f40 := ⟨Tryz.f216.name, by decide, Tryz.func216.trans (congrArg some (by kernel_rfl))⟩
  t0 := Tryz.underlying0
  a0 := Tryz.isAgg0
  z0 := Tryz.sizeOf0
  v0 := Tryz.zeroValue0
  t3 := Tryz.underlying3
  a3 := Tryz.isAgg3
  z3 := Tryz.sizeOf3
  v3 := Tryz.zeroValue3
  t4 := Tryz.underlying4
  a4 := Tryz.isAgg4
  z4 := Tryz.sizeOf4
  v4 := Tryz.zeroValue4
  t5 := Tryz.underlying5
  a5 := Tryz.isAgg5
  z5 := Tryz.sizeOf5
  v5 := Tryz.zeroValue5
  t9 := Tryz.underlying9
  a9 := Tryz.isAgg9
  z9 := Tryz.sizeOf9
  v9 := Tryz.zeroValue9
  t22 := Tryz.underlying54
  a22 := Tryz.isAgg54
  z22 := Tryz.sizeOf54
  v22 := Tryz.zeroValue54
  t23 := Tryz.underlying54
  a23 := Tryz.isAgg54
  z23 := Tryz.sizeOf54
  v23 := Tryz.zeroValue54
  t25 := Tryz.underlying3
  a25 := Tryz.isAgg3
  z25 := Tryz.sizeOf3
  v25 := Tryz.zeroValue3
  t32 := Tryz.underlying252
  a32 := Tryz.isAgg252
  z32 := Tryz.sizeOf252
  v32 := Tryz.zeroValue252
  t35 := Tryz.underlying276
  a35 := Tryz.isAgg276
  z35 := Tryz.sizeOf276
  v35 := Tryz.zeroValue276
  t36 := Tryz.underlying277
  a36 := Tryz.isAgg277
  z36 := Tryz.sizeOf277
  v36 := Tryz.zeroValue277
  t41 := Tryz.underlying74
  a41 := Tryz.isAgg74
  z41 := Tryz.sizeOf74
  v41 := Tryz.zeroValue74
  t44 := Tryz.underlying284
  a44 := Tryz.isAgg284
  z44 := Tryz.sizeOf284
  v44 := Tryz.zeroValue284
  t46 := Tryz.underlying286
  a46 := Tryz.isAgg286
  z46 := Tryz.sizeOf286
  v46 := Tryz.zeroValue286
  t53 := Tryz.underlying298
  a53 := Tryz.isAgg298
  z53 := Tryz.sizeOf298
  v53 := Tryz.zeroValue298
  t57 := Tryz.underlying302
  a57 := Tryz.isAgg302
  z57 := Tryz.sizeOf302
  v57 := Tryz.zeroValue302
  t63 := Tryz.underlying308
  a63 := Tryz.isAgg308
  z63 := Tryz.sizeOf308
  v63 := Tryz.zeroValue308
  t64 := Tryz.underlying99
  a64 := Tryz.isAgg99
  z64 := Tryz.sizeOf99
  v64 := Tryz.zeroValue99 }
theorem Tryz.sortsI (m : Nat) : AnyZI.SortsIn Tryz.prog Tryz.sortedI_ren Fence.wide m :=
  ⟨fun blk off cap ss W hH hblk hsz => callsIn_wide.2 (AnyM.slices_Sort_int Tryz.sortI blk off cap ss W hH hblk hsz),
   fun p cap W => callsIn_wide.2 (AnyM.slices_Sort_int_none Tryz.sortI p cap W)⟩
end Go.Proofs.YtfofpphnglhopaaGreatDoor
namespace Go.Proofs.YtfofpphnglhopaaGreatDoor
open Go Go.Proofs Go.RowKit Go.ChangeMaps Go.MapKept Go.WideElems Go.Maps Go.Sort Go.Shelf
open Go.WideShapes (sorted_perm)
def sortI (l : List Int) : List Int := l.mergeSort fun x y => decide (x ≤ y)
def readH : Value → Option (DataW Unit × List MemPlace) := fun _ => some (.nil, [])
theorem entH_owns {w : World} {mb : Nat} {mem : Int → HM} {hs : Hs} (h : KMap w mb (.int .i64) encI (entH mem hs)) (hk : ∀ p ∈ hs, 1 ≤ p.1 ∧ p.1 ≤ 100000) (hl : hs.length ≤ 100000) :
    ∃ nn D0, w.ownsMap (H := Unit) Tryz.prog 3 readH mb nn D0 ∧ (intKeys D0).Perm (ids hs) ∧ Maps.size D0 = hs.length := by
  obtain ⟨es', clock, hb, hss, he⟩ := h
  have hlen : es'.size = hs.length := by
    have := congrArg List.length he
    simpa [entH] using this
  have hkey : ∀ x ∈ es'.toList, ∃ k : Int, x.key = .int .i64 k ∧ 1 ≤ k ∧ k ≤ 100000 := fun x hx => by
    have : (x.key, x.val) ∈ (entH mem hs).map fun p => (encI p.1, p.2) := by rw [← he]; exact List.mem_map_of_mem (f := fun x : MapEntry => (x.key, x.val)) hx
    obtain ⟨p, hp, e⟩ := List.mem_map.1 this
    obtain ⟨q, hq, rfl⟩ := List.mem_map.1 hp
    exact ⟨q.1, (congrArg Prod.fst e).symm, hk q hq⟩
  have hko : ∀ x ∈ es'.toList, ∀ k : Int, x.key = .int .i64 k → keyOf Tryz.prog 3 x.key = some (.int .i64 k) := fun x hx k hxk => by
    obtain ⟨k', h1, h2, h3⟩ := hkey x hx
    rw [hxk] at h1
    cases h1
    rw [hxk]
    have hwf : (Lit.int .i64 k).wf = true := by
      have h4 : IntKind.i64.min = -9223372036854775808 := rfl
      have h5 : IntKind.i64.max = 9223372036854775807 := rfl
      show (decide (IntKind.i64.min ≤ k) && decide (k ≤ IntKind.i64.max)) = true
      rw [h4, h5, Bool.and_eq_true, decide_eq_true_eq, decide_eq_true_eq]
      omega
    simp [keyOf, mapKey, Tryz.underlying3, hwf]
  have F : Fit Tryz.prog 3 readH es' clock := ⟨by rw [hlen]; exact Nat.le_trans hl (by decide), hss, fun x hx => by
    obtain ⟨s, h1, h2⟩ := hkey x hx
    exact ⟨_, by unfold WideElems.rd; rw [hko x hx s h1]; rfl⟩⟩
  refine ⟨es'.size, _, ⟨es', clock, hb, F, Nat.le_refl _, rfl⟩, ?_, ?_⟩
  · refine ((sorted_perm _).map _).trans ?_
    have e2 : es'.toList.map (fun x => match x.key with | .int _ k => k | _ => 0) = ids hs := by
      have := congrArg (List.map fun q : Value × Value => match q.1 with | .int _ k => k | _ => 0) he
      rw [List.map_map, List.map_map] at this
      simp only [entH, List.map_map] at this
      exact this
    rw [← e2, List.map_map]
    refine List.Perm.of_eq (List.map_congr_left fun x hx => ?_)
    obtain ⟨s, h1, h2⟩ := hkey x hx
    simp only [Function.comp]
    unfold WideElems.rg WideElems.rd
    rw [hko x hx s h1, h1]
    rfl
  · show ((es'.toList.map (WideElems.rg Tryz.prog 3 readH)).foldr DataW.insert []).length = _
    rw [(sorted_perm _).length_eq, List.length_map, Array.length_toList, hlen]
section
variable {w : World} {F : Nat → Prop} {c : Sy} {s : St}
set_option maxRecDepth 1000000 in
theorem sys_All (h : Sys w F c s) :
    Calls Tryz.prog 25 #[ptrV c.tb] w fun e w' => ∃ v, e = .returned v ∧ w'.ownsRow w.heap.size 3 1 v s.hs.length ((sortI (ids s.hs)).map encZ) ∧ Below w.heap.size w w' := by
  obtain ⟨Ft, Fp, Fh, h, hF⟩ := h
  obtain ⟨lab, mb, mem, v, ht, hFh⟩ := h.tab
  have hi := isNil_no ht
  have hfew : s.hs.length ≤ 100000 := by have := ht.num.cnt; have := ht.num.few; unfold ids at *; rw [List.length_map] at *; omega
  have hk : ∀ p ∈ s.hs, 1 ≤ p.1 ∧ p.1 ≤ 100000 := fun p hp => by
    have := (ht.num.all p.1).2 (.inl (List.mem_map.2 ⟨p, hp, rfl⟩))
    have := ht.num.few
    omega
  obtain ⟨nn, D0, hown, hperm, hsz⟩ := entH_owns ht.map hk hfew
  have t2 := ht.num.at_.blk.cell (i := 2) rfl
  have hlt := ht.num.at_.blk.lt
  have hbl := hown.lt
  have hseq : SeqGives Fence.wide 2 Tryz.prog 133 #[.pointer (some ⟨w.heap.size, 0, none⟩)] encZ (fun ss => ss.Perm (intKeys D0)) (Maps.size D0) (w.alloc (.cells #[.map (some mb)] 134)) :=
    AnyZI.keys_gives (ρ := Tryz.keysI_ren) { Tryz.keysI with } Fence.wide _ trivial rfl (by omega) w.heap.size mb nn D0 _ (by simp) (by simp) (by
      obtain ⟨es, clock, hb, Ft, hs, hD⟩ := hown
      exact ⟨es, clock, (Below.heap_alloc _ _ mb hbl).trans hb, Ft, hs, hD⟩)
  have cK : ∀ mb W, CallsIn Fence.wide 5 Tryz.prog 87 #[.map mb] W fun e w' => e = .returned (.func (.func 133) #[] #[.pointer (some ⟨W.heap.size, 0, none⟩)]) ∧ w' = W.alloc (.cells #[.map mb] 134) := fun mb W => AnyZI.keys_in Tryz.keysI Fence.wide 5 trivial rfl mb W
  have cS := AnyZI.sorted_in Tryz.sortedI Fence.wide 5 trivial trivial trivial trivial rfl (by omega) (Tryz.sortsI _) (enters_of Tryz.func132 (by kernel_rfl) rfl) 133 #[.pointer (some ⟨w.heap.size, 0, none⟩)] trivial (enters_of Tryz.func133 (by kernel_rfl) rfl) _ _ (by rw [hsz]; exact Nat.le_trans hfew (by decide)) (by rw [hsz]; omega) _ hseq
  change CallsIn _ _ Tryz.prog 86 _ _ _ at cS
  have hln : ∀ ss : List Int, ss.Perm (intKeys D0) → ss.length = s.hs.length := fun ss hp => by
    have := (hp.trans hperm).length_eq
    simpa [ids] using this
  have hfin : ∀ ss : List Int, ss.Perm (intKeys D0) → (ss.mergeSort fun x y => decide (x ≤ y)) = sortI (ids s.hs) := fun ss hp => mergeSort_of_perm_i (hp.trans hperm)
  replace hln := Lib.hid hln
  replace hfin := Lib.hid hfin
  unfold ptrV at hi ⊢
  clear h ht hk hfew hperm hsz hown hF hFh hseq
  refine (callsIn_wide (n := 6)).1 ?_
  have hfK : Fence.wide.fn 87 := trivial
  have hfS : Fence.wide.fn 86 := trivial
  have hfN : Fence.wide.fn 85 := trivial
  have hi' := (callsIn_wide (n := 5)).2 hi
  refine callsIn_of_wp Tryz.func25 rfl trivial ?_ rfl
  simp only [Tryz.ntmps25, List.size_toArray, List.length_cons, List.length_nil, Nat.reduceAdd, Nat.reduceSub, Array.replicate_succ, Array.replicate_zero, List.push_toArray, List.append_toArray, List.nil_append, List.cons_append]
  gi_wp2_with (first
    | (gi_at_call 85; refine hi'.mono ?_; rintro e w' ⟨rfl, hw⟩; obtain rfl := hw.symm)
    | (gi_at_call 87; refine (cK _ _).mono ?_; rintro e w' ⟨rfl, rfl⟩)
    | (gi_at_call 86; refine cS.mono ?_; rintro e w' ⟨v, ss, rfl, hS, hrow, hnil, hb⟩))
  go_ret
  rw [hfin.out ss hS, hln.out ss hS] at hrow
  exact ⟨v, rfl, ownsRow_base_a hrow (by simp), ((Below.refl _ w).alloc (Nat.le_refl _) _).trans (hb.mono (by simp))⟩
end
end Go.Proofs.YtfofpphnglhopaaGreatDoor
namespace Go.Proofs.YtfofpphnglhopaaGreatDoor
open Go Go.RowKit Go.ChangeMaps
def pv (ps : List Pt) (i : Nat) : Int := match ps[i]? with | some p => p.v | none => 0
def tI (ps : List Pt) (ns : Nts) (mk : List Nat) (L : List Int) : List Int :=
  [pv ps 16, pv ps 17, (mk.length : Int), (ns.length : Int)] ++ ((ps.take 16).map (·.v) ++ L.flatMap fun k => [k, (Ru ps ns k : Int)])
def iv (l : List Int) : List Value := l.map fun n => .int .i64 n
theorem iv_app (a b : List Int) : iv (a ++ b) = iv a ++ iv b := List.map_append
def Nums (w : World) (z : Nat) (v : Value) (l : List Int) : Prop := w.ownsRow z 3 1 v l.length (iv l)
theorem grown_over {w w1 w2 : World} {o : Option Nat} (h : w.grownBy w1 none) (k : w1.grownBy w2 o) (ho : ∀ g, o = some g → w.heap.size ≤ g) : w.grownBy w2 none :=
  ⟨k.os.trans h.os, k.tape.trans h.tape, k.output.trans h.output, Nat.le_trans h.size k.size, fun b hb _ => (k.block b (Nat.lt_of_lt_of_le hb h.size) (fun e => by have := ho b e.symm; omega)).trans (h.block b hb (by simp))⟩
theorem Nums.form {w : World} {z : Nat} {v : Value} {l : List Int} (h : Nums w z v l) (hl : 0 < l.length) : ∃ g c, v = .slice (some ⟨g, 0, none⟩) l.length c ∧ z ≤ g ∧ g < w.heap.size ∧ l.length ≤ c ∧ c ≤ maxLen := by
  obtain ⟨A, c, rfl, h1, h2⟩ := hown_form h
  obtain ⟨g, rfl, h3, h4, _⟩ := hown_at h hl
  exact ⟨g, c, rfl, h3, h4, h1, h2⟩
section
variable {w w' : World} {B B' : Nat} {F F' : Nat → Prop} {c c' : Sy} {pb pb' lb lb' most nest most' nest' : Nat} {s s' : St} {ps : List Pt} {ns : Nts} {mk mk' : List Nat} {N N' : Nat}
theorem PI.ids_iff (P : PI w B F c pb lb most nest s ps ns mk N) (k : Int) : k ∈ ids s.hs ↔ k ≠ 0 ∧ 0 < Ru ps ns k := by
  constructor
  · intro hk
    obtain ⟨p, hp, rfl⟩ := List.mem_map.1 hk
    have hx := look_of_mem P.r.sys.hsd (show (p.1, p.2) ∈ s.hs from hp)
    have h1 := P.i.ref p.1 p.2 hx
    have h2 := P.i.good.refs p.1 p.2 hx
    exact ⟨fun e => (by rw [e, P.r.sys.zero] at hx; cases hx), by omega⟩
  · rintro ⟨h0, h1⟩
    obtain ⟨x, hx⟩ := P.i.ex k h0 h1
    exact List.mem_map.2 ⟨(k, x), look_mem hx, rfl⟩
theorem PI.ids_same (P : PI w B F c pb lb most nest s ps ns mk N) (Q : PI w' B' F' c' pb' lb' most' nest' s' ps ns mk' N') : sortI (ids s.hs) = sortI (ids s'.hs) :=
  mergeSort_of_perm_i ((List.perm_ext_iff_of_nodup P.r.sys.nodup Q.r.sys.nodup).2 fun k => (P.ids_iff k).trans (Q.ids_iff k).symm)
theorem PI.ids_look (P : PI w B F c pb lb most nest s ps ns mk N) {i : Nat} (hi : i < (sortI (ids s.hs)).length) : ∃ x, look s.hs (sortI (ids s.hs))[i] = some x ∧ x.refs = Ru ps ns (sortI (ids s.hs))[i] := by
  have hp : (sortI (ids s.hs)).Perm (ids s.hs) := List.mergeSort_perm _ _
  have hm := hp.mem_iff.1 (List.getElem_mem hi)
  obtain ⟨h0, h1⟩ := (P.ids_iff _).1 hm
  obtain ⟨x, hx⟩ := P.i.ex _ h0 h1
  exact ⟨x, hx, P.i.ref _ x hx⟩
theorem PI.ids_len (P : PI w B F c pb lb most nest s ps ns mk N) : (sortI (ids s.hs)).length = s.hs.length := by
  have hp : (sortI (ids s.hs)).Perm (ids s.hs) := List.mergeSort_perm _ _
  rw [hp.length_eq]
  exact List.length_map _
theorem pv_at {ps : List Pt} {i : Nat} {p : Pt} (h : ps[i]? = some p) : pv ps i = p.v := by unfold pv; rw [h]
theorem LogMarks_len (h : PrR w B F c pb lb most nest s ps ns mk) : Calls Tryz.prog 20 #[ptrV lb] w fun e w' => e = .returned (.int .i64 (mk.length : Int)) ∧ w' = w := pr_marks h
theorem pr_len (h : PrR w B F c pb lb most nest s ps ns mk) : Calls Tryz.prog 29 #[ptrV lb] w fun e w' => e = .returned (.int .i64 (ns.length : Int)) ∧ w' = w := by
  obtain ⟨ms, fs, h1, h2, h3, h4, h5⟩ := h.log
  exact LogLen_any h1
theorem PI.few (P : PI w B F c pb lb most nest s ps ns mk N) : (sortI (ids s.hs)).length ≤ 100000 ∧ 0 < (sortI (ids s.hs)).length := by
  constructor
  · rw [P.ids_len]
    obtain ⟨Ft, Fp, Fh, h, hF⟩ := P.r.sys
    obtain ⟨lab, mb, mem, v, ht, hFh⟩ := h.tab
    have := ht.num.cnt; have := ht.num.few; unfold ids at *; rw [List.length_map] at *; omega
  · have hp : (sortI (ids s.hs)).Perm (ids s.hs) := List.mergeSort_perm _ _
    have hb := P.i.bs 1
    have h1 : base 1 = 1 := rfl
    have := hp.mem_iff.2 ((P.ids_iff 1).2 ⟨by decide, by omega⟩)
    exact List.length_pos_iff.2 (List.ne_nil_of_mem this)
def rows2 (ps : List Pt) (ns : Nts) (L : List Int) : List Int := L.flatMap fun k => [k, (Ru ps ns k : Int)]
theorem rows2_len (ps : List Pt) (ns : Nts) (L : List Int) : (rows2 ps ns L).length = 2 * L.length := by
  induction L with
  | nil => rfl
  | cons a L ih =>
    show (a :: (Ru ps ns a : Int) :: rows2 ps ns L).length = _
    rw [List.length_cons, List.length_cons, ih, List.length_cons]; omega
theorem rows2_snoc (ps : List Pt) (ns : Nts) {L : List Int} {k : Nat} (h : k < L.length) : rows2 ps ns (L.take (k + 1)) = rows2 ps ns (L.take k) ++ [L[k], (Ru ps ns L[k] : Int)] := by
  unfold rows2
  rw [List.take_succ_eq_append_getElem h, List.flatMap_append]
  rfl
theorem below_of_grown {w w' : World} (g : w.grownBy w' none) : Below w.heap.size w w' := ⟨g.os, g.tape, g.output, g.size, fun b hb => g.block b hb (by simp)⟩
theorem below_tr {B : Nat} {w w' w'' : World} (h : Below B w w') (k : Below B w' w'') : Below B w w'' := h.trans k
theorem below_none {w w' : World} (h : Below w.heap.size w w') : w.grownBy w' none := ⟨h.os, h.tape, h.output, h.size, fun b hb _ => h.block b hb⟩
abbrev wC (a b c d e : Nat) : List Value := [.pointer (some ⟨a, 0, none⟩), .pointer (some ⟨b, 0, none⟩), .pointer (some ⟨c, 0, none⟩), .pointer (some ⟨d, 0, none⟩), .pointer (some ⟨e, 0, none⟩)]
theorem told_any (P : PI w B F c pb lb most nest s ps ns mk N) (hN : N ≤ 900) (pl : Nat) :
    Calls Tryz.prog 19 #[.agg #[ptrV c.fb, ptrV pl, ptrV c.tb, ptrV lb, ptrV pb]] w fun e w' => ∃ v, e = .returned v ∧ Nums w' w.heap.size v (tI ps ns mk (sortI (ids s.hs))) ∧ Below w.heap.size w w' := by
  obtain ⟨i0, hi, hz0, hz1, hz2⟩ := info_parts infoI9
  obtain ⟨fb, hfE⟩ : ∃ f, c.fb = f := ⟨_, rfl⟩
  obtain ⟨tb, htE⟩ : ∃ t, c.tb = t := ⟨_, rfl⟩
  have hP := fun W (g : w.grownBy W none) => (P.r.grown g).1
  obtain ⟨d, hd⟩ := P.r.part (show 16 < 18 by omega)
  obtain ⟨m, hm⟩ := P.r.part (show 17 < 18 by omega)
  have hI := P.i
  have hps := P.r.len
  have hnl := P.n
  obtain ⟨hfew, hpos⟩ := P.few
  have hlook := fun i (hi : i < (sortI (ids s.hs)).length) => P.ids_look hi
  have hlen := P.ids_len
  have ht : tI ps ns mk (sortI (ids s.hs)) = [d.v, m.v, (mk.length : Int), (ns.length : Int)] ++ ((ps.take 16).map (·.v) ++ rows2 ps ns (sortI (ids s.hs))) := by
    unfold tI rows2
    rw [pv_at hd, pv_at hm]
  rw [ht, hfE, htE]
  unfold ptrV
  obtain ⟨z, hz⟩ : ∃ z, w.heap.size = z := ⟨_, rfl⟩
  have gA : w.grownBy (w.alloc (.cells #[.pointer (some ⟨fb, 0, none⟩), .pointer (some ⟨pl, 0, none⟩), .pointer (some ⟨tb, 0, none⟩), .pointer (some ⟨lb, 0, none⟩), .pointer (some ⟨pb, 0, none⟩)] 48)) none := World.grownBy_alloc w _ _
  have bA : Blk (w.alloc (.cells #[.pointer (some ⟨fb, 0, none⟩), .pointer (some ⟨pl, 0, none⟩), .pointer (some ⟨tb, 0, none⟩), .pointer (some ⟨lb, 0, none⟩), .pointer (some ⟨pb, 0, none⟩)] 48)) z (wC fb pl tb lb pb) 48 := by rw [← hz]; exact Blk.new w _ _
  have hsz : (w.alloc (.cells #[.pointer (some ⟨fb, 0, none⟩), .pointer (some ⟨pl, 0, none⟩), .pointer (some ⟨tb, 0, none⟩), .pointer (some ⟨lb, 0, none⟩), .pointer (some ⟨pb, 0, none⟩)] 48)).heap.size = z + 1 := by simp [hz]
  have hkd := fun i (hi : i < 16) => P.r.part (show i < 18 by omega)
  have hStat := fun W (g : w.grownBy W none) (k : Int) x (hx : look s.hs k = some x) => op_Stat (hP W g).sys hI.good hI.bnd (by omega) hx
  have hAll := fun W (g : w.grownBy W none) => sys_All (hP W g).sys
  have hHan := fun W (g : w.grownBy W none) (i : Nat) (hi : i < 16) p (hp : ps[i]? = some p) => PHandle_any (ptrV pb) (i : Int) p.v _ (pfind_in (hP W g).prc hi hp)
  have hdir := fun W (g : w.grownBy W none) => PDir_any (hP W g).prc hd
  have hmask := fun W (g : w.grownBy W none) => PMask_any (hP W g).prc hm
  have hmarks := fun W (g : w.grownBy W none) => LogMarks_len (hP W g)
  have hllen := fun W (g : w.grownBy W none) => pr_len (hP W g)
  rw [hfE] at *
  rw [htE] at *
  unfold ptrV at hdir hmask hmarks hllen hHan hAll hStat
  generalize hL : sortI (ids s.hs) = L at hfew hpos hlook hlen hAll ⊢
  clear P hI hP hd hm ht hfE htE
  rw [hz]
  replace hStat := Lib.hid hStat
  replace hAll := Lib.hid hAll
  replace hHan := Lib.hid hHan
  replace hlook := Lib.hid hlook
  replace hkd := Lib.hid hkd
  replace hlen := Lib.hid hlen
  replace hL := Lib.hid hL
  replace hi := Lib.hid hi
  go_enter Tryz.func19, Tryz.ntmps19
  go_upto_region 1 with fail
  try rw [hz]
  generalize (w.alloc (.cells #[.pointer (some ⟨fb, 0, none⟩), .pointer (some ⟨pl, 0, none⟩), .pointer (some ⟨tb, 0, none⟩), .pointer (some ⟨lb, 0, none⟩), .pointer (some ⟨pb, 0, none⟩)] 48)) = w1 at gA bA hsz ⊢
  have gD : w.grownBy w1.drew none := grownBy_drewN gA 1
  have hdir1 := hdir _ gD
  have hmask1 := hmask _ gD
  have hmarks1 := hmarks _ gD
  have hllen1 := hllen _ gD
  clear hdir hmask hmarks hllen
  have a3 : w1.drew.cell? ⟨z, 3, none⟩ = some (.pointer (some ⟨lb, 0, none⟩)) := bA.cell (i := 3) rfl
  have a4 : w1.drew.cell? ⟨z, 4, none⟩ = some (.pointer (some ⟨pb, 0, none⟩)) := bA.cell (i := 4) rfl
  have hk0 : w1.drew.cell? ⟨z, 3, none⟩ = some (.pointer (some ⟨lb, 0, none⟩)) ∧ w1.drew.cell? ⟨z, 4, none⟩ = some (.pointer (some ⟨pb, 0, none⟩)) := ⟨a3, a4⟩
  have bB := bA.alloc (.cells #[.int .i64 d.v, .int .i64 m.v, .int .i64 (mk.length : Int), .int .i64 (ns.length : Int)] 3)
  have hk1 : (w1.alloc (.cells #[.int .i64 d.v, .int .i64 m.v, .int .i64 (mk.length : Int), .int .i64 (ns.length : Int)] 3)).drew.cell? ⟨z, 3, none⟩ = some (.pointer (some ⟨lb, 0, none⟩)) ∧ (w1.alloc (.cells #[.int .i64 d.v, .int .i64 m.v, .int .i64 (mk.length : Int), .int .i64 (ns.length : Int)] 3)).drew.cell? ⟨z, 4, none⟩ = some (.pointer (some ⟨pb, 0, none⟩)) := ⟨bB.cell (i := 3) rfl, bB.cell (i := 4) rfl⟩
  have hown : Hid ((w1.alloc (.cells #[.int .i64 d.v, .int .i64 m.v, .int .i64 (mk.length : Int), .int .i64 (ns.length : Int)] 3)).ownsRow (z + 1) 3 1 (.slice (some ⟨z + 1, 0, none⟩) 4 4) 4 [.int .i64 d.v, .int .i64 m.v, .int .i64 (mk.length : Int), .int .i64 (ns.length : Int)]) := Lib.hid (by rw [← hsz]; exact World.ownsRow_lit w1 #[.int .i64 d.v, .int .i64 m.v, .int .i64 (mk.length : Int), .int .i64 (ns.length : Int)] 4 (by omega) (by decide) rfl)
  have gB := Lib.hid (grownBy_tr gA (World.grownBy_alloc w1 (.cells #[.int .i64 d.v, .int .i64 m.v, .int .i64 (mk.length : Int), .int .i64 (ns.length : Int)] 3) none))
  replace bB := Lib.hid bB
  have hzl := bA.lt
  replace hz := Lib.hid hz
  replace gD := Lib.hid gD
  replace hdir1 := Lib.hid hdir1
  replace hmask1 := Lib.hid hmask1
  replace hmarks1 := Lib.hid hmarks1
  replace hllen1 := Lib.hid hllen1
  replace hps := Lib.hid hps
  go_region_held3 (fun w' => w'.cell? ⟨z, 3, none⟩ = some (.pointer (some ⟨lb, 0, none⟩)) ∧ w'.cell? ⟨z, 4, none⟩ = some (.pointer (some ⟨pb, 0, none⟩)))
    (first | go_keep | exact hk0 | exact hk1)
    (first
      | (go_at_call 28; refine hdir1.out.mono ?_; rintro e wq ⟨rfl, hwq⟩; obtain rfl := hwq.symm)
      | (go_at_call 33; refine hmask1.out.mono ?_; rintro e wq ⟨rfl, hwq⟩; obtain rfl := hwq.symm)
      | (go_at_call 20; refine hmarks1.out.mono ?_; rintro e wq ⟨rfl, hwq⟩; obtain rfl := hwq.symm)
      | (go_at_call 29; refine hllen1.out.mono ?_; rintro e wq ⟨rfl, hwq⟩; obtain rfl := hwq.symm))
  have hown2 : Hid ((w1.alloc (.cells #[.int .i64 d.v, .int .i64 m.v, .int .i64 (mk.length : Int), .int .i64 (ns.length : Int)] 3)).drew.ownsRow (z + 1) 3 1 (.slice (some ⟨z + 1, 0, none⟩) 4 4) (4 + 0) (iv ([d.v, m.v, (mk.length : Int), (ns.length : Int)] ++ (ps.take 0).map (·.v)))) := Lib.hid hown.out.drew
  have gB2 : Hid (w.grownBy (w1.alloc (.cells #[.int .i64 d.v, .int .i64 m.v, .int .i64 (mk.length : Int), .int .i64 (ns.length : Int)] 3)).drew none) := Lib.hid (grownBy_drewN gB.out 1)
  have bB2 : Hid (Blk (w1.alloc (.cells #[.int .i64 d.v, .int .i64 m.v, .int .i64 (mk.length : Int), .int .i64 (ns.length : Int)] 3)).drew z (wC fb pl tb lb pb) 48) := Lib.hid bB.out
  clear hown gB bB gA bA hk0 hk1 a3 a4 hzl gD hdir1 hmask1 hmarks1 hllen1 hsz
  generalize (w1.alloc (.cells #[.int .i64 d.v, .int .i64 m.v, .int .i64 (mk.length : Int), .int .i64 (ns.length : Int)] 3)).drew = w2 at gB2 bB2 hown2 ⊢
  go_wp2
  go_loopw [3, 4] (fun ov fv wr => ∃ i : Nat, i ≤ 16 ∧ fv = .int .i64 (i : Int) ∧ Hid (wr.ownsRow (z + 1) 3 1 ov (4 + i) (iv ([d.v, m.v, (mk.length : Int), (ns.length : Int)] ++ (ps.take i).map (·.v)))) ∧ Hid (w.grownBy wr none) ∧ Hid (Blk wr z (wC fb pl tb lb pb) 48)) (fun _ fv _ => 16 - (intOf fv).toNat)
  case atStart => exact ⟨0, by decide, rfl, hown2, gB2, bB2⟩
  case round =>
    clear hown2 gB2 bB2
    obtain ⟨i, hi16, rfl, hrow, hg, hb⟩ := hrel
    have hzl := hb.out.lt
    by_cases hlt : i < 16
    · have hi1 : (i : Int) < 16 := by omega
      obtain ⟨p, hp⟩ := hkd.out i hlt
      have hh := hHan.out wr hg.out i hlt p hp
      have z4 : wr.cell? ⟨z, 4, none⟩ = some (.pointer (some ⟨pb, 0, none⟩)) := hb.out.cell (i := 4) rfl
      have htk : (ps.take (i + 1)).map (·.v) = (ps.take i).map (·.v) ++ [p.v] := by rw [take_snoc hp, List.map_append]; rfl
      obtain ⟨A, cc, rfl, hcc, hccm⟩ := hown_form hrow.out
      replace htk := Lib.hid htk
      go_wp2_with fail
      refine hh.mono ?_
      rintro e w' ⟨rfl, hw⟩
      obtain rfl := hw.symm
      clear hh hw z4
      have hBn : ∀ j u, ([.int .i64 p.v] : List Value)[j]? = some u → (wr.alloc (.cells #[.int .i64 p.v] 3)).cell? ((⟨wr.heap.size, 0, none⟩ : Addr).add j) = some u := by
        intro j u hu
        rw [add_plain0, Nat.zero_add]
        exact (Blk.new wr [.int .i64 p.v] 3).cell hu
      obtain ⟨g, cap, w5, hrun, hrow3, hgr3, hat, hgl⟩ := run_append_lies (P := Tryz.prog) (wr.alloc (.cells #[.int .i64 p.v] 3)) 54 54 (z + 1) 3 i0 _ 1 8 Tryz.underlying54 hi.out hz0 hz1 hz2 rfl (by decide)
        (.slice A (4 + i) cc) (4 + i) _ (hrow.out.alloc _) ⟨wr.heap.size, 0, none⟩ 1 1 [.int .i64 p.v] rfl hBn (by simp [Value.oneCell']) (by decide) (by unfold maxLen; omega) (by omega) (by simp; omega) (wr.heap.size + 1) (by simp)
      have hlt2 := hrow.out.lt
      have hzw : z ≤ wr.heap.size := by omega
      have hg5 : Hid (w.grownBy w5 none) := Lib.hid (grown_over (grownBy_tr hg.out (World.grownBy_alloc wr _ none)) hgr3 (fun g' hg' => by have := (hlt2 g' hg').1; have := hz.out; omega))
      have hb5 : Hid (Blk w5 z (wC fb pl tb lb pb) 48) := Lib.hid ((hgr3.block z (by simp; omega) (fun e => by have := hlt2 z e.symm; omega)).trans (hb.out.alloc _))
      have hrow5 : Hid (w5.ownsRow (z + 1) 3 1 (.slice (some ⟨g, 0, none⟩) (4 + i + 1) cap) (4 + (i + 1)) (iv ([d.v, m.v, (mk.length : Int), (ns.length : Int)] ++ (ps.take (i + 1)).map (·.v)))) := Lib.hid (by rw [htk.out, ← List.append_assoc, iv_app]; exact hrow3)
      replace hrun := Lib.hid hrun
      clear hrow hg hb hrow3 hgr3 hat hgl hBn htk hlt2 hp hcc hccm
      go_wp2_with (at_builtin; refine wpList_append_of rfl _ _ 54 54 rfl _ _ _ w5 rfl rfl hrun.out ?_)
      go_wp2
      go_roundw
      case rel => exact ⟨i + 1, by omega, by go_num, hrow5, hg5, hb5⟩
      case measure => simp [intOf]; omega
    · obtain rfl : i = 16 := by omega
      have hi1 : ¬ ((16 : Nat) : Int) < 16 := by omega
      have z2 : wr.cell? ⟨z, 2, none⟩ = some (.pointer (some ⟨tb, 0, none⟩)) := hb.out.cell (i := 2) rfl
      have hal := hAll.out wr hg.out
      have hlt2 := hrow.out.lt
      go_wp2_with fail
      refine hal.mono ?_
      rintro e w6 ⟨va, rfl, hrow6, hbl6⟩
      have g6 := grown_of_below hbl6
      rw [← hlen.out] at hrow6
      obtain ⟨AA, ca, rfl, hca, hcam⟩ := hown_form hrow6
      obtain ⟨ga, rfl, hga1, hga2, hgac⟩ := hown_at hrow6 hpos
      have hcell : ∀ (k : Nat) (hk : k < L.length), w6.cell? ⟨ga, k, none⟩ = some (.int .i64 L[k]) := fun k hk => hgac k _ (by rw [List.getElem?_map, List.getElem?_eq_getElem hk]; rfl)
      replace hcell := Lib.hid hcell
      have hb6 : Hid (Blk w6 z (wC fb pl tb lb pb) 48) := Lib.hid ((g6.block z hzl (by simp)).trans hb.out)
      have hg6 : Hid (w.grownBy w6 none) := Lib.hid (grownBy_tr hg.out g6)
      have hrw6 : Hid (w6.ownsRow (z + 1) 3 1 _ (20 + 2 * 0) (iv (([d.v, m.v, (mk.length : Int), (ns.length : Int)] ++ (ps.take 16).map (·.v)) ++ rows2 ps ns (L.take 0)))) := Lib.hid (by rw [List.take_zero]; unfold rows2; rw [List.flatMap_nil, List.append_nil]; exact hrow.out.kept g6 (by cases Value.ownBlock _ <;> simp))
      have hne6 : Hid (∀ g, Value.ownBlock _ = some g → g ≠ ga) := Lib.hid (fun g hg => by have := (hlt2 g hg).2; omega)
      have hga6 : Hid (ga < w6.heap.size) := Lib.hid hga2
      generalize hT : ([d.v, m.v, (mk.length : Int), (ns.length : Int)] ++ (ps.take 16).map (·.v)) = T at hrw6
      replace hT := Lib.hid hT
      obtain ⟨KL, hKL⟩ : ∃ n, L.length = n := ⟨_, rfl⟩
      rw [hKL] at hfew hpos hca ⊢
      replace hKL := Lib.hid hKL
      unfold maxLen at hcam
      clear hal hrow6 hbl6 hgac hrow hlt2 hb hg z2 hzl g6 hga2
      go_wp2
      go_loopw [3, 8] (fun ov kv wr => ∃ k : Nat, k ≤ KL ∧ kv = .int .i64 (k : Int) ∧ Hid (wr.ownsRow (z + 1) 3 1 ov (20 + 2 * k) (iv (T ++ rows2 ps ns (L.take k)))) ∧ Hid (w.grownBy wr none) ∧ Hid (Blk wr z (wC fb pl tb lb pb) 48) ∧ Hid (∀ g, ov.ownBlock = some g → g ≠ ga) ∧ Hid (ga < wr.heap.size ∧ wr.heap[ga]? = w6.heap[ga]?)) (fun _ kv _ => KL - (intOf kv).toNat)
      case atStart => exact ⟨0, Nat.zero_le _, rfl, hrw6, hg6, hb6, hne6, Lib.hid ⟨hga6.out, rfl⟩⟩
      case round =>
        clear hrw6 hg6 hb6 hne6 hga6
        obtain ⟨k, hk, rfl, hrow, hgr, hb, hne, hga⟩ := hrel
        obtain ⟨A, cc, rfl, hcc, hccm⟩ := hown_form hrow.out
        by_cases hkl : k < KL
        · have hkx : k < L.length := by rw [hKL.out]; exact hkl
          obtain ⟨x, hx, hx1⟩ := hlook.out k hkx
          have ci : wr.cell? ⟨ga, k, none⟩ = some (.int .i64 L[k]) := (World.cell?_of_block (a := ⟨ga, k, none⟩) hga.out.2).trans (hcell.out k hkx)
          have hst := fun (W : World) (hW : wr.grownBy W none) => hStat.out W (grownBy_tr hgr.out hW) L[k] x hx
          have hr2 := rows2_snoc ps ns hkx
          have z2 := hb.out.cell (i := 2) rfl
          have hzl := hb.out.lt
          have hgal := hga.out.1
          have hi0 : (0 : Int) ≤ (k : Int) := by omega
          have hi1' : (k : Int) < (KL : Int) := by omega
          have hgw : ga ≠ wr.heap.size := by omega
          have hgw' : wr.heap.size ≠ ga := by omega
          have hzw : z ≠ wr.heap.size := by omega
          have hzw' : wr.heap.size ≠ z := by omega
          replace hst := Lib.hid hst
          replace hx := Lib.hid hx
          obtain ⟨id, hid⟩ : ∃ id, L[k] = id := ⟨_, rfl⟩
          rw [hid] at ci hst hx hx1 hr2
          replace hid := Lib.hid hid
          replace hx1 := Lib.hid hx1
          replace hr2 := Lib.hid hr2
          obtain ⟨wp, rfl⟩ : ∃ x, x = wr := ⟨_, rfl⟩
          go_upto_region 11 with fail
          go_cut [9, 10] from 48 to 57 (fun t11 t12 wx => ∃ (zi a : Nat) (r1 w1 m1 : Bool), t11 = .pointer (some ⟨zi, 0, none⟩) ∧ t12 = .int .i64 0 ∧ wp.heap.size ≤ zi ∧ Hid (wp.grownBy wx none) ∧ Blk wx zi [.int .i64 (kindOf x), .int .i64 (x.refs : Int), .int .i64 (a : Int), .int .i64 (nodeOf x), .bool r1, .bool w1, .bool m1] 64)
          case first =>
            have gW : wp.grownBy ((wp.alloc (.cells #[.int .i64 0, .int .i64 0, .int .i64 0, .int .i64 0, .bool false, .bool false, .bool false] 64)).drew) none := grownBy_drewN (World.grownBy_alloc wp _ _) 1
            have bz : Blk ((wp.alloc (.cells #[.int .i64 0, .int .i64 0, .int .i64 0, .int .i64 0, .bool false, .bool false, .bool false] 64)).drew) wp.heap.size [.int .i64 0, .int .i64 0, .int .i64 0, .int .i64 0, .bool false, .bool false, .bool false] 64 := Blk.new wp _ _
            have hst1 := Lib.hid (hst.out _ gW)
            have g0 : wp.grownBy wp.drew none := grownBy_drewN (grownBy_re wp) 1
            have hst0 := Lib.hid (hst.out _ g0)
            have hkk2 : ∀ w', wp.grownBy w' none → w'.cell? ⟨z, 2, none⟩ = some (.pointer (some ⟨tb, 0, none⟩)) ∧ w'.cell? ⟨ga, k, none⟩ = some (.int .i64 id) := fun w' hg => ⟨(World.cell?_of_block (a := ⟨z, 2, none⟩) (hg.block z hzl (by simp))).trans z2, (World.cell?_of_block (a := ⟨ga, k, none⟩) (hg.block ga hgal (by simp))).trans ci⟩
            replace hkk2 := Lib.hid hkk2
            replace gW := Lib.hid gW
            replace g0 := Lib.hid g0
            replace bz := Lib.hid bz
            unfold info7 at hst1 hst0
            go_region_held3 (fun w' => w'.cell? ⟨z, 2, none⟩ = some (.pointer (some ⟨tb, 0, none⟩)) ∧ w'.cell? ⟨ga, k, none⟩ = some (.int .i64 id))
              (first | go_keep | exact hkk)
              (first
                | (go_at_call 26; refine hst1.out.mono ?_; rintro e w5 ⟨a, r1, w1, m1, rfl, gB⟩; have gC := grownBy_tr gW.out gB; have b5 : Blk w5 wp.heap.size _ _ := (gB.block _ bz.out.lt (by simp)).trans bz.out; have y0 := b5.cell (i := 0) rfl; have y1 := b5.cell (i := 1) rfl; have y2 := b5.cell (i := 2) rfl; have y3 := b5.cell (i := 3) rfl; have y4 := b5.cell (i := 4) rfl; have y5 := b5.cell (i := 5) rfl; have y6 := b5.cell (i := 6) rfl; have u0 := b5.frozen 0; have u1 := b5.frozen 1; have u2 := b5.frozen 2; have u3 := b5.frozen 3; have u4 := b5.frozen 4; have u5 := b5.frozen 5; have u6 := b5.frozen 6; have hkk := hkk2.out w5 gC)
                | (go_at_call 26; refine hst0.out.mono ?_; rintro e w5 ⟨a, r1, w1, m1, rfl, gB⟩; have gC := grownBy_tr g0.out gB; have hkk := hkk2.out w5 gC))
            all_goals (go_wp2_with fail)
            all_goals go_meet
            · exact ⟨w5.heap.size, a, r1, w1, m1, rfl, rfl, gC.size, Lib.hid (grownBy_tr gC (World.grownBy_alloc w5 _ _)), Blk.new w5 _ _⟩
            · exact ⟨wp.heap.size, a, r1, w1, m1, rfl, rfl, Nat.le_refl _, Lib.hid (grown_setNew (grown_setNew (grown_setNew (grown_setNew (grown_setNew (grown_setNew (grown_setNew gC (Nat.le_refl _) 0 _) (Nat.le_refl _) 1 _) (Nat.le_refl _) 2 _) (Nat.le_refl _) 3 _) (Nat.le_refl _) 4 _) (Nat.le_refl _) 5 _) (Nat.le_refl _) 6 _), ((((((b5.set 0 _).set 1 _).set 2 _).set 3 _).set 4 _).set 5 _).set 6 _⟩
          case rest =>
            obtain ⟨zi, a, r1, w1', m1, rfl, rfl, hzi, gX, bX⟩ := hcut
            rw [hx1.out] at bX
            have y1 : wc.cell? ⟨zi, 1, none⟩ = some (.int .i64 (Ru ps ns id : Int)) := bX.cell (i := 1) rfl
            have hzil := bX.lt
            have hbga := gX.out.block ga hgal (by simp)
            have cx : wc.cell? ⟨ga, k, none⟩ = some (.int .i64 id) := (World.cell?_of_block (a := ⟨ga, k, none⟩) hbga).trans ci
            have hgx : ga < wc.heap.size := Nat.lt_of_lt_of_le hgal gX.out.size
            have hgrX := Lib.hid (grownBy_tr hgr.out gX.out)
            have hrowX := Lib.hid (hrow.out.kept gX.out (by cases Value.ownBlock _ <;> simp))
            have hlt2 := hrowX.out.lt
            have hltw := hrow.out.lt
            have hbX : Hid (Blk wc z (wC fb pl tb lb pb) 48) := Lib.hid ((gX.out.block z hzl (by simp)).trans hb.out)
            have hzx : z < wc.heap.size := Nat.lt_of_lt_of_le hzl gX.out.size
            have hgaX : Hid (wc.heap[ga]? = w6.heap[ga]?) := Lib.hid (hbga.trans hga.out.2)
            have hne2 : Hid (∀ g, (Value.slice A (20 + 2 * k) cc).ownBlock = some g → g ≠ ga ∧ g ≠ zi) := Lib.hid (fun g hg => ⟨hne.out g hg, by have := (hltw g hg).2; omega⟩)
            have hkk : ∀ w', (wc.alloc (.cells #[.int .i64 id, .int .i64 (Ru ps ns id : Int)] 3)).drew.grownBy w' (Value.slice A (20 + 2 * k) cc).ownBlock → w'.cell? ⟨ga, k, none⟩ = some (.int .i64 id) ∧ w'.cell? ⟨zi, 1, none⟩ = some (.int .i64 (Ru ps ns id : Int)) := fun w' hg => by
              have e1 := hg.block ga (by simp; omega) (fun e => (hne2.out ga e.symm).1 rfl)
              have e2 := hg.block zi (by simp; omega) (fun e => (hne2.out zi e.symm).2 rfl)
              exact ⟨((World.cell?_of_block (a := ⟨ga, k, none⟩) (e1.trans (Below.heap_alloc wc _ ga hgx)))).trans cx, ((World.cell?_of_block (a := ⟨zi, 1, none⟩) (e2.trans (Below.heap_alloc wc _ zi hzil)))).trans y1⟩
            have hk0 := hkk _ (World.grownBy.refl _ _)
            replace hkk := Lib.hid hkk
            have hgw : ga ≠ wc.heap.size := by omega
            have hgw' : wc.heap.size ≠ ga := by omega
            have hzw : zi ≠ wc.heap.size := by omega
            have hzw' : wc.heap.size ≠ zi := by omega
            have hgwx := gX.out.size
            clear bX gX hst z2 ci hgal hgr hx hb hga hbga hltw
            go_upto_region 12 with fail
            go_region_held3 (fun w' => w'.cell? ⟨ga, k, none⟩ = some (.int .i64 id) ∧ w'.cell? ⟨zi, 1, none⟩ = some (.int .i64 (Ru ps ns id : Int)))
              (first | go_keep | exact hk0 | exact hkk1)
              ((refine step_append_lies _ (by rfl) _ _ _ (by rfl) (z + 1) 3 i0 _ 1 8 Tryz.underlying54 hi.out hz0 hz1 hz2 rfl (by decide) (.slice A (20 + 2 * k) cc) (20 + 2 * k) _ (by rfl) ((hrowX.out.alloc _).drew)
                    ⟨wc.heap.size, 0, none⟩ 2 2 [.int .i64 id, .int .i64 (Ru ps ns id : Int)] (by rfl) (by rfl) (World.news_of_block (cs := #[.int .i64 id, .int .i64 (Ru ps ns id : Int)]) (t := 3) (fr := (0, 0)) (heap_alloc_new wc _)) (by simp [Value.oneCell'])
                    (by omega) (by simp only [maxLen]; omega) (by omega) (by simp; omega) (wc.heap.size + 1) (by simp) ?_; intro gg cap w1 hown1 hgrow hat hlt1; have hkk1 := hkk.out w1 hgrow))
            have hgE : Hid (w.grownBy w1 none) := Lib.hid (grown_over (grownBy_drewN (grownBy_tr hgrX.out (World.grownBy_alloc wc (.cells #[.int .i64 id, .int .i64 (Ru ps ns id : Int)] 3) none)) 1) hgrow (fun g' hg' => by have := (hlt2 g' hg').1; have := hz.out; omega))
            have hbE : Hid (Blk w1 z (wC fb pl tb lb pb) 48) := Lib.hid ((hgrow.block z (by simp; omega) (fun e => by have := hlt2 z e.symm; omega)).trans (hbX.out.alloc _))
            have hgaE : Hid (ga < w1.heap.size ∧ w1.heap[ga]? = w6.heap[ga]?) := Lib.hid ⟨by have := hgrow.size; simp at this; omega, (hgrow.block ga (by simp; omega) (fun e => (hne2.out ga e.symm).1 rfl)).trans ((Below.heap_alloc wc _ ga hgx).trans hgaX.out)⟩
            have hneE : Hid (∀ g, (Value.slice (some ⟨gg, 0, none⟩) (20 + 2 * k + 2) cap).ownBlock = some g → g ≠ ga) := Lib.hid (fun g hg => by
              obtain rfl : gg = g := Option.some.inj hg
              rcases hat with h | h
              · exact (hne2.out _ h).1
              · omega)
            have hrowE : Hid (w1.ownsRow (z + 1) 3 1 (.slice (some ⟨gg, 0, none⟩) (20 + 2 * k + 2) cap) (20 + 2 * (k + 1)) (iv (T ++ rows2 ps ns (L.take (k + 1))))) := Lib.hid (by rw [hr2.out, ← List.append_assoc, iv_app]; exact hown1)
            clear hown1 hgrow hat hrowX hrow hne2 hlt2 hkk hkk1 hk0 hgrX hbX hgaX cx y1 hr2
            go_wp2
            go_roundw
            case rel => exact ⟨k + 1, by omega, by go_num, hrowE, hgE, hbE, hneE, hgaE⟩
            case measure => simp [intOf]; omega
        · obtain rfl : k = KL := by omega
          have hi1' : ¬ (k : Int) < (k : Int) := by omega
          have hfin : Hid (Nums wr z (.slice A (20 + 2 * k) cc) (d.v :: m.v :: (mk.length : Int) :: (ns.length : Int) :: ((ps.take 16).map (·.v) ++ rows2 ps ns L)) ∧ Below z w wr) := Lib.hid ⟨by
            have hr := hrow.out
            rw [← hKL.out, List.take_length, ← hT.out] at hr
            have hl : (d.v :: m.v :: (mk.length : Int) :: (ns.length : Int) :: ((ps.take 16).map (·.v) ++ rows2 ps ns L)).length = 20 + 2 * k := by
              simp only [List.length_cons, List.length_append, List.length_map, List.length_take, rows2_len, hps.out, hKL.out]
              omega
            unfold Nums
            rw [hl, ← hKL.out]
            exact World.ownsRow.mono hr (Nat.le_succ z), by rw [← hz.out]; exact below_of_grown hgr.out⟩
          clear hrow hgr hb hne hga
          go_wp2
          go_ret
          exact ⟨.slice A (20 + 2 * k) cc, rfl, by first | exact hfin.out | (rw [← List.map_take]; exact hfin.out)⟩
def KRow (w : World) (F : Nat → Prop) (pb : Nat) (v : Value) (X : List Int) : Prop :=
  ∃ g c cur, v = .slice (some ⟨g, 0, none⟩) X.length c ∧ X.length ≤ c ∧ c ≤ maxLen ∧ Kq w F pb g cur 3 ∧ ∀ (j : Nat) x, X[j]? = some x → cur[j]? = some (.int .i64 x)
theorem KRow.ch {v : Value} {X : List Int} (h : KRow w F pb v X) (k : PCh B F F' pb w w') : KRow w' F' pb v X := by
  obtain ⟨g, c, cur, h1, h2, h3, h4, h5⟩ := h
  exact ⟨g, c, cur, h1, h2, h3, h4.ch k, h5⟩
theorem KRow.of {v : Value} {X : List Int} (h : Nums w' w.heap.size v X) (hX : 0 < X.length) (P : PrR w B F c pb lb most nest s ps ns mk) : KRow w' F pb v X := by
  obtain ⟨g, cc, rfl, hz, hlt, h1, h2⟩ := h.form hX
  obtain ⟨_, cur, hb⟩ := hown_block h (g := g) rfl
  refine ⟨g, cc, cur, rfl, h1, h2, ⟨hb, fun hf => by have := P.sys.lt hf; omega, by have := P.prc.lt; omega, nl_int⟩, fun j x hx => ?_⟩
  have hj := h.cells (g := g) rfl j (.int .i64 x) (by unfold iv; rw [List.getElem?_map, hx]; rfl)
  rw [add_plain0, Nat.zero_add] at hj
  unfold Blk at hb
  unfold World.cell? at hj
  simpa [hb] using hj
theorem told_k (P : PI w B F c pb lb most nest s ps ns mk N) (hN : N ≤ 900) (pl : Nat) :
    Calls Tryz.prog 19 #[.agg #[ptrV c.fb, ptrV pl, ptrV c.tb, ptrV lb, ptrV pb]] w fun e w' => ∃ v, e = .returned v ∧ PI w' B F c pb lb most nest s ps ns mk N ∧ PCh B F F pb w w' ∧ KRow w' F pb v (tI ps ns mk (sortI (ids s.hs))) := by
  refine (told_any P hN pl).mono ?_
  rintro e w' ⟨v, rfl, hr, hb⟩
  obtain ⟨q1, q2⟩ := P.r.grown (grown_of_below hb)
  exact ⟨v, rfl, ⟨q1, P.i, P.l, P.m, P.n, P.cm, P.cr⟩, q2, KRow.of hr (by unfold tI; rw [List.length_append]; exact Nat.lt_of_lt_of_le (by decide : 0 < 4) (Nat.le_add_right _ _)) P.r⟩
end
end Go.Proofs.YtfofpphnglhopaaGreatDoor
