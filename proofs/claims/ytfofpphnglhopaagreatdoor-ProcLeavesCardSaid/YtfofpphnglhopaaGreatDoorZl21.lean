/-
  A part of a claim's proof. Conditions: each theorem's own.
-/
import Derived.Shelf.SlIterI.Nil
import Derived.Shelf.SortM.Plain
import Derived.Shelf.SortM.SortNone
import Derived.Ground.GgzProg
import Derived.Ground.SlgmProg
import Derived.Test.YtfofpphnglhopaaGreatDoorProg
import Derived.Shelf.AbstractIn
import Derived.Deep.RegionHeld3
import Derived.Deep.Cut
import Derived.Deep.DeepCutAuto
import Derived.Test.YtfofpphnglhopaaGreatDoorZl0
import Derived.Test.YtfofpphnglhopaaGreatDoorZl6
import Derived.Test.YtfofpphnglhopaaGreatDoorZl13
import Derived.Test.YtfofpphnglhopaaGreatDoorZl16
import Derived.Test.YtfofpphnglhopaaGreatDoorZl20
set_option maxHeartbeats 8000000
set_option maxRecDepth 100000
namespace Go.Proofs.YtfofpphnglhopaaGreatDoor
open Go Go.RowKit Go.ChangeMaps
theorem hown_form {w : World} {base : Nat} {e : TypeId} {size n : Nat} {v : Value} {xs : List Value} (h : w.ownsRow base e size v n xs) : ∃ A c, v = .slice A n c ∧ n ≤ c ∧ c ≤ maxLen := by
  rcases h.2 with ⟨rfl, rfl⟩ | ⟨g, cap, cur, rfl, hb, hg, h1, h2, _⟩
  · exact ⟨none, 0, rfl, Nat.le_refl _, Nat.zero_le _⟩
  · exact ⟨_, cap, rfl, h1, h2⟩
theorem hown_at {w : World} {base : Nat} {e : TypeId} {size n c : Nat} {A : Option Addr} {xs : List Value} (h : w.ownsRow base e size (.slice A n c) n xs) (hn : 0 < n) : ∃ g, A = some ⟨g, 0, none⟩ ∧ base ≤ g ∧ g < w.heap.size ∧ ∀ (j : Nat) (u : Value), xs[j]? = some u → w.cell? ⟨g, j, none⟩ = some u := by
  rcases h.2 with ⟨h1, h2⟩ | ⟨g, cap, cur, h1, hb, hg, h2⟩
  · omega
  · cases h1
    refine ⟨g, rfl, hb, (Array.getElem?_eq_some_iff.1 hg).1, fun j u hu => ?_⟩
    have := h.cells (g := g) rfl j u hu
    rwa [add_plain0, Nat.zero_add] at this
section
variable {w w' : World} {F F' G : Nat → Prop} {c : Sy} {s : St} {b i : Nat}
theorem grown_of_below (h : Below w.heap.size w w') : w.grownBy w' none := ⟨h.os, h.tape, h.output, h.size, fun k hk _ => h.block k hk⟩
end
def Ro (w : World) (F : Nat → Prop) (base : Nat) (v : Value) (n : Nat) (xs : List Value) : Prop := w.ownsRow base 3 1 v n xs ∧ ∀ g, v.ownBlock = some g → ¬ F g
theorem Sys.nodup {w : World} {F : Nat → Prop} {c : Sy} {s : St} (h : Sys w F c s) : (ids s.hs).Nodup := by
  obtain ⟨Ft, Fp, Fh, h, hF⟩ := h
  obtain ⟨lab, mb, mem, v, ht, hFh⟩ := h.tab
  exact ht.nodup
def ext8 : Ext := ⟨fun _ => 0, 8⟩
def cnt9 (hs : Hs) (l : List Int) : List Value := [.int .i64 ((sumI (nF 0) hs l : Nat) : Int), .int .i64 ((sumI (nF 1) hs l : Nat) : Int), .int .i64 ((sumI (nF 2) hs l : Nat) : Int), .int .i64 ((sumI (nF 3) hs l : Nat) : Int), .int .i64 ((sumI (nF 4) hs l : Nat) : Int), .int .i64 ((sumI (nF 5) hs l : Nat) : Int), .int .i64 ((sumI (nF 6) hs l : Nat) : Int), .int .i64 ((sumI (nF 7) hs l : Nat) : Int), .int .i64 ((sumI (nF 8) hs l : Nat) : Int)]
end Go.Proofs.YtfofpphnglhopaaGreatDoor
namespace Go.Proofs.YtfofpphnglhopaaGreatDoor
open Go Go.RowKit
def marksOf (lb : Nat) (w : World) : Nat := match w.cell? ⟨lb, 2, none⟩ with | some (.slice _ n _) => n | _ => 0
section
variable {w : World} {B : Nat} {F : Nat → Prop} {c : Sy} {pb lb most nest : Nat} {s : St} {ps : List Pt} {ns : Nts} {mk : List Nat} {N : Nat}
theorem PrR.marksOf (h : PrR w B F c pb lb most nest s ps ns mk) : marksOf lb w = mk.length := by
  obtain ⟨ms, fs, ⟨mv, nv, hl⟩, h2, h3, h4, h5⟩ := h.log
  obtain ⟨A, cc, hmv, _, _⟩ := hl.mrow.form
  have hc := hl.blk.cell (show (logC most nest mv nv ns.length)[2]? = some mv from rfl)
  unfold Proofs.YtfofpphnglhopaaGreatDoor.marksOf
  rw [hc, hmv, ← h3, List.length_map]
theorem pr_marks (h : PrR w B F c pb lb most nest s ps ns mk) : Calls Tryz.prog 20 #[ptrV lb] w fun e w' => e = .returned (.int .i64 (mk.length : Int)) ∧ w' = w := by
  obtain ⟨ms, fs, h1, h2, h3, h4, h5⟩ := h.log
  have hl : ms.length = mk.length := by rw [← h3, List.length_map]
  rw [← hl]
  exact LogMarks_any h1
theorem PI.undo (P : PI w B F c pb lb most nest s ps ns mk N) (hN : N ≤ 900) (hmk : mk ≠ []) :
    Calls Tryz.prog 23 #[ptrV pb] w fun e w' => e = .returned (.int .i64 0) ∧ ∃ F' s' ps' ns' mk', PI w' B F' c pb lb most nest s' ps' ns' mk' N ∧ mk'.length + 1 = mk.length ∧ PCh B F F' pb w w' ∧ ∃ m, mk = mk' ++ [m] ∧ ps' = back (ns.drop m) ps ∧ ns' = ns.take m := by
  have hm := P.m
  have hn := P.n
  have hl := P.l
  refine (dUndo P hN).mono ?_
  rintro e w' ⟨er, rfl, ⟨e0, _⟩ | ⟨rfl, mk0, m, rfl, e3, F', s', q1, q2, q3⟩⟩
  · exact absurd e0 hmk
  · have q4 : PSt most ps ns (mk0 ++ [m]) (back (ns.drop m) ps) (ns.take m) mk0 := .undo e3
    exact ⟨rfl, F', s', _, _, mk0, ⟨q1, q2, q4.lv hl, by rw [List.length_take]; omega, by rw [List.length_take]; omega, P.cm, P.cr⟩, by simp, q3, m, rfl, rfl, rfl⟩
theorem PI.ns_nil (P : PI w B F c pb lb most nest s ps ns [] N) : ns = [] := P.l.1
theorem PI.close (P : PI w B F c pb lb most nest s ps [] [] N) (hN : N ≤ 900) {i : Nat} (hi : i < 16) :
    Calls Tryz.prog 24 #[ptrV pb, .int .i64 (i : Int)] w fun e w' => e = .returned (.int .i64 0) ∧ ∃ F' s', PI w' B F' c pb lb most nest s' (ps.set i ⟨0, 0⟩) [] [] N ∧ PCh B F F' pb w w' := by
  obtain ⟨p, hp⟩ := P.r.part (show i < 18 by omega)
  have hp0 : p.n = 0 := P.l.2 p (List.mem_of_getElem? hp)
  have hlv := P.l.now hp (by rw [hp0]; rfl) 0
  rw [hp0] at hlv
  have hch := change_now_fd P.r hp (by rw [hp0]; rfl) 0 (fun w' => ∃ F' s', PrR w' B F' c pb lb most nest s' (ps.set i ⟨0, p.n⟩) [] [] ∧ Inv s' (Ru (ps.set i ⟨0, p.n⟩) []) (Du (ps.set i ⟨0, p.n⟩) []) N ∧ PCh B F F' pb w w') (fun w1 r1 r2 => by
    have I1 : Inv s (hand (Ru (ps.set i ⟨0, p.n⟩) []) p.v) (Du (ps.set i ⟨0, p.n⟩) []) N := P.i.congr P.r.sys.zero (fun k hk => by
      rw [hand_at _ _ hk]
      have := Ru_now (ns := []) hp hi ⟨0, p.n⟩ k
      have z : b1 ((⟨0, p.n⟩ : Pt).v = k) = 0 := b1_no (fun e => hk e.symm)
      rw [z] at this
      exact this) (fun n => by rw [Du_far (by omega)])
    refine (un_hand r1 I1 (fun k => Nat.le_add_right _ _) (by omega) (fun n => by have := Du_le (ps.set i ⟨0, p.n⟩) [] n; simp only [List.length_nil] at this; omega)).mono ?_
    rintro e w' ⟨rfl, F', s', q1, q2, q3⟩
    exact ⟨rfl, F', s', q1, q2, r2.trans q3⟩)
  refine (PClose_any P.r.prc hi (fun er w' => er = 0 ∧ ∃ F' s', PrR w' B F' c pb lb most nest s' (ps.set i ⟨0, p.n⟩) [] [] ∧ Inv s' (Ru (ps.set i ⟨0, p.n⟩) []) (Du (ps.set i ⟨0, p.n⟩) []) N ∧ PCh B F F' pb w w') (hch.mono ?_)).mono ?_
  · rintro e w' ⟨rfl, h⟩
    exact ⟨_, rfl, rfl, h⟩
  · rintro e w' ⟨er, rfl, rfl, F', s', q1, q2, q3⟩
    rw [hp0] at q1 q2
    exact ⟨rfl, F', s', ⟨q1, q2, hlv, Nat.zero_le _, Nat.zero_le _, P.cm, P.cr⟩, q3⟩
def Shut (j : Nat) (ps : List Pt) : Prop := ∀ i p, i < j → ps[i]? = some p → p.v = 0
theorem Shut.set {j : Nat} {ps : List Pt} (h : Shut j ps) : Shut (j + 1) (ps.set j ⟨0, 0⟩) := fun i p hi hp => by
  by_cases e : i = j
  · subst e
    rw [List.getElem?_set] at hp
    simp only [if_true] at hp
    split at hp
    · rw [← Option.some.inj hp]
    · cases hp
  · rw [List.getElem?_set_ne (Ne.symm e)] at hp
    exact h i p (by omega) hp
theorem Shut.uses {ps : List Pt} (h : Shut 16 ps) {k : Int} (hk : k ≠ 0) : uses k ps [] = 0 := by
  show useP k ps + 0 = 0
  unfold useP
  have : (ps.take 16).filter (fun p => decide (p.v = k)) = [] := by
    rw [List.filter_eq_nil_iff]
    intro p hp
    obtain ⟨i, hi⟩ := List.getElem?_of_mem hp
    rw [List.getElem?_take] at hi
    split at hi
    · rename_i h16
      rw [h i p h16 hi]
      simpa using (fun e => hk e.symm)
    · cases hi
  rw [this]
  rfl
theorem PI.left (P : PI w B F c pb lb most nest s ps [] [] N) (h : Shut 16 ps) : (∀ k x, look s.hs k = some x → 1 ≤ k ∧ k ≤ 4 ∧ x.refs = 1) ∧ s.hs.length = 4 ∧ ∀ n : Int, total (nF n) s.hs = 0 := by
  have h1 : ∀ k x, look s.hs k = some x → 1 ≤ k ∧ k ≤ 4 ∧ x.refs = 1 := fun k x hx => by
    have k0 : k ≠ 0 := fun e => by rw [e, P.r.sys.zero] at hx; cases hx
    have q1 := P.i.ref k x hx
    have q2 := P.i.good.refs k x hx
    have q3 : Ru ps [] k = base k := by unfold Ru; rw [h.uses k0]; rfl
    rw [q3] at q1
    unfold base b1 at q1
    split at q1
    · rename_i q
      exact ⟨q.1, q.2, q1⟩
    · omega
  have h2 : ∀ k : Int, 1 ≤ k → k ≤ 4 → ∃ x, look s.hs k = some x := fun k a b => P.i.ex k (by omega) (by
    have : 0 < base k := by unfold base b1; rw [if_pos ⟨a, b⟩]; omega
    unfold Ru
    omega)
  have hp : (ids s.hs).Perm [1, 2, 3, 4] := (List.perm_ext_iff_of_nodup P.r.sys.nodup (by decide)).2 fun k => by
    constructor
    · intro hk
      obtain ⟨p, hp, rfl⟩ := List.mem_map.1 hk
      obtain ⟨a, b, _⟩ := h1 p.1 p.2 (look_of_mem P.r.sys.hsd hp)
      have : p.1 = 1 ∨ p.1 = 2 ∨ p.1 = 3 ∨ p.1 = 4 := by omega
      simp only [List.mem_cons, List.not_mem_nil, or_false]
      exact this
    · intro hk
      simp only [List.mem_cons, List.not_mem_nil, or_false] at hk
      obtain ⟨x, hx⟩ := h2 k (by omega) (by omega)
      exact List.mem_map.2 ⟨(k, x), look_mem hx, rfl⟩
  refine ⟨h1, ?_, fun n => ?_⟩
  · have := hp.length_eq
    unfold ids at this
    rw [List.length_map] at this
    exact this
  · refine total_zeroH fun p hp => ?_
    have hx := look_of_mem P.r.sys.hsd (show (p.1, p.2) ∈ s.hs from hp)
    exact P.i.nof p.1 p.2 hx (h1 p.1 p.2 hx).2.1 n
end
end Go.Proofs.YtfofpphnglhopaaGreatDoor
namespace Go.Proofs.YtfofpphnglhopaaGreatDoor
open Go Go.Proofs Go.RowKit Go.Maps Go.Sort Go.Shelf
def Tryz.keysI_ren : Go.Shelf.Ren := ⟨fun | 7 => 87 | 10 => 133 | n => n, fun | 23 => 134 | 26 => 3 | 3 => 135 | 28 => 132 | 0 => 0 | 27 => 131 | 33 => 227 | 4 => 4 | n => n, fun | n => n⟩
theorem Tryz.keysI : Go.Proofs.SlLaysZI.n7 Tryz.prog Tryz.keysI_ren := {
  mixed := by kernel_rfl
  f7 := ⟨Tryz.f87.name, by decide, Tryz.func87.trans (congrArg some (by kernel_rfl))⟩
  f10 := ⟨Tryz.f133.name, by decide, Tryz.func133.trans (congrArg some (by kernel_rfl))⟩
  t0 := Tryz.underlying0
  a0 := Tryz.isAgg0
  z0 := Tryz.sizeOf0
  v0 := Tryz.zeroValue0
  t4 := Tryz.underlying4
  a4 := Tryz.isAgg4
  z4 := Tryz.sizeOf4
  v4 := Tryz.zeroValue4
  t23 := Tryz.underlying134
  a23 := Tryz.isAgg134
  z23 := Tryz.sizeOf134
  v23 := Tryz.zeroValue134
  t26 := Tryz.underlying3
  a26 := Tryz.isAgg3
  z26 := Tryz.sizeOf3
  v26 := Tryz.zeroValue3
  t27 := Tryz.underlying131
  a27 := Tryz.isAgg131
  z27 := Tryz.sizeOf131
  v27 := Tryz.zeroValue131
  t28 := Tryz.underlying132
  a28 := Tryz.isAgg132
  z28 := Tryz.sizeOf132
  v28 := Tryz.zeroValue132
  t33 := Tryz.underlying227
  a33 := Tryz.isAgg227
  z33 := Tryz.sizeOf227
  v33 := Tryz.zeroValue227 }
def Tryz.sortedI_ren : Go.Shelf.Ren := ⟨fun | 6 => 86 | 8 => 131 | 9 => 132 | 11 => 155 | 13 => 157 | 12 => 156 | 23 => 187 | 24 => 188 | 14 => 178 | 15 => 179 | 16 => 180 | 17 => 181 | 18 => 182 | 19 => 183 | 20 => 184 | 21 => 185 | 22 => 186 | 25 => 202 | 26 => 203 | 27 => 204 | 28 => 205 | 29 => 206 | 30 => 207 | 31 => 216 | n => n, fun | 26 => 3 | 28 => 132 | 24 => 54 | 0 => 0 | 3 => 3 | 37 => 252 | 48 => 284 | 50 => 286 | 4 => 4 | 40 => 277 | 39 => 276 | 45 => 74 | 5 => 5 | 9 => 9 | 51 => 298 | 55 => 302 | 57 => 308 | 58 => 99 | 33 => 227 | n => n, fun | n => n⟩
theorem Tryz.sortedI : Go.Proofs.SlLaysZI.n6 Tryz.prog Tryz.sortedI_ren := {
  mixed := by kernel_rfl
  f6 := ⟨Tryz.f86.name, by decide, Tryz.func86.trans (congrArg some (by kernel_rfl))⟩
  f8 := ⟨Tryz.f131.name, by decide, Tryz.func131.trans (congrArg some (by kernel_rfl))⟩
  f11 := ⟨Tryz.f155.name, by decide, Tryz.func155.trans (congrArg some (by kernel_rfl))⟩
  t0 := Tryz.underlying0
  a0 := Tryz.isAgg0
  z0 := Tryz.sizeOf0
  v0 := Tryz.zeroValue0
  t24 := Tryz.underlying54
  a24 := Tryz.isAgg54
  z24 := Tryz.sizeOf54
  v24 := Tryz.zeroValue54
  t26 := Tryz.underlying3
  a26 := Tryz.isAgg3
  z26 := Tryz.sizeOf3
  v26 := Tryz.zeroValue3
  t28 := Tryz.underlying132
  a28 := Tryz.isAgg132
  z28 := Tryz.sizeOf132
  v28 := Tryz.zeroValue132
  i26 := by kernel_rfl }
def Tryz.sortI_ren : Go.Shelf.Ren := ⟨fun | 5 => 132 | 8 => 157 | 7 => 156 | 19 => 187 | 20 => 188 | 10 => 178 | 11 => 179 | 12 => 180 | 13 => 181 | 14 => 182 | 15 => 183 | 16 => 184 | 17 => 185 | 18 => 186 | 30 => 202 | 31 => 203 | 32 => 204 | 33 => 205 | 34 => 206 | 35 => 207 | 40 => 216 | n => n, fun | 23 => 54 | 25 => 3 | 3 => 3 | 32 => 252 | 22 => 54 | 0 => 0 | 44 => 284 | 46 => 286 | 4 => 4 | 36 => 277 | 35 => 276 | 41 => 74 | 5 => 5 | 9 => 9 | 53 => 298 | 57 => 302 | 63 => 308 | 64 => 99 | n => n, fun | n => n⟩
theorem Tryz.sortI : Go.Proofs.SlLaysM.n5 Tryz.prog Tryz.sortI_ren := {
  mixed := by kernel_rfl
  f5 := ⟨Tryz.f132.name, by decide, Tryz.func132.trans (congrArg some (by kernel_rfl))⟩
  f7 := ⟨Tryz.f156.name, by decide, Tryz.func156.trans (congrArg some (by kernel_rfl))⟩
  f8 := Tryz.func157.trans (congrArg some (by kernel_rfl))
  f10 := ⟨Tryz.f178.name, by decide, Tryz.func178.trans (congrArg some (by kernel_rfl))⟩
  f11 := ⟨Tryz.f179.name, by decide, Tryz.func179.trans (congrArg some (by kernel_rfl))⟩
  f12 := ⟨Tryz.f180.name, by decide, Tryz.func180.trans (congrArg some (by kernel_rfl))⟩
  f13 := ⟨Tryz.f181.name, by decide, Tryz.func181.trans (congrArg some (by kernel_rfl))⟩
  f14 := ⟨Tryz.f182.name, by decide, Tryz.func182.trans (congrArg some (by kernel_rfl))⟩
  f15 := ⟨Tryz.f183.name, by decide, Tryz.func183.trans (congrArg some (by kernel_rfl))⟩
  f16 := ⟨Tryz.f184.name, by decide, Tryz.func184.trans (congrArg some (by kernel_rfl))⟩
  f17 := ⟨Tryz.f185.name, by decide, Tryz.func185.trans (congrArg some (by kernel_rfl))⟩
  f18 := ⟨Tryz.f186.name, by decide, Tryz.func186.trans (congrArg some (by kernel_rfl))⟩
  f19 := Tryz.func187.trans (congrArg some (by kernel_rfl))
  f20 := Tryz.func188.trans (congrArg some (by kernel_rfl))
  f30 := ⟨Tryz.f202.name, by decide, Tryz.func202.trans (congrArg some (by kernel_rfl))⟩
  f31 := Tryz.func203.trans (congrArg some (by kernel_rfl))
  f32 := Tryz.func204.trans (congrArg some (by kernel_rfl))
  f33 := ⟨Tryz.f205.name, by decide, Tryz.func205.trans (congrArg some (by kernel_rfl))⟩
  f34 := ⟨Tryz.f206.name, by decide, Tryz.func206.trans (congrArg some (by kernel_rfl))⟩
  f35 := ⟨Tryz.f207.name, by decide, Tryz.func207.trans (congrArg some (by kernel_rfl))⟩
  f40 := ⟨Tryz.f216.name, by decide, Tryz.func216.trans (congrArg some (by kernel_rfl))⟩
  t0 := Tryz.underlying0
  a0 := Tryz.isAgg0
  z0 := Tryz.sizeOf0
  v0 := Tryz.zeroValue0
  t3 := Tryz.underlying3
  a3 := Tryz.isAgg3
  z3 := Tryz.sizeOf3
  v3 := Tryz.zeroValue3
  t4 := Tryz.underlying4
  a4 := Tryz.isAgg4
  z4 := Tryz.sizeOf4
  v4 := Tryz.zeroValue4
  t5 := Tryz.underlying5
  a5 := Tryz.isAgg5
  z5 := Tryz.sizeOf5
  v5 := Tryz.zeroValue5
  t9 := Tryz.underlying9
  a9 := Tryz.isAgg9
  z9 := Tryz.sizeOf9
  v9 := Tryz.zeroValue9
  t22 := Tryz.underlying54
  a22 := Tryz.isAgg54
  z22 := Tryz.sizeOf54
  v22 := Tryz.zeroValue54
  t23 := Tryz.underlying54
  a23 := Tryz.isAgg54
  z23 := Tryz.sizeOf54
  v23 := Tryz.zeroValue54
  t25 := Tryz.underlying3
  a25 := Tryz.isAgg3
  z25 := Tryz.sizeOf3
  v25 := Tryz.zeroValue3
  t32 := Tryz.underlying252
  a32 := Tryz.isAgg252
  z32 := Tryz.sizeOf252
  v32 := Tryz.zeroValue252
  t35 := Tryz.underlying276
  a35 := Tryz.isAgg276
  z35 := Tryz.sizeOf276
  v35 := Tryz.zeroValue276
  t36 := Tryz.underlying277
  a36 := Tryz.isAgg277
  z36 := Tryz.sizeOf277
  v36 := Tryz.zeroValue277
  t41 := Tryz.underlying74
  a41 := Tryz.isAgg74
  z41 := Tryz.sizeOf74
  v41 := Tryz.zeroValue74
  t44 := Tryz.underlying284
  a44 := Tryz.isAgg284
  z44 := Tryz.sizeOf284
  v44 := Tryz.zeroValue284
  t46 := Tryz.underlying286
  a46 := Tryz.isAgg286
  z46 := Tryz.sizeOf286
  v46 := Tryz.zeroValue286
  t53 := Tryz.underlying298
  a53 := Tryz.isAgg298
  z53 := Tryz.sizeOf298
  v53 := Tryz.zeroValue298
  t57 := Tryz.underlying302
  a57 := Tryz.isAgg302
  z57 := Tryz.sizeOf302
  v57 := Tryz.zeroValue302
  t63 := Tryz.underlying308
  a63 := Tryz.isAgg308
  z63 := Tryz.sizeOf308
  v63 := Tryz.zeroValue308
  t64 := Tryz.underlying99
  a64 := Tryz.isAgg99
  z64 := Tryz.sizeOf99
  v64 := Tryz.zeroValue99 }
theorem Tryz.sortsI (m : Nat) : AnyZI.SortsIn Tryz.prog Tryz.sortedI_ren Fence.wide m :=
  ⟨fun blk off cap ss W hH hblk hsz => callsIn_wide.2 (AnyM.slices_Sort_int Tryz.sortI blk off cap ss W hH hblk hsz),
   fun p cap W => callsIn_wide.2 (AnyM.slices_Sort_int_none Tryz.sortI p cap W)⟩
end Go.Proofs.YtfofpphnglhopaaGreatDoor
namespace Go.Proofs.YtfofpphnglhopaaGreatDoor
open Go Go.Proofs Go.RowKit Go.ChangeMaps Go.MapKept Go.WideElems Go.Maps Go.Sort Go.Shelf
open Go.WideShapes (sorted_perm)
def sortI (l : List Int) : List Int := l.mergeSort fun x y => decide (x ≤ y)
def readH : Value → Option (DataW Unit × List MemPlace) := fun _ => some (.nil, [])
def litI : Lit → Int | .int _ n => n | _ => 0
theorem entH_owns {w : World} {mb : Nat} {mem : Int → HM} {hs : Hs} (h : KMap w mb (.int .i64) encI (entH mem hs)) (hk : ∀ p ∈ hs, 1 ≤ p.1 ∧ p.1 ≤ 100000) (hl : hs.length ≤ 100000) :
    ∃ nn D0, w.ownsMap (H := Unit) Tryz.prog 3 readH mb nn D0 ∧ (intKeys D0).Perm (ids hs) ∧ Maps.size D0 = hs.length := by
  obtain ⟨es', clock, hb, hss, he⟩ := h
  have hlen : es'.size = hs.length := by
    have := congrArg List.length he
    simpa [entH] using this
  have hkey : ∀ x ∈ es'.toList, ∃ k : Int, x.key = .int .i64 k ∧ 1 ≤ k ∧ k ≤ 100000 := fun x hx => by
    have : (x.key, x.val) ∈ (entH mem hs).map fun p => (encI p.1, p.2) := by rw [← he]; exact List.mem_map_of_mem (f := fun x : MapEntry => (x.key, x.val)) hx
    obtain ⟨p, hp, e⟩ := List.mem_map.1 this
    obtain ⟨q, hq, rfl⟩ := List.mem_map.1 hp
    exact ⟨q.1, (congrArg Prod.fst e).symm, hk q hq⟩
  have hko : ∀ x ∈ es'.toList, ∀ k : Int, x.key = .int .i64 k → keyOf Tryz.prog 3 x.key = some (.int .i64 k) := fun x hx k hxk => by
    obtain ⟨k', h1, h2, h3⟩ := hkey x hx
    rw [hxk] at h1
    cases h1
    rw [hxk]
    have hwf : (Lit.int .i64 k).wf = true := by
      have h4 : IntKind.i64.min = -9223372036854775808 := rfl
      have h5 : IntKind.i64.max = 9223372036854775807 := rfl
      show (decide (IntKind.i64.min ≤ k) && decide (k ≤ IntKind.i64.max)) = true
      rw [h4, h5, Bool.and_eq_true, decide_eq_true_eq, decide_eq_true_eq]
      omega
    simp [keyOf, mapKey, Tryz.underlying3, hwf]
  have F : Fit Tryz.prog 3 readH es' clock := ⟨by rw [hlen]; exact Nat.le_trans hl (by decide), hss, fun x hx => by
    obtain ⟨s, h1, h2⟩ := hkey x hx
    exact ⟨_, by unfold WideElems.rd; rw [hko x hx s h1]; rfl⟩⟩
  refine ⟨es'.size, _, ⟨es', clock, hb, F, Nat.le_refl _, rfl⟩, ?_, ?_⟩
  · refine ((sorted_perm _).map _).trans ?_
    have e2 : es'.toList.map (fun x => match x.key with | .int _ k => k | _ => 0) = ids hs := by
      have := congrArg (List.map fun q : Value × Value => match q.1 with | .int _ k => k | _ => 0) he
      rw [List.map_map, List.map_map] at this
      simp only [entH, List.map_map] at this
      exact this
    rw [← e2, List.map_map]
    refine List.Perm.of_eq (List.map_congr_left fun x hx => ?_)
    obtain ⟨s, h1, h2⟩ := hkey x hx
    simp only [Function.comp]
    unfold WideElems.rg WideElems.rd
    rw [hko x hx s h1, h1]
    rfl
  · show ((es'.toList.map (WideElems.rg Tryz.prog 3 readH)).foldr DataW.insert []).length = _
    rw [(sorted_perm _).length_eq, List.length_map, Array.length_toList, hlen]
section
variable {w : World} {F : Nat → Prop} {c : Sy} {s : St}
set_option maxRecDepth 1000000 in
theorem sys_All (h : Sys w F c s) :
    Calls Tryz.prog 25 #[ptrV c.tb] w fun e w' => ∃ v, e = .returned v ∧ w'.ownsRow w.heap.size 3 1 v s.hs.length ((sortI (ids s.hs)).map encZ) ∧ Below w.heap.size w w' := by
  obtain ⟨Ft, Fp, Fh, h, hF⟩ := h
  obtain ⟨lab, mb, mem, v, ht, hFh⟩ := h.tab
  have hi := isNil_no ht
  have hfew : s.hs.length ≤ 100000 := by have := ht.num.cnt; have := ht.num.few; unfold ids at *; rw [List.length_map] at *; omega
  have hk : ∀ p ∈ s.hs, 1 ≤ p.1 ∧ p.1 ≤ 100000 := fun p hp => by
    have := (ht.num.all p.1).2 (.inl (List.mem_map.2 ⟨p, hp, rfl⟩))
    have := ht.num.few
    omega
  obtain ⟨nn, D0, hown, hperm, hsz⟩ := entH_owns ht.map hk hfew
  have t2 := ht.num.at_.blk.cell (i := 2) rfl
  have hlt := ht.num.at_.blk.lt
  have hbl := hown.lt
  have hseq : SeqGives Fence.wide 2 Tryz.prog 133 #[.pointer (some ⟨w.heap.size, 0, none⟩)] encZ (fun ss => ss.Perm (intKeys D0)) (Maps.size D0) (w.alloc (.cells #[.map (some mb)] 134)) :=
    AnyZI.keys_gives (ρ := Tryz.keysI_ren) { Tryz.keysI with } Fence.wide _ trivial rfl (by omega) w.heap.size mb nn D0 _ (by simp) (by simp) (by
      obtain ⟨es, clock, hb, Ft, hs, hD⟩ := hown
      exact ⟨es, clock, (Below.heap_alloc _ _ mb hbl).trans hb, Ft, hs, hD⟩)
  have cK : ∀ mb W, CallsIn Fence.wide 5 Tryz.prog 87 #[.map mb] W fun e w' => e = .returned (.func (.func 133) #[] #[.pointer (some ⟨W.heap.size, 0, none⟩)]) ∧ w' = W.alloc (.cells #[.map mb] 134) := fun mb W => AnyZI.keys_in Tryz.keysI Fence.wide 5 trivial rfl mb W
  have cS := AnyZI.sorted_in Tryz.sortedI Fence.wide 5 trivial trivial trivial trivial rfl (by omega) (Tryz.sortsI _) (enters_of Tryz.func132 (by kernel_rfl) rfl) 133 #[.pointer (some ⟨w.heap.size, 0, none⟩)] trivial (enters_of Tryz.func133 (by kernel_rfl) rfl) _ _ (by rw [hsz]; exact Nat.le_trans hfew (by decide)) (by rw [hsz]; omega) _ hseq
  change CallsIn _ _ Tryz.prog 86 _ _ _ at cS
  have hln : ∀ ss : List Int, ss.Perm (intKeys D0) → ss.length = s.hs.length := fun ss hp => by
    have := (hp.trans hperm).length_eq
    simpa [ids] using this
  have hfin : ∀ ss : List Int, ss.Perm (intKeys D0) → (ss.mergeSort fun x y => decide (x ≤ y)) = sortI (ids s.hs) := fun ss hp => mergeSort_of_perm_i (hp.trans hperm)
  replace hln := Lib.hid hln
  replace hfin := Lib.hid hfin
  unfold ptrV at hi ⊢
  clear h ht hk hfew hperm hsz hown hF hFh hseq
  refine (callsIn_wide (n := 6)).1 ?_
  have hfK : Fence.wide.fn 87 := trivial
  have hfS : Fence.wide.fn 86 := trivial
  have hfN : Fence.wide.fn 85 := trivial
  have hi' := (callsIn_wide (n := 5)).2 hi
  refine callsIn_of_wp Tryz.func25 rfl trivial ?_ rfl
  simp only [Tryz.ntmps25, List.size_toArray, List.length_cons, List.length_nil, Nat.reduceAdd, Nat.reduceSub, Array.replicate_succ, Array.replicate_zero, List.push_toArray, List.append_toArray, List.nil_append, List.cons_append]
  gi_wp2_with (first
    | (gi_at_call 85; refine hi'.mono ?_; rintro e w' ⟨rfl, hw⟩; obtain rfl := hw.symm)
    | (gi_at_call 87; refine (cK _ _).mono ?_; rintro e w' ⟨rfl, rfl⟩)
    | (gi_at_call 86; refine cS.mono ?_; rintro e w' ⟨v, ss, rfl, hS, hrow, hnil, hb⟩))
  go_ret
  rw [hfin.out ss hS, hln.out ss hS] at hrow
  exact ⟨v, rfl, ownsRow_base_a hrow (by simp), ((Below.refl _ w).alloc (Nat.le_refl _) _).trans (hb.mono (by simp))⟩
end
end Go.Proofs.YtfofpphnglhopaaGreatDoor
namespace Go.Proofs.YtfofpphnglhopaaGreatDoor
open Go Go.RowKit Go.ChangeMaps
theorem below_of_grown {w w' : World} (g : w.grownBy w' none) : Below w.heap.size w w' := ⟨g.os, g.tape, g.output, g.size, fun b hb => g.block b hb (by simp)⟩
theorem below_tr {B : Nat} {w w' w'' : World} (h : Below B w w') (k : Below B w' w'') : Below B w w'' := h.trans k
theorem below_none {w w' : World} (h : Below w.heap.size w w') : w.grownBy w' none := ⟨h.os, h.tape, h.output, h.size, fun b hb _ => h.block b hb⟩
theorem lawLeaves_any (l : List Opd) (v : Value) (w : World) (h : Ops w v l) :
    Calls Tryz.prog 5 #[v] w fun e w' => e = .returned (.bool true) ∧ w.grownBy w' none := by
  have hfew := few_any l v w w h (fun _ _ => rfl) (Nat.le_refl _)
  obtain ⟨A, c, rfl, hc, hcm⟩ := h.form
  unfold maxLen at hcm
  have haw := fun W => awake9_any W
  by_cases hf : fewB l = true
  · rw [hf] at hfew
    have hl50 := (few_true hf).1
    have hops := h
    replace hops := Lib.hid hops
    have hin : ∀ k (hk : k < l.length), In4 l[k] := fun k hk => h.2 _ (List.getElem_mem hk)
    replace hin := Lib.hid hin
    have hbg : Calls Tryz.prog 17 #[.int .i64 1000] w _ := begun9_any 1000 (by decide) w
    have hq100 : ∀ k (hk : k < l.length), l[k].2.2.2.2.2.1.size ≤ 100 ∧ l[k].2.2.2.2.2.2.size ≤ 100 := fun k hk => (few_true hf).2 k hk
    replace hq100 := Lib.hid hq100
    clear h hf
    obtain ⟨KL, hKL⟩ : ∃ KL, l.length = KL := ⟨_, rfl⟩
    rw [hKL] at hc hl50 hfew hops ⊢
    replace hKL := Lib.hid hKL
    replace haw := Lib.hid haw
    replace hbg := Lib.hid hbg
    go_enter Tryz.func5, Tryz.ntmps5
    go_wp2_with fail
    refine hfew.mono ?_
    rintro e w' ⟨rfl, hw⟩
    obtain rfl := hw.symm
    clear hfew hw
    go_wp2_with fail
    refine hbg.out.mono ?_
    rintro e w0 ⟨fb, plb, tb, lb, pb, bb, ppb, rfl, F0, hP0, cc0⟩
    have g0 : w.grownBy w0 none := cc0.none (fun _ _ h => h)
    clear hbg
    unfold ptrV
    go_upto_region 4 with fail
    have gA : w0.grownBy (w0.alloc (.cells #[.pointer (some ⟨fb, 0, none⟩), .pointer (some ⟨plb, 0, none⟩), .pointer (some ⟨tb, 0, none⟩), .pointer (some ⟨lb, 0, none⟩), .pointer (some ⟨pb, 0, none⟩)] 48)) none := World.grownBy_alloc w0 _ _
    have zb : Blk (w0.alloc (.cells #[.pointer (some ⟨fb, 0, none⟩), .pointer (some ⟨plb, 0, none⟩), .pointer (some ⟨tb, 0, none⟩), .pointer (some ⟨lb, 0, none⟩), .pointer (some ⟨pb, 0, none⟩)] 48)) w0.heap.size [.pointer (some ⟨fb, 0, none⟩), .pointer (some ⟨plb, 0, none⟩), .pointer (some ⟨tb, 0, none⟩), .pointer (some ⟨lb, 0, none⟩), .pointer (some ⟨pb, 0, none⟩)] 48 := Blk.new w0 _ _
    generalize (w0.alloc (.cells #[.pointer (some ⟨fb, 0, none⟩), .pointer (some ⟨plb, 0, none⟩), .pointer (some ⟨tb, 0, none⟩), .pointer (some ⟨lb, 0, none⟩), .pointer (some ⟨pb, 0, none⟩)] 48)) = w1 at gA zb ⊢
    obtain ⟨z, hz⟩ : ∃ z, w0.heap.size = z := ⟨_, rfl⟩
    simp only [hz] at zb ⊢
    have g1 := grownBy_tr g0 gA
    obtain ⟨hP1, cP1⟩ := hP0.grown gA
    have kz1 : Hid (Kq w1 F0 pb z [.pointer (some ⟨fb, 0, none⟩), .pointer (some ⟨plb, 0, none⟩), .pointer (some ⟨tb, 0, none⟩), .pointer (some ⟨lb, 0, none⟩), .pointer (some ⟨pb, 0, none⟩)] 48) := Lib.hid ⟨zb, fun h => by have := hP0.sys.lt h; omega, by have := hP0.prc.lt; omega, nl_world⟩
    have hI1 := Lib.hid (begunI hP1)
    obtain ⟨B, hBE⟩ : ∃ B, w.heap.size = B := ⟨_, rfl⟩
    have bl1 : Hid (Below B w w1) := Lib.hid (by rw [← hBE]; exact below_of_grown g1)
    rw [hBE] at hI1
    replace hBE := Lib.hid hBE
    clear hP0 cc0 gA g0 g1 hP1 cP1 zb hz
    go_wp2
    go_loopw [5] (fun nv wr => ∃ (n : Nat) (F : Nat → Prop) (s : St) (ps : List Pt) (ns : Nts) (mk : List Nat), n ≤ KL ∧ nv = .int .i64 (n : Int) ∧ Hid (PI wr B F (c9 fb plb tb) pb lb 1000 4 s ps ns mk (3 * n + 10)) ∧ Hid (Kq wr F pb z [.pointer (some ⟨fb, 0, none⟩), .pointer (some ⟨plb, 0, none⟩), .pointer (some ⟨tb, 0, none⟩), .pointer (some ⟨lb, 0, none⟩), .pointer (some ⟨pb, 0, none⟩)] 48) ∧ Hid (Below B w wr)) (fun nv _ => KL - (intOf nv).toNat)
    case atStart => exact ⟨0, F0, _, _, _, _, Nat.zero_le _, rfl, hI1, kz1, bl1⟩
    case round =>
      clear hI1 kz1 bl1
      obtain ⟨n, F, s, ps, ns, mk, hn, rfl, hI, kz, bl⟩ := hrel
      have hbw := bl.out.block
      by_cases hlt : n < KL
      · have hlt' : n < l.length := by rw [hKL.out]; exact hlt
        obtain ⟨b, off, rfl, hb, c0, c1, c2, c3, c4, c5, c6⟩ := ops_keep hops.out (wr := wr) (fun g hg => hbw g (by rw [← hBE.out]; exact hg)) n hlt'
        obtain ⟨hg1, hg2⟩ := hI.out.r.grown (grownBy_drewN (grownBy_re wr) 1)
        have hI2 : PI (wr.drewN 1) B F (c9 fb plb tb) pb lb 1000 4 s ps ns mk (3 * n + 10) := ⟨hg1, hI.out.i, hI.out.l, hI.out.m, hI.out.n, hI.out.cm, hI.out.cr⟩
        have hdo := does_any hI2 (by omega) plb l[n] (hin.out n hlt') (hq100.out n hlt').1 (hq100.out n hlt').2
        have hnext := fun (er : Int) (w' : World) (h : PDid B F (c9 fb plb tb) pb lb 1000 4 ps ns mk (3 * n + 10 + 3) (wr.drewN 1) (askP l[n].1) er w') => PDid.next hI2 (by omega) h
        have hbB : b < B := by rw [← hBE.out]; exact hb
        have hbr : b < wr.heap.size := Nat.lt_of_lt_of_le hbB hI.out.r.hB
        unfold opV at hdo
        obtain ⟨aq, haq⟩ : ∃ aq, askP l[n].1 = aq := ⟨_, rfl⟩
        rw [haq] at hdo hnext
        clear haq
        generalize l[n].1 = q0 at hdo c0
        generalize l[n].2.1 = q1 at hdo c1
        generalize l[n].2.2.1 = q2 at hdo c2
        generalize l[n].2.2.2.1 = q3 at hdo c3
        generalize l[n].2.2.2.2.1 = q4 at hdo c4
        generalize l[n].2.2.2.2.2.1 = q5 at hdo c5
        generalize l[n].2.2.2.2.2.2 = q6 at hdo c6
        unfold ptrV at hdo
        have z0 := kz.out.1.cell (i := 0) rfl
        have z1 := kz.out.1.cell (i := 1) rfl
        have z2 := kz.out.1.cell (i := 2) rfl
        have z3 := kz.out.1.cell (i := 3) rfl
        have z4 := kz.out.1.cell (i := 4) rfl
        have hzl := kz.out.1.lt
        have hkp : ∀ w' F', PCh B F F' pb wr w' → w'.cell? ⟨z, 0, none⟩ = some (.pointer (some ⟨fb, 0, none⟩)) ∧ w'.cell? ⟨z, 1, none⟩ = some (.pointer (some ⟨plb, 0, none⟩)) ∧ w'.cell? ⟨z, 2, none⟩ = some (.pointer (some ⟨tb, 0, none⟩)) ∧ w'.cell? ⟨z, 3, none⟩ = some (.pointer (some ⟨lb, 0, none⟩)) ∧ w'.cell? ⟨z, 4, none⟩ = some (.pointer (some ⟨pb, 0, none⟩)) ∧ w'.cell? ⟨b, off + n * 7, none⟩ = some (.int .i64 q0) ∧ w'.cell? ⟨b, off + n * 7 + 1, none⟩ = some (.int .i64 q1) ∧ w'.cell? ⟨b, off + n * 7 + 2, none⟩ = some (.int .i64 q2) ∧ w'.cell? ⟨b, off + n * 7 + 3, none⟩ = some (.int .i64 q3) ∧ w'.cell? ⟨b, off + n * 7 + 4, none⟩ = some (.int .i64 q4) ∧ w'.cell? ⟨b, off + n * 7 + 5, none⟩ = some (.string q5) ∧ w'.cell? ⟨b, off + n * 7 + 6, none⟩ = some (.string q6) := fun w' F' hC => by
          have hz := (kz.out.ch hC).1
          have hb' := hC.low b hbB
          exact ⟨hz.cell (i := 0) rfl, hz.cell (i := 1) rfl, hz.cell (i := 2) rfl, hz.cell (i := 3) rfl, hz.cell (i := 4) rfl, (World.cell?_of_block (a := ⟨b, off + n * 7, none⟩) hb').trans c0, (World.cell?_of_block (a := ⟨b, off + n * 7 + 1, none⟩) hb').trans c1, (World.cell?_of_block (a := ⟨b, off + n * 7 + 2, none⟩) hb').trans c2, (World.cell?_of_block (a := ⟨b, off + n * 7 + 3, none⟩) hb').trans c3, (World.cell?_of_block (a := ⟨b, off + n * 7 + 4, none⟩) hb').trans c4, (World.cell?_of_block (a := ⟨b, off + n * 7 + 5, none⟩) hb').trans c5, (World.cell?_of_block (a := ⟨b, off + n * 7 + 6, none⟩) hb').trans c6⟩
        replace hkp := Lib.hid hkp
        replace hdo := Lib.hid hdo
        replace hnext := Lib.hid hnext
        replace hg2 := Lib.hid hg2
        clear hg1 hI2
        have hi0 : (0 : Int) ≤ (n : Int) := by omega
        have hi1 : (n : Int) < (KL : Int) := by omega
        go_upto_region 9 with fail
        go_region_held3 (fun w' => w'.cell? ⟨z, 0, none⟩ = some (.pointer (some ⟨fb, 0, none⟩)) ∧ w'.cell? ⟨z, 1, none⟩ = some (.pointer (some ⟨plb, 0, none⟩)) ∧ w'.cell? ⟨z, 2, none⟩ = some (.pointer (some ⟨tb, 0, none⟩)) ∧ w'.cell? ⟨z, 3, none⟩ = some (.pointer (some ⟨lb, 0, none⟩)) ∧ w'.cell? ⟨z, 4, none⟩ = some (.pointer (some ⟨pb, 0, none⟩)) ∧ w'.cell? ⟨b, off + n * 7, none⟩ = some (.int .i64 q0) ∧ w'.cell? ⟨b, off + n * 7 + 1, none⟩ = some (.int .i64 q1) ∧ w'.cell? ⟨b, off + n * 7 + 2, none⟩ = some (.int .i64 q2) ∧ w'.cell? ⟨b, off + n * 7 + 3, none⟩ = some (.int .i64 q3) ∧ w'.cell? ⟨b, off + n * 7 + 4, none⟩ = some (.int .i64 q4) ∧ w'.cell? ⟨b, off + n * 7 + 5, none⟩ = some (.string q5) ∧ w'.cell? ⟨b, off + n * 7 + 6, none⟩ = some (.string q6))
          (first | go_keep | exact hk)
          ((go_at_call 18; refine hdo.out.mono ?_; rintro e w5 ⟨rn, rS, rer, rfl, hdid⟩; obtain ⟨F5, s5, ps5, ns5, mk5, hI5, _, hC5, _, _⟩ := hnext.out rer w5 hdid; have cT := hg2.out.trans hC5; have hk := hkp.out w5 F5 cT; replace hI5 := Lib.hid hI5))
        have kz5 := Lib.hid (kz.out.ch cT)
        have bl5 := Lib.hid (below_tr bl.out cT.below)
        clear hk hkp hdo hC5 cT c0 c1 c2 c3 c4 c5 c6 hI kz bl z0 z1 z2 z3 z4 hbr hnext hdid hg2 hbw
        go_wp2
        go_roundw
        case rel => exact ⟨n + 1, F5, s5, ps5, ns5, mk5, by omega, by go_num, hI5, kz5, bl5⟩
        case measure => simp [intOf]; omega
      · obtain rfl : n = KL := by omega
        have hi1 : ¬ (n : Int) < (n : Int) := by omega
        obtain ⟨N, hN⟩ : ∃ N, 3 * n + 10 = N := ⟨_, rfl⟩
        have hNb : N ≤ 400 := by omega
        rw [hN] at hI
        replace hN := Lib.hid hN
        clear hops hin hq100 hbw hlt
        go_wp2
        go_loopw [40] (fun _ wx => ∃ (F : Nat → Prop) (s : St) (ps : List Pt) (ns : Nts) (mk : List Nat), Hid (PI wx B F (c9 fb plb tb) pb lb 1000 4 s ps ns mk N) ∧ Hid (Kq wx F pb z [.pointer (some ⟨fb, 0, none⟩), .pointer (some ⟨plb, 0, none⟩), .pointer (some ⟨tb, 0, none⟩), .pointer (some ⟨lb, 0, none⟩), .pointer (some ⟨pb, 0, none⟩)] 48) ∧ Hid (Below B w wx)) (fun _ wx => marksOf lb wx)
        case atStart => exact ⟨F, s, ps, ns, mk, hI, kz, bl⟩
        case round =>
          clear hI kz bl
          obtain ⟨F, s, ps, ns, mk, hI, kz, bl⟩ := hrel
          have hmk := pr_marks hI.out.r
          have z3 := kz.out.1.cell (i := 3) rfl
          have z4 := kz.out.1.cell (i := 4) rfl
          have hzl := kz.out.1.lt
          unfold ptrV at hmk
          by_cases hne : mk = []
          · subst hne
            have hns := hI.out.ns_nil
            subst hns
            go_wp2_with fail
            refine hmk.mono ?_
            rintro e w' ⟨rfl, hw⟩
            obtain rfl := hw.symm
            clear hmk hw z3 z4 hzl
            have hk0 : ¬ (0 : Int) < (([] : List Nat).length : Int) := by simp
            have hsh0 : Hid (Shut 0 ps) := Lib.hid (fun i p h => absurd h (Nat.not_lt_zero i))
            go_wp2
            go_loopw [6] (fun jv wr => ∃ (j : Nat) (F : Nat → Prop) (s : St) (ps : List Pt), j ≤ 16 ∧ jv = .int .i64 (j : Int) ∧ Hid (PI wr B F (c9 fb plb tb) pb lb 1000 4 s ps [] [] N) ∧ Hid (Shut j ps) ∧ Hid (Kq wr F pb z [.pointer (some ⟨fb, 0, none⟩), .pointer (some ⟨plb, 0, none⟩), .pointer (some ⟨tb, 0, none⟩), .pointer (some ⟨lb, 0, none⟩), .pointer (some ⟨pb, 0, none⟩)] 48) ∧ Hid (Below B w wr)) (fun jv _ => 16 - (intOf jv).toNat)
            case atStart => exact ⟨0, F, s, ps, Nat.zero_le _, rfl, hI, hsh0, kz, bl⟩
            case round =>
              clear hI kz bl hsh0
              obtain ⟨j, F, s, ps, hj, rfl, hI, hsh, kz, bl⟩ := hrel
              have z2 := kz.out.1.cell (i := 2) rfl
              have z4 := kz.out.1.cell (i := 4) rfl
              have hzl := kz.out.1.lt
              by_cases hj16 : j < 16
              · have j1 : (j : Int) < 16 := by omega
                have hcl := hI.out.close (by omega) hj16
                unfold ptrV at hcl
                go_wp2_with fail
                refine hcl.mono ?_
                rintro e w5 ⟨rfl, F5, s5, hI5, hC5⟩
                have kz5 := Lib.hid (kz.out.ch hC5)
                have bl5 := Lib.hid (below_tr bl.out hC5.below)
                have hsh5 := Lib.hid hsh.out.set
                replace hI5 := Lib.hid hI5
                clear hcl hC5 hI kz bl hsh z2 z4 hzl
                go_wp2
                go_roundw
                case rel => exact ⟨j + 1, F5, s5, _, by omega, by go_num, hI5, hsh5, kz5, bl5⟩
                case measure => simp [intOf]; omega
              · obtain rfl : j = 16 := by omega
                have j1 : ¬ ((16 : Nat) : Int) < 16 := by omega
                obtain ⟨hleft, hlen4, hnof⟩ := hI.out.left hsh.out
                have hal := Lib.hid (sys_All hI.out.r.sys)
                unfold ptrV at hal
                obtain ⟨wq, rfl⟩ : ∃ x, x = wr := ⟨_, rfl⟩
                replace hleft := Lib.hid hleft
                replace hnof := Lib.hid hnof
                go_wp2_with fail
                refine hal.out.mono ?_
                rintro e w7 ⟨va, rfl, hrow, hbl⟩
                have g7 := grown_of_below hbl
                obtain ⟨AA, ca, rfl, hca, hcam⟩ := hown_form hrow
                have hperm : (sortI (ids s.hs)).Perm (ids s.hs) := List.mergeSort_perm _ _
                have hlen : (sortI (ids s.hs)).length = 4 := by rw [hperm.length_eq]; unfold ids; rw [List.length_map]; exact hlen4
                have hlook : ∀ k (hk : k < (sortI (ids s.hs)).length), ∃ x, look s.hs (sortI (ids s.hs))[k] = some x := fun k hk => by
                  have : (sortI (ids s.hs))[k] ∈ ids s.hs := hperm.mem_iff.1 (List.getElem_mem hk)
                  obtain ⟨p, hp, hpe⟩ := List.mem_map.1 this
                  exact ⟨p.2, by rw [← hpe]; exact look_of_mem hI.out.r.sys.hsd hp⟩
                rw [hlen4] at hrow hca ⊢
                obtain ⟨ga, hAA, hga1, hga2, hgac⟩ := hown_at hrow (by decide)
                subst hAA
                have hcell : ∀ (k : Nat) (hk : k < (sortI (ids s.hs)).length), w7.cell? ⟨ga, k, none⟩ = some (.int .i64 (sortI (ids s.hs))[k]) := fun k hk => hgac k _ (by rw [List.getElem?_map, List.getElem?_eq_getElem hk]; rfl)
                generalize sortI (ids s.hs) = sl at hlen hlook hcell
                obtain ⟨d, hd⟩ := hI.out.r.part (show 16 < 18 by omega)
                have hdirE : ∀ n : Int, total (nF n) s.hs + (if (look s.nds n).isSome = true then Du ps [] n else 0) = b1 (d.v = n) := fun n => by
                  rw [hnof.out n]
                  have hD : Du ps [] n = b1 (d.v = n) := by
                    show dirQ n ps + 0 = _
                    unfold dirQ
                    rw [hd]
                    rfl
                  by_cases hs : (look s.nds n).isSome = true
                  · rw [if_pos hs, hD, Nat.zero_add]
                  · rw [if_neg hs]
                    have : ¬ 0 < Du ps [] n := fun h => hs (by obtain ⟨y, hy⟩ := hI.out.i.dir n h; rw [hy]; rfl)
                    omega
                have hz7 : Blk w7 z [.pointer (some ⟨fb, 0, none⟩), .pointer (some ⟨plb, 0, none⟩), .pointer (some ⟨tb, 0, none⟩), .pointer (some ⟨lb, 0, none⟩), .pointer (some ⟨pb, 0, none⟩)] 48 := (g7.block z hzl (by simp)).trans kz.out.1
                have hwq : w.grownBy wq none := below_none (by rw [hBE.out]; exact bl.out)
                have hw7 := Lib.hid (grownBy_tr hwq g7)
                have hP7 := fun (W : World) (hW : w7.grownBy W none) => (hI.out.r.grown (grownBy_tr g7 hW)).1
                have hSt := fun (W : World) (hW : w7.grownBy W none) (k : Int) (x : Hd) (hx : look s.hs k = some x) => op_Stat (hI.out.r.sys.grown (grownBy_tr g7 hW)) hI.out.i.good hI.out.i.bnd (by omega) hx
                have hNs := fun (W : World) (hW : w7.grownBy W none) (j : Int) => sys_nstat (hI.out.r.sys.grown (grownBy_tr g7 hW)) hI.out.i.good j
                replace hlook := Lib.hid hlook
                replace hcell := Lib.hid hcell
                replace hdirE := Lib.hid hdirE
                replace hz7 := Lib.hid hz7
                replace hP7 := Lib.hid hP7
                replace hSt := Lib.hid hSt
                replace hNs := Lib.hid hNs
                replace hd := Lib.hid hd
                replace hlen := Lib.hid hlen
                clear hal hI kz bl hsh z2 z4 hzl hrow hbl hgac hperm g7 hwq hlen4 hnof hBE j1
                unfold maxLen at hcam
                go_wp2
                go_loopw [8] (fun kv wr => ∃ k : Nat, k ≤ 4 ∧ kv = .int .i64 (k : Int) ∧ Hid (w7.grownBy wr none)) (fun kv _ => 4 - (intOf kv).toNat)
                case atStart => exact ⟨0, Nat.zero_le _, rfl, Lib.hid (grownBy_re _)⟩
                case round =>
                  obtain ⟨k, hk, rfl, hgr⟩ := hrel
                  have hzr : Blk wr z [.pointer (some ⟨fb, 0, none⟩), .pointer (some ⟨plb, 0, none⟩), .pointer (some ⟨tb, 0, none⟩), .pointer (some ⟨lb, 0, none⟩), .pointer (some ⟨pb, 0, none⟩)] 48 := (hgr.out.block z hz7.out.lt (by simp)).trans hz7.out
                  by_cases hk4 : k < 4
                  · have hks : k < sl.length := by rw [hlen.out]; exact hk4
                    obtain ⟨x, hx⟩ := hlook.out k hks
                    obtain ⟨hid1, hid4, hx1⟩ := hleft.out _ x hx
                    have ci : wr.cell? ⟨ga, k, none⟩ = some (.int .i64 sl[k]) := (World.cell?_of_block (a := ⟨ga, k, none⟩) (hgr.out.block ga hga2 (by simp))).trans (hcell.out k hks)
                    have hst := fun (W : World) (hW : wr.grownBy W none) => hSt.out W (grownBy_tr hgr.out hW) sl[k] x hx
                    have z2 := hzr.cell (i := 2) rfl
                    have hzl := hzr.lt
                    have hgal : ga < wr.heap.size := Nat.lt_of_lt_of_le hga2 hgr.out.size
                    have hi0 : (0 : Int) ≤ (k : Int) := by omega
                    have hi1' : (k : Int) < 4 := by omega
                    unfold ptrV at hst
                    have hgw : ga ≠ wr.heap.size := by omega
                    have hgw' : wr.heap.size ≠ ga := by omega
                    have hzw : z ≠ wr.heap.size := by omega
                    have hzw' : wr.heap.size ≠ z := by omega
                    replace hst := Lib.hid hst
                    replace hx := Lib.hid hx
                    obtain ⟨id, hid⟩ : ∃ id, sl[k] = id := ⟨_, rfl⟩
                    rw [hid] at ci hst hid4 hx
                    replace hid := Lib.hid hid
                    clear hid1 hzr
                    replace hx1 := Lib.hid hx1
                    obtain ⟨wp, rfl⟩ : ∃ x, x = wr := ⟨_, rfl⟩
                    go_upto_region 22 with fail
                    go_cut [9, 10] from 63 to 72 (fun t11 t12 wx => ∃ (zi a : Nat) (r1 w1 m1 : Bool), t11 = .pointer (some ⟨zi, 0, none⟩) ∧ t12 = .int .i64 0 ∧ wp.heap.size ≤ zi ∧ Hid (wp.grownBy wx none) ∧ Blk wx zi [.int .i64 (kindOf x), .int .i64 (x.refs : Int), .int .i64 (a : Int), .int .i64 (nodeOf x), .bool r1, .bool w1, .bool m1] 64)
                    case first =>
                      have gW : wp.grownBy ((wp.alloc (.cells #[.int .i64 0, .int .i64 0, .int .i64 0, .int .i64 0, .bool false, .bool false, .bool false] 64)).drew) none := grownBy_drewN (World.grownBy_alloc wp _ _) 1
                      have bz : Blk ((wp.alloc (.cells #[.int .i64 0, .int .i64 0, .int .i64 0, .int .i64 0, .bool false, .bool false, .bool false] 64)).drew) wp.heap.size [.int .i64 0, .int .i64 0, .int .i64 0, .int .i64 0, .bool false, .bool false, .bool false] 64 := Blk.new wp _ _
                      have hst1 := Lib.hid (hst.out _ gW)
                      have g0 : wp.grownBy wp.drew none := grownBy_drewN (grownBy_re wp) 1
                      have hst0 := Lib.hid (hst.out _ g0)
                      have hkk2 : ∀ w', wp.grownBy w' none → w'.cell? ⟨z, 2, none⟩ = some (.pointer (some ⟨tb, 0, none⟩)) ∧ w'.cell? ⟨ga, k, none⟩ = some (.int .i64 id) := fun w' hg => ⟨(World.cell?_of_block (a := ⟨z, 2, none⟩) (hg.block z hzl (by simp))).trans z2, (World.cell?_of_block (a := ⟨ga, k, none⟩) (hg.block ga hgal (by simp))).trans ci⟩
                      replace hkk2 := Lib.hid hkk2
                      replace gW := Lib.hid gW
                      replace g0 := Lib.hid g0
                      replace bz := Lib.hid bz
                      unfold info7 at hst1 hst0
                      go_region_held3 (fun w' => w'.cell? ⟨z, 2, none⟩ = some (.pointer (some ⟨tb, 0, none⟩)) ∧ w'.cell? ⟨ga, k, none⟩ = some (.int .i64 id))
                        (first | go_keep | exact hkk)
                        (first
                          | (go_at_call 26; refine hst1.out.mono ?_; rintro e w5 ⟨a, r1, w1, m1, rfl, gB⟩; have gC := grownBy_tr gW.out gB; have b5 : Blk w5 wp.heap.size _ _ := (gB.block _ bz.out.lt (by simp)).trans bz.out; have y0 := b5.cell (i := 0) rfl; have y1 := b5.cell (i := 1) rfl; have y2 := b5.cell (i := 2) rfl; have y3 := b5.cell (i := 3) rfl; have y4 := b5.cell (i := 4) rfl; have y5 := b5.cell (i := 5) rfl; have y6 := b5.cell (i := 6) rfl; have u0 := b5.frozen 0; have u1 := b5.frozen 1; have u2 := b5.frozen 2; have u3 := b5.frozen 3; have u4 := b5.frozen 4; have u5 := b5.frozen 5; have u6 := b5.frozen 6; have hkk := hkk2.out w5 gC)
                          | (go_at_call 26; refine hst0.out.mono ?_; rintro e w5 ⟨a, r1, w1, m1, rfl, gB⟩; have gC := grownBy_tr g0.out gB; have hkk := hkk2.out w5 gC))
                      all_goals (go_wp2_with fail)
                      all_goals go_meet
                      · exact ⟨w5.heap.size, a, r1, w1, m1, rfl, rfl, gC.size, Lib.hid (grownBy_tr gC (World.grownBy_alloc w5 _ _)), Blk.new w5 _ _⟩
                      · exact ⟨wp.heap.size, a, r1, w1, m1, rfl, rfl, Nat.le_refl _, Lib.hid (grown_setNew (grown_setNew (grown_setNew (grown_setNew (grown_setNew (grown_setNew (grown_setNew gC (Nat.le_refl _) 0 _) (Nat.le_refl _) 1 _) (Nat.le_refl _) 2 _) (Nat.le_refl _) 3 _) (Nat.le_refl _) 4 _) (Nat.le_refl _) 5 _) (Nat.le_refl _) 6 _), ((((((b5.set 0 _).set 1 _).set 2 _).set 3 _).set 4 _).set 5 _).set 6 _⟩
                    case rest =>
                      obtain ⟨zi, a, r1, w1', m1, rfl, rfl, hzi, gX, bX⟩ := hcut
                      rw [hx1.out] at bX
                      have y1 : wc.cell? ⟨zi, 1, none⟩ = some (.int .i64 1) := bX.cell (i := 1) rfl
                      have hzil := bX.lt
                      have cx : wc.cell? ⟨ga, k, none⟩ = some (.int .i64 id) := (World.cell?_of_block (a := ⟨ga, k, none⟩) (gX.out.block ga hgal (by simp))).trans ci
                      have hgx : ga < wc.heap.size := Nat.lt_of_lt_of_le hgal gX.out.size
                      have hgrX := Lib.hid (grownBy_tr hgr.out gX.out)
                      have hid4' : ¬ (4 : Int) < id := by omega
                      clear bX gX hst z2 hzl ci hgal hgw hgw' hzw hzw' hgr hid4
                      go_wp2
                      go_roundw
                      case rel => exact ⟨k + 1, by omega, by go_num, hgrX⟩
                      case measure => simp [intOf]; omega
                  · obtain rfl : k = 4 := by omega
                    have hi1' : ¬ ((4 : Nat) : Int) < 4 := by omega
                    obtain ⟨wv, rfl⟩ : ∃ x, x = wr := ⟨_, rfl⟩
                    go_wp2
                    go_loopw [11] (fun jv wr => ∃ j : Nat, 1 ≤ j ∧ j ≤ 13 ∧ jv = .int .i64 (j : Int) ∧ Hid (w7.grownBy wr none)) (fun jv _ => 13 - (intOf jv).toNat)
                    case atStart => exact ⟨1, Nat.le_refl _, by decide, rfl, hgr⟩
                    case round =>
                      clear hgr hzr
                      obtain ⟨j, hj1, hj13, rfl, hgr⟩ := hrel
                      have hzr : Blk wr z [.pointer (some ⟨fb, 0, none⟩), .pointer (some ⟨plb, 0, none⟩), .pointer (some ⟨tb, 0, none⟩), .pointer (some ⟨lb, 0, none⟩), .pointer (some ⟨pb, 0, none⟩)] 48 := (hgr.out.block z hz7.out.lt (by simp)).trans hz7.out
                      have z0 := hzr.cell (i := 0) rfl
                      have z4 := hzr.cell (i := 4) rfl
                      have hzl := hzr.lt
                      by_cases hj12 : j ≤ 12
                      · have j1 : (j : Int) ≤ 12 := by omega
                        have hnx := hNs.out wr hgr.out (j : Int)
                        rw [hdirE.out] at hnx
                        unfold ptrV at hnx
                        go_wp2_with fail
                        refine hnx.mono ?_
                        rintro e w8 ⟨a, b', d', er, rfl, gB⟩
                        clear hnx z0 z4
                        go_upto_region 29 with fail
                        have g9 := grownBy_tr (w'' := (w8.alloc (.cells #[.int .i64 a, .int .i64 b', .int .i64 d', .int .i64 (b1 (d.v = (j : Int)) : Nat)] 68))) gB (World.grownBy_alloc w8 _ _)
                        have i9 : Blk (w8.alloc (.cells #[.int .i64 a, .int .i64 b', .int .i64 d', .int .i64 (b1 (d.v = (j : Int)) : Nat)] 68)) w8.heap.size [.int .i64 a, .int .i64 b', .int .i64 d', .int .i64 (b1 (d.v = (j : Int)) : Nat)] 68 := Blk.new w8 _ _
                        generalize (w8.alloc (.cells #[.int .i64 a, .int .i64 b', .int .i64 d', .int .i64 (b1 (d.v = (j : Int)) : Nat)] 68)) = w9 at g9 i9 ⊢
                        generalize w8.heap.size = zi at i9 ⊢
                        have hz9 : Blk w9 z [.pointer (some ⟨fb, 0, none⟩), .pointer (some ⟨plb, 0, none⟩), .pointer (some ⟨tb, 0, none⟩), .pointer (some ⟨lb, 0, none⟩), .pointer (some ⟨pb, 0, none⟩)] 48 := (g9.block z hzl (by simp)).trans hzr
                        have z4 := hz9.cell (i := 4) rfl
                        have hzl9 := hz9.lt
                        have g10 := grownBy_tr hgr.out g9
                        have hdi := PDir_any (hP7.out w9 g10).prc hd.out
                        have i3 := i9.cell (i := 3) rfl
                        have il := i9.lt
                        unfold ptrV at hdi
                        replace g10 := Lib.hid g10
                        clear gB g9 i9 hz9 hzr hzl hgr
                        go_wp2_with fail
                        refine hdi.mono ?_
                        rintro e w' ⟨rfl, hw⟩
                        obtain rfl := hw.symm
                        clear hdi hw
                        by_cases hjd : d.v = (j : Int)
                        · have e1 : b1 (d.v = (j : Int)) = 1 := if_pos hjd
                          rw [e1] at i3
                          rw [hjd]
                          clear e1 hjd
                          go_wp2
                          go_roundw
                          case rel => exact ⟨j + 1, by omega, by omega, by go_num, g10⟩
                          case measure => simp [intOf]; omega
                        · have e1 : b1 (d.v = (j : Int)) = 0 := if_neg hjd
                          rw [e1] at i3
                          have e2 : ((j : Int) == d.v) = false := by rw [beq_eq_false_iff_ne]; exact fun e => hjd e.symm
                          clear e1 hjd
                          go_wp2
                          go_roundw
                          case rel => exact ⟨j + 1, by omega, by omega, by go_num, g10⟩
                          case measure => simp [intOf]; omega
                      · obtain rfl : j = 13 := by omega
                        have j1 : ¬ ((13 : Nat) : Int) ≤ 12 := by omega
                        have hawx := Lib.hid (haw.out wr)
                        clear z0 z4 hzl hzr
                        go_wp2_with fail
                        refine hawx.out.mono ?_
                        rintro e w6 ⟨rfl, g6⟩
                        have gE := Lib.hid (grownBy_tr (grownBy_tr hw7.out hgr.out) g6)
                        clear hawx g6 hgr
                        go_wp2
                        go_ret
                        exact ⟨rfl, gE.out⟩
          · have hpos : (0 : Int) < (mk.length : Int) := by have := List.length_pos_iff.2 hne; omega
            have hun := hI.out.undo (by omega) hne
            unfold ptrV at hun
            go_wp2_with fail
            refine hmk.mono ?_
            rintro e w' ⟨rfl, hw⟩
            obtain rfl := hw.symm
            clear hmk hw
            go_wp2_with fail
            refine hun.mono ?_
            rintro e w5 ⟨rfl, F5, s5, ps5, ns5, mk5, hI5, hln, hC5, _⟩
            have kz5 := Lib.hid (kz.out.ch hC5)
            have bl5 := Lib.hid (below_tr bl.out hC5.below)
            have hmm : Hid (marksOf lb w5 < marksOf lb wr) := Lib.hid (by rw [hI5.r.marksOf, hI.out.r.marksOf]; omega)
            replace hI5 := Lib.hid hI5
            clear hun hC5 hI kz bl z3 z4 hzl hln hne hpos
            go_wp2
            go_roundw
            case rel => exact ⟨F5, s5, ps5, ns5, mk5, hI5, kz5, bl5⟩
            case measure => exact hmm.out
  · have hf' : fewB l = false := by cases h : fewB l; rfl; exact absurd h hf
    rw [hf'] at hfew
    have hawx := haw w
    clear h hf hf' haw
    go_enter Tryz.func5, Tryz.ntmps5
    go_wp2_with fail
    refine hfew.mono ?_
    rintro e w' ⟨rfl, hw⟩
    obtain rfl := hw.symm
    clear hfew hw
    go_wp2_with fail
    refine hawx.mono ?_
    rintro e w' ⟨rfl, hg⟩
    replace hg := Lib.hid hg
    clear hawx
    go_wp2
    go_ret
    exact ⟨rfl, hg.out⟩
end Go.Proofs.YtfofpphnglhopaaGreatDoor
namespace Go.Proofs.YtfofpphnglhopaaGreatDoor.lawLeaves
open Go Go.ChangeShapes Go.WideShapes Go.ChangeAt Go.RowKit
open Go.ChangeMaps (open_string shut_string)
theorem contract (H : Type) (enc : TypeId × Value → H) (W : World) (base : Nat) (args : Array Value) (ds gs : List (DataW H)) (before : List MemPlace)
    (hval : ∀ (j : Nat) t v, Tryz.f5.params[j]? = some t → args[j]? = some v → Value.okWide Tryz.prog W .any base t v)
    (hW : DataW.Whole enc Tryz.prog Tryz.f5.params.toList Rows.procLeavesSpec.vars false W args.toList ds gs before) :
    Calls Tryz.prog 5 args W fun e W' => ∃ v, e = .returned v ∧ Rows.procLeavesSpec.post enc Tryz.prog Tryz.f5 false true false false W args v W' := by
  have hW' := hW
  obtain ⟨p, q, hA0, hV, rfl, hfz, hnd⟩ := hW
  have hA : DataW.TrodAll enc Tryz.prog W 0 (fun _ => true) true Tryz.f5.params.toList args.toList ds p := hA0
  rw [Tryz.params5] at hA hval
  obtain ⟨v0, vs0, d0, ds0, p0, q0, hargs, rfl, rfl, h0, r0⟩ := trodAll_cons hA
  obtain ⟨rfl, rfl, rfl⟩ := trodAll_nil r0
  obtain rfl : args = #[v0] := by cases args; simp_all
  obtain ⟨rfl, rfl⟩ := trodVars_none hV
  clear hA0
  simp only [List.append_nil] at hW'
  have hlt : ∀ x ∈ p0, x.block < W.heap.size := fun x hx => by simpa using hW'.lt x (by simpa using hx)
  obtain ⟨l0, hl0⟩ := open_ops (hval 0 _ v0 rfl rfl) h0 (fun x hx => hlt x (by simp [hx]))
  have t0 := fun (W' : World) (hb : Below W.heap.size W W') => Below.trod rowOut (by kernel_rfl) (of_decide_eq_true (by kernel_rfl)) h0 hb (fun x hx => hlt x (by simp [hx]))
  have e1 : (Rows.procLeavesSpec.fn H ([d0] ++ [])).results = [.lit (.bool true)] := rfl
  have e2 : (Rows.procLeavesSpec.fn H ([d0] ++ [])).args = [d0] := rfl
  refine (lawLeaves_any l0 v0 W hl0).mono fun e W' ⟨he, hg⟩ => ?_
  have hb : Below W.heap.size W W' := ⟨hg.os, hg.tape, hg.output, hg.size, fun k hk => hg.block k hk (by simp)⟩
  subst he
  refine ⟨_, rfl, _, _, _, [], p0 ++ [], [], hW', ?_, ?_, rfl, hb.frame _, fun h => by cases h⟩
  · rw [e1]; exact trodAll_cons_mk (shut_bool Tryz.underlying4 _) trodAll_mk0
  · rw [e2]; exact trodAll_cons_mk (t0 _ hb) trodAll_mk0
theorem reads (os : Os) {H : Type} (enc : TypeId × Value → H) : ∃ places, DataW.whole enc Tryz.prog ((laidWorld os).forCall (fun _ _ => 0) ⟨#[], #[.slice none 0 0], []⟩).memory Tryz.f5.params.toList Rows.procLeavesSpec.vars false #[Value.slice none 0 0].toList 8 = some ([.nil], [], places) :=
  ⟨[], by kernel_rfl⟩
theorem lifted (os : Os) (started : os.Started) (H : Type) (enc : TypeId × Value → H) (F : Stop.Interp) :
    ReturnsInHanded {} Tryz.checked os 5 .any ((OpenSpec.ofChange Rows.procLeavesSpec).preRow enc Tryz.prog Tryz.f5 Rows.procLeavesRow.domain false Rows.procLeavesRow.laid) (((OpenSpec.ofChange Rows.procLeavesSpec).at F).post enc Tryz.prog Tryz.f5 false true false false) := by
  obtain ⟨places, hx⟩ := reads os enc
  refine returnsInHanded_of_row (C := Tryz.checked) (s := OpenSpec.ofChange Rows.procLeavesSpec) rowOwn started (by kernel_rfl) Tryz.func5
    (witness_row_at (enc := enc) (C := Tryz.checked) false (laidWorld os) #[.slice none 0 0] rfl (by kernel_rfl) (by kernel_rfl) (by kernel_rfl)
      (OpenSpec.preRow_of_cond 8 hx (by kernel_rfl) (fun k hk => by cases hk) (by kernel_rfl) (laid_met os _))) ?_
  intro W base args ds gs before hval hW _ _ _ _ _ _
  exact contract H enc W base args ds gs before hval hW
theorem said : Rows.ProcLeavesSaid :=
  OpenClaim.holds_of_cond 5 Tryz.f5 rfl rfl rfl rfl rfl rfl rfl ⟨rfl, rfl, rfl, rfl, rfl⟩ rfl rfl rfl rfl rfl (by kernel_rfl) Tryz.func5 (by kernel_rfl)
    (of_decide_eq_true (by kernel_rfl)) (by unfold Func.isWrapper; first | (rw [if_pos (by decide +kernel)]; kernel_rfl) | (rw [if_neg (by decide +kernel)]; exact ⟨rfl, rfl⟩))
    (fun os started H enc _ F => by rw [OpenClaim.pre_eq_preRow]; exact lifted os started H enc F)
theorem plain (f : FuncId) (fn : Func) (hf : Tryz.pinned.checked.prog.funcNamed "whelk/whelklaw09.ProcLeaves" = some f) (hfn : Tryz.pinned.checked.prog.funcs[f]? = some fn) :
    true = Tryz.pinned.checked.prog.looks [] ∧ ∀ (j : Nat) t, fn.params[j]? = some t → Tryz.pinned.checked.prog.wantsStandIn t = false := by
  obtain rfl : f = 5 := Option.some.inj ((show Tryz.prog.funcNamed "whelk/whelklaw09.ProcLeaves" = some 5 by kernel_rfl).symm.trans hf) |>.symm
  obtain rfl : fn = Tryz.f5 := (Option.some.inj (Tryz.func5.symm.trans hfn)).symm
  refine ⟨by kernel_rfl, fun j t ht => ?_⟩
  rw [Tryz.params5] at ht
  have hm : t ∈ [43] := by simpa using Array.mem_of_getElem? ht
  have hall : ([43].all fun u => !Tryz.prog.wantsStandIn u) = true := by kernel_rfl
  exact (show Tryz.prog.wantsStandIn t = false by simpa using List.all_eq_true.1 hall t hm)
theorem card : Rows.ProcLeavesCardSaid :=
  Claim7.holds_tied_plain_at .later [] _ _ _ _ said (fun _ h => by cases h) (by kernel_rfl) (fun _ h => by cases h) procLeaves_row_tie rfl ⟨rfl, rfl⟩ (by kernel_rfl) rfl plain (by kernel_rfl)
end Go.Proofs.YtfofpphnglhopaaGreatDoor.lawLeaves
