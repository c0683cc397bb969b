/-
  A part. Conditions: each theorem's own.
-/
import Derived.Test.YtfofpphnglhopaaGreatDoorZb0
import Derived.Test.YtfofpphnglhopaaGreatDoorZb9
import Derived.Test.YtfofpphnglhopaaGreatDoorZb11
import Derived.Test.YtfofpphnglhopaaGreatDoorZb12
import Derived.Test.YtfofpphnglhopaaGreatDoorZb16
import Derived.Test.YtfofpphnglhopaaGreatDoorZb19
set_option maxHeartbeats 8000000
set_option maxRecDepth 100000
namespace Go.Proofs.YtfofpphnglhopaaGreatDoor
open Go Go.RowKit Go.ChangeMaps
def r9 (l : List (ByteArray × Nat)) : Pn := { rootN l with holds := 1 }
def fl9 (h : Nat) (d : List UInt8) : Pn := ⟨2, 1, h, 0, d, none, ⟨#[]⟩⟩
def nlD : List (ByteArray × Nat) := [(nm1 100, 2), (nm1 97, 3), (nm1 108, 4), (nm1 102, 5)]
def nlE : List (ByteArray × Nat) := [(nm1 100, 2), (nm1 97, 3), (nm1 108, 4), (nm1 102, 5), (nm1 103, 6)]
def ndF (h : Nat) (d : List UInt8) : Nds := [(1, r9 nlD), (2, dirD), (3, leafN 2 [120, 121, 122]), (4, leafN 3 [100, 47, 98]), (5, fl9 h d)]
def ndG (h : Nat) (d : List UInt8) (g : Nat) : Nds := [(1, r9 nlE), (2, dirD), (3, leafN 2 [120, 121, 122]), (4, leafN 3 [100, 47, 98]), (5, fl9 h d), (6, fl9 g [])]
abbrev hF9 (a : Nat) : Int × Hd := (5, ⟨1, .file 5 a false true false⟩)
abbrev hG9 : Int × Hd := (6, ⟨1, .file 6 0 false true false⟩)
def ps1 (v : Int) (n : Nat) : List Pt := ⟨0, 0⟩ :: ⟨v, n⟩ :: (List.replicate 14 ⟨0, 0⟩ ++ [⟨1, 0⟩, ⟨18, 0⟩])
def s9a (bb ppb : Nat) (nds : Nds) (hs : Hs) (top : Nat) (xs : List Int) : St := ⟨nds, [(bb, some ⟨[], 0, 3, .slice none 0 0, .slice none 0 0, []⟩)], 0, hs, [(ppb, bb, 2)], top, xs⟩
theorem look_of {α : Type} {l : List (Int × α)} {k : Int} {v : α} (h : look l k = some v) : (k, v) ∈ l := look_mem h
theorem tok9 : TOk nds9 where
  root := ⟨_, rfl, rfl, rfl⟩
  kind := fun k x h => by
    have := look_of h
    simp only [nds9, ndF, ndG, List.mem_cons, Prod.mk.injEq, List.not_mem_nil, or_false] at this
    rcases this with ⟨rfl, rfl⟩ | ⟨rfl, rfl⟩ | ⟨rfl, rfl⟩ | ⟨rfl, rfl⟩ <;> first | exact .inl rfl | exact .inr (.inl rfl) | exact .inr (.inr rfl)
  dir := fun k x h => by
    have := look_of h
    simp only [nds9, ndF, ndG, List.mem_cons, Prod.mk.injEq, List.not_mem_nil, or_false] at this
    rcases this with ⟨rfl, rfl⟩ | ⟨rfl, rfl⟩ | ⟨rfl, rfl⟩ | ⟨rfl, rfl⟩ <;> intro hk <;> first | exact ⟨_, rfl⟩ | (cases hk)
  leaf := fun k x h => by
    have := look_of h
    simp only [nds9, ndF, ndG, List.mem_cons, Prod.mk.injEq, List.not_mem_nil, or_false] at this
    rcases this with ⟨rfl, rfl⟩ | ⟨rfl, rfl⟩ | ⟨rfl, rfl⟩ | ⟨rfl, rfl⟩ <;> intro hk <;> first | rfl | (exact absurd rfl hk)
  ent := fun k x h e he => by
    have := look_of h
    simp only [nds9, ndF, ndG, List.mem_cons, Prod.mk.injEq, List.not_mem_nil, or_false] at this
    rcases this with ⟨rfl, rfl⟩ | ⟨rfl, rfl⟩ | ⟨rfl, rfl⟩ | ⟨rfl, rfl⟩
    · simp only [nmsOf, rootN, r9, nlC, nlD, nlE, Option.getD_some, List.mem_cons, List.not_mem_nil, or_false] at he
      rcases he with rfl | rfl | rfl <;> exact ⟨by decide, _, rfl⟩
    all_goals (exact absurd he (by simp [nmsOf, dirD, leafN, fl9]))
  par := fun k x h => by
    have := look_of h
    simp only [nds9, ndF, ndG, List.mem_cons, Prod.mk.injEq, List.not_mem_nil, or_false] at this
    rcases this with ⟨rfl, rfl⟩ | ⟨rfl, rfl⟩ | ⟨rfl, rfl⟩ | ⟨rfl, rfl⟩ <;> intro hk hp
    · exact ⟨_, rfl, rfl, fun h => absurd rfl h⟩
    · exact ⟨_, rfl, rfl, fun _ => ⟨2, rfl, by simp [nmsOf, rootN, r9, nlC, nlD, nlE, dirD]⟩⟩
    all_goals (cases hk)
  dead := fun k x h => by
    have := look_of h
    simp only [nds9, ndF, ndG, List.mem_cons, Prod.mk.injEq, List.not_mem_nil, or_false] at this
    rcases this with ⟨rfl, rfl⟩ | ⟨rfl, rfl⟩ | ⟨rfl, rfl⟩ | ⟨rfl, rfl⟩ <;> intro hk h1 hp <;> first | exact absurd rfl h1 | rfl | (cases hk)
  cnt := fun k x h => by
    have := look_of h
    simp only [nds9, ndF, ndG, List.mem_cons, Prod.mk.injEq, List.not_mem_nil, or_false] at this
    rcases this with ⟨rfl, rfl⟩ | ⟨rfl, rfl⟩ | ⟨rfl, rfl⟩ | ⟨rfl, rfl⟩ <;> intro h1 <;> first | exact absurd rfl h1 | rfl
  gone := fun k x h => by
    have := look_of h
    simp only [nds9, ndF, ndG, List.mem_cons, Prod.mk.injEq, List.not_mem_nil, or_false] at this
    rcases this with ⟨rfl, rfl⟩ | ⟨rfl, rfl⟩ | ⟨rfl, rfl⟩ | ⟨rfl, rfl⟩ <;> intro hk h1 h0 <;> first | exact absurd rfl h1 | (cases h0) | (cases hk)
theorem tokF (h : Nat) (d : List UInt8) : TOk (ndF h d) where
  root := ⟨_, rfl, rfl, rfl⟩
  kind := fun k x h => by
    have := look_of h
    simp only [nds9, ndF, ndG, List.mem_cons, Prod.mk.injEq, List.not_mem_nil, or_false] at this
    rcases this with ⟨rfl, rfl⟩ | ⟨rfl, rfl⟩ | ⟨rfl, rfl⟩ | ⟨rfl, rfl⟩ | ⟨rfl, rfl⟩ <;> first | exact .inl rfl | exact .inr (.inl rfl) | exact .inr (.inr rfl)
  dir := fun k x h => by
    have := look_of h
    simp only [nds9, ndF, ndG, List.mem_cons, Prod.mk.injEq, List.not_mem_nil, or_false] at this
    rcases this with ⟨rfl, rfl⟩ | ⟨rfl, rfl⟩ | ⟨rfl, rfl⟩ | ⟨rfl, rfl⟩ | ⟨rfl, rfl⟩ <;> intro hk <;> first | exact ⟨_, rfl⟩ | (cases hk)
  leaf := fun k x h => by
    have := look_of h
    simp only [nds9, ndF, ndG, List.mem_cons, Prod.mk.injEq, List.not_mem_nil, or_false] at this
    rcases this with ⟨rfl, rfl⟩ | ⟨rfl, rfl⟩ | ⟨rfl, rfl⟩ | ⟨rfl, rfl⟩ | ⟨rfl, rfl⟩ <;> intro hk <;> first | rfl | (exact absurd rfl hk)
  ent := fun k x h e he => by
    have := look_of h
    simp only [nds9, ndF, ndG, List.mem_cons, Prod.mk.injEq, List.not_mem_nil, or_false] at this
    rcases this with ⟨rfl, rfl⟩ | ⟨rfl, rfl⟩ | ⟨rfl, rfl⟩ | ⟨rfl, rfl⟩ | ⟨rfl, rfl⟩
    · simp only [nmsOf, rootN, r9, nlC, nlD, nlE, Option.getD_some, List.mem_cons, List.not_mem_nil, or_false] at he
      rcases he with rfl | rfl | rfl | rfl <;> exact ⟨by decide, _, rfl⟩
    all_goals (exact absurd he (by simp [nmsOf, dirD, leafN, fl9]))
  par := fun k x h => by
    have := look_of h
    simp only [nds9, ndF, ndG, List.mem_cons, Prod.mk.injEq, List.not_mem_nil, or_false] at this
    rcases this with ⟨rfl, rfl⟩ | ⟨rfl, rfl⟩ | ⟨rfl, rfl⟩ | ⟨rfl, rfl⟩ | ⟨rfl, rfl⟩ <;> intro hk hp
    · exact ⟨_, rfl, rfl, fun h => absurd rfl h⟩
    · exact ⟨_, rfl, rfl, fun _ => ⟨2, rfl, by simp [nmsOf, rootN, r9, nlC, nlD, nlE, dirD]⟩⟩
    all_goals (cases hk)
  dead := fun k x h => by
    have := look_of h
    simp only [nds9, ndF, ndG, List.mem_cons, Prod.mk.injEq, List.not_mem_nil, or_false] at this
    rcases this with ⟨rfl, rfl⟩ | ⟨rfl, rfl⟩ | ⟨rfl, rfl⟩ | ⟨rfl, rfl⟩ | ⟨rfl, rfl⟩ <;> intro hk h1 hp <;> first | exact absurd rfl h1 | rfl | (cases hk)
  cnt := fun k x h => by
    have := look_of h
    simp only [nds9, ndF, ndG, List.mem_cons, Prod.mk.injEq, List.not_mem_nil, or_false] at this
    rcases this with ⟨rfl, rfl⟩ | ⟨rfl, rfl⟩ | ⟨rfl, rfl⟩ | ⟨rfl, rfl⟩ | ⟨rfl, rfl⟩ <;> intro h1 <;> first | exact absurd rfl h1 | rfl
  gone := fun k x h => by
    have := look_of h
    simp only [nds9, ndF, ndG, List.mem_cons, Prod.mk.injEq, List.not_mem_nil, or_false] at this
    rcases this with ⟨rfl, rfl⟩ | ⟨rfl, rfl⟩ | ⟨rfl, rfl⟩ | ⟨rfl, rfl⟩ | ⟨rfl, rfl⟩ <;> intro hk h1 h0 <;> first | exact absurd rfl h1 | (cases h0) | (cases hk)
theorem tokG (h : Nat) (d : List UInt8) (g : Nat) : TOk (ndG h d g) where
  root := ⟨_, rfl, rfl, rfl⟩
  kind := fun k x h => by
    have := look_of h
    simp only [nds9, ndF, ndG, List.mem_cons, Prod.mk.injEq, List.not_mem_nil, or_false] at this
    rcases this with ⟨rfl, rfl⟩ | ⟨rfl, rfl⟩ | ⟨rfl, rfl⟩ | ⟨rfl, rfl⟩ | ⟨rfl, rfl⟩ | ⟨rfl, rfl⟩ <;> first | exact .inl rfl | exact .inr (.inl rfl) | exact .inr (.inr rfl)
  dir := fun k x h => by
    have := look_of h
    simp only [nds9, ndF, ndG, List.mem_cons, Prod.mk.injEq, List.not_mem_nil, or_false] at this
    rcases this with ⟨rfl, rfl⟩ | ⟨rfl, rfl⟩ | ⟨rfl, rfl⟩ | ⟨rfl, rfl⟩ | ⟨rfl, rfl⟩ | ⟨rfl, rfl⟩ <;> intro hk <;> first | exact ⟨_, rfl⟩ | (cases hk)
  leaf := fun k x h => by
    have := look_of h
    simp only [nds9, ndF, ndG, List.mem_cons, Prod.mk.injEq, List.not_mem_nil, or_false] at this
    rcases this with ⟨rfl, rfl⟩ | ⟨rfl, rfl⟩ | ⟨rfl, rfl⟩ | ⟨rfl, rfl⟩ | ⟨rfl, rfl⟩ | ⟨rfl, rfl⟩ <;> intro hk <;> first | rfl | (exact absurd rfl hk)
  ent := fun k x h e he => by
    have := look_of h
    simp only [nds9, ndF, ndG, List.mem_cons, Prod.mk.injEq, List.not_mem_nil, or_false] at this
    rcases this with ⟨rfl, rfl⟩ | ⟨rfl, rfl⟩ | ⟨rfl, rfl⟩ | ⟨rfl, rfl⟩ | ⟨rfl, rfl⟩ | ⟨rfl, rfl⟩
    · simp only [nmsOf, rootN, r9, nlC, nlD, nlE, Option.getD_some, List.mem_cons, List.not_mem_nil, or_false] at he
      rcases he with rfl | rfl | rfl | rfl | rfl <;> exact ⟨by decide, _, rfl⟩
    all_goals (exact absurd he (by simp [nmsOf, dirD, leafN, fl9]))
  par := fun k x h => by
    have := look_of h
    simp only [nds9, ndF, ndG, List.mem_cons, Prod.mk.injEq, List.not_mem_nil, or_false] at this
    rcases this with ⟨rfl, rfl⟩ | ⟨rfl, rfl⟩ | ⟨rfl, rfl⟩ | ⟨rfl, rfl⟩ | ⟨rfl, rfl⟩ | ⟨rfl, rfl⟩ <;> intro hk hp
    · exact ⟨_, rfl, rfl, fun h => absurd rfl h⟩
    · exact ⟨_, rfl, rfl, fun _ => ⟨2, rfl, by simp [nmsOf, rootN, r9, nlC, nlD, nlE, dirD]⟩⟩
    all_goals (cases hk)
  dead := fun k x h => by
    have := look_of h
    simp only [nds9, ndF, ndG, List.mem_cons, Prod.mk.injEq, List.not_mem_nil, or_false] at this
    rcases this with ⟨rfl, rfl⟩ | ⟨rfl, rfl⟩ | ⟨rfl, rfl⟩ | ⟨rfl, rfl⟩ | ⟨rfl, rfl⟩ | ⟨rfl, rfl⟩ <;> intro hk h1 hp <;> first | exact absurd rfl h1 | rfl | (cases hk)
  cnt := fun k x h => by
    have := look_of h
    simp only [nds9, ndF, ndG, List.mem_cons, Prod.mk.injEq, List.not_mem_nil, or_false] at this
    rcases this with ⟨rfl, rfl⟩ | ⟨rfl, rfl⟩ | ⟨rfl, rfl⟩ | ⟨rfl, rfl⟩ | ⟨rfl, rfl⟩ | ⟨rfl, rfl⟩ <;> intro h1 <;> first | exact absurd rfl h1 | rfl
  gone := fun k x h => by
    have := look_of h
    simp only [nds9, ndF, ndG, List.mem_cons, Prod.mk.injEq, List.not_mem_nil, or_false] at this
    rcases this with ⟨rfl, rfl⟩ | ⟨rfl, rfl⟩ | ⟨rfl, rfl⟩ | ⟨rfl, rfl⟩ | ⟨rfl, rfl⟩ | ⟨rfl, rfl⟩ <;> intro hk h1 h0 <;> first | exact absurd rfl h1 | (cases h0) | (cases hk)
theorem wk1 : WalkQ nds9 1 [102] true = (0, 10) := by decide +kernel
theorem wk2 (d : List UInt8) : WalkQ (ndF 1 d) 1 [103] true = (0, 10) := by rfl
theorem wk3 (d : List UInt8) : WalkQ (ndG 1 d 0) 1 [102] true = (5, 0) := by rfl
theorem wk4 (d : List UInt8) : WalkQ (ndG 1 d 0) 1 [103] true = (6, 0) := by rfl
theorem mdF : made nds9 (r9 nlC) nlC (nm1 102) 5 2 [] = ndF 0 [] := by rfl
theorem mdG (d : List UInt8) : made (ndF 1 d) (r9 nlD) nlD (nm1 103) 6 2 [] = ndG 1 d 0 := by rfl
section
variable {B pb lb most nest : Nat} {F : Nat → Prop} {w : World} {c : Sy} {s : St} {ps : List Pt} {ns : List (Nat × Pt)} {mk : List Nat}
theorem pr_mark (h : PrR w B F c pb lb most nest s ps ns mk) (hn : mk.length < nest) :
    Calls Tryz.prog 80 #[ptrV lb] w fun e w' => e = .returned (.tuple #[.int .i64 ((mk.length + 1 : Nat) : Int), .int .i64 0]) ∧ PrR w' B F c pb lb most nest s ps ns (mk ++ [ns.length]) ∧ PCh B F F pb w w' := by
  obtain ⟨ms, fs, h1, h2, h3, h4, h5⟩ := h.log
  have hl : ms.length = mk.length := by rw [← h3, List.length_map]
  refine (LogMark_add h1 (by omega) h.hB).mono ?_
  rintro e w' ⟨rfl, ⟨b, hb⟩, hF⟩
  have hpc := PCh.of_fr hF F h.hB pb
  rw [hl]
  refine ⟨rfl, h.logStep hF ⟨ms ++ [⟨b, fs.length, ns.length⟩], fs, hb, h2, by rw [List.map_append, h3]; simp [h2], fun m hm => ?_, fun j n hj => ?_⟩⟩
  · rcases List.mem_append.1 hm with hm | hm
    · exact h4 m hm
    · rw [List.mem_singleton.1 hm]; exact h2.symm
  · obtain ⟨fv, q1, q2⟩ := h5 j n hj
    exact ⟨fv, q1, q2.ch hpc⟩
end
theorem awake9_any (w : World) : Calls Tryz.prog 16 #[] w fun e w' => e = .returned (.bool true) ∧ w.grownBy w' none := by
  have hbg : Calls Tryz.prog 17 #[.int .i64 50] w _ := begun9_any 50 (by decide) w
  go_enter Tryz.func16, Tryz.ntmps16
  go_wp2_with fail
  refine hbg.mono ?_
  rintro e w0 ⟨fb, plb, tb, lb, pb, bb, ppb, rfl, F0, hP0, cc0⟩
  clear hbg
  unfold ptrV
  go_upto_region 2 with fail
  obtain ⟨z, hz⟩ : ∃ z, w0.heap.size = z := ⟨_, rfl⟩
  obtain ⟨B, hB⟩ : ∃ B, w.heap.size = B := ⟨_, rfl⟩
  have gA : w0.grownBy (w0.alloc (.cells #[.pointer (some ⟨fb, 0, none⟩), .pointer (some ⟨plb, 0, none⟩), .pointer (some ⟨tb, 0, none⟩), .pointer (some ⟨lb, 0, none⟩), .pointer (some ⟨pb, 0, none⟩)] 48)) none := World.grownBy_alloc w0 _ _
  have zb : Blk (w0.alloc (.cells #[.pointer (some ⟨fb, 0, none⟩), .pointer (some ⟨plb, 0, none⟩), .pointer (some ⟨tb, 0, none⟩), .pointer (some ⟨lb, 0, none⟩), .pointer (some ⟨pb, 0, none⟩)] 48)) w0.heap.size [ptrV fb, ptrV plb, ptrV tb, ptrV lb, ptrV pb] 48 := Blk.new w0 _ _
  have hzF : ¬ F0 z := fun h => absurd (hP0.sys.lt h) (by omega)
  have hzp : z ≠ pb := by have := hP0.prc.lt; omega
  generalize (w0.alloc (.cells #[.pointer (some ⟨fb, 0, none⟩), .pointer (some ⟨plb, 0, none⟩), .pointer (some ⟨tb, 0, none⟩), .pointer (some ⟨lb, 0, none⟩), .pointer (some ⟨pb, 0, none⟩)] 48)) = w1 at gA zb ⊢
  simp only [hz] at zb ⊢
  rw [hB] at hP0
  have kz : Kq w1 F0 pb z [ptrV fb, ptrV plb, ptrV tb, ptrV lb, ptrV pb] 48 := ⟨zb, hzF, hzp, by unfold LogT; decide⟩
  obtain ⟨hP1, cP1⟩ := hP0.grown gA
  have cc : Below B w w1 := Below.trans ⟨cc0.os, cc0.tape, cc0.output, cc0.size, fun b hb => cc0.block b (by omega) nofun⟩ cP1.below
  have hP : PrR w1 B F0 (c9 fb plb tb) pb lb 50 4 (s9a bb ppb nds9 hs9 4 []) ps0 [] [] := hP1
  clear hP0 cc0 gA zb hzF hz hzp hP1 cP1
  replace kz := Lib.hid kz
  replace cc := Lib.hid cc
  replace hP := Lib.hid hP
  replace hB := Lib.hid hB
  have hop : Calls Tryz.prog 67 #[.pointer (some ⟨pb, 0, none⟩), .int .i64 1, .string (nm1 102), .int .i64 2] w1 fun e w' => e = .returned (.int .i64 0) ∧ ∃ F', PrR w' B F' (c9 fb plb tb) pb lb 50 4 (s9a bb ppb (ndF 1 []) (hs9 ++ [hF9 0]) 5 []) (ps1 5 0) [] [] ∧ PCh B F0 F' pb w1 w' :=
    open_one hP.out tok9 (x := r9 nlC) (l := nlC) rfl rfl rfl rfl 102 (by decide) (by decide) (by decide) (by decide) wk1 5 (by decide) (by decide) rfl (fun j h1 h2 => by rcases (by omega : j = 1 ∨ j = 2 ∨ j = 3 ∨ j = 4) with rfl | rfl | rfl | rfl <;> exact ⟨_, rfl⟩) (show (4 : Nat) < 12 by decide) (show usedN nds9 ≤ 100 by decide) (dn := 0) rfl (p := ⟨0, 0⟩) rfl rfl rfl rfl (show (4 : Nat) < 100000 by decide) (nds1 := ndF 0 []) mdF rfl (by decide) rfl
  have z0 := kz.out.1.cell (i := 0) rfl
  have z2 := kz.out.1.cell (i := 2) rfl
  have z4 := kz.out.1.cell (i := 4) rfl
  have zl := kz.out.1.lt
  unfold ptrV at z0 z2 z4
  replace hop := Lib.hid hop
  go_wp2_with fail
  refine hop.out.mono ?_
  rintro e w2 ⟨rfl, F1, hP', cP⟩
  replace kz := Lib.hid (kz.out.ch cP)
  replace cc := Lib.hid (cc.out.trans cP.below)
  replace hP := Lib.hid hP'
  clear hop cP hP' z0 z2 z4 zl
  have hop : Calls Tryz.prog 21 #[.pointer (some ⟨pb, 0, none⟩)] w2 fun e w' => ∃ n er, e = .returned (.tuple #[.int .i64 n, .int .i64 er]) ∧ PrR w' B F1 (c9 fb plb tb) pb lb 50 4 (s9a bb ppb (ndF 1 []) (hs9 ++ [hF9 0]) 5 []) (ps1 5 0) [] [0] ∧ PCh B F1 F1 pb w2 w' :=
    PMark_any hP.out.prc (fun n er w' => PrR w' B F1 (c9 fb plb tb) pb lb 50 4 (s9a bb ppb (ndF 1 []) (hs9 ++ [hF9 0]) 5 []) (ps1 5 0) [] [0] ∧ PCh B F1 F1 pb w2 w') ((pr_mark hP.out (by decide)).mono fun e w' ⟨e1, e2⟩ => ⟨_, _, e1, e2⟩)
  have z0 := kz.out.1.cell (i := 0) rfl
  have z2 := kz.out.1.cell (i := 2) rfl
  have z4 := kz.out.1.cell (i := 4) rfl
  have zl := kz.out.1.lt
  unfold ptrV at z0 z2 z4
  replace hop := Lib.hid hop
  go_wp2_with fail
  refine hop.out.mono ?_
  rintro e w3 ⟨nM, eM, rfl, hP', cP⟩
  replace kz := Lib.hid (kz.out.ch cP)
  replace cc := Lib.hid (cc.out.trans cP.below)
  replace hP := Lib.hid hP'
  clear hop cP hP' z0 z2 z4 zl
  have hop : Calls Tryz.prog 68 #[.pointer (some ⟨pb, 0, none⟩), .int .i64 1, .string ⟨#[97, 98]⟩] w3 fun e w' => ∃ er, e = .returned (.int .i64 er) ∧ ∃ F', PrR w' B F' (c9 fb plb tb) pb lb 50 4 (s9a bb ppb (ndF 1 [97, 98]) (hs9 ++ [hF9 2]) 5 []) (ps1 5 0) [] [0] ∧ PCh B F1 F' pb w3 w' :=
    PWrite_any hP.out.prc 1 5 ⟨#[97, 98]⟩ (pfind_in hP.out.prc (i := 1) (by decide) (p := ⟨5, 0⟩) rfl) (fun er w' => ∃ F', PrR w' B F' (c9 fb plb tb) pb lb 50 4 (s9a bb ppb (ndF 1 [97, 98]) (hs9 ++ [hF9 2]) 5 []) (ps1 5 0) [] [0] ∧ PCh B F1 F' pb w3 w')
      ((pr_sys1 hP.out (sys_write_file hP.out.sys (k := 5) (x := ⟨1, .file 5 0 false true false⟩) rfl rfl (y := fl9 1 []) rfl rfl ⟨#[97, 98]⟩ (by decide) (.inr (show usedN (ndF 1 []) + 2 ≤ 100 by decide)))).mono fun e w' ⟨e1, e2⟩ => ⟨_, e1, e2⟩)
  have z0 := kz.out.1.cell (i := 0) rfl
  have z2 := kz.out.1.cell (i := 2) rfl
  have z4 := kz.out.1.cell (i := 4) rfl
  have zl := kz.out.1.lt
  unfold ptrV at z0 z2 z4
  replace hop := Lib.hid hop
  go_wp2_with fail
  refine hop.out.mono ?_
  rintro e w4 ⟨eW, rfl, F2, hP', cP⟩
  replace kz := Lib.hid (kz.out.ch cP)
  replace cc := Lib.hid (cc.out.trans cP.below)
  replace hP := Lib.hid hP'
  clear hop cP hP' z0 z2 z4 zl
  have hop : Calls Tryz.prog 24 #[.pointer (some ⟨pb, 0, none⟩), .int .i64 1] w4 fun e w' => ∃ er, e = .returned (.int .i64 er) ∧ PrR w' B F2 (c9 fb plb tb) pb lb 50 4 (s9a bb ppb (ndF 1 [97, 98]) (hs9 ++ [hF9 2]) 5 []) (ps1 0 1) [(1, ⟨5, 0⟩)] [0] ∧ PCh B F2 F2 pb w4 w' :=
    PClose_any hP.out.prc (i := 1) (by decide) (fun er w' => PrR w' B F2 (c9 fb plb tb) pb lb 50 4 (s9a bb ppb (ndF 1 [97, 98]) (hs9 ++ [hF9 2]) 5 []) (ps1 0 1) [(1, ⟨5, 0⟩)] [0] ∧ PCh B F2 F2 pb w4 w')
      ((change_note_fd hP.out (i := 1) (by decide) (p := ⟨5, 0⟩) rfl (by decide) (by simp) (by decide) 0).mono fun e w' ⟨e1, e2⟩ => ⟨_, e1, e2⟩)
  have z0 := kz.out.1.cell (i := 0) rfl
  have z2 := kz.out.1.cell (i := 2) rfl
  have z4 := kz.out.1.cell (i := 4) rfl
  have zl := kz.out.1.lt
  unfold ptrV at z0 z2 z4
  replace hop := Lib.hid hop
  go_wp2_with fail
  refine hop.out.mono ?_
  rintro e w5 ⟨eC, rfl, hP', cP⟩
  replace kz := Lib.hid (kz.out.ch cP)
  replace cc := Lib.hid (cc.out.trans cP.below)
  replace hP := Lib.hid hP'
  clear hop cP hP' z0 z2 z4 zl
  have hop : Calls Tryz.prog 67 #[.pointer (some ⟨pb, 0, none⟩), .int .i64 1, .string (nm1 103), .int .i64 2] w5 fun e w' => e = .returned (.int .i64 0) ∧ ∃ F', PrR w' B F' (c9 fb plb tb) pb lb 50 4 (s9a bb ppb (ndG 1 [97, 98] 1) (hs9 ++ [hF9 2] ++ [hG9]) 6 []) (ps1 6 1) [(1, ⟨5, 0⟩)] [0] ∧ PCh B F2 F' pb w5 w' :=
    open_one hP.out (tokF 1 [97, 98]) (x := r9 nlD) (l := nlD) rfl rfl rfl rfl 103 (by decide) (by decide) (by decide) (by decide) (wk2 _) 6 (by decide) (by decide) rfl (fun j h1 h2 => by rcases (by omega : j = 1 ∨ j = 2 ∨ j = 3 ∨ j = 4 ∨ j = 5) with rfl | rfl | rfl | rfl | rfl <;> exact ⟨_, rfl⟩) (show (5 : Nat) < 12 by decide) (show usedN (ndF 1 [97, 98]) ≤ 100 by decide) (dn := 0) rfl (p := ⟨0, 1⟩) rfl rfl rfl rfl (show (5 : Nat) < 100000 by decide) (nds1 := ndG 1 [97, 98] 0) (mdG _) rfl (by decide) rfl
  have z0 := kz.out.1.cell (i := 0) rfl
  have z2 := kz.out.1.cell (i := 2) rfl
  have z4 := kz.out.1.cell (i := 4) rfl
  have zl := kz.out.1.lt
  unfold ptrV at z0 z2 z4
  replace hop := Lib.hid hop
  go_wp2_with fail
  refine hop.out.mono ?_
  rintro e w6 ⟨rfl, F3, hP', cP⟩
  replace kz := Lib.hid (kz.out.ch cP)
  replace cc := Lib.hid (cc.out.trans cP.below)
  replace hP := Lib.hid hP'
  clear hop cP hP' z0 z2 z4 zl
  have hop : Calls Tryz.prog 23 #[.pointer (some ⟨pb, 0, none⟩)] w6 fun e w' => ∃ er, e = .returned (.int .i64 er) ∧ er = 0 ∧ ∃ F' top xs, PrR w' B F' (c9 fb plb tb) pb lb 50 4 (s9a bb ppb (ndG 1 [97, 98] 0) (hs9 ++ [hF9 2]) top xs) (ps1 5 0) [] [] ∧ PCh B F3 F' pb w6 w' := by
    refine PUndo_any hP.out.prc (fun er w' => er = 0 ∧ ∃ F' top xs, PrR w' B F' (c9 fb plb tb) pb lb 50 4 (s9a bb ppb (ndG 1 [97, 98] 0) (hs9 ++ [hF9 2]) top xs) (ps1 5 0) [] [] ∧ PCh B F3 F' pb w6 w') ?_
    refine (undo_gen (mk := []) (m := 0) hP.out (Nat.zero_le _) (fun j s ps => (j = 1 ∧ s = (s9a bb ppb (ndG 1 [97, 98] 1) (hs9 ++ [hF9 2] ++ [hG9]) 6 []) ∧ ps = ps1 6 1) ∨ (j = 0 ∧ ∃ top xs, s = (s9a bb ppb (ndG 1 [97, 98] 0) (hs9 ++ [hF9 2]) top xs) ∧ ps = ps1 5 0)) (.inl ⟨rfl, rfl, rfl⟩) ?_).mono ?_
    · intro j W F' s' ps' i q p hn hj hPS hQ hp
      have hj0 : j = 0 := by
        have := (List.getElem?_eq_some_iff.1 hn).1
        simp at this
        exact this
      subst hj0
      simp only [List.getElem?_cons_zero, Option.some.injEq, Prod.mk.injEq] at hn
      obtain ⟨rfl, rfl⟩ := hn
      rcases hQ with ⟨_, rfl, rfl⟩ | ⟨hx, _⟩
      · obtain rfl : (⟨6, 1⟩ : Pt) = p := Option.some.inj hp
        refine ⟨fun _ => ⟨fun h => absurd h (by decide), fun _ => ?_⟩, fun h => absurd h (by decide), fun h => absurd h (by decide)⟩
        refine (sys_last_fileG hPS.sys (k := 6) (x := ⟨1, .file 6 0 false true false⟩) rfl rfl rfl (y := fl9 1 []) rfl (by decide) (by decide)).mono ?_
        rintro e W' ⟨rfl, F2, top, xs, _, t1, t2⟩
        exact ⟨⟨_, rfl⟩, F2, _, t1, t2, .inr ⟨rfl, top, xs, rfl, rfl⟩⟩
      · exact absurd hx (by decide)
    · rintro e w' ⟨rfl, F', s', ps', q1, q2, q3⟩
      rcases q3 with ⟨hx, _⟩ | ⟨_, top, xs, rfl, rfl⟩
      · exact absurd hx (by decide)
      · exact ⟨_, rfl, rfl, F', top, xs, q1, q2⟩
  have z0 := kz.out.1.cell (i := 0) rfl
  have z2 := kz.out.1.cell (i := 2) rfl
  have z4 := kz.out.1.cell (i := 4) rfl
  have zl := kz.out.1.lt
  unfold ptrV at z0 z2 z4
  replace hop := Lib.hid hop
  go_wp2_with fail
  refine hop.out.mono ?_
  rintro e w7 ⟨eU, rfl, rfl, F4, top, xs, hP', cP⟩
  replace kz := Lib.hid (kz.out.ch cP)
  replace cc := Lib.hid (cc.out.trans cP.below)
  replace hP := Lib.hid hP'
  clear hop cP hP' z0 z2 z4 zl
  have hop : Calls Tryz.prog 68 #[.pointer (some ⟨pb, 0, none⟩), .int .i64 1, .string ⟨#[99]⟩] w7 fun e w' => ∃ er, e = .returned (.int .i64 er) ∧ ∃ F', PrR w' B F' (c9 fb plb tb) pb lb 50 4 (s9a bb ppb (ndG 1 [97, 98, 99] 0) (hs9 ++ [hF9 3]) top xs) (ps1 5 0) [] [] ∧ PCh B F4 F' pb w7 w' :=
    PWrite_any hP.out.prc 1 5 ⟨#[99]⟩ (pfind_in hP.out.prc (i := 1) (by decide) (p := ⟨5, 0⟩) rfl) (fun er w' => ∃ F', PrR w' B F' (c9 fb plb tb) pb lb 50 4 (s9a bb ppb (ndG 1 [97, 98, 99] 0) (hs9 ++ [hF9 3]) top xs) (ps1 5 0) [] [] ∧ PCh B F4 F' pb w7 w')
      ((pr_sys1 hP.out (sys_write_file hP.out.sys (k := 5) (x := ⟨1, .file 5 2 false true false⟩) rfl rfl (y := fl9 1 [97, 98]) rfl rfl ⟨#[99]⟩ (by decide) (.inr (show usedN (ndG 1 [97, 98] 0) + 1 ≤ 100 by decide)))).mono fun e w' ⟨e1, e2⟩ => ⟨_, e1, e2⟩)
  have z0 := kz.out.1.cell (i := 0) rfl
  have z2 := kz.out.1.cell (i := 2) rfl
  have z4 := kz.out.1.cell (i := 4) rfl
  have zl := kz.out.1.lt
  unfold ptrV at z0 z2 z4
  replace hop := Lib.hid hop
  go_wp2_with fail
  refine hop.out.mono ?_
  rintro e w8 ⟨eX, rfl, F5, hP', cP⟩
  replace kz := Lib.hid (kz.out.ch cP)
  replace cc := Lib.hid (cc.out.trans cP.below)
  replace hP := Lib.hid hP'
  clear hop cP hP' z0 z2 z4 zl
  have hop : Calls Tryz.prog 69 #[.pointer (some ⟨fb, 0, none⟩), .int .i64 1, .string (nm1 102), .bool true] w8 fun e w' => e = .returned (.tuple #[.int .i64 5, .int .i64 0]) ∧ w8.grownBy w' none := by
    have := pr_walk hP.out (tokG 1 [97, 98, 99] 0) 1 (nm1 102) (show (1 : Nat) ≤ 1000000 by decide) true
    rw [show tl (nm1 102) = [102] from rfl, show WalkQ (s9a bb ppb (ndG 1 [97, 98, 99] 0) (hs9 ++ [hF9 3]) top xs).nds 1 [102] true = (5, 0) from wk3 _] at this
    exact this
  have z0 := kz.out.1.cell (i := 0) rfl
  have z2 := kz.out.1.cell (i := 2) rfl
  have z4 := kz.out.1.cell (i := 4) rfl
  have zl := kz.out.1.lt
  unfold ptrV at z0 z2 z4
  replace hop := Lib.hid hop
  go_wp2_with fail
  refine hop.out.mono ?_
  rintro e w9 ⟨rfl, gP⟩
  obtain ⟨hP', cP⟩ := hP.out.grown gP
  replace kz := Lib.hid (kz.out.ch cP)
  replace cc := Lib.hid (cc.out.trans cP.below)
  replace hP := Lib.hid hP'
  clear hop cP hP' z0 z2 z4 zl gP
  have hop : Calls Tryz.prog 70 #[.pointer (some ⟨fb, 0, none⟩), .int .i64 5, .int .i64 0, .int .i64 9] w9 fun e w' => e = .returned (.tuple #[.string ⟨#[97, 98, 99]⟩, .int .i64 0]) ∧ w9.grownBy w' none := by
    obtain ⟨Ft, Fp, Fh, hR, _⟩ := hP.out.sys
    obtain ⟨lab, mb, mem, hT, _⟩ := hR.tree
    refine (read_some hT (k := 5) (x := fl9 1 [97, 98, 99]) rfl (by decide) 0 9 (by decide) (by decide)).mono ?_
    rintro e w' ⟨rfl, m, rfl⟩
    exact ⟨rfl, grownBy_drewN (grownBy_re _) m⟩
  have z0 := kz.out.1.cell (i := 0) rfl
  have z2 := kz.out.1.cell (i := 2) rfl
  have z4 := kz.out.1.cell (i := 4) rfl
  have zl := kz.out.1.lt
  unfold ptrV at z0 z2 z4
  replace hop := Lib.hid hop
  go_wp2_with fail
  refine hop.out.mono ?_
  rintro e w10 ⟨rfl, gP⟩
  obtain ⟨hP', cP⟩ := hP.out.grown gP
  replace kz := Lib.hid (kz.out.ch cP)
  replace cc := Lib.hid (cc.out.trans cP.below)
  replace hP := Lib.hid hP'
  clear hop cP hP' z0 z2 z4 zl gP
  have hop : Calls Tryz.prog 69 #[.pointer (some ⟨fb, 0, none⟩), .int .i64 1, .string (nm1 103), .bool true] w10 fun e w' => e = .returned (.tuple #[.int .i64 6, .int .i64 0]) ∧ w10.grownBy w' none := by
    have := pr_walk hP.out (tokG 1 [97, 98, 99] 0) 1 (nm1 103) (show (1 : Nat) ≤ 1000000 by decide) true
    rw [show tl (nm1 103) = [103] from rfl, show WalkQ (s9a bb ppb (ndG 1 [97, 98, 99] 0) (hs9 ++ [hF9 3]) top xs).nds 1 [103] true = (6, 0) from wk4 _] at this
    exact this
  have z0 := kz.out.1.cell (i := 0) rfl
  have z2 := kz.out.1.cell (i := 2) rfl
  have z4 := kz.out.1.cell (i := 4) rfl
  have zl := kz.out.1.lt
  unfold ptrV at z0 z2 z4
  replace hop := Lib.hid hop
  go_wp2_with fail
  refine hop.out.mono ?_
  rintro e w11 ⟨rfl, gP⟩
  obtain ⟨hP', cP⟩ := hP.out.grown gP
  replace kz := Lib.hid (kz.out.ch cP)
  replace cc := Lib.hid (cc.out.trans cP.below)
  replace hP := Lib.hid hP'
  clear hop cP hP' z0 z2 z4 zl gP
  have hop : Calls Tryz.prog 70 #[.pointer (some ⟨fb, 0, none⟩), .int .i64 6, .int .i64 0, .int .i64 9] w11 fun e w' => e = .returned (.tuple #[.string ⟨#[]⟩, .int .i64 0]) ∧ w11.grownBy w' none := by
    obtain ⟨Ft, Fp, Fh, hR, _⟩ := hP.out.sys
    obtain ⟨lab, mb, mem, hT, _⟩ := hR.tree
    refine (read_some hT (k := 6) (x := fl9 0 []) rfl (by decide) 0 9 (by decide) (by decide)).mono ?_
    rintro e w' ⟨rfl, m, rfl⟩
    exact ⟨rfl, grownBy_drewN (grownBy_re _) m⟩
  have z0 := kz.out.1.cell (i := 0) rfl
  have z2 := kz.out.1.cell (i := 2) rfl
  have z4 := kz.out.1.cell (i := 4) rfl
  have zl := kz.out.1.lt
  unfold ptrV at z0 z2 z4
  replace hop := Lib.hid hop
  go_wp2_with fail
  refine hop.out.mono ?_
  rintro e w12 ⟨rfl, gP⟩
  obtain ⟨hP', cP⟩ := hP.out.grown gP
  replace kz := Lib.hid (kz.out.ch cP)
  replace cc := Lib.hid (cc.out.trans cP.below)
  replace hP := Lib.hid hP'
  clear hop cP hP' z0 z2 z4 zl gP
  have hop : Calls Tryz.prog 31 #[.pointer (some ⟨pb, 0, none⟩), .int .i64 1] w12 fun e w' => e = .returned (.tuple #[.int .i64 5, .bool true]) ∧ w' = w12 := PHandle_any (ptrV pb) 1 5 0 (pfind_in hP.out.prc (i := 1) (by decide) (p := ⟨5, 0⟩) rfl)
  have hst : Calls Tryz.prog 26 #[.pointer (some ⟨tb, 0, none⟩), .int .i64 5] w12 fun e w' => e = .returned (.tuple #[info7 1 1 3 5 false true false, .int .i64 0]) ∧ w12.grownBy w' none := sys_stat_file hP.out.sys (k := 5) (x := ⟨1, .file 5 3 false true false⟩) rfl rfl
  have z0 := kz.out.1.cell (i := 0) rfl
  have z2 := kz.out.1.cell (i := 2) rfl
  have z4 := kz.out.1.cell (i := 4) rfl
  have zl := kz.out.1.lt
  unfold ptrV at z0 z2 z4
  unfold info7 at hst
  replace hop := Lib.hid hop
  replace hst := Lib.hid hst
  go_wp2_with fail
  refine hop.out.mono ?_
  rintro e w' ⟨rfl, hw⟩
  obtain rfl := hw.symm
  clear hop hw
  go_wp2_with fail
  refine hst.out.mono ?_
  rintro e wS ⟨rfl, gS⟩
  obtain ⟨hP', cP⟩ := hP.out.grown gS
  replace kz := Lib.hid (kz.out.ch cP)
  replace cc := Lib.hid (cc.out.trans cP.below)
  replace hP := Lib.hid hP'
  clear hst cP hP' z0 z2 z4 zl gS
  go_upto_region 17 with fail
  have gB : wS.grownBy (wS.alloc (.cells #[.int .i64 1, .int .i64 1, .int .i64 3, .int .i64 5, .bool false, .bool true, .bool false] 64)) none := World.grownBy_alloc wS _ _
  have xb : Blk (wS.alloc (.cells #[.int .i64 1, .int .i64 1, .int .i64 3, .int .i64 5, .bool false, .bool true, .bool false] 64)) wS.heap.size [.int .i64 1, .int .i64 1, .int .i64 3, .int .i64 5, .bool false, .bool true, .bool false] 64 := Blk.new wS _ _
  generalize (wS.alloc (.cells #[.int .i64 1, .int .i64 1, .int .i64 3, .int .i64 5, .bool false, .bool true, .bool false] 64)) = wT at gB xb ⊢
  generalize wS.heap.size = xz at xb ⊢
  have x1 := xb.cell (i := 1) rfl
  have xl := xb.lt
  obtain ⟨hP', cP⟩ := hP.out.grown gB
  replace kz := Lib.hid (kz.out.ch cP)
  replace cc := Lib.hid (cc.out.trans cP.below)
  have hfd := Fds_one hP'.prc
  clear cP gB xb
  have z0 := kz.out.1.cell (i := 0) rfl
  have z2 := kz.out.1.cell (i := 2) rfl
  have z4 := kz.out.1.cell (i := 4) rfl
  have zl := kz.out.1.lt
  unfold ptrV at z0 z2 z4
  unfold ptrV at hfd
  have hBB := hB.out
  have hcc := cc.out
  rw [← hBB] at hcc
  have hfin : w.grownBy wT none := ⟨hcc.os, hcc.tape, hcc.output, hcc.size, fun b hb _ => hcc.block b hb⟩
  replace hfin := Lib.hid hfin
  replace hfd := Lib.hid hfd
  clear hP hP' kz cc hcc hB hBB
  have t1 : (⟨#[]⟩ : ByteArray).toList.isEmpty = true := by decide +kernel
  have t2 : ((⟨#[97, 98, 99]⟩ : ByteArray).toList == [97, 98, 99]) = true := by decide +kernel
  go_wp2_with fail
  refine hfd.out.mono ?_
  rintro e wV ⟨⟨A, cV, rfl⟩, gV⟩
  replace gV := Lib.hid gV
  clear hfd z0 z2 z4 zl x1 xl
  go_wp2
  go_ret
  exact ⟨rfl, grownBy_tr hfin.out gV.out⟩
end Go.Proofs.YtfofpphnglhopaaGreatDoor
namespace Go.Proofs.YtfofpphnglhopaaGreatDoor
open Go Go.RowKit
theorem WalkQ_no {nds : Nds} (T : TOk nds) (a : Int) (p : List UInt8) (fo : Bool) : (WalkQ nds a p fo).2 ≠ 43 ∧ ((WalkQ nds a p fo).2 = 0 → ∃ y, look nds (WalkQ nds a p fo).1 = some y) := by
  unfold WalkQ
  by_cases hs : (startP nds a p).2 ≠ 0
  · rw [if_pos hs]
    refine ⟨?_, fun e => absurd e hs⟩
    show (startP nds a p).2 ≠ 43
    unfold startP beginP
    split
    · decide
    · split
      · decide
      · split
        · decide
        · split
          · decide
          · split <;> (show (0 : Int) ≠ 43; decide)
  · rw [if_neg hs]
    obtain ⟨x, hx, _⟩ := startP_ok T (Decidable.not_not.1 hs)
    obtain ⟨h1, h2, _⟩ := walkP_ok T fo (wM p 0 + 1) _ p 0 ⟨x, hx⟩ (by omega) (by omega)
    exact ⟨walkE_no h2, h1⟩
section
variable {w w1 : World} {B : Nat} {F F1 : Nat → Prop} {c : Sy} {pb lb most nest : Nat} {s : St} {ps : List Pt} {ns : Nts} {mk : List Nat} {N M : Nat}
theorem dMark (P : PI w B F c pb lb most nest s ps ns mk N) :
    Calls Tryz.prog 21 #[ptrV pb] w fun e w' => ∃ n er, e = .returned (.tuple #[.int .i64 n, .int .i64 er]) ∧
      ((er = 0 ∧ mk.length < nest ∧ PrR w' B F c pb lb most nest s ps ns (mk ++ [ns.length]) ∧ PCh B F F pb w w') ∨ er = 42 ∧ mk.length = nest ∧ PrR w' B F c pb lb most nest s ps ns mk ∧ PCh B F F pb w w') := by
  obtain ⟨ms, fs, h1, h2, h3, h4, h5⟩ := P.r.log
  have hl : ms.length = mk.length := by rw [← h3, List.length_map]
  have hms : ms.length ≤ nest := by obtain ⟨mv, nv, h⟩ := h1; exact h.mp
  by_cases hn : mk.length < nest
  · refine PMark_any P.r.prc (fun n er w' => _) ((pr_mark P.r hn).mono ?_)
    rintro e w' ⟨rfl, q1, q2⟩
    exact ⟨_, _, rfl, .inl ⟨rfl, hn, q1, q2⟩⟩
  · refine PMark_any P.r.prc (fun n er w' => _) ((LogMark_full h1 (by omega)).mono ?_)
    rintro e w' ⟨rfl, n, rfl⟩
    obtain ⟨q1, q2⟩ := P.r.grown (grownBy_drewN (grownBy_re w) n)
    exact ⟨_, _, rfl, .inr ⟨rfl, by omega, q1, q2⟩⟩
theorem dMarkS (P : PI w B F c pb lb most nest s ps ns mk N) :
    Calls Tryz.prog 21 #[ptrV pb] w fun e w' => ∃ n er, e = .returned (.tuple #[.int .i64 n, .int .i64 er]) ∧ PStp B F c pb lb most nest ps ns mk N w er w' := by
  refine (dMark P).mono ?_
  rintro e w' ⟨n, er, rfl, h⟩
  refine ⟨n, er, rfl, ?_⟩
  rcases h with ⟨rfl, _, q1, q2⟩ | ⟨rfl, _, q1, q2⟩
  · exact ⟨F, s, _, _, _, q1, P.i, .mark _ _ _, q2, P.m, Nat.le_succ _, nofun, by rw [List.length_append]; exact Nat.le_add_right _ _⟩
  · exact ⟨F, s, _, _, _, q1, P.i, .same _ _ _, q2, P.m, Nat.le_succ _, nofun, Nat.le_refl _⟩
theorem Ru_take {ps : List Pt} {ns : Nts} {i j : Nat} {p q : Pt} (hp : ps[i]? = some p) (hi : i < 16) (hn : ns[j]? = some (i, q)) (k : Int) : Ru (ps.set i q) (ns.take j) k + b1 (p.v = k) = Ru ps (ns.take (j + 1)) k := by
  have h1 := Ru_now (ns := ns.take j) hp hi q k
  have h2 := useN_snoc k (ns.take j) (i, q)
  rw [b1_and (show (i, q).1 < 16 from hi)] at h2
  rw [take_snoc hn]
  unfold Ru uses at *
  rw [h2]
  show base k + (useP k (ps.set i q) + useN k (ns.take j)) + _ = base k + (useP k ps + (useN k (ns.take j) + b1 (q.v = k)))
  omega
theorem Ru_take_far {ps : List Pt} {ns : Nts} {i j : Nat} {q : Pt} (hi : 16 ≤ i) (hn : ns[j]? = some (i, q)) : Ru (ps.set i q) (ns.take j) = Ru ps (ns.take (j + 1)) := by
  funext k
  rw [take_snoc hn]
  unfold Ru uses
  rw [useP_far hi, useN_snoc, b1_no (fun e => by have := e.1; simp only at this; omega)]
  rfl
theorem Du_take {ps : List Pt} {ns : Nts} {j : Nat} {p q : Pt} (hp : ps[16]? = some p) (hn : ns[j]? = some (16, q)) (k : Int) : Du (ps.set 16 q) (ns.take j) k + b1 (p.v = k) = Du ps (ns.take (j + 1)) k := by
  have h1 := Du_now (ns := ns.take j) hp q k
  have h2 := dirN_snoc k (ns.take j) (16, q)
  rw [b1_and (show (16, q).1 = 16 from rfl)] at h2
  rw [take_snoc hn]
  unfold Du dirs at *
  rw [h2]
  show dirQ k (ps.set 16 q) + dirN k (ns.take j) + _ = dirQ k ps + (dirN k (ns.take j) + b1 (q.v = k))
  omega
theorem Du_take_far {ps : List Pt} {ns : Nts} {i j : Nat} {q : Pt} (hi : i ≠ 16) (hn : ns[j]? = some (i, q)) : Du (ps.set i q) (ns.take j) = Du ps (ns.take (j + 1)) := by
  funext k
  rw [take_snoc hn]
  unfold Du dirs
  rw [dirQ_far hi, dirN_snoc, b1_no (fun e => hi e.1)]
  rfl
theorem back_drop {ps : List Pt} {ns : Nts} {i j : Nat} {q : Pt} (hn : ns[j]? = some (i, q)) : back (ns.drop j) ps = (back (ns.drop (j + 1)) ps).set i q := by
  obtain ⟨h1, h2⟩ := List.getElem?_eq_some_iff.1 hn
  rw [List.drop_eq_getElem_cons h1, h2]
  rfl
def Undone (B : Nat) (F : Nat → Prop) (c : Sy) (pb lb most nest : Nat) (ps : List Pt) (ns : Nts) (mk : List Nat) (N : Nat) (w w' : World) : Prop :=
  ∃ mk0 m, mk = mk0 ++ [m] ∧ m ≤ ns.length ∧ ∃ F' s', PrR w' B F' c pb lb most nest s' (back (ns.drop m) ps) (ns.take m) mk0 ∧ Inv s' (Ru (back (ns.drop m) ps) (ns.take m)) (Du (back (ns.drop m) ps) (ns.take m)) N ∧ PCh B F F' pb w w'
theorem dUndo (P : PI w B F c pb lb most nest s ps ns mk N) (hN : N ≤ 900) :
    Calls Tryz.prog 23 #[ptrV pb] w fun e w' => ∃ er, e = .returned (.int .i64 er) ∧ (mk = [] ∧ PStp B F c pb lb most nest ps ns mk N w er w' ∨ er = 0 ∧ Undone B F c pb lb most nest ps ns mk N w w') := by
  have hnn := P.n
  rcases List.eq_nil_or_concat mk with rfl | ⟨mk0, m, e0⟩
  · obtain ⟨ms, fs, h1, h2, h3, h4, h5⟩ := P.r.log
    obtain rfl : ms = [] := by simpa using h3
    refine (PUndo_any P.r.prc (fun er w' => er = 1 ∧ w' = w) ((LogUndo_none h1).mono ?_)).mono ?_
    · rintro e w' ⟨rfl, hw⟩
      exact ⟨_, rfl, rfl, hw⟩
    · rintro e w' ⟨er, rfl, rfl, hw⟩
      obtain rfl := hw.symm
      exact ⟨_, rfl, .inl ⟨rfl, P.none_ (by decide) (grownBy_re _)⟩⟩
  · obtain rfl : mk = mk0 ++ [m] := by rw [e0]; simp
    have hL := P.l
    rw [List.reverse_append] at hL
    have hm : m ≤ ns.length := hL.1
    refine (PUndo_any P.r.prc (fun er w' => er = 0 ∧ ∃ F' s', PrR w' B F' c pb lb most nest s' (back (ns.drop m) ps) (ns.take m) mk0 ∧ Inv s' (Ru (back (ns.drop m) ps) (ns.take m)) (Du (back (ns.drop m) ps) (ns.take m)) N ∧ PCh B F F' pb w w') ((undo_gen P.r hm (fun j s' ps' => Inv s' (Ru ps' (ns.take j)) (Du ps' (ns.take j)) N ∧ ps' = back (ns.drop j) ps) ⟨by rw [List.take_length]; exact P.i, by rw [List.drop_length]; rfl⟩ ?_).mono ?_)).mono ?_
    · rintro j W F' s' ps' i q p hj hmj hS ⟨I, e1⟩ hp
      have hDl : ∀ ps'' : List Pt, ∀ n, Du ps'' (ns.take (j + 1)) n ≤ 100000 := fun ps'' n => by
        have := Du_le ps'' (ns.take (j + 1)) n
        have : (ns.take (j + 1)).length ≤ ns.length := by rw [List.length_take]; omega
        omega
      have eb : ps'.set i q = back (ns.drop j) ps := by rw [e1, back_drop hj]
      refine ⟨fun hi => ⟨fun hv => ⟨?_, eb⟩, fun hv => ?_⟩, fun hi => ?_, fun hi => ⟨?_, eb⟩⟩
      · refine I.congr hS.sys.zero (fun k hk => ?_) (fun n => by rw [Du_take_far (by omega) hj])
        have := Ru_take hp hi hj k
        rw [b1_no (fun e => hk (by rw [← e, hv]))] at this
        exact this
      · have hR := Ru_take hp hi hj
        obtain ⟨x, hx⟩ := I.ex p.v hv (by have := hR p.v; unfold b1 at this; rw [if_pos rfl] at this; omega)
        refine (iUnref hS.sys I (by omega) (hDl _) (by have := hR p.v; unfold b1 at this; rw [if_pos rfl] at this; have q : base p.v ≤ Ru (ps'.set i q) (ns.take j) p.v := Nat.le_add_right _ _; omega) hx).mono ?_
        rintro e w' ⟨rfl, F2, s2, h1, h2, h3⟩
        refine ⟨⟨_, rfl⟩, F2, s2, h1, h3, h2.congr h1.zero (fun k hk => ?_) (fun n => by rw [Du_take_far (by omega) hj]), eb⟩
        have := hR k
        unfold dec
        unfold b1 at this
        by_cases e : k = p.v
        · rw [if_pos e.symm] at this
          rw [if_pos e]
          omega
        · rw [if_neg (fun q => e q.symm)] at this
          rw [if_neg e]
          omega
      · subst hi
        have hR := Du_take hp hj
        refine (iDrop hS.sys I (by omega) (hDl _) (n := p.v) (by have := hR p.v; unfold b1 at this; rw [if_pos rfl] at this; omega)).mono ?_
        rintro e w' ⟨rfl, F2, s2, h1, h2, h3⟩
        refine ⟨⟨_, rfl⟩, F2, s2, h1, h3, h2.congr h1.zero (fun k hk => by rw [Ru_take_far (Nat.le_refl _) hj]) (fun n => ?_), eb⟩
        have := hR n
        unfold dec
        unfold b1 at this
        by_cases e : n = p.v
        · rw [if_pos e.symm] at this
          rw [if_pos e]
          omega
        · rw [if_neg (fun q => e q.symm)] at this
          rw [if_neg e]
          omega
      · rw [Ru_take_far (by omega) hj, Du_take_far (by omega) hj]
        exact I
    · rintro e w' ⟨rfl, F', s', ps', q1, q2, I, rfl⟩
      exact ⟨_, rfl, rfl, F', s', q1, I, q2⟩
    · rintro e w' ⟨er, rfl, rfl, F', s', q1, I, q2⟩
      exact ⟨_, rfl, .inr ⟨rfl, mk0, m, rfl, hm, F', s', q1, I, q2⟩⟩
theorem dRemove (P : PI w B F c pb lb most nest s ps ns mk N) (hN : N ≤ 800) (a : Int) (p : ByteArray) (hp : p.size ≤ 1000000) :
    Calls Tryz.prog 77 #[ptrV c.fb, .int .i64 a, .string p] w fun e w' => ∃ er, e = .returned (.int .i64 er) ∧ PStp B F c pb lb most nest ps ns mk (N + 1) w er w' := by
  refine (iRemove P.r.sys P.i hN a p hp).mono ?_
  rintro e w' ⟨⟨er, rfl, he⟩, h⟩
  exact ⟨er, rfl, P.stay he h⟩
theorem dOpen (P : PI w B F c pb lb most nest s ps ns mk N) (hN : N ≤ 900) (fd x : Int) (t : ByteArray) (ht : t.size ≤ 1000000) :
    Calls Tryz.prog 67 #[ptrV pb, .int .i64 fd, .string t, .int .i64 x] w fun e w' => ∃ er, e = .returned (.int .i64 er) ∧ PStp B F c pb lb most nest ps ns mk (N + 3) w er w' := by
  have hnn := P.n
  rcases fdE_cases fd with h | ⟨i, hi, rfl⟩
  · refine (POpen_bad P.r.prc fd x t h).mono ?_
    rintro e w' ⟨rfl, hw⟩
    obtain rfl := hw.symm
    exact ⟨_, rfl, (P.none_ (by decide) (grownBy_re _)).le (by omega)⟩
  by_cases hx : x < 1 ∨ 4 < x
  · refine (POpen_kind P.r.prc hi x hx t).mono ?_
    rintro e w' ⟨rfl, hw⟩
    obtain rfl := hw.symm
    exact ⟨_, rfl, (P.none_ (by decide) (grownBy_re _)).le (by omega)⟩
  obtain ⟨k, rfl⟩ : ∃ k : Nat, x = (k : Int) := ⟨x.toNat, by omega⟩
  obtain ⟨d, hd⟩ := P.r.part (show 16 < 18 by omega)
  have hDl : ∀ n, Du ps ns n ≤ 100000 := fun n => by have := Du_le ps ns n; omega
  have hwk : ∀ w1, w.grownBy w1 none → Calls Tryz.prog 69 #[.pointer (some ⟨c.fb, 0, none⟩), .int .i64 d.v, .string t, .bool true] w1 fun e w' => e = .returned (.tuple #[.int .i64 (WalkQ s.nds d.v (tl t) true).1, .int .i64 (WalkQ s.nds d.v (tl t) true).2]) ∧ w.grownBy w' none := fun w1 g1 => by
    obtain ⟨Ft, Fp, Fh, hh, hF⟩ := (P.r.grown g1).1.sys
    obtain ⟨lab, mb, mem, hT, hFt⟩ := hh.tree
    refine (Walk_any hT P.i.tok true d.v t ht).mono ?_
    rintro e w' ⟨rfl, g2⟩
    exact ⟨rfl, grownBy_tr g1 g2⟩
  have hno := (WalkQ_no P.i.tok d.v (tl t) true).1
  refine POpen_any P.r.prc hi t k (by omega) (by omega) (fun id er w1 => er ≠ 43 ∧ ∃ F1 s1, PrR w1 B F1 c pb lb most nest s1 ps ns mk ∧ PCh B F F1 pb w w1 ∧ (er ≠ 0 ∧ Inv s1 (Ru ps ns) (Du ps ns) (N + 3) ∨ er = 0 ∧ id ≠ 0 ∧ Inv s1 (inc (Ru ps ns) id) (Du ps ns) (N + 3))) _
    (openFile_any P.r.prc hd t k (by omega) (by omega) _ _ (fun n er w1 => er ≠ 43 ∧ ∃ F1 s1, PrR w1 B F1 c pb lb most nest s1 ps ns mk ∧ PCh B F F1 pb w w1 ∧ Inv s1 (Ru ps ns) (Du ps ns) (N + 1))
      (fun n id er w1 => er ≠ 43 ∧ ∃ F1 s1, PrR w1 B F1 c pb lb most nest s1 ps ns mk ∧ PCh B F F1 pb w w1 ∧ (er ≠ 0 ∧ Inv s1 (Ru ps ns) (Du ps ns) (N + 2) ∨ er = 0 ∧ id ≠ 0 ∧ Inv s1 (inc (Ru ps ns) id) (Du ps ns) (N + 2) ∧ ∃ y, look s1.nds n = some y ∧ y.kind = 2)) _ hwk ?_ ?_ ?_ ?_ ?_ ?_ ?_ ?_) ?_ ?_
  · intro w1 g1 _
    obtain ⟨q1, q2⟩ := P.r.grown g1
    exact ⟨hno, F, s, q1, q2, P.i.le (Nat.le_succ _)⟩
  · intro _ _ w1 g1
    obtain ⟨q1, q2⟩ := P.r.grown g1
    refine (iMake q1.sys P.i (by omega) P.cm d.v t ht).mono ?_
    rintro e w' ⟨m, er, rfl, he, F2, s2, h1, h2, h3, _, _⟩
    obtain ⟨F3, h4, h5⟩ := q1.sysStep h1 h3
    exact ⟨m, er, rfl, he, F3, s2, h4, q2.trans h5, h2⟩
  · rintro n er w1 ⟨_, F1, s1, h1, _⟩
    exact h1.prc
  · rintro n er w1 ⟨he, F1, s1, h1, h2, h3⟩ h0
    exact ⟨he, F1, s1, h1, h2, .inl ⟨h0, h3.le (by omega)⟩⟩
  · rintro n w1 w2 ⟨_, F1, s1, h1, h2, h3⟩ g2
    obtain ⟨q1, q2⟩ := h1.grown g2
    refine (iFile q1.sys h3 (by omega) hDl n _ _ _).mono ?_
    rintro e w' ⟨id, er, rfl, he, F2, s2, h4, h5, h6⟩
    obtain ⟨F3, h7, h8⟩ := q1.sysStep h4 h5
    refine ⟨id, er, rfl, he, F3, s2, h7, (h2.trans q2).trans h8, ?_⟩
    rcases h6 with ⟨e0, rfl⟩ | h6
    · exact .inl ⟨e0, h3.le (Nat.le_succ _)⟩
    · exact .inr h6
  · rintro n id er w1 ⟨_, F1, s1, h1, _⟩
    exact h1.prc
  · rintro _ n id w1 ⟨_, F1, s1, h1, h2, h3⟩
    rcases h3 with ⟨e0, _⟩ | ⟨_, h0, h3, y, hy, hyk⟩
    · exact absurd rfl e0
    · refine (iCut h1.sys h3 (by omega) hy hyk (by rw [P.cr]; omega)).mono ?_
      rintro e w' ⟨rfl, F2, s2, h4, h5, h6⟩
      obtain ⟨F3, h7, h8⟩ := h1.sysStep h4 h6
      exact ⟨⟨_, rfl⟩, by decide, F3, s2, h7, h2.trans h8, .inr ⟨rfl, h0, h5⟩⟩
  · rintro n id er w1 ⟨he, F1, s1, h1, h2, h3⟩ _
    refine ⟨he, F1, s1, h1, h2, ?_⟩
    rcases h3 with ⟨e0, h3⟩ | ⟨e0, h0, h3, _⟩
    · exact .inl ⟨e0, h3.le (Nat.le_succ _)⟩
    · exact .inr ⟨e0, h0, h3.le (Nat.le_succ _)⟩
  · rintro id er w1 ⟨he, F1, s1, h1, h2, h3⟩ h0
    rcases h3 with ⟨_, h3⟩ | ⟨e0, _⟩
    · exact ⟨F1, s1, _, _, _, h1, h3, .same _ _ _, h2, P.m, Nat.le_succ _, fun e => absurd e he, Nat.le_refl _⟩
    · exact absurd e0 h0
  · rintro id w1 ⟨_, F1, s1, h1, h2, h3⟩
    rcases h3 with ⟨e0, _⟩ | ⟨_, h0, h3⟩
    · exact absurd rfl e0
    · refine ⟨h1.prc.lt, (chg_fd h1 hi (by unfold hand; rw [if_neg h0]; exact h3) P.l (by omega) P.m (by omega)).mono ?_⟩
      rintro e w' ⟨er, rfl, q⟩
      exact ⟨er, rfl, q.pre h2⟩
end
section
variable {w : World} {pb fb tb lb : Nat} {ps : List Pt}
theorem PChdir_any (hp : PB w pb fb tb lb ps) {d : Pt} (hd : ps[16]? = some d) (t : ByteArray) (W1 W2 : Int)
    (hW : ∀ w1, w.grownBy w1 none → Calls Tryz.prog 69 #[.pointer (some ⟨fb, 0, none⟩), .int .i64 d.v, .string t, .bool true] w1 fun e w' => e = .returned (.tuple #[.int .i64 W1, .int .i64 W2]) ∧ w.grownBy w' none)
    (R : Int → World → Prop) (h0 : W2 ≠ 0 → ∀ w', w.grownBy w' none → R W2 w') (kd sz nd ho : Int)
    (hS : W2 = 0 → ∀ w1, w.grownBy w1 none → Calls Tryz.prog 27 #[.pointer (some ⟨fb, 0, none⟩), .int .i64 W1] w1 fun e w' => e = .returned (.tuple #[.agg #[.int .i64 kd, .int .i64 sz, .int .i64 nd, .int .i64 ho], .int .i64 0]) ∧ w1.grownBy w' none)
    (h12 : W2 = 0 → kd ≠ 1 → ∀ w', w.grownBy w' none → R 12 w') (R1 : World → Prop)
    (hH : W2 = 0 → kd = 1 → ∀ w1, w.grownBy w1 none → Calls Tryz.prog 90 #[.pointer (some ⟨fb, 0, none⟩), .int .i64 W1] w1 fun e w' => (∃ er, e = .returned (.int .i64 er)) ∧ R1 w')
    (hP1 : ∀ w1, R1 w1 → PB w1 pb fb tb lb ps)
    (hC : ∀ w1, R1 w1 → Calls Tryz.prog 83 #[ptrV pb, partP pb 16, .int .i64 W1, .func (.func 121) #[ptrV pb] #[]] w1 fun e w' => ∃ er, e = .returned (.int .i64 er) ∧ R er w') :
    Calls Tryz.prog 75 #[ptrV pb, .string t] w fun e w' => ∃ er, e = .returned (.int .i64 er) ∧ R er w' := by
  have hi := pisNil_no hp
  have c0 : w.cell? ⟨pb, 0, none⟩ = some (.pointer (some ⟨fb, 0, none⟩)) := hp.cell (i := 0) rfl
  have c35 : w.cell? ⟨pb, 35, none⟩ = some (.int .i64 d.v) := hp.cell (procC_v (fb := fb) (tb := tb) (lb := lb) hd)
  have hpl := hp.lt
  unfold partP at hC
  unfold ptrV at hi hC ⊢
  replace hW := Lib.hid hW
  replace h0 := Lib.hid h0
  replace hS := Lib.hid hS
  replace h12 := Lib.hid h12
  replace hH := Lib.hid hH
  replace hP1 := Lib.hid hP1
  replace hC := Lib.hid hC
  replace hp := Lib.hid hp
  go_enter Tryz.func75, Tryz.ntmps75
  go_wp2_with fail
  refine hi.mono ?_
  rintro e wz ⟨rfl, hwz⟩
  obtain rfl := hwz.symm
  clear hi hwz
  go_upto_region 3 with fail
  have g0 : w.grownBy w.drew none := grownBy_drewN (grownBy_re w) 1
  have hW0 := hW.out w.drew g0
  have hk0 : w.drew.cell? ⟨pb, 0, none⟩ = some (.pointer (some ⟨fb, 0, none⟩)) ∧ w.drew.cell? ⟨pb, 35, none⟩ = some (.int .i64 d.v) := ⟨c0, c35⟩
  replace hW0 := Lib.hid hW0
  replace g0 := Lib.hid g0
  go_region_held3 (fun w' => w'.cell? ⟨pb, 0, none⟩ = some (.pointer (some ⟨fb, 0, none⟩)) ∧ w'.cell? ⟨pb, 35, none⟩ = some (.int .i64 d.v))
    (first | go_keep | exact hk0 | exact hkk)
    ((go_at_call 69; refine hW0.out.mono ?_; rintro e w5 ⟨rfl, g5⟩; have hkk : w5.cell? ⟨pb, 0, none⟩ = some (.pointer (some ⟨fb, 0, none⟩)) ∧ w5.cell? ⟨pb, 35, none⟩ = some (.int .i64 d.v) := ⟨(World.cell?_of_block (a := ⟨pb, 0, none⟩) (g5.block pb hpl (by simp))).trans c0, (World.cell?_of_block (a := ⟨pb, 35, none⟩) (g5.block pb hpl (by simp))).trans c35⟩))
  have hp5 : PB w5 pb fb tb lb ps := (g5.block pb hpl (by simp)).trans hp.out
  replace g5 := Lib.hid g5
  replace hp5 := Lib.hid hp5
  clear hk0 hW0 g0 hW c0 c35
  have hpl5 := hp5.out.lt
  obtain ⟨d0, d35⟩ := hkk
  by_cases hc : W2 ≠ 0
  · have hR := h0.out hc w5 g5.out
    have e0 : (W2 == 0) = false := by rw [beq_eq_false_iff_ne]; exact hc
    replace hR := Lib.hid hR
    clear hc
    go_wp2
    go_ret
    exact ⟨_, rfl, hR.out⟩
  · obtain rfl : W2 = 0 := Decidable.not_not.1 hc
    have hS5 := hS.out rfl w5 g5.out
    clear hc
    go_wp2_with fail
    refine hS5.mono ?_
    rintro e w6 ⟨rfl, g6⟩
    clear hS5
    go_upto_region 7 with fail
    have zb : Blk (w6.alloc (.cells #[.int .i64 kd, .int .i64 sz, .int .i64 nd, .int .i64 ho] 68)) w6.heap.size [.int .i64 kd, .int .i64 sz, .int .i64 nd, .int .i64 ho] 68 := Blk.new w6 _ _
    have g7 := grownBy_tr g6 (World.grownBy_alloc w6 (.cells #[.int .i64 kd, .int .i64 sz, .int .i64 nd, .int .i64 ho] 68) none)
    generalize (w6.alloc (.cells #[.int .i64 kd, .int .i64 sz, .int .i64 nd, .int .i64 ho] 68)) = w7 at zb g7 ⊢
    generalize w6.heap.size = z at zb ⊢
    have z0 := zb.cell (i := 0) rfl
    have g8 := grownBy_tr g5.out g7
    have hp7 : PB w7 pb fb tb lb ps := (g7.block pb hpl5 (by simp)).trans hp5.out
    have f0 : w7.cell? ⟨pb, 0, none⟩ = some (.pointer (some ⟨fb, 0, none⟩)) := hp7.cell (i := 0) rfl
    have hpl7 := hp7.lt
    have hzl := zb.lt
    clear g6
    replace g7 := Lib.hid g7
    replace zb := Lib.hid zb
    replace hp7 := Lib.hid hp7
    by_cases hk : kd ≠ 1
    · have hR := h12.out (by trivial) hk w7 g8
      have e0 : (kd == 1) = false := by rw [beq_eq_false_iff_ne]; exact hk
      replace hR := Lib.hid hR
      clear hk g8
      go_wp2
      go_ret
      exact ⟨_, rfl, hR.out⟩
    · obtain rfl : kd = 1 := Decidable.not_not.1 hk
      have hH7 := hH.out (by trivial) (by trivial) w7 g8
      clear hk g8
      go_wp2_with fail
      refine hH7.mono ?_
      rintro e w8 ⟨⟨er, rfl⟩, hR1⟩
      have hp8 := hP1.out w8 hR1
      have hC8 := hC.out w8 hR1
      have hpl8 := hp8.lt
      replace hp8 := Lib.hid hp8
      replace hR1 := Lib.hid hR1
      clear hH7 f0 z0 hpl7 hzl
      go_wp2_with fail
      refine hC8.mono ?_
      rintro e w9 ⟨er2, rfl, hR⟩
      replace hR := Lib.hid hR
      clear hC8 hpl8
      go_wp2
      go_ret
      exact ⟨_, rfl, hR.out⟩
end
def askP (a : Int) : Int := (a.tmod 12 + 12).tmod 12
theorem askP_in (a : Int) : askP a = 0 ∨ askP a = 1 ∨ askP a = 2 ∨ askP a = 3 ∨ askP a = 4 ∨ askP a = 5 ∨ askP a = 6 ∨ askP a = 7 ∨ askP a = 8 ∨ askP a = 9 ∨ askP a = 10 ∨ askP a = 11 := by
  have h1 := Int.tmod_lt_of_pos a (show (0 : Int) < 12 by decide)
  have h2 := Int.lt_tmod_of_pos a (show (0 : Int) < 12 by decide)
  unfold askP
  rw [Int.tmod_eq_emod_of_nonneg (by omega)]
  omega
def opV (q : Opd) : Value := .agg #[.int .i64 q.1, .int .i64 q.2.1, .int .i64 q.2.2.1, .int .i64 q.2.2.2.1, .int .i64 q.2.2.2.2.1, .string q.2.2.2.2.2.1, .string q.2.2.2.2.2.2]
theorem ask_any (q : Opd) (hq : In4 q) (w : World) : Calls Tryz.prog 22 #[opV q] w fun e w' => e = .returned (.int .i64 (askP q.1)) ∧ w.grownBy w' none := by
  obtain ⟨a, fd, fr, k, n, p, d⟩ := q
  obtain ⟨⟨ha, hb⟩, _⟩ := hq
  dsimp only at ha hb ⊢
  unfold opV
  have gA : w.grownBy (w.alloc (.cells #[.int .i64 a, .int .i64 fd, .int .i64 fr, .int .i64 k, .int .i64 n, .string p, .string d] 53)) none := World.grownBy_alloc w _ _
  have bb : Blk (w.alloc (.cells #[.int .i64 a, .int .i64 fd, .int .i64 fr, .int .i64 k, .int .i64 n, .string p, .string d] 53)) w.heap.size [.int .i64 a, .int .i64 fd, .int .i64 fr, .int .i64 k, .int .i64 n, .string p, .string d] 53 := Blk.new w _ _
  have hR : (wrap64 (a.tmod 12 + 12)).tmod 12 = askP a := by
    have h1 := Int.tmod_lt_of_pos a (show (0 : Int) < 12 by decide)
    have h2 := Int.lt_tmod_of_pos a (show (0 : Int) < 12 by decide)
    have h3 : wrap64 (a.tmod 12 + 12) = a.tmod 12 + 12 := by unfold wrap64; omega
    rw [h3]; rfl
  go_enter Tryz.func22, Tryz.ntmps22
  go_upto_region 1 with fail
  generalize (w.alloc (.cells #[.int .i64 a, .int .i64 fd, .int .i64 fr, .int .i64 k, .int .i64 n, .string p, .string d] 53)) = w1 at gA bb ⊢
  generalize w.heap.size = z at bb ⊢
  have b0 := bb.cell (i := 0) rfl
  have bl := bb.lt
  replace gA := Lib.hid gA
  clear bb
  go_wp2
  try rw [hR]
  go_ret
  exact ⟨rfl, gA.out⟩
def fewB (l : List Opd) : Bool := decide (l.length ≤ 50) && l.all fun o => decide (o.2.2.2.2.2.1.size ≤ 100) && decide (o.2.2.2.2.2.2.size ≤ 100)
theorem few_any (l : List Opd) (v : Value) (w0 w : World) (h : Ops w0 v l) (hm : ∀ b, b < w0.heap.size → w.heap[b]? = w0.heap[b]?) (hs : w0.heap.size ≤ w.heap.size) : Calls Tryz.prog 15 #[v] w fun e w' => e = .returned (.bool (fewB l)) ∧ w' = w := by
  obtain ⟨A, c, rfl, hc, hcm⟩ := h.form
  unfold maxLen at hcm
  obtain ⟨r, hr⟩ : ∃ r, fewB l = r := ⟨_, rfl⟩
  rw [hr]
  replace hr := Lib.hid hr
  have hops := fun k hk => ops_keep h hm k hk
  replace hops := Lib.hid hops
  replace hs := Lib.hid hs
  obtain ⟨KL, hKL⟩ : ∃ KL, l.length = KL := ⟨_, rfl⟩
  rw [hKL] at hc ⊢
  replace hKL := Lib.hid hKL
  clear h hm
  by_cases hlen : 50 < KL
  · have hi : (50 : Int) < (KL : Int) := by omega
    have hrf : r = false := by
      rw [← hr.out]
      unfold fewB
      rw [hKL.out]
      simp; omega
    subst hrf
    go_enter Tryz.func15, Tryz.ntmps15
    go_wp2
    go_ret
    exact ⟨rfl, rfl⟩
  · have hi : ¬ (50 : Int) < (KL : Int) := by omega
    go_enter Tryz.func15, Tryz.ntmps15
    go_wp2
    go_loopw [3] (fun nv wr => ∃ n : Nat, n ≤ KL ∧ nv = .int .i64 (n : Int) ∧ wr = w ∧ Hid (∀ k (hk : k < l.length), k < n → l[k].2.2.2.2.2.1.size ≤ 100 ∧ l[k].2.2.2.2.2.2.size ≤ 100)) (fun nv _ => KL - (intOf nv).toNat)
    case atStart => exact ⟨0, Nat.zero_le _, rfl, rfl, Lib.hid fun _ _ h => absurd h (Nat.not_lt_zero _)⟩
    case round =>
      obtain ⟨n, hn, rfl, rfl, hall⟩ := hrel
      by_cases hlt : n < KL
      · have hlt' : n < l.length := by rw [hKL.out]; exact hlt
        obtain ⟨b, off, rfl, hb, _, _, _, _, _, c5, c6⟩ := hops.out n hlt'
        replace hb := Nat.lt_of_lt_of_le hb hs.out
        obtain ⟨s, hs5⟩ : ∃ s, l[n].2.2.2.2.2.1 = s := ⟨_, rfl⟩
        obtain ⟨t, hs6⟩ : ∃ s, l[n].2.2.2.2.2.2 = s := ⟨_, rfl⟩
        rw [hs5] at c5
        rw [hs6] at c6
        replace hs5 := Lib.hid hs5
        replace hs6 := Lib.hid hs6
        by_cases h3 : 100 < s.size
        · have hrf : r = false := by
            rw [← hr.out]
            unfold fewB
            rw [Bool.and_eq_false_iff]
            right
            rw [List.all_eq_false]
            exact ⟨l[n], List.getElem_mem _, by rw [hs5.out]; simp; omega⟩
          subst hrf
          have h3i : (100 : Int) < (s.size : Int) := by omega
          go_wp2
          go_ret
          exact ⟨rfl, rfl⟩
        · have h3i : ¬ (100 : Int) < (s.size : Int) := by omega
          by_cases h4 : 100 < t.size
          · have hrf : r = false := by
              rw [← hr.out]
              unfold fewB
              rw [Bool.and_eq_false_iff]
              right
              rw [List.all_eq_false]
              exact ⟨l[n], List.getElem_mem _, by rw [hs6.out]; simp; omega⟩
            subst hrf
            have h4i : (100 : Int) < (t.size : Int) := by omega
            go_wp2
            go_ret
            exact ⟨rfl, rfl⟩
          · have h4i : ¬ (100 : Int) < (t.size : Int) := by omega
            have hall2 : Hid (∀ k (hk : k < l.length), k < n + 1 → l[k].2.2.2.2.2.1.size ≤ 100 ∧ l[k].2.2.2.2.2.2.size ≤ 100) := fun k hk h => by
              rcases Nat.lt_or_ge k n with h' | h'
              · exact hall.out k hk h'
              · obtain rfl : k = n := by omega
                rw [hs5.out, hs6.out]; omega
            clear hall
            go_wp2
            go_roundw
            case rel => exact ⟨n + 1, by omega, by go_num, trivial, hall2⟩
            case measure => simp [intOf]; omega
      · obtain rfl : n = KL := by omega
        have hrt : r = true := by
          rw [← hr.out]
          unfold fewB
          rw [Bool.and_eq_true, List.all_eq_true]
          refine ⟨by rw [hKL.out]; simp; omega, fun o ho => ?_⟩
          obtain ⟨k, hk, rfl⟩ := List.getElem_of_mem ho
          have := hall.out k hk (by have := hKL.out; omega)
          simpa using this
        subst hrt
        go_wp2
        go_ret
        exact ⟨rfl, rfl⟩
theorem few_true {l : List Opd} (h : fewB l = true) : l.length ≤ 50 ∧ ∀ k (hk : k < l.length), l[k].2.2.2.2.2.1.size ≤ 100 ∧ l[k].2.2.2.2.2.2.size ≤ 100 := by
  unfold fewB at h
  rw [Bool.and_eq_true, List.all_eq_true] at h
  exact ⟨by simpa using h.1, fun k hk => by simpa using h.2 _ (List.getElem_mem hk)⟩
section
variable {w w1 : World} {B : Nat} {F F1 : Nat → Prop} {c : Sy} {pb lb most nest : Nat} {s : St} {ps : List Pt} {ns : Nts} {mk : List Nat} {N M : Nat}
theorem Undone.pre (h : PCh B F F1 pb w w1) {w' : World} (t : Undone B F1 c pb lb most nest ps ns mk N w1 w') : Undone B F c pb lb most nest ps ns mk N w w' := by
  obtain ⟨mk0, m, e1, e2, F', s', q1, q2, q3⟩ := t
  exact ⟨mk0, m, e1, e2, F', s', q1, q2, h.trans q3⟩
theorem Undone.le {w' : World} (t : Undone B F c pb lb most nest ps ns mk N w w') (h : N ≤ M) : Undone B F c pb lb most nest ps ns mk M w w' := by
  obtain ⟨mk0, m, e1, e2, F', s', q1, q2, q3⟩ := t
  exact ⟨mk0, m, e1, e2, F', s', q1, q2.le h, q3⟩
def PDid (B : Nat) (F : Nat → Prop) (c : Sy) (pb lb most nest : Nat) (ps : List Pt) (ns : Nts) (mk : List Nat) (N : Nat) (w : World) (a er : Int) (w' : World) : Prop :=
  PStp B F c pb lb most nest ps ns mk N w er w' ∨ a = 10 ∧ er = 0 ∧ Undone B F c pb lb most nest ps ns mk N w w'
theorem dChdir (P : PI w B F c pb lb most nest s ps ns mk N) (hN : N ≤ 900) (t : ByteArray) (ht : t.size ≤ 1000000) :
    Calls Tryz.prog 75 #[ptrV pb, .string t] w fun e w' => ∃ er, e = .returned (.int .i64 er) ∧ PStp B F c pb lb most nest ps ns mk N w er w' := by
  have hnn := P.n
  obtain ⟨d, hd⟩ := P.r.part (show 16 < 18 by omega)
  have hDl : ∀ n, Du ps ns n ≤ 100000 := fun n => by have := Du_le ps ns n; omega
  obtain ⟨hno, hok⟩ := WalkQ_no P.i.tok d.v (tl t) true
  have hwk : ∀ w1, w.grownBy w1 none → Calls Tryz.prog 69 #[.pointer (some ⟨c.fb, 0, none⟩), .int .i64 d.v, .string t, .bool true] w1 fun e w' => e = .returned (.tuple #[.int .i64 (WalkQ s.nds d.v (tl t) true).1, .int .i64 (WalkQ s.nds d.v (tl t) true).2]) ∧ w.grownBy w' none := fun w1 g1 => by
    obtain ⟨Ft, Fp, Fh, hh, hF⟩ := (P.r.grown g1).1.sys
    obtain ⟨lab, mb, mem, hT, hFt⟩ := hh.tree
    refine (Walk_any hT P.i.tok true d.v t ht).mono ?_
    rintro e w' ⟨rfl, g2⟩
    exact ⟨rfl, grownBy_tr g1 g2⟩
  generalize (WalkQ s.nds d.v (tl t) true).1 = W1 at hwk hok
  generalize (WalkQ s.nds d.v (tl t) true).2 = W2 at hwk hok hno
  by_cases h2 : W2 = 0
  · obtain ⟨y, hy⟩ := hok h2
    have hnl := (P.i.good.nms W1 y hy).1
    refine PChdir_any P.r.prc hd t W1 W2 hwk _ (fun e => absurd h2 e) (y.kind : Int) ((y.data.length + nmsLen y : Nat) : Int) (y.named : Int) (y.holds : Int) (fun _ w1 g1 => ?_) (fun _ _ w' g => P.none_ (by decide) g) (fun w1 => ∃ F1 s1, PrR w1 B F1 c pb lb most nest s1 ps ns mk ∧ PCh B F F1 pb w w1 ∧ Inv s1 (Ru ps ns) (inc (Du ps ns) W1) N) (fun _ _ w1 g1 => ?_) ?_ ?_
    · obtain ⟨Ft, Fp, Fh, hh, hF⟩ := (P.r.grown g1).1.sys
      obtain ⟨lab, mb, mem, hT, hFt⟩ := hh.tree
      exact stat_some hT hy (by omega)
    · obtain ⟨q1, q2⟩ := P.r.grown g1
      refine (iHold q1.sys P.i (by omega) hDl hy).mono ?_
      rintro e w' ⟨rfl, F2, s2, h3, h4, h5⟩
      obtain ⟨F3, h6, h7⟩ := q1.sysStep h3 h5
      exact ⟨⟨_, rfl⟩, F3, s2, h6, q2.trans h7, h4⟩
    · rintro w1 ⟨F1, s1, q1, _⟩
      exact q1.prc
    · rintro w1 ⟨F1, s1, q1, q2, q3⟩
      refine (chg_dir q1 q3 P.l (by omega) P.m (by omega)).mono ?_
      rintro e w' ⟨er, rfl, q⟩
      exact ⟨er, rfl, q.pre q2⟩
  · exact PChdir_any P.r.prc hd t W1 W2 hwk _ (fun _ w' g => P.none_ hno g) 0 0 0 0 (fun e => absurd e h2) (fun e => absurd e h2) (fun _ => False) (fun e => absurd e h2) (fun w1 h => h.elim) (fun w1 h => h.elim)
end
theorem nl_world : ¬ LogT 48 := by unfold LogT; decide
theorem nl_op : ¬ LogT 53 := by unfold LogT; decide
theorem does_any {w : World} {B : Nat} {F : Nat → Prop} {c : Sy} {pb lb most nest : Nat} {s : St} {ps : List Pt} {ns : Nts} {mk : List Nat} {N : Nat} (P : PI w B F c pb lb most nest s ps ns mk N) (hN : N ≤ 700) (pl : Nat) (q : Opd) (hq : In4 q) (hp : q.2.2.2.2.2.1.size ≤ 100) (hd : q.2.2.2.2.2.2.size ≤ 100) :
    Calls Tryz.prog 18 #[.agg #[ptrV c.fb, ptrV pl, ptrV c.tb, ptrV lb, ptrV pb], opV q] w fun e w' => ∃ (n : Int) (t : ByteArray) (er : Int), e = .returned (.tuple #[.int .i64 n, .string t, .int .i64 er]) ∧ PDid B F c pb lb most nest ps ns mk (N + 3) w (askP q.1) er w' := by
  obtain ⟨f, hfE⟩ : ∃ f, c.fb = f := ⟨_, rfl⟩
  obtain ⟨t, htE⟩ : ∃ t, c.tb = t := ⟨_, rfl⟩
  have hask := fun w => ask_any q hq w
  have hn8 := hq.2.2.2.2.2
  obtain ⟨a, fd, fr, k, n, p, d⟩ := q
  rw [hfE, htE]
  dsimp only at hp hd hn8 hask ⊢
  have hR := askP_in a
  obtain ⟨R, hRe⟩ : ∃ R, askP a = R := ⟨_, rfl⟩
  rw [hRe] at hR hask ⊢
  unfold opV ptrV
  unfold opV at hask
  dsimp only at hask ⊢
  have gA : w.grownBy ((w.alloc (.cells #[.pointer (some ⟨f, 0, none⟩), .pointer (some ⟨pl, 0, none⟩), .pointer (some ⟨t, 0, none⟩), .pointer (some ⟨lb, 0, none⟩), .pointer (some ⟨pb, 0, none⟩)] 48)).alloc (.cells #[.int .i64 a, .int .i64 fd, .int .i64 fr, .int .i64 k, .int .i64 n, .string p, .string d] 53)) none := grownBy_tr (World.grownBy_alloc w _ _) (World.grownBy_alloc _ _ _)
  have ab : Blk ((w.alloc (.cells #[.pointer (some ⟨f, 0, none⟩), .pointer (some ⟨pl, 0, none⟩), .pointer (some ⟨t, 0, none⟩), .pointer (some ⟨lb, 0, none⟩), .pointer (some ⟨pb, 0, none⟩)] 48)).alloc (.cells #[.int .i64 a, .int .i64 fd, .int .i64 fr, .int .i64 k, .int .i64 n, .string p, .string d] 53)) w.heap.size [.pointer (some ⟨f, 0, none⟩), .pointer (some ⟨pl, 0, none⟩), .pointer (some ⟨t, 0, none⟩), .pointer (some ⟨lb, 0, none⟩), .pointer (some ⟨pb, 0, none⟩)] 48 := (Blk.new w _ _).alloc _
  have bb : Blk ((w.alloc (.cells #[.pointer (some ⟨f, 0, none⟩), .pointer (some ⟨pl, 0, none⟩), .pointer (some ⟨t, 0, none⟩), .pointer (some ⟨lb, 0, none⟩), .pointer (some ⟨pb, 0, none⟩)] 48)).alloc (.cells #[.int .i64 a, .int .i64 fd, .int .i64 fr, .int .i64 k, .int .i64 n, .string p, .string d] 53)) (w.alloc (.cells #[.pointer (some ⟨f, 0, none⟩), .pointer (some ⟨pl, 0, none⟩), .pointer (some ⟨t, 0, none⟩), .pointer (some ⟨lb, 0, none⟩), .pointer (some ⟨pb, 0, none⟩)] 48)).heap.size [.int .i64 a, .int .i64 fd, .int .i64 fr, .int .i64 k, .int .i64 n, .string p, .string d] 53 := Blk.new _ _ _
  have hsz : (w.alloc (.cells #[.pointer (some ⟨f, 0, none⟩), .pointer (some ⟨pl, 0, none⟩), .pointer (some ⟨t, 0, none⟩), .pointer (some ⟨lb, 0, none⟩), .pointer (some ⟨pb, 0, none⟩)] 48)).heap.size = w.heap.size + 1 := by simp
  rw [hsz] at bb
  clear hRe
  go_enter Tryz.func18, Tryz.ntmps18
  go_upto_region 1 with fail
  try simp only [hsz]
  generalize ((w.alloc (.cells #[.pointer (some ⟨f, 0, none⟩), .pointer (some ⟨pl, 0, none⟩), .pointer (some ⟨t, 0, none⟩), .pointer (some ⟨lb, 0, none⟩), .pointer (some ⟨pb, 0, none⟩)] 48)).alloc (.cells #[.int .i64 a, .int .i64 fd, .int .i64 fr, .int .i64 k, .int .i64 n, .string p, .string d] 53)) = w1 at gA ab bb ⊢
  obtain ⟨z, hzw⟩ : ∃ z, w.heap.size = z := ⟨_, rfl⟩
  rw [hzw] at ab bb ⊢
  replace hzw := Lib.hid hzw
  have hask1 := hask w1
  have b0 := bb.cell (i := 0) rfl
  have b1 := bb.cell (i := 1) rfl
  have b2 := bb.cell (i := 2) rfl
  have b3 := bb.cell (i := 3) rfl
  have b4 := bb.cell (i := 4) rfl
  have b5 := bb.cell (i := 5) rfl
  have b6 := bb.cell (i := 6) rfl
  have bl := bb.lt
  clear hsz hask
  replace gA := Lib.hid gA
  go_wp2_with fail
  refine hask1.mono ?_
  rintro e w2 ⟨rfl, g2⟩
  have ab2 : Blk w2 z _ _ := (g2.block z ab.lt (by simp)).trans ab
  have bb2 : Blk w2 (z + 1) _ _ := (g2.block (z + 1) bb.lt (by simp)).trans bb
  have a4 := ab2.cell (i := 4) rfl
  have a0 := ab2.cell (i := 0) rfl
  have b1 := bb2.cell (i := 1) rfl
  have b2 := bb2.cell (i := 2) rfl
  have b3 := bb2.cell (i := 3) rfl
  have b4 := bb2.cell (i := 4) rfl
  have b5 := bb2.cell (i := 5) rfl
  have b6 := bb2.cell (i := 6) rfl
  have al := ab2.lt
  have bl := bb2.lt
  have gB := grownBy_tr gA.out g2
  obtain ⟨P2r, hch⟩ := P.r.grown gB
  have P2 : PI w2 B F c pb lb most nest s ps ns mk N := ⟨P2r, P.i, P.l, P.m, P.n, P.cm, P.cr⟩
  have cast := fun (R : Int) (er : Int) (M : Nat) (w' : World) (hM : M ≤ N + 3) (t : PStp B F c pb lb most nest ps ns mk M w2 er w') => (show PDid B F c pb lb most nest ps ns mk (N + 3) w R er w' from .inl ((t.le hM).pre hch))
  replace cast := Lib.hid cast
  replace gB := Lib.hid gB
  replace ab2 := Lib.hid ab2
  replace bb2 := Lib.hid bb2
  clear ab bb g2 gA hask1
  have hopen := dOpen P2 (by omega) fd k p (by omega)
  have hput := dPut P2 (by omega) fd fr
  have hdup := dDup P2 (by omega) fd fr
  have hclose := dClose P2 (by omega) fd
  have hread := dRead P2 (by omega) fd n hn8
  have hwrite := dWrite P2 (by omega) fd d hd
  have hchdir := dChdir P2 (by omega) p (by omega)
  have hmask := dSetMask P2 n
  have hmark := dMarkS P2
  have hundo := dUndo P2 (by omega)
  obtain ⟨dd, hdd⟩ := P2.r.part (show 16 < 18 by omega)
  have hremN : ∀ n, Calls Tryz.prog 77 #[ptrV f, .int .i64 dd.v, .string p] (w2.drewN n) fun e w' => ∃ er, e = .returned (.int .i64 er) ∧ Hid (PDid B F c pb lb most nest ps ns mk (N + 3) w 11 er w') ∧ (w'.cell? ⟨z, 0, none⟩ = some (.pointer (some ⟨f, 0, none⟩)) ∧ w'.cell? ⟨z, 4, none⟩ = some (.pointer (some ⟨pb, 0, none⟩)) ∧ w'.cell? ⟨z + 1, 5, none⟩ = some (.string p)) := fun n => by
    obtain ⟨q1, q2⟩ := P2.r.grown (grownBy_drewN (grownBy_re w2) n)
    have P3 : PI (w2.drewN n) B F c pb lb most nest s ps ns mk N := ⟨q1, P.i, P.l, P.m, P.n, P.cm, P.cr⟩
    have hz := hzw.out
    have k1 : Kq w2 F pb z _ _ := ⟨ab2.out, fun h => by have := P.r.sys.lt h; omega, by have := P.r.prc.lt; omega, nl_world⟩
    have k2 : Kq w2 F pb (z + 1) _ _ := ⟨bb2.out, fun h => by have := P.r.sys.lt h; omega, by have := P.r.prc.lt; omega, nl_op⟩
    have hr := dRemove P3 (by omega) dd.v p (by omega)
    rw [hfE] at hr
    refine hr.mono ?_
    rintro e w' ⟨er, rfl, t⟩
    have t' := t
    obtain ⟨F', s', ps', ns', mk', _, _, _, q4, _⟩ := t'
    have k3 := (k1.ch (q2.trans q4)).blk
    have k4 := (k2.ch (q2.trans q4)).blk
    exact ⟨er, rfl, Lib.hid (cast.out 11 er (N + 1) w' (by omega) (t.pre q2)), k3.cell (i := 0) rfl, k3.cell (i := 4) rfl, k4.cell (i := 5) rfl⟩
  replace hremN := Lib.hid hremN
  unfold ptrV at hopen hput hdup hclose hread hwrite hchdir hmask hmark hundo
  clear hn8 hp hd hfE htE P2r P ab2 bb2 hzw
  replace hdd := Lib.hid hdd
  replace P2 := Lib.hid P2
  replace hch := Lib.hid hch
  rcases hR with rfl | rfl | rfl | rfl | rfl | rfl | rfl | rfl | rfl | rfl | rfl | rfl
  · go_wp2_with fail
    refine hopen.mono ?_
    rintro e w' ⟨er, rfl, t⟩
    have r := cast.out 0 er (N + 3) w' (by omega) t
    replace r := Lib.hid r
    clear t hopen hput hdup hclose hread hwrite hchdir hmask hmark hundo
    go_wp2
    exact bodyPost_ret (v := .tuple #[.int .i64 0, .string ⟨#[]⟩, .int .i64 er]) (by simp [results, Tryz.results18, go_sem]) rfl ⟨_, _, _, rfl, r.out⟩
  · go_wp2_with fail
    refine hput.mono ?_
    rintro e w' ⟨er, rfl, t⟩
    have r := cast.out 1 er (N + 1) w' (by omega) t
    replace r := Lib.hid r
    clear t hopen hput hdup hclose hread hwrite hchdir hmask hmark hundo
    go_wp2
    exact bodyPost_ret (v := .tuple #[.int .i64 0, .string ⟨#[]⟩, .int .i64 er]) (by simp [results, Tryz.results18, go_sem]) rfl ⟨_, _, _, rfl, r.out⟩
  · go_wp2_with fail
    refine hdup.mono ?_
    rintro e w' ⟨er, rfl, t⟩
    have r := cast.out 2 er (N + 1) w' (by omega) t
    replace r := Lib.hid r
    clear t hopen hput hdup hclose hread hwrite hchdir hmask hmark hundo
    go_wp2
    exact bodyPost_ret (v := .tuple #[.int .i64 0, .string ⟨#[]⟩, .int .i64 er]) (by simp [results, Tryz.results18, go_sem]) rfl ⟨_, _, _, rfl, r.out⟩
  · go_wp2_with fail
    refine hclose.mono ?_
    rintro e w' ⟨er, rfl, t⟩
    have r := cast.out 3 er N w' (by omega) t
    replace r := Lib.hid r
    clear t hopen hput hdup hclose hread hwrite hchdir hmask hmark hundo
    go_wp2
    exact bodyPost_ret (v := .tuple #[.int .i64 0, .string ⟨#[]⟩, .int .i64 er]) (by simp [results, Tryz.results18, go_sem]) rfl ⟨_, _, _, rfl, r.out⟩
  · go_wp2_with fail
    refine hread.mono ?_
    rintro e w' ⟨st, er, rfl, t⟩
    have r := cast.out 4 er (N + 1) w' (by omega) t
    replace r := Lib.hid r
    clear t hopen hput hdup hclose hread hwrite hchdir hmask hmark hundo
    go_wp2
    exact bodyPost_ret (v := .tuple #[.int .i64 0, .string st, .int .i64 er]) (by simp [results, Tryz.results18, go_sem]) rfl ⟨_, _, _, rfl, r.out⟩
  · go_wp2_with fail
    refine hwrite.mono ?_
    rintro e w' ⟨er, rfl, t⟩
    have r := cast.out 5 er (N + 1) w' (by omega) t
    replace r := Lib.hid r
    clear t hopen hput hdup hclose hread hwrite hchdir hmask hmark hundo
    go_wp2
    exact bodyPost_ret (v := .tuple #[.int .i64 0, .string ⟨#[]⟩, .int .i64 er]) (by simp [results, Tryz.results18, go_sem]) rfl ⟨_, _, _, rfl, r.out⟩
  · go_wp2_with fail
    refine hchdir.mono ?_
    rintro e w' ⟨er, rfl, t⟩
    have r := cast.out 6 er N w' (by omega) t
    replace r := Lib.hid r
    clear t hopen hput hdup hclose hread hwrite hchdir hmask hmark hundo
    go_wp2
    exact bodyPost_ret (v := .tuple #[.int .i64 0, .string ⟨#[]⟩, .int .i64 er]) (by simp [results, Tryz.results18, go_sem]) rfl ⟨_, _, _, rfl, r.out⟩
  · go_wp2_with fail
    refine hmask.mono ?_
    rintro e w' ⟨er, rfl, t⟩
    have r := cast.out 7 er N w' (by omega) t
    replace r := Lib.hid r
    clear t hopen hput hdup hclose hread hwrite hchdir hmask hmark hundo
    go_wp2
    exact bodyPost_ret (v := .tuple #[.int .i64 0, .string ⟨#[]⟩, .int .i64 er]) (by simp [results, Tryz.results18, go_sem]) rfl ⟨_, _, _, rfl, r.out⟩
  · go_wp2_with fail
    refine hmark.mono ?_
    rintro e w' ⟨nn, er, rfl, t⟩
    have r := cast.out 8 er N w' (by omega) t
    replace r := Lib.hid r
    clear t hopen hput hdup hclose hread hwrite hchdir hmask hmark hundo
    go_wp2
    exact bodyPost_ret (v := .tuple #[.int .i64 nn, .string ⟨#[]⟩, .int .i64 er]) (by simp [results, Tryz.results18, go_sem]) rfl ⟨_, _, _, rfl, r.out⟩
  · go_wp2_with fail
    refine hmark.mono ?_
    rintro e w' ⟨nn, er, rfl, t⟩
    have r := cast.out 9 er N w' (by omega) t
    replace r := Lib.hid r
    clear t hopen hput hdup hclose hread hwrite hchdir hmask hmark hundo
    go_wp2
    exact bodyPost_ret (v := .tuple #[.int .i64 nn, .string ⟨#[]⟩, .int .i64 er]) (by simp [results, Tryz.results18, go_sem]) rfl ⟨_, _, _, rfl, r.out⟩
  · go_wp2_with fail
    refine hundo.mono ?_
    rintro e w' ⟨er, rfl, t⟩
    have r : PDid B F c pb lb most nest ps ns mk (N + 3) w 10 er w' := by
      rcases t with ⟨_, t⟩ | ⟨e0, t⟩
      · exact cast.out _ er N w' (by omega) t
      · exact .inr ⟨rfl, e0, (t.le (by omega)).pre hch.out⟩
    replace r := Lib.hid r
    clear t hopen hput hdup hclose hread hwrite hchdir hmask hmark hundo
    go_wp2
    exact bodyPost_ret (v := .tuple #[.int .i64 0, .string ⟨#[]⟩, .int .i64 er]) (by simp [results, Tryz.results18, go_sem]) rfl ⟨_, _, _, rfl, r.out⟩
  · go_upto_region 25 with fail
    have hdir1 := fun n => PDir_any (w := w2.drewN n) (P2.out.r.grown (grownBy_drewN (grownBy_re w2) n)).1.prc hdd.out
    have hk0 : w2.drew.cell? ⟨z, 0, none⟩ = some (.pointer (some ⟨f, 0, none⟩)) ∧ w2.drew.cell? ⟨z, 4, none⟩ = some (.pointer (some ⟨pb, 0, none⟩)) ∧ w2.drew.cell? ⟨z + 1, 5, none⟩ = some (.string p) := ⟨a0, a4, b5⟩
    have hdirq := hdir1 1
    have hremq := hremN.out 1
    unfold ptrV at hdirq hremq
    replace hdirq := Lib.hid hdirq
    replace hremq := Lib.hid hremq
    clear hdir1 hremN hopen hput hdup hclose hread hwrite hchdir hmask hmark hundo
    go_region_held3 (fun w' => w'.cell? ⟨z, 0, none⟩ = some (.pointer (some ⟨f, 0, none⟩)) ∧ w'.cell? ⟨z, 4, none⟩ = some (.pointer (some ⟨pb, 0, none⟩)) ∧ w'.cell? ⟨z + 1, 5, none⟩ = some (.string p))
      (first | go_keep | exact hk0 | exact hkk)
      (first
        | (go_at_call 28; refine hdirq.out.mono ?_; rintro e wq ⟨rfl, hwq⟩; obtain rfl := hwq.symm)
        | (go_at_call 77; refine hremq.out.mono ?_; rintro e w' ⟨er, rfl, t, hkk⟩))
    have r : PDid B F c pb lb most nest ps ns mk (N + 3) w 11 er w' := t.out
    replace r := Lib.hid r
    clear t
    go_wp2
    exact bodyPost_ret (v := .tuple #[.int .i64 0, .string ⟨#[]⟩, .int .i64 er]) (by simp [results, Tryz.results18, go_sem]) rfl ⟨_, _, _, rfl, r.out⟩
theorem hs9_mem {k : Int} {x : Hd} (h : look hs9 k = some x) : (k = 1 ∧ x = ⟨1, .text [104, 101, 108, 108, 111] 0⟩) ∨ (k = 2 ∧ x = ⟨1, .sink [] 50⟩) ∨ (k = 3 ∧ x = ⟨1, .rd 0⟩) ∨ (k = 4 ∧ x = ⟨1, .wr 0⟩) := by
  have := look_mem h
  simpa only [hs9, List.mem_cons, Prod.mk.injEq, List.not_mem_nil, or_false] using this
theorem nds9_mem {k : Int} {x : Pn} (h : look nds9 k = some x) : (k = 1 ∧ x = { rootN nlC with holds := 1 }) ∨ (k = 2 ∧ x = dirD) ∨ (k = 3 ∧ x = leafN 2 [120, 121, 122]) ∨ (k = 4 ∧ x = leafN 3 [100, 47, 98]) := by
  have := look_mem h
  simpa only [nds9, List.mem_cons, Prod.mk.injEq, List.not_mem_nil, or_false] using this
theorem Du9 (n : Int) : Du ps0 [] n = b1 (1 = n) := rfl
theorem Ru9 {n : Int} (hn : n ≠ 0) : Ru ps0 [] n = base n := by
  show base n + uses n ps0 [] = base n
  have : uses n ps0 [] = 0 := by
    show useP n ps0 + 0 = 0
    unfold useP
    rw [show ps0.take 16 = List.replicate 16 ⟨0, 0⟩ from rfl, List.filter_replicate]
    have : decide (((⟨0, 0⟩ : Pt).v) = n) = false := decide_eq_false (fun e => hn e.symm)
    rw [if_neg (by rw [this]; decide)]
    rfl
  omega
theorem good9 (bb ppb : Nat) : Good ⟨Du ps0 [], 12⟩ (s9 bb ppb) where
  file := fun k x h n a r w m e => by rcases hs9_mem h with ⟨_, rfl⟩ | ⟨_, rfl⟩ | ⟨_, rfl⟩ | ⟨_, rfl⟩ <;> cases e
  refs := fun k x h => by rcases hs9_mem h with ⟨_, rfl⟩ | ⟨_, rfl⟩ | ⟨_, rfl⟩ | ⟨_, rfl⟩ <;> exact Nat.le_refl _
  holds := fun n y h => by rcases nds9_mem h with ⟨rfl, rfl⟩ | ⟨rfl, rfl⟩ | ⟨rfl, rfl⟩ | ⟨rfl, rfl⟩ <;> rfl
  ends := fun p pb b e h => by
    cases p with
    | zero =>
      replace h : (ppb, bb, 2) = (pb, b, e) := Option.some.inj h
      cases h
      exact ⟨rfl, (show total (nR 0) hs9 ≤ 1 by decide), (show total (nW 0) hs9 ≤ 1 by decide), _, rfl, ⟨fun _ => by decide, fun _ => rfl⟩⟩
    | succ p => cases h
  len := rfl
  pipe := fun k x h p e => by rcases hs9_mem h with ⟨_, rfl⟩ | ⟨_, rfl⟩ | ⟨_, rfl⟩ | ⟨_, rfl⟩ <;> rcases e with e | e <;> cases e <;> exact Nat.one_pos
  nms := fun n y h => by rcases nds9_mem h with ⟨rfl, rfl⟩ | ⟨rfl, rfl⟩ | ⟨rfl, rfl⟩ | ⟨rfl, rfl⟩ <;> exact ⟨by decide, by decide⟩
  num := fun n y h => by
    show 1 ≤ n ∧ n ≤ 12
    rcases nds9_mem h with ⟨rfl, rfl⟩ | ⟨rfl, rfl⟩ | ⟨rfl, rfl⟩ | ⟨rfl, rfl⟩ <;> omega
theorem inv9 (bb ppb : Nat) : Inv (s9 bb ppb) (Ru ps0 []) (Du ps0 []) 10 where
  good := good9 bb ppb
  bnd := ⟨Nat.zero_le _, by show 4 ≤ 20; decide, by show 1 ≤ 10; decide, fun k x h => by rcases hs9_mem h with ⟨_, rfl⟩ | ⟨_, rfl⟩ | ⟨_, rfl⟩ | ⟨_, rfl⟩ <;> (show 1 ≤ 10; decide)⟩
  ref := fun k x h => by rcases hs9_mem h with ⟨rfl, rfl⟩ | ⟨rfl, rfl⟩ | ⟨rfl, rfl⟩ | ⟨rfl, rfl⟩ <;> rfl
  ex := fun k hk h => by
    rw [Ru9 hk] at h
    unfold base b1 at h
    split at h
    · rename_i q
      have : k = 1 ∨ k = 2 ∨ k = 3 ∨ k = 4 := by omega
      rcases this with rfl | rfl | rfl | rfl <;> exact ⟨_, rfl⟩
    · omega
  dir := fun n h => by
    rw [Du9] at h
    unfold b1 at h
    split at h
    · rename_i q
      subst q
      exact ⟨_, rfl⟩
    · omega
  tok := tok9
  cnt := (show nds9.length ≤ 12 by decide)
  nms := fun k y h => by rcases nds9_mem h with ⟨rfl, rfl⟩ | ⟨rfl, rfl⟩ | ⟨rfl, rfl⟩ | ⟨rfl, rfl⟩ <;> decide
  bs := fun k => Nat.le_add_right _ _
  nof := fun k x h _ n => by rcases hs9_mem h with ⟨_, rfl⟩ | ⟨_, rfl⟩ | ⟨_, rfl⟩ | ⟨_, rfl⟩ <;> rfl
theorem lv9 : LV [] [] ps0 := ⟨rfl, by
  intro p hp
  unfold ps0 at hp
  rcases List.mem_append.1 hp with h | h
  · rw [(List.mem_replicate.1 h).2]
  · simp only [List.mem_cons, List.not_mem_nil, or_false] at h
    rcases h with rfl | rfl <;> rfl⟩
theorem begunI {w : World} {B : Nat} {F : Nat → Prop} {fb plb tb pb lb most nest bb ppb : Nat} (h : PrR w B F (c9 fb plb tb) pb lb most nest (s9 bb ppb) ps0 [] []) : PI w B F (c9 fb plb tb) pb lb most nest (s9 bb ppb) ps0 [] [] 10 :=
  ⟨h, inv9 bb ppb, lv9, Nat.zero_le _, Nat.zero_le _, rfl, rfl⟩
theorem PDid.next {w : World} {B : Nat} {F : Nat → Prop} {c : Sy} {pb lb most nest : Nat} {s : St} {ps : List Pt} {ns : Nts} {mk : List Nat} {N M : Nat} (P : PI w B F c pb lb most nest s ps ns mk N) (hM : N + 1 ≤ M) {a er : Int} {w' : World} (h : PDid B F c pb lb most nest ps ns mk M w a er w') :
    ∃ F' s' ps' ns' mk', PI w' B F' c pb lb most nest s' ps' ns' mk' M ∧ PSt most ps ns mk ps' ns' mk' ∧ PCh B F F' pb w w' ∧ (er = 43 → ps' = ps ∧ ns' = ns ∧ mk' = mk ∧ ns.length = most) ∧ (a ≠ 10 → mk.length ≤ mk'.length) := by
  have hm := P.m
  have hn := P.n
  rcases h with ⟨F', s', ps', ns', mk', q1, q2, q3, q4, q5, q6, q7, q8⟩ | ⟨e1, e2, mk0, m, rfl, e3, F', s', q1, q2, q3⟩
  · exact ⟨F', s', ps', ns', mk', ⟨q1, q2, q3.lv P.l, q5, by omega, P.cm, P.cr⟩, q3, q4, q7, fun _ => q8⟩
  · have q4 : PSt most ps ns (mk0 ++ [m]) (back (ns.drop m) ps) (ns.take m) mk0 := .undo e3
    refine ⟨F', s', _, _, mk0, ⟨q1, q2, q4.lv P.l, by rw [List.length_take]; omega, by rw [List.length_take]; omega, P.cm, P.cr⟩, q4, q3, fun e => ?_, fun e => absurd e1 e⟩
    rw [e2] at e
    cases e
end Go.Proofs.YtfofpphnglhopaaGreatDoor
