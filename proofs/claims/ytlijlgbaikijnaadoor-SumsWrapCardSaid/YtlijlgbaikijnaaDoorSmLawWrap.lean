/-
  SumsWrap answers true: the walk. Conditions: the table of powers of ten holds them.
-/
import Derived.Test.YtlijlgbaikijnaaDoorSmWrap
namespace Go.Proofs.YtlijlgbaikijnaaDoor
open Go Go.RowKit

set_option maxHeartbeats 8000000 in
set_option maxRecDepth 100000 in
theorem lawWrap_any (a b c : Int) (ha : InR a) (hb : InR b) (hc : InR c) (w : World) (ht : Tab w) :
    Calls Tryd.prog 3 #[.agg #[.int .i64 a, .int .i64 b, .int .i64 c]] w fun e w' => e = .returned (.bool true) ∧ w.grownBy w' none := by
  have haw := fun W (hg : w.grownBy W none) => awake_any W (ht.below (below_of_none hg))
  have hall := wr_all ha hb hc
  have hlast := fun W (hg : w.grownBy W none) => wok_val ⟨#[97, 47, 98, 42, 98, 43, 97, 37, 98]⟩ (wr_last (b := b) (c := c) ha) (by decide) ha hb hc W (ht.below (below_of_none hg))
  have hval := fun (s : ByteArray) (v : Int) (h : WOk a b c (tl s) (some v)) (hs : s.size ≤ 4096) W (hg : w.grownBy W none) => wok_val s h hs ha hb hc W (ht.below (below_of_none hg))
  replace ht := Lib.hid ht
  replace hall := Lib.hid hall
  replace hval := Lib.hid hval
  replace hlast := Lib.hid hlast
  replace haw := Lib.hid haw
  go_enter Tryd.func3, Tryd.ntmps3
  go_upto_region 3 with fail
  obtain ⟨w2, hW2, hs2, hgr2, hcz2, hcy2, _, _, _⟩ := two_new w #[.int .i64 a, .int .i64 b, .int .i64 c] #[.string ⟨#[97, 43, 98]⟩, .string ⟨#[98, 43, 97]⟩, .string ⟨#[97, 42, 98]⟩, .string ⟨#[98, 42, 97]⟩, .string ⟨#[40, 97, 43, 98, 41, 43, 99]⟩, .string ⟨#[97, 43, 40, 98, 43, 99, 41]⟩, .string ⟨#[97, 42, 98, 42, 99]⟩, .string ⟨#[97, 42, 40, 98, 42, 99, 41]⟩, .string ⟨#[97, 42, 40, 98, 43, 99, 41]⟩, .string ⟨#[97, 42, 98, 43, 97, 42, 99]⟩, .string ⟨#[97, 45, 98, 43, 98]⟩, .string ⟨#[97]⟩, .string ⟨#[126, 97]⟩, .string ⟨#[45, 97, 45, 49]⟩, .string ⟨#[97, 94, 98, 94, 98]⟩, .string ⟨#[97]⟩, .string ⟨#[40, 97, 38, 98, 41, 43, 40, 97, 124, 98, 41]⟩, .string ⟨#[97, 43, 98]⟩, .string ⟨#[33, 97]⟩, .string ⟨#[97, 61, 61, 48]⟩, .string ⟨#[97, 60, 98]⟩, .string ⟨#[98, 62, 97]⟩, .string ⟨#[97, 60, 61, 98]⟩, .string ⟨#[33, 40, 97, 62, 98, 41]⟩, .string ⟨#[97, 60, 60, 49]⟩, .string ⟨#[97, 43, 97]⟩, .string ⟨#[97, 60, 60, 98]⟩, .string ⟨#[97, 60, 60, 40, 98, 38, 54, 51, 41]⟩, .string ⟨#[97, 63, 98, 58, 99]⟩, .string ⟨#[40, 97, 33, 61, 48, 41, 42, 98, 43, 40, 97, 61, 61, 48, 41, 42, 99]⟩, .string ⟨#[97, 38, 38, 98]⟩, .string ⟨#[40, 97, 33, 61, 48, 41, 38, 40, 98, 33, 61, 48, 41]⟩, .string ⟨#[97, 124, 124, 98]⟩, .string ⟨#[33, 40, 33, 97, 38, 33, 98, 41]⟩] 22 23
  rw [hW2]
  obtain ⟨z, hz⟩ : ∃ z, w.heap.size = z := ⟨_, rfl⟩
  rw [hz] at hcz2 hcy2 hs2 ⊢
  obtain ⟨y, hy⟩ : ∃ y, z + 1 = y := ⟨_, rfl⟩
  rw [hy] at hcy2 ⊢
  have q0 := hcz2 0 _ rfl
  have q1 := hcz2 1 _ rfl
  have q2 := hcz2 2 _ rfl
  have hcL : ∀ i l, wrL[i]? = some l → w2.cell? ⟨y, i * 2, none⟩ = some (.string l) := fun i l h => by
    refine hcy2 (i * 2) _ ?_
    have hi := (List.getElem?_eq_some_iff.1 h).1
    have hi : i < 17 := hi
    match i, hi with
    | 0, _ => exact congrArg (Option.map Value.string) h
    | 1, _ => exact congrArg (Option.map Value.string) h
    | 2, _ => exact congrArg (Option.map Value.string) h
    | 3, _ => exact congrArg (Option.map Value.string) h
    | 4, _ => exact congrArg (Option.map Value.string) h
    | 5, _ => exact congrArg (Option.map Value.string) h
    | 6, _ => exact congrArg (Option.map Value.string) h
    | 7, _ => exact congrArg (Option.map Value.string) h
    | 8, _ => exact congrArg (Option.map Value.string) h
    | 9, _ => exact congrArg (Option.map Value.string) h
    | 10, _ => exact congrArg (Option.map Value.string) h
    | 11, _ => exact congrArg (Option.map Value.string) h
    | 12, _ => exact congrArg (Option.map Value.string) h
    | 13, _ => exact congrArg (Option.map Value.string) h
    | 14, _ => exact congrArg (Option.map Value.string) h
    | 15, _ => exact congrArg (Option.map Value.string) h
    | 16, _ => exact congrArg (Option.map Value.string) h
  have hcR : ∀ i r, wrR[i]? = some r → w2.cell? ⟨y, i * 2 + 1, none⟩ = some (.string r) := fun i r h => by
    refine hcy2 (i * 2 + 1) _ ?_
    have hi := (List.getElem?_eq_some_iff.1 h).1
    have hi : i < 17 := hi
    match i, hi with
    | 0, _ => exact congrArg (Option.map Value.string) h
    | 1, _ => exact congrArg (Option.map Value.string) h
    | 2, _ => exact congrArg (Option.map Value.string) h
    | 3, _ => exact congrArg (Option.map Value.string) h
    | 4, _ => exact congrArg (Option.map Value.string) h
    | 5, _ => exact congrArg (Option.map Value.string) h
    | 6, _ => exact congrArg (Option.map Value.string) h
    | 7, _ => exact congrArg (Option.map Value.string) h
    | 8, _ => exact congrArg (Option.map Value.string) h
    | 9, _ => exact congrArg (Option.map Value.string) h
    | 10, _ => exact congrArg (Option.map Value.string) h
    | 11, _ => exact congrArg (Option.map Value.string) h
    | 12, _ => exact congrArg (Option.map Value.string) h
    | 13, _ => exact congrArg (Option.map Value.string) h
    | 14, _ => exact congrArg (Option.map Value.string) h
    | 15, _ => exact congrArg (Option.map Value.string) h
    | 16, _ => exact congrArg (Option.map Value.string) h
  have hg2 := Lib.hid (hgr2 none)
  replace hcL := Lib.hid hcL
  replace hcR := Lib.hid hcR
  replace hz := Lib.hid hz
  replace hy := Lib.hid hy
  clear hW2 hgr2 hcz2 hcy2 hs2
  go_loopw [4] (fun nv wr => ∃ m : Nat, m ≤ 17 ∧ nv = .int .i64 (m : Int) ∧ Hid (w2.grownBy wr none)) (fun nv _ => 17 - (intOf nv).toNat)
  case atStart => exact ⟨0, by omega, rfl, grownBy_refl' _ _⟩
  case round =>
    obtain ⟨m, hm, rfl, hgi⟩ := hrel
    have q0 := hgi.out.cell q0 (by simp)
    have q1 := hgi.out.cell q1 (by simp)
    have q2 := hgi.out.cell q2 (by simp)
    by_cases hlt : m < 17
    · obtain ⟨l, r, X, hl, hr, hls, hrs, hwl, hwr⟩ := hall.out m hlt
      have c0 := hgi.out.cell (hcL.out m l hl) (by simp)
      have c1 := hgi.out.cell (hcR.out m r hr) (by simp)
      have hvl := hval.out l X hwl hls
      have hvr := hval.out r X hwr hrs
      simp only [valR0, valR1] at hvl hvr
      have hgA := Lib.hid (grownBy_trans' hg2.out hgi.out)
      clear hl hr hls hrs hwl hwr
      go_wp2_with fail
      refine wp_region_held (S := (fun w' : World => w'.cell? ⟨y, m * 2, none⟩ = some (.string l) ∧ w'.cell? ⟨z, 0, none⟩ = some (.int .i64 a) ∧ w'.cell? ⟨z, 1, none⟩ = some (.int .i64 b) ∧ w'.cell? ⟨z, 2, none⟩ = some (.int .i64 c))) (by kernel_rfl) ?_
      have hS0 : (fun w' : World => w'.cell? ⟨y, m * 2, none⟩ = some (.string l) ∧ w'.cell? ⟨z, 0, none⟩ = some (.int .i64 a) ∧ w'.cell? ⟨z, 1, none⟩ = some (.int .i64 b) ∧ w'.cell? ⟨z, 2, none⟩ = some (.int .i64 c)) wr.drew := ⟨c0, q0, q1, q2⟩
      refine wpAnyH_take (i := 0) (v := .slice (some ⟨y, 0, none⟩) 17 17) rfl (by kernel_rfl) (by kernel_rfl) (by kernel_rfl) (fun _ _ _ h => h) (Or.inl ⟨by rfl, ?_⟩) hS0 ?_
      · intro W hW
        obtain ⟨k0, k1, k2, k3⟩ := hW
        clear c0 q0 q1 q2 hS0 hvl hvr
        go_simp
      try simp only [Act.put, List.setIfInBounds_toArray]
      refine wpAnyH_take (i := 1) (v := .int .i64 (m : Int)) rfl (by kernel_rfl) (by kernel_rfl) (by kernel_rfl) (fun _ _ _ h => h) (Or.inl ⟨by rfl, ?_⟩) hS0 ?_
      · intro W hW
        obtain ⟨k0, k1, k2, k3⟩ := hW
        clear c0 q0 q1 q2 hS0 hvl hvr
        go_simp
      try simp only [Act.put]
      refine wpAnyH_take (i := 2) (v := .pointer (some ⟨y, m * 2, none⟩)) rfl (by kernel_rfl) (by kernel_rfl) (by kernel_rfl) (fun _ _ _ h => h) (Or.inl ⟨by rfl, ?_⟩) hS0 ?_
      · intro W hW
        obtain ⟨k0, k1, k2, k3⟩ := hW
        clear c0 q0 q1 q2 hS0 hvl hvr
        go_simp
      try simp only [Act.put]
      refine wpAnyH_take (i := 3) (v := .pointer (some ⟨y, m * 2, none⟩)) rfl (by kernel_rfl) (by kernel_rfl) (by kernel_rfl) (fun _ _ _ h => h) (Or.inl ⟨by rfl, ?_⟩) hS0 ?_
      · intro W hW
        obtain ⟨k0, k1, k2, k3⟩ := hW
        clear c0 q0 q1 q2 hS0 hvl hvr
        go_simp
      try simp only [Act.put]
      refine wpAnyH_take (i := 4) (v := .string l) rfl (by kernel_rfl) (by kernel_rfl) (by kernel_rfl) (fun _ _ _ h => h) (Or.inl ⟨by rfl, ?_⟩) hS0 ?_
      · intro W hW
        obtain ⟨k0, k1, k2, k3⟩ := hW
        clear c0 q0 q1 q2 hS0 hvl hvr
        go_simp
      try simp only [Act.put]
      refine wpAnyH_take (i := 5) (v := .agg #[.int .i64 a, .int .i64 b, .int .i64 c]) rfl (by kernel_rfl) (by kernel_rfl) (by kernel_rfl) (fun _ _ _ h => h) (Or.inl ⟨by rfl, ?_⟩) hS0 ?_
      · intro W hW
        obtain ⟨k0, k1, k2, k3⟩ := hW
        clear c0 q0 q1 q2 hS0 hvl hvr
        go_simp
      try simp only [Act.put]
      clear hS0
      refine wpAnyH_one (i := 6) rfl (by kernel_rfl) rfl ?_
      go_simp
      refine (hvl wr.drew ⟨hgA.out.os, hgA.out.tape, hgA.out.output, hgA.out.size, hgA.out.block⟩).mono ?_
      rintro e v1 ⟨rfl, hh1⟩
      have gg1 : wr.grownBy v1 none := ⟨hh1.os, hh1.tape, hh1.output, hh1.size, hh1.block⟩
      have c0 := gg1.cell c0 (by simp)
      have q0 := gg1.cell q0 (by simp)
      have q1 := gg1.cell q1 (by simp)
      have q2 := gg1.cell q2 (by simp)
      have c1 := gg1.cell c1 (by simp)
      refine ⟨⟨c0, q0, q1, q2⟩, ?_⟩
      have hS0 : (fun w' : World => w'.cell? ⟨y, m * 2, none⟩ = some (.string l) ∧ w'.cell? ⟨z, 0, none⟩ = some (.int .i64 a) ∧ w'.cell? ⟨z, 1, none⟩ = some (.int .i64 b) ∧ w'.cell? ⟨z, 2, none⟩ = some (.int .i64 c)) v1 := ⟨c0, q0, q1, q2⟩
      refine wpAnyH_take (i := 7) (v := .tuple #[.int .i64 X, .int .i64 0]) rfl (by kernel_rfl) (by kernel_rfl) (by kernel_rfl) (fun _ _ _ h => h) (Or.inl ⟨by rfl, ?_⟩) hS0 ?_
      · intro W hW
        obtain ⟨k0, k1, k2, k3⟩ := hW
        clear c0 q0 q1 q2 hS0 hh1 gg1
        go_simp
      try simp only [Act.put]
      refine wpAnyH_take (i := 8) (v := .int .i64 X) rfl (by kernel_rfl) (by kernel_rfl) (by kernel_rfl) (fun _ _ _ h => h) (Or.inl ⟨by rfl, ?_⟩) hS0 ?_
      · intro W hW
        obtain ⟨k0, k1, k2, k3⟩ := hW
        clear c0 q0 q1 q2 hS0 hh1 gg1
        go_simp
      try simp only [Act.put]
      refine wpAnyH_take (i := 9) (v := .int .i64 0) rfl (by kernel_rfl) (by kernel_rfl) (by kernel_rfl) (fun _ _ _ h => h) (Or.inl ⟨by rfl, ?_⟩) hS0 ?_
      · intro W hW
        obtain ⟨k0, k1, k2, k3⟩ := hW
        clear c0 q0 q1 q2 hS0 hh1 gg1
        go_simp
      try simp only [Act.put]
      refine wpAnyH_take (i := 10) (v := .int .i64 X) rfl (by kernel_rfl) (by kernel_rfl) (by kernel_rfl) (fun _ _ _ h => h) (Or.inl ⟨by rfl, ?_⟩) hS0 ?_
      · intro W hW
        obtain ⟨k0, k1, k2, k3⟩ := hW
        clear c0 q0 q1 q2 hS0 hh1 gg1
        go_simp
      try simp only [Act.put]
      refine wpAnyH_one (i := 11) rfl (by kernel_rfl) rfl ?_
      go_simp
      try (refine ⟨⟨c0, q0, q1, q2⟩, ?_⟩)
      refine wpAnyH_done (by kernel_rfl) ?_ _
      clear hS0
      have hgB := Lib.hid (grownBy_trans' hgA.out gg1)
      have hgI := Lib.hid (grownBy_trans' hgi.out gg1)
      clear hgA hgi hvl c0 hh1 gg1
      go_wp2_with fail
      refine wp_region_held (S := (fun w' : World => w'.cell? ⟨y, m * 2 + 1, none⟩ = some (.string r) ∧ w'.cell? ⟨z, 0, none⟩ = some (.int .i64 a) ∧ w'.cell? ⟨z, 1, none⟩ = some (.int .i64 b) ∧ w'.cell? ⟨z, 2, none⟩ = some (.int .i64 c))) (by kernel_rfl) ?_
      have hS0 : (fun w' : World => w'.cell? ⟨y, m * 2 + 1, none⟩ = some (.string r) ∧ w'.cell? ⟨z, 0, none⟩ = some (.int .i64 a) ∧ w'.cell? ⟨z, 1, none⟩ = some (.int .i64 b) ∧ w'.cell? ⟨z, 2, none⟩ = some (.int .i64 c)) v1.drew := ⟨c1, q0, q1, q2⟩
      refine wpAnyH_take (i := 0) (v := .slice (some ⟨y, 0, none⟩) 17 17) rfl (by kernel_rfl) (by kernel_rfl) (by kernel_rfl) (fun _ _ _ h => h) (Or.inl ⟨by rfl, ?_⟩) hS0 ?_
      · intro W hW
        obtain ⟨k0, k1, k2, k3⟩ := hW
        clear c1 q0 q1 q2 hS0 hvr
        go_simp
      try simp only [Act.put, List.setIfInBounds_toArray]
      refine wpAnyH_take (i := 1) (v := .int .i64 (m : Int)) rfl (by kernel_rfl) (by kernel_rfl) (by kernel_rfl) (fun _ _ _ h => h) (Or.inl ⟨by rfl, ?_⟩) hS0 ?_
      · intro W hW
        obtain ⟨k0, k1, k2, k3⟩ := hW
        clear c1 q0 q1 q2 hS0 hvr
        go_simp
      try simp only [Act.put]
      refine wpAnyH_take (i := 2) (v := .pointer (some ⟨y, m * 2, none⟩)) rfl (by kernel_rfl) (by kernel_rfl) (by kernel_rfl) (fun _ _ _ h => h) (Or.inl ⟨by rfl, ?_⟩) hS0 ?_
      · intro W hW
        obtain ⟨k0, k1, k2, k3⟩ := hW
        clear c1 q0 q1 q2 hS0 hvr
        go_simp
      try simp only [Act.put]
      refine wpAnyH_take (i := 3) (v := .pointer (some ⟨y, m * 2 + 1, none⟩)) rfl (by kernel_rfl) (by kernel_rfl) (by kernel_rfl) (fun _ _ _ h => h) (Or.inl ⟨by rfl, ?_⟩) hS0 ?_
      · intro W hW
        obtain ⟨k0, k1, k2, k3⟩ := hW
        clear c1 q0 q1 q2 hS0 hvr
        go_simp
      try simp only [Act.put]
      refine wpAnyH_take (i := 4) (v := .string r) rfl (by kernel_rfl) (by kernel_rfl) (by kernel_rfl) (fun _ _ _ h => h) (Or.inl ⟨by rfl, ?_⟩) hS0 ?_
      · intro W hW
        obtain ⟨k0, k1, k2, k3⟩ := hW
        clear c1 q0 q1 q2 hS0 hvr
        go_simp
      try simp only [Act.put]
      refine wpAnyH_take (i := 5) (v := .agg #[.int .i64 a, .int .i64 b, .int .i64 c]) rfl (by kernel_rfl) (by kernel_rfl) (by kernel_rfl) (fun _ _ _ h => h) (Or.inl ⟨by rfl, ?_⟩) hS0 ?_
      · intro W hW
        obtain ⟨k0, k1, k2, k3⟩ := hW
        clear c1 q0 q1 q2 hS0 hvr
        go_simp
      try simp only [Act.put]
      clear hS0
      refine wpAnyH_one (i := 6) rfl (by kernel_rfl) rfl ?_
      go_simp
      refine (hvr v1.drew ⟨hgB.out.os, hgB.out.tape, hgB.out.output, hgB.out.size, hgB.out.block⟩).mono ?_
      rintro e v2 ⟨rfl, hh2⟩
      have gg2 : v1.grownBy v2 none := ⟨hh2.os, hh2.tape, hh2.output, hh2.size, hh2.block⟩
      have c1 := gg2.cell c1 (by simp)
      have q0 := gg2.cell q0 (by simp)
      have q1 := gg2.cell q1 (by simp)
      have q2 := gg2.cell q2 (by simp)
      refine ⟨⟨c1, q0, q1, q2⟩, ?_⟩
      have hS0 : (fun w' : World => w'.cell? ⟨y, m * 2 + 1, none⟩ = some (.string r) ∧ w'.cell? ⟨z, 0, none⟩ = some (.int .i64 a) ∧ w'.cell? ⟨z, 1, none⟩ = some (.int .i64 b) ∧ w'.cell? ⟨z, 2, none⟩ = some (.int .i64 c)) v2 := ⟨c1, q0, q1, q2⟩
      refine wpAnyH_take (i := 7) (v := .tuple #[.int .i64 X, .int .i64 0]) rfl (by kernel_rfl) (by kernel_rfl) (by kernel_rfl) (fun _ _ _ h => h) (Or.inl ⟨by rfl, ?_⟩) hS0 ?_
      · intro W hW
        obtain ⟨k0, k1, k2, k3⟩ := hW
        clear c1 q0 q1 q2 hS0 hh2 gg2
        go_simp
      try simp only [Act.put]
      refine wpAnyH_take (i := 8) (v := .int .i64 X) rfl (by kernel_rfl) (by kernel_rfl) (by kernel_rfl) (fun _ _ _ h => h) (Or.inl ⟨by rfl, ?_⟩) hS0 ?_
      · intro W hW
        obtain ⟨k0, k1, k2, k3⟩ := hW
        clear c1 q0 q1 q2 hS0 hh2 gg2
        go_simp
      try simp only [Act.put]
      refine wpAnyH_take (i := 9) (v := .int .i64 0) rfl (by kernel_rfl) (by kernel_rfl) (by kernel_rfl) (fun _ _ _ h => h) (Or.inl ⟨by rfl, ?_⟩) hS0 ?_
      · intro W hW
        obtain ⟨k0, k1, k2, k3⟩ := hW
        clear c1 q0 q1 q2 hS0 hh2 gg2
        go_simp
      try simp only [Act.put]
      refine wpAnyH_take (i := 10) (v := .int .i64 X) rfl (by kernel_rfl) (by kernel_rfl) (by kernel_rfl) (fun _ _ _ h => h) (Or.inl ⟨by rfl, ?_⟩) hS0 ?_
      · intro W hW
        obtain ⟨k0, k1, k2, k3⟩ := hW
        clear c1 q0 q1 q2 hS0 hh2 gg2
        go_simp
      try simp only [Act.put]
      refine wpAnyH_one (i := 11) rfl (by kernel_rfl) rfl ?_
      go_simp
      try (refine ⟨⟨c1, q0, q1, q2⟩, ?_⟩)
      refine wpAnyH_done (by kernel_rfl) ?_ _
      clear hS0
      have hgE := Lib.hid (grownBy_trans' hgI.out gg2)
      have eX : (X == X) = true := by simp
      clear hgB hgI hvr c1 q0 q1 q2 hh2 gg2
      go_wp2
      go_roundw
      case rel => exact ⟨m + 1, by omega, by go_num, hgE⟩
      case measure => simp [intOf]; omega
    · obtain rfl : m = 17 := by omega
      have hgA := grownBy_trans' hg2.out hgi.out
      have hla := hlast.out wr hgA
      by_cases hb0 : b = 0
      · rw [if_pos hb0] at hla
        simp only [valR0, valR1] at hla
        subst hb0
        go_wp2_with fail
        refine hla.mono ?_
        rintro e w5 ⟨rfl, hg5⟩
        have hgE := grownBy_trans' hgA hg5
        have haw5 := haw.out w5 hgE
        have q0 := hg5.cell q0 (by simp)
        have q1 := hg5.cell q1 (by simp)
        have q2 := hg5.cell q2 (by simp)
        clear hla hg5 hgA hgi
        go_wp2_with fail
        refine haw5.mono ?_
        rintro e w6 ⟨rfl, hg6⟩
        have hgF := grownBy_trans' hgE hg6
        go_wp2
        go_ret
        exact ⟨rfl, hgF⟩
      · rw [if_neg hb0] at hla
        simp only [valR0, valR1] at hla
        have hbf : (b == 0) = false := by simpa using hb0
        have haa : (a == a) = true := by simp
        clear hb0
        go_wp2_with fail
        refine hla.mono ?_
        rintro e w5 ⟨rfl, hg5⟩
        have hgE := grownBy_trans' hgA hg5
        have haw5 := haw.out w5 hgE
        have q0 := hg5.cell q0 (by simp)
        have q1 := hg5.cell q1 (by simp)
        have q2 := hg5.cell q2 (by simp)
        clear hla hg5 hgA hgi
        go_wp2_with fail
        refine haw5.mono ?_
        rintro e w6 ⟨rfl, hg6⟩
        have hgF := grownBy_trans' hgE hg6
        go_wp2
        go_ret
        exact ⟨rfl, hgF⟩
end Go.Proofs.YtlijlgbaikijnaaDoor
