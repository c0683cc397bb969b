/-
  The reader reads as in plain words, with any fuel. Conditions: at most a million bytes.
  The package's parse, in plain words. Conditions: at most a million bytes; fuel enough.
-/
import Derived.Test.YtlijlgbaikijnaaGreatDoorSmBetween
namespace Go.Proofs.YtlijlgbaikijnaaGreatDoor
open Go Go.RowKit

/-- All four at a fuel. -/
def Reads (s : ByteArray) (b n : Nat) : Prop :=
  Says 81 (assignP n) s b ∧ Says 103 (choiceP n) s b ∧ SaysB 117 (betweenP n) s b ∧ Says 129 (operandP n) s b

theorem reads_zero (s : ByteArray) (b : Nat) : Reads s b 0 :=
  ⟨fun _ _ _ _ _ _ h => absurd (by rw [assignP]) h, fun _ _ _ _ _ _ h => absurd (by rw [choiceP]) h, fun _ _ _ _ _ _ _ _ h => absurd (by rw [betweenP]) h, fun _ _ _ _ _ _ h => absurd (by rw [operandP]) h⟩
theorem reads_all (s : ByteArray) (b : Nat) (hs : s.size ≤ 1000000) : ∀ n m, m ≤ n → Reads s b m
  | 0, m, h => by
    obtain rfl : m = 0 := by omega
    exact reads_zero s b
  | n + 1, m, h => by
    rcases Nat.lt_or_ge m (n + 1) with h1 | h1
    · exact reads_all s b hs n m (by omega)
    · obtain rfl : m = n + 1 := by omega
      obtain ⟨ha, hc, hb, ho⟩ := reads_all s b hs n n (Nat.le_refl _)
      exact ⟨assignment_step n s b hs hc ha, choice_step n s b hs hb ha hc, between_step n s b hs ho (fun m hm => (reads_all s b hs n m (by omega)).2.2.1), operand_step n s b hs ha ho⟩
theorem assignment_any (n : Nat) (s : ByteArray) (b : Nat) (hs : s.size ≤ 1000000) : Says 81 (assignP n) s b := (reads_all s b hs n n (Nat.le_refl _)).1
end Go.Proofs.YtlijlgbaikijnaaGreatDoor

namespace Go.Proofs.YtlijlgbaikijnaaGreatDoor
open Go Go.RowKit

/-- What parse comes to. -/
def Parsed (w : World) (r : Res) (e : Ending) (w' : World) : Prop :=
  match r with
  | .ok x _ => (∃ v, e = .returned v ∧ ExR w' (fun g => w.heap.size ≤ g ∧ g < w'.heap.size) x v) ∧ w.grownBy w' none
  | .no c n => e = thrown c n ∧ w.grownBy w' none
  | .out => False
theorem drop_new {w w' : World} {b : Nat} (h : w.grownBy w' (some b)) (hb : w.heap.size ≤ b) : w.grownBy w' none :=
  ⟨h.os, h.tape, h.output, h.size, fun i hi _ => h.block i hi (by simp; omega)⟩

set_option maxHeartbeats 4000000 in
set_option maxRecDepth 100000 in
theorem parse_any (n : Nat) (s : ByteArray) (w : World) (hs : s.size ≤ 1000000) (hne : parseP n (tl s) ≠ .out) :
    Calls Tryz.prog 47 #[.string s] w (Parsed w (parseP n (tl s))) := by
  obtain ⟨r, hr0⟩ : ∃ r, parseP n (tl s) = r := ⟨_, rfl⟩
  rw [hr0] at hne ⊢
  unfold parseP goT at hr0
  have hr0 := Lib.hid hr0
  go_enter Tryz.func47, Tryz.ntmps47
  go_wp2_with fail
  obtain ⟨w2, hW2, hs2, hgr, hcz, hcz1, hfz, hfz1, hold⟩ := two_new w #[.string ⟨#[]⟩, .int .i64 0, .string ⟨#[]⟩, .slice none 0 0] #[.string s, .int .i64 0, .string ⟨#[]⟩, .int .i64 0, .int .i64 0, .int .i64 0] 30 122
  rw [hW2]
  obtain ⟨z, hz⟩ : ∃ z, w.heap.size = z := ⟨_, rfl⟩
  rw [hz] at hcz hcz1 hfz hfz1 hs2 ⊢
  have hr2 : RdAt w2 (z + 1) s ⟨0, [], 0, 0⟩ 0 := ⟨hcz1 0 _ rfl, hcz1 1 _ rfl, hcz1 2 _ rfl, hcz1 3 _ rfl, hcz1 4 _ rfl, hcz1 5 _ rfl, hfz1⟩
  have hg2 := hgr (some (z + 1))
  have hzb : z ≠ z + 1 := by omega
  have hz := Lib.hid hz
  have hlk0 : Calls Tryz.prog 80 #[.pointer (some ⟨z + 1, 0, none⟩), .int .i64 0] w2 _ := look_any s (z + 1) 0 ⟨0, [], 0, 0⟩ 0 w2 hr2 (Nat.zero_le _) hs
  clear hW2 hgr hcz1 hfz1 hold
  refine hlk0.mono ?_
  intro e w3 h
  have hr0 := hr0.out
  cases hlk : lookP (tl s) 0 with
  | none =>
    rw [hlk] at h hr0
    obtain ⟨rfl, rfl⟩ := h
    simp only at hr0
    subst hr0
    exact ⟨rfl, rfl, drop_new hg2 (by have := hz.out; omega)⟩
  | some t0 =>
    rw [hlk] at h hr0
    obtain ⟨⟨v, rfl⟩, hw3⟩ := h
    simp only at hr0
    have hpl := lookP_place hlk (by rw [tl_len]; omega)
    rw [tl_len] at hpl
    have hr3 := hr2.laid t0
    have hg3 := laid_grown w2 (z + 1) t0
    rw [← hw3] at hr3 hg3
    have hg23 := grownBy_trans' hg2 hg3
    have hs3 := hg3.size
    have s0 := cell_grown (hcz 0 _ rfl) hg3 hzb
    have s1 := cell_grown (hcz 1 _ rfl) hg3 hzb
    have s2 := cell_grown (hcz 2 _ rfl) hg3 hzb
    have s3 := cell_grown (hcz 3 _ rfl) hg3 hzb
    have g0 := fun j => frozen_grown (hfz j) (by omega) hg3 hzb
    have hc1 := hr3.c1
    clear hw3 hlk hlk0 hcz hfz hr2 hg2 hg3
    by_cases h0 : t0.kind = 0
    · rw [if_pos h0] at hr0
      rw [h0] at hc1
      subst hr0
      have z0 := g0 0
      have z1 := g0 1
      have z2 := g0 2
      have z3 := g0 3
      clear hne h0
      go_wp2
      obtain ⟨W, hW, e0, e1, e2, e3, hgW, hfW⟩ := set_four (.string ⟨#[110, 117, 109]⟩) (.int .i64 0) (.string ⟨#[]⟩) (.slice none 0 0) s0 s1 s2 s3
      rw [hW]
      clear hW
      have hgE := grown_new hg23 hgW (by have := hz.out; omega)
      refine bodyPost_ret (v := .agg (exC [110, 117, 109] 0 [] (.slice none 0 0))) (by simp [results, Tryz.results47, go_sem, e0, e1, e2, e3, exC]) rfl ?_
      exact ⟨⟨_, rfl, exR_leaf _ _ _ _ _⟩, drop_new hgE (by have := hz.out; omega)⟩
    · rw [if_neg h0] at hr0
      have i0 : ¬ (t0.kind : Int) = 0 := by omega
      obtain ⟨r1, hr1⟩ : ∃ r1, assignP n (tl s) t0 0 = r1 := ⟨_, rfl⟩
      rw [hr1] at hr0
      have hne1 : r1 ≠ .out := fun h => hne (by rw [← hr0, h]; rfl)
      have ih := assignment_any n s (z + 1) hs w3 t0 0 hr3 (by omega) hpl.2 (by rw [hr1]; exact hne1)
      rw [hr1] at ih
      have hr0 := Lib.hid hr0
      clear h0 hr1
      go_wp2_with fail
      refine ih.mono ?_
      intro e w4 h
      unfold Parses at h
      have hr0 := hr0.out
      cases r1 with
      | out => exact absurd rfl hne1
      | no c k =>
        obtain ⟨rfl, hg4⟩ := h
        simp only [Res.next] at hr0
        subst hr0
        exact ⟨rfl, rfl, drop_new (grownBy_trans' hg23 hg4) (by have := hz.out; omega)⟩
      | ok e1 t1 =>
        obtain ⟨⟨v, rfl, hx⟩, hr4, hg4, hp4⟩ := h
        simp only [Res.next] at hr0
        obtain ⟨op, num, name, kids⟩ := e1
        have hx0 := hx
        unfold ExR at hx
        obtain ⟨A, c, rfl, hcc, hcm, _⟩ := hx
        have hg24 := grownBy_trans' hg23 hg4
        have hs4 := hg4.size
        have s0 := cell_grown s0 hg4 hzb
        have s1 := cell_grown s1 hg4 hzb
        have s2 := cell_grown s2 hg4 hzb
        have s3 := cell_grown s3 hg4 hzb
        have g0 := fun j => frozen_grown (g0 j) (by omega) hg4 hzb
        obtain ⟨KL, hKL⟩ : ∃ KL, kids.length = KL := ⟨_, rfl⟩
        rw [hKL] at hcc hx0 ⊢
        have hx0 := Lib.hid hx0
        unfold exC
        have hbl : z + 1 < w4.heap.size := World.block_lt_of_cell? w4 ⟨z + 1, 0, none⟩ hr4.c0
        have hth := fun W => throw_any 31 t1.place W
        clear ih hne1 hKL hr3 hc1 i0
        go_upto_region 6 with fail
        obtain ⟨w5, hW5, hs5, hgr5, hcy, _, hold5⟩ := one_new w4 #[.string ⟨op.toArray⟩, .int .i64 num, .string ⟨name.toArray⟩, .slice A KL c] 30
        rw [hW5]
        have hg45 := hgr5 (some (z + 1))
        have s0 := cell_grown s0 hg45 hzb
        have s1 := cell_grown s1 hg45 hzb
        have s2 := cell_grown s2 hg45 hzb
        have s3 := cell_grown s3 hg45 hzb
        have g0 := fun j => frozen_grown (g0 j) (by omega) hg45 hzb
        have hr5 : RdAt w5 (z + 1) s t1 0 := hr4.grown (hold5 (z + 1) hbl)
        have hx5 : Hid (ExR w5 (fun g => w3.heap.size ≤ g ∧ g < w4.heap.size) (.mk op num name kids) (.agg (exC op num name (.slice A KL c)))) := hx0.out.keep (fun g h => h) (fun g h => hold5 g h.2)
        have hg25 := grownBy_trans' hg24 hg45
        obtain ⟨y, hy⟩ : ∃ y, w4.heap.size = y := ⟨_, rfl⟩
        rw [hy] at hcy hs5 hs4 hbl ⊢
        have y0 := hcy 0 _ rfl
        have y1 := hcy 1 _ rfl
        have y2 := hcy 2 _ rfl
        have y3 := hcy 3 _ rfl
        have hy := Lib.hid hy
        have c1 := hr5.c1
        have c4 := hr5.c4
        have z0 := g0 0
        have z1 := g0 1
        have z2 := g0 2
        have z3 := g0 3
        clear hW5 hgr5 hcy hold5 hr4 hx0 hr5 hg24 hg45 hg4
        by_cases h1 : t1.kind = 0
        · rw [if_neg (by omega)] at hr0
          rw [h1] at c1
          subst hr0
          clear h1 hne
          go_wp2
          obtain ⟨W, hW, e0, e1, e2, e3, hgW, hfW⟩ := set_four (.string ⟨op.toArray⟩) (.int .i64 num) (.string ⟨name.toArray⟩) (.slice A KL c) s0 s1 s2 s3
          rw [hW]
          clear hW
          have hgE := grown_new hg25 hgW (by have := hz.out; omega)
          have hWs := hgW.size
          have hxE : ExR W (fun g => w.heap.size ≤ g ∧ g < W.heap.size) (.mk op num name kids) (.agg (exC op num name (.slice A KL c))) := hx5.out.keep (fun g h => by have := hz.out; have := hy.out; omega)
            (fun g h => hgW.block g (by have := hy.out; omega) (by simp; omega))
          refine bodyPost_ret (v := .agg (exC op num name (.slice A KL c))) (by simp [results, Tryz.results47, go_sem, e0, e1, e2, e3, exC]) rfl ?_
          exact ⟨⟨_, rfl, hxE⟩, drop_new hgE (by have := hz.out; omega)⟩
        · rw [if_pos (by omega)] at hr0
          have i1 : ¬ (t1.kind : Int) = 0 := by omega
          subst hr0
          clear h1 hne
          go_wp2_with fail
          refine (hth _).mono ?_
          rintro e w5 ⟨rfl, rfl⟩
          exact ⟨rfl, rfl, drop_new hg25 (by have := hz.out; omega)⟩
end Go.Proofs.YtlijlgbaikijnaaGreatDoor
