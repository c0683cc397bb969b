/-
  An assignment is read as in plain words, by the package, if what stands within it is. Conditions: at most a million bytes.
-/
import Derived.Test.YtlijlgbaikijnaaGreatDoorSmOperand
namespace Go.Proofs.YtlijlgbaikijnaaGreatDoor
open Go Go.RowKit

/-- What an assignment leaves: an expression with a name and one kid. -/
theorem named_end {w w6 : World} {s : ByteArray} {b d z y y3 y4 : Nat} {t2 : Th} {OP NM op : List UInt8} {num : Int} {name : List UInt8} {kids : List E} {A : Option Addr} {KL c : Nat}
    (hgE : w.grownBy w6 (some b)) (hr6 : RdAt w6 b s t2 d) (hs6 : w6.heap.size = y + 1) (hz : w.heap.size = z) (hzb : z ≠ b) (hbz : b < z) (hzy : z < y) (h34 : z ≤ y3 ∧ y4 ≤ y) (h3z : z < y3)
    (hx6 : ExR w6 (fun g => y3 ≤ g ∧ g < y4) (.mk op num name kids) (.agg (exC op num name (.slice A KL c)))) (hp : t2.place + t2.text.length ≤ s.size) {u0 u1 u2 u3 : Value}
    (s0 : w6.cell? ⟨z, 0, none⟩ = some u0) (s1 : w6.cell? ⟨z, 1, none⟩ = some u1) (s2 : w6.cell? ⟨z, 2, none⟩ = some u2) (s3 : w6.cell? ⟨z, 3, none⟩ = some u3) :
    ∃ W, ((((w6.alloc (.cells #[.string ⟨op.toArray⟩, .int .i64 num, .string ⟨name.toArray⟩, .slice A KL c] 30)).setCell ⟨z, 0, none⟩ (.string ⟨OP.toArray⟩)).setCell ⟨z, 1, none⟩ (.int .i64 0)).setCell ⟨z, 2, none⟩ (.string ⟨NM.toArray⟩)).setCell ⟨z, 3, none⟩ (.slice (some ⟨y + 1, 0, none⟩) 1 1) = W ∧
      W.cell? ⟨z, 0, none⟩ = some (.string ⟨OP.toArray⟩) ∧ W.cell? ⟨z, 1, none⟩ = some (.int .i64 0) ∧ W.cell? ⟨z, 2, none⟩ = some (.string ⟨NM.toArray⟩) ∧ W.cell? ⟨z, 3, none⟩ = some (.slice (some ⟨y + 1, 0, none⟩) 1 1) ∧
      ∀ e, e = .returned (.agg (exC OP 0 NM (.slice (some ⟨y + 1, 0, none⟩) 1 1))) → Parses s b d w (.ok (.mk OP 0 NM [.mk op num name kids]) t2) e W := by
  obtain ⟨w7, hW7, hs7, hgr7, hcr, _, hold7⟩ := one_new w6 #[.string ⟨op.toArray⟩, .int .i64 num, .string ⟨name.toArray⟩, .slice A KL c] 30
  rw [hW7]
  rw [hs6] at hcr hs7
  have hzb7 := fun {j : Nat} {v : Value} (h : w6.cell? ⟨z, j, none⟩ = some v) => cell_grown h (hgr7 (some b)) hzb
  obtain ⟨W, hW, e0, e1, e2, e3, hgW, _⟩ := set_four (.string ⟨OP.toArray⟩) (.int .i64 0) (.string ⟨NM.toArray⟩) (.slice (some ⟨y + 1, 0, none⟩) 1 1) (hzb7 s0) (hzb7 s1) (hzb7 s2) (hzb7 s3)
  rw [hW]
  have hWs := hgW.size
  have hblk : ∀ g, g ≠ z → g < w6.heap.size → W.heap[g]? = w6.heap[g]? := fun g h1 h2 => (hgW.block g (by omega) (by simpa using h1)).trans (hold7 g h2)
  have hnew : W.heap[y + 1]? = w7.heap[y + 1]? := hgW.block (y + 1) (by omega) (by simp; omega)
  have hgF := grown_new (grownBy_trans' hgE (hgr7 (some b))) hgW (by omega)
  have hrW : RdAt W b s t2 d := hr6.grown (hblk b (by omega) (by omega))
  refine ⟨W, rfl, e0, e1, e2, e3, fun e he => ⟨⟨_, he, ?_⟩, hrW, hgF, hp⟩⟩
  unfold ExR
  refine ⟨some ⟨y + 1, 0, none⟩, 1, rfl, Nat.le_refl _, by unfold maxLen; omega, .inr ⟨y + 1, 0, rfl, ⟨by omega, by omega⟩, ?_⟩⟩
  have hc := fun (j : Nat) v h => (World.cell?_of_block (a := ⟨y + 1, j, none⟩) hnew).trans (hcr j v h)
  have hxW : ExR W (fun g => w.heap.size ≤ g ∧ g < W.heap.size) (.mk op num name kids) (.agg (exC op num name (.slice A KL c))) := hx6.keep (w' := W) (fun g h => ⟨by omega, by omega⟩) (fun g h => hblk g (by omega) (by omega))
  exact kids_one (k := .slice A KL c) (hc 0 _ rfl) (hc 1 _ rfl) (hc 2 _ rfl) (hc 3 _ rfl) hxW

set_option maxHeartbeats 8000000 in
set_option maxRecDepth 100000 in
theorem assignment_step (n : Nat) (s : ByteArray) (b : Nat) (hs : s.size ≤ 1000000)
    (hc : Says 103 (choiceP n) s b) (ha : Says 81 (assignP n) s b) :
    Says 81 (assignP (n + 1)) s b := by
  intro w t d hr hd hp hne
  obtain ⟨r, hr0⟩ : ∃ r, assignP (n + 1) (tl s) t d = r := ⟨_, rfl⟩
  rw [hr0] at hne ⊢
  rw [assignP] at hr0
  obtain ⟨r1, hr1⟩ : ∃ r1, choiceP n (tl s) t d = r1 := ⟨_, rfl⟩
  rw [hr1] at hr0
  have hne1 : r1 ≠ .out := fun h => hne (by rw [← hr0, h]; rfl)
  have hc1 := hr.c1
  have hblt : b < w.heap.size := World.block_lt_of_cell? w ⟨b, 0, none⟩ hr.c0
  have hr0 := Lib.hid hr0
  go_enter Tryz.func81, Tryz.ntmps81
  go_wp2_with fail
  obtain ⟨w2, hW2, hs2, hgr, hcz, hfz, hold⟩ := one_new w #[.string ⟨#[]⟩, .int .i64 0, .string ⟨#[]⟩, .slice none 0 0] 30
  rw [hW2]
  have hg2 := hgr (some b)
  have hr2 : RdAt w2 b s t d := hr.grown (hold b hblt)
  obtain ⟨z, hz⟩ : ∃ z, w.heap.size = z := ⟨_, rfl⟩
  rw [hz] at hcz hfz hs2 ⊢
  have hzb : z ≠ b := by omega
  have hz := Lib.hid hz
  have ih := hc w2 t d hr2 hd hp (by rw [hr1]; exact hne1)
  rw [hr1] at ih
  clear hW2 hc1 hr hgr hold hr2 hr1
  refine ih.mono ?_
  intro e w3 h
  unfold Parses at h
  have hr0 := hr0.out
  cases r1 with
  | out => exact absurd rfl hne1
  | no c k =>
    obtain ⟨rfl, hg3⟩ := h
    simp only [Res.next] at hr0
    subst hr0
    exact ⟨rfl, rfl, grownBy_trans' hg2 hg3⟩
  | ok e1 t1 =>
    obtain ⟨⟨v, rfl, hx⟩, hr3, hg3, hp3⟩ := h
    simp only [Res.next] at hr0
    obtain ⟨op, num, name, kids⟩ := e1
    have hx0 := hx
    unfold ExR at hx
    obtain ⟨A, c, rfl, hcc, hcm, _⟩ := hx
    have hg23 := grownBy_trans' hg2 hg3
    have hs3 := hg3.size
    have s0 := cell_grown (hcz 0 _ rfl) hg3 hzb
    have s1 := cell_grown (hcz 1 _ rfl) hg3 hzb
    have s2 := cell_grown (hcz 2 _ rfl) hg3 hzb
    have s3 := cell_grown (hcz 3 _ rfl) hg3 hzb
    have g0 := fun j => frozen_grown (hfz j) (by omega) hg3 hzb
    obtain ⟨KL, hKL⟩ : ∃ KL, kids.length = KL := ⟨_, rfl⟩
    rw [hKL] at hcc hx0 ⊢
    have hx0 := Lib.hid hx0
    have hb3 : b < w3.heap.size := World.block_lt_of_cell? w3 ⟨b, 0, none⟩ hr3.c0
    have hc1 := hr3.c1
    have hc2 := hr3.c2
    have hc3 := hr3.c3
    have hc4 := hr3.c4
    have hr0 := Lib.hid hr0
    have hass := fun W => assigns_any ⟨t1.text.toArray⟩ W
    rw [tl_mk] at hass
    obtain ⟨x, hxx⟩ : ∃ x : ByteArray, (⟨t1.text.toArray⟩ : ByteArray) = x := ⟨_, rfl⟩
    rw [hxx] at hc2 hass
    have hxx := Lib.hid hxx
    clear ih hne1 hcz hfz hKL
    unfold exC
    go_wp2_with fail
    obtain ⟨w4, hW4, hs4, hgr4, hcy, hcm1, hfy, _, hold4⟩ := two_new w3 #[.string ⟨op.toArray⟩, .int .i64 num, .string ⟨name.toArray⟩, .slice A KL c] #[.int .i64 (t1.kind : Int), .string x, .int .i64 (t1.num : Int), .int .i64 (t1.place : Int)] 30 120
    rw [hW4]
    have hr4 : RdAt w4 b s t1 d := hr3.grown (hold4 b hb3)
    have hg34 := hgr4 (some b)
    have s0 := cell_grown s0 hg34 hzb
    have s1 := cell_grown s1 hg34 hzb
    have s2 := cell_grown s2 hg34 hzb
    have s3 := cell_grown s3 hg34 hzb
    have g0 := fun j => frozen_grown (g0 j) (by omega) hg34 hzb
    have hx4 : Hid (ExR w4 (fun g => w2.heap.size ≤ g ∧ g < w3.heap.size) (.mk op num name kids) (.agg (exC op num name (.slice A KL c)))) := hx0.out.keep (fun g h => h) (fun g h => hold4 g h.2)
    obtain ⟨y, hy⟩ : ∃ y, w3.heap.size = y := ⟨_, rfl⟩
    rw [hy] at hcy hcm1 hs4 hs3 ⊢
    have hyb : y ≠ b := by omega
    have hyz : y ≠ z := by omega
    have hmb : y + 1 ≠ b := by omega
    have y0 := hcy 0 _ rfl
    have y1 := hcy 1 _ rfl
    have y2 := hcy 2 _ rfl
    have y3 := hcy 3 _ rfl
    have m1 := hcm1 1 _ rfl
    have m3 := hcm1 3 _ rfl
    have hy := Lib.hid hy
    have hg24 := grownBy_trans' hg23 hg34
    clear hW4 hgr4 hfy hcy hcm1 hold4 hr3 hc1 hc2 hc3 hc4 hx0 hg3 hg34
    refine (hass _).mono ?_
    rintro e w4 ⟨rfl, rfl⟩
    by_cases hA : asgV t1.text = false
    · have hr0 := hr0.out
      rw [if_pos hA] at hr0
      subst hr0
      rw [hA] at hass ⊢
      have z0 := g0 0
      have z1 := g0 1
      have z2 := g0 2
      have z3 := g0 3
      clear hne
      go_wp2
      obtain ⟨W, hW, e0, e1, e2, e3, hgW, hfW⟩ := set_four (.string ⟨op.toArray⟩) (.int .i64 num) (.string ⟨name.toArray⟩) (.slice A KL c) s0 s1 s2 s3
      rw [hW]
      clear hW
      have hgE := grown_new hg24 hgW (by have := hz.out; omega)
      have hrE : RdAt W b s t1 d := hr4.grown (hgW.block b (by omega) (by simp; omega))
      have hWs := hgW.size
      have hxE : ExR W (fun g => w.heap.size ≤ g ∧ g < W.heap.size) (.mk op num name kids) (.agg (exC op num name (.slice A KL c))) := hx4.out.keep (fun g h => by have := hz.out; have := hy.out; omega)
        (fun g h => hgW.block g (by have := hy.out; omega) (by simp; omega))
      refine bodyPost_ret (v := .agg (exC op num name (.slice A KL c))) (by simp [results, Tryz.results81, go_sem, e0, e1, e2, e3, exC]) rfl ?_
      exact ⟨⟨_, rfl, hxE⟩, hrE, hgE, hp3⟩
    · have hA : asgV t1.text = true := by cases h9 : asgV t1.text with | false => exact absurd h9 hA | true => rfl
      have hr0 := hr0.out
      rw [if_neg (by rw [hA]; decide)] at hr0
      rw [hA] at hass ⊢
      have hth := fun W => throw_any 25 t1.place W
      have hr0 := Lib.hid hr0
      by_cases hk : t.kind = 2
      · rw [show ((t.kind : Int) == 2) = true by rw [hk]; rfl]
        by_cases ho : op = [110, 97, 109, 101]
        · have hr0 := hr0.out
          rw [if_neg (by rintro (h | h); exact h hk; exact h ho)] at hr0
          have o3 : ((⟨op.toArray⟩ : ByteArray).toList == [110, 97, 109, 101]) = true := by rw [Lib.toList_data, ho]; rfl
          obtain ⟨oy, hoy⟩ : ∃ oy : ByteArray, (⟨op.toArray⟩ : ByteArray) = oy := ⟨_, rfl⟩
          rw [hoy] at y0 o3
          have hr0 := Lib.hid hr0
          clear hoy ho hk
          go_wp2_with fail
          refine (enter_any s b t1 d w4 hr4 hd hp3 hs).mono ?_
          intro e w5 h
          unfold Enters at h
          have hr0 := hr0.out
          unfold enterT at hr0
          by_cases h40 : d = 40
          · rw [if_pos h40] at h hr0
            obtain ⟨rfl, hg5⟩ := h
            subst hr0
            exact ⟨rfl, rfl, grownBy_trans' hg24 hg5⟩
          · rw [if_neg h40] at h hr0
            unfold Goes at h
            unfold stepT goT at hr0
            cases hlk : lookP (tl s) (t1.place + t1.text.length) with
            | none =>
              rw [hlk] at h hr0
              obtain ⟨rfl, hg5⟩ := h
              simp only at hr0
              subst hr0
              exact ⟨rfl, rfl, grownBy_trans' hg24 hg5⟩
            | some t2 =>
              rw [hlk] at h hr0
              obtain ⟨⟨v, rfl⟩, hr5, hg5⟩ := h
              simp only at hr0
              have hpl := lookP_place hlk (by rw [tl_len]; omega)
              rw [tl_len] at hpl
              obtain ⟨r2, hr2⟩ : ∃ r2, assignP n (tl s) t2 (d + 1) = r2 := ⟨_, rfl⟩
              rw [hr2] at hr0
              have hne2 : r2 ≠ .out := fun h => hne (by rw [← hr0, h])
              have ih := ha w5 t2 (d + 1) hr5 (by omega) hpl.2 (by rw [hr2]; exact hne2)
              rw [hr2] at ih
              have hg25 := grownBy_trans' hg24 hg5
              have hs5 := hg5.size
              have s0 := cell_grown s0 hg5 hzb
              have s1 := cell_grown s1 hg5 hzb
              have s2 := cell_grown s2 hg5 hzb
              have s3 := cell_grown s3 hg5 hzb
              have g0 := fun j => frozen_grown (g0 j) (by omega) hg5 hzb
              have y2 := cell_grown y2 hg5 hyb
              have m1 := cell_grown m1 hg5 hmb
              have hr0 := Lib.hid hr0
              clear hlk hr2 hr4 hg24 hg5 o3 y0 y1 y3 m3 hx4
              go_wp2_with fail
              refine ih.mono ?_
              intro e w6 h
              unfold Parses at h
              have hr0 := hr0.out
              cases r2 with
              | out => exact absurd rfl hne2
              | no c k =>
                obtain ⟨rfl, hg6⟩ := h
                simp only at hr0
                subst hr0
                exact ⟨rfl, rfl, grownBy_trans' hg25 hg6⟩
              | ok e2 t3 =>
                obtain ⟨⟨v, rfl, hx⟩, hr6, hg6, hp6⟩ := h
                simp only at hr0
                subst hr0
                obtain ⟨op2, num2, name2, kids2⟩ := e2
                have hx6 := hx
                unfold ExR at hx
                obtain ⟨A2, c2, rfl, hcc2, hcm2, _⟩ := hx
                have hg26 := grownBy_trans' hg25 hg6
                have hs6 := hg6.size
                have s0 := cell_grown s0 hg6 hzb
                have s1 := cell_grown s1 hg6 hzb
                have s2 := cell_grown s2 hg6 hzb
                have s3 := cell_grown s3 hg6 hzb
                have g0 := fun j => frozen_grown (g0 j) (by omega) hg6 hzb
                have y2 := cell_grown y2 hg6 hyb
                have m1 := cell_grown m1 hg6 hmb
                obtain ⟨KL2, hKL2⟩ : ∃ KL2, kids2.length = KL2 := ⟨_, rfl⟩
                rw [hKL2] at hcc2 hx6 ⊢
                have hx6 := Lib.hid hx6
                have c5 := hr6.c5
                have fb5 := hr6.fz 5
                have hw7 := hr6.within d
                have k1 : IntKind.i64.wrap (((d + 1 : Nat) : Int) - 1) = (d : Int) := by rw [show ((d + 1 : Nat) : Int) - 1 = (d : Int) by omega]; exact IntWalk.i64_in _ (by omega)
                have hb6 : b < w6.heap.size := World.block_lt_of_cell? w6 ⟨b, 0, none⟩ hr6.c0
                have z0 := g0 0
                have z1 := g0 1
                have z2 := g0 2
                have z3 := g0 3
                unfold exC
                clear ih hne2
                have hgw5 := grownBy_setC w6 b 5 (.int .i64 (d : Int))
                have hsw : (w6.setCell ⟨b, 5, none⟩ (.int .i64 (d : Int))).heap.size = w6.heap.size := by simp [World.setCell]
                go_upto_region 11 with fail
                generalize hw5e : w6.setCell ⟨b, 5, none⟩ (.int .i64 (d : Int)) = w7 at hgw5 hsw hw7 ⊢
                have s0 := cell_grown s0 hgw5 hzb
                have s1 := cell_grown s1 hgw5 hzb
                have s2 := cell_grown s2 hgw5 hzb
                have s3 := cell_grown s3 hgw5 hzb
                have g0 := fun j => frozen_grown (g0 j) (by omega) hgw5 hzb
                have y2 := cell_grown y2 hgw5 hyb
                have m1 := cell_grown m1 hgw5 hmb
                obtain ⟨w8, hW8, hs8, hgr8, hck, hfk, hold8⟩ := one_new w7 #[.string ⟨op2.toArray⟩, .int .i64 num2, .string ⟨name2.toArray⟩, .slice A2 KL2 c2] 30
                rw [hW8]
                have hr8 : RdAt w8 b s t3 d := hw7.grown (hold8 b (by omega))
                have hg78 := hgr8 (some b)
                have s0 := cell_grown s0 hg78 hzb
                have s1 := cell_grown s1 hg78 hzb
                have s2 := cell_grown s2 hg78 hzb
                have s3 := cell_grown s3 hg78 hzb
                have g0 := fun j => frozen_grown (g0 j) (by omega) hg78 hzb
                have y2 := cell_grown y2 hg78 hyb
                have m1 := cell_grown m1 hg78 hmb
                rw [hsw] at hck hs8
                have hx8 : ExR w8 (fun g => w5.heap.size ≤ g ∧ g < w6.heap.size) (.mk op2 num2 name2 kids2) (.agg (exC op2 num2 name2 (.slice A2 KL2 c2))) := hx6.out.keep (fun g h => h) (fun g h => (hold8 g (by omega)).trans (hgw5.block g h.2 (by simp; omega)))
                have hx8 := Lib.hid hx8
                have hgE := grownBy_trans' hg26 (grownBy_trans' hgw5 hg78)
                obtain ⟨k, hk⟩ : ∃ k, w6.heap.size = k := ⟨_, rfl⟩
                rw [hk] at hck hs8 ⊢
                have k0 := hck 0 _ rfl
                have k1' := hck 1 _ rfl
                have k2 := hck 2 _ rfl
                have k3 := hck 3 _ rfl
                have z0 := g0 0
                have z1 := g0 1
                have z2 := g0 2
                have z3 := g0 3
                have hkz : k ≠ z := by omega
                have hk := Lib.hid hk
                clear hW8 hgr8 hfk hold8 hw7 hw5e c5 fb5 k1 hr6 hck hne hx6 g0
                have hzlt : z < w8.heap.size := by omega
                have hblk : ∀ o, (w8.alloc o).heap[z]? = w8.heap[z]? := fun o => Below.heap_alloc w8 o z hzlt
                have za0 : ∀ o, (w8.alloc o).cell? ⟨z, 0, none⟩ = some (.string ⟨#[]⟩) := fun o => (World.cell?_of_block (a := ⟨z, 0, none⟩) (hblk o)).trans s0
                have za1 : ∀ o, (w8.alloc o).cell? ⟨z, 1, none⟩ = some (.int .i64 0) := fun o => (World.cell?_of_block (a := ⟨z, 1, none⟩) (hblk o)).trans s1
                have za2 : ∀ o, (w8.alloc o).cell? ⟨z, 2, none⟩ = some (.string ⟨#[]⟩) := fun o => (World.cell?_of_block (a := ⟨z, 2, none⟩) (hblk o)).trans s2
                have za3 : ∀ o, (w8.alloc o).cell? ⟨z, 3, none⟩ = some (.slice none 0 0) := fun o => (World.cell?_of_block (a := ⟨z, 3, none⟩) (hblk o)).trans s3
                have zb0 : ∀ o, (w8.alloc o).frozen? ⟨z, 0, none⟩ = false := fun o => (World.frozen?_of_block (a := ⟨z, 0, none⟩) (hblk o)).trans z0
                have zb1 : ∀ o, (w8.alloc o).frozen? ⟨z, 1, none⟩ = false := fun o => (World.frozen?_of_block (a := ⟨z, 1, none⟩) (hblk o)).trans z1
                have zb2 : ∀ o, (w8.alloc o).frozen? ⟨z, 2, none⟩ = false := fun o => (World.frozen?_of_block (a := ⟨z, 2, none⟩) (hblk o)).trans z2
                have zb3 : ∀ o, (w8.alloc o).frozen? ⟨z, 3, none⟩ = false := fun o => (World.frozen?_of_block (a := ⟨z, 3, none⟩) (hblk o)).trans z3
                clear hblk
                go_wp2_with fail
                have hme := named_end (OP := t1.text) (NM := name) hgE hr8 hs8 hz.out hzb (by have := hz.out; omega) (by have := hk.out; omega) (y3 := w5.heap.size) (y4 := w6.heap.size) ⟨by omega, by have := hk.out; omega⟩ (by omega) hx8.out hp6 s0 s1 s2 s3
                rw [hxx.out] at hme
                obtain ⟨W, hW, e0, e1, e2, e3, hfin⟩ := hme
                rw [hW]
                refine bodyPost_ret (v := .agg #[.string x, .int .i64 0, .string ⟨name.toArray⟩, .slice (some ⟨k + 1, 0, none⟩) 1 1]) (by simp [results, Tryz.results81, go_sem, e0, e1, e2, e3]) rfl ?_
                exact hfin _ (by rw [← hxx.out]; rfl)
        · have hr0 := hr0.out
          rw [if_pos (.inr ho)] at hr0
          subst hr0
          have o3 : ((⟨op.toArray⟩ : ByteArray).toList == [110, 97, 109, 101]) = false := by rw [Lib.toList_data, beq_eq_false_iff_ne]; exact ho
          obtain ⟨oy, hoy⟩ : ∃ oy : ByteArray, (⟨op.toArray⟩ : ByteArray) = oy := ⟨_, rfl⟩
          rw [hoy] at y0 o3
          clear hne ho hoy hk
          go_wp2_with fail
          refine (hth _).mono ?_
          rintro e w5 ⟨rfl, rfl⟩
          exact ⟨rfl, rfl, hg24⟩
      · rw [show ((t.kind : Int) == 2) = false by rw [beq_eq_false_iff_ne]; omega]
        have hr0 := hr0.out
        rw [if_pos (.inl hk)] at hr0
        subst hr0
        clear hne hk
        go_wp2_with fail
        refine (hth _).mono ?_
        rintro e w5 ⟨rfl, rfl⟩
        exact ⟨rfl, rfl, hg24⟩
end Go.Proofs.YtlijlgbaikijnaaGreatDoor
