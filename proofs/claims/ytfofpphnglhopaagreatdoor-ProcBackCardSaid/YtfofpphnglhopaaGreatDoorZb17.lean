/-
  A part. Conditions: each theorem's own.
-/
import Derived.StillTailTactics
import Derived.Test.YtfofpphnglhopaaGreatDoorZb8
import Derived.Test.YtfofpphnglhopaaGreatDoorZb10
import Derived.Test.YtfofpphnglhopaaGreatDoorZb15
import Derived.Test.YtfofpphnglhopaaGreatDoorZb16
set_option maxHeartbeats 8000000
set_option maxRecDepth 100000
namespace Go.Proofs.YtfofpphnglhopaaGreatDoor
open Go Go.RowKit Go.ChangeMaps
def dirD : Pn := ⟨1, 1, 0, 1, [], some [], nm1 100⟩
def nlA : List (ByteArray × Nat) := [(nm1 100, 2)]
def nlB : List (ByteArray × Nat) := [(nm1 100, 2), (nm1 97, 3)]
def nlC : List (ByteArray × Nat) := [(nm1 100, 2), (nm1 97, 3), (nm1 108, 4)]
def ndsA9 : Nds := [(1, rootN nlA), (2, dirD)]
def ndsB9 : Nds := [(1, rootN nlB), (2, dirD), (3, leafN 2 [120, 121, 122])]
def ndsC9 : Nds := [(1, rootN nlC), (2, dirD), (3, leafN 2 [120, 121, 122]), (4, leafN 3 [100, 47, 98])]
def nds9 : Nds := [(1, { rootN nlC with holds := 1 }), (2, dirD), (3, leafN 2 [120, 121, 122]), (4, leafN 3 [100, 47, 98])]
theorem made9_1 : made [(1, root0)] root0 [] (nm1 100) 2 1 (tl ⟨#[]⟩) = ndsA9 := by rfl
theorem made9_2 : made ndsA9 (rootN nlA) nlA (nm1 97) 3 2 (tl ⟨#[120, 121, 122]⟩) = ndsB9 := by rfl
theorem made9_3 : made ndsB9 (rootN nlB) nlB (nm1 108) 4 3 (tl ⟨#[100, 47, 98]⟩) = ndsC9 := by rfl
def c9 (fb plb tb : Nat) : Sy := ⟨fb, plb, tb, 12, 100, 40, 3, 4⟩
def hs9 : Hs := [(1, ⟨1, .text [104, 101, 108, 108, 111] 0⟩), (2, ⟨1, .sink [] 50⟩), (3, ⟨1, .rd 0⟩), (4, ⟨1, .wr 0⟩)]
def s9 (bb ppb : Nat) : St := ⟨nds9, [(bb, some ⟨[], 0, 3, .slice none 0 0, .slice none 0 0, []⟩)], 0, hs9, [(ppb, bb, 2)], 4, []⟩
def ps0 : List Pt := List.replicate 16 ⟨0, 0⟩ ++ [⟨1, 0⟩, ⟨18, 0⟩]
structure SL (w : World) (B : Nat) (F : Nat → Prop) (c : Sy) (lb most nest : Nat) (s : St) : Prop where
  sys : Sys w F c s
  log : LogAt w B lb most nest [] [] 0
  nl : ∀ g, F g → ¬ LogB w g
  hF : ∀ g, F g → B ≤ g
  hB : B ≤ w.heap.size
theorem KeepL.of_chg {F F' : Nat → Prop} {w w' : World} (k : Chg F F' w w') (h : ∀ g, F g → ¬ LogB w g) : KeepL w w' := ⟨k.size, fun b cur t f hb ht => k.block b (Array.getElem?_eq_some_iff.1 hb).1 fun hf => h b hf ⟨cur, t, f, hb, ht⟩⟩
theorem SL.step {w w' : World} {B : Nat} {F F' : Nat → Prop} {c : Sy} {lb most nest : Nat} {s s' : St} (h : SL w B F c lb most nest s) (hs : Sys w' F' c s') (k : Chg F F' w w') : ∃ F'', SL w' B F'' c lb most nest s' ∧ Chg F F'' w w' := by
  have k2 : Chg F (fun g => F' g ∧ ¬ LogB w' g) w w' := k.mono (fun _ h => h) fun b _ hb => .inl hb.1
  refine ⟨_, ⟨hs.shrink, h.log.keep (KeepL.of_chg k h.nl), fun g hg => hg.2, fun g hg => ?_, Nat.le_trans h.hB k.size⟩, k2⟩
  by_cases hlt : g < w.heap.size
  · exact h.hF g (Classical.byContradiction fun hf => k.foot g hlt hf hg.1)
  · have := h.hB; omega
theorem tree_step {w w' : World} {B : Nat} {Ft Ft' : Nat → Prop} {fb mo ro lb most nest : Nat} {nds' : Nds} (hl : LogAt w B lb most nest [] [] 0) (hn : ∀ g, Ft g → ¬ LogB w g) (hT : TreeF w' Ft' fb mo ro nds') (k : Chg Ft Ft' w w') :
    ∃ Ft'', TreeF w' Ft'' fb mo ro nds' ∧ Chg Ft Ft'' w w' ∧ LogAt w' B lb most nest [] [] 0 ∧ ∀ g, Ft'' g → ¬ LogB w' g :=
  ⟨_, hT.shrink, k.mono (fun _ h => h) fun b _ hb => .inl hb.1, hl.keep (KeepL.of_chg k hn), fun g hg => hg.2⟩
theorem sys_tree {w : World} {F : Nat → Prop} {c : Sy} {s : St} {f : Nat} {args : Array Value} {r : Ending} {nds' : Nds} (h : Sys w F c s)
    (hc : ∀ Ft, TreeF w Ft c.fb c.most c.room s.nds → Calls Tryz.prog f args w fun e w' => e = r ∧ ∃ Ft', TreeF w' Ft' c.fb c.most c.room nds' ∧ Chg Ft Ft' w w') :
    Calls Tryz.prog f args w fun e w' => e = r ∧ ∃ F', Sys w' F' c { s with nds := nds' } ∧ Chg F F' w w' := by
  obtain ⟨Ft, Fp, Fh, h, hF⟩ := h
  refine (hc Ft h.tree).mono ?_
  rintro e w' ⟨rfl, Ft', h1, h2⟩
  obtain ⟨h3, h4⟩ := h.treeStep h1 h2
  exact ⟨rfl, Sys.of hF h3 h4⟩
theorem procNew_any {w : World} {B : Nat} {F : Nat → Prop} {c : Sy} {lb most nest : Nat} {s : St} (h : SL w B F c lb most nest s) {x : Pn} (hx : look s.nds 1 = some x) (hh : x.holds ≤ 1000000) :
    Calls Tryz.prog 30 #[ptrV c.fb, ptrV c.tb, ptrV lb] w fun e w' => ∃ pb, e = .returned (.tuple #[ptrV pb, .int .i64 0]) ∧ ∃ F', PrR w' B F' c pb lb most nest { s with nds := upd s.nds 1 { x with holds := x.holds + 1 } } ps0 [] [] ∧ Chg F F' w w' := by
  have hho := sys_tree h.sys (fun Ft hT => hold_some hT hx hh)
  unfold ptrV
  replace h := Lib.hid h
  clear hx hh
  go_enter Tryz.func30, Tryz.ntmps30
  go_wp2_with fail
  refine hho.mono ?_
  rintro e w1 ⟨rfl, F1, hS, hC⟩
  obtain ⟨F2, h2, c2⟩ := h.out.step hS hC
  clear hho hS hC
  replace h2 := Lib.hid h2
  replace c2 := Lib.hid c2
  go_wp2
  have b3 : Blk (w1.alloc (.cells (procC c.fb c.tb lb ps0).toArray 126)) w1.heap.size (procC c.fb c.tb lb ps0) 126 := Blk.new w1 _ _
  have g3 : w1.grownBy (w1.alloc (.cells (procC c.fb c.tb lb ps0).toArray 126)) none := World.grownBy_alloc w1 _ _
  have hsz : w1.heap.size < (w1.alloc (.cells (procC c.fb c.tb lb ps0).toArray 126)).heap.size := b3.lt
  have kl : KeepL w1 (w1.alloc (.cells (procC c.fb c.tb lb ps0).toArray 126)) := KeepL.alloc w1 _
  go_ret2
  refine ⟨_, rfl, F2, ⟨h2.out.sys.grown g3, ?_, b3, fun hf => absurd (h2.out.sys.lt hf) (by omega), rfl, fun g hg => ?_, h2.out.hF, h2.out.hB⟩, c2.out.trans (Chg.of_grown g3 F2)⟩
  · obtain ⟨mv, nv, hl⟩ := h2.out.log.keep kl
    exact ⟨[], [], ⟨mv, nv, hl⟩, rfl, rfl, (fun m hm => by cases hm), fun j n hn => by simp at hn⟩
  · exact fun hq => h2.out.nl g hg ((logB_congr (g3.block g (h2.out.sys.lt hg) (by simp))).1 hq)
theorem PrR.far {w w' : World} {B pb lb most nest z : Nat} {F : Nat → Prop} {c : Sy} {s : St} {ps : List Pt} {ns : List (Nat × Pt)} {mk : List Nat} {C : List Value} {t : TypeId} (h : PrR w B F c pb lb most nest s ps ns mk) (k : Chg (fun g => g = z) (fun g => g = z) w w') (hz : Blk w z C t) (ht : ¬ LogT t) (hF : ¬ F z) (hp : z ≠ pb)
    (hx : ∀ bx, bx = z → ∀ C' t', Blk w bx C' t' → t' = 128 ∨ t' = 123 ∨ t' = 129 → False) : PrR w' B F c pb lb most nest s ps ns mk := by
  have hk : ∀ b, b < w.heap.size → b ≠ z → w'.heap[b]? = w.heap[b]? := fun b hb hne => k.block b hb hne
  have hnz : ∀ g, F g → g ≠ z := fun g hg e => hF (e ▸ hg)
  have kl : KeepL w w' := ⟨k.size, fun b cur t' f hb hT => hk b (Array.getElem?_eq_some_iff.1 hb).1 fun e => by
    subst e
    exact hz.noLog ht ⟨cur, t', f, hb, hT⟩⟩
  refine ⟨h.sys.keep k.size fun g hg => hk g (h.sys.lt hg) (hnz g hg), ?_, (hk pb h.prc.lt (Ne.symm hp)).trans h.prc, h.npb, h.len, fun g hg hq => h.nl g hg ((logB_congr (hk g (h.sys.lt hg) (hnz g hg))).1 hq), h.hF, h.hpb⟩
  obtain ⟨ms, fs, h1, h2, h3, h4, h5⟩ := h.log
  refine ⟨ms, fs, h1.keep kl, h2, h3, h4, fun j n hn => ?_⟩
  obtain ⟨fv, q1, q0, bx, bw, bf, e, k1, k2, k3⟩ := h5 j n hn
  have hb : ∀ b C' t', Kq w F pb b C' t' → (t' = 128 ∨ t' = 123 ∨ t' = 129) → Kq w' F pb b C' t' := fun b C' t' hb ht' => ⟨(hk b hb.1.lt fun e => hx b e C' t' hb.1 ht').trans hb.1, hb.2⟩
  exact ⟨fv, q1, q0, bx, bw, bf, e, hb _ _ _ k1 (.inl rfl), hb _ _ _ k2 (.inr (.inl rfl)), hb _ _ _ k3 (.inr (.inr rfl))⟩
theorem begun9_any (most : Nat) (hmost : most ≤ 1048576) (w : World) : Calls Tryz.prog 17 #[.int .i64 (most : Int)] w fun e w' => ∃ fb plb tb lb pb bb ppb, e = .returned (.tuple #[.agg #[ptrV fb, ptrV plb, ptrV tb, ptrV lb, ptrV pb], .bool true]) ∧ ∃ F', PrR w' w.heap.size F' (c9 fb plb tb) pb lb most 4 (s9 bb ppb) ps0 [] [] ∧ Chg (fun _ => False) F' w w' := by
  go_enter Tryz.func17, Tryz.ntmps17
  go_upto_region 1 with fail
  have zb : Blk (w.alloc (.cells #[.pointer none, .pointer none, .pointer none, .pointer none, .pointer none] 48)) w.heap.size [.pointer none, .pointer none, .pointer none, .pointer none, .pointer none] 48 := Blk.new w _ _
  have g1 : w.grownBy (w.alloc (.cells #[.pointer none, .pointer none, .pointer none, .pointer none, .pointer none] 48)) none := World.grownBy_alloc w _ _
  obtain ⟨z, hz⟩ : ∃ z, w.heap.size = z := ⟨_, rfl⟩
  generalize (w.alloc (.cells #[.pointer none, .pointer none, .pointer none, .pointer none, .pointer none] 48)) = w1 at zb g1 ⊢
  simp only [hz] at zb ⊢
  have c1 := Chg.of_grown g1 (fun _ => False)
  have hzl := zb.lt
  have hnn := nodes_New w1 12 100 (by decide) (by decide) (by decide)
  replace hz := Lib.hid hz
  replace g1 := Lib.hid g1
  replace zb := Lib.hid zb
  replace c1 := Lib.hid c1
  go_wp2_with fail
  refine hnn.mono ?_
  rintro e w2 ⟨fb, rfl, Ft, hT2, hC2⟩
  have c2 := c1.out.trans hC2
  have hsz2 := hC2.size
  have hzf2 : ¬ Ft z := hC2.foot z hzl nofun
  have zb2 : Blk w2 z _ _ := (hC2.block z hzl nofun).trans zb.out
  have hft2 : ∀ g, Ft g → z ≤ g := fun g hg => Classical.byContradiction fun hlt => c2.foot g (by rw [hz.out]; omega) nofun hg
  have hsn := allF_new (w := w2) 40 3 4 (by decide) (by decide) (by decide) (by decide)
  have hzl2 := zb2.lt
  replace hT2 := Lib.hid hT2
  replace c2 := Lib.hid c2
  replace zb2 := Lib.hid zb2
  replace hzf2 := Lib.hid hzf2
  replace hft2 := Lib.hid hft2
  clear hnn c1 zb hC2
  go_wp2_with fail
  refine hsn.mono ?_
  rintro e w3 ⟨rfl, ⟨Fp, hA3, hC3⟩, hs3⟩
  generalize w2.heap.size = plb at hA3 hsn hs3 ⊢
  have hT3 : TreeF w3 Ft fb 12 100 [(1, root0)] := hT2.out.keep hC3.size fun g hg => hC3.block g (hT2.out.lt hg) nofun
  have hd3 : ∀ g, Fp g → ¬ Ft g := fun g hg hf => hC3.foot g (hT2.out.lt hf) nofun hg
  have c3 : Chg (fun _ => False) (fun g => Ft g ∨ Fp g) w w3 := c2.out.trans (hC3.fresh Ft)
  have hzf3 : ¬ Fp z := fun h => hC3.foot z hzl2 nofun h
  have zb3 : Blk w3 z _ _ := (hC3.block z hzl2 nofun).trans zb2.out
  have hw3 : z ≤ w3.heap.size := Nat.le_of_lt zb3.lt
  have hln := LogNew_yes most 4 z w3 hmost (by decide) (by decide) hw3
  replace hT3 := Lib.hid hT3
  replace hd3 := Lib.hid hd3
  replace c3 := Lib.hid c3
  replace hzf3 := Lib.hid hzf3
  replace zb3 := Lib.hid zb3
  replace hA3 := Lib.hid hA3
  clear hsn hC3 hT2 c2 zb2
  unfold ptrV at hln
  go_wp2_with fail
  refine hln.mono ?_
  rintro e w4 ⟨rfl, hL4, hB4, hs4⟩
  obtain ⟨lb, hlb⟩ : ∃ lb, w3.heap.size = lb := ⟨_, rfl⟩
  rw [hlb] at hL4 ⊢
  have g4 : w3.grownBy w4 none := ⟨hB4.os, hB4.tape, hB4.output, hB4.size, fun b hb _ => hB4.block b hb⟩
  have hT4 : TreeF w4 _ fb 12 100 [(1, root0)] := (hT3.out.keep hB4.size fun g hg => hB4.block g (hT3.out.lt hg)).shrink
  have hA4 := (hA3.out.keep hB4.size fun g hg => hB4.block g (hA3.out.lt hg)).shrink
  have zb4 : Blk w4 z _ _ := (hB4.block z zb3.out.lt).trans zb3.out
  have tc0 : Chg Ft (fun g => Ft g ∧ ¬ LogB w4 g) w3 w4 := (Chg.of_grown g4 Ft).mono (fun _ h => h) fun b _ hb => .inl hb.1
  obtain ⟨Ft4, hFt4⟩ : ∃ F : Nat → Prop, F = fun g => Ft g ∧ ¬ LogB w4 g := ⟨_, rfl⟩
  obtain ⟨Fp4, hFp4⟩ : ∃ F : Nat → Prop, F = fun g => Fp g ∧ ¬ LogB w4 g := ⟨_, rfl⟩
  rw [← hFt4] at hT4 tc0
  rw [← hFp4] at hA4
  have nl4 : ∀ g, Ft4 g → ¬ LogB w4 g := fun g hg => by rw [hFt4] at hg; exact hg.2
  have nlp4 : ∀ g, Fp4 g → ¬ LogB w4 g := fun g hg => by rw [hFp4] at hg; exact hg.2
  have hd4 : ∀ g, Fp4 g → ¬ Ft4 g := fun g hg hf => by rw [hFp4] at hg; rw [hFt4] at hf; exact hd3.out g hg.1 hf.1
  have c4 : Chg (fun _ => False) (fun g => Ft4 g ∨ Fp4 g) w w4 := (c3.out.trans (Chg.of_grown g4 _)).mono (fun _ h => h) fun b _ hb => .inl (by
    rcases hb with hb | hb
    · rw [hFt4] at hb; exact .inl hb.1
    · rw [hFp4] at hb; exact .inr hb.1)
  have hzf4 : ¬ (Ft4 z ∨ Fp4 z) := fun h => by
    rcases h with h | h
    · rw [hFt4] at h; exact hzf2.out h.1
    · rw [hFp4] at h; exact hzf3.out h.1
  have tc : Chg Ft4 Ft4 w4 w4 := Chg.refl _ _
  replace hT4 := Lib.hid hT4
  replace hA4 := Lib.hid hA4
  replace hL4 := Lib.hid hL4
  replace zb4 := Lib.hid zb4
  replace nl4 := Lib.hid nl4
  replace nlp4 := Lib.hid nlp4
  replace hd4 := Lib.hid hd4
  replace c4 := Lib.hid c4
  replace hzf4 := Lib.hid hzf4
  replace tc := Lib.hid tc
  clear hT3 hd3 c3 hzf3 zb3 hA3 hln hB4 g4 tc0 hFt4 hFp4 hlb hs4 hzf2 hft2
  have hmk := make_dir hT4.out (x := root0) (l := []) rfl rfl rfl rfl 100 (by decide) (by decide) (by decide) (by decide) 2 (by decide) (by decide) rfl (fun j h1 h2 => by obtain rfl : j = 1 := (by omega); exact ⟨_, rfl⟩) (by decide)
  rw [show made [(1, root0)] root0 [] (nm1 100) 2 1 [] = ndsA9 from made9_1] at hmk
  replace hmk := Lib.hid hmk
  go_wp2_with fail
  refine hmk.out.mono ?_
  rintro e w5 ⟨rfl, Fq, hTq, hCq⟩
  obtain ⟨Ft5, hT5, hC5, hL5, nl5⟩ := tree_step hL4.out nl4.out hTq hCq
  replace tc := Lib.hid (tc.out.trans hC5)
  replace hT5 := Lib.hid hT5
  replace hL5 := Lib.hid hL5
  replace nl5 := Lib.hid nl5
  clear hmk hT4 hL4 nl4 hTq hCq hC5
  have hmk := make_leaf hT5.out (x := (rootN nlA)) (l := nlA) rfl rfl rfl rfl 97 (by decide) (by decide) (by decide) (by decide) 3 (by decide) (by decide) rfl (fun j h1 h2 => by rcases (by omega : j = 1 ∨ j = 2) with rfl | rfl <;> exact ⟨_, rfl⟩) (by decide) 2 (by decide) ⟨#[120, 121, 122]⟩ (by decide) (by decide)
  rw [made9_2] at hmk
  replace hmk := Lib.hid hmk
  go_wp2_with fail
  refine hmk.out.mono ?_
  rintro e w6 ⟨rfl, Fq, hTq, hCq⟩
  obtain ⟨Ft6, hT6, hC6, hL6, nl6⟩ := tree_step hL5.out nl5.out hTq hCq
  replace tc := Lib.hid (tc.out.trans hC6)
  replace hT6 := Lib.hid hT6
  replace hL6 := Lib.hid hL6
  replace nl6 := Lib.hid nl6
  clear hmk hT5 hL5 nl5 hTq hCq hC6
  have hmk := make_leaf hT6.out (x := (rootN nlB)) (l := nlB) rfl rfl rfl rfl 108 (by decide) (by decide) (by decide) (by decide) 4 (by decide) (by decide) rfl (fun j h1 h2 => by rcases (by omega : j = 1 ∨ j = 2 ∨ j = 3) with rfl | rfl | rfl <;> exact ⟨_, rfl⟩) (by decide) 3 (by decide) ⟨#[100, 47, 98]⟩ (by decide) (by decide)
  rw [made9_3] at hmk
  replace hmk := Lib.hid hmk
  go_wp2_with fail
  refine hmk.out.mono ?_
  rintro e w7 ⟨rfl, Fq, hTq, hCq⟩
  obtain ⟨Ft7, hT7, hC7, hL7, nl7⟩ := tree_step hL6.out nl6.out hTq hCq
  replace tc := Lib.hid (tc.out.trans hC7)
  replace hT7 := Lib.hid hT7
  replace hL7 := Lib.hid hL7
  replace nl7 := Lib.hid nl7
  clear hmk hT6 hL6 nl6 hTq hCq hC7
  have hA7 := hA4.out.keep tc.out.size fun g hg => tc.out.block g (hA4.out.lt hg) (hd4.out g hg)
  have hd7 : ∀ g, Ft7 g → ¬ Fp4 g := fun g hg hp => tc.out.foot g (hA4.out.lt hp) (hd4.out g hp) hg
  have c7 : Chg (fun _ => False) (fun g => Ft7 g ∨ Fp4 g) w w7 := c4.out.trans (tc.out.wide Fp4)
  have hzf7 : ¬ (Ft7 z ∨ Fp4 z) := fun h => h.elim (fun h => tc.out.foot z zb4.out.lt (fun h => hzf4.out (.inl h)) h) fun h => hzf4.out (.inr h)
  have zb7 : Blk w7 z _ _ := (tc.out.block z zb4.out.lt fun h => hzf4.out (.inl h)).trans zb4.out
  have nlp7 : ∀ g, Fp4 g → ¬ LogB w7 g := fun g hg hq => nlp4.out g hg ((logB_congr (tc.out.block g (hA4.out.lt hg) (hd4.out g hg))).1 hq)
  have hzl7 := zb7.lt
  have htn := tab_New w7 fb plb
  unfold ptrV at htn
  replace hA7 := Lib.hid hA7
  replace hd7 := Lib.hid hd7
  replace c7 := Lib.hid c7
  replace hzf7 := Lib.hid hzf7
  replace zb7 := Lib.hid zb7
  replace nlp7 := Lib.hid nlp7
  clear hA4 hd4 c4 hzf4 zb4 tc nlp4
  go_wp2_with fail
  refine htn.mono ?_
  rintro e w8 ⟨tb, rfl, Fh, hH8, hC8⟩
  have hR8 : SysR w8 Ft7 Fp4 Fh (c9 fb plb tb) ⟨ndsC9, [], 0, [], [], 0, []⟩ := ⟨hT7.out.keep hC8.size fun g hg => hC8.block g (hT7.out.lt hg) nofun, hA7.out.keep hC8.size fun g hg => hC8.block g (hA7.out.lt hg) nofun, hH8, hd7.out, fun g hg hh => hC8.foot g (hT7.out.lt hg) nofun hh, fun g hg hh => hC8.foot g (hA7.out.lt hg) nofun hh⟩
  have c8 : Chg (fun _ => False) (foot Ft7 Fp4 Fh) w w8 := (c7.out.trans (hC8.fresh (fun g => Ft7 g ∨ Fp4 g))).mono (fun _ h => h) fun b _ hb => .inl (by
    rcases hb with hb | hb | hb
    · exact .inl (.inl hb)
    · exact .inl (.inr hb)
    · exact .inr hb)
  have hzf8 : ¬ foot Ft7 Fp4 Fh z := fun h => by
    rcases h with h | h | h
    · exact hzf7.out (.inl h)
    · exact hzf7.out (.inr h)
    · exact hC8.foot z hzl7 nofun h
  have zb8 : Blk w8 z [.pointer none, .pointer none, .pointer none, .pointer none, .pointer none] 48 := (hC8.block z hzl7 nofun).trans zb7.out
  have hL8 := hL7.out.keep (KeepL.of_chg hC8 nofun)
  have hS8 : Sys w8 (foot Ft7 Fp4 Fh) (c9 fb plb tb) ⟨ndsC9, [], 0, [], [], 0, []⟩ := ⟨Ft7, Fp4, Fh, hR8, fun _ => Iff.rfl⟩
  have hSL : SL w8 z _ (c9 fb plb tb) lb most 4 ⟨ndsC9, [], 0, [], [], 0, []⟩ := ⟨hS8.shrink, hL8, fun g hg => hg.2, fun g hg => Classical.byContradiction fun hlt => c8.foot g (by rw [hz.out]; omega) nofun hg.1, by have := c8.size; rw [hz.out] at this; exact this⟩
  have c8' : Chg (fun _ => False) (fun g => foot Ft7 Fp4 Fh g ∧ ¬ LogB w8 g) w w8 := c8.mono (fun _ h => h) fun b _ hb => .inl hb.1
  have kz : Kp w8 (fun g => foot Ft7 Fp4 Fh g ∧ ¬ LogB w8 g) z [.pointer none, .pointer none, .pointer none, .pointer none, .pointer none] 48 := ⟨zb8, fun h => hzf8 h.1⟩
  obtain ⟨F8, hF8⟩ : ∃ F : Nat → Prop, F = fun g => foot Ft7 Fp4 Fh g ∧ ¬ LogB w8 g := ⟨_, rfl⟩
  rw [← hF8] at hSL c8' kz
  replace hSL := Lib.hid hSL
  replace kz := Lib.hid kz
  replace cc := Lib.hid c8'
  clear htn hC8 hH8 hA7 hT7 hd7 c7 hzf7 zb7 hL7 nl7 nlp7 hR8 c8 c8' hzf8 zb8 hL8 hS8 hF8
  have hop : Calls Tryz.prog 49 #[.pointer (some ⟨tb, 0, none⟩), .string ⟨#[104, 101, 108, 108, 111]⟩] w8 fun e w' => e = .returned (.tuple #[.int .i64 1, .int .i64 0]) ∧ ∃ F', Sys w' F' (c9 fb plb tb) ⟨ndsC9, [], 0, [(1, ⟨1, .text [104, 101, 108, 108, 111] 0⟩)], [], 1, []⟩ ∧ Chg F8 F' w8 w' := sys_Text hSL.out.sys rfl (by decide) ⟨#[104, 101, 108, 108, 111]⟩ (by decide)
  replace hop := Lib.hid hop
  go_wp2_with fail
  refine hop.out.mono ?_
  rintro e w9 ⟨rfl, Fq, hS', cS⟩
  obtain ⟨F9, hSL9, hC9⟩ := hSL.out.step hS' cS
  replace kz := Lib.hid (kz.out.chg hC9)
  replace cc := Lib.hid (cc.out.trans hC9)
  replace hSL := Lib.hid hSL9
  clear hop hS' cS hSL9 hC9
  have hop : Calls Tryz.prog 50 #[.pointer (some ⟨tb, 0, none⟩), .int .i64 50] w9 fun e w' => e = .returned (.tuple #[.int .i64 2, .int .i64 0]) ∧ ∃ F', Sys w' F' (c9 fb plb tb) ⟨ndsC9, [], 0, [(1, ⟨1, .text [104, 101, 108, 108, 111] 0⟩), (2, ⟨1, .sink [] 50⟩)], [], 2, []⟩ ∧ Chg F9 F' w9 w' := sys_Sink hSL.out.sys rfl (by decide) 50 (by decide)
  replace hop := Lib.hid hop
  go_wp2_with fail
  refine hop.out.mono ?_
  rintro e w10 ⟨rfl, Fq, hS', cS⟩
  obtain ⟨F10, hSL10, hC10⟩ := hSL.out.step hS' cS
  replace kz := Lib.hid (kz.out.chg hC10)
  replace cc := Lib.hid (cc.out.trans hC10)
  replace hSL := Lib.hid hSL10
  clear hop hS' cS hSL10 hC10
  have hop : Calls Tryz.prog 38 #[.pointer (some ⟨tb, 0, none⟩)] w10 fun e w' => e = .returned (.tuple #[.int .i64 3, .int .i64 4, .int .i64 0]) ∧ ∃ F' ppb bb, Sys w' F' (c9 fb plb tb) ⟨ndsC9, [(bb, some ⟨[], 0, 3, .slice none 0 0, .slice none 0 0, []⟩)], 0, hs9, [(ppb, bb, 2)], 4, []⟩ ∧ Chg F10 F' w10 w' := sys_Pipe hSL.out.sys rfl (by decide) (by decide)
  replace hop := Lib.hid hop
  go_wp2_with fail
  refine hop.out.mono ?_
  rintro e w11 ⟨rfl, Fq, ppb, bb, hS', cS⟩
  obtain ⟨F11, hSL11, hC11⟩ := hSL.out.step hS' cS
  replace kz := Lib.hid (kz.out.chg hC11)
  replace cc := Lib.hid (cc.out.trans hC11)
  replace hSL := Lib.hid hSL11
  clear hop hS' cS hSL11 hC11
  have hpn := procNew_any hSL.out (x := rootN nlC) rfl (by decide)
  unfold ptrV at hpn
  replace hpn := Lib.hid hpn
  go_wp2_with fail
  refine hpn.out.mono ?_
  rintro e w12 ⟨pb, rfl, F12, hP, hC12⟩
  have kz12 := kz.out.chg hC12
  have cc12 := cc.out.trans hC12
  have hne : pb ≠ z := fun e => by
    have h1 := hP.prc
    rw [e] at h1
    exact h1.ne kz12.1 (by decide) rfl
  have z0 := kz12.1.cell (i := 0) rfl
  have z1 := kz12.1.cell (i := 1) rfl
  have z2 := kz12.1.cell (i := 2) rfl
  have z3 := kz12.1.cell (i := 3) rfl
  have z4 := kz12.1.cell (i := 4) rfl
  have f0 := kz12.1.frozen 0
  have f1 := kz12.1.frozen 1
  have f2 := kz12.1.frozen 2
  have f3 := kz12.1.frozen 3
  have f4 := kz12.1.frozen 4
  have hzl := kz12.1.lt
  replace hP := Lib.hid hP
  replace kz := Lib.hid kz12
  replace cc := Lib.hid cc12
  clear hpn hSL kz12 cc12 hC12
  go_wp2
  have b9 := ((((kz.out.1.set 0 (ptrV fb)).set 1 (ptrV plb)).set 2 (ptrV tb)).set 3 (ptrV lb)).set 4 (ptrV pb)
  have c9' : Chg (fun g => g = z) (fun g => g = z) w12 (((((w12.setCell ⟨z, 0, none⟩ (ptrV fb)).setCell ⟨z, 1, none⟩ (ptrV plb)).setCell ⟨z, 2, none⟩ (ptrV tb)).setCell ⟨z, 3, none⟩ (ptrV lb)).setCell ⟨z, 4, none⟩ (ptrV pb)) := ((((Chg.set (F := fun g => g = z) rfl 0 _).trans (Chg.set (F := fun g => g = z) rfl 1 _)).trans (Chg.set (F := fun g => g = z) rfl 2 _)).trans (Chg.set (F := fun g => g = z) rfl 3 _)).trans (Chg.set (F := fun g => g = z) rfl 4 _)
  unfold ptrV at b9 c9'
  generalize (((((w12.setCell ⟨z, 0, none⟩ (.pointer (some ⟨fb, 0, none⟩))).setCell ⟨z, 1, none⟩ (.pointer (some ⟨plb, 0, none⟩))).setCell ⟨z, 2, none⟩ (.pointer (some ⟨tb, 0, none⟩))).setCell ⟨z, 3, none⟩ (.pointer (some ⟨lb, 0, none⟩))).setCell ⟨z, 4, none⟩ (.pointer (some ⟨pb, 0, none⟩))) = w13 at b9 c9' ⊢
  have hP13 := hP.out.far c9' kz.out.1 (by unfold LogT; decide) kz.out.2 (Ne.symm hne) (fun bx e C' t' hb ht' => (by
    subst e
    rcases ht' with rfl | rfl | rfl <;> exact hb.ne kz.out.1 (by decide) rfl))
  have c10 : Chg (fun _ => False) F12 w w13 := by
    have hzw := hz.out
    exact ⟨c9'.os.trans cc.out.os, c9'.tape.trans cc.out.tape, c9'.output.trans cc.out.output, Nat.le_trans cc.out.size c9'.size, fun b hb hf => (c9'.block b (Nat.lt_of_lt_of_le hb cc.out.size) (by omega)).trans (cc.out.block b hb hf), cc.out.foot⟩
  have e0 := b9.cell (i := 0) rfl
  have e1 := b9.cell (i := 1) rfl
  have e2 := b9.cell (i := 2) rfl
  have e3 := b9.cell (i := 3) rfl
  have e4 := b9.cell (i := 4) rfl
  rw [← hz.out] at hP13
  exact bodyPost_ret (v := .tuple #[.agg #[ptrV fb, ptrV plb, ptrV tb, ptrV lb, ptrV pb], .bool true]) (by simp [results, Tryz.results17, go_sem, e0, e1, e2, e3, e4, ptrV]) rfl ⟨fb, plb, tb, lb, pb, bb, ppb, rfl, F12, hP13, c10⟩
end Go.Proofs.YtfofpphnglhopaaGreatDoor
namespace Go.Proofs.YtfofpphnglhopaaGreatDoor
open Go Go.RowKit
theorem endP_le (p : List UInt8) : endP p ≤ p.length := by
  unfold endP Lib.trimRightB
  rw [List.length_reverse]
  have := dropWhile_len (fun x => x == 47) p.reverse
  rwa [List.length_reverse] at this
theorem firstP_spec (p : List UInt8) : firstP p ≤ endP p ∧ (p.take (firstP p) = [] ∨ endsS (p.take (firstP p))) ∧ Lib.lastIndexByte ⟨(p.take (endP p)).toArray⟩ 47 = (firstP p : Int) - 1 := by
  have hE := endP_le p
  have hsz : (⟨(p.take (endP p)).toArray⟩ : ByteArray).size = endP p := by
    rw [Lib.size_mk, List.length_take]; omega
  unfold firstP
  rcases Lib.lastIndexByte_spec ⟨(p.take (endP p)).toArray⟩ 47 with ⟨h, _⟩ | ⟨i, hi, h, hc, _⟩
  · rw [h]
    exact ⟨Nat.zero_le _, .inl rfl, by decide⟩
  · rw [h]
    rw [hsz] at hi
    have e : ((i : Int) + 1).toNat = i + 1 := by omega
    rw [e]
    refine ⟨by omega, .inr ?_, by omega⟩
    have hip : i < p.length := by omega
    have hc2 : (p[i]'hip).toNat = 47 := by
      have hi2 : i < ((p.take (endP p)).toArray).size := by rw [List.size_toArray, List.length_take]; omega
      have h1 : ((p.take (endP p)).toArray)[i]! = p[i]'hip := by
        rw [getElem!_pos _ i hi2]
        simp
      have hc' : ((((p.take (endP p)).toArray)[i]!).toNat : Int) = 47 := hc
      rw [h1] at hc'
      omega
    unfold endsS
    rw [List.take_succ_eq_append_getElem hip, List.getLast?_append]
    have : p[i]'hip = 47 := UInt8.toNat_inj.1 hc2
    rw [this]; rfl
def isDirP (l : List UInt8) : Bool := decide (l = [] ∨ l = [46] ∨ l = [46, 46])
theorem isDir_any (d : Int) (nm : ByteArray) (sl : Bool) (w : World) :
    Calls Tryz.prog 123 #[.agg #[.int .i64 d, .string nm, .bool sl]] w fun e w' => e = .returned (.bool (isDirP (tl nm))) ∧ w.grownBy w' none := by
  have e2 := tl_empty nm
  have e0 : (nm.toList == []) = decide (tl nm = []) := by rw [ByteArray.toList_eq]; show (tl nm == []) = _; rw [beqL]
  have e3 : (nm.toList == [46]) = decide (tl nm = [46]) := by rw [ByteArray.toList_eq]; show (tl nm == [46]) = _; rw [beqL]
  have e4 : (nm.toList == [46, 46]) = decide (tl nm = [46, 46]) := by rw [ByteArray.toList_eq]; show (tl nm == [46, 46]) = _; rw [beqL]
  have g1 : w.grownBy (w.alloc (.cells #[.int .i64 d, .string nm, .bool sl] 178)) none := World.grownBy_alloc w _ _
  have b1 : Blk (w.alloc (.cells #[.int .i64 d, .string nm, .bool sl] 178)) w.heap.size [.int .i64 d, .string nm, .bool sl] 178 := Blk.new w _ _
  have c1 := b1.cell (i := 1) rfl
  have hlt := b1.lt
  obtain ⟨r, hr⟩ : ∃ r, isDirP (tl nm) = r := ⟨_, rfl⟩
  rw [hr]
  unfold isDirP at hr
  by_cases h1 : tl nm = []
  · obtain rfl : r = true := by rw [← hr]; simp [h1]
    rw [decide_eq_true h1] at e2 e0
    replace b1 := Lib.hid b1
    replace g1 := Lib.hid g1
    clear hr h1 e3 e4
    go_enter Tryz.func123, Tryz.ntmps123
    go_wp2
    go_ret
    exact ⟨rfl, g1.out⟩
  rw [decide_eq_false h1] at e2 e0
  by_cases h2 : tl nm = [46]
  · obtain rfl : r = true := by rw [← hr]; simp [h2]
    rw [decide_eq_true h2] at e3
    replace b1 := Lib.hid b1
    replace g1 := Lib.hid g1
    clear hr h1 h2 e4
    go_enter Tryz.func123, Tryz.ntmps123
    go_wp2
    go_ret
    exact ⟨rfl, g1.out⟩
  rw [decide_eq_false h2] at e3
  by_cases h3 : tl nm = [46, 46]
  · obtain rfl : r = true := by rw [← hr]; simp [h3]
    rw [decide_eq_true h3] at e4
    replace b1 := Lib.hid b1
    replace g1 := Lib.hid g1
    clear hr h1 h2 h3
    go_enter Tryz.func123, Tryz.ntmps123
    go_wp2
    go_ret
    exact ⟨rfl, g1.out⟩
  rw [decide_eq_false h3] at e4
  obtain rfl : r = false := by rw [← hr]; simp [h1, h2, h3]
  replace b1 := Lib.hid b1
  replace g1 := Lib.hid g1
  clear hr h1 h2 h3
  go_enter Tryz.func123, Tryz.ntmps123
  go_wp2
  go_ret
  exact ⟨rfl, g1.out⟩
section
variable {w : World} {lab : Nat → TL} {F : Nat → Prop} {fb most room mb : Nat} {nds : Nds} {mem : Int → NM}
theorem startP_ok {a : Int} {p : List UInt8} (T : TOk nds) (h : (startP nds a p).2 = 0) : ∃ x, look nds (startP nds a p).1 = some x ∧ x.kind = 1 := by
  unfold startP at *
  cases hx : look nds a with
  | none => rw [hx] at h; simp at h
  | some x =>
    rw [hx] at h
    simp only at h ⊢
    split at h
    · simp at h
    · rename_i hk
      rw [if_neg hk]
      rcases beginP_e a p with ⟨_, b2, _⟩ | ⟨_, b2⟩
      · obtain ⟨r, hr, hrk, _⟩ := T.root
        rcases b2 with b2 | b2 <;> rw [b2]
        · exact ⟨r, hr, hrk⟩
        · exact ⟨x, hx, by omega⟩
      · rcases b2 with b2 | b2 <;> rw [b2] at h <;> simp at h
def plV (nds : Nds) (a : Int) (p : List UInt8) : Value := if (placeP nds a p).2 = 0 then .agg #[.int .i64 (placeP nds a p).1, .string ⟨(nameP p).toArray⟩, .bool (slashP p)] else .agg #[.int .i64 0, .string ⟨#[]⟩, .bool false]
theorem placeP_dir (T : TOk nds) {a : Int} {p : List UInt8} (h : (placeP nds a p).2 = 0) : ∃ x, look nds (placeP nds a p).1 = some x ∧ x.kind = 1 := by
  unfold placeP at *
  by_cases hs : (startP nds a p).2 ≠ 0
  · rw [if_pos hs] at h
    exact absurd h hs
  · rw [if_neg hs] at h ⊢
    obtain ⟨x, hx, hxk⟩ := startP_ok T (Decidable.not_not.1 hs)
    exact walkP_dir T _ _ _ _ x hx ((firstP_spec p).2.1.imp (fun q => ⟨q, hxk⟩) id) (by omega) (by omega) h
theorem placeP_e (T : TOk nds) (a : Int) (p : List UInt8) : walkE (placeP nds a p).2 ∨ (placeP nds a p).2 = 1 := by
  unfold placeP
  by_cases hs : (startP nds a p).2 ≠ 0
  · rw [if_pos hs]
    show walkE (startP nds a p).2 ∨ (startP nds a p).2 = 1
    unfold startP
    cases look nds a with
    | none => exact .inr rfl
    | some x =>
      simp only
      split
      · exact .inr rfl
      · rcases beginP_e a p with ⟨b1, _⟩ | ⟨_, b2⟩
        · rw [b1]; exact .inl (.inl rfl)
        · rcases b2 with b2 | b2 <;> rw [b2] <;> exact .inl (by simp [walkE])
  · rw [if_neg hs]
    obtain ⟨x, hx, _⟩ := startP_ok T (Decidable.not_not.1 hs)
    exact .inl (walkP_ok T true _ _ _ _ ⟨x, hx⟩ (by omega) (by omega)).2.1
theorem place_any (h : TreeR w lab fb most room nds mb mem) (T : TOk nds) (a : Int) (s : ByteArray) (hs : s.size ≤ 1000000) :
    Calls Tryz.prog 95 #[.pointer (some ⟨fb, 0, none⟩), .int .i64 a, .string s] w fun e w' => e = .returned (.tuple #[plV nds a (tl s), .int .i64 (placeP nds a (tl s)).2]) ∧ w.grownBy w' none := by
  have hst := fun (W : World) (hW : w.grownBy W none) => start_any (h.grown hW) a s
  have htr := fun (W : World) => trimRight s 47 (by decide) W (by omega)
  obtain ⟨TR, hTR⟩ : ∃ T : ByteArray, (⟨(Lib.trimRightB s.data.toList 47).toArray⟩ : ByteArray) = T := ⟨_, rfl⟩
  rw [hTR] at htr
  obtain ⟨E, hE⟩ : ∃ E, endP (tl s) = E := ⟨_, rfl⟩
  have hTE : TR.size = E := by rw [← hTR, ← hE, Lib.size_mk]; rfl
  have hEs : E ≤ s.size := by rw [← hE, ← tl_len]; exact endP_le _
  obtain ⟨K, hK⟩ : ∃ K, firstP (tl s) = K := ⟨_, rfl⟩
  obtain ⟨hKE, _, hLI⟩ := firstP_spec (tl s)
  rw [hK, hE] at hKE hLI
  have hx1 : s.extract 0 E = ⟨((tl s).take E).toArray⟩ := Lib.extract_upto s E
  have hla := fun (W : World) => lastIndexByte (s.extract 0 E) 47 (by rw [hx1, Lib.size_mk, List.length_take, tl_len]; omega) W
  rw [hx1, hLI, ← hx1] at hla
  have hwk := fun (W : World) (hW : w.grownBy W none) (b : Int) (hb : ∃ x, look nds b = some x) => walk_any (h.grown hW) T true b hb (s.extract 0 K) (by
    have : (s.extract 0 K).size ≤ s.size := by rw [Lib.extract_upto, Lib.size_mk, List.length_take]; show min K (tl s).length ≤ _; rw [tl_len]; omega
    omega)
  rw [show tl (s.extract 0 K) = (tl s).take K from tlw_upto s K] at hwk
  have hx2 : s.extract K E = ⟨(nameP (tl s)).toArray⟩ := by
    unfold nameP
    rw [hE, hK, Lib.extract_eq]
    show (⟨(((tl s).drop K).take (E - K)).toArray⟩ : ByteArray) = _
    rw [List.drop_take]
  have hsl : decide (E < s.size) = slashP (tl s) := by
    unfold slashP
    rw [hE, tl_len]
  have hok := @startP_ok nds a (tl s) T
  obtain ⟨S, hS⟩ : ∃ S, startP nds a (tl s) = S := ⟨_, rfl⟩
  rw [hS] at hok
  obtain ⟨S1, S2⟩ := S
  obtain ⟨V, hV⟩ : ∃ V, plV nds a (tl s) = V := ⟨_, rfl⟩
  obtain ⟨er, her⟩ : ∃ er, (placeP nds a (tl s)).2 = er := ⟨_, rfl⟩
  rw [hV, her]
  unfold plV placeP at hV
  unfold placeP at her
  rw [hS] at hV her hst
  rw [hK] at hV her
  simp only at hV her hok hst
  replace hst := Lib.hid hst
  replace htr := Lib.hid htr
  replace hla := Lib.hid hla
  replace hwk := Lib.hid hwk
  replace hx1 := Lib.hid hx1
  replace hx2 := Lib.hid hx2
  replace hTE := Lib.hid hTE
  clear hTR hE hK hLI hS
  go_enter Tryz.func95, Tryz.ntmps95
  go_upto_region 1 with fail
  have b1 : Blk (w.alloc (.cells #[.int .i64 0, .string ⟨#[]⟩, .bool false] 178)) w.heap.size [.int .i64 0, .string ⟨#[]⟩, .bool false] 178 := Blk.new w _ _
  have g1 : w.grownBy (w.alloc (.cells #[.int .i64 0, .string ⟨#[]⟩, .bool false] 178)) none := World.grownBy_alloc w _ _
  obtain ⟨z, hz⟩ : ∃ z, w.heap.size = z := ⟨_, rfl⟩
  generalize (w.alloc (.cells #[.int .i64 0, .string ⟨#[]⟩, .bool false] 178)) = w1 at b1 g1 ⊢
  simp only [hz] at b1 ⊢
  have hst1 := hst.out w1 g1
  have z0 := b1.cell (i := 0) rfl
  have z1 := b1.cell (i := 1) rfl
  have z2 := b1.cell (i := 2) rfl
  have f0 := b1.frozen 0
  have f1 := b1.frozen 1
  have f2 := b1.frozen 2
  have hzl := b1.lt
  replace hz := Lib.hid hz
  replace g1 := Lib.hid g1
  replace b1 := Lib.hid b1
  clear hst
  have ends : ∀ (w9 : World) (v0 v1 v2 : Value), Blk w9 z [.int .i64 0, .string ⟨#[]⟩, .bool false] 178 → w.grownBy w9 none → Blk (((w9.setCell ⟨z, 0, none⟩ v0).setCell ⟨z, 1, none⟩ v1).setCell ⟨z, 2, none⟩ v2) z [v0, v1, v2] 178 ∧ w.grownBy (((w9.setCell ⟨z, 0, none⟩ v0).setCell ⟨z, 1, none⟩ v1).setCell ⟨z, 2, none⟩ v2) none := fun w9 v0 v1 v2 hb hg =>
    ⟨((hb.set 0 v0).set 1 v1).set 2 v2, grown_setNew (grown_setNew (grown_setNew hg (Nat.le_of_eq hz.out) 0 v0) (Nat.le_of_eq hz.out) 1 v1) (Nat.le_of_eq hz.out) 2 v2⟩
  replace ends := Lib.hid ends
  by_cases hs2 : S2 = 0
  · subst hs2
    obtain ⟨x, hx, hxk⟩ := hok rfl
    rw [if_neg (by simp)] at her
    simp only [ne_eq, not_true_eq_false, if_false] at hV
    obtain ⟨W, hW⟩ : ∃ W, walkP nds true (wM ((tl s).take K) 0 + 1) S1 ((tl s).take K) 0 = W := ⟨_, rfl⟩
    have hwk1 := fun (W : World) (hW : w.grownBy W none) => hwk.out W hW S1 ⟨x, hx⟩
    rw [hW] at her hV hwk1
    obtain ⟨W1, W2⟩ := W
    simp only at her hV hwk1
    subst her
    have htr1 := htr.out w1
    have hla1 := hla.out w1
    have hwk2 := hwk1 w1 g1.out
    have hk1 : ((K : Int) - 1 + 1) = (K : Int) := by omega
    have hKs : K ≤ s.size := by omega
    have hTE' := hTE.out
    have eK : IntKind.i64.wrap ((K : Int)) = (K : Int) := by rw [IntKind.wrap_i64]; omega
    replace hx := Lib.hid hx
    clear hok hW hwk hwk1 htr hla
    go_wp2_with fail
    refine hst1.mono ?_
    rintro e w' ⟨rfl, hw⟩
    obtain rfl := hw.symm
    clear hst1 hw
    go_wp2_with fail
    refine htr1.mono ?_
    rintro e w' ⟨rfl, hw⟩
    obtain rfl := hw.symm
    clear htr1 hw
    go_wp2_with fail
    refine hla1.mono ?_
    rintro e w' ⟨rfl, hw⟩
    obtain rfl := hw.symm
    clear hla1 hw
    go_wp2_with fail
    refine hwk2.mono ?_
    rintro e w2 ⟨rfl, g2⟩
    have b2 : Blk w2 z _ _ := (g2.block z b1.out.lt (by simp)).trans b1.out
    have g3 := grownBy_tr g1.out g2
    have z0 := b2.cell (i := 0) rfl
    have z1 := b2.cell (i := 1) rfl
    have z2 := b2.cell (i := 2) rfl
    have f0 := b2.frozen 0
    have f1 := b2.frozen 1
    have f2 := b2.frozen 2
    have hzl := b2.lt
    replace b2 := Lib.hid b2
    replace g3 := Lib.hid g3
    clear hwk2 g2 b1 g1
    by_cases hw2 : W2 = 0
    · subst hw2
      rw [if_pos rfl] at hV
      subst hV
      have hx2' := hx2.out
      replace hsl := Lib.hid hsl
      go_wp2
      rw [hsl.out]
      obtain ⟨b3, g4⟩ := ends.out w2 (.int .i64 W1) (.string ⟨(nameP (tl s)).toArray⟩) (.bool (slashP (tl s))) b2.out g3.out
      generalize ((w2.setCell ⟨z, 0, none⟩ (.int .i64 W1)).setCell ⟨z, 1, none⟩ (.string ⟨(nameP (tl s)).toArray⟩)).setCell ⟨z, 2, none⟩ (.bool (slashP (tl s))) = w3 at b3 g4 ⊢
      have e0 := b3.cell (i := 0) rfl
      have e1 := b3.cell (i := 1) rfl
      have e2 := b3.cell (i := 2) rfl
      exact bodyPost_ret (v := .tuple #[.agg #[.int .i64 W1, .string ⟨(nameP (tl s)).toArray⟩, .bool (slashP (tl s))], .int .i64 0]) (by simp [results, Tryz.results95, go_sem, e0, e1, e2]) rfl ⟨rfl, g4⟩
    · rw [if_neg hw2] at hV
      subst hV
      have ew : (W2 == 0) = false := by rw [beq_eq_false_iff_ne]; exact hw2
      clear hw2
      go_wp2
      obtain ⟨b3, g4⟩ := ends.out w2 (.int .i64 0) (.string ⟨#[]⟩) (.bool false) b2.out g3.out
      generalize ((w2.setCell ⟨z, 0, none⟩ (.int .i64 0)).setCell ⟨z, 1, none⟩ (.string ⟨#[]⟩)).setCell ⟨z, 2, none⟩ (.bool false) = w3 at b3 g4 ⊢
      have e0 := b3.cell (i := 0) rfl
      have e1 := b3.cell (i := 1) rfl
      have e2 := b3.cell (i := 2) rfl
      exact bodyPost_ret (v := .tuple #[.agg #[.int .i64 0, .string ⟨#[]⟩, .bool false], .int .i64 W2]) (by simp [results, Tryz.results95, go_sem, e0, e1, e2]) rfl ⟨rfl, g4⟩
  · rw [if_pos hs2] at her
    subst her
    have ew : (S2 == 0) = false := by rw [beq_eq_false_iff_ne]; exact hs2
    rw [if_pos hs2, if_neg hs2] at hV
    subst hV
    clear hok hwk htr hla hs2
    go_wp2_with fail
    refine hst1.mono ?_
    rintro e w' ⟨rfl, hw⟩
    obtain rfl := hw.symm
    clear hst1 hw
    go_wp2
    obtain ⟨b3, g4⟩ := ends.out w1 (.int .i64 0) (.string ⟨#[]⟩) (.bool false) b1.out g1.out
    generalize ((w1.setCell ⟨z, 0, none⟩ (.int .i64 0)).setCell ⟨z, 1, none⟩ (.string ⟨#[]⟩)).setCell ⟨z, 2, none⟩ (.bool false) = w3 at b3 g4 ⊢
    have e0 := b3.cell (i := 0) rfl
    have e1 := b3.cell (i := 1) rfl
    have e2 := b3.cell (i := 2) rfl
    exact bodyPost_ret (v := .tuple #[.agg #[.int .i64 0, .string ⟨#[]⟩, .bool false], .int .i64 S2]) (by simp [results, Tryz.results95, go_sem, e0, e1, e2]) rfl ⟨rfl, g4⟩
end
def madeA (nds : Nds) (d : Int) (x : Pn) (nm : ByteArray) (m : Nat) : Nds :=
  upd (upd (nds ++ [((m : Int), ⟨2, 0, 0, 0, [], none, ⟨#[]⟩⟩)]) d { x with nms := some (nmsOf x ++ [(nm, m)]) }) (m : Int) ⟨2, 1, 0, 0, [], none, ⟨#[]⟩⟩
def unnamed (nds : Nds) (d : Int) (x : Pn) (nm : ByteArray) (b : Int) (y : Pn) : Nds :=
  upd (upd nds d { x with nms := some ((nmsOf x).filter fun p => p.1 ≠ nm) }) b { y with named := y.named - 1, par := 0, name := ⟨#[]⟩ }
def removed (nds : Nds) (d : Int) (x : Pn) (nm : ByteArray) (b : Int) (y : Pn) : Nds :=
  if 1 < y.named ∨ 0 < y.holds then unnamed nds d x nm b y else away (unnamed nds d x nm b y) b
abbrev Apart {α : Type} (l : List (Int × α)) : Prop := l.Pairwise (fun p q => p.1 ≠ q.1)
abbrev ApartN (l : List (ByteArray × Nat)) : Prop := l.Pairwise (fun p q => p.1 ≠ q.1)
theorem cntE_none {k : Int} {x : Pn} (h : nmsOf x = []) : cntE k x = 0 := by unfold cntE; rw [h]; rfl
theorem total_map_eq {f : Pn → Nat} {nds : Nds} {k : Int} {x y : Pn} (hd : Apart nds) (hx : look nds k = some x) (h : f y = f x) : total f (upd nds k y) = total f nds := by
  have := total_upd (f := f) hd hx y
  omega
theorem cnt_pos {k : Int} {e : ByteArray × Nat} {l : List (ByteArray × Nat)} (h : e ∈ l) (hk : (e.2 : Int) = k) : 0 < (l.filter fun e => decide ((e.2 : Int) = k)).length :=
  List.length_pos_of_mem (List.mem_filter.2 ⟨h, by simpa using hk⟩)
theorem TOk.unnamed_no {nds : Nds} (T : TOk nds) {k : Int} {y : Pn} (hy : look nds k = some y) (hk : k ≠ 1) (h0 : y.named = 0) : ∀ j x, look nds j = some x → ∀ e ∈ nmsOf x, (e.2 : Int) ≠ k := fun j x hx e he hek => by
  have h1 := T.cnt k y hy hk
  have h2 := total_ge (f := cntE k) hx
  have h3 : 0 < cntE k x := cnt_pos he hek
  omega
theorem TOk.upd {nds : Nds} (T : TOk nds) (hd : Apart nds) {k : Int} {y y' : Pn} (hy : look nds k = some y) (h1 : y'.kind = y.kind) (h2 : y'.named = y.named) (h3 : y'.par = y.par) (h4 : y'.nms = y.nms) (h5 : y'.name = y.name) : TOk (upd nds k y') := by
  have hn : nmsOf y' = nmsOf y := by unfold nmsOf; rw [h4]
  have hl : ∀ j x', look (Proofs.YtfofpphnglhopaaGreatDoor.upd nds k y') j = some x' → ∃ x, look nds j = some x ∧ x'.kind = x.kind ∧ x'.named = x.named ∧ x'.par = x.par ∧ x'.nms = x.nms ∧ x'.name = x.name := fun j x' h => by
    rw [look_upd] at h
    split at h
    · rename_i e
      rw [hy] at h
      obtain rfl : y' = x' := Option.some.inj h
      exact ⟨y, by rw [e]; exact hy, h1, h2, h3, h4, h5⟩
    · exact ⟨x', h, rfl, rfl, rfl, rfl, rfl⟩
  have hr : ∀ j x, look nds j = some x → ∃ x', look (Proofs.YtfofpphnglhopaaGreatDoor.upd nds k y') j = some x' ∧ x'.kind = x.kind ∧ x'.nms = x.nms ∧ x'.par = x.par := fun j x h => by
    rw [look_upd]
    split
    · rename_i e
      subst e
      rw [hy] at h
      obtain rfl := Option.some.inj h
      exact ⟨y', by rw [hy]; rfl, h1, h4, h3⟩
    · exact ⟨x, h, rfl, rfl, rfl⟩
  have hnm : ∀ x x' : Pn, x'.nms = x.nms → nmsOf x' = nmsOf x := fun x x' h => by unfold nmsOf; rw [h]
  refine ⟨?_, fun j x' h => ?_, fun j x' h => ?_, fun j x' h => ?_, fun j x' h e he => ?_, fun j x' h => ?_, fun j x' h => ?_, fun j x' h => ?_, fun j x' h => ?_⟩
  · obtain ⟨r, a, b, c⟩ := T.root
    obtain ⟨r', a', b', _, c'⟩ := hr 1 r a
    exact ⟨r', a', by omega, by omega⟩
  · obtain ⟨x, a, b1, b2, b3, b4, b5⟩ := hl j x' h
    have := T.kind j x a
    rw [b1]; exact this
  · obtain ⟨x, a, b1, b2, b3, b4, b5⟩ := hl j x' h
    intro hk
    rw [b4]; exact T.dir j x a (by omega)
  · obtain ⟨x, a, b1, b2, b3, b4, b5⟩ := hl j x' h
    intro hk
    rw [b4]; exact T.leaf j x a (by omega)
  · obtain ⟨x, a, b1, b2, b3, b4, b5⟩ := hl j x' h
    rw [hnm x x' b4] at he
    obtain ⟨q1, z, q2⟩ := T.ent j x a e he
    obtain ⟨z', q3, _⟩ := hr _ z q2
    exact ⟨q1, z', q3⟩
  · obtain ⟨x, a, b1, b2, b3, b4, b5⟩ := hl j x' h
    intro hk hp
    rw [b3] at hp ⊢
    obtain ⟨p, q1, q2, q3⟩ := T.par j x a (by omega) hp
    obtain ⟨p', q4, q5, q6, _⟩ := hr _ p q1
    exact ⟨p', q4, by omega, fun hj => by rw [b5, hnm p p' q6]; exact q3 hj⟩
  · obtain ⟨x, a, b1, b2, b3, b4, b5⟩ := hl j x' h
    intro hk hj hp
    rw [hnm x x' b4]
    exact T.dead j x a (by omega) hj (by omega)
  · obtain ⟨x, a, b1, b2, b3, b4, b5⟩ := hl j x' h
    intro hj
    rw [total_map_eq hd hy (show cntE j y' = cntE j y by unfold cntE; rw [hn]), b2]
    exact T.cnt j x a hj
  · obtain ⟨x, a, b1, b2, b3, b4, b5⟩ := hl j x' h
    intro hk hj h0
    rw [b3]
    exact T.gone j x a (by omega) hj (by omega)
theorem TOk.away {nds : Nds} (T : TOk nds) (hd : Apart nds) {k : Int} {y : Pn} (hy : look nds k = some y) (hk : k ≠ 1) (h0 : y.named = 0) : TOk (away nds k) := by
  have hno := T.unnamed_no hy hk h0
  have hye : nmsOf y = [] := by
    by_cases hyk : y.kind = 1
    · exact T.dead k y hy hyk hk (T.gone k y hy hyk hk h0)
    · unfold nmsOf; rw [T.leaf k y hy hyk]; rfl
  have hl : ∀ {j x}, look (Proofs.YtfofpphnglhopaaGreatDoor.away nds k) j = some x → look nds j = some x ∧ j ≠ k := fun {j x} h => by
    rw [look_away] at h
    split at h
    · cases h
    · exact ⟨h, by assumption⟩
  have hr : ∀ {j x}, look nds j = some x → j ≠ k → look (Proofs.YtfofpphnglhopaaGreatDoor.away nds k) j = some x := fun {j x} h hj => by rw [look_away, if_neg hj]; exact h
  refine ⟨?_, fun j x h => T.kind j x (hl h).1, fun j x h => T.dir j x (hl h).1, fun j x h => T.leaf j x (hl h).1, fun j x h e he => ?_, fun j x h hk1 hp => ?_, fun j x h => T.dead j x (hl h).1, fun j x h hj => ?_, fun j x h => T.gone j x (hl h).1⟩
  · obtain ⟨r, a, b⟩ := T.root
    exact ⟨r, hr a (Ne.symm hk), b⟩
  · obtain ⟨q1, z, q2⟩ := T.ent j x (hl h).1 e he
    exact ⟨q1, z, hr q2 (hno j x (hl h).1 e he)⟩
  · obtain ⟨p, q1, q2, q3⟩ := T.par j x (hl h).1 hk1 hp
    refine ⟨p, hr q1 fun e => ?_, q2, q3⟩
    rw [e, hy] at q1
    obtain rfl := Option.some.inj q1
    by_cases hj : j = 1
    · obtain ⟨r, a, _, c⟩ := T.root
      have := (hl h).1
      rw [hj, a] at this
      obtain rfl := Option.some.inj this
      rw [c] at e
      exact hk e.symm
    · obtain ⟨_, _, q4⟩ := q3 hj
      rw [hye] at q4
      cases q4
  · have := total_away (f := cntE j) hd hy
    rw [cntE_none hye] at this
    have := T.cnt j x (hl h).1 hj
    omega
theorem look_made {nds : Nds} {d : Int} {x : Pn} {nm : ByteArray} {m : Nat} (hx : look nds d = some x) (hm : look nds (m : Int) = none) (j : Int) :
    look (madeA nds d x nm m) j = if j = (m : Int) then some ⟨2, 1, 0, 0, [], none, ⟨#[]⟩⟩ else if j = d then some { x with nms := some (nmsOf x ++ [(nm, m)]) } else look nds j := by
  have hdm : d ≠ (m : Int) := fun e => by rw [e, hm] at hx; cases hx
  unfold madeA
  rw [look_upd]
  by_cases hj : j = (m : Int)
  · subst hj
    rw [if_pos rfl, if_pos rfl, look_upd, if_neg (Ne.symm hdm), look_app, hm]
    simp [look]
  · rw [if_neg hj, if_neg hj, look_upd]
    by_cases hjd : j = d
    · subst hjd
      rw [if_pos rfl, if_pos rfl, look_app, hx]; rfl
    · rw [if_neg hjd, if_neg hjd, look_app]
      have : look [((m : Int), (⟨2, 0, 0, 0, [], none, ⟨#[]⟩⟩ : Pn))] j = none := by simp [look, Ne.symm hj]
      rw [this, Option.or_none]
theorem apart_snoc {nds : Nds} {m : Int} {v : Pn} (hd : Apart nds) (hm : look nds m = none) : Apart (nds ++ [(m, v)]) := by
  refine List.pairwise_append.2 ⟨hd, List.pairwise_singleton _ _, fun p hp q hq => ?_⟩
  rw [List.mem_singleton.1 hq]
  exact look_none.1 hm p hp
theorem total_made {nds : Nds} {d : Int} {x : Pn} {nm : ByteArray} {m : Nat} (hd : Apart nds) (hx : look nds d = some x) (hm : look nds (m : Int) = none) (k : Int) : total (cntE k) (madeA nds d x nm m) = total (cntE k) nds + if (m : Int) = k then 1 else 0 := by
  have hdm : d ≠ (m : Int) := fun e => by rw [e, hm] at hx; cases hx
  unfold madeA
  have a1 := apart_snoc (v := ⟨2, 0, 0, 0, [], none, ⟨#[]⟩⟩) hd hm
  have l1 : look (nds ++ [((m : Int), (⟨2, 0, 0, 0, [], none, ⟨#[]⟩⟩ : Pn))]) d = some x := by rw [look_app, hx]; rfl
  have t1 := total_upd (f := cntE k) a1 l1 { x with nms := some (nmsOf x ++ [(nm, m)]) }
  have l2 : look (upd (nds ++ [((m : Int), (⟨2, 0, 0, 0, [], none, ⟨#[]⟩⟩ : Pn))]) d { x with nms := some (nmsOf x ++ [(nm, m)]) }) (m : Int) = some ⟨2, 0, 0, 0, [], none, ⟨#[]⟩⟩ := by
    rw [look_upd, if_neg (Ne.symm hdm), look_app, hm]; simp [look]
  have t2 := total_upd (f := cntE k) (apart_upd a1 d { x with nms := some (nmsOf x ++ [(nm, m)]) }) l2 ⟨2, 1, 0, 0, [], none, ⟨#[]⟩⟩
  rw [total_app] at t1
  have z0 : ∀ n, cntE k ⟨2, n, 0, 0, [], none, ⟨#[]⟩⟩ = 0 := fun n => rfl
  have z1 : cntE k { x with nms := some (nmsOf x ++ [(nm, m)]) } = cntE k x + if (m : Int) = k then 1 else 0 := by
    unfold cntE
    show (((nmsOf x ++ [(nm, m)]).filter _).length) = _
    rw [List.filter_append, List.length_append]
    congr 1
    by_cases h : (m : Int) = k
    · rw [if_pos h]; simp [h]
    · rw [if_neg h]; simp [h]
  have z2 : total (cntE k) [((m : Int), (⟨2, 0, 0, 0, [], none, ⟨#[]⟩⟩ : Pn))] = 0 := rfl
  rw [z0, z0] at t2
  omega
theorem TOk.made {nds : Nds} (T : TOk nds) (hd : Apart nds) {d : Int} {x : Pn} (hx : look nds d = some x) (hxk : x.kind = 1) (hxp : x.par ≠ 0) (nm : ByteArray) {m : Nat} (h2 : 2 ≤ m) (hm : look nds (m : Int) = none) : TOk (madeA nds d x nm m) := by
  have hlk := look_made (nm := nm) hx hm
  have hr : ∀ {j y}, look nds j = some y → ∃ y', look (madeA nds d x nm m) j = some y' ∧ y'.kind = y.kind ∧ y'.par = y.par ∧ (∀ e ∈ nmsOf y, e ∈ nmsOf y') := fun {j y} h => by
    have hjm : j ≠ (m : Int) := fun e => by rw [e, hm] at h; cases h
    rw [hlk, if_neg hjm]
    by_cases hj : j = d
    · subst hj
      rw [hx] at h
      obtain rfl := Option.some.inj h
      rw [if_pos rfl]
      exact ⟨_, rfl, rfl, rfl, fun e he => List.mem_append_left _ he⟩
    · rw [if_neg hj]
      exact ⟨y, h, rfl, rfl, fun e he => he⟩
  have hl : ∀ {j y'}, look (madeA nds d x nm m) j = some y' → (j = (m : Int) ∧ y' = ⟨2, 1, 0, 0, [], none, ⟨#[]⟩⟩) ∨ (j = d ∧ y' = { x with nms := some (nmsOf x ++ [(nm, m)]) }) ∨ (j ≠ d ∧ look nds j = some y') := fun {j y'} h => by
    rw [hlk] at h
    split at h
    · exact .inl ⟨by assumption, (Option.some.inj h).symm⟩
    · split at h
      · exact .inr (.inl ⟨by assumption, (Option.some.inj h).symm⟩)
      · exact .inr (.inr ⟨by assumption, h⟩)
  have hmk : ∃ y, look (madeA nds d x nm m) (m : Int) = some y := by rw [hlk, if_pos rfl]; exact ⟨_, rfl⟩
  refine ⟨?_, fun j y h => ?_, fun j y h => ?_, fun j y h => ?_, fun j y h e he => ?_, fun j y h => ?_, fun j y h => ?_, fun j y h => ?_, fun j y h => ?_⟩
  · obtain ⟨r, a, b, c⟩ := T.root
    obtain ⟨r', q1, q2, q3, _⟩ := hr a
    exact ⟨r', q1, by omega, by omega⟩
  · rcases hl h with ⟨_, rfl⟩ | ⟨_, rfl⟩ | ⟨_, h⟩
    · exact .inr (.inl rfl)
    · exact .inl hxk
    · exact T.kind j y h
  · rcases hl h with ⟨_, rfl⟩ | ⟨_, rfl⟩ | ⟨_, h⟩
    · intro hk; cases hk
    · exact fun _ => ⟨_, rfl⟩
    · exact T.dir j y h
  · rcases hl h with ⟨_, rfl⟩ | ⟨_, rfl⟩ | ⟨_, h⟩
    · exact fun _ => rfl
    · exact fun hk => absurd hxk hk
    · exact T.leaf j y h
  · rcases hl h with ⟨_, rfl⟩ | ⟨_, rfl⟩ | ⟨_, h⟩
    · cases he
    · rcases List.mem_append.1 he with he | he
      · obtain ⟨q1, z, q2⟩ := T.ent d x hx e he
        obtain ⟨z', q3, _⟩ := hr q2
        exact ⟨q1, z', q3⟩
      · rw [List.mem_singleton.1 he]
        exact ⟨by show (m : Int) ≠ 1; omega, hmk⟩
    · obtain ⟨q1, z, q2⟩ := T.ent j y h e he
      obtain ⟨z', q3, _⟩ := hr q2
      exact ⟨q1, z', q3⟩
  · have key : ∀ j y, look nds j = some y → y.kind = 1 → y.par ≠ 0 → ∃ p, look (madeA nds d x nm m) (y.par : Int) = some p ∧ p.kind = 1 ∧ (j ≠ 1 → ∃ i : Nat, (i : Int) = j ∧ (y.name, i) ∈ nmsOf p) := fun j y h hk hp => by
      obtain ⟨p, q1, q2, q3⟩ := T.par j y h hk hp
      obtain ⟨p', q4, q5, _, q6⟩ := hr q1
      exact ⟨p', q4, by omega, fun hj => by obtain ⟨i, e1, e2⟩ := q3 hj; exact ⟨i, e1, q6 _ e2⟩⟩
    rcases hl h with ⟨_, rfl⟩ | ⟨rfl, rfl⟩ | ⟨_, h⟩
    · intro hk; cases hk
    · exact fun hk hp => key j x hx hxk hxp
    · exact fun hk hp => key j y h hk hp
  · rcases hl h with ⟨_, rfl⟩ | ⟨_, rfl⟩ | ⟨_, h⟩
    · intro hk; cases hk
    · exact fun _ _ hp => absurd hp hxp
    · exact T.dead j y h
  · rw [total_made hd hx hm]
    rcases hl h with ⟨e, rfl⟩ | ⟨rfl, rfl⟩ | ⟨hjd, h⟩
    · intro _
      rw [e, if_pos rfl]
      have : total (cntE (m : Int)) nds = 0 := by
        have key : ∀ l : Nds, (∀ p ∈ l, cntE (m : Int) p.2 = 0) → total (cntE (m : Int)) l = 0 := fun l => by
          induction l with
          | nil => exact fun _ => rfl
          | cons a l ih =>
            intro h
            show cntE (m : Int) a.2 + total (cntE (m : Int)) l = 0
            rw [h a (List.mem_cons_self ..), ih fun p hp => h p (List.mem_cons_of_mem _ hp)]
        refine key nds fun p hp => ?_
        have hp' := look_of_mem hd (show (p.1, p.2) ∈ nds from hp)
        unfold cntE
        rw [List.length_eq_zero_iff, List.filter_eq_nil_iff]
        intro e he hek
        obtain ⟨_, z, q2⟩ := T.ent _ _ hp' e he
        rw [show (e.2 : Int) = (m : Int) by simpa using hek, hm] at q2
        cases q2
      rw [this]
    · intro hj
      rw [if_neg fun e => by rw [← e, hm] at hx; cases hx]
      exact T.cnt j x hx hj
    · intro hj
      rw [if_neg fun e => by rw [← e, hm] at h; cases h]
      exact T.cnt j y h hj
  · rcases hl h with ⟨_, rfl⟩ | ⟨rfl, rfl⟩ | ⟨_, h⟩
    · intro hk; cases hk
    · exact fun hk hj h0 => T.gone j x hx hxk hj h0
    · exact T.gone j y h
theorem cnt_drop {l : List (ByteArray × Nat)} (hd : ApartN l) {nm : ByteArray} {b : Nat} (h : look l nm = some b) (k : Int) :
    ((l.filter fun p => p.1 ≠ nm).filter fun e => decide ((e.2 : Int) = k)).length + (if (b : Int) = k then 1 else 0) = (l.filter fun e => decide ((e.2 : Int) = k)).length := by
  induction l with
  | nil => cases h
  | cons a l ih =>
    have hd' := List.pairwise_cons.1 hd
    by_cases ha : a.1 = nm
    · have hb : a.2 = b := by
        have : look (a :: l) nm = some a.2 := if_pos ha
        rw [this] at h
        exact Option.some.inj h
      have hf : (l.filter fun p => p.1 ≠ nm) = l := List.filter_eq_self.2 fun p hp => by
        have := hd'.1 p hp
        simpa using fun e => this (ha.trans e.symm)
      rw [List.filter_cons_of_neg (by simpa using ha), hf, List.filter_cons]
      by_cases hk : (b : Int) = k
      · rw [if_pos hk, if_pos (by rw [hb]; simpa using hk)]; rfl
      · rw [if_neg hk, if_neg (by rw [hb]; simpa using hk)]; rfl
    · have h' : look l nm = some b := by
        have : look (a :: l) nm = look l nm := if_neg ha
        rw [← this]; exact h
      rw [List.filter_cons_of_pos (by simpa using ha), List.filter_cons, List.filter_cons]
      have := ih hd'.2 h'
      split
      · simp only [List.length_cons]; omega
      · exact this
theorem look_unnamed {nds : Nds} {d b : Int} {x y : Pn} (hx : look nds d = some x) (hy : look nds b = some y) (hdb : b ≠ d) (nm : ByteArray) (j : Int) :
    look (unnamed nds d x nm b y) j = if j = b then some { y with named := y.named - 1, par := 0, name := ⟨#[]⟩ } else if j = d then some { x with nms := some ((nmsOf x).filter fun p => p.1 ≠ nm) } else look nds j := by
  unfold unnamed
  rw [look_upd, look_upd, look_upd]
  by_cases hj : j = b
  · subst hj
    rw [if_pos rfl, if_pos rfl, if_neg hdb, hy]; rfl
  · rw [if_neg hj, if_neg hj]
    by_cases hjd : j = d
    · subst hjd; rw [if_pos rfl, if_pos rfl, hx]; rfl
    · rw [if_neg hjd, if_neg hjd]
theorem apart_unnamed {nds : Nds} {d b : Int} {x y : Pn} (hd : Apart nds) (nm : ByteArray) : Apart (unnamed nds d x nm b y) := apart_upd (apart_upd hd _ _) _ _
theorem TOk.unnamed {nds : Nds} (T : TOk nds) (hd : Apart nds) {d : Int} {x y : Pn} (hx : look nds d = some x) (hxk : x.kind = 1) (ha : ApartN (nmsOf x)) {nm : ByteArray} {b : Nat} (hb : look (nmsOf x) nm = some b) (hy : look nds (b : Int) = some y) (hye : nmsOf y = []) : TOk (unnamed nds d x nm b y) ∧ 1 ≤ y.named ∧ (b : Int) ≠ 1 ∧ (b : Int) ≠ d := by
  have hmem := look_mem hb
  have hdb : (b : Int) ≠ d := fun e => by
    rw [e, hx] at hy
    obtain rfl := Option.some.inj hy
    rw [hye] at hmem
    cases hmem
  obtain ⟨hb1, _⟩ := T.ent d x hx _ hmem
  have hb1' : (b : Int) ≠ 1 := hb1
  have hcnt := T.cnt b y hy hb1
  have hge := total_ge (f := cntE (b : Int)) hx
  have hpos : 0 < cntE (b : Int) x := cnt_pos hmem rfl
  refine ⟨?_, by omega, hb1, hdb⟩
  have hlk := look_unnamed hx hy hdb nm
  have hl : ∀ {j z}, look (Proofs.YtfofpphnglhopaaGreatDoor.unnamed nds d x nm b y) j = some z → (j = (b : Int) ∧ z = { y with named := y.named - 1, par := 0, name := ⟨#[]⟩ }) ∨ (j = d ∧ z = { x with nms := some ((nmsOf x).filter fun p => p.1 ≠ nm) }) ∨ (j ≠ d ∧ j ≠ (b : Int) ∧ look nds j = some z) := fun {j z} h => by
    rw [hlk] at h
    split at h
    · exact .inl ⟨by assumption, (Option.some.inj h).symm⟩
    · split at h
      · exact .inr (.inl ⟨by assumption, (Option.some.inj h).symm⟩)
      · exact .inr (.inr ⟨by assumption, by assumption, h⟩)
  have hr : ∀ {j z}, look nds j = some z → ∃ z', look (Proofs.YtfofpphnglhopaaGreatDoor.unnamed nds d x nm b y) j = some z' ∧ z'.kind = z.kind ∧ (j ≠ (b : Int) → z'.par = z.par) ∧ (∀ e ∈ nmsOf z, (e.2 : Int) ≠ (b : Int) → e ∈ nmsOf z') := fun {j z} h => by
    rw [hlk]
    by_cases h1 : j = (b : Int)
    · rw [if_pos h1]
      rw [h1, hy] at h
      obtain rfl := Option.some.inj h
      exact ⟨_, rfl, rfl, fun e => absurd h1 e, fun e he _ => he⟩
    · rw [if_neg h1]
      by_cases h2 : j = d
      · rw [if_pos h2]
        rw [h2, hx] at h
        obtain rfl := Option.some.inj h
        refine ⟨_, rfl, rfl, fun _ => rfl, fun e he hne => ?_⟩
        show e ∈ (nmsOf x).filter _
        refine List.mem_filter.2 ⟨he, ?_⟩
        simp only [ne_eq, decide_not, Bool.not_eq_eq_eq_not, Bool.not_true, decide_eq_false_iff_not]
        intro e1
        have := look_of_mem ha (show (e.1, e.2) ∈ nmsOf x from he)
        rw [e1, hb] at this
        exact hne (by rw [Option.some.inj this])
      · rw [if_neg h2]
        exact ⟨z, h, rfl, fun _ => rfl, fun e he _ => he⟩
  refine ⟨?_, fun j z h => ?_, fun j z h => ?_, fun j z h => ?_, fun j z h e he => ?_, fun j z h => ?_, fun j z h => ?_, fun j z h hj => ?_, fun j z h => ?_⟩
  · obtain ⟨r, q1, q2, q3⟩ := T.root
    obtain ⟨r', q4, q5, q6, _⟩ := hr q1
    exact ⟨r', q4, by omega, by rw [q6 (Ne.symm hb1')]; exact q3⟩
  · rcases hl h with ⟨rfl, rfl⟩ | ⟨_, rfl⟩ | ⟨_, _, h⟩
    · exact T.kind _ y hy
    · exact .inl hxk
    · exact T.kind j z h
  · rcases hl h with ⟨rfl, rfl⟩ | ⟨_, rfl⟩ | ⟨_, _, h⟩
    · exact T.dir _ y hy
    · exact fun _ => ⟨_, rfl⟩
    · exact T.dir j z h
  · rcases hl h with ⟨rfl, rfl⟩ | ⟨_, rfl⟩ | ⟨_, _, h⟩
    · exact T.leaf _ y hy
    · exact fun hk => absurd hxk hk
    · exact T.leaf j z h
  · have key : ∀ j z, look nds j = some z → e ∈ nmsOf z → (e.2 : Int) ≠ 1 ∧ ∃ v, look (Proofs.YtfofpphnglhopaaGreatDoor.unnamed nds d x nm b y) (e.2 : Int) = some v := fun j z h he => by
      obtain ⟨q1, v, q2⟩ := T.ent j z h e he
      obtain ⟨v', q3, _⟩ := hr q2
      exact ⟨q1, v', q3⟩
    rcases hl h with ⟨rfl, rfl⟩ | ⟨rfl, rfl⟩ | ⟨_, _, h⟩
    · exact key _ y hy he
    · exact key _ x hx (List.mem_filter.1 he).1
    · exact key j z h he
  · have key : ∀ j z, j ≠ (b : Int) → look nds j = some z → z.kind = 1 → z.par ≠ 0 → ∃ p, look (Proofs.YtfofpphnglhopaaGreatDoor.unnamed nds d x nm b y) (z.par : Int) = some p ∧ p.kind = 1 ∧ (j ≠ 1 → ∃ i : Nat, (i : Int) = j ∧ (z.name, i) ∈ nmsOf p) := fun j z hjb h hk hp => by
      obtain ⟨p, q1, q2, q3⟩ := T.par j z h hk hp
      obtain ⟨p', q4, q5, _, q6⟩ := hr q1
      refine ⟨p', q4, by omega, fun hj => ?_⟩
      obtain ⟨i, e1, e2⟩ := q3 hj
      exact ⟨i, e1, q6 _ e2 fun e => hjb (e1.symm.trans e)⟩
    rcases hl h with ⟨rfl, rfl⟩ | ⟨rfl, rfl⟩ | ⟨_, hjb, h⟩
    · exact fun _ hp => absurd rfl hp
    · exact fun hk hp => key j x (Ne.symm hdb) hx hk hp
    · exact fun hk hp => key j z hjb h hk hp
  · rcases hl h with ⟨rfl, rfl⟩ | ⟨rfl, rfl⟩ | ⟨_, _, h⟩
    · exact fun _ _ _ => hye
    · intro hk hj hp
      have := T.dead j x hx hxk hj hp
      rw [this] at hmem
      cases hmem
    · exact T.dead j z h
  · have hdd := apart_upd hd d { x with nms := some ((nmsOf x).filter fun p => p.1 ≠ nm) }
    have t1 := total_upd (f := cntE j) hd hx { x with nms := some ((nmsOf x).filter fun p => p.1 ≠ nm) }
    have l2 : look (Proofs.YtfofpphnglhopaaGreatDoor.upd nds d { x with nms := some ((nmsOf x).filter fun p => p.1 ≠ nm) }) (b : Int) = some y := by rw [look_upd, if_neg hdb]; exact hy
    have t2 := total_map_eq (f := cntE j) (y := { y with named := y.named - 1, par := 0, name := ⟨#[]⟩ }) hdd l2 rfl
    have t3 := cnt_drop ha hb j
    have t4 : cntE j { x with nms := some ((nmsOf x).filter fun p => p.1 ≠ nm) } = (((nmsOf x).filter fun p => p.1 ≠ nm).filter fun e => decide ((e.2 : Int) = j)).length := rfl
    have t5 : cntE j x = ((nmsOf x).filter fun e => decide ((e.2 : Int) = j)).length := rfl
    have t6 : total (cntE j) (Proofs.YtfofpphnglhopaaGreatDoor.unnamed nds d x nm b y) = total (cntE j) (Proofs.YtfofpphnglhopaaGreatDoor.upd nds d { x with nms := some ((nmsOf x).filter fun p => p.1 ≠ nm) }) := t2
    rw [t6]
    rcases hl h with ⟨rfl, rfl⟩ | ⟨rfl, rfl⟩ | ⟨_, hjb, h⟩
    · rw [if_pos rfl] at t3
      show y.named - 1 = _
      omega
    · rw [if_neg (by omega)] at t3
      have := T.cnt j x hx hj
      show x.named = _
      omega
    · rw [if_neg (by omega)] at t3
      have := T.cnt j z h hj
      omega
  · rcases hl h with ⟨rfl, rfl⟩ | ⟨rfl, rfl⟩ | ⟨_, _, h⟩
    · exact fun _ _ _ => rfl
    · exact fun _ hj h0 => T.gone j x hx hxk hj h0
    · exact T.gone j z h
theorem TOk.removed {nds : Nds} (T : TOk nds) (hd : Apart nds) {d : Int} {x y : Pn} (hx : look nds d = some x) (hxk : x.kind = 1) (ha : ApartN (nmsOf x)) {nm : ByteArray} {b : Nat} (hb : look (nmsOf x) nm = some b) (hy : look nds (b : Int) = some y) (hye : nmsOf y = []) : TOk (removed nds d x nm b y) := by
  obtain ⟨T', h1, h2, h3⟩ := T.unnamed hd hx hxk ha hb hy hye
  unfold Proofs.YtfofpphnglhopaaGreatDoor.removed
  split
  · exact T'
  · rename_i hn
    refine T'.away (apart_unnamed hd nm) (y := { y with named := y.named - 1, par := 0, name := ⟨#[]⟩ }) ?_ h2 (by show y.named - 1 = 0; omega)
    rw [look_unnamed hx hy h3, if_pos rfl]
end Go.Proofs.YtfofpphnglhopaaGreatDoor
namespace Go.Proofs.YtfofpphnglhopaaGreatDoor
open Go Go.RowKit Go.ChangeMaps
def freeP (x : Pn) (nm : List UInt8) (sl : Bool) : Int :=
  if x.par = 0 then 10 else if isDirP nm = true then 11 else if (findP (nmsOf x) nm).2 = 0 then 11 else if (findP (nmsOf x) nm).2 ≠ 10 then (findP (nmsOf x) nm).2 else if sl = true then 12 else 0
section
variable {w : World} {lab : Nat → TL} {F : Nat → Prop} {fb most room mb : Nat} {nds : Nds} {mem : Int → NM}
theorem free_any (h : TreeR w lab fb most room nds mb mem) {d : Int} {x : Pn} (hx : look nds d = some x) (hn : x.nms = some (nmsOf x)) (nm : ByteArray) (sl : Bool) :
    Calls Tryz.prog 96 #[.pointer (some ⟨fb, 0, none⟩), .agg #[.int .i64 d, .string nm, .bool sl], .int .i64 2] w fun e w' => e = .returned (.int .i64 (freeP x (tl nm) sl)) ∧ w.grownBy w' none := by
  have hfi := fun (W : World) (hW : w.grownBy W none) => findD_any (h.grown hW) hx hn nm
  have hlk := fun (W : World) (hW : w.grownBy W none) => (h.grown hW).find_some hx
  have hid := fun (W : World) => isDir_any d nm sl W
  have f0 := h.fs.cell (i := 0) rfl
  have hfl := h.fs.lt
  have c5 := (h.nd d x hx).blk.cell (show (bodyC x (mem d))[5]? = some _ from rfl)
  have hlt := (h.nd d x hx).blk.lt
  generalize (mem d).blk = kb at hfi hlk c5 hlt
  obtain ⟨R, hR⟩ : ∃ R, freeP x (tl nm) sl = R := ⟨_, rfl⟩
  rw [hR]
  unfold freeP at hR
  obtain ⟨I, hI⟩ : ∃ I, isDirP (tl nm) = I := ⟨_, rfl⟩
  rw [hI] at hR hid
  obtain ⟨Q, hQ⟩ : ∃ Q, findP (nmsOf x) (tl nm) = Q := ⟨_, rfl⟩
  rw [hQ] at hR hfi
  obtain ⟨Q1, Q2⟩ := Q
  simp only at hR hfi
  have g1 : w.grownBy (w.alloc (.cells #[.int .i64 d, .string nm, .bool sl] 178)) none := World.grownBy_alloc w _ _
  have b1 : Blk (w.alloc (.cells #[.int .i64 d, .string nm, .bool sl] 178)) w.heap.size [.int .i64 d, .string nm, .bool sl] 178 := Blk.new w _ _
  have k1 : ∀ g, g < w.heap.size → (w.alloc (.cells #[.int .i64 d, .string nm, .bool sl] 178)).heap[g]? = w.heap[g]? := fun g hg => Below.heap_alloc w _ g hg
  replace f0 := (World.cell?_of_block (a := ⟨fb, 0, none⟩) (k1 fb hfl)).trans f0
  replace c5 := (World.cell?_of_block (a := ⟨kb, 5, none⟩) (k1 kb hlt)).trans c5
  have hlk1 := fun n => hlk ((w.alloc (.cells #[.int .i64 d, .string nm, .bool sl] 178)).drewN n) (grownBy_drewN g1 n)
  obtain ⟨xp, hxp⟩ : ∃ xp, x.par = xp := ⟨_, rfl⟩
  rw [hxp] at c5 hR
  replace hfi := Lib.hid hfi
  replace hid := Lib.hid hid
  clear h hx hn k1 hlk hxp hI hQ
  go_enter Tryz.func96, Tryz.ntmps96
  go_upto_region 1 with fail
  obtain ⟨z, hz⟩ : ∃ z, w.heap.size = z := ⟨_, rfl⟩
  generalize (w.alloc (.cells #[.int .i64 d, .string nm, .bool sl] 178)) = w1 at b1 g1 f0 c5 hlk1 ⊢
  simp only [hz] at b1 hfl hlt ⊢
  have z0 := b1.cell (i := 0) rfl
  have z1 := b1.cell (i := 1) rfl
  have z2 := b1.cell (i := 2) rfl
  have hzl := b1.lt
  replace hz := Lib.hid hz
  replace b1 := Lib.hid b1
  go_quiet (fail)
  have d5 : (w1.drewN nq).cell? ⟨kb, 5, none⟩ = _ := c5
  have y0 : (w1.drewN nq).cell? ⟨z, 0, none⟩ = _ := z0
  have y1 : (w1.drewN nq).cell? ⟨z, 1, none⟩ = _ := z1
  have y2 : (w1.drewN nq).cell? ⟨z, 2, none⟩ = _ := z2
  have g2 := grownBy_drewN g1 nq
  have hl2 : kb < (w1.drewN nq).heap.size := Nat.lt_of_lt_of_le hlt (by rw [← hz.out]; exact g2.size)
  have hz2 : z < (w1.drewN nq).heap.size := hzl
  generalize w1.drewN nq = w2 at d5 y0 y1 y2 g2 hl2 hz2 ⊢
  have hid2 := hid.out w2
  clear c5 z0 z1 z2 g1 hlk1 f0 hid b1 hzl
  replace g2 := Lib.hid g2
  by_cases hp0 : xp = 0
  · rw [if_pos hp0] at hR
    subst hp0 hR
    clear hid2 hfi
    go_wp2
    go_ret
    exact ⟨rfl, g2.out⟩
  rw [if_neg hp0] at hR
  have ep : ((xp : Int) == 0) = false := by simp; omega
  clear hp0
  cases I with
  | true =>
    rw [if_pos rfl] at hR
    subst hR
    clear hfi
    go_wp2_with fail
    refine hid2.mono ?_
    rintro e w3 ⟨rfl, g3⟩
    have g4 := grownBy_tr g2.out g3
    replace g4 := Lib.hid g4
    clear hid2 g3
    go_wp2
    go_ret
    exact ⟨rfl, g4.out⟩
  | false =>
    rw [if_neg (by simp)] at hR
    have tail : ∀ w3, w2.grownBy w3 none → w.grownBy w3 none ∧ w3.cell? ⟨z, 1, none⟩ = some (.string nm) ∧ w3.cell? ⟨z, 2, none⟩ = some (.bool sl) ∧ z < w3.heap.size := fun w3 g3 =>
      ⟨grownBy_tr g2.out g3, (World.cell?_of_block (a := ⟨z, 1, none⟩) (g3.block z hz2 (by simp))).trans y1, (World.cell?_of_block (a := ⟨z, 2, none⟩) (g3.block z hz2 (by simp))).trans y2, Nat.lt_of_lt_of_le hz2 g3.size⟩
    replace tail := Lib.hid tail
    by_cases hq0 : Q2 = 0
    · rw [if_pos hq0] at hR
      subst hq0 hR
      go_wp2_with fail
      refine hid2.mono ?_
      rintro e w3 ⟨rfl, g3⟩
      obtain ⟨g4, y1', y2', hz3⟩ := tail.out w3 g3
      have hfi3 := hfi.out w3 g4
      clear hid2 d5 y0 y1 y2 hfi g3 hl2 hz2
      replace g4 := Lib.hid g4
      go_wp2_with fail
      refine hfi3.mono ?_
      rintro e w' ⟨rfl, hw⟩
      obtain rfl := hw.symm
      clear hfi3 hw
      go_wp2
      go_ret
      exact ⟨rfl, g4.out⟩
    rw [if_neg hq0] at hR
    have eq0 : (Q2 == 0) = false := by rw [beq_eq_false_iff_ne]; exact hq0
    clear hq0
    by_cases hq1 : Q2 ≠ 10
    · rw [if_pos hq1] at hR
      subst hR
      have eq1 : (Q2 == 10) = false := by rw [beq_eq_false_iff_ne]; exact hq1
      clear hq1
      go_wp2_with fail
      refine hid2.mono ?_
      rintro e w3 ⟨rfl, g3⟩
      obtain ⟨g4, y1', y2', hz3⟩ := tail.out w3 g3
      have hfi3 := hfi.out w3 g4
      clear hid2 d5 y0 y1 y2 hfi g3 hl2 hz2
      replace g4 := Lib.hid g4
      go_wp2_with fail
      refine hfi3.mono ?_
      rintro e w' ⟨rfl, hw⟩
      obtain rfl := hw.symm
      clear hfi3 hw
      go_wp2
      go_ret
      exact ⟨rfl, g4.out⟩
    rw [if_neg hq1] at hR
    obtain rfl : Q2 = 10 := Decidable.not_not.1 hq1
    clear hq1 eq0
    cases sl with
    | true =>
      rw [if_pos rfl] at hR
      subst hR
      go_wp2_with fail
      refine hid2.mono ?_
      rintro e w3 ⟨rfl, g3⟩
      obtain ⟨g4, y1', y2', hz3⟩ := tail.out w3 g3
      have hfi3 := hfi.out w3 g4
      clear hid2 d5 y0 y1 y2 hfi g3 hl2 hz2
      replace g4 := Lib.hid g4
      go_wp2_with fail
      refine hfi3.mono ?_
      rintro e w' ⟨rfl, hw⟩
      obtain rfl := hw.symm
      clear hfi3 hw
      go_wp2
      go_ret
      exact ⟨rfl, g4.out⟩
    | false =>
      rw [if_neg (by simp)] at hR
      subst hR
      go_wp2_with fail
      refine hid2.mono ?_
      rintro e w3 ⟨rfl, g3⟩
      obtain ⟨g4, y1', y2', hz3⟩ := tail.out w3 g3
      have hfi3 := hfi.out w3 g4
      clear hid2 d5 y0 y1 y2 hfi g3 hl2 hz2
      replace g4 := Lib.hid g4
      go_wp2_with fail
      refine hfi3.mono ?_
      rintro e w' ⟨rfl, hw⟩
      obtain rfl := hw.symm
      clear hfi3 hw
      go_wp2
      go_ret
      exact ⟨rfl, g4.out⟩
theorem enter_leaf (h : TreeR w lab fb most room nds mb mem) (hF : ∀ g, F g ↔ lab g ≠ .free) {d : Int} {x y : Pn} {l : List (ByteArray × Nat)} {m : Nat} (hx : look nds d = some x) (hn : x.nms = some l) (nm : ByteArray) (hl : look l nm = none) (hm : (m : Int) ≠ d) (hy : look nds (m : Int) = some y) (hyn : y.named ≤ 1000000) (hk : y.kind ≠ 1) (sl : Bool) :
    Calls Tryz.prog 98 #[.pointer (some ⟨fb, 0, none⟩), .agg #[.int .i64 d, .string nm, .bool sl], .int .i64 (m : Int)] w fun e w' => e = .returned (.tuple #[]) ∧
      TreeR w' lab fb most room (upd (upd nds d { x with nms := some (l ++ [(nm, m)]) }) (m : Int) { y with named := y.named + 1 }) mb mem ∧ Chg F F w w' := by
  have g1 : w.grownBy (w.alloc (.cells #[.int .i64 d, .string nm, .bool sl] 178)) none := World.grownBy_alloc w _ _
  have b1 : Blk (w.alloc (.cells #[.int .i64 d, .string nm, .bool sl] 178)) w.heap.size [.int .i64 d, .string nm, .bool sl] 178 := Blk.new w _ _
  have hall := fun n => h.grown (grownBy_drewN g1 n)
  have hlt := h.fs.lt
  have hkl := (h.nd d x hx).blk.lt
  have hfr : lab w.heap.size = .free := h.new _ (Nat.le_refl _)
  go_enter Tryz.func98, Tryz.ntmps98
  go_upto_region 1 with fail
  have c1 : Chg F F w (w.alloc (.cells #[.int .i64 d, .string nm, .bool sl] 178)) := Chg.alloc_other F w _
  obtain ⟨z, hz⟩ : ∃ z, w.heap.size = z := ⟨_, rfl⟩
  generalize (w.alloc (.cells #[.int .i64 d, .string nm, .bool sl] 178)) = w1 at b1 g1 hall c1 ⊢
  simp only [hz] at b1 hfr ⊢
  have h1 : TreeR w1 lab fb most room nds mb mem := hall 0
  have hN := h1.nd d x hx
  obtain ⟨nb, hnb, hnl, hkm⟩ := hN.nms l hn
  have z0 := b1.cell (i := 0) rfl
  have z1 := b1.cell (i := 1) rfl
  have f0 := h1.fs.cell (i := 0) rfl
  have hf1 : (Instr.lookup 174 (.map (some mb)) (.int .i64 d) false).run Tryz.prog w1.drew = .ok (.pointer (some ⟨(mem d).blk, 0, none⟩)) w1.drew := (hall 1).find_some hx
  have c4 := hN.blk.cell (show (bodyC x (mem d))[4]? = some _ from rfl)
  rw [hnb] at c4
  have hzl := b1.lt
  have hfl1 := h1.fs.lt
  have hbl1 := hN.blk.lt
  generalize hkb : (mem d).blk = kb at hf1 c4 hbl1
  replace hkb := Lib.hid hkb
  replace h := Lib.hid h
  replace h1 := Lib.hid h1
  replace hN := Lib.hid hN
  replace hz := Lib.hid hz
  replace b1 := Lib.hid b1
  go_still_tail 13, (by kernel_rfl)
  change wpList _ _ _ _ _ w1.drew
  have h2 : TreeR w1.drew lab fb most room nds mb mem := hall 1
  have g2 : w.grownBy w1.drew none := grownBy_drewN g1 1
  have hkm2 : KMap w1.drew nb .string encS _ := hkm
  have c2 : Chg F F w w1.drew := c1.trans (Chg.drewN F w1 1)
  have b2 : Blk w1.drew z _ _ := b1.out
  generalize w1.drew = w2 at h2 g2 hkm2 c2 b2 ⊢
  have hle : look (l.map fun p => (p.1, Value.int .i64 (p.2 : Int))) nm = none := by rw [look_map (fun n : Nat => Value.int .i64 (n : Int)), hl]; rfl
  clear hf1 c4 f0 z0 z1 c1 h1 hN b1 g1 hall hkm
  replace h2 := Lib.hid h2
  replace c2 := Lib.hid c2
  replace g2 := Lib.hid g2
  replace b2 := Lib.hid b2
  go_wp2_with (at_mapUpdate; refine wpList_put_k rfl _ _ _ 154 rfl 9 3 keyS Tryz.underlying154 Tryz.underlying9 rfl hkm2 nm rfl hle (.int .i64 (m : Int)) rfl ?_; intro ob hkm3; refine Hid.out ?_)
  refine Lib.hid ?_
  have h3 := h2.out.push hx hn hnb ob (nm, m) (by rw [List.map_append]; exact hkm3)
  have c3 : Chg F F w (setBlock w2 nb ob) := c2.out.trans (Chg.setB ((hF nb).2 (by rw [hnl]; exact nofun)) ob)
  have b3 : Blk (setBlock w2 nb ob) z _ _ := b2.out.setB (fun e => by rw [e, hnl] at hfr; cases hfr) ob
  have hy3 : look (upd nds d { x with nms := some (l ++ [(nm, m)]) }) (m : Int) = some y := by rw [look_upd, if_neg hm]; exact hy
  generalize setBlock w2 nb ob = w3 at h3 c3 b3 ⊢
  have hN3 := h3.nd _ y hy3
  have z0 := b3.cell (i := 0) rfl
  have z1 := b3.cell (i := 1) rfl
  have f0 := h3.fs.cell (i := 0) rfl
  have hf3 := h3.find_some hy3
  have c0 := hN3.blk.cell (show (bodyC y (mem m))[0]? = some _ from rfl)
  have c1 := hN3.blk.cell (show (bodyC y (mem m))[1]? = some _ from rfl)
  have fr1 := hN3.blk.frozen 1
  have hml := hN3.blk.lt
  have hfl3 := h3.fs.lt
  have hmz : z ≠ (mem m).blk := fun e => by rw [e, hN3.lb] at hfr; cases hfr
  have h4 := h3.stay1 hy3 1 (.int .i64 ((y.named + 1 : Nat) : Int)) (y := { y with named := y.named + 1 }) rfl rfl rfl
  have c4 : Chg F F w (w3.setCell ⟨(mem m).blk, 1, none⟩ (.int .i64 ((y.named + 1 : Nat) : Int))) := c3.trans (Chg.set ((hF _).2 (by rw [hN3.lb]; exact nofun)) 1 _)
  have b4 := b3.other (a := ⟨(mem m).blk, 1, none⟩) hmz (.int .i64 ((y.named + 1 : Nat) : Int))
  have e1 : ((y.named + 1 : Nat) : Int) = (y.named : Int) + 1 := by omega
  rw [e1] at h4 c4 b4
  clear h h2 c2 g2 b2 hkm2 hkm3 hkb hbl1 hfl1 hzl hkl hlt c3 b3 h3 hN3 hle
  have e2 : ((y.kind : Int) == 1) = false := by simp; omega
  generalize (mem m).blk = kb at hf3 c0 c1 fr1 hml h4 c4 b4 hmz
  replace h4 := Lib.hid h4
  replace c4 := Lib.hid c4
  clear b4
  go_wp2
  go_end0
  exact ⟨rfl, h4.out, c4.out⟩
end
end Go.Proofs.YtfofpphnglhopaaGreatDoor
