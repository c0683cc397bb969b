/-
  The world that every statement of this stage begins in: a tree, a pool, a table, a log, a process. Conditions: a log's size that it may have.
-/
import Derived.Test.YtglcfbefpnphaaaGreatDoorZn10
import Derived.Test.YtglcfbefpnphaaaGreatDoorZn12
import Derived.Test.YtglcfbefpnphaaaGreatDoorZn14
import Derived.Test.YtglcfbefpnphaaaGreatDoorZn15
namespace Go.Proofs.YtglcfbefpnphaaaGreatDoor
open Go Go.RowKit Go.ChangeMaps

def dirD : Pn := ⟨1, 1, 0, 1, [], some [], nm1 100⟩
def nlA : List (ByteArray × Nat) := [(nm1 100, 2)]
def nlB : List (ByteArray × Nat) := [(nm1 100, 2), (nm1 97, 3)]
def nlC : List (ByteArray × Nat) := [(nm1 100, 2), (nm1 97, 3), (nm1 108, 4)]
def ndsA9 : Nds := [(1, rootN nlA), (2, dirD)]
def ndsB9 : Nds := [(1, rootN nlB), (2, dirD), (3, leafN 2 [120, 121, 122])]
def ndsC9 : Nds := [(1, rootN nlC), (2, dirD), (3, leafN 2 [120, 121, 122]), (4, leafN 3 [100, 47, 98])]
def nds9 : Nds := [(1, { rootN nlC with holds := 1 }), (2, dirD), (3, leafN 2 [120, 121, 122]), (4, leafN 3 [100, 47, 98])]
theorem made9_1 : made [(1, root0)] root0 [] (nm1 100) 2 1 (tl ⟨#[]⟩) = ndsA9 := by rfl
theorem made9_2 : made ndsA9 (rootN nlA) nlA (nm1 97) 3 2 (tl ⟨#[120, 121, 122]⟩) = ndsB9 := by rfl
theorem made9_3 : made ndsB9 (rootN nlB) nlB (nm1 108) 4 3 (tl ⟨#[100, 47, 98]⟩) = ndsC9 := by rfl
def c9 (fb plb tb : Nat) : Sy := ⟨fb, plb, tb, 12, 100, 40, 3, 4⟩
def hs9 : Hs := [(1, ⟨1, .text [104, 101, 108, 108, 111] 0⟩), (2, ⟨1, .sink [] 50⟩), (3, ⟨1, .rd 0⟩), (4, ⟨1, .wr 0⟩)]
def s9 (bb ppb : Nat) : St := ⟨nds9, [(bb, some ⟨[], 0, 3, .slice none 0 0, .slice none 0 0, []⟩)], 0, hs9, [(ppb, bb, 2)], 4, []⟩
def ps0 : List Pt := List.replicate 16 ⟨0, 0⟩ ++ [⟨1, 0⟩, ⟨18, 0⟩]
/-- Tree, pool and table beside a log without marks. -/
structure SL (w : World) (B : Nat) (F : Nat → Prop) (c : Sy) (lb most nest : Nat) (s : St) : Prop where
  sys : Sys w F c s
  log : LogAt w B lb most nest [] [] 0
  nl : ∀ g, F g → ¬ LogB w g
  hF : ∀ g, F g → B ≤ g
  hB : B ≤ w.heap.size
theorem KeepL.of_chg {F F' : Nat → Prop} {w w' : World} (k : Chg F F' w w') (h : ∀ g, F g → ¬ LogB w g) : KeepL w w' := ⟨k.size, fun b cur t f hb ht => k.block b (Array.getElem?_eq_some_iff.1 hb).1 fun hf => h b hf ⟨cur, t, f, hb, ht⟩⟩
theorem SL.step {w w' : World} {B : Nat} {F F' : Nat → Prop} {c : Sy} {lb most nest : Nat} {s s' : St} (h : SL w B F c lb most nest s) (hs : Sys w' F' c s') (k : Chg F F' w w') : ∃ F'', SL w' B F'' c lb most nest s' ∧ Chg F F'' w w' := by
  have k2 : Chg F (fun g => F' g ∧ ¬ LogB w' g) w w' := k.mono (fun _ h => h) fun b _ hb => .inl hb.1
  refine ⟨_, ⟨hs.shrink, h.log.keep (KeepL.of_chg k h.nl), fun g hg => hg.2, fun g hg => ?_, Nat.le_trans h.hB k.size⟩, k2⟩
  by_cases hlt : g < w.heap.size
  · exact h.hF g (Classical.byContradiction fun hf => k.foot g hlt hf hg.1)
  · have := h.hB; omega
/-- A tree beside a log. -/
theorem tree_step {w w' : World} {B : Nat} {Ft Ft' : Nat → Prop} {fb mo ro lb most nest : Nat} {nds' : Nds} (hl : LogAt w B lb most nest [] [] 0) (hn : ∀ g, Ft g → ¬ LogB w g) (hT : TreeF w' Ft' fb mo ro nds') (k : Chg Ft Ft' w w') :
    ∃ Ft'', TreeF w' Ft'' fb mo ro nds' ∧ Chg Ft Ft'' w w' ∧ LogAt w' B lb most nest [] [] 0 ∧ ∀ g, Ft'' g → ¬ LogB w' g :=
  ⟨_, hT.shrink, k.mono (fun _ h => h) fun b _ hb => .inl hb.1, hl.keep (KeepL.of_chg k hn), fun g hg => hg.2⟩
theorem sys_tree {w : World} {F : Nat → Prop} {c : Sy} {s : St} {f : Nat} {args : Array Value} {r : Ending} {nds' : Nds} (h : Sys w F c s)
    (hc : ∀ Ft, TreeF w Ft c.fb c.most c.room s.nds → Calls Tryz.prog f args w fun e w' => e = r ∧ ∃ Ft', TreeF w' Ft' c.fb c.most c.room nds' ∧ Chg Ft Ft' w w') :
    Calls Tryz.prog f args w fun e w' => e = r ∧ ∃ F', Sys w' F' c { s with nds := nds' } ∧ Chg F F' w w' := by
  obtain ⟨Ft, Fp, Fh, h, hF⟩ := h
  refine (hc Ft h.tree).mono ?_
  rintro e w' ⟨rfl, Ft', h1, h2⟩
  obtain ⟨h3, h4⟩ := h.treeStep h1 h2
  exact ⟨rfl, Sys.of hF h3 h4⟩
set_option maxRecDepth 100000 in
set_option maxHeartbeats 1000000 in
theorem procNew_nil (f t : Nat) (w : World) : Calls Tryz.prog 30 #[ptrV f, ptrV t, .pointer none] w fun e w' => e = .returned (.tuple #[.pointer none, .int .i64 2]) ∧ w' = w := by
  unfold ptrV
  go_enter Tryz.func30, Tryz.ntmps30
  go_wp2
  go_ret2
  exact ⟨rfl, rfl⟩
set_option maxRecDepth 100000 in
set_option maxHeartbeats 2000000 in
theorem procNew_any {w : World} {B : Nat} {F : Nat → Prop} {c : Sy} {lb most nest : Nat} {s : St} (h : SL w B F c lb most nest s) {x : Pn} (hx : look s.nds 1 = some x) (hh : x.holds ≤ 1000000) :
    Calls Tryz.prog 30 #[ptrV c.fb, ptrV c.tb, ptrV lb] w fun e w' => ∃ pb, e = .returned (.tuple #[ptrV pb, .int .i64 0]) ∧ ∃ F', PrR w' B F' c pb lb most nest { s with nds := upd s.nds 1 { x with holds := x.holds + 1 } } ps0 [] [] ∧ Chg F F' w w' := by
  have hho := sys_tree h.sys (fun Ft hT => hold_some hT hx hh)
  unfold ptrV
  replace h := Lib.hid h
  clear hx hh
  go_enter Tryz.func30, Tryz.ntmps30
  go_wp2_with fail
  refine hho.mono ?_
  rintro e w1 ⟨rfl, F1, hS, hC⟩
  obtain ⟨F2, h2, c2⟩ := h.out.step hS hC
  clear hho hS hC
  replace h2 := Lib.hid h2
  replace c2 := Lib.hid c2
  go_wp2
  have b3 : Blk (w1.alloc (.cells (procC c.fb c.tb lb ps0).toArray 126)) w1.heap.size (procC c.fb c.tb lb ps0) 126 := Blk.new w1 _ _
  have g3 : w1.grownBy (w1.alloc (.cells (procC c.fb c.tb lb ps0).toArray 126)) none := World.grownBy_alloc w1 _ _
  have hsz : w1.heap.size < (w1.alloc (.cells (procC c.fb c.tb lb ps0).toArray 126)).heap.size := b3.lt
  have kl : KeepL w1 (w1.alloc (.cells (procC c.fb c.tb lb ps0).toArray 126)) := KeepL.alloc w1 _
  go_ret2
  refine ⟨_, rfl, F2, ⟨h2.out.sys.grown g3, ?_, b3, fun hf => absurd (h2.out.sys.lt hf) (by omega), rfl, fun g hg => ?_, h2.out.hF, h2.out.hB⟩, c2.out.trans (Chg.of_grown g3 F2)⟩
  · obtain ⟨mv, nv, hl⟩ := h2.out.log.keep kl
    exact ⟨[], [], ⟨mv, nv, hl⟩, rfl, rfl, (fun m hm => by cases hm), fun j n hn => by simp at hn⟩
  · exact fun hq => h2.out.nl g hg ((logB_congr (g3.block g (h2.out.sys.lt hg) (by simp))).1 hq)
/-- A block of the caller's changes. -/
theorem PrR.far {w w' : World} {B pb lb most nest z : Nat} {F : Nat → Prop} {c : Sy} {s : St} {ps : List Pt} {ns : List (Nat × Pt)} {mk : List Nat} {C : List Value} {t : TypeId} (h : PrR w B F c pb lb most nest s ps ns mk) (k : Chg (fun g => g = z) (fun g => g = z) w w') (hz : Blk w z C t) (ht : ¬ LogT t) (hF : ¬ F z) (hp : z ≠ pb)
    (hx : ∀ bx, bx = z → ∀ C' t', Blk w bx C' t' → t' = 128 ∨ t' = 123 ∨ t' = 129 → False) : PrR w' B F c pb lb most nest s ps ns mk := by
  have hk : ∀ b, b < w.heap.size → b ≠ z → w'.heap[b]? = w.heap[b]? := fun b hb hne => k.block b hb hne
  have hnz : ∀ g, F g → g ≠ z := fun g hg e => hF (e ▸ hg)
  have kl : KeepL w w' := ⟨k.size, fun b cur t' f hb hT => hk b (Array.getElem?_eq_some_iff.1 hb).1 fun e => by
    subst e
    exact hz.noLog ht ⟨cur, t', f, hb, hT⟩⟩
  refine ⟨h.sys.keep k.size fun g hg => hk g (h.sys.lt hg) (hnz g hg), ?_, (hk pb h.prc.lt (Ne.symm hp)).trans h.prc, h.npb, h.len, fun g hg hq => h.nl g hg ((logB_congr (hk g (h.sys.lt hg) (hnz g hg))).1 hq), h.hF, h.hpb⟩
  obtain ⟨ms, fs, h1, h2, h3, h4, h5⟩ := h.log
  refine ⟨ms, fs, h1.keep kl, h2, h3, h4, fun j n hn => ?_⟩
  obtain ⟨fv, q1, q0, bx, bw, bf, e, k1, k2, k3⟩ := h5 j n hn
  have hb : ∀ b C' t', Kq w F pb b C' t' → (t' = 128 ∨ t' = 123 ∨ t' = 129) → Kq w' F pb b C' t' := fun b C' t' hb ht' => ⟨(hk b hb.1.lt fun e => hx b e C' t' hb.1 ht').trans hb.1, hb.2⟩
  exact ⟨fv, q1, q0, bx, bw, bf, e, hb _ _ _ k1 (.inl rfl), hb _ _ _ k2 (.inr (.inl rfl)), hb _ _ _ k3 (.inr (.inr rfl))⟩

set_option maxHeartbeats 4000000 in
set_option maxRecDepth 100000 in
theorem begun9_any (most : Nat) (hmost : most ≤ 1048576) (w : World) : Calls Tryz.prog 17 #[.int .i64 (most : Int)] w fun e w' => ∃ fb plb tb lb pb bb ppb, e = .returned (.tuple #[.agg #[ptrV fb, ptrV plb, ptrV tb, ptrV lb, ptrV pb], .bool true]) ∧ ∃ F', PrR w' w.heap.size F' (c9 fb plb tb) pb lb most 4 (s9 bb ppb) ps0 [] [] ∧ Chg (fun _ => False) F' w w' := by
  go_enter Tryz.func17, Tryz.ntmps17
  go_upto_region 1 with fail
  have zb : Blk (w.alloc (.cells #[.pointer none, .pointer none, .pointer none, .pointer none, .pointer none] 48)) w.heap.size [.pointer none, .pointer none, .pointer none, .pointer none, .pointer none] 48 := Blk.new w _ _
  have g1 : w.grownBy (w.alloc (.cells #[.pointer none, .pointer none, .pointer none, .pointer none, .pointer none] 48)) none := World.grownBy_alloc w _ _
  obtain ⟨z, hz⟩ : ∃ z, w.heap.size = z := ⟨_, rfl⟩
  generalize (w.alloc (.cells #[.pointer none, .pointer none, .pointer none, .pointer none, .pointer none] 48)) = w1 at zb g1 ⊢
  simp only [hz] at zb ⊢
  have c1 := Chg.of_grown g1 (fun _ => False)
  have hzl := zb.lt
  have hnn := nodes_New w1 12 100 (by decide) (by decide) (by decide)
  replace hz := Lib.hid hz
  replace g1 := Lib.hid g1
  replace zb := Lib.hid zb
  replace c1 := Lib.hid c1
  go_wp2_with fail
  refine hnn.mono ?_
  rintro e w2 ⟨fb, rfl, Ft, hT2, hC2⟩
  have c2 := c1.out.trans hC2
  have hsz2 := hC2.size
  have hzf2 : ¬ Ft z := hC2.foot z hzl nofun
  have zb2 : Blk w2 z _ _ := (hC2.block z hzl nofun).trans zb.out
  have hft2 : ∀ g, Ft g → z ≤ g := fun g hg => Classical.byContradiction fun hlt => c2.foot g (by rw [hz.out]; omega) nofun hg
  have hsn := allF_new (w := w2) 40 3 4 (by decide) (by decide) (by decide) (by decide)
  have hzl2 := zb2.lt
  replace hT2 := Lib.hid hT2
  replace c2 := Lib.hid c2
  replace zb2 := Lib.hid zb2
  replace hzf2 := Lib.hid hzf2
  replace hft2 := Lib.hid hft2
  clear hnn c1 zb hC2
  go_wp2_with fail
  refine hsn.mono ?_
  rintro e w3 ⟨rfl, ⟨Fp, hA3, hC3⟩, hs3⟩
  generalize w2.heap.size = plb at hA3 hsn hs3 ⊢
  have hT3 : TreeF w3 Ft fb 12 100 [(1, root0)] := hT2.out.keep hC3.size fun g hg => hC3.block g (hT2.out.lt hg) nofun
  have hd3 : ∀ g, Fp g → ¬ Ft g := fun g hg hf => hC3.foot g (hT2.out.lt hf) nofun hg
  have c3 : Chg (fun _ => False) (fun g => Ft g ∨ Fp g) w w3 := c2.out.trans (hC3.fresh Ft)
  have hzf3 : ¬ Fp z := fun h => hC3.foot z hzl2 nofun h
  have zb3 : Blk w3 z _ _ := (hC3.block z hzl2 nofun).trans zb2.out
  have hw3 : z ≤ w3.heap.size := Nat.le_of_lt zb3.lt
  have hln := LogNew_yes most 4 z w3 hmost (by decide) (by decide) hw3
  replace hT3 := Lib.hid hT3
  replace hd3 := Lib.hid hd3
  replace c3 := Lib.hid c3
  replace hzf3 := Lib.hid hzf3
  replace zb3 := Lib.hid zb3
  replace hA3 := Lib.hid hA3
  clear hsn hC3 hT2 c2 zb2
  unfold ptrV at hln
  go_wp2_with fail
  refine hln.mono ?_
  rintro e w4 ⟨rfl, hL4, hB4, hs4⟩
  obtain ⟨lb, hlb⟩ : ∃ lb, w3.heap.size = lb := ⟨_, rfl⟩
  rw [hlb] at hL4 ⊢
  have g4 : w3.grownBy w4 none := ⟨hB4.os, hB4.tape, hB4.output, hB4.size, fun b hb _ => hB4.block b hb⟩
  have hT4 : TreeF w4 _ fb 12 100 [(1, root0)] := (hT3.out.keep hB4.size fun g hg => hB4.block g (hT3.out.lt hg)).shrink
  have hA4 := (hA3.out.keep hB4.size fun g hg => hB4.block g (hA3.out.lt hg)).shrink
  have zb4 : Blk w4 z _ _ := (hB4.block z zb3.out.lt).trans zb3.out
  have tc0 : Chg Ft (fun g => Ft g ∧ ¬ LogB w4 g) w3 w4 := (Chg.of_grown g4 Ft).mono (fun _ h => h) fun b _ hb => .inl hb.1
  obtain ⟨Ft4, hFt4⟩ : ∃ F : Nat → Prop, F = fun g => Ft g ∧ ¬ LogB w4 g := ⟨_, rfl⟩
  obtain ⟨Fp4, hFp4⟩ : ∃ F : Nat → Prop, F = fun g => Fp g ∧ ¬ LogB w4 g := ⟨_, rfl⟩
  rw [← hFt4] at hT4 tc0
  rw [← hFp4] at hA4
  have nl4 : ∀ g, Ft4 g → ¬ LogB w4 g := fun g hg => by rw [hFt4] at hg; exact hg.2
  have nlp4 : ∀ g, Fp4 g → ¬ LogB w4 g := fun g hg => by rw [hFp4] at hg; exact hg.2
  have hd4 : ∀ g, Fp4 g → ¬ Ft4 g := fun g hg hf => by rw [hFp4] at hg; rw [hFt4] at hf; exact hd3.out g hg.1 hf.1
  have c4 : Chg (fun _ => False) (fun g => Ft4 g ∨ Fp4 g) w w4 := (c3.out.trans (Chg.of_grown g4 _)).mono (fun _ h => h) fun b _ hb => .inl (by
    rcases hb with hb | hb
    · rw [hFt4] at hb; exact .inl hb.1
    · rw [hFp4] at hb; exact .inr hb.1)
  have hzf4 : ¬ (Ft4 z ∨ Fp4 z) := fun h => by
    rcases h with h | h
    · rw [hFt4] at h; exact hzf2.out h.1
    · rw [hFp4] at h; exact hzf3.out h.1
  have tc : Chg Ft4 Ft4 w4 w4 := Chg.refl _ _
  replace hT4 := Lib.hid hT4
  replace hA4 := Lib.hid hA4
  replace hL4 := Lib.hid hL4
  replace zb4 := Lib.hid zb4
  replace nl4 := Lib.hid nl4
  replace nlp4 := Lib.hid nlp4
  replace hd4 := Lib.hid hd4
  replace c4 := Lib.hid c4
  replace hzf4 := Lib.hid hzf4
  replace tc := Lib.hid tc
  clear hT3 hd3 c3 hzf3 zb3 hA3 hln hB4 g4 tc0 hFt4 hFp4 hlb hs4 hzf2 hft2
  have hmk := make_dir hT4.out (x := root0) (l := []) rfl rfl rfl rfl 100 (by decide) (by decide) (by decide) (by decide) 2 (by decide) (by decide) rfl (fun j h1 h2 => by obtain rfl : j = 1 := (by omega); exact ⟨_, rfl⟩) (by decide)
  rw [show made [(1, root0)] root0 [] (nm1 100) 2 1 [] = ndsA9 from made9_1] at hmk
  replace hmk := Lib.hid hmk
  go_wp2_with fail
  refine hmk.out.mono ?_
  rintro e w5 ⟨rfl, Fq, hTq, hCq⟩
  obtain ⟨Ft5, hT5, hC5, hL5, nl5⟩ := tree_step hL4.out nl4.out hTq hCq
  replace tc := Lib.hid (tc.out.trans hC5)
  replace hT5 := Lib.hid hT5
  replace hL5 := Lib.hid hL5
  replace nl5 := Lib.hid nl5
  clear hmk hT4 hL4 nl4 hTq hCq hC5
  have hmk := make_leaf hT5.out (x := (rootN nlA)) (l := nlA) rfl rfl rfl rfl 97 (by decide) (by decide) (by decide) (by decide) 3 (by decide) (by decide) rfl (fun j h1 h2 => by rcases (by omega : j = 1 ∨ j = 2) with rfl | rfl <;> exact ⟨_, rfl⟩) (by decide) 2 (by decide) ⟨#[120, 121, 122]⟩ (by decide) (by decide)
  rw [made9_2] at hmk
  replace hmk := Lib.hid hmk
  go_wp2_with fail
  refine hmk.out.mono ?_
  rintro e w6 ⟨rfl, Fq, hTq, hCq⟩
  obtain ⟨Ft6, hT6, hC6, hL6, nl6⟩ := tree_step hL5.out nl5.out hTq hCq
  replace tc := Lib.hid (tc.out.trans hC6)
  replace hT6 := Lib.hid hT6
  replace hL6 := Lib.hid hL6
  replace nl6 := Lib.hid nl6
  clear hmk hT5 hL5 nl5 hTq hCq hC6
  have hmk := make_leaf hT6.out (x := (rootN nlB)) (l := nlB) rfl rfl rfl rfl 108 (by decide) (by decide) (by decide) (by decide) 4 (by decide) (by decide) rfl (fun j h1 h2 => by rcases (by omega : j = 1 ∨ j = 2 ∨ j = 3) with rfl | rfl | rfl <;> exact ⟨_, rfl⟩) (by decide) 3 (by decide) ⟨#[100, 47, 98]⟩ (by decide) (by decide)
  rw [made9_3] at hmk
  replace hmk := Lib.hid hmk
  go_wp2_with fail
  refine hmk.out.mono ?_
  rintro e w7 ⟨rfl, Fq, hTq, hCq⟩
  obtain ⟨Ft7, hT7, hC7, hL7, nl7⟩ := tree_step hL6.out nl6.out hTq hCq
  replace tc := Lib.hid (tc.out.trans hC7)
  replace hT7 := Lib.hid hT7
  replace hL7 := Lib.hid hL7
  replace nl7 := Lib.hid nl7
  clear hmk hT6 hL6 nl6 hTq hCq hC7
  have hA7 := hA4.out.keep tc.out.size fun g hg => tc.out.block g (hA4.out.lt hg) (hd4.out g hg)
  have hd7 : ∀ g, Ft7 g → ¬ Fp4 g := fun g hg hp => tc.out.foot g (hA4.out.lt hp) (hd4.out g hp) hg
  have c7 : Chg (fun _ => False) (fun g => Ft7 g ∨ Fp4 g) w w7 := c4.out.trans (tc.out.wide Fp4)
  have hzf7 : ¬ (Ft7 z ∨ Fp4 z) := fun h => h.elim (fun h => tc.out.foot z zb4.out.lt (fun h => hzf4.out (.inl h)) h) fun h => hzf4.out (.inr h)
  have zb7 : Blk w7 z _ _ := (tc.out.block z zb4.out.lt fun h => hzf4.out (.inl h)).trans zb4.out
  have nlp7 : ∀ g, Fp4 g → ¬ LogB w7 g := fun g hg hq => nlp4.out g hg ((logB_congr (tc.out.block g (hA4.out.lt hg) (hd4.out g hg))).1 hq)
  have hzl7 := zb7.lt
  have htn := tab_New w7 fb plb
  unfold ptrV at htn
  replace hA7 := Lib.hid hA7
  replace hd7 := Lib.hid hd7
  replace c7 := Lib.hid c7
  replace hzf7 := Lib.hid hzf7
  replace zb7 := Lib.hid zb7
  replace nlp7 := Lib.hid nlp7
  clear hA4 hd4 c4 hzf4 zb4 tc nlp4
  go_wp2_with fail
  refine htn.mono ?_
  rintro e w8 ⟨tb, rfl, Fh, hH8, hC8⟩
  have hR8 : SysR w8 Ft7 Fp4 Fh (c9 fb plb tb) ⟨ndsC9, [], 0, [], [], 0, []⟩ := ⟨hT7.out.keep hC8.size fun g hg => hC8.block g (hT7.out.lt hg) nofun, hA7.out.keep hC8.size fun g hg => hC8.block g (hA7.out.lt hg) nofun, hH8, hd7.out, fun g hg hh => hC8.foot g (hT7.out.lt hg) nofun hh, fun g hg hh => hC8.foot g (hA7.out.lt hg) nofun hh⟩
  have c8 : Chg (fun _ => False) (foot Ft7 Fp4 Fh) w w8 := (c7.out.trans (hC8.fresh (fun g => Ft7 g ∨ Fp4 g))).mono (fun _ h => h) fun b _ hb => .inl (by
    rcases hb with hb | hb | hb
    · exact .inl (.inl hb)
    · exact .inl (.inr hb)
    · exact .inr hb)
  have hzf8 : ¬ foot Ft7 Fp4 Fh z := fun h => by
    rcases h with h | h | h
    · exact hzf7.out (.inl h)
    · exact hzf7.out (.inr h)
    · exact hC8.foot z hzl7 nofun h
  have zb8 : Blk w8 z [.pointer none, .pointer none, .pointer none, .pointer none, .pointer none] 48 := (hC8.block z hzl7 nofun).trans zb7.out
  have hL8 := hL7.out.keep (KeepL.of_chg hC8 nofun)
  have hS8 : Sys w8 (foot Ft7 Fp4 Fh) (c9 fb plb tb) ⟨ndsC9, [], 0, [], [], 0, []⟩ := ⟨Ft7, Fp4, Fh, hR8, fun _ => Iff.rfl⟩
  have hSL : SL w8 z _ (c9 fb plb tb) lb most 4 ⟨ndsC9, [], 0, [], [], 0, []⟩ := ⟨hS8.shrink, hL8, fun g hg => hg.2, fun g hg => Classical.byContradiction fun hlt => c8.foot g (by rw [hz.out]; omega) nofun hg.1, by have := c8.size; rw [hz.out] at this; exact this⟩
  have c8' : Chg (fun _ => False) (fun g => foot Ft7 Fp4 Fh g ∧ ¬ LogB w8 g) w w8 := c8.mono (fun _ h => h) fun b _ hb => .inl hb.1
  have kz : Kp w8 (fun g => foot Ft7 Fp4 Fh g ∧ ¬ LogB w8 g) z [.pointer none, .pointer none, .pointer none, .pointer none, .pointer none] 48 := ⟨zb8, fun h => hzf8 h.1⟩
  obtain ⟨F8, hF8⟩ : ∃ F : Nat → Prop, F = fun g => foot Ft7 Fp4 Fh g ∧ ¬ LogB w8 g := ⟨_, rfl⟩
  rw [← hF8] at hSL c8' kz
  replace hSL := Lib.hid hSL
  replace kz := Lib.hid kz
  replace cc := Lib.hid c8'
  clear htn hC8 hH8 hA7 hT7 hd7 c7 hzf7 zb7 hL7 nl7 nlp7 hR8 c8 c8' hzf8 zb8 hL8 hS8 hF8
  have hop : Calls Tryz.prog 49 #[.pointer (some ⟨tb, 0, none⟩), .string ⟨#[104, 101, 108, 108, 111]⟩] w8 fun e w' => e = .returned (.tuple #[.int .i64 1, .int .i64 0]) ∧ ∃ F', Sys w' F' (c9 fb plb tb) ⟨ndsC9, [], 0, [(1, ⟨1, .text [104, 101, 108, 108, 111] 0⟩)], [], 1, []⟩ ∧ Chg F8 F' w8 w' := sys_Text hSL.out.sys rfl (by decide) ⟨#[104, 101, 108, 108, 111]⟩ (by decide)
  replace hop := Lib.hid hop
  go_wp2_with fail
  refine hop.out.mono ?_
  rintro e w9 ⟨rfl, Fq, hS', cS⟩
  obtain ⟨F9, hSL9, hC9⟩ := hSL.out.step hS' cS
  replace kz := Lib.hid (kz.out.chg hC9)
  replace cc := Lib.hid (cc.out.trans hC9)
  replace hSL := Lib.hid hSL9
  clear hop hS' cS hSL9 hC9
  have hop : Calls Tryz.prog 50 #[.pointer (some ⟨tb, 0, none⟩), .int .i64 50] w9 fun e w' => e = .returned (.tuple #[.int .i64 2, .int .i64 0]) ∧ ∃ F', Sys w' F' (c9 fb plb tb) ⟨ndsC9, [], 0, [(1, ⟨1, .text [104, 101, 108, 108, 111] 0⟩), (2, ⟨1, .sink [] 50⟩)], [], 2, []⟩ ∧ Chg F9 F' w9 w' := sys_Sink hSL.out.sys rfl (by decide) 50 (by decide)
  replace hop := Lib.hid hop
  go_wp2_with fail
  refine hop.out.mono ?_
  rintro e w10 ⟨rfl, Fq, hS', cS⟩
  obtain ⟨F10, hSL10, hC10⟩ := hSL.out.step hS' cS
  replace kz := Lib.hid (kz.out.chg hC10)
  replace cc := Lib.hid (cc.out.trans hC10)
  replace hSL := Lib.hid hSL10
  clear hop hS' cS hSL10 hC10
  have hop : Calls Tryz.prog 38 #[.pointer (some ⟨tb, 0, none⟩)] w10 fun e w' => e = .returned (.tuple #[.int .i64 3, .int .i64 4, .int .i64 0]) ∧ ∃ F' ppb bb, Sys w' F' (c9 fb plb tb) ⟨ndsC9, [(bb, some ⟨[], 0, 3, .slice none 0 0, .slice none 0 0, []⟩)], 0, hs9, [(ppb, bb, 2)], 4, []⟩ ∧ Chg F10 F' w10 w' := sys_Pipe hSL.out.sys rfl (by decide) (by decide)
  replace hop := Lib.hid hop
  go_wp2_with fail
  refine hop.out.mono ?_
  rintro e w11 ⟨rfl, Fq, ppb, bb, hS', cS⟩
  obtain ⟨F11, hSL11, hC11⟩ := hSL.out.step hS' cS
  replace kz := Lib.hid (kz.out.chg hC11)
  replace cc := Lib.hid (cc.out.trans hC11)
  replace hSL := Lib.hid hSL11
  clear hop hS' cS hSL11 hC11
  have hpn := procNew_any hSL.out (x := rootN nlC) rfl (by decide)
  unfold ptrV at hpn
  replace hpn := Lib.hid hpn
  go_wp2_with fail
  refine hpn.out.mono ?_
  rintro e w12 ⟨pb, rfl, F12, hP, hC12⟩
  have kz12 := kz.out.chg hC12
  have cc12 := cc.out.trans hC12
  have hne : pb ≠ z := fun e => by
    have h1 := hP.prc
    rw [e] at h1
    exact h1.ne kz12.1 (by decide) rfl
  have z0 := kz12.1.cell (i := 0) rfl
  have z1 := kz12.1.cell (i := 1) rfl
  have z2 := kz12.1.cell (i := 2) rfl
  have z3 := kz12.1.cell (i := 3) rfl
  have z4 := kz12.1.cell (i := 4) rfl
  have f0 := kz12.1.frozen 0
  have f1 := kz12.1.frozen 1
  have f2 := kz12.1.frozen 2
  have f3 := kz12.1.frozen 3
  have f4 := kz12.1.frozen 4
  have hzl := kz12.1.lt
  replace hP := Lib.hid hP
  replace kz := Lib.hid kz12
  replace cc := Lib.hid cc12
  clear hpn hSL kz12 cc12 hC12
  go_wp2
  have b9 := ((((kz.out.1.set 0 (ptrV fb)).set 1 (ptrV plb)).set 2 (ptrV tb)).set 3 (ptrV lb)).set 4 (ptrV pb)
  have c9' : Chg (fun g => g = z) (fun g => g = z) w12 (((((w12.setCell ⟨z, 0, none⟩ (ptrV fb)).setCell ⟨z, 1, none⟩ (ptrV plb)).setCell ⟨z, 2, none⟩ (ptrV tb)).setCell ⟨z, 3, none⟩ (ptrV lb)).setCell ⟨z, 4, none⟩ (ptrV pb)) := ((((Chg.set (F := fun g => g = z) rfl 0 _).trans (Chg.set (F := fun g => g = z) rfl 1 _)).trans (Chg.set (F := fun g => g = z) rfl 2 _)).trans (Chg.set (F := fun g => g = z) rfl 3 _)).trans (Chg.set (F := fun g => g = z) rfl 4 _)
  unfold ptrV at b9 c9'
  generalize (((((w12.setCell ⟨z, 0, none⟩ (.pointer (some ⟨fb, 0, none⟩))).setCell ⟨z, 1, none⟩ (.pointer (some ⟨plb, 0, none⟩))).setCell ⟨z, 2, none⟩ (.pointer (some ⟨tb, 0, none⟩))).setCell ⟨z, 3, none⟩ (.pointer (some ⟨lb, 0, none⟩))).setCell ⟨z, 4, none⟩ (.pointer (some ⟨pb, 0, none⟩))) = w13 at b9 c9' ⊢
  have hP13 := hP.out.far c9' kz.out.1 (by unfold LogT; decide) kz.out.2 (Ne.symm hne) (fun bx e C' t' hb ht' => (by
    subst e
    rcases ht' with rfl | rfl | rfl <;> exact hb.ne kz.out.1 (by decide) rfl))
  have c10 : Chg (fun _ => False) F12 w w13 := by
    have hzw := hz.out
    exact ⟨c9'.os.trans cc.out.os, c9'.tape.trans cc.out.tape, c9'.output.trans cc.out.output, Nat.le_trans cc.out.size c9'.size, fun b hb hf => (c9'.block b (Nat.lt_of_lt_of_le hb cc.out.size) (by omega)).trans (cc.out.block b hb hf), cc.out.foot⟩
  have e0 := b9.cell (i := 0) rfl
  have e1 := b9.cell (i := 1) rfl
  have e2 := b9.cell (i := 2) rfl
  have e3 := b9.cell (i := 3) rfl
  have e4 := b9.cell (i := 4) rfl
  rw [← hz.out] at hP13
  exact bodyPost_ret (v := .tuple #[.agg #[ptrV fb, ptrV plb, ptrV tb, ptrV lb, ptrV pb], .bool true]) (by simp [results, Tryz.results17, go_sem, e0, e1, e2, e3, e4, ptrV]) rfl ⟨fb, plb, tb, lb, pb, bb, ppb, rfl, F12, hP13, c10⟩
end Go.Proofs.YtglcfbefpnphaaaGreatDoor
/-
  What stays so of a tree stays so: holds and bytes, a new file, a name that goes, a node that goes. Conditions: each theorem's own.
-/
namespace Go.Proofs.YtglcfbefpnphaaaGreatDoor
open Go Go.RowKit

def madeA (nds : Nds) (d : Int) (x : Pn) (nm : ByteArray) (m : Nat) : Nds :=
  upd (upd (nds ++ [((m : Int), ⟨2, 0, 0, 0, [], none, ⟨#[]⟩⟩)]) d { x with nms := some (nmsOf x ++ [(nm, m)]) }) (m : Int) ⟨2, 1, 0, 0, [], none, ⟨#[]⟩⟩
def unnamed (nds : Nds) (d : Int) (x : Pn) (nm : ByteArray) (b : Int) (y : Pn) : Nds :=
  upd (upd nds d { x with nms := some ((nmsOf x).filter fun p => p.1 ≠ nm) }) b { y with named := y.named - 1, par := 0, name := ⟨#[]⟩ }
def removed (nds : Nds) (d : Int) (x : Pn) (nm : ByteArray) (b : Int) (y : Pn) : Nds :=
  if 1 < y.named ∨ 0 < y.holds then unnamed nds d x nm b y else away (unnamed nds d x nm b y) b
abbrev Apart {α : Type} (l : List (Int × α)) : Prop := l.Pairwise (fun p q => p.1 ≠ q.1)
abbrev ApartN (l : List (ByteArray × Nat)) : Prop := l.Pairwise (fun p q => p.1 ≠ q.1)

end Go.Proofs.YtglcfbefpnphaaaGreatDoor
/-
  Open of a new file of one byte's name in the root, for writing; a call of tree, pool or table as a step. Conditions: the name is not there; there is room.
-/
namespace Go.Proofs.YtglcfbefpnphaaaGreatDoor
open Go Go.RowKit Go.ChangeMaps

section
variable {B pb lb most nest : Nat} {F : Nat → Prop} {w : World} {c : Sy} {s : St} {ps : List Pt} {ns : List (Nat × Pt)} {mk : List Nat}
theorem pr_sys1 (h : PrR w B F c pb lb most nest s ps ns mk) {f : Nat} {args : Array Value} {P : Ending → Prop} {s' : St} (hc : Calls Tryz.prog f args w fun e w' => P e ∧ ∃ F', Sys w' F' c s' ∧ Chg F F' w w') :
    Calls Tryz.prog f args w fun e w' => P e ∧ ∃ F', PrR w' B F' c pb lb most nest s' ps ns mk ∧ PCh B F F' pb w w' := by
  refine hc.mono ?_
  rintro e w' ⟨hP, F', h1, h2⟩
  obtain ⟨F'', h3, h4⟩ := h.sysStep h1 h2
  exact ⟨hP, F'', h3, h4⟩
theorem pr_walk (h : PrR w B F c pb lb most nest s ps ns mk) (T : TOk s.nds) (a : Int) (t : ByteArray) (ht : t.size ≤ 1000000) (fo : Bool) :
    Calls Tryz.prog 69 #[.pointer (some ⟨c.fb, 0, none⟩), .int .i64 a, .string t, .bool fo] w fun e w' => e = .returned (.tuple #[.int .i64 (WalkQ s.nds a (tl t) fo).1, .int .i64 (WalkQ s.nds a (tl t) fo).2]) ∧ w.grownBy w' none := by
  obtain ⟨Ft, Fp, Fh, hR, _⟩ := h.sys
  obtain ⟨lab, mb, mem, hT, _⟩ := hR.tree
  exact Walk_any hT T fo a t ht
set_option maxHeartbeats 1000000 in
theorem open_one (h : PrR w B F c pb lb most nest s ps ns mk) (T : TOk s.nds) {x : Pn} {l : List (ByteArray × Nat)} (hx : look s.nds 1 = some x) (hxk : x.kind = 1) (hxp : x.par = 1) (hxn : x.nms = some l) (ch : UInt8) (h0 : ch ≠ 0) (h46 : ch ≠ 46) (h47 : ch ≠ 47) (hl : look l (nm1 ch) = none)
    (hWk : WalkQ s.nds 1 [ch] true = (0, 10)) (m : Nat) (h1m : 2 ≤ m) (hmm : m ≤ 1000000) (hm : look s.nds (m : Int) = none) (hall : ∀ j : Nat, 1 ≤ j → j < m → ∃ x, look s.nds (j : Int) = some x) (hmany : s.nds.length < c.most) (hroom : usedN s.nds ≤ c.room)
    {dn : Nat} (hd : ps[16]? = some ⟨1, dn⟩) {p : Pt} (hp : ps[1]? = some p) (hpn : p.n = mk.length) (hpv : p.v = 0) (hxs : s.xs = []) (htop : s.top < 100000)
    {nds1 : Nds} (hn1 : made s.nds x l (nm1 ch) m 2 [] = nds1) (hy : look nds1 (m : Int) = some (leafN 2 [])) (hu : usedN (upd nds1 (m : Int) { leafN 2 [] with holds := 1 }) ≤ 1000000) (hy2 : look (upd nds1 (m : Int) { leafN 2 [] with holds := 1 }) (m : Int) = some { leafN 2 [] with holds := 1 }) :
    Calls Tryz.prog 67 #[ptrV pb, .int .i64 1, .string (nm1 ch), .int .i64 2] w fun e w' => e = .returned (.int .i64 0) ∧ ∃ F', PrR w' B F' c pb lb most nest
      { s with nds := upd (upd nds1 (m : Int) { leafN 2 [] with holds := 1 }) (m : Int) { leafN 2 [] with holds := 1 }, hs := s.hs ++ [(((s.top + 1 : Nat) : Int), ⟨1, .file (m : Int) 0 false true false⟩)], top := s.top + 1, xs := [] } (ps.set 1 ⟨((s.top + 1 : Nat) : Int), p.n⟩) ns mk ∧ PCh B F F' pb w w' := by
  obtain ⟨S3, hS3⟩ : ∃ S3 : St, { s with nds := upd (upd nds1 (m : Int) { leafN 2 [] with holds := 1 }) (m : Int) { leafN 2 [] with holds := 1 }, hs := s.hs ++ [(((s.top + 1 : Nat) : Int), ⟨1, .file (m : Int) 0 false true false⟩)], top := s.top + 1, xs := [] } = S3 := ⟨_, rfl⟩
  rw [hS3]
  have hO := openFile_any (pb := pb) (lb := lb) (ps := ps) h.prc hd (nm1 ch) 2 (by decide) (by decide) 0 10
    (fun n er w' => er = 0 ∧ n = (m : Int) ∧ ∃ F', PrR w' B F' c pb lb most nest { s with nds := nds1 } ps ns mk ∧ PCh B F F' pb w w')
    (fun n id er w' => n = (m : Int) ∧ er = 0 ∧ id = ((s.top + 1 : Nat) : Int) ∧ ∃ F', PrR w' B F' c pb lb most nest { s with nds := upd nds1 (m : Int) { leafN 2 [] with holds := 1 }, hs := s.hs ++ [(((s.top + 1 : Nat) : Int), ⟨1, .file (m : Int) 0 false true false⟩)], top := s.top + 1, xs := [] } ps ns mk ∧ PCh B F F' pb w w')
    (fun id er w' => er = 0 ∧ id = ((s.top + 1 : Nat) : Int) ∧ ∃ F', PrR w' B F' c pb lb most nest S3 ps ns mk ∧ PCh B F F' pb w w')
    (fun w1 g1 => by
      have hw := pr_walk (h.grown g1).1 T 1 (nm1 ch) (show (1 : Nat) ≤ 1000000 by decide) true
      rw [show tl (nm1 ch) = [ch] from rfl, hWk] at hw
      exact hw.mono fun e w' ⟨e1, e2⟩ => ⟨e1, grownBy_tr g1 e2⟩)
    (fun w' _ hn => absurd ⟨rfl, by decide⟩ hn)
    (fun _ _ w1 g1 => by
      obtain ⟨q1, q2⟩ := h.grown g1
      have hmk := pr_sys1 q1 (P := fun e => e = .returned (.tuple #[.int .i64 (m : Int), .int .i64 0])) (s' := { s with nds := nds1 }) (by
        have := sys_tree q1.sys (fun Ft hT => make_leaf hT hx hxk hxp hxn ch h0 h46 h47 hl m h1m hmm hm hall hmany 2 (.inl rfl) ⟨#[]⟩ (by decide) (by show usedN s.nds + 0 ≤ _; omega))
        rw [show made s.nds x l (nm1 ch) m 2 (tl ⟨#[]⟩) = nds1 from hn1] at this
        exact this)
      exact hmk.mono fun e w' ⟨e1, F', e2, e3⟩ => ⟨_, _, e1, rfl, rfl, F', e2, q2.trans e3⟩)
    (fun n er w1 ⟨_, _, F', q, _⟩ => q.prc)
    (fun n er w1 ⟨q, _⟩ hne => absurd q hne)
    (fun n w1 w2 ⟨_, hn, F1, q1, q2⟩ g => by
      subst hn
      obtain ⟨q3, q4⟩ := q1.grown g
      have hf := pr_sys1 q3 (sys_File_w q3.sys hxs htop (n := (m : Int)) hy rfl (by decide) (by decide) false)
      exact hf.mono fun e w' ⟨e1, F', e2, e3⟩ => ⟨_, _, e1, rfl, rfl, rfl, F', e2, (q2.trans q4).trans e3⟩)
    (fun n id er w1 ⟨_, _, _, F', q, _⟩ => q.prc)
    (fun _ n id w1 ⟨hn, _, hid, F1, q1, q2⟩ => by
      subst hn
      have hf := pr_sys1 q1 (sys_tree q1.sys (fun Ft hT => node_cut0 hT hy2 rfl hu))
      exact hf.mono fun e w' ⟨e1, F', e2, e3⟩ => ⟨⟨_, e1⟩, rfl, hid, F', hS3 ▸ e2, q2.trans e3⟩)
    (fun n id er w1 ⟨_, he, _⟩ hc => absurd he (hc.resolve_right (by decide)))
  refine (POpen_any h.prc (i := 1) (by decide) (nm1 ch) 2 (by decide) (by decide) _ (fun er w' => er = 0 ∧ ∃ F', PrR w' B F' c pb lb most nest
      S3 (ps.set 1 ⟨((s.top + 1 : Nat) : Int), p.n⟩) ns mk ∧ PCh B F F' pb w w') hO (fun id er w1 ⟨q, _⟩ hne => absurd q hne) (fun id w1 ⟨_, hid, F1, q1, q2⟩ => ⟨q1.prc.lt, ?_⟩)).mono ?_
  · subst hid
    refine (change_now_fd q1 hp hpn _ (fun w' => ∃ F', PrR w' B F' c pb lb most nest S3 (ps.set 1 ⟨((s.top + 1 : Nat) : Int), p.n⟩) ns mk ∧ PCh B F F' pb w w') (fun w2 q3 q4 => ?_)).mono ?_
    · rw [hpv]
      refine (unref_zero _ w2).mono ?_
      rintro e w' ⟨rfl, hw⟩
      obtain rfl := hw.symm
      exact ⟨rfl, _, q3, q2.trans q4⟩
    · rintro e w' ⟨rfl, q⟩
      exact ⟨_, rfl, rfl, q⟩
  · rintro e w' ⟨er, rfl, rfl, q⟩
    exact ⟨rfl, q⟩
end
end Go.Proofs.YtglcfbefpnphaaaGreatDoor
/-
  Undo of a log whose notes are a process': each part that was noted has again what it had, and what it had now is given up. Conditions: giving up is told for each note.
-/
namespace Go.Proofs.YtglcfbefpnphaaaGreatDoor
open Go Go.RowKit Go.ChangeMaps

section
variable {B pb lb most nest : Nat} {F F' : Nat → Prop} {w w' : World} {c : Sy} {s s' : St} {ps : List Pt} {ns : List (Nat × Pt)} {mk : List Nat}
theorem PrS.sysStep (h : PrS w B F c pb lb s ps) (hs : Sys w' F' c s') (k : Chg F F' w w') : ∃ F'', PrS w' B F'' c pb lb s' ps ∧ PCh B F F'' pb w w' ∧ KeepL w w' := by
  have k2 : Chg F (fun g => F' g ∧ ¬ LogB w' g) w w' := k.mono (fun _ h => h) fun b _ hb => .inl hb.1
  have hp := PCh.of_chg k2 h.hF h.hB pb
  refine ⟨_, ⟨hs.shrink, (k.block pb h.prc.lt h.npb).trans h.prc, hp.foot pb h.prc.lt h.npb, h.len, fun g hg => hg.2, fun g hg => ?_, h.hpb, Nat.le_trans h.hB k.size⟩, hp, ⟨k.size, fun b cur t f hb ht => k.block b (Array.getElem?_eq_some_iff.1 hb).1 fun hf => h.nl b hf ⟨cur, t, f, hb, ht⟩⟩⟩
  by_cases hlt : g < w.heap.size
  · exact h.hF g (Classical.byContradiction fun hf => k.foot g hlt hf hg.1)
  · have := h.hB; omega
theorem PrS.logStep (h : PrS w B F c pb lb s ps) (k : Fr B LogT (fun _ => False) w w') : PrS w' B F c pb lb s ps ∧ PCh B F F pb w w' := by
  have hp := PCh.of_fr k F h.hB pb
  have hkeep : ∀ g, F g → w'.heap[g]? = w.heap[g]? := fun g hg => k.keep g (h.sys.lt hg) (.inr ⟨id, fun cur t f hc ht => h.nl g hg ⟨cur, t, f, hc, ht⟩⟩)
  exact ⟨⟨h.sys.keep k.size hkeep, h.prc.fr k nl_proc id, h.npb, h.len, fun g hg hq => h.nl g hg ((logB_congr (hkeep g hg)).1 hq), h.hF, h.hpb, Nat.le_trans h.hB k.size⟩, hp⟩
theorem enters_back : Enters Tryz.prog 130 := enters_of Tryz.func130 (by kernel_rfl) rfl
/-- What stands while notes are done. -/
def UnP (w0 : World) (B : Nat) (F0 : Nat → Prop) (c : Sy) (pb lb : Nat) (fs : List Value) (ns : List (Nat × Pt)) (Q : Nat → St → List Pt → Prop) (j : Nat) (W : World) : Prop :=
  ∃ F s ps, PrS W B F c pb lb s ps ∧ PCh B F0 F pb w0 W ∧ (∀ (i : Nat) n, i < j → ns[i]? = some n → ∃ fv, fs[i]? = some fv ∧ NoteAt W F pb fv n) ∧ Q j s ps
theorem undo_gen {m : Nat} (h : PrR w B F c pb lb most nest s ps ns (mk ++ [m])) (hm : m ≤ ns.length) (Q : Nat → St → List Pt → Prop) (h0 : Q ns.length s ps)
    (step : ∀ j W F' s' ps' i q p, ns[j]? = some (i, q) → m ≤ j → PrS W B F' c pb lb s' (ps'.set i q) → Q (j + 1) s' ps' → ps'[i]? = some p →
      (i < 16 → (p.v = 0 → Q j s' (ps'.set i q)) ∧ (p.v ≠ 0 → Calls Tryz.prog 37 #[ptrV c.tb, .int .i64 p.v] W fun e W' => (∃ er, e = .returned (.int .i64 er)) ∧ ∃ F2 s2, Sys W' F2 c s2 ∧ Chg F' F2 W W' ∧ Q j s2 (ps'.set i q))) ∧
      (i = 16 → Calls Tryz.prog 151 #[ptrV c.fb, .int .i64 p.v] W fun e W' => (∃ er, e = .returned (.int .i64 er)) ∧ ∃ F2 s2, Sys W' F2 c s2 ∧ Chg F' F2 W W' ∧ Q j s2 (ps'.set i q)) ∧
      (i = 17 → Q j s' (ps'.set i q))) :
    Calls Tryz.prog 81 #[ptrV lb] w fun e w' => e = .returned (.int .i64 0) ∧ ∃ F' s' ps', PrR w' B F' c pb lb most nest s' ps' (ns.take m) mk ∧ PCh B F F' pb w w' ∧ Q m s' ps' := by
  obtain ⟨ms, fs, h1, h2, h3, h4, h5⟩ := h.log
  obtain ⟨ms', mm, rfl⟩ : ∃ ms' mm, ms = ms' ++ [mm] := by
    rcases List.eq_nil_or_concat ms with e | ⟨a, b, e⟩
    · subst e
      have := congrArg List.length h3
      simp at this
    · exact ⟨a, b, by simpa using e⟩
  rw [List.map_append] at h3
  obtain ⟨h3a, h3b⟩ := List.append_inj' h3 rfl
  have hmn : mm.notes = m := by simpa using h3b
  have hmc : mm.count = m := (h4 mm (by simp)).trans hmn
  refine (LogUndo_any (m := mm) h1 (by omega) (UnP w B F c pb lb fs ns Q) ⟨F, s, ps, h.less, PCh.refl B F pb w, fun i n _ hn => h5 i n hn, by rw [h2]; exact h0⟩ ?_ ?_).mono ?_
  · rintro j W W' ⟨F1, s1, ps1, q1, q2, q3, q4⟩ hfr
    obtain ⟨q5, q6⟩ := q1.logStep hfr
    exact ⟨F1, s1, ps1, q5, q2.trans q6, fun i n hi hn => by obtain ⟨fv, e1, e2⟩ := q3 i n hi hn; exact ⟨fv, e1, e2.ch q6⟩, q4⟩
  · rintro j W hj hmj ⟨F1, s1, ps1, q1, q2, q3, q4⟩
    have hjn : j < ns.length := by omega
    obtain ⟨⟨i, q⟩, hn⟩ : ∃ n, ns[j]? = some n := ⟨_, List.getElem?_eq_getElem hjn⟩
    obtain ⟨fv, e1, hi18, bx, bw, bf, e2, kx, kw, kf⟩ := q3 j _ (Nat.lt_succ_self j) hn
    rw [List.getElem?_eq_getElem hj] at e1
    obtain rfl := Option.some.inj e1
    simp only at hi18 kx kw kf
    obtain ⟨p, hp⟩ : ∃ p, ps1[i]? = some p := ⟨_, List.getElem?_eq_getElem (by rw [q1.len]; omega)⟩
    have hst := fun W1 F' => step j W1 F' s1 ps1 i q p hn (by omega)
    refine ⟨_, _, e2, enters_back, ?_⟩
    -- what stands behind the store, and behind what gives up
    have fin : ∀ W1 W' F2 s2, PrS W1 B F1 c pb lb s1 (ps1.set i q) → PCh B F1 F1 pb W W1 → KeepL W W1 → Sys W' F2 c s2 → Chg F1 F2 W1 W' → Q j s2 (ps1.set i q) → UnP w B F c pb lb fs ns Q j W' ∧ KeepL W W' := fun W1 W' F2 s2 r1 r2 r3 r4 r5 r6 => by
      obtain ⟨F3, t1, t2, t3⟩ := r1.sysStep r4 r5
      have t4 := r2.trans t2
      exact ⟨⟨F3, s2, _, t1, q2.trans t4, fun k n hk hn => by obtain ⟨fv, u1, u2⟩ := q3 k n (by omega) hn; exact ⟨fv, u1, u2.ch t4⟩, r6⟩,
        ⟨Nat.le_trans r3.size t3.size, fun b cur t f hb ht => (t3.keep b cur t f ((r3.keep b cur t f hb ht).trans hb) ht).trans (r3.keep b cur t f hb ht)⟩⟩
    rcases (by omega : i < 16 ∨ i = 16 ∨ i = 17) with hi | hi | hi
    · refine back_fd q1 hi hp kx kw kf _ fun W1 r1 r2 r3 => ?_
      obtain ⟨z1, z2⟩ := (hst W1 F1 r1 q4 hp).1 hi
      by_cases hv : p.v = 0
      · rw [hv]
        refine (unref_zero _ W1).mono ?_
        rintro e W' ⟨rfl, hw⟩
        obtain rfl := hw.symm
        exact ⟨rfl, fin _ _ _ _ r1 r2 r3 r1.sys (Chg.refl _ _) (z1 hv)⟩
      · refine unref_call r1.prc p.v hv _ ?_
        refine (z2 hv).mono ?_
        rintro e W' ⟨he, F2, s2, t1, t2, t3⟩
        exact ⟨he, fin _ _ _ _ r1 r2 r3 t1 t2 t3⟩
    · refine back_dir q1 hi hp kx kw kf _ fun W1 r1 r2 r3 => ?_
      refine pdrop_call r1.prc p.v _ ?_
      refine ((hst W1 F1 r1 q4 hp).2.1 hi).mono ?_
      rintro e W' ⟨he, F2, s2, t1, t2, t3⟩
      exact ⟨he, fin _ _ _ _ r1 r2 r3 t1 t2 t3⟩
    · refine back_mask q1 hi hp kx kw kf _ fun W1 r1 r2 r3 => ?_
      refine (mask1_call p.v W1).mono ?_
      rintro e W' ⟨rfl, hw⟩
      obtain rfl := hw.symm
      exact ⟨rfl, fin _ _ _ _ r1 r2 r3 r1.sys (Chg.refl _ _) ((hst _ F1 r1 q4 hp).2.2 hi)⟩
  · rintro e w' ⟨rfl, hL, F1, s1, ps1, q1, q2, q3, q4⟩
    rw [hmn] at hL q3 q4
    rw [hmc] at hL
    refine ⟨rfl, F1, s1, ps1, ⟨q1.sys, ⟨ms', fs.take m, ?_, ?_, h3a, fun x hx => h4 x (by simp [hx]), fun j n hn => ?_⟩, q1.prc, q1.npb, q1.len, q1.nl, q1.hF, q1.hpb⟩, q2, q4⟩
    · rw [List.length_take, Nat.min_eq_left hm]; exact hL
    · rw [List.length_take, List.length_take, h2]
    · have hj : j < m := by
        have := (List.getElem?_eq_some_iff.1 hn).1
        rw [List.length_take] at this
        omega
      rw [List.getElem?_take_of_lt hj] at hn
      obtain ⟨fv, e1, e2⟩ := q3 j n hj hn
      exact ⟨fv, by rw [List.getElem?_take_of_lt hj]; exact e1, e2⟩
end
end Go.Proofs.YtglcfbefpnphaaaGreatDoor
