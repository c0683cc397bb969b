/-
  HandlesRow answers true, and leaves memory as it was. Conditions: none.
-/
import Derived.Test.YtffipbmonfodbaaGreatDoorHnAwake
import Derived.Test.YtffipbmonfodbaaGreatDoorHnMore
import Derived.Test.YtffipbmonfodbaaGreatDoorHnText3
import Derived.Test.YtffipbmonfodbaaGreatDoorHnNums
namespace Go.Proofs.YtffipbmonfodbaaGreatDoor
open Go Go.RowKit Go.ChangeMaps

def ndsR (h : Nat) (d : List UInt8) : Nds := [(1, rootN nl4), (2, ⟨2, 1, h, 0, d, none, ⟨#[]⟩⟩), (3, leafN 2 []), (4, leafN 3 [97]), (5, ⟨1, 1, 0, 1, [], some [], nm1 100⟩)]
/-- What there is: the file's, the text's and the pipe's place p, what the sink has. -/
def rowS (d : List UInt8) (tot p r : Nat) (bb : Nat) (b : Bs) (pb : Nat) (T : List UInt8) (m : Nat) : St :=
  ⟨ndsR 1 d, [(bb, some b)], tot, [(1, ⟨r, .file 2 p true false false⟩), (2, ⟨1, .text d p⟩), (3, ⟨1, .rd 0⟩), (4, ⟨1, .wr 0⟩), (5, ⟨1, .sink T m⟩)], [(pb, bb, 2)], 5, []⟩
theorem usedR (h : Nat) (d : List UInt8) : usedN (ndsR h d) = 1 + d.length := by
  unfold usedN ndsR
  simp [total, rootN, root0, leafN]
  omega
theorem mk_tl (s : ByteArray) : (⟨(tl s).toArray⟩ : ByteArray) = s := by unfold tl; simp
theorem putW_0 (s : List UInt8) : putW [] 0 s = s := by
  unfold putW putB
  by_cases h : s.length = 0
  · rw [if_pos h, List.eq_nil_of_length_eq_zero h]
  · rw [if_neg h]; simp
theorem tl_readT (S : ByteArray) (p q : Nat) : tl (readT S p q) = ((tl S).drop p).take q := by
  unfold readT tl
  have hs : S.data.toList.length = S.size := Array.length_toList
  simp only [ByteArray.data_extract, Array.toList_extract, List.extract, List.drop_zero, Nat.sub_zero]
  rw [List.take_take, List.take_eq_take_min (i := q), List.length_drop, hs]
  congr 1
  omega
theorem mk_readT (S : ByteArray) (p q : Nat) : (⟨(((tl S).drop p).take q).toArray⟩ : ByteArray) = readT S p q := by
  rw [← tl_readT, mk_tl]
theorem readT_len (S : ByteArray) (p q : Nat) : (((tl S).drop p).take q).length = (readT S p q).size := by rw [← tl_readT, tl_len]
theorem tl_inj {a b : ByteArray} (h : tl a = tl b) : a = b := by rw [← mk_tl a, ← mk_tl b, h]
theorem tl_app2 (a b : ByteArray) : tl (a ++ b) = tl a ++ tl b := by
  unfold tl
  rw [ByteArray.data_append, Array.toList_append]
theorem tl_upto2 (s : ByteArray) (k : Nat) : tl (s.extract 0 k) = (tl s).take k := by
  unfold tl
  simp [ByteArray.data_extract, Array.toList_extract, List.extract]
theorem cat_readT (S : ByteArray) (p q : Nat) (hp : p ≤ S.size) : S.extract 0 p ++ readT S p q = S.extract 0 (p + (readT S p q).size) := by
  apply tl_inj
  have hs : (tl S).length = S.size := tl_len S
  rw [tl_app2, tl_upto2, tl_upto2, tl_readT, List.take_add, ← readT_len]
  congr 1
  rw [List.length_take]
  exact List.take_eq_take_min
/-- A call of the tree alone. -/
theorem sys_tree {w : World} {F : Nat → Prop} {c : Sy} {s : St} {f : Nat} {args : Array Value} {r : Ending} {nds' : Nds} (h : Sys w F c s)
    (hc : ∀ Ft, TreeF w Ft c.fb c.most c.room s.nds → Calls Tryz.prog f args w fun e w' => e = r ∧ ∃ Ft', TreeF w' Ft' c.fb c.most c.room nds' ∧ Chg Ft Ft' w w') :
    Calls Tryz.prog f args w fun e w' => e = r ∧ ∃ F', Sys w' F' c { s with nds := nds' } ∧ Chg F F' w w' := by
  obtain ⟨Ft, Fp, Fh, h, hF⟩ := h
  refine (hc Ft h.tree).mono ?_
  rintro e w' ⟨rfl, Ft', h1, h2⟩
  obtain ⟨h3, h4⟩ := h.treeStep h1 h2
  exact ⟨rfl, Sys.of hF h3 h4⟩
set_option maxHeartbeats 4000000 in
set_option maxRecDepth 100000 in
theorem lawRow_far (S : ByteArray) (l : List Int) (v : Value) (m : Int) (w : World) (h : Nums w v l) (hn : 30 < S.size ∨ 40 < l.length ∨ m < 0 ∨ 100 < m) :
    Calls Tryz.prog 3 #[.string S, v, .int .i64 m] w fun e w' => e = .returned (.bool true) ∧ w.grownBy w' none := by
  obtain ⟨A, c, rfl, hc, hcm⟩ := h.form
  unfold maxLen at hcm
  have haw := awake_any w
  clear h
  generalize l.length = K at *
  by_cases h1 : 30 < S.size
  · have i1 : (30 : Int) < (S.size : Int) := by omega
    go_enter Tryz.func3, Tryz.ntmps3
    go_wp2_with fail
    refine haw.mono ?_
    rintro e w' ⟨rfl, hg⟩
    replace hg := Lib.hid hg
    clear haw
    go_wp2
    go_ret
    exact ⟨rfl, hg.out⟩
  have i1 : ¬ (30 : Int) < (S.size : Int) := by omega
  by_cases h2 : 40 < K
  · have i2 : (40 : Int) < (K : Int) := by omega
    go_enter Tryz.func3, Tryz.ntmps3
    go_wp2_with fail
    refine haw.mono ?_
    rintro e w' ⟨rfl, hg⟩
    replace hg := Lib.hid hg
    clear haw
    go_wp2
    go_ret
    exact ⟨rfl, hg.out⟩
  have i2 : ¬ (40 : Int) < (K : Int) := by omega
  by_cases h3 : m < 0
  · go_enter Tryz.func3, Tryz.ntmps3
    go_wp2_with fail
    refine haw.mono ?_
    rintro e w' ⟨rfl, hg⟩
    replace hg := Lib.hid hg
    clear haw
    go_wp2
    go_ret
    exact ⟨rfl, hg.out⟩
  have h4 : 100 < m := by omega
  go_enter Tryz.func3, Tryz.ntmps3
  go_wp2_with fail
  refine haw.mono ?_
  rintro e w' ⟨rfl, hg⟩
  replace hg := Lib.hid hg
  clear haw
  go_wp2
  go_ret
  exact ⟨rfl, hg.out⟩
-- MAIN
set_option maxHeartbeats 8000000 in
set_option maxRecDepth 100000 in
theorem lawRow_ok (S : ByteArray) (l : List Int) (v : Value) (m : Nat) (w : World) (h : Nums w v l) (hS30 : S.size ≤ 30) (hl40 : l.length ≤ 40) (hm : m ≤ 100) :
    Calls Tryz.prog 3 #[.string S, v, .int .i64 (m : Int)] w fun e w' => e = .returned (.bool true) ∧ w.grownBy w' none := by
  obtain ⟨A, c, rfl, hc, hcm⟩ := h.form
  unfold maxLen at hcm
  have haw := fun W => awake_any W
  have hbg := begun_any w
  have hat := fun wr (hm : ∀ b, b < w.heap.size → wr.heap[b]? = w.heap[b]?) k hk => h.at_ (wr := wr) hm k hk
  replace hat := Lib.hid hat
  replace haw := Lib.hid haw
  obtain ⟨KL, hKL⟩ : ∃ KL, l.length = KL := ⟨_, rfl⟩
  rw [hKL] at hc hl40 ⊢
  replace hKL := Lib.hid hKL
  clear h
  have i1 : ¬ (30 : Int) < (S.size : Int) := by omega
  have i2 : ¬ (40 : Int) < (KL : Int) := by omega
  have i3 : ¬ (m : Int) < 0 := by omega
  have i4 : ¬ (100 : Int) < (m : Int) := by omega
  replace hbg := Lib.hid hbg
  go_enter Tryz.func3, Tryz.ntmps3
  go_wp2_with fail
  refine hbg.out.mono ?_
  rintro e w0 ⟨fb, plb, tb, rfl, F0, hS0, cc0⟩
  clear hbg
  unfold ptrV
  go_upto_region 4 with fail
  obtain ⟨z, hz⟩ : ∃ z, w0.heap.size = z := ⟨_, rfl⟩
  have gA : w0.grownBy (w0.alloc (.cells #[.pointer (some ⟨fb, 0, none⟩), .pointer (some ⟨plb, 0, none⟩), .pointer (some ⟨tb, 0, none⟩)] 28)) none := World.grownBy_alloc w0 _ _
  have zb : Blk (w0.alloc (.cells #[.pointer (some ⟨fb, 0, none⟩), .pointer (some ⟨plb, 0, none⟩), .pointer (some ⟨tb, 0, none⟩)] 28)) w0.heap.size [ptrV fb, ptrV plb, ptrV tb] 28 := Blk.new w0 _ _
  have hzF : ¬ F0 z := fun h => absurd (hS0.lt h) (by omega)
  generalize (w0.alloc (.cells #[.pointer (some ⟨fb, 0, none⟩), .pointer (some ⟨plb, 0, none⟩), .pointer (some ⟨tb, 0, none⟩)] 28)) = w1 at gA zb ⊢
  simp only [hz] at zb ⊢
  have kz : Kp w1 F0 z [ptrV fb, ptrV plb, ptrV tb] 28 := ⟨zb, hzF⟩
  have hS : Sys w1 F0 (begunC fb plb tb) ⟨ndsR 0 [120, 121, 122], [], 0, [], [], 0, []⟩ := hS0.grown gA
  have cc : Chg (fun _ => False) F0 w w1 := cc0.trans (Chg.of_grown gA F0)
  clear hS0 cc0 gA zb hzF hz
  have hop : Calls Tryz.prog 6 #[.pointer (some ⟨fb, 0, none⟩), .int .i64 2, .int .i64 0] w1 fun e w' => e = .returned (.int .i64 0) ∧ ∃ F', Sys w' F' (begunC fb plb tb) ⟨ndsR 0 [], [], 0, [], [], 0, []⟩ ∧ Chg F0 F' w1 w' := sys_tree hS (fun Ft hT => node_cut0 hT (x := leafN 2 [120, 121, 122]) rfl rfl (by rw [usedR]; decide))
  have z2 := kz.1.cell (i := 0) rfl
  have zl := kz.1.lt
  unfold ptrV at z2
  replace hS := Lib.hid hS
  replace cc := Lib.hid cc
  replace kz := Lib.hid kz
  replace hop := Lib.hid hop
  go_wp2_with fail
  refine hop.out.mono ?_
  rintro e w2 ⟨rfl, F2, hS', cS⟩
  replace kz := kz.out.chg cS
  replace cc := cc.out.trans cS
  replace hS := hS'
  clear hop z2 zl cS hS'
  have hop : Calls Tryz.prog 7 #[.pointer (some ⟨fb, 0, none⟩), .int .i64 2, .int .i64 0, .string S] w2 fun e w' => e = .returned (.int .i64 0) ∧ ∃ F', Sys w' F' (begunC fb plb tb) ⟨ndsR 0 (tl S), [], 0, [], [], 0, []⟩ ∧ Chg F2 F' w2 w' := by
    have := sys_tree (nds' := ndsR 0 (putW [] 0 (tl S))) hS (fun Ft hT => node_write (k := 2) hT (x := ⟨2, 1, 0, 0, [], none, ⟨#[]⟩⟩) rfl rfl 0 S (by omega) (by rw [usedR]; simp only [List.length_nil]; show _ ≤ 60; omega))
    rw [putW_0] at this
    exact this
  have z2 := kz.1.cell (i := 0) rfl
  have zl := kz.1.lt
  unfold ptrV at z2
  replace hS := Lib.hid hS
  replace cc := Lib.hid cc
  replace kz := Lib.hid kz
  replace hop := Lib.hid hop
  go_wp2_with fail
  refine hop.out.mono ?_
  rintro e w3 ⟨rfl, F3, hS', cS⟩
  replace kz := kz.out.chg cS
  replace cc := cc.out.trans cS
  replace hS := hS'
  clear hop z2 zl cS hS'
  have hop : Calls Tryz.prog 8 #[.pointer (some ⟨tb, 0, none⟩), .int .i64 2, .agg #[.bool true, .bool false, .bool false]] w3 fun e w' => e = .returned (.tuple #[.int .i64 1, .int .i64 0]) ∧ ∃ F', Sys w' F' (begunC fb plb tb) ⟨ndsR 1 (tl S), [], 0, [(1, ⟨1, .file 2 0 true false false⟩)], [], 1, []⟩ ∧ Chg F3 F' w3 w' := sys_File_r hS rfl (show (0 : Nat) < 100000 by decide) (y := ⟨2, 1, 0, 0, tl S, none, ⟨#[]⟩⟩) rfl rfl (Nat.zero_le _) (Nat.zero_le _) false
  have z2 := kz.1.cell (i := 2) rfl
  have zl := kz.1.lt
  unfold ptrV at z2
  replace hS := Lib.hid hS
  replace cc := Lib.hid cc
  replace kz := Lib.hid kz
  replace hop := Lib.hid hop
  go_wp2_with fail
  refine hop.out.mono ?_
  rintro e w4 ⟨rfl, F4, hS', cS⟩
  replace kz := kz.out.chg cS
  replace cc := cc.out.trans cS
  replace hS := hS'
  clear hop z2 zl cS hS'
  have hop : Calls Tryz.prog 9 #[.pointer (some ⟨tb, 0, none⟩), .string S] w4 fun e w' => e = .returned (.tuple #[.int .i64 2, .int .i64 0]) ∧ ∃ F', Sys w' F' (begunC fb plb tb) ⟨ndsR 1 (tl S), [], 0, [(1, ⟨1, .file 2 0 true false false⟩), (2, ⟨1, .text (tl S) 0⟩)], [], 2, []⟩ ∧ Chg F4 F' w4 w' := sys_Text hS rfl (show (1 : Nat) < 100000 by decide) S (by omega)
  have z2 := kz.1.cell (i := 2) rfl
  have zl := kz.1.lt
  unfold ptrV at z2
  replace hS := Lib.hid hS
  replace cc := Lib.hid cc
  replace kz := Lib.hid kz
  replace hop := Lib.hid hop
  go_wp2_with fail
  refine hop.out.mono ?_
  rintro e w5 ⟨rfl, F5, hS', cS⟩
  replace kz := kz.out.chg cS
  replace cc := cc.out.trans cS
  replace hS := hS'
  clear hop z2 zl cS hS'
  have hop : Calls Tryz.prog 10 #[.pointer (some ⟨tb, 0, none⟩)] w5 fun e w' => e = .returned (.tuple #[.int .i64 3, .int .i64 4, .int .i64 0]) ∧ ∃ F' pb bb, Sys w' F' (begunC fb plb tb) ⟨ndsR 1 (tl S), [(bb, some ⟨[], 0, 3, .slice none 0 0, .slice none 0 0, []⟩)], 0, [(1, ⟨1, .file 2 0 true false false⟩), (2, ⟨1, .text (tl S) 0⟩), (3, ⟨1, .rd 0⟩), (4, ⟨1, .wr 0⟩)], [(pb, bb, 2)], 4, []⟩ ∧ Chg F5 F' w5 w' := sys_Pipe hS rfl (show (2 : Nat) < 99999 by decide) (Nat.zero_le _)
  have z2 := kz.1.cell (i := 2) rfl
  have zl := kz.1.lt
  unfold ptrV at z2
  replace hS := Lib.hid hS
  replace cc := Lib.hid cc
  replace kz := Lib.hid kz
  replace hop := Lib.hid hop
  go_wp2_with fail
  refine hop.out.mono ?_
  rintro e w6 ⟨rfl, F6, pb, bb, hS', cS⟩
  replace kz := kz.out.chg cS
  replace cc := cc.out.trans cS
  replace hS := hS'
  clear hop z2 zl cS hS'
  have hop : Calls Tryz.prog 11 #[.pointer (some ⟨tb, 0, none⟩), .int .i64 (m : Int)] w6 fun e w' => e = .returned (.tuple #[.int .i64 5, .int .i64 0]) ∧ ∃ F', Sys w' F' (begunC fb plb tb) ⟨ndsR 1 (tl S), [(bb, some ⟨[], 0, 3, .slice none 0 0, .slice none 0 0, []⟩)], 0, [(1, ⟨1, .file 2 0 true false false⟩), (2, ⟨1, .text (tl S) 0⟩), (3, ⟨1, .rd 0⟩), (4, ⟨1, .wr 0⟩), (5, ⟨1, .sink [] m⟩)], [(pb, bb, 2)], 5, []⟩ ∧ Chg F6 F' w6 w' := sys_Sink hS rfl (show (4 : Nat) < 100000 by decide) m (by omega)
  have z2 := kz.1.cell (i := 2) rfl
  have zl := kz.1.lt
  unfold ptrV at z2
  replace hS := Lib.hid hS
  replace cc := Lib.hid cc
  replace kz := Lib.hid kz
  replace hop := Lib.hid hop
  go_wp2_with fail
  refine hop.out.mono ?_
  rintro e w7 ⟨rfl, F7, hS', cS⟩
  replace kz := kz.out.chg cS
  replace cc := cc.out.trans cS
  replace hS := hS'
  clear hop z2 zl cS hS'
  have hop : Calls Tryz.prog 12 #[.pointer (some ⟨tb, 0, none⟩), .int .i64 4, .string S] w7 fun e w' => e = .returned (.int .i64 0) ∧ ∃ F' b, b.all = tl S ∧ b.gone = 0 ∧ Sys w' F' (begunC fb plb tb) (rowS (tl S) (0 + S.size) 0 1 bb b pb [] m) ∧ Chg F7 F' w7 w' := by
    refine (sys_write_wr (s := ⟨ndsR 1 (tl S), [(bb, some ⟨[], 0, 3, .slice none 0 0, .slice none 0 0, []⟩)], 0, [(1, ⟨1, .file 2 0 true false false⟩), (2, ⟨1, .text (tl S) 0⟩), (3, ⟨1, .rd 0⟩), (4, ⟨1, .wr 0⟩), (5, ⟨1, .sink [] m⟩)], [(pb, bb, 2)], 5, []⟩) (k := 4) (x := ⟨1, .wr 0⟩) hS rfl (p := 0) (q := 0) rfl rfl rfl S (by show 0 + S.size ≤ _; omega)).mono ?_
    rintro e w' (⟨_, rfl, F', b', h1, h2, h3, h4⟩ | ⟨h0, _⟩)
    · exact ⟨rfl, F', b', by rw [h3]; rfl, h4, h1, h2⟩
    · exact absurd h0 (by show ¬ 40 < 0 + S.size; omega)
  have z2 := kz.1.cell (i := 2) rfl
  have zl := kz.1.lt
  unfold ptrV at z2
  replace hS := Lib.hid hS
  replace cc := Lib.hid cc
  replace kz := Lib.hid kz
  replace hop := Lib.hid hop
  go_wp2_with fail
  refine hop.out.mono ?_
  rintro e w8 ⟨rfl, F8, b, hba, hbg, hS', cS⟩
  replace kz := kz.out.chg cS
  replace cc := cc.out.trans cS
  replace hS := hS'
  clear hop z2 zl cS hS'
  have hop : Calls Tryz.prog 13 #[.pointer (some ⟨tb, 0, none⟩), .int .i64 1] w8 fun e w' => e = .returned (.int .i64 0) ∧ ∃ F', Sys w' F' (begunC fb plb tb) (rowS (tl S) (0 + S.size) 0 2 bb b pb [] m) ∧ Chg F8 F' w8 w' := sys_Ref (k := 1) (x := ⟨1, .file 2 0 true false false⟩) hS rfl (show (1 : Nat) ≤ 1000000 by decide)
  have z2 := kz.1.cell (i := 2) rfl
  have zl := kz.1.lt
  unfold ptrV at z2
  replace hS := Lib.hid hS
  replace cc := Lib.hid cc
  replace kz := Lib.hid kz
  replace hop := Lib.hid hop
  go_wp2_with fail
  refine hop.out.mono ?_
  rintro e w9 ⟨rfl, F9, hS', cS⟩
  replace kz := kz.out.chg cS
  replace cc := cc.out.trans cS
  replace hS := hS'
  clear hop z2 zl cS hS'

  replace hba := Lib.hid hba
  replace hbg := Lib.hid hbg
  replace cc := Lib.hid cc
  replace kz := Lib.hid kz
  replace hS := Lib.hid hS
  go_upto_region 14 with fail
  have gA : w9.grownBy (w9.alloc (.cells #[.string ⟨#[]⟩, .string ⟨#[]⟩, .string ⟨#[]⟩] 44)) none := World.grownBy_alloc w9 _ _
  have yb : Blk (w9.alloc (.cells #[.string ⟨#[]⟩, .string ⟨#[]⟩, .string ⟨#[]⟩] 44)) w9.heap.size [.string ⟨#[]⟩, .string ⟨#[]⟩, .string ⟨#[]⟩] 44 := Blk.new w9 _ _
  have hyF : ¬ F9 w9.heap.size := fun h => absurd (hS.out.lt h) (Nat.lt_irrefl _)
  obtain ⟨y, hy⟩ : ∃ y, w9.heap.size = y := ⟨_, rfl⟩
  have hyw : w.heap.size ≤ y := by rw [← hy]; exact cc.out.size
  replace hyw := Lib.hid hyw
  generalize (w9.alloc (.cells #[.string ⟨#[]⟩, .string ⟨#[]⟩, .string ⟨#[]⟩] 44)) = w10 at gA yb ⊢
  simp only [hy] at yb hyF ⊢
  have e0 : S.extract 0 0 = ⟨#[]⟩ := by apply ByteArray.ext; simp
  have ky : Kp w10 F9 y [.string (S.extract 0 0), .string (S.extract 0 0), .string (S.extract 0 0)] 44 := ⟨by rw [e0]; exact yb, hyF⟩
  have hS2 := hS.out.grown gA
  have kz2 := kz.out.grown gA
  have cc2 := cc.out.trans (Chg.of_grown gA F9)
  clear hS kz cc gA yb hyF hy e0
  have hop : True := trivial
  clear hop
  go_wp2
  go_loopw [18, 20] (fun tv nv wr => ∃ (n p : Nat) (T : ByteArray) (F : Nat → Prop) (b : Bs), n ≤ KL ∧ tv = .string T ∧ nv = .int .i64 (n : Int) ∧ p ≤ S.size ∧ T.size ≤ m ∧ b.all = tl S ∧ b.gone = p ∧ Sys wr F (begunC fb plb tb) (rowS (tl S) (0 + S.size) p 2 bb b pb (tl T) m) ∧ Kp wr F z [ptrV fb, ptrV plb, ptrV tb] 28 ∧ Kp wr F y [.string (S.extract 0 p), .string (S.extract 0 p), .string (S.extract 0 p)] 44 ∧ Chg (fun _ => False) F w wr) (fun _ nv _ => KL - (intOf nv).toNat)
  case atStart => exact ⟨0, 0, ⟨#[]⟩, F9, b, Nat.zero_le _, rfl, rfl, Nat.zero_le _, Nat.zero_le _, hba.out, hbg.out, hS2, kz2, ky, cc2⟩
  case round =>
    clear hS2 kz2 ky cc2 hba hbg
    obtain ⟨n, p, T, F, b, hn, rfl, rfl, hp, hT, hba, hbg, hS, kz, ky, cc⟩ := hrel
    by_cases hlt : n < KL
    · have hlt' : n < l.length := by rw [hKL.out]; exact hlt
      obtain ⟨b0, off, rfl, hb, c0⟩ := hat.out wr (fun g hg => cc.block g hg nofun) n hlt'
      generalize l[n] = x at c0
      have hbr : b0 < wr.heap.size := Nat.lt_of_lt_of_le hb cc.size
      have hi0 : (0 : Int) ≤ (n : Int) := by omega
      have hi1 : (n : Int) < (KL : Int) := by omega
      replace hba := Lib.hid hba
      replace hbg := Lib.hid hbg
      replace hS := Lib.hid hS
      replace kz := Lib.hid kz
      replace ky := Lib.hid ky
      replace cc := Lib.hid cc
      have q1 : -7 < x.tmod 7 ∧ x.tmod 7 < 7 := ⟨Int.lt_tmod_of_pos x (by decide), Int.tmod_lt_of_pos x (by decide)⟩
      have q2 : IntKind.i64.wrap (x.tmod 7 + 7) = x.tmod 7 + 7 := by rw [IntKind.wrap_i64]; omega
      go_upto_region 18 with fail
      obtain ⟨q, hq, hq6⟩ : ∃ q : Nat, (x.tmod 7 + 7) % 7 = (q : Int) ∧ q ≤ 6 := ⟨((x.tmod 7 + 7) % 7).toNat, by omega, by omega⟩
      rw [hq]
      clear q1 q2 hq c0
      have hrs := readT_size S p q
      have hcat := cat_readT S p q hp
      have hlen := readT_len S p q
      have hmk := mk_readT S p q
      have htl := tl_readT S p q
      obtain ⟨R, hR⟩ : ∃ R, readT S p q = R := ⟨_, rfl⟩
      rw [hR] at hrs hcat hlen hmk htl
      replace hR := Lib.hid hR
      replace hcat := Lib.hid hcat
      replace hlen := Lib.hid hlen
      replace hmk := Lib.hid hmk
      replace htl := Lib.hid htl
      replace hrs := Lib.hid hrs
      have hop : Calls Tryz.prog 14 #[.pointer (some ⟨tb, 0, none⟩), .int .i64 1, .int .i64 (q : Int)] wr fun e w' => e = .returned (.tuple #[.string R, .int .i64 0]) ∧ ∃ F', Sys w' F' (begunC fb plb tb) ⟨ndsR 1 (tl S), [(bb, some b)], 0 + S.size, [(1, ⟨2, .file 2 (p + R.size) true false false⟩), (2, ⟨1, .text (tl S) (p)⟩), (3, ⟨1, .rd 0⟩), (4, ⟨1, .wr 0⟩), (5, ⟨1, .sink (tl T) m⟩)], [(pb, bb, 2)], 5, []⟩ ∧ Chg F F' wr w' := by
        have := sys_read_file (k := 1) (x := ⟨2, .file 2 p true false false⟩) hS.out rfl rfl (n := 2) (y := ⟨2, 1, 1, 0, tl S, none, ⟨#[]⟩⟩) rfl (show (2 : Nat) ≠ 1 by decide) (by omega) q (by omega) (by show (tl S).length ≤ _; rw [tl_len]; omega)
        rw [show (⟨((Pn.data ⟨2, 1, 1, 0, tl S, none, ⟨#[]⟩⟩).drop p).take q |>.toArray⟩ : ByteArray) = R from hmk.out, show (((Pn.data ⟨2, 1, 1, 0, tl S, none, ⟨#[]⟩⟩).drop p).take q).length = R.size from hlen.out] at this
        exact this
      have z2 := kz.out.1.cell (i := 2) rfl
      have zl := kz.out.1.lt
      unfold ptrV at z2
      replace hop := Lib.hid hop
      go_wp2_with fail
      refine hop.out.mono ?_
      rintro e a1 ⟨rfl, G1, hS', cS⟩
      replace kz := Lib.hid (kz.out.chg cS)
      replace ky := Lib.hid (ky.out.chg cS)
      replace cc := Lib.hid (cc.out.trans cS)
      replace hS := Lib.hid hS'
      clear hop z2 zl cS hS'

      have hop : Calls Tryz.prog 14 #[.pointer (some ⟨tb, 0, none⟩), .int .i64 2, .int .i64 (q : Int)] a1 fun e w' => e = .returned (.tuple #[.string R, .int .i64 0]) ∧ ∃ F', Sys w' F' (begunC fb plb tb) ⟨ndsR 1 (tl S), [(bb, some b)], 0 + S.size, [(1, ⟨2, .file 2 (p + R.size) true false false⟩), (2, ⟨1, .text (tl S) (p + R.size)⟩), (3, ⟨1, .rd 0⟩), (4, ⟨1, .wr 0⟩), (5, ⟨1, .sink (tl T) m⟩)], [(pb, bb, 2)], 5, []⟩ ∧ Chg G1 F' a1 w' := by
        have := sys_read_text (k := 2) (x := ⟨1, .text (tl S) p⟩) hS.out rfl rfl q
        rw [hR.out] at this
        exact this
      have z2 := kz.out.1.cell (i := 2) rfl
      have zl := kz.out.1.lt
      unfold ptrV at z2
      replace hop := Lib.hid hop
      go_wp2_with fail
      refine hop.out.mono ?_
      rintro e a2 ⟨rfl, G2, hS', cS⟩
      replace kz := Lib.hid (kz.out.chg cS)
      replace ky := Lib.hid (ky.out.chg cS)
      replace cc := Lib.hid (cc.out.trans cS)
      replace hS := Lib.hid hS'
      clear hop z2 zl cS hS'

      have hop : Calls Tryz.prog 14 #[.pointer (some ⟨tb, 0, none⟩), .int .i64 3, .int .i64 (q : Int)] a2 fun e w' => e = .returned (.tuple #[.string R, .int .i64 0]) ∧ ∃ F' b2, b2.all = tl S ∧ b2.gone = p + R.size ∧ Sys w' F' (begunC fb plb tb) ⟨ndsR 1 (tl S), [(bb, some b2)], 0 + S.size, [(1, ⟨2, .file 2 (p + R.size) true false false⟩), (2, ⟨1, .text (tl S) (p + R.size)⟩), (3, ⟨1, .rd 0⟩), (4, ⟨1, .wr 0⟩), (5, ⟨1, .sink (tl T) m⟩)], [(pb, bb, 2)], 5, []⟩ ∧ Chg G2 F' a2 w' := by
        refine (sys_read_rd (k := 3) (x := ⟨1, .rd 0⟩) hS.out rfl (p := 0) (q := 0) rfl rfl rfl q (by show 0 + S.size ≤ _; omega)).mono ?_
        rintro e w' ⟨rfl, F', b', h1, h2, h3, h4⟩
        rw [hba.out, hbg.out, show (⟨(((tl S).drop p).take q).toArray⟩ : ByteArray) = R from hmk.out]
        refine ⟨rfl, F', b', by rw [h3, hba.out], ?_, h1, h2⟩
        rw [h4, hba.out, hbg.out, tl_len, hrs.out]
      have z2 := kz.out.1.cell (i := 2) rfl
      have zl := kz.out.1.lt
      unfold ptrV at z2
      replace hop := Lib.hid hop
      go_wp2_with fail
      refine hop.out.mono ?_
      rintro e a3 ⟨rfl, G3, b2, hba2, hbg2, hS', cS⟩
      replace kz := Lib.hid (kz.out.chg cS)
      replace ky := Lib.hid (ky.out.chg cS)
      replace cc := Lib.hid (cc.out.trans cS)
      replace hS := Lib.hid hS'
      clear hop z2 zl cS hS'

      have y0 := ky.out.1.cell (i := 0) rfl
      have y1 := ky.out.1.cell (i := 1) rfl
      have y2 := ky.out.1.cell (i := 2) rfl
      have g0 := ky.out.1.frozen 0
      have g1 := ky.out.1.frozen 1
      have g2 := ky.out.1.frozen 2
      have yl := ky.out.1.lt
      have kzb := kz.out.1
      have kyb := ky.out.1
      have hyz : y ≠ z := fun e => by
        rw [e] at kyb
        have := kyb.symm.trans kzb
        simp at this
      replace kzb := Lib.hid kzb
      replace kyb := Lib.hid kyb
      have hEs : (S.extract 0 p).size = p := by rw [ByteArray.size_extract]; omega
      have hw1 : ∀ (W1 : World), (∀ g, g ≠ y → W1.heap[g]? = a3.heap[g]?) → a3.heap.size ≤ W1.heap.size → W1.os = a3.os ∧ W1.tape = a3.tape ∧ W1.output = a3.output → Blk W1 y [.string (S.extract 0 p ++ R), .string (S.extract 0 p ++ R), .string (S.extract 0 p ++ R)] 44 →
          Sys W1 G3 (begunC fb plb tb) ⟨ndsR 1 (tl S), [(bb, some b2)], 0 + S.size, [(1, ⟨2, .file 2 (p + R.size) true false false⟩), (2, ⟨1, .text (tl S) (p + R.size)⟩), (3, ⟨1, .rd 0⟩), (4, ⟨1, .wr 0⟩), (5, ⟨1, .sink (tl T) m⟩)], [(pb, bb, 2)], 5, []⟩ ∧ Kp W1 G3 z [ptrV fb, ptrV plb, ptrV tb] 28 ∧ Kp W1 G3 y [.string (S.extract 0 (p + R.size)), .string (S.extract 0 (p + R.size)), .string (S.extract 0 (p + R.size))] 44 ∧ Chg (fun _ => False) G3 w W1 := fun W1 hk hz1 ho hb1 => by
        have hny : ¬ G3 y := ky.out.2
        have hnw : ¬ y < w.heap.size := by have := hyw.out; omega
        refine ⟨hS.out.keep hz1 fun g hg => hk g fun e => hny (e ▸ hg), ⟨(hk z hyz.symm).trans kzb.out, kz.out.2⟩, ⟨by rw [← hcat.out]; exact hb1, hny⟩, ⟨ho.1.trans cc.out.os, ho.2.1.trans cc.out.tape, ho.2.2.trans cc.out.output, Nat.le_trans cc.out.size hz1, fun g hg hn => (hk g fun e => hnw (e ▸ hg)).trans (cc.out.block g hg hn), cc.out.foot⟩⟩
      generalize S.extract 0 p = E at *
      have j5 : E.size + R.size ≤ 9223372036854775807 := by have := hrs.out; omega
      have j6 : ¬ 9223372036854775807 < E.size + R.size := by omega
      replace hw1 := Lib.hid hw1
      replace hyz := Lib.hid hyz
      replace hEs := Lib.hid hEs
      go_upto_region 24 with fail
      have hb1 := ((kyb.out.set 0 (.string (E ++ R))).set 1 (.string (E ++ R))).set 2 (.string (E ++ R))
      have hww := hw1.out _ (fun g hg => (heap_setCell_other _ _ g _ hg).trans ((heap_setCell_other _ _ g _ hg).trans (heap_setCell_other a3 _ g _ hg))) (by simp [World.setCell]) ⟨rfl, rfl, rfl⟩ hb1
      generalize ((a3.setCell ⟨y, 0, none⟩ (.string (E ++ R))).setCell ⟨y, 1, none⟩ (.string (E ++ R))).setCell ⟨y, 2, none⟩ (.string (E ++ R)) = W1 at hww ⊢
      clear hb1 hw1 hS kz ky cc kzb kyb y0 y1 y2 g0 g1 g2 yl j5 j6 hcat hEs
      obtain ⟨hS, kz, ky, cc⟩ := hww
      have hop := sys_write_sink (k := 5) (x := ⟨1, .sink (tl T) m⟩) hS rfl rfl R (by have := hrs.out; omega)
      rw [tl_len] at hop
      have z2 := kz.1.cell (i := 2) rfl
      have zl := kz.1.lt
      unfold ptrV at z2 hop
      replace hS := Lib.hid hS
      replace cc := Lib.hid cc
      replace kz := Lib.hid kz
      replace ky := Lib.hid ky
      replace hop := Lib.hid hop
      replace hba2 := Lib.hid hba2
      replace hbg2 := Lib.hid hbg2
      have hpp : p + R.size ≤ S.size := by have := hrs.out; omega
      have hR30 : R.size ≤ 30 := by omega
      have j7 : (T.size : Int) + (R.size : Int) ≤ 9223372036854775807 := by omega
      have i5 : IntKind.i64.wrap ((T.size : Int) + (R.size : Int)) = (T.size : Int) + (R.size : Int) := by rw [IntKind.wrap_i64]; omega
      have j8 : T.size + R.size ≤ 9223372036854775807 := by omega
      have j9 : ¬ 9223372036854775807 < T.size + R.size := by omega
      go_wp2_with fail
      refine hop.out.mono ?_
      rintro e W2 (⟨hfit, rfl, G4, hS', cS⟩ | ⟨hfit, rfl, hS', cS⟩)
      · have i6 : (T.size : Int) + (R.size : Int) ≤ (m : Int) := by omega
        replace kz := Lib.hid (kz.out.chg cS)
        replace ky := Lib.hid (ky.out.chg cS)
        replace cc := Lib.hid (cc.out.trans cS)
        rw [← tl_app2] at hS'
        replace hS := Lib.hid hS'
        have hTs : (T ++ R).size ≤ m := by rw [ByteArray.size_append]; exact hfit
        clear hop z2 zl cS hS' hfit
        obtain ⟨TR, hTR⟩ : ∃ TR, T ++ R = TR := ⟨_, rfl⟩
        rw [hTR] at hS hTs
        replace hTR := Lib.hid hTR
        go_wp2
        rw [hTR.out]
        go_roundw
        case rel => exact ⟨n + 1, p + R.size, TR, G4, b2, by omega, by go_num, by go_num, hpp, hTs, hba2.out, hbg2.out, hS.out, kz.out, ky.out, cc.out⟩
        case measure => simp [intOf]; omega
      · have i6 : ¬ (T.size : Int) + (R.size : Int) ≤ (m : Int) := by omega
        replace kz := Lib.hid (kz.out.chg cS)
        replace ky := Lib.hid (ky.out.chg cS)
        replace cc := Lib.hid (cc.out.trans cS)
        replace hS := Lib.hid hS'
        clear hop z2 zl cS hS' hfit
        go_wp2
        go_roundw
        case rel => exact ⟨n + 1, p + R.size, T, G3, b2, by omega, by go_num, by go_num, hpp, hT, hba2.out, hbg2.out, hS.out, kz.out, ky.out, cc.out⟩
        case measure => simp [intOf]; omega
    · obtain rfl : n = KL := by omega
      have hi1 : ¬ (n : Int) < (n : Int) := by omega
      have hop := sys_seen_sink (k := 5) (x := ⟨1, .sink (tl T) m⟩) hS rfl rfl
      rw [mk_tl] at hop
      have z2 := kz.1.cell (i := 2) rfl
      have zl := kz.1.lt
      have hgr := cc.none fun _ _ h => h
      have kyb := ky.1
      unfold ptrV at z2 hop
      have hEs : (S.extract 0 p).size = p := by rw [ByteArray.size_extract]; omega
      have hSE : S.extract 0 (S.extract 0 p).size = S.extract 0 p := by rw [hEs]
      have j1 : (S.extract 0 p).size ≤ S.size := by omega
      generalize S.extract 0 p = E at *
      replace hgr := Lib.hid hgr
      replace kyb := Lib.hid kyb
      replace hop := Lib.hid hop
      replace hEs := Lib.hid hEs
      clear hS kz ky cc hat hba hbg hT
      go_wp2_with fail
      refine hop.out.mono ?_
      rintro e w' ⟨rfl, hw⟩
      obtain rfl := hw.symm
      clear hop hw z2 zl
      go_wp2
      go_loopw [31] (fun iv wq => ∃ i : Nat, i ≤ 3 ∧ iv = .int .i64 (i : Int) ∧ Blk wq y [.string E, .string E, .string E] 44 ∧ w.grownBy wq none) (fun iv _ => 3 - (intOf iv).toNat)
      case atStart => exact ⟨0, Nat.zero_le _, rfl, kyb.out, hgr.out⟩
      case round =>
        clear kyb hgr
        obtain ⟨i, hi, rfl, kyb, hgr⟩ := hrel
        have y0 := kyb.cell (i := 0) rfl
        have y1 := kyb.cell (i := 1) rfl
        have y2 := kyb.cell (i := 2) rfl
        have yl := kyb.lt
        have d1 : decide ((S.size : Int) < (E.size : Int)) = false := by rw [decide_eq_false_iff_not]; omega
        have d2 : decide (S.size < E.size) = false := by rw [decide_eq_false_iff_not]; omega
        have d3 : ¬ (S.size : Int) < (E.size : Int) := by omega
        have d4 : (E.size : Int) ≤ (S.size : Int) := by omega
        have d5 : ¬ (E.size : Int) < 0 := by omega
        replace kyb := Lib.hid kyb
        replace hgr := Lib.hid hgr
        by_cases h3 : i < 3
        · have h3i : (i : Int) < 3 := by omega
          have hi4 : i = 0 ∨ i = 1 ∨ i = 2 := by omega
          rcases hi4 with rfl | rfl | rfl
          · go_upto_region 33 with fail
            go_quiet (fail)
            have hgr2 := grownBy_drewN hgr.out nq
            have kyb2 : Blk (wr.drewN nq) y [.string E, .string E, .string E] 44 := kyb.out
            replace hgr2 := Lib.hid hgr2
            replace kyb2 := Lib.hid kyb2
            clear y0 y1 y2 yl kyb hgr
            go_wp2
            go_roundw
            case rel => exact ⟨1, by omega, by go_num, kyb2.out, hgr2.out⟩
            case measure => simp [intOf]
          · go_upto_region 33 with fail
            go_quiet (fail)
            have hgr2 := grownBy_drewN hgr.out nq
            have kyb2 : Blk (wr.drewN nq) y [.string E, .string E, .string E] 44 := kyb.out
            replace hgr2 := Lib.hid hgr2
            replace kyb2 := Lib.hid kyb2
            clear y0 y1 y2 yl kyb hgr
            go_wp2
            go_roundw
            case rel => exact ⟨2, by omega, by go_num, kyb2.out, hgr2.out⟩
            case measure => simp [intOf]
          · go_upto_region 33 with fail
            go_quiet (fail)
            have hgr2 := grownBy_drewN hgr.out nq
            have kyb2 : Blk (wr.drewN nq) y [.string E, .string E, .string E] 44 := kyb.out
            replace hgr2 := Lib.hid hgr2
            replace kyb2 := Lib.hid kyb2
            clear y0 y1 y2 yl kyb hgr
            go_wp2
            go_roundw
            case rel => exact ⟨3, by omega, by go_num, kyb2.out, hgr2.out⟩
            case measure => simp [intOf]
        · obtain rfl : i = 3 := by omega
          have hawx := haw.out wr
          replace hawx := Lib.hid hawx
          clear y0 y1 y2 yl kyb haw
          go_wp2_with fail
          refine hawx.out.mono ?_
          rintro e w' ⟨rfl, hg⟩
          have hg2 := grownBy_tr hgr.out hg
          replace hg2 := Lib.hid hg2
          clear hawx hg
          go_wp2
          go_ret
          exact ⟨rfl, hg2.out⟩
theorem lawRow_any (S : ByteArray) (l : List Int) (m : Int) (v : Value) (w : World) (h : Nums w v l) :
    Calls Tryz.prog 3 #[.string S, v, .int .i64 m] w fun e w' => e = .returned (.bool true) ∧ w.grownBy w' none := by
  by_cases hb : 30 < S.size ∨ 40 < l.length ∨ m < 0 ∨ 100 < m
  · exact lawRow_far S l v m w h hb
  · have hm : m = ((m.toNat : Nat) : Int) := by omega
    rw [hm]
    exact lawRow_ok S l v m.toNat w h (by omega) (by omega) (by omega)
end Go.Proofs.YtffipbmonfodbaaGreatDoor
