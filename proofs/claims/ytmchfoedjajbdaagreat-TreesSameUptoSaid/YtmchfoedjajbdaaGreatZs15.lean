/-
  TreesSame: whatever comes in, the law answers true and leaves it as it was. Conditions: what comes in is of bulk at most 1048576.
-/
import Derived.Test.YtmchfoedjajbdaaGreatZs0
import Derived.Test.YtmchfoedjajbdaaGreatZs12
import Derived.Test.YtmchfoedjajbdaaGreatZs14
set_option linter.unusedSimpArgs false
set_option linter.unusedVariables false
namespace Go.Proofs.YtmchfoedjajbdaaGreat
open Go Go.RowKit Go.ChangeMaps

section
variable {W : World}
/-- A word in a command. -/
def wnF (x : F) : F := .node 1 false ⟨#[]⟩ false (.set ⟨#[120]⟩ x .nil) .nil .nil .nil .nil .nil
theorem slc_wn {w : World} {n : Nat} {x : F} {A : Option Addr} {c : Nat} {T T' : TypeId} (h1 : Blk w n [.string ⟨#[120]⟩, .slice A x.len c] T) (h2 : Blk w (n + 1) [.int .i64 1, .bool false, .string ⟨#[]⟩, .bool false, .slice (some ⟨n, 0, none⟩) 1 1, .slice none 0 0, .slice none 0 0, .slice none 0 0, .slice none 0 0] T') (hx : Slc w A c x) : Slc w (some ⟨n + 1, 0, none⟩) 1 (wnF x) := by
  have hs : Slc w (some ⟨n, 0, none⟩) 1 (.set ⟨#[120]⟩ x .nil) := slc_set1 h1 hx
  exact slc_node1 (S := .set ⟨#[120]⟩ x .nil) (W := .nil) (R := .nil) (L := .nil) (C := .nil) h2 hs Slc.nil Slc.nil Slc.nil Slc.nil
set_option maxRecDepth 100000 in
theorem word_any {w0 w : World} {x : F} {A : Option Addr} {c : Nat} (hx : Slc w0 A c x) (hb : Below w0.heap.size w0 w) : Calls Tryz.prog 15 #[.slice A x.len c] w fun e w' => ∃ b, e = .returned (.slice (some ⟨b, 0, none⟩) 1 1) ∧ Slc w' (some ⟨b, 0, none⟩) 1 (wnF x) ∧ Below w.heap.size w w' := by
  obtain ⟨h1, h2, hb2⟩ := two_new' w (.cells #[.string ⟨#[120]⟩, .slice A x.len c] 50) (.cells #[.int .i64 1, .bool false, .string ⟨#[]⟩, .bool false, .slice (some ⟨w.heap.size, 0, none⟩) 1 1, .slice none 0 0, .slice none 0 0, .slice none 0 0, .slice none 0 0] 43)
  have hx2 := (hx.below hb).below hb2
  have hn := slc_wn h1 h2 hx2
  replace hn := Lib.hid hn
  replace hb2 := Lib.hid hb2
  clear h1 h2 hx2 hx hb
  go_enter Tryz.func15, Tryz.ntmps15
  go_wp2
  go_ret
  exact ⟨_, rfl, hn.out, hb2.out⟩
theorem ty_wn {x : F} (h : Ty x 1) : Ty (wnF x) 0 := by simp [wnF, Ty, I64, h]
theorem wt_wn (x : F) : wt (wnF x) = wt x + 3 := by simp [wnF, wt, ByteArray.size]; omega
theorem len_wn (x : F) : (wnF x).len = 1 := rfl
theorem few_wn {x : F} {b : Nat} {w : World} (tx : Ty x 1) (wx : wt x + 3 ≤ 1048576) (h : Slc w (some ⟨b, 0, none⟩) 1 (wnF x)) : Calls Tryz.prog 7 #[.slice (some ⟨b, 0, none⟩) 1 1] w fun e w' => e = .returned (.bool (fewB (wnF x))) ∧ Below w.heap.size w w' := by
  have k := Few_any (f := wnF x) (A := some ⟨b, 0, none⟩) (c := 1) (w := w) (ty_wn tx) (by rw [wt_wn]; exact wx) h
  rw [len_wn] at k
  exact k
set_option maxRecDepth 100000 in
set_option maxHeartbeats 16000000 in
theorem lawSame_any {a b x y : F} {A1 A2 A3 A4 : Option Addr} {c1 c2 c3 c4 : Nat} (ta : Ty a 0) (tb : Ty b 0) (tx : Ty x 1) (ty : Ty y 1) (ha : Slc W A1 c1 a) (hb : Slc W A2 c2 b) (hx : Slc W A3 c3 x) (hy : Slc W A4 c4 y) (wa : wt a ≤ 1048576) (wb : wt b ≤ 1048576) (wx : wt x + 3 ≤ 1048576) (wy : wt y + 3 ≤ 1048576) :
    Calls Tryz.prog 4 #[.slice A1 a.len c1, .slice A2 b.len c2, .agg #[.slice A3 x.len c3, .slice A4 y.len c4]] W fun e w' => e = .returned (.bool true) ∧ Below W.heap.size W w' := by
  have fa := fun w (h : Below W.heap.size W w) => Few_any ta wa (ha.below h)
  have fb := fun w (h : Below W.heap.size W w) => Few_any tb wb (hb.below h)
  have fx := fun b w (h : Slc w (some ⟨b, 0, none⟩) 1 (wnF x)) => few_wn tx wx h
  have fy := fun b w (h : Slc w (some ⟨b, 0, none⟩) 1 (wnF y)) => few_wn ty wy h
  have ox := fun w (h : Below W.heap.size W w) => word_any hx h
  have oy := fun w (h : Below W.heap.size W w) => word_any hy h
  have s1 := fun w (h : Below W.heap.size W w) => Same_any ta tb (ha.below h) (hb.below h)
  have s2 := fun w (h : Below W.heap.size W w) => rSame_any ta tb (ha.below h) (hb.below h)
  have s3 := fun w (h : Below W.heap.size W w) => Same_any ta ta (ha.below h) (ha.below h)
  have s4 := fun w (h : Below W.heap.size W w) => Words_any tx ty (hx.below h) (hy.below h)
  have s5 := fun w (h : Below W.heap.size W w) => rWords_any tx ty (hx.below h) (hy.below h)
  have s6 := fun w (h : Below W.heap.size W w) => Words_any ty ty (hy.below h) (hy.below h)
  have aw := fun w => awake_any (w := w)
  simp only [same_refl] at s3 s6
  generalize fewB a = q1 at fa
  generalize fewB b = q2 at fb
  generalize fewB (wnF x) = q3 at fx
  generalize fewB (wnF y) = q4 at fy
  generalize sameF a b = u at s1 s2
  generalize sameF x y = v at s4 s5
  generalize a.len = m1 at *
  generalize b.len = m2 at *
  generalize x.len = m3 at *
  generalize y.len = m4 at *
  replace fa := Lib.hid fa
  replace fb := Lib.hid fb
  replace fx := Lib.hid fx
  replace fy := Lib.hid fy
  replace ox := Lib.hid ox
  replace oy := Lib.hid oy
  replace s1 := Lib.hid s1
  replace s2 := Lib.hid s2
  replace s3 := Lib.hid s3
  replace s4 := Lib.hid s4
  replace s5 := Lib.hid s5
  replace s6 := Lib.hid s6
  replace aw := Lib.hid aw
  clear ta tb tx ty wa wb wx wy ha hb hx hy
  have hB1 := fun o => alloc_below W o
  go_enter Tryz.func4, Tryz.ntmps4
  go_upto_region 1 with fail
  have hk := Blk.new W [.slice A3 m3 c3, .slice A4 m4 c4] 30
  have hb0 := hB1 (.cells #[.slice A3 m3 c3, .slice A4 m4 c4] 30)
  generalize W.alloc (.cells #[.slice A3 m3 c3, .slice A4 m4 c4] 30) = w1 at hk hb0 ⊢
  generalize hzz : W.heap.size = z at hk ⊢
  replace hzz := Lib.hid hzz
  have hcl : Hid (∀ w, Below w1.heap.size w1 w → w.cell? ⟨z, 0, none⟩ = some (.slice A3 m3 c3) ∧ w.cell? ⟨z, 1, none⟩ = some (.slice A4 m4 c4) ∧ z < w.heap.size) := Lib.hid (fun w h => by
    have h1 : Blk w z _ _ := (h.block z hk.lt).trans hk
    exact ⟨h1.cell (i := 0) rfl, h1.cell (i := 1) rfl, h1.lt⟩)
  replace hb0 := Lib.hid hb0
  have h0 := Below.refl w1.heap.size w1
  clear hB1 hk
  go_wp2_with fail
  refine (fa.out _ hb0.out).mono ?_
  rintro e w2 ⟨rfl, hq⟩
  have h1 := h0.trans (hq.mono h0.size)
  clear hq h0 fa
  cases q1
  · clear fb fx fy ox oy s1 s2 s3 s4 s5 s6
    go_wp2_with fail
    refine (aw.out _).mono ?_
    rintro e w9 ⟨rfl, h9⟩
    have hE := Lib.hid (hb0.out.trans ((h1.trans (h9.mono h1.size)).mono hb0.out.size))
    clear h9
    go_wp2
    go_ret
    exact ⟨rfl, hE.out⟩
  · go_wp2_with fail
    refine (fb.out _ (hb0.out.trans (h1.mono hb0.out.size))).mono ?_
    rintro e w3 ⟨rfl, hq⟩
    have h2 := h1.trans (hq.mono h1.size)
    clear hq h1 fb
    cases q2
    · clear fx fy ox oy s1 s2 s3 s4 s5 s6
      go_wp2_with fail
      refine (aw.out _).mono ?_
      rintro e w9 ⟨rfl, h9⟩
      have hE := Lib.hid (hb0.out.trans ((h2.trans (h9.mono h2.size)).mono hb0.out.size))
      clear h9
      go_wp2
      go_ret
      exact ⟨rfl, hE.out⟩
    · obtain ⟨z0, z1, zl⟩ := hcl.out _ h2
      go_wp2_with fail
      refine (ox.out _ (hb0.out.trans (h2.mono hb0.out.size))).mono ?_
      rintro e w4 ⟨bb3, rfl, hs3, hq⟩
      have h3 := h2.trans (hq.mono h2.size)
      clear hq h2 ox z0 z1 zl
      go_wp2_with fail
      refine (fx.out _ _ hs3).mono ?_
      rintro e w5 ⟨rfl, hq⟩
      have h4 := h3.trans (hq.mono h3.size)
      clear hq h3 hs3 fx
      cases q3
      · clear fy oy s1 s2 s3 s4 s5 s6
        go_wp2_with fail
        refine (aw.out _).mono ?_
        rintro e w9 ⟨rfl, h9⟩
        have hE := Lib.hid (hb0.out.trans ((h4.trans (h9.mono h4.size)).mono hb0.out.size))
        clear h9
        go_wp2
        go_ret
        exact ⟨rfl, hE.out⟩
      · obtain ⟨z0, z1, zl⟩ := hcl.out _ h4
        go_wp2_with fail
        refine (oy.out _ (hb0.out.trans (h4.mono hb0.out.size))).mono ?_
        rintro e w6 ⟨bb5, rfl, hs5, hq⟩
        have h5 := h4.trans (hq.mono h4.size)
        clear hq h4 oy z0 z1 zl
        go_wp2_with fail
        refine (fy.out _ _ hs5).mono ?_
        rintro e w7 ⟨rfl, hq⟩
        have h6 := h5.trans (hq.mono h5.size)
        clear hq h5 hs5 fy
        cases q4
        · clear s1 s2 s3 s4 s5 s6
          go_wp2_with fail
          refine (aw.out _).mono ?_
          rintro e w9 ⟨rfl, h9⟩
          have hE := Lib.hid (hb0.out.trans ((h6.trans (h9.mono h6.size)).mono hb0.out.size))
          clear h9
          go_wp2
          go_ret
          exact ⟨rfl, hE.out⟩
        · go_upto_region 3 with fail
          generalize hw7 : w7 = wz at h6 ⊢
          clear hw7
          have hS0 := h6.trans ((drewN_below wz 1).mono h6.size)
          refine wp_region_held_drew (S := fun w => Below w1.heap.size w1 w) (by kernel_rfl) hS0 (fun _ => ?_)
          refine wpAnyH_take (i := 0) (oi := { dst := some 30, op := Op.move (Operand.tmp 0), type := 22, pos := "law.go:81", after := #[], guard := none }) (v := .slice A1 m1 c1) rfl (by kernel_rfl) (by kernel_rfl) (by kernel_rfl) (fun _ _ _ h => h) (Or.inl ⟨by kernel_rfl, ?_⟩) hS0 ?_
          · intro W hW
            clear hW
            go_simp
          try simp only [Act.put, List.setIfInBounds_toArray, List.set_cons_zero, List.set_cons_succ]
          refine wpAnyH_take (i := 1) (oi := { dst := some 31, op := Op.move (Operand.tmp 1), type := 22, pos := "law.go:81", after := #[], guard := none }) (v := .slice A2 m2 c2) rfl (by kernel_rfl) (by kernel_rfl) (by kernel_rfl) (fun _ _ _ h => h) (Or.inl ⟨by kernel_rfl, ?_⟩) hS0 ?_
          · intro W hW
            clear hW
            go_simp
          try simp only [Act.put, List.setIfInBounds_toArray, List.set_cons_zero, List.set_cons_succ]
          refine wpAnyH_take (i := 3) (oi := { dst := some 33, op := Op.move (Operand.tmp 0), type := 22, pos := "law.go:81", after := #[], guard := none }) (v := .slice A1 m1 c1) rfl (by kernel_rfl) (by kernel_rfl) (by kernel_rfl) (fun _ _ _ h => h) (Or.inl ⟨by kernel_rfl, ?_⟩) hS0 ?_
          · intro W hW
            clear hW
            go_simp
          try simp only [Act.put, List.setIfInBounds_toArray, List.set_cons_zero, List.set_cons_succ]
          refine wpAnyH_take (i := 4) (oi := { dst := some 34, op := Op.move (Operand.tmp 1), type := 22, pos := "law.go:81", after := #[], guard := none }) (v := .slice A2 m2 c2) rfl (by kernel_rfl) (by kernel_rfl) (by kernel_rfl) (fun _ _ _ h => h) (Or.inl ⟨by kernel_rfl, ?_⟩) hS0 ?_
          · intro W hW
            clear hW
            go_simp
          try simp only [Act.put, List.setIfInBounds_toArray, List.set_cons_zero, List.set_cons_succ]
          refine wpAnyH_ready (rs := [2]) (by kernel_rfl) (by simp) ?_
          refine AllReadyH.cons (o := { dst := some 32, op := Op.call { callee := Callee.value (Operand.func 16), args := #[Operand.tmp 30, Operand.tmp 31], argTypes := #[22, 22] }, type := 4, pos := "law.go:81", after := #[{ on := 0, ground := Ground.data }, { on := 1, ground := Ground.data }], guard := none }) rfl (fun K hK => ?_) AllReadyH.nil
          go_simp
          (go_at_call 16; refine (s1.out _ (hb0.out.trans (hS0.mono hb0.out.size))).mono ?_; rintro e v1 ⟨rfl, hv1⟩; have hS1 := hS0.trans (hv1.mono hS0.size))
          go_wp2_with fail
          refine hK.out _ _ hS1 (fun _ => ?_)
          clear hK K
          try simp only [Act.put, List.setIfInBounds_toArray, List.set_cons_zero, List.set_cons_succ]
          refine wpAnyH_ready (rs := [5]) (by kernel_rfl) (by simp) ?_
          refine AllReadyH.cons (o := { dst := some 35, op := Op.call { callee := Callee.value (Operand.func 17), args := #[Operand.tmp 33, Operand.tmp 34], argTypes := #[22, 22] }, type := 4, pos := "law.go:81", after := #[{ on := 3, ground := Ground.data }, { on := 4, ground := Ground.data }, { on := 2, ground := Ground.chain }], guard := none }) rfl (fun K hK => ?_) AllReadyH.nil
          go_simp
          (go_at_call 17; refine (s2.out _ (hb0.out.trans (hS1.mono hb0.out.size))).mono ?_; rintro e v2 ⟨rfl, hv2⟩; have hS2 := hS1.trans (hv2.mono hS1.size))
          go_wp2_with fail
          refine hK.out _ _ hS2 (fun _ => ?_)
          clear hK K
          try simp only [Act.put, List.setIfInBounds_toArray, List.set_cons_zero, List.set_cons_succ]
          refine wpAnyH_take (i := 6) (oi := { dst := some 36, op := Op.binOp BinOp.eql 4 (Operand.tmp 32) (Operand.tmp 35) 4, type := 4, pos := "law.go:81", after := #[{ on := 2, ground := Ground.data }, { on := 5, ground := Ground.data }], guard := none }) (v := .bool true) rfl (by kernel_rfl) (by kernel_rfl) (by kernel_rfl) (fun _ _ _ h => h) (Or.inl ⟨by kernel_rfl, ?_⟩) hS2 ?_
          · intro W hW
            clear hW
            go_simp
          try simp only [Act.put, List.setIfInBounds_toArray, List.set_cons_zero, List.set_cons_succ]
          refine wpAnyH_take (i := 7) (oi := { dst := some 37, op := Op.move (Operand.tmp 36), type := 4, pos := "law.go:81", after := #[{ on := 6, ground := Ground.data }, { on := 5, ground := Ground.chain }], guard := none }) (v := .bool true) rfl (by kernel_rfl) (by kernel_rfl) (by kernel_rfl) (fun _ _ _ h => h) (Or.inl ⟨by kernel_rfl, ?_⟩) hS2 ?_
          · intro W hW
            clear hW
            go_simp
          try simp only [Act.put, List.setIfInBounds_toArray, List.set_cons_zero, List.set_cons_succ]
          refine wpAnyH_take (i := 8) (oi := { dst := some 38, op := Op.move (Operand.tmp 0), type := 22, pos := "law.go:81", after := #[{ on := 7, ground := Ground.guard }], guard := some (7, true) }) (v := .slice A1 m1 c1) rfl (by kernel_rfl) (by kernel_rfl) (by kernel_rfl) (fun _ _ _ h => h) (Or.inl ⟨by kernel_rfl, ?_⟩) hS2 ?_
          · intro W hW
            clear hW
            go_simp
          try simp only [Act.put, List.setIfInBounds_toArray, List.set_cons_zero, List.set_cons_succ]
          refine wpAnyH_take (i := 9) (oi := { dst := some 39, op := Op.move (Operand.tmp 0), type := 22, pos := "law.go:81", after := #[{ on := 7, ground := Ground.guard }], guard := some (7, true) }) (v := .slice A1 m1 c1) rfl (by kernel_rfl) (by kernel_rfl) (by kernel_rfl) (fun _ _ _ h => h) (Or.inl ⟨by kernel_rfl, ?_⟩) hS2 ?_
          · intro W hW
            clear hW
            go_simp
          try simp only [Act.put, List.setIfInBounds_toArray, List.set_cons_zero, List.set_cons_succ]
          refine wpAnyH_ready (rs := [10]) (by kernel_rfl) (by simp) ?_
          refine AllReadyH.cons (o := { dst := some 40, op := Op.call { callee := Callee.value (Operand.func 16), args := #[Operand.tmp 38, Operand.tmp 39], argTypes := #[22, 22] }, type := 4, pos := "law.go:81", after := #[{ on := 8, ground := Ground.data }, { on := 9, ground := Ground.data }, { on := 7, ground := Ground.chain }, { on := 7, ground := Ground.guard }], guard := some (7, true) }) rfl (fun K hK => ?_) AllReadyH.nil
          go_simp
          (go_at_call 16; refine (s3.out _ (hb0.out.trans (hS2.mono hb0.out.size))).mono ?_; rintro e v3 ⟨rfl, hv3⟩; have hS3 := hS2.trans (hv3.mono hS2.size))
          go_wp2_with fail
          refine hK.out _ _ hS3 (fun _ => ?_)
          clear hK K
          try simp only [Act.put, List.setIfInBounds_toArray, List.set_cons_zero, List.set_cons_succ]
          refine wpAnyH_take (i := 11) (oi := { dst := some 41, op := Op.pick (Operand.tmp 37) (Operand.tmp 40) (Operand.const (Value.bool false)), type := 4, pos := "law.go:81", after := #[{ on := 7, ground := Ground.data }, { on := 10, ground := Ground.data }], guard := none }) (v := .bool true) rfl (by kernel_rfl) (by kernel_rfl) (by kernel_rfl) (fun _ _ _ h => h) (Or.inl ⟨by kernel_rfl, ?_⟩) hS3 ?_
          · intro W hW
            clear hW
            go_simp
          try simp only [Act.put, List.setIfInBounds_toArray, List.set_cons_zero, List.set_cons_succ]
          refine wpAnyH_take (i := 12) (oi := { dst := some 42, op := Op.move (Operand.tmp 41), type := 4, pos := "law.go:81", after := #[{ on := 11, ground := Ground.data }, { on := 10, ground := Ground.chain }], guard := none }) (v := .bool true) rfl (by kernel_rfl) (by kernel_rfl) (by kernel_rfl) (fun _ _ _ h => h) (Or.inl ⟨by kernel_rfl, ?_⟩) hS3 ?_
          · intro W hW
            clear hW
            go_simp
          try simp only [Act.put, List.setIfInBounds_toArray, List.set_cons_zero, List.set_cons_succ]
          refine wpAnyH_take (i := 13) (oi := { dst := some 43, op := Op.indexAddr 30 (Operand.tmp 5) (Operand.const (Value.int IntKind.i64 0)), type := 0, pos := "law.go:81", after := #[{ on := 12, ground := Ground.guard }], guard := some (12, true) }) (v := .pointer (some ⟨z, 0, none⟩)) rfl (by kernel_rfl) (by kernel_rfl) (by kernel_rfl) (fun _ _ _ h => h) (Or.inl ⟨by kernel_rfl, ?_⟩) hS3 ?_
          · intro W hW
            clear hW
            go_simp
          try simp only [Act.put, List.setIfInBounds_toArray, List.set_cons_zero, List.set_cons_succ]
          refine wpAnyH_take (i := 14) (oi := { dst := some 44, op := Op.load 29 (Operand.tmp 43), type := 29, pos := "law.go:81", after := #[{ on := 13, ground := Ground.data }, { on := 12, ground := Ground.guard }], guard := some (12, true) }) (v := .slice A3 m3 c3) rfl (by kernel_rfl) (by kernel_rfl) (by kernel_rfl) (fun _ _ _ h => h) (Or.inl ⟨by kernel_rfl, ?_⟩) hS3 ?_
          · intro W hW
            obtain ⟨z0, z1, zl⟩ := hcl.out W hW
            clear hW
            go_simp
          try simp only [Act.put, List.setIfInBounds_toArray, List.set_cons_zero, List.set_cons_succ]
          refine wpAnyH_take (i := 15) (oi := { dst := some 45, op := Op.indexAddr 30 (Operand.tmp 5) (Operand.const (Value.int IntKind.i64 1)), type := 0, pos := "law.go:81", after := #[{ on := 12, ground := Ground.guard }], guard := some (12, true) }) (v := .pointer (some ⟨z, 1, none⟩)) rfl (by kernel_rfl) (by kernel_rfl) (by kernel_rfl) (fun _ _ _ h => h) (Or.inl ⟨by kernel_rfl, ?_⟩) hS3 ?_
          · intro W hW
            clear hW
            go_simp
          try simp only [Act.put, List.setIfInBounds_toArray, List.set_cons_zero, List.set_cons_succ]
          refine wpAnyH_take (i := 16) (oi := { dst := some 46, op := Op.load 29 (Operand.tmp 45), type := 29, pos := "law.go:81", after := #[{ on := 15, ground := Ground.data }, { on := 12, ground := Ground.guard }], guard := some (12, true) }) (v := .slice A4 m4 c4) rfl (by kernel_rfl) (by kernel_rfl) (by kernel_rfl) (fun _ _ _ h => h) (Or.inl ⟨by kernel_rfl, ?_⟩) hS3 ?_
          · intro W hW
            obtain ⟨z0, z1, zl⟩ := hcl.out W hW
            clear hW
            go_simp
          try simp only [Act.put, List.setIfInBounds_toArray, List.set_cons_zero, List.set_cons_succ]
          refine wpAnyH_take (i := 18) (oi := { dst := some 48, op := Op.indexAddr 30 (Operand.tmp 5) (Operand.const (Value.int IntKind.i64 0)), type := 0, pos := "law.go:81", after := #[{ on := 12, ground := Ground.guard }], guard := some (12, true) }) (v := .pointer (some ⟨z, 0, none⟩)) rfl (by kernel_rfl) (by kernel_rfl) (by kernel_rfl) (fun _ _ _ h => h) (Or.inl ⟨by kernel_rfl, ?_⟩) hS3 ?_
          · intro W hW
            clear hW
            go_simp
          try simp only [Act.put, List.setIfInBounds_toArray, List.set_cons_zero, List.set_cons_succ]
          refine wpAnyH_take (i := 19) (oi := { dst := some 49, op := Op.load 29 (Operand.tmp 48), type := 29, pos := "law.go:81", after := #[{ on := 18, ground := Ground.data }, { on := 12, ground := Ground.guard }], guard := some (12, true) }) (v := .slice A3 m3 c3) rfl (by kernel_rfl) (by kernel_rfl) (by kernel_rfl) (fun _ _ _ h => h) (Or.inl ⟨by kernel_rfl, ?_⟩) hS3 ?_
          · intro W hW
            obtain ⟨z0, z1, zl⟩ := hcl.out W hW
            clear hW
            go_simp
          try simp only [Act.put, List.setIfInBounds_toArray, List.set_cons_zero, List.set_cons_succ]
          refine wpAnyH_take (i := 20) (oi := { dst := some 50, op := Op.indexAddr 30 (Operand.tmp 5) (Operand.const (Value.int IntKind.i64 1)), type := 0, pos := "law.go:81", after := #[{ on := 12, ground := Ground.guard }], guard := some (12, true) }) (v := .pointer (some ⟨z, 1, none⟩)) rfl (by kernel_rfl) (by kernel_rfl) (by kernel_rfl) (fun _ _ _ h => h) (Or.inl ⟨by kernel_rfl, ?_⟩) hS3 ?_
          · intro W hW
            clear hW
            go_simp
          try simp only [Act.put, List.setIfInBounds_toArray, List.set_cons_zero, List.set_cons_succ]
          refine wpAnyH_take (i := 21) (oi := { dst := some 51, op := Op.load 29 (Operand.tmp 50), type := 29, pos := "law.go:81", after := #[{ on := 20, ground := Ground.data }, { on := 12, ground := Ground.guard }], guard := some (12, true) }) (v := .slice A4 m4 c4) rfl (by kernel_rfl) (by kernel_rfl) (by kernel_rfl) (fun _ _ _ h => h) (Or.inl ⟨by kernel_rfl, ?_⟩) hS3 ?_
          · intro W hW
            obtain ⟨z0, z1, zl⟩ := hcl.out W hW
            clear hW
            go_simp
          try simp only [Act.put, List.setIfInBounds_toArray, List.set_cons_zero, List.set_cons_succ]
          refine wpAnyH_ready (rs := [17]) (by kernel_rfl) (by simp) ?_
          refine AllReadyH.cons (o := { dst := some 47, op := Op.call { callee := Callee.value (Operand.func 18), args := #[Operand.tmp 44, Operand.tmp 46], argTypes := #[29, 29] }, type := 4, pos := "law.go:81", after := #[{ on := 14, ground := Ground.data }, { on := 16, ground := Ground.data }, { on := 12, ground := Ground.chain }, { on := 12, ground := Ground.guard }], guard := some (12, true) }) rfl (fun K hK => ?_) AllReadyH.nil
          go_simp
          (go_at_call 18; refine (s4.out _ (hb0.out.trans (hS3.mono hb0.out.size))).mono ?_; rintro e v4 ⟨rfl, hv4⟩; have hS4 := hS3.trans (hv4.mono hS3.size))
          go_wp2_with fail
          refine hK.out _ _ hS4 (fun _ => ?_)
          clear hK K
          try simp only [Act.put, List.setIfInBounds_toArray, List.set_cons_zero, List.set_cons_succ]
          refine wpAnyH_ready (rs := [22]) (by kernel_rfl) (by simp) ?_
          refine AllReadyH.cons (o := { dst := some 52, op := Op.call { callee := Callee.value (Operand.func 19), args := #[Operand.tmp 49, Operand.tmp 51], argTypes := #[28, 28] }, type := 4, pos := "law.go:81", after := #[{ on := 19, ground := Ground.data }, { on := 21, ground := Ground.data }, { on := 17, ground := Ground.chain }, { on := 12, ground := Ground.guard }], guard := some (12, true) }) rfl (fun K hK => ?_) AllReadyH.nil
          go_simp
          (go_at_call 19; refine (s5.out _ (hb0.out.trans (hS4.mono hb0.out.size))).mono ?_; rintro e v5 ⟨rfl, hv5⟩; have hS5 := hS4.trans (hv5.mono hS4.size))
          go_wp2_with fail
          refine hK.out _ _ hS5 (fun _ => ?_)
          clear hK K
          try simp only [Act.put, List.setIfInBounds_toArray, List.set_cons_zero, List.set_cons_succ]
          refine wpAnyH_take (i := 23) (oi := { dst := some 53, op := Op.binOp BinOp.eql 4 (Operand.tmp 47) (Operand.tmp 52) 4, type := 4, pos := "law.go:81", after := #[{ on := 17, ground := Ground.data }, { on := 22, ground := Ground.data }, { on := 12, ground := Ground.guard }], guard := some (12, true) }) (v := .bool true) rfl (by kernel_rfl) (by kernel_rfl) (by kernel_rfl) (fun _ _ _ h => h) (Or.inl ⟨by kernel_rfl, ?_⟩) hS5 ?_
          · intro W hW
            clear hW
            go_simp
          try simp only [Act.put, List.setIfInBounds_toArray, List.set_cons_zero, List.set_cons_succ]
          refine wpAnyH_take (i := 24) (oi := { dst := some 54, op := Op.pick (Operand.tmp 42) (Operand.tmp 53) (Operand.const (Value.bool false)), type := 4, pos := "law.go:81", after := #[{ on := 12, ground := Ground.data }, { on := 23, ground := Ground.data }], guard := none }) (v := .bool true) rfl (by kernel_rfl) (by kernel_rfl) (by kernel_rfl) (fun _ _ _ h => h) (Or.inl ⟨by kernel_rfl, ?_⟩) hS5 ?_
          · intro W hW
            clear hW
            go_simp
          try simp only [Act.put, List.setIfInBounds_toArray, List.set_cons_zero, List.set_cons_succ]
          refine wpAnyH_take (i := 25) (oi := { dst := some 55, op := Op.move (Operand.tmp 54), type := 4, pos := "law.go:81", after := #[{ on := 24, ground := Ground.data }, { on := 22, ground := Ground.chain }], guard := none }) (v := .bool true) rfl (by kernel_rfl) (by kernel_rfl) (by kernel_rfl) (fun _ _ _ h => h) (Or.inl ⟨by kernel_rfl, ?_⟩) hS5 ?_
          · intro W hW
            clear hW
            go_simp
          try simp only [Act.put, List.setIfInBounds_toArray, List.set_cons_zero, List.set_cons_succ]
          refine wpAnyH_take (i := 26) (oi := { dst := some 56, op := Op.indexAddr 30 (Operand.tmp 5) (Operand.const (Value.int IntKind.i64 1)), type := 0, pos := "law.go:81", after := #[{ on := 25, ground := Ground.guard }], guard := some (25, true) }) (v := .pointer (some ⟨z, 1, none⟩)) rfl (by kernel_rfl) (by kernel_rfl) (by kernel_rfl) (fun _ _ _ h => h) (Or.inl ⟨by kernel_rfl, ?_⟩) hS5 ?_
          · intro W hW
            clear hW
            go_simp
          try simp only [Act.put, List.setIfInBounds_toArray, List.set_cons_zero, List.set_cons_succ]
          refine wpAnyH_take (i := 27) (oi := { dst := some 57, op := Op.load 29 (Operand.tmp 56), type := 29, pos := "law.go:81", after := #[{ on := 26, ground := Ground.data }, { on := 25, ground := Ground.guard }], guard := some (25, true) }) (v := .slice A4 m4 c4) rfl (by kernel_rfl) (by kernel_rfl) (by kernel_rfl) (fun _ _ _ h => h) (Or.inl ⟨by kernel_rfl, ?_⟩) hS5 ?_
          · intro W hW
            obtain ⟨z0, z1, zl⟩ := hcl.out W hW
            clear hW
            go_simp
          try simp only [Act.put, List.setIfInBounds_toArray, List.set_cons_zero, List.set_cons_succ]
          refine wpAnyH_take (i := 28) (oi := { dst := some 58, op := Op.indexAddr 30 (Operand.tmp 5) (Operand.const (Value.int IntKind.i64 1)), type := 0, pos := "law.go:81", after := #[{ on := 25, ground := Ground.guard }], guard := some (25, true) }) (v := .pointer (some ⟨z, 1, none⟩)) rfl (by kernel_rfl) (by kernel_rfl) (by kernel_rfl) (fun _ _ _ h => h) (Or.inl ⟨by kernel_rfl, ?_⟩) hS5 ?_
          · intro W hW
            clear hW
            go_simp
          try simp only [Act.put, List.setIfInBounds_toArray, List.set_cons_zero, List.set_cons_succ]
          refine wpAnyH_take (i := 29) (oi := { dst := some 59, op := Op.load 29 (Operand.tmp 58), type := 29, pos := "law.go:81", after := #[{ on := 28, ground := Ground.data }, { on := 25, ground := Ground.guard }], guard := some (25, true) }) (v := .slice A4 m4 c4) rfl (by kernel_rfl) (by kernel_rfl) (by kernel_rfl) (fun _ _ _ h => h) (Or.inl ⟨by kernel_rfl, ?_⟩) hS5 ?_
          · intro W hW
            obtain ⟨z0, z1, zl⟩ := hcl.out W hW
            clear hW
            go_simp
          try simp only [Act.put, List.setIfInBounds_toArray, List.set_cons_zero, List.set_cons_succ]
          refine wpAnyH_ready (rs := [30]) (by kernel_rfl) (by simp) ?_
          refine AllReadyH.cons (o := { dst := some 60, op := Op.call { callee := Callee.value (Operand.func 18), args := #[Operand.tmp 57, Operand.tmp 59], argTypes := #[29, 29] }, type := 4, pos := "law.go:81", after := #[{ on := 27, ground := Ground.data }, { on := 29, ground := Ground.data }, { on := 25, ground := Ground.chain }, { on := 25, ground := Ground.guard }], guard := some (25, true) }) rfl (fun K hK => ?_) AllReadyH.nil
          go_simp
          (go_at_call 18; refine (s6.out _ (hb0.out.trans (hS5.mono hb0.out.size))).mono ?_; rintro e v6 ⟨rfl, hv6⟩; have hS6 := hS5.trans (hv6.mono hS5.size))
          go_wp2_with fail
          refine hK.out _ _ hS6 (fun _ => ?_)
          clear hK K
          try simp only [Act.put, List.setIfInBounds_toArray, List.set_cons_zero, List.set_cons_succ]
          refine wpAnyH_take (i := 31) (oi := { dst := some 61, op := Op.pick (Operand.tmp 55) (Operand.tmp 60) (Operand.const (Value.bool false)), type := 4, pos := "law.go:81", after := #[{ on := 25, ground := Ground.data }, { on := 30, ground := Ground.data }], guard := none }) (v := .bool true) rfl (by kernel_rfl) (by kernel_rfl) (by kernel_rfl) (fun _ _ _ h => h) (Or.inl ⟨by kernel_rfl, ?_⟩) hS6 ?_
          · intro W hW
            clear hW
            go_simp
          try simp only [Act.put, List.setIfInBounds_toArray, List.set_cons_zero, List.set_cons_succ]
          refine wpAnyH_take (i := 32) (oi := { dst := some 62, op := Op.move (Operand.tmp 61), type := 4, pos := "law.go:81", after := #[{ on := 31, ground := Ground.data }, { on := 30, ground := Ground.chain }], guard := none }) (v := .bool true) rfl (by kernel_rfl) (by kernel_rfl) (by kernel_rfl) (fun _ _ _ h => h) (Or.inl ⟨by kernel_rfl, ?_⟩) hS6 ?_
          · intro W hW
            clear hW
            go_simp
          try simp only [Act.put, List.setIfInBounds_toArray, List.set_cons_zero, List.set_cons_succ]
          refine wpAnyH_ready (rs := [33]) (by kernel_rfl) (by simp) ?_
          refine AllReadyH.cons (o := { dst := some 63, op := Op.call { callee := Callee.value (Operand.func 8), args := #[], argTypes := #[] }, type := 4, pos := "law.go:81", after := #[{ on := 32, ground := Ground.chain }, { on := 32, ground := Ground.guard }], guard := some (32, true) }) rfl (fun K hK => ?_) AllReadyH.nil
          go_simp
          (go_at_call 8; refine (aw.out _).mono ?_; rintro e v7 ⟨rfl, hv7⟩; have hS7 := hS6.trans (hv7.mono hS6.size))
          go_wp2_with fail
          refine hK.out _ _ hS7 (fun _ => ?_)
          clear hK K
          try simp only [Act.put, List.setIfInBounds_toArray, List.set_cons_zero, List.set_cons_succ]
          refine wpAnyH_take (i := 34) (oi := { dst := some 64, op := Op.pick (Operand.tmp 62) (Operand.tmp 63) (Operand.const (Value.bool false)), type := 4, pos := "law.go:81", after := #[{ on := 32, ground := Ground.data }, { on := 33, ground := Ground.data }], guard := none }) (v := .bool true) rfl (by kernel_rfl) (by kernel_rfl) (by kernel_rfl) (fun _ _ _ h => h) (Or.inl ⟨by kernel_rfl, ?_⟩) hS7 ?_
          · intro W hW
            clear hW
            go_simp
          try simp only [Act.put, List.setIfInBounds_toArray, List.set_cons_zero, List.set_cons_succ]
          refine wpAnyH_take (i := 35) (oi := { dst := some 6, op := Op.assign (Operand.tmp 64), type := 4, pos := "law.go:81", after := #[{ on := 34, ground := Ground.data }, { on := 33, ground := Ground.chain }, { on := 0, ground := Ground.phase }, { on := 1, ground := Ground.phase }, { on := 2, ground := Ground.phase }, { on := 3, ground := Ground.phase }, { on := 4, ground := Ground.phase }, { on := 5, ground := Ground.phase }, { on := 6, ground := Ground.phase }, { on := 7, ground := Ground.phase }, { on := 8, ground := Ground.phase }, { on := 9, ground := Ground.phase }, { on := 10, ground := Ground.phase }, { on := 11, ground := Ground.phase }, { on := 12, ground := Ground.phase }, { on := 13, ground := Ground.phase }, { on := 14, ground := Ground.phase }, { on := 15, ground := Ground.phase }, { on := 16, ground := Ground.phase }, { on := 17, ground := Ground.phase }, { on := 18, ground := Ground.phase }, { on := 19, ground := Ground.phase }, { on := 20, ground := Ground.phase }, { on := 21, ground := Ground.phase }, { on := 22, ground := Ground.phase }, { on := 23, ground := Ground.phase }, { on := 24, ground := Ground.phase }, { on := 25, ground := Ground.phase }, { on := 26, ground := Ground.phase }, { on := 27, ground := Ground.phase }, { on := 28, ground := Ground.phase }, { on := 29, ground := Ground.phase }, { on := 30, ground := Ground.phase }, { on := 31, ground := Ground.phase }, { on := 32, ground := Ground.phase }, { on := 33, ground := Ground.phase }, { on := 34, ground := Ground.phase }], guard := none }) (v := .bool true) rfl (by kernel_rfl) (by kernel_rfl) (by kernel_rfl) (fun _ _ _ h => h) (Or.inl ⟨by kernel_rfl, ?_⟩) hS7 ?_
          · intro W hW
            clear hW
            go_simp
          try simp only [Act.put, List.setIfInBounds_toArray, List.set_cons_zero, List.set_cons_succ]
          refine wpAnyH_done (by kernel_rfl) ?_ _
          have hE := Lib.hid (hb0.out.trans (hS7.mono hb0.out.size))
          go_wp2
          go_ret
          exact ⟨rfl, hE.out⟩
end
end Go.Proofs.YtmchfoedjajbdaaGreat
/-
  TreesSame: whatever comes in, the law answers true and leaves it as it was. Conditions: what comes in is of bulk at most 1048576.
-/
set_option linter.unusedSimpArgs false
set_option linter.unusedVariables false
namespace Go.Proofs.YtmchfoedjajbdaaGreat.rowTreesSame
open Go Go.ChangeShapes Go.WideShapes Go.ChangeAt Go.RowKit
open Go.ChangeMaps (open_string shut_string)

set_option maxRecDepth 100000 in
theorem contract (H : Type) (enc : TypeId × Value → H) (W : World) (base : Nat) (args : Array Value) (ds gs : List (DataW H)) (before : List MemPlace)
    (hval : ∀ (j : Nat) t v, Tryz.f4.params[j]? = some t → args[j]? = some v → Value.okWide Tryz.prog W .any base t v)
    (hk : Rows.uptoSmall H (ds ++ gs) = true)
    (hW : DataW.Whole enc Tryz.prog Tryz.f4.params.toList Rows.treesSameSpec.vars false W args.toList ds gs before) :
    Calls Tryz.prog 4 args W fun e W' => ∃ v, e = .returned v ∧ Rows.treesSameSpec.post enc Tryz.prog Tryz.f4 false true false false W args v W' := by
  have hW' := hW
  obtain ⟨p, q, hA0, hV, rfl, hfz, hnd⟩ := hW
  have hA : DataW.TrodAll enc Tryz.prog W 0 (fun _ => true) true Tryz.f4.params.toList args.toList ds p := hA0
  rw [Tryz.params4] at hA hval
  obtain ⟨v0, vs0, d0, ds0, p0, q0, hargs, rfl, rfl, h0, r0⟩ := trodAll_cons hA
  obtain ⟨v1, vs1, d1, ds1, p1, q1, rfl, rfl, rfl, h1, r1⟩ := trodAll_cons r0
  obtain ⟨v2, vs2, d2, ds2, p2, q2, rfl, rfl, rfl, h2, r2⟩ := trodAll_cons r1
  obtain ⟨rfl, rfl, rfl⟩ := trodAll_nil r2
  obtain rfl : args = #[v0, v1, v2] := by cases args; simp_all
  obtain ⟨rfl, rfl⟩ := trodVars_none hV
  clear hA0
  simp only [List.append_nil] at hW' hk
  have hbulk := upto_small hk
  simp only [Rows.uptoBulkAll] at hbulk
  have hlt : ∀ x ∈ p0 ++ p1 ++ p2, x.block < W.heap.size := fun x hx => by simpa [List.append_assoc] using hW'.lt x (by simpa [List.append_assoc] using hx)
  obtain ⟨f0, A0, c0, hv0, hs0, ht0, hb0⟩ := open_nodes (hval 0 _ v0 rfl rfl) h0 (fun x hx => hlt x (by simp [hx]))
  obtain ⟨f1, A1, c1, hv1, hs1, ht1, hb1⟩ := open_nodes (hval 1 _ v1 rfl rfl) h1 (fun x hx => hlt x (by simp [hx]))
  obtain ⟨f2, A2, c2, g2, B2, e2, hv2, hs2, ht2, ks2, kt2, hb2⟩ := open_twoW (hval 2 _ v2 rfl rfl) h2 (fun x hx => hlt x (by simp [hx]))
  have t0 := fun (W' : World) (hb : Below W.heap.size W W') => Below.trod rowOut (by kernel_rfl) (of_decide_eq_true (by kernel_rfl)) h0 hb (fun x hx => hlt x (by simp [hx]))
  have t1 := fun (W' : World) (hb : Below W.heap.size W W') => Below.trod rowOut (by kernel_rfl) (of_decide_eq_true (by kernel_rfl)) h1 hb (fun x hx => hlt x (by simp [hx]))
  have t2 := fun (W' : World) (hb : Below W.heap.size W W') => Below.trod rowOut (by kernel_rfl) (of_decide_eq_true (by kernel_rfl)) h2 hb (fun x hx => hlt x (by simp [hx]))
  have e1 : (Rows.treesSameSpec.fn H ([d0, d1, d2] ++ [])).results = [.lit (.bool true)] := rfl
  have e2 : (Rows.treesSameSpec.fn H ([d0, d1, d2] ++ [])).args = [d0, d1, d2] := rfl
  subst hv0 hv1 hv2
  refine (lawSame_any ht0 ht1 ht2 kt2 hs0 hs1 hs2 ks2 (by omega) (by omega) (by omega) (by omega)).mono fun e W' ⟨he, hb⟩ => ?_
  subst he
  refine ⟨_, rfl, _, _, _, [], p0 ++ (p1 ++ (p2 ++ [])), [], hW', ?_, ?_, rfl, hb.frame _, fun h => by cases h⟩
  · rw [e1]; exact trodAll_cons_mk (shut_bool Tryz.underlying4 _) trodAll_mk0
  · rw [e2]; exact trodAll_cons_mk (t0 _ hb) (trodAll_cons_mk (t1 _ hb) (trodAll_cons_mk (t2 _ hb) (trodAll_mk0)))

theorem reads (os : Os) {H : Type} (enc : TypeId × Value → H) : ∃ places, DataW.whole enc Tryz.prog ((plainWorld os).forCall (fun _ _ => 0) ⟨#[], #[.slice none 0 0, .slice none 0 0, .agg #[.slice none 0 0, .slice none 0 0]], []⟩).memory Tryz.f4.params.toList Rows.treesSameSpec.vars false (#[.slice none 0 0, .slice none 0 0, .agg #[.slice none 0 0, .slice none 0 0]] : Array Value).toList 8 = some ([.nil, .nil, .agg [.nil, .nil]], [], places) :=
  ⟨[], by kernel_rfl⟩

set_option maxRecDepth 100000 in
theorem lifted (os : Os) (started : os.Started) (H : Type) (enc : TypeId × Value → H) (F : Stop.Interp) :
    ReturnsInHanded {} Tryz.checked os 4 .any ((Rows.OpenSpec.upto Rows.treesSameSpec).preRow enc Tryz.prog Tryz.f4 Rows.treesSameUptoRow.domain false Rows.treesSameUptoRow.laid) (((Rows.OpenSpec.upto Rows.treesSameSpec).at F).post enc Tryz.prog Tryz.f4 false true false false) := by
  obtain ⟨places, hx⟩ := reads os enc
  refine returnsInHanded_of_row (C := Tryz.checked) (s := Rows.OpenSpec.upto Rows.treesSameSpec) rowOwn started (by kernel_rfl) Tryz.func4
    (witness_row_at (enc := enc) (C := Tryz.checked) false (plainWorld os) #[.slice none 0 0, .slice none 0 0, .agg #[.slice none 0 0, .slice none 0 0]] rfl (by kernel_rfl) (by kernel_rfl) (by kernel_rfl)
      (OpenSpec.preRow_of_cond 8 hx (by kernel_rfl) (fun k hk => by cases hk; kernel_rfl) (by kernel_rfl) (laid_none _))) ?_
  intro W base args ds gs before hval hW _ hcond _ _ _ _
  exact contract H enc W base args ds gs before hval (hcond _ rfl) hW

theorem said : Rows.TreesSameUptoSaid :=
  OpenClaim.holds_of_cond 4 Tryz.f4 rfl rfl rfl rfl rfl rfl rfl ⟨rfl, rfl, rfl, rfl, rfl⟩ rfl rfl rfl rfl rfl (by kernel_rfl) Tryz.func4 (by kernel_rfl)
    (of_decide_eq_true (by kernel_rfl)) (by unfold Func.isWrapper; first | (rw [if_pos (by decide +kernel)]; kernel_rfl) | (rw [if_neg (by decide +kernel)]; exact ⟨rfl, rfl⟩))
    (fun os started H enc _ F => by rw [OpenClaim.pre_eq_preRow]; exact lifted os started H enc F)

end Go.Proofs.YtmchfoedjajbdaaGreat.rowTreesSame
