/-
  told: all that a state knows, as texts. Conditions: what is told stands; fewer than a hundred thousand names.
-/
import Derived.Test.YtigmdfdcflkggaaGreatStOut
set_option linter.unusedSimpArgs false
set_option linter.unusedVariables false
namespace Go.Proofs.YtigmdfdcflkggaaGreat
open Go Go.RowKit Go.ChangeMaps

section
variable {w w' : World} {B sb : Nat} {a : Ad} {pot : Nat} {t : Tg} {n : Int}
theorem own_txs {W : World} {y m c : Nat} {A : Option Addr} {ns : List ByteArray} (hm : ns.length = m) (h : W.ownsRow y 9 1 (.slice A m c) m (ns.map .string)) : Txs W A m c ns := by
  obtain ⟨A', c', e, ht⟩ := txs_of_own hm h
  cases e
  exact ht
theorem wp_app_of {P : Program} {w : World} {o : Oper} {a : Act} {K : Act → World → Prop} {Q : Exit → Act → World → Prop} (s x : Operand) (t tx : TypeId)
    (ho : o.op = .call { callee := .builtin .append, args := #[s, x], argTypes := #[t, tx] }) (v y r : Value) (w1 : World) (hs : a.eval s = v) (hx : a.eval x = y)
    (hrun : (Builtin.append_ #[t, tx] o.type #[v, y]).run P w = .ok r w1) (h : K (a.put o.dst r) w1) : o.wp P a w K Q := by
  unfold Oper.wp execOp
  simp only [ho, resolve, invoke, builtin, Sem.run_bind, Sem.run_pure, Result.andThen_ok, List.map_toArray, List.map_cons, List.map_nil, hs, hx, hrun]
  exact h
set_option maxRecDepth 100000 in
set_option maxHeartbeats 16000000 in
theorem told_any (h : StAt w B sb a pot t n) (hp : pot ≤ 100000) (hga : t.cur.g.n ≤ 1000) {A : Option Addr} {m c : Nat} {l : List ByteArray} (htx : Txs w A m c l) (hm : m ≤ 100000) : ∃ vs al, KeysOf t.cur.v vs ∧ KeysOf t.cur.a al ∧
    Calls Tryz.prog 17 #[ptrV sb, .slice A m c] w fun e w' => ∃ v, e = .returned v ∧ w'.ownsRow w.heap.size 9 1 v (toldL t vs al l).length ((toldL t vs al l).map .string) ∧ Below w.heap.size w w' := by
  obtain ⟨i0, hi, hz0, hz1, hz2⟩ := info_parts infoStr
  obtain ⟨vs, hkv, hvl, _⟩ := Names_any h hp
  obtain ⟨al, hka, hal, _⟩ := Aliases_any h hp
  refine ⟨vs, al, hkv, hka, ?_⟩
  have hH := fun (W : World) (hb : Below w.heap.size w W) => h.below hb
  have hGl : t.cur.g.l.length ≤ 1000 := by
    obtain ⟨_, _, _, _, _, _, _, h2, _⟩ := h.th
    rw [h2.ga.1]; exact hga
  have hgn : t.cur.g.l.length = t.cur.g.n := by
    obtain ⟨_, _, _, _, _, _, _, h2, _⟩ := h.th
    exact h2.ga.1
  have hnames := fun (W : World) (hb : Below w.heap.size w W) => (show Calls Tryz.prog 68 #[ptrV sb] W fun e w' => ∃ v, e = .returned v ∧ w'.ownsRow W.heap.size 9 1 v vs.length (vs.map .string) ∧ Below W.heap.size W w' by
    obtain ⟨vs', k1, _, hc⟩ := Names_any (h.below hb) hp
    rw [KeysOf.unique hkv k1]; exact hc)
  have hals := fun (W : World) (hb : Below w.heap.size w W) => (show Calls Tryz.prog 69 #[ptrV sb] W fun e w' => ∃ v, e = .returned v ∧ w'.ownsRow W.heap.size 9 1 v al.length (al.map .string) ∧ Below W.heap.size W w' by
    obtain ⟨al', k1, _, hc⟩ := Aliases_any (h.below hb) hp
    rw [KeysOf.unique hka k1]; exact hc)
  have henv := fun (W : World) (hb : Below w.heap.size w W) => (show Calls Tryz.prog 31 #[ptrV sb] W fun e w' => ∃ v, e = .returned v ∧ w'.ownsRow W.heap.size 9 1 v (envL t vs).length ((envL t vs).map .string) ∧ Below W.heap.size W w' by
    obtain ⟨vs', k1, hc⟩ := Environ_any (h.below hb) hp
    rw [KeysOf.unique hkv k1]; exact hc)
  have hargs := fun (W : World) (hb : Below w.heap.size w W) => Args_any (h.below hb) (show t.cur.g.n ≤ 1000000 by omega)
  have hvar := fun (W : World) (hb : Below w.heap.size w W) (k : ByteArray) => Var_any (h.below hb) k
  have hali := fun (W : World) (hb : Below w.heap.size w W) (k : ByteArray) => Alias_any (h.below hb) k
  have htra := fun (W : World) (hb : Below w.heap.size w W) (k : ByteArray) => Trap_any (h.below hb) k
  have hfun := fun (W : World) (hb : Below w.heap.size w W) (k : ByteArray) => Func_any (h.below hb) k
  have hop := Options_any h
  have htx0 := Lib.hid htx
  have htxb := fun (W : World) (hb : Below w.heap.size w W) => htx.below hb
  have hel := envL_len t vs
  obtain ⟨TL, hTL⟩ : ∃ TL, toldL t vs al l = TL := ⟨_, rfl⟩
  rw [hTL]
  have hlm : l.length = m := htx.1
  have hmc : m ≤ c := htx.2.1
  have hcm : c ≤ 9223372036854775807 := htx.2.2.1
  obtain ⟨z, hz⟩ : ∃ z, w.heap.size = z := ⟨_, rfl⟩
  rw [hz] at hnames hals henv hargs hvar hali htra hfun hop htxb ⊢
  unfold ptrV at *
  replace hnames := Lib.hid hnames
  replace hals := Lib.hid hals
  replace henv := Lib.hid henv
  replace hargs := Lib.hid hargs
  replace hvar := Lib.hid hvar
  replace hali := Lib.hid hali
  replace htra := Lib.hid htra
  replace hfun := Lib.hid hfun
  replace htxb := Lib.hid htxb
  replace hi := Lib.hid hi
  replace hTL := Lib.hid hTL
  replace hel := Lib.hid hel
  replace hvl := Lib.hid hvl
  replace hal := Lib.hid hal
  replace hgn := Lib.hid hgn
  replace hGl := Lib.hid hGl
  replace hlm := Lib.hid hlm
  replace hz := Lib.hid hz
  clear h htx hkv hka hH
  go_enter Tryz.func17, Tryz.ntmps17
  go_wp2_with fail
  refine hop.mono ?_
  rintro e w1 ⟨rfl, hb1⟩
  have hO : Hid (Out w z (w1.alloc (.cells #[.string t.cur.o] 9)) (.slice (some ⟨w1.heap.size, 0, none⟩) 1 1) [t.cur.o]) := Lib.hid ⟨by
      have := own_one w1 (.string t.cur.o) 9 rfl
      exact this.mono (by have := hb1.size; rw [hz.out] at this; exact this), (hb1.alloc (by have := hb1.size; rw [hz.out] at this; exact this) _), by have := hb1.size; rw [hz.out] at this; simp; omega⟩
  have hc1 := henv.out _ hO.out.below
  clear hop hb1
  go_wp2_with fail
  refine hc1.mono ?_
  rintro e w2 ⟨ev, rfl, hev, hb2⟩
  obtain ⟨Ae, ce, rfl, htxe⟩ := txs_of_own rfl hev
  obtain ⟨gg, cap, w3, hrun, hP, q1, q2, _, _⟩ := (hO.out.of_below hb2).app rfl (by decide) (by decide) hi.out hz0 hz1 hz2 htxe (by have := hel.out; have := hvl.out; omega)
  replace hO := Lib.hid hP
  replace hrun := Lib.hid hrun
  clear hc1 hev hb2 htxe hP
  go_wp2_with (at_builtin; refine wpList_append_of rfl _ _ 35 35 rfl _ _ _ w3 rfl rfl hrun.out ?_)
  clear hrun
  have hL1 : Hid (([t.cur.o] ++ envL t vs) = told1 t vs) := Lib.hid rfl
  obtain ⟨L1, hLe⟩ : ∃ L, told1 t vs = L := ⟨_, rfl⟩
  have hn1 : 1 + (envL t vs).length = L1.length := by rw [← hLe]; unfold told1; rw [List.length_append]; rfl
  have hl1 : L1.length ≤ 100001 ∧ 0 < L1.length := by rw [← hn1]; have := hel.out; have := hvl.out; omega
  rw [hL1.out, hLe] at hO
  rw [hn1] at hO q1 ⊢
  have hLe1 := Lib.hid hLe
  clear hLe
  replace hl1 := Lib.hid hl1
  clear hL1 hn1
  have hc2 := hnames.out w3 hO.out.below
  go_wp2_with fail
  refine hc2.mono ?_
  rintro e w4 ⟨nv, rfl, hnv, hb4⟩
  have hS : Hid (Aside w4 w3.heap.size (.slice (some ⟨gg, 0, none⟩) L1.length cap) nv vs) := Lib.hid ⟨hnv, fun g hg e => by
    have h1 := (hnv.lt g hg).1
    have h2 := (hO.out.row.lt g e).2
    omega⟩
  have hO2 : Hid (Out w z w4 (.slice (some ⟨gg, 0, none⟩) L1.length cap) L1) := Lib.hid (hO.out.of_below hb4)
  obtain ⟨An, cn, rfl, hcn, hcnm⟩ := own_form hnv
  obtain ⟨KV, hKV⟩ : ∃ K, vs.length = K := ⟨_, rfl⟩
  obtain ⟨yv, hyv⟩ : ∃ y, w3.heap.size = y := ⟨_, rfl⟩
  rw [hKV] at hcn hvl hS ⊢
  rw [hyv] at hS
  unfold maxLen at hcnm
  have hE1 : L1 ++ (vs.take 0).flatMap (varT t) = L1 := by rw [List.take_zero, List.flatMap_nil, List.append_nil]
  have hO3 : Hid (Out w z w4 (.slice (some ⟨gg, 0, none⟩) L1.length cap) (L1 ++ (vs.take 0).flatMap (varT t))) := Lib.hid (by rw [hE1]; exact hO2.out)
  replace hKV := Lib.hid hKV
  clear hc2 hnv hb4 hO hO2 hE1 hyv
  go_wp2
  go_loopw [7, 5] (fun iv ov wr => ∃ j : Nat, j ≤ KV ∧ iv = .int .i64 (j : Int) ∧ Hid (Out w z wr ov (L1 ++ (vs.take j).flatMap (varT t))) ∧ Hid (Aside wr yv ov (.slice An KV cn) vs)) (fun iv _ _ => KV - (intOf iv).toNat)
  case atStart => exact ⟨0, Nat.zero_le _, rfl, hO3, hS⟩
  case round =>
    clear hO3 hS
    obtain ⟨j, hj, rfl, hO, hS⟩ := hrel
    obtain ⟨Ao, co, rfl, hco, hcom⟩ := own_form hO.out.row
    unfold maxLen at hcom
    have hfl := flat_len (varT_len t) (vs.take j)
    rw [List.length_take, hKV.out] at hfl
    have hLl : (L1 ++ (vs.take j).flatMap (varT t)).length ≤ 700000 ∧ 0 < (L1 ++ (vs.take j).flatMap (varT t)).length := by
      rw [List.length_append]
      have := hl1.out; have := hvl.out
      omega
    by_cases hlt : j < KV
    · have hjn : j < vs.length := by rw [hKV.out]; exact hlt
      have hsn := flat_snoc (f := varT t) hjn
      have hTx := own_txs hKV.out (by have := hS.out.row; rw [hKV.out] at this; exact this)
      obtain ⟨g, go, rfl, hgl, hgc⟩ := hTx.2.2.2 (by omega)
      have ck := hgc j vs[j] (List.getElem?_eq_getElem hjn)
      have hv := hvar.out wr hO.out.below vs[j]
      have hj1 : (0 : Int) ≤ (j : Int) := by omega
      have hj2 : (j : Int) < (KV : Int) := by omega
      generalize vs[j] = k at ck hv hsn
      obtain ⟨V, hV⟩ : ∃ V, valV t k = V := ⟨_, rfl⟩
      rw [hV] at hv
      unfold varT at hsn
      rw [hV] at hsn
      obtain ⟨x0, x1, x2, x3⟩ := V
      unfold encV at hv
      dsimp only at hv hsn
      obtain ⟨L2, hL2⟩ : ∃ L2, L1 ++ (vs.take (j + 1)).flatMap (varT t) = L2 := ⟨_, rfl⟩
      have hsn2 : ((((L1 ++ (vs.take j).flatMap (varT t)) ++ [k, x0]) ++ (if x1 = true then [setN] else [])) ++ (if x2 = true then [expN] else [])) ++ (if x3 = true then [fixN] else []) = L2 := by
        rw [← hL2]
        have := hsn
        unfold varT at this ⊢
        rw [this]
        simp only [List.append_assoc]
      replace hL2 := Lib.hid hL2
      replace hV := Lib.hid hV
      generalize L1 ++ (vs.take j).flatMap (varT t) = L at hO hS hco hcom hLl hsn2 ⊢
      replace hsn2 := Lib.hid hsn2
      replace hLl := Lib.hid hLl
      clear hsn hfl hgc hTx
      go_wp2_with fail
      refine hv.mono ?_
      rintro e w5 ⟨rfl, hb5⟩
      have hO5 := Lib.hid ((hO.out.of_below hb5).alloc (.cells #[.string x0, .bool x1, .bool x2, .bool x3] 59))
      have hS5 := Lib.hid ((hS.out.of_below hb5).of_below (Below.of_alloc w5 (.cells #[.string x0, .bool x1, .bool x2, .bool x3] 59)))
      have ck5 : w5.cell? ⟨g, go + j, none⟩ = some (.string k) := (World.cell?_of_block (a := ⟨g, go + j, none⟩) (hb5.block g hgl)).trans ck
      have hg5 : g < w5.heap.size := Nat.lt_of_lt_of_le hgl hb5.size
      have bB : Blk (w5.alloc (.cells #[.string x0, .bool x1, .bool x2, .bool x3] 59)) w5.heap.size [.string x0, .bool x1, .bool x2, .bool x3] 59 := Blk.new w5 _ _
      have ckB : (w5.alloc (.cells #[.string x0, .bool x1, .bool x2, .bool x3] 59)).cell? ⟨g, go + j, none⟩ = some (.string k) := (World.cell?_of_block (a := ⟨g, go + j, none⟩) ((Below.of_alloc w5 _).block g hg5)).trans ck5
      have hvB : ∀ q, (Value.slice Ao L.length co).ownBlock = some q → q ≠ w5.heap.size := fun q hq e => by
        have h1 := (hO.out.row.lt q hq).2
        have h2 := hb5.size
        omega
      go_upto_region 7 with fail
      generalize (w5.alloc (.cells #[.string x0, .bool x1, .bool x2, .bool x3] 59)) = wB at hO5 hS5 bB ckB ⊢
      generalize w5.heap.size = y at bB hvB ⊢
      replace hvB := Lib.hid hvB
      clear hO hS hv hb5 ck5 hg5 ck hgl
      have hO6 : Out w z wB.drew (.slice Ao L.length co) L := hO5.out.drewN 1
      have hS6 : Aside wB.drew yv (.slice Ao L.length co) (.slice (some ⟨g, go, none⟩) KV cn) vs := hS5.out.of_below (drewN_below wB 1)
      have bD : Blk wB.drew y [.string x0, .bool x1, .bool x2, .bool x3] 59 := bB
      have e0 : wB.drew.cell? ⟨y, 0, none⟩ = some (.string x0) := bB.cell (i := 0) rfl
      have ckD : wB.drew.cell? ⟨g, go + j, none⟩ = some (.string k) := ckB
      obtain ⟨q0, hq0⟩ : ∃ q, wB.drew = q := ⟨_, rfl⟩
      rw [hq0] at hO6 hS6 bD e0 ckD
      have htx2 := two_txs q0 k x0
      obtain ⟨gg2, cap2, W2, hrun, hP, r1, r2, r3, hAs⟩ := (hO6.alloc (.cells #[.string k, .string x0] 9)).app rfl hLl.out.2 (by have := hLl.out.1; omega) hi.out hz0 hz1 hz2 htx2 (by decide)
      have hS7 : Aside W2 yv (.slice (some ⟨gg2, 0, none⟩) (L.length + 2) cap2) (.slice (some ⟨g, go, none⟩) KV cn) vs := (hS6.of_below (Below.of_alloc q0 (.cells #[.string k, .string x0] 9))).next hAs
      have bA : Blk (q0.alloc (.cells #[.string k, .string x0] 9)) y [.string x0, .bool x1, .bool x2, .bool x3] 59 := bD.alloc _
      have hne7 : (Value.slice Ao L.length co).ownBlock ≠ some y := fun e => hvB.out y e rfl
      have bE : Blk W2 y [.string x0, .bool x1, .bool x2, .bool x3] 59 := (hAs y bA.lt hne7).1.trans bA
      have hvE : (Value.slice (some ⟨gg2, 0, none⟩) (L.length + 2) cap2).ownBlock ≠ some y := fun e => (hAs y bA.lt hne7).2 (by simpa [Value.ownBlock] using e.symm)
      obtain ⟨W1, hW1⟩ : ∃ W1, q0.alloc (.cells #[.string k, .string x0] 9) = W1 := ⟨_, rfl⟩
      have ka0 : W1.cell? ⟨y, 0, none⟩ = some (.string x0) := by rw [← hW1]; exact bA.cell (i := 0) rfl
      have ka1 : W1.cell? ⟨g, go + j, none⟩ = some (.string k) := by rw [← hW1]; exact (World.cell?_of_block (a := ⟨g, go + j, none⟩) ((Below.of_alloc q0 _).block g (World.block_lt_of_cell? q0 _ ckD))).trans ckD
      have kb0 : W2.cell? ⟨y, 0, none⟩ = some (.string x0) := bE.cell (i := 0) rfl
      have hgA : (Value.slice Ao L.length co).ownBlock ≠ some g := hS6.apart g rfl
      have kb1 : W2.cell? ⟨g, go + j, none⟩ = some (.string k) := (World.cell?_of_block (a := ⟨g, go + j, none⟩) (hAs g (by rw [hW1]; exact World.block_lt_of_cell? W1 _ ka1) hgA).1).trans (by rw [hW1]; exact ka1)
      have hl2 : L.length + 2 = (L ++ [k, x0]).length := by rw [List.length_append]; rfl
      rw [hW1] at hrun
      replace hP := Lib.hid hP
      replace hS7 := Lib.hid hS7
      replace bE := Lib.hid bE
      replace hvE := Lib.hid hvE
      replace hrun := Lib.hid hrun
      replace hW1 := Lib.hid hW1
      replace hq0 := Lib.hid hq0
      replace hl2 := Lib.hid hl2
      clear hO6 hS6 bD bA hAs htx2 hO5 hS5 bB ckB hvB hne7 hgA r3
      refine wp_region_last (L := 9) (S := (fun w' : World => w'.cell? ⟨y, 0, none⟩ = some (.string x0) ∧ w'.cell? ⟨g, go + j, none⟩ = some (.string k))) (by kernel_rfl) ?_
      rw [hq0.out]
      have hS0 : (fun w' : World => w'.cell? ⟨y, 0, none⟩ = some (.string x0) ∧ w'.cell? ⟨g, go + j, none⟩ = some (.string k)) q0 := ⟨e0, ckD⟩
      refine wpAnyT_takeT (n := 40) (i := 0) (v := .slice Ao L.length co) rfl (by kernel_rfl) (by kernel_rfl) (by kernel_rfl) (by kernel_rfl) (by kernel_rfl) (fun _ _ _ h => h) (Or.inl ⟨by rfl, ?_⟩) hS0 ?_
      · intro W hW
        obtain ⟨k0, k1⟩ := hW
        clear hS0 e0 ckD ka0 ka1 kb0 kb1
        go_simp
        try (intro hx; exfalso; omega)
      try simp only [Act.put, List.setIfInBounds_toArray]
      refine wpAnyT_takeT (n := 40) (i := 1) (v := .slice (some ⟨g, go, none⟩) KV cn) rfl (by kernel_rfl) (by kernel_rfl) (by kernel_rfl) (by kernel_rfl) (by kernel_rfl) (fun _ _ _ h => h) (Or.inl ⟨by rfl, ?_⟩) hS0 ?_
      · intro W hW
        obtain ⟨k0, k1⟩ := hW
        clear hS0 e0 ckD ka0 ka1 kb0 kb1
        go_simp
        try (intro hx; exfalso; omega)
      try simp only [Act.put]
      refine wpAnyT_takeT (n := 40) (i := 2) (v := .int .i64 (j : Int)) rfl (by kernel_rfl) (by kernel_rfl) (by kernel_rfl) (by kernel_rfl) (by kernel_rfl) (fun _ _ _ h => h) (Or.inl ⟨by rfl, ?_⟩) hS0 ?_
      · intro W hW
        obtain ⟨k0, k1⟩ := hW
        clear hS0 e0 ckD ka0 ka1 kb0 kb1
        go_simp
        try (intro hx; exfalso; omega)
      try simp only [Act.put]
      refine wpAnyT_takeT (n := 40) (i := 3) (v := .pointer (some ⟨g, go + j, none⟩)) rfl (by kernel_rfl) (by kernel_rfl) (by kernel_rfl) (by kernel_rfl) (by kernel_rfl) (fun _ _ _ h => h) (Or.inl ⟨by rfl, ?_⟩) hS0 ?_
      · intro W hW
        obtain ⟨k0, k1⟩ := hW
        clear hS0 e0 ckD ka0 ka1 kb0 kb1
        go_simp
        try (intro hx; exfalso; omega)
      try simp only [Act.put]
      refine wpAnyT_takeT (n := 40) (i := 4) (v := .string k) rfl (by kernel_rfl) (by kernel_rfl) (by kernel_rfl) (by kernel_rfl) (by kernel_rfl) (fun _ _ _ h => h) (Or.inl ⟨by rfl, ?_⟩) hS0 ?_
      · intro W hW
        obtain ⟨k0, k1⟩ := hW
        clear hS0 e0 ckD ka0 ka1 kb0 kb1
        go_simp
        try (intro hx; exfalso; omega)
      try simp only [Act.put]
      refine wpAnyT_takeT (n := 40) (i := 5) (v := .pointer (some ⟨y, 0, none⟩)) rfl (by kernel_rfl) (by kernel_rfl) (by kernel_rfl) (by kernel_rfl) (by kernel_rfl) (fun _ _ _ h => h) (Or.inl ⟨by rfl, ?_⟩) hS0 ?_
      · intro W hW
        obtain ⟨k0, k1⟩ := hW
        clear hS0 e0 ckD ka0 ka1 kb0 kb1
        go_simp
        try (intro hx; exfalso; omega)
      try simp only [Act.put]
      refine wpAnyT_takeT (n := 40) (i := 6) (v := .string x0) rfl (by kernel_rfl) (by kernel_rfl) (by kernel_rfl) (by kernel_rfl) (by kernel_rfl) (fun _ _ _ h => h) (Or.inl ⟨by rfl, ?_⟩) hS0 ?_
      · intro W hW
        obtain ⟨k0, k1⟩ := hW
        clear hS0 e0 ckD ka0 ka1 kb0 kb1
        go_simp
        try (intro hx; exfalso; omega)
      try simp only [Act.put]
      clear hS0
      refine wpAnyT_one (i := 7) rfl (by kernel_rfl) rfl ?_
      go_simp
      rw [hW1.out]
      try refine ⟨⟨ka0, ka1⟩, ?_⟩
      refine wpAnyT_one (i := 8) rfl (by kernel_rfl) rfl ?_
      refine wp_app_of (.tmp 39) (.tmp 46) 35 35 rfl _ _ _ W2 rfl rfl hrun.out ?_
      refine ⟨fun _ => ⟨kb0, kb1⟩, ?_⟩
      try simp only [Act.put, List.setIfInBounds_toArray]
      refine wpAnyT_one (i := 9) rfl (by kernel_rfl) rfl ?_
      go_simp
      refine wpAnyT_done (by kernel_rfl) ?_ _
      clear ka0 ka1 kb0 kb1 e0 ckD hrun hW1 hq0 hco hcom
      rw [hl2.out] at r1 hP hS7 hvE ⊢
      obtain ⟨M, hMe⟩ : ∃ M, L ++ [k, x0] = M := ⟨_, rfl⟩
      have hM : M.length ≤ 700002 ∧ 0 < M.length := by rw [← hMe, ← hl2.out]; have := hLl.out; omega
      rw [hMe] at r1 hP hS7 hvE hsn2 ⊢
      replace hM := Lib.hid hM
      clear hl2 hMe hLl
      cases x1
      · have e1 : W2.cell? ⟨y, 1, none⟩ = some (.bool false) := bE.out.cell (i := 1) rfl
        have yl := bE.out.lt
        replace hsn2 : Hid (((M ++ (if x2 = true then [expN] else [])) ++ (if x3 = true then [fixN] else [])) = L2) := Lib.hid (((by simp only [Bool.false_eq_true, if_false, List.append_nil]) : _ = _).trans hsn2.out)
        go_upto_region 10 with fail
        clear e1 yl
        cases x2
        · have e2 : W2.cell? ⟨y, 2, none⟩ = some (.bool false) := bE.out.cell (i := 2) rfl
          have yl := bE.out.lt
          replace hsn2 : Hid ((M ++ (if x3 = true then [fixN] else [])) = L2) := Lib.hid (((by simp only [Bool.false_eq_true, if_false, List.append_nil]) : _ = _).trans hsn2.out)
          go_upto_region 12 with fail
          clear e2 yl
          cases x3
          · have e3 : W2.cell? ⟨y, 3, none⟩ = some (.bool false) := bE.out.cell (i := 3) rfl
            have yl := bE.out.lt
            replace hsn2 : Hid (M = L2) := Lib.hid (((by simp only [Bool.false_eq_true, if_false, List.append_nil]) : _ = _).trans hsn2.out)
            have hOE : Hid (Out w z W2 (.slice (some ⟨gg2, 0, none⟩) M.length cap2) (L1 ++ (vs.take (j + 1)).flatMap (varT t))) := Lib.hid (by rw [hL2.out, ← hsn2.out]; exact hP.out)
            have hSE := hS7
            clear hP hS7 hsn2
            go_wp2
            go_roundw
            case rel => exact ⟨j + 1, by omega, by go_num, hOE, hSE⟩
            case measure => simp [intOf]; omega
          · have e3 : W2.cell? ⟨y, 3, none⟩ = some (.bool true) := bE.out.cell (i := 3) rfl
            have yl := bE.out.lt
            obtain ⟨g5g2, c52, W52, hrun, hP2, r3, r4, _, hAs⟩ := (hP.out.alloc (.cells #[.string ⟨#[102, 105, 120, 101, 100]⟩] 9)).app rfl hM.out.2 (by have := hM.out.1; omega) hi.out hz0 hz1 hz2 (one_txs W2 ⟨#[102, 105, 120, 101, 100]⟩) (by decide)
            have hS8 : Aside W52 yv (.slice (some ⟨g5g2, 0, none⟩) (M.length + 1) c52) (.slice (some ⟨g, go, none⟩) KV cn) vs := (hS7.out.of_below (Below.of_alloc W2 (.cells #[.string ⟨#[102, 105, 120, 101, 100]⟩] 9))).next hAs
            have bA : Blk (W2.alloc (.cells #[.string ⟨#[102, 105, 120, 101, 100]⟩] 9)) y _ 59 := bE.out.alloc _
            have bF : Blk W52 y _ 59 := (hAs y bA.lt hvE.out).1.trans bA
            have hvF : (Value.slice (some ⟨g5g2, 0, none⟩) (M.length + 1) c52).ownBlock ≠ some y := fun e => (hAs y bA.lt hvE.out).2 (by simpa [Value.ownBlock] using e.symm)
            have hsn3 : (M ++ [fixN]) = L2 := ((by simp only [if_true]) : _ = _).trans hsn2.out
            replace hrun := Lib.hid hrun
            replace hP2 := Lib.hid hP2
            replace hS8 := Lib.hid hS8
            replace bF := Lib.hid bF
            replace hvF := Lib.hid hvF
            clear bA hAs hP hS7 bE hvE hsn2
            have hOE : Hid (Out w z W52 (.slice (some ⟨g5g2, 0, none⟩) (M.length + 1) c52) (L1 ++ (vs.take (j + 1)).flatMap (varT t))) := Lib.hid (by rw [hL2.out, ← hsn3]; exact hP2.out)
            have hSE := hS8
            clear hsn3 hP2 hS8
            go_wp2_with (at_builtin; refine wpList_append_of rfl _ _ 35 35 rfl _ _ _ W52 rfl rfl hrun.out ?_)
            clear hrun
            go_roundw
            case rel => exact ⟨j + 1, by omega, by go_num, hOE, hSE⟩
            case measure => simp [intOf]; omega
        · have e2 : W2.cell? ⟨y, 2, none⟩ = some (.bool true) := bE.out.cell (i := 2) rfl
          have yl := bE.out.lt
          obtain ⟨g4g2, c42, W42, hrun, hP2, r3, r4, _, hAs⟩ := (hP.out.alloc (.cells #[.string ⟨#[101, 120, 112, 111, 114, 116]⟩] 9)).app rfl hM.out.2 (by have := hM.out.1; omega) hi.out hz0 hz1 hz2 (one_txs W2 ⟨#[101, 120, 112, 111, 114, 116]⟩) (by decide)
          have hS8 : Aside W42 yv (.slice (some ⟨g4g2, 0, none⟩) (M.length + 1) c42) (.slice (some ⟨g, go, none⟩) KV cn) vs := (hS7.out.of_below (Below.of_alloc W2 (.cells #[.string ⟨#[101, 120, 112, 111, 114, 116]⟩] 9))).next hAs
          have bA : Blk (W2.alloc (.cells #[.string ⟨#[101, 120, 112, 111, 114, 116]⟩] 9)) y _ 59 := bE.out.alloc _
          have bF : Blk W42 y _ 59 := (hAs y bA.lt hvE.out).1.trans bA
          have hvF : (Value.slice (some ⟨g4g2, 0, none⟩) (M.length + 1) c42).ownBlock ≠ some y := fun e => (hAs y bA.lt hvE.out).2 (by simpa [Value.ownBlock] using e.symm)
          have hsn3 : ((M ++ [expN]) ++ (if x3 = true then [fixN] else [])) = L2 := ((by simp only [if_true]) : _ = _).trans hsn2.out
          replace hrun := Lib.hid hrun
          replace hP2 := Lib.hid hP2
          replace hS8 := Lib.hid hS8
          replace bF := Lib.hid bF
          replace hvF := Lib.hid hvF
          clear bA hAs hP hS7 bE hvE hsn2
          go_upto_region 12 with (at_builtin; refine wpList_append_of rfl _ _ 35 35 rfl _ _ _ W42 rfl rfl hrun.out ?_)
          have hl2 : M.length + 1 = (M ++ [expN]).length := by rw [List.length_append]; rfl
          obtain ⟨M2, hMe⟩ : ∃ M2, M ++ [expN] = M2 := ⟨_, rfl⟩
          have hM2 : M2.length ≤ 700004 ∧ 0 < M2.length := by rw [← hMe, ← hl2]; have := hM.out; omega
          have hP3 : Out w z W42 (.slice (some ⟨g4g2, 0, none⟩) (M.length + 1) c42) (M ++ [expN]) := hP2.out
          rw [hl2, hMe] at r3 hP3 hS8 hvF ⊢
          clear r1
          have r1 := r3
          clear r3
          rw [hMe] at hsn3
          clear hM hl2 hMe hrun e2 yl hP2
          have hM := Lib.hid hM2
          have hP := Lib.hid hP3
          have hS7 := hS8
          have bE := bF
          have hvE := hvF
          have hsn2 := Lib.hid hsn3
          clear hM2 hP3 hS8 bF hvF hsn3
          cases x3
          · have e3 : W42.cell? ⟨y, 3, none⟩ = some (.bool false) := bE.out.cell (i := 3) rfl
            have yl := bE.out.lt
            replace hsn2 : Hid (M2 = L2) := Lib.hid (((by simp only [Bool.false_eq_true, if_false, List.append_nil]) : _ = _).trans hsn2.out)
            have hOE : Hid (Out w z W42 (.slice (some ⟨g4g2, 0, none⟩) M2.length c42) (L1 ++ (vs.take (j + 1)).flatMap (varT t))) := Lib.hid (by rw [hL2.out, ← hsn2.out]; exact hP.out)
            have hSE := hS7
            clear hP hS7 hsn2
            go_wp2
            go_roundw
            case rel => exact ⟨j + 1, by omega, by go_num, hOE, hSE⟩
            case measure => simp [intOf]; omega
          · have e3 : W42.cell? ⟨y, 3, none⟩ = some (.bool true) := bE.out.cell (i := 3) rfl
            have yl := bE.out.lt
            obtain ⟨g54g2, c542, W542, hrun, hP2, r3, r4, _, hAs⟩ := (hP.out.alloc (.cells #[.string ⟨#[102, 105, 120, 101, 100]⟩] 9)).app rfl hM.out.2 (by have := hM.out.1; omega) hi.out hz0 hz1 hz2 (one_txs W42 ⟨#[102, 105, 120, 101, 100]⟩) (by decide)
            have hS8 : Aside W542 yv (.slice (some ⟨g54g2, 0, none⟩) (M2.length + 1) c542) (.slice (some ⟨g, go, none⟩) KV cn) vs := (hS7.out.of_below (Below.of_alloc W42 (.cells #[.string ⟨#[102, 105, 120, 101, 100]⟩] 9))).next hAs
            have bA : Blk (W42.alloc (.cells #[.string ⟨#[102, 105, 120, 101, 100]⟩] 9)) y _ 59 := bE.out.alloc _
            have bF : Blk W542 y _ 59 := (hAs y bA.lt hvE.out).1.trans bA
            have hvF : (Value.slice (some ⟨g54g2, 0, none⟩) (M2.length + 1) c542).ownBlock ≠ some y := fun e => (hAs y bA.lt hvE.out).2 (by simpa [Value.ownBlock] using e.symm)
            have hsn3 : (M2 ++ [fixN]) = L2 := ((by simp only [if_true]) : _ = _).trans hsn2.out
            replace hrun := Lib.hid hrun
            replace hP2 := Lib.hid hP2
            replace hS8 := Lib.hid hS8
            replace bF := Lib.hid bF
            replace hvF := Lib.hid hvF
            clear bA hAs hP hS7 bE hvE hsn2
            have hOE : Hid (Out w z W542 (.slice (some ⟨g54g2, 0, none⟩) (M2.length + 1) c542) (L1 ++ (vs.take (j + 1)).flatMap (varT t))) := Lib.hid (by rw [hL2.out, ← hsn3]; exact hP2.out)
            have hSE := hS8
            clear hsn3 hP2 hS8
            go_wp2_with (at_builtin; refine wpList_append_of rfl _ _ 35 35 rfl _ _ _ W542 rfl rfl hrun.out ?_)
            clear hrun
            go_roundw
            case rel => exact ⟨j + 1, by omega, by go_num, hOE, hSE⟩
            case measure => simp [intOf]; omega
      · have e1 : W2.cell? ⟨y, 1, none⟩ = some (.bool true) := bE.out.cell (i := 1) rfl
        have yl := bE.out.lt
        obtain ⟨g3g2, c32, W32, hrun, hP2, r3, r4, _, hAs⟩ := (hP.out.alloc (.cells #[.string ⟨#[115, 101, 116]⟩] 9)).app rfl hM.out.2 (by have := hM.out.1; omega) hi.out hz0 hz1 hz2 (one_txs W2 ⟨#[115, 101, 116]⟩) (by decide)
        have hS8 : Aside W32 yv (.slice (some ⟨g3g2, 0, none⟩) (M.length + 1) c32) (.slice (some ⟨g, go, none⟩) KV cn) vs := (hS7.out.of_below (Below.of_alloc W2 (.cells #[.string ⟨#[115, 101, 116]⟩] 9))).next hAs
        have bA : Blk (W2.alloc (.cells #[.string ⟨#[115, 101, 116]⟩] 9)) y _ 59 := bE.out.alloc _
        have bF : Blk W32 y _ 59 := (hAs y bA.lt hvE.out).1.trans bA
        have hvF : (Value.slice (some ⟨g3g2, 0, none⟩) (M.length + 1) c32).ownBlock ≠ some y := fun e => (hAs y bA.lt hvE.out).2 (by simpa [Value.ownBlock] using e.symm)
        have hsn3 : (((M ++ [setN]) ++ (if x2 = true then [expN] else [])) ++ (if x3 = true then [fixN] else [])) = L2 := ((by simp only [if_true]) : _ = _).trans hsn2.out
        replace hrun := Lib.hid hrun
        replace hP2 := Lib.hid hP2
        replace hS8 := Lib.hid hS8
        replace bF := Lib.hid bF
        replace hvF := Lib.hid hvF
        clear bA hAs hP hS7 bE hvE hsn2
        go_upto_region 10 with (at_builtin; refine wpList_append_of rfl _ _ 35 35 rfl _ _ _ W32 rfl rfl hrun.out ?_)
        have hl2 : M.length + 1 = (M ++ [setN]).length := by rw [List.length_append]; rfl
        obtain ⟨M1, hMe⟩ : ∃ M1, M ++ [setN] = M1 := ⟨_, rfl⟩
        have hM2 : M1.length ≤ 700003 ∧ 0 < M1.length := by rw [← hMe, ← hl2]; have := hM.out; omega
        have hP3 : Out w z W32 (.slice (some ⟨g3g2, 0, none⟩) (M.length + 1) c32) (M ++ [setN]) := hP2.out
        rw [hl2, hMe] at r3 hP3 hS8 hvF ⊢
        clear r1
        have r1 := r3
        clear r3
        rw [hMe] at hsn3
        clear hM hl2 hMe hrun e1 yl hP2
        have hM := Lib.hid hM2
        have hP := Lib.hid hP3
        have hS7 := hS8
        have bE := bF
        have hvE := hvF
        have hsn2 := Lib.hid hsn3
        clear hM2 hP3 hS8 bF hvF hsn3
        cases x2
        · have e2 : W32.cell? ⟨y, 2, none⟩ = some (.bool false) := bE.out.cell (i := 2) rfl
          have yl := bE.out.lt
          replace hsn2 : Hid ((M1 ++ (if x3 = true then [fixN] else [])) = L2) := Lib.hid (((by simp only [Bool.false_eq_true, if_false, List.append_nil]) : _ = _).trans hsn2.out)
          go_upto_region 12 with fail
          clear e2 yl
          cases x3
          · have e3 : W32.cell? ⟨y, 3, none⟩ = some (.bool false) := bE.out.cell (i := 3) rfl
            have yl := bE.out.lt
            replace hsn2 : Hid (M1 = L2) := Lib.hid (((by simp only [Bool.false_eq_true, if_false, List.append_nil]) : _ = _).trans hsn2.out)
            have hOE : Hid (Out w z W32 (.slice (some ⟨g3g2, 0, none⟩) M1.length c32) (L1 ++ (vs.take (j + 1)).flatMap (varT t))) := Lib.hid (by rw [hL2.out, ← hsn2.out]; exact hP.out)
            have hSE := hS7
            clear hP hS7 hsn2
            go_wp2
            go_roundw
            case rel => exact ⟨j + 1, by omega, by go_num, hOE, hSE⟩
            case measure => simp [intOf]; omega
          · have e3 : W32.cell? ⟨y, 3, none⟩ = some (.bool true) := bE.out.cell (i := 3) rfl
            have yl := bE.out.lt
            obtain ⟨g53g2, c532, W532, hrun, hP2, r3, r4, _, hAs⟩ := (hP.out.alloc (.cells #[.string ⟨#[102, 105, 120, 101, 100]⟩] 9)).app rfl hM.out.2 (by have := hM.out.1; omega) hi.out hz0 hz1 hz2 (one_txs W32 ⟨#[102, 105, 120, 101, 100]⟩) (by decide)
            have hS8 : Aside W532 yv (.slice (some ⟨g53g2, 0, none⟩) (M1.length + 1) c532) (.slice (some ⟨g, go, none⟩) KV cn) vs := (hS7.out.of_below (Below.of_alloc W32 (.cells #[.string ⟨#[102, 105, 120, 101, 100]⟩] 9))).next hAs
            have bA : Blk (W32.alloc (.cells #[.string ⟨#[102, 105, 120, 101, 100]⟩] 9)) y _ 59 := bE.out.alloc _
            have bF : Blk W532 y _ 59 := (hAs y bA.lt hvE.out).1.trans bA
            have hvF : (Value.slice (some ⟨g53g2, 0, none⟩) (M1.length + 1) c532).ownBlock ≠ some y := fun e => (hAs y bA.lt hvE.out).2 (by simpa [Value.ownBlock] using e.symm)
            have hsn3 : (M1 ++ [fixN]) = L2 := ((by simp only [if_true]) : _ = _).trans hsn2.out
            replace hrun := Lib.hid hrun
            replace hP2 := Lib.hid hP2
            replace hS8 := Lib.hid hS8
            replace bF := Lib.hid bF
            replace hvF := Lib.hid hvF
            clear bA hAs hP hS7 bE hvE hsn2
            have hOE : Hid (Out w z W532 (.slice (some ⟨g53g2, 0, none⟩) (M1.length + 1) c532) (L1 ++ (vs.take (j + 1)).flatMap (varT t))) := Lib.hid (by rw [hL2.out, ← hsn3]; exact hP2.out)
            have hSE := hS8
            clear hsn3 hP2 hS8
            go_wp2_with (at_builtin; refine wpList_append_of rfl _ _ 35 35 rfl _ _ _ W532 rfl rfl hrun.out ?_)
            clear hrun
            go_roundw
            case rel => exact ⟨j + 1, by omega, by go_num, hOE, hSE⟩
            case measure => simp [intOf]; omega
        · have e2 : W32.cell? ⟨y, 2, none⟩ = some (.bool true) := bE.out.cell (i := 2) rfl
          have yl := bE.out.lt
          obtain ⟨g43g2, c432, W432, hrun, hP2, r3, r4, _, hAs⟩ := (hP.out.alloc (.cells #[.string ⟨#[101, 120, 112, 111, 114, 116]⟩] 9)).app rfl hM.out.2 (by have := hM.out.1; omega) hi.out hz0 hz1 hz2 (one_txs W32 ⟨#[101, 120, 112, 111, 114, 116]⟩) (by decide)
          have hS8 : Aside W432 yv (.slice (some ⟨g43g2, 0, none⟩) (M1.length + 1) c432) (.slice (some ⟨g, go, none⟩) KV cn) vs := (hS7.out.of_below (Below.of_alloc W32 (.cells #[.string ⟨#[101, 120, 112, 111, 114, 116]⟩] 9))).next hAs
          have bA : Blk (W32.alloc (.cells #[.string ⟨#[101, 120, 112, 111, 114, 116]⟩] 9)) y _ 59 := bE.out.alloc _
          have bF : Blk W432 y _ 59 := (hAs y bA.lt hvE.out).1.trans bA
          have hvF : (Value.slice (some ⟨g43g2, 0, none⟩) (M1.length + 1) c432).ownBlock ≠ some y := fun e => (hAs y bA.lt hvE.out).2 (by simpa [Value.ownBlock] using e.symm)
          have hsn3 : ((M1 ++ [expN]) ++ (if x3 = true then [fixN] else [])) = L2 := ((by simp only [if_true]) : _ = _).trans hsn2.out
          replace hrun := Lib.hid hrun
          replace hP2 := Lib.hid hP2
          replace hS8 := Lib.hid hS8
          replace bF := Lib.hid bF
          replace hvF := Lib.hid hvF
          clear bA hAs hP hS7 bE hvE hsn2
          go_upto_region 12 with (at_builtin; refine wpList_append_of rfl _ _ 35 35 rfl _ _ _ W432 rfl rfl hrun.out ?_)
          have hl2 : M1.length + 1 = (M1 ++ [expN]).length := by rw [List.length_append]; rfl
          obtain ⟨M12, hMe⟩ : ∃ M12, M1 ++ [expN] = M12 := ⟨_, rfl⟩
          have hM2 : M12.length ≤ 700004 ∧ 0 < M12.length := by rw [← hMe, ← hl2]; have := hM.out; omega
          have hP3 : Out w z W432 (.slice (some ⟨g43g2, 0, none⟩) (M1.length + 1) c432) (M1 ++ [expN]) := hP2.out
          rw [hl2, hMe] at r3 hP3 hS8 hvF ⊢
          clear r1
          have r1 := r3
          clear r3
          rw [hMe] at hsn3
          clear hM hl2 hMe hrun e2 yl hP2
          have hM := Lib.hid hM2
          have hP := Lib.hid hP3
          have hS7 := hS8
          have bE := bF
          have hvE := hvF
          have hsn2 := Lib.hid hsn3
          clear hM2 hP3 hS8 bF hvF hsn3
          cases x3
          · have e3 : W432.cell? ⟨y, 3, none⟩ = some (.bool false) := bE.out.cell (i := 3) rfl
            have yl := bE.out.lt
            replace hsn2 : Hid (M12 = L2) := Lib.hid (((by simp only [Bool.false_eq_true, if_false, List.append_nil]) : _ = _).trans hsn2.out)
            have hOE : Hid (Out w z W432 (.slice (some ⟨g43g2, 0, none⟩) M12.length c432) (L1 ++ (vs.take (j + 1)).flatMap (varT t))) := Lib.hid (by rw [hL2.out, ← hsn2.out]; exact hP.out)
            have hSE := hS7
            clear hP hS7 hsn2
            go_wp2
            go_roundw
            case rel => exact ⟨j + 1, by omega, by go_num, hOE, hSE⟩
            case measure => simp [intOf]; omega
          · have e3 : W432.cell? ⟨y, 3, none⟩ = some (.bool true) := bE.out.cell (i := 3) rfl
            have yl := bE.out.lt
            obtain ⟨g543g2, c5432, W5432, hrun, hP2, r3, r4, _, hAs⟩ := (hP.out.alloc (.cells #[.string ⟨#[102, 105, 120, 101, 100]⟩] 9)).app rfl hM.out.2 (by have := hM.out.1; omega) hi.out hz0 hz1 hz2 (one_txs W432 ⟨#[102, 105, 120, 101, 100]⟩) (by decide)
            have hS8 : Aside W5432 yv (.slice (some ⟨g543g2, 0, none⟩) (M12.length + 1) c5432) (.slice (some ⟨g, go, none⟩) KV cn) vs := (hS7.out.of_below (Below.of_alloc W432 (.cells #[.string ⟨#[102, 105, 120, 101, 100]⟩] 9))).next hAs
            have bA : Blk (W432.alloc (.cells #[.string ⟨#[102, 105, 120, 101, 100]⟩] 9)) y _ 59 := bE.out.alloc _
            have bF : Blk W5432 y _ 59 := (hAs y bA.lt hvE.out).1.trans bA
            have hvF : (Value.slice (some ⟨g543g2, 0, none⟩) (M12.length + 1) c5432).ownBlock ≠ some y := fun e => (hAs y bA.lt hvE.out).2 (by simpa [Value.ownBlock] using e.symm)
            have hsn3 : (M12 ++ [fixN]) = L2 := ((by simp only [if_true]) : _ = _).trans hsn2.out
            replace hrun := Lib.hid hrun
            replace hP2 := Lib.hid hP2
            replace hS8 := Lib.hid hS8
            replace bF := Lib.hid bF
            replace hvF := Lib.hid hvF
            clear bA hAs hP hS7 bE hvE hsn2
            have hOE : Hid (Out w z W5432 (.slice (some ⟨g543g2, 0, none⟩) (M12.length + 1) c5432) (L1 ++ (vs.take (j + 1)).flatMap (varT t))) := Lib.hid (by rw [hL2.out, ← hsn3]; exact hP2.out)
            have hSE := hS8
            clear hsn3 hP2 hS8
            go_wp2_with (at_builtin; refine wpList_append_of rfl _ _ 35 35 rfl _ _ _ W5432 rfl rfl hrun.out ?_)
            clear hrun
            go_roundw
            case rel => exact ⟨j + 1, by omega, by go_num, hOE, hSE⟩
            case measure => simp [intOf]; omega
    · obtain rfl : j = KV := by omega
      have hj2 : ¬ (j : Int) < (j : Int) := by omega
      rw [show vs.take j = vs by rw [← hKV.out, List.take_length]] at hO hco hLl ⊢
      obtain ⟨L, hLe⟩ : ∃ L, L1 ++ vs.flatMap (varT t) = L := ⟨_, rfl⟩
      rw [hLe] at hO hco hLl ⊢
      have htA := one_txs wr ⟨#[97, 114, 103, 115]⟩
      obtain ⟨g2, c2, W2, hrun, hP, r1, r2, _, _⟩ := (hO.out.alloc (.cells #[.string ⟨#[97, 114, 103, 115]⟩] 9)).app rfl hLl.2 (by have := hLl.1; omega) hi.out hz0 hz1 hz2 htA (by decide)
      have hca := hargs.out W2 hP.below
      replace hLe := Lib.hid hLe
      replace hP := Lib.hid hP
      replace hrun := Lib.hid hrun
      replace hLl := Lib.hid hLl
      clear hS hfl htA hO
      go_wp2_with (at_builtin; refine wpList_append_of rfl _ _ 35 35 rfl _ _ _ W2 rfl rfl hrun.out ?_)
      go_wp2_with fail
      refine hca.mono ?_
      rintro e w5 ⟨av, rfl, hav, hb5⟩
      obtain ⟨Aa, ca, rfl, htxa⟩ := txs_of_own hgn.out hav
      have hK2 : (L ++ [(⟨#[97, 114, 103, 115]⟩ : ByteArray)]).length = L.length + 1 := by rw [List.length_append]; rfl
      obtain ⟨g3, c3, W3, hrun3, hP3, r3, r4, _, _⟩ := (hP.out.of_below hb5).app hK2 (by omega) (by have := hLl.out.1; omega) hi.out hz0 hz1 hz2 htxa (by omega)
      have h2e : (L ++ [(⟨#[97, 114, 103, 115]⟩ : ByteArray)]) ++ t.cur.g.l = told2 t vs := by unfold told2 argN; rw [← hLe.out, ← hLe1.out]
      have hl3 : L.length + 1 + t.cur.g.n = (told2 t vs).length := by rw [← h2e, List.length_append, hK2, hgn.out]
      rw [h2e] at hP3
      rw [hl3] at hP3 r3
      obtain ⟨L2, hL2e⟩ : ∃ L, told2 t vs = L := ⟨_, rfl⟩
      have hl2 : L2.length ≤ 701001 ∧ 0 < L2.length := by rw [← hL2e, ← hl3]; have := hLl.out.1; omega
      rw [hL2e] at hP3 r3 hl3
      replace hP3 := Lib.hid hP3
      replace hrun3 := Lib.hid hrun3
      replace hl2 := Lib.hid hl2
      replace hL2e := Lib.hid hL2e
      replace hl3 := Lib.hid hl3
      clear hca hav hb5 htxa hK2 h2e hP hrun r1 r2 hLl hco hcom
      go_upto_region 15 with (at_builtin; refine wpList_append_of rfl _ _ 35 35 rfl _ _ _ W3 rfl rfl hrun3.out ?_)
      rw [hl3.out]
      clear hrun3 hl3
      have hc3 := hals.out W3 hP3.out.below
      go_wp2_with fail
      refine hc3.mono ?_
      rintro e w4 ⟨nv, rfl, hnv, hb4⟩
      have hS : Hid (Aside w4 W3.heap.size (.slice (some ⟨g3, 0, none⟩) L2.length c3) nv al) := Lib.hid ⟨hnv, fun g hg e => by
          have h1 := (hnv.lt g hg).1
          have h2 := (hP3.out.row.lt g e).2
          omega⟩
      have hO2 : Hid (Out w z w4 (.slice (some ⟨g3, 0, none⟩) L2.length c3) L2) := Lib.hid (hP3.out.of_below hb4)
      obtain ⟨An2, cn2, rfl, hcn2, hcnm2⟩ := own_form hnv
      obtain ⟨KA, hKA⟩ : ∃ K, al.length = K := ⟨_, rfl⟩
      obtain ⟨ya, hya⟩ : ∃ y, W3.heap.size = y := ⟨_, rfl⟩
      rw [hKA] at hcn2 hal hS ⊢
      rw [hya] at hS
      unfold maxLen at hcnm2
      have hE2 : L2 ++ (al.take 0).flatMap (aliasT t) = L2 := by rw [List.take_zero, List.flatMap_nil, List.append_nil]
      have hO3 : Hid (Out w z w4 (.slice (some ⟨g3, 0, none⟩) L2.length c3) (L2 ++ (al.take 0).flatMap (aliasT t))) := Lib.hid (by rw [hE2]; exact hO2.out)
      replace hKA := Lib.hid hKA
      clear hc3 hnv hb4 hO2 hE2 hya hP3 r3 r4
      go_wp2
      go_loopw [9, 5] (fun iv ov wr => ∃ j : Nat, j ≤ KA ∧ iv = .int .i64 (j : Int) ∧ Hid (Out w z wr ov (L2 ++ (al.take j).flatMap (aliasT t))) ∧ Hid (Aside wr ya ov (.slice An2 KA cn2) al)) (fun iv _ _ => KA - (intOf iv).toNat)
      case atStart => exact ⟨0, Nat.zero_le _, rfl, hO3, hS⟩
      case round =>
        clear hO3 hS
        obtain ⟨i, hj, rfl, hO, hS⟩ := hrel
        obtain ⟨Ao, co, rfl, hco, hcom⟩ := own_form hO.out.row
        unfold maxLen at hcom
        have hfl := flat_len (aliasT_len t) (al.take i)
        rw [List.length_take, hKA.out] at hfl
        have hLl : (L2 ++ (al.take i).flatMap (aliasT t)).length ≤ 1000000 ∧ 0 < (L2 ++ (al.take i).flatMap (aliasT t)).length := by
          rw [List.length_append]
          have := hl2.out; have := hal.out
          omega
        by_cases hlt : i < KA
        · have hjn : i < al.length := by rw [hKA.out]; exact hlt
          have hsn := flat_snoc (f := aliasT t) hjn
          have hTx := own_txs hKA.out (by have := hS.out.row; rw [hKA.out] at this; exact this)
          obtain ⟨g, go, rfl, hgl, hgc⟩ := hTx.2.2.2 (by omega)
          have ck := hgc i al[i] (List.getElem?_eq_getElem hjn)
          have hv := hali.out wr hO.out.below al[i]
          have hj1 : (0 : Int) ≤ (i : Int) := by omega
          have hj2 : (i : Int) < (KA : Int) := by omega
          generalize al[i] = k at ck hv hsn
          unfold aliasT at hsn
          obtain ⟨V, hV⟩ : ∃ V, (t.cur.a k).getD noW = V := ⟨_, rfl⟩
          rw [hV] at hv hsn
          obtain ⟨Lx, hLx⟩ : ∃ Lx, L2 ++ (al.take (i + 1)).flatMap (aliasT t) = Lx := ⟨_, rfl⟩
          have hsn2 : (L2 ++ (al.take i).flatMap (aliasT t)) ++ [k, V] = Lx := by
            rw [← hLx]
            have := hsn
            unfold aliasT at this ⊢
            rw [this]
            simp only [List.append_assoc]
          generalize (t.cur.a k).isSome = E at hv
          replace hLx := Lib.hid hLx
          replace hV := Lib.hid hV
          generalize L2 ++ (al.take i).flatMap (aliasT t) = L at hO hS hco hcom hLl hsn2 ⊢
          replace hsn2 := Lib.hid hsn2
          replace hLl := Lib.hid hLl
          clear hsn hfl hgc hTx
          go_wp2_with fail
          refine hv.mono ?_
          rintro e w5 ⟨rfl, hb5⟩
          have ck5 : w5.cell? ⟨g, go + i, none⟩ = some (.string k) := (World.cell?_of_block (a := ⟨g, go + i, none⟩) (hb5.block g hgl)).trans ck
          have hg5 : g < w5.heap.size := Nat.lt_of_lt_of_le hgl hb5.size
          obtain ⟨g2, c2, W2, hrun, hP, r1, r2, _, hAs⟩ := ((hO.out.of_below hb5).alloc (.cells #[.string k, .string V] 9)).app rfl hLl.out.2 (by have := hLl.out.1; omega) hi.out hz0 hz1 hz2 (two_txs w5 k V) (by decide)
          have hSE : Hid (Aside W2 ya (.slice (some ⟨g2, 0, none⟩) (L.length + 2) c2) (.slice (some ⟨g, go, none⟩) KA cn2) al) := Lib.hid (((hS.out.of_below hb5).of_below (Below.of_alloc w5 (.cells #[.string k, .string V] 9))).next hAs)
          have hOE : Hid (Out w z W2 (.slice (some ⟨g2, 0, none⟩) (L.length + 2) c2) (L2 ++ (al.take (i + 1)).flatMap (aliasT t))) := Lib.hid (by rw [hLx.out, ← hsn2.out]; exact hP)
          replace hrun := Lib.hid hrun
          clear hO hS hv hb5 ck hgl hAs hP hsn2 hLl
          go_wp2_with (at_builtin; refine wpList_append_of rfl _ _ 35 35 rfl _ _ _ W2 rfl rfl hrun.out ?_)
          clear hrun ck5 hg5
          go_roundw
          case rel => exact ⟨i + 1, by omega, by go_num, hOE, hSE⟩
          case measure => simp [intOf]; omega
        · obtain rfl : i = KA := by omega
          have hj3 : ¬ (i : Int) < (i : Int) := by omega
          rw [show al.take i = al by rw [← hKA.out, List.take_length]] at hO hco hLl ⊢
          obtain ⟨L, hLe2⟩ : ∃ L, L2 ++ al.flatMap (aliasT t) = L := ⟨_, rfl⟩
          rw [hLe2] at hO hco hLl ⊢
          have bT : Blk (wr.alloc (.cells #[.string ⟨#[69, 88, 73, 84]⟩, .string ⟨#[72, 85, 80]⟩, .string ⟨#[73, 78, 84]⟩, .string ⟨#[84, 69, 82, 77]⟩, .string ⟨#[85, 83, 82, 49]⟩] 9)) wr.heap.size [.string ⟨#[69, 88, 73, 84]⟩, .string ⟨#[72, 85, 80]⟩, .string ⟨#[73, 78, 84]⟩, .string ⟨#[84, 69, 82, 77]⟩, .string ⟨#[85, 83, 82, 49]⟩] 9 := Blk.new wr _ _
          have hOT := hO.out.alloc (.cells #[.string ⟨#[69, 88, 73, 84]⟩, .string ⟨#[72, 85, 80]⟩, .string ⟨#[73, 78, 84]⟩, .string ⟨#[84, 69, 82, 77]⟩, .string ⟨#[85, 83, 82, 49]⟩] 9)
          have hvT : (Value.slice Ao L.length co).ownBlock ≠ some wr.heap.size := fun e => by have := (hO.out.row.lt _ e).2; omega
          go_upto_region 22 with fail
          generalize (wr.alloc (.cells #[.string ⟨#[69, 88, 73, 84]⟩, .string ⟨#[72, 85, 80]⟩, .string ⟨#[73, 78, 84]⟩, .string ⟨#[84, 69, 82, 77]⟩, .string ⟨#[85, 83, 82, 49]⟩] 9)) = w6 at bT hOT ⊢
          generalize wr.heap.size = zT at bT hvT ⊢
          have hE3 : L ++ (fiveN.take 0).flatMap (trapT t) = L := by rw [List.take_zero, List.flatMap_nil, List.append_nil]
          have hO3 : Hid (Out w z w6 (.slice Ao L.length co) (L ++ (fiveN.take 0).flatMap (trapT t))) := Lib.hid (by rw [hE3]; exact hOT)
          replace bT := Lib.hid bT
          replace hvT := Lib.hid hvT
          replace hLe2 := Lib.hid hLe2
          replace hLl := Lib.hid hLl
          clear hO hS hOT hE3 hfl
          go_wp2
          go_loopw [13, 5] (fun iv ov wx => ∃ j : Nat, j ≤ 5 ∧ iv = .int .i64 (j : Int) ∧ Hid (Out w z wx ov (L ++ (fiveN.take j).flatMap (trapT t))) ∧ Hid (Blk wx zT [.string ⟨#[69, 88, 73, 84]⟩, .string ⟨#[72, 85, 80]⟩, .string ⟨#[73, 78, 84]⟩, .string ⟨#[84, 69, 82, 77]⟩, .string ⟨#[85, 83, 82, 49]⟩] 9) ∧ Hid (ov.ownBlock ≠ some zT)) (fun iv _ _ => 5 - (intOf iv).toNat)
          case atStart => exact ⟨0, by decide, rfl, hO3, bT, hvT⟩
          case round =>
            clear hO3 bT hvT hco hcom
            obtain ⟨q, hj, rfl, hO, bT, hvT⟩ := hrel
            obtain ⟨Ao, co, rfl, hco, hcom⟩ := own_form hO.out.row
            unfold maxLen at hcom
            have hfl := flat_len (trapT_len t) (fiveN.take q)
            rw [List.length_take] at hfl
            have hLq : (L ++ (fiveN.take q).flatMap (trapT t)).length ≤ 1000010 ∧ 0 < (L ++ (fiveN.take q).flatMap (trapT t)).length := by
              rw [List.length_append]
              have := hLl.out
              omega
            by_cases hlt : q < 5
            · have hqn : q < fiveN.length := hlt
              have hsn := flat_snoc (f := trapT t) hqn
              have hk : ([.string ⟨#[69, 88, 73, 84]⟩, .string ⟨#[72, 85, 80]⟩, .string ⟨#[73, 78, 84]⟩, .string ⟨#[84, 69, 82, 77]⟩, .string ⟨#[85, 83, 82, 49]⟩] : List Value)[q]? = some (.string fiveN[q]) := by
                match q, hlt with
                | 0, _ => rfl
                | 1, _ => rfl
                | 2, _ => rfl
                | 3, _ => rfl
                | 4, _ => rfl
              have ck := bT.out.cell hk
              have cl := bT.out.lt
              have hv := htra.out wr hO.out.below fiveN[q]
              have hj1 : (0 : Int) ≤ (q : Int) := by omega
              have hj2 : (q : Int) < 5 := by omega
              generalize fiveN[q] = k at ck hv hsn hk
              unfold trapT at hsn
              obtain ⟨V, hV⟩ : ∃ V, (t.cur.t k).getD noW = V := ⟨_, rfl⟩
              obtain ⟨E, hE⟩ : ∃ E, (t.cur.t k).isSome = E := ⟨_, rfl⟩
              rw [hV, hE] at hv hsn
              obtain ⟨Lx, hLx⟩ : ∃ Lx, L ++ (fiveN.take (q + 1)).flatMap (trapT t) = Lx := ⟨_, rfl⟩
              have hsn2 : (L ++ (fiveN.take q).flatMap (trapT t)) ++ (if E = true then [k, V] else []) = Lx := by
                rw [← hLx]
                have := hsn
                unfold trapT at this ⊢
                rw [this]
                simp only [List.append_assoc]
              replace hLx := Lib.hid hLx
              replace hV := Lib.hid hV
              replace hE := Lib.hid hE
              generalize L ++ (fiveN.take q).flatMap (trapT t) = M at hO hvT hco hcom hLq hsn2 ⊢
              replace hsn2 := Lib.hid hsn2
              replace hLq := Lib.hid hLq
              clear hsn hfl hk hqn
              cases E
              · have hOE : ∀ W, Hid (Below wr.heap.size wr W → Out w z W (.slice Ao M.length co) (L ++ (fiveN.take (q + 1)).flatMap (trapT t)) ∧ Blk W zT _ _) := fun W => Lib.hid fun hb => ⟨by rw [hLx.out, ← hsn2.out]; simpa using hO.out.of_below hb, (hb.block zT cl).trans bT.out⟩
                go_wp2_with fail
                refine hv.mono ?_
                rintro e w5 ⟨rfl, hb5⟩
                obtain ⟨hOF, bF⟩ := (hOE w5).out hb5
                replace hOF := Lib.hid hOF
                replace bF := Lib.hid bF
                clear hOE hO bT hb5 hv ck cl hsn2 hLq
                go_wp2
                go_roundw
                case rel => exact ⟨q + 1, by omega, by go_num, hOF, bF, hvT⟩
                case measure => simp [intOf]; omega
              · go_wp2_with fail
                refine hv.mono ?_
                rintro e w5 ⟨rfl, hb5⟩
                have b5 : Blk w5 zT _ _ := (hb5.block zT cl).trans bT.out
                have ck5 := (World.cell?_of_block (a := ⟨zT, q, none⟩) (hb5.block zT cl)).trans ck
                have cl5 := b5.lt
                obtain ⟨g2, c2, W2, hrun, hP, r1, r2, _, hAs⟩ := ((hO.out.of_below hb5).alloc (.cells #[.string k, .string V] 9)).app rfl hLq.out.2 (by have := hLq.out.1; omega) hi.out hz0 hz1 hz2 (two_txs w5 k V) (by decide)
                have bA : Blk (w5.alloc (.cells #[.string k, .string V] 9)) zT _ _ := b5.alloc _
                have bF : Hid (Blk W2 zT [.string ⟨#[69, 88, 73, 84]⟩, .string ⟨#[72, 85, 80]⟩, .string ⟨#[73, 78, 84]⟩, .string ⟨#[84, 69, 82, 77]⟩, .string ⟨#[85, 83, 82, 49]⟩] 9) := Lib.hid ((hAs zT bA.lt hvT.out).1.trans bA)
                have hvF : Hid ((Value.slice (some ⟨g2, 0, none⟩) (M.length + 2) c2).ownBlock ≠ some zT) := Lib.hid fun e => (hAs zT bA.lt hvT.out).2 (by simpa [Value.ownBlock] using e.symm)
                have hOF : Hid (Out w z W2 (.slice (some ⟨g2, 0, none⟩) (M.length + 2) c2) (L ++ (fiveN.take (q + 1)).flatMap (trapT t))) := Lib.hid (by rw [hLx.out, ← hsn2.out]; exact hP)
                replace hrun := Lib.hid hrun
                clear hO bT hvT hb5 hv ck cl hsn2 hLq hP hAs bA b5
                go_wp2_with (at_builtin; refine wpList_append_of rfl _ _ 35 35 rfl _ _ _ W2 rfl rfl hrun.out ?_)
                clear hrun ck5 cl5
                go_roundw
                case rel => exact ⟨q + 1, by omega, by go_num, hOF, bF, hvF⟩
                case measure => simp [intOf]; omega
            · obtain rfl : q = 5 := by omega
              have hj4 : ¬ (5 : Int) < (5 : Int) := by omega
              rw [show fiveN.take 5 = fiveN from rfl] at hO hco hLq ⊢
              have h3e : L ++ fiveN.flatMap (trapT t) = told3 t vs al := by unfold told3; rw [hL2e.out, ← hLe2.out]
              rw [h3e] at hO hco hLq ⊢
              obtain ⟨L3, hL3⟩ : ∃ L, told3 t vs al = L := ⟨_, rfl⟩
              rw [hL3] at hO hco hLq ⊢
              have hE4 : L3 ++ (l.take 0).flatMap (funcT t) = L3 := by rw [List.take_zero, List.flatMap_nil, List.append_nil]
              have hO4 : Hid (Out w z wr (.slice Ao L3.length co) (L3 ++ (l.take 0).flatMap (funcT t))) := Lib.hid (by rw [hE4]; exact hO.out)
              replace hL3 := Lib.hid hL3
              replace hLq := Lib.hid hLq
              clear hO bT hvT hfl h3e hE4
              go_wp2
              go_loopw [16, 5] (fun iv ov wx => ∃ j : Nat, j ≤ m ∧ iv = .int .i64 (j : Int) ∧ Hid (Out w z wx ov (L3 ++ (l.take j).flatMap (funcT t)))) (fun iv _ _ => m - (intOf iv).toNat)
              case atStart => exact ⟨0, Nat.zero_le _, rfl, hO4⟩
              case round =>
                clear hO4 hco hcom
                obtain ⟨j, hj, rfl, hO⟩ := hrel
                obtain ⟨Ao, co, rfl, hco, hcom⟩ := own_form hO.out.row
                unfold maxLen at hcom
                have hfl := flat_len (funcT_len t) (l.take j)
                rw [List.length_take, hlm.out] at hfl
                have hLj : (L3 ++ (l.take j).flatMap (funcT t)).length ≤ 1300000 ∧ 0 < (L3 ++ (l.take j).flatMap (funcT t)).length := by
                  rw [List.length_append]
                  have := hLq.out
                  omega
                by_cases hlt : j < m
                · have hjn : j < l.length := by rw [hlm.out]; exact hlt
                  have hsn := flat_snoc (f := funcT t) hjn
                  have hTx := htxb.out wr hO.out.below
                  obtain ⟨g, go, rfl, hgl, hgc⟩ := hTx.2.2.2 (by omega)
                  have ck := hgc j l[j] (List.getElem?_eq_getElem hjn)
                  have hgzl : g < z := by
                    obtain ⟨b0, o0, e0, hb0, _⟩ := (htx0.out).2.2.2 (by omega)
                    cases e0
                    rw [← hz.out]; exact hb0
                  have hv := hfun.out wr hO.out.below l[j]
                  have hgz : (Value.slice Ao (L3 ++ (l.take j).flatMap (funcT t)).length co).ownBlock ≠ some g := fun e => by
                    have h1 := (hO.out.row.lt g e).1
                    have h2 := hgzl
                    omega
                  have hj1 : (0 : Int) ≤ (j : Int) := by omega
                  have hj2 : (j : Int) < (m : Int) := by omega
                  generalize l[j] = k at ck hv hsn
                  unfold funcT at hsn
                  obtain ⟨V, hV⟩ : ∃ V, (t.cur.f k).getD noN = V := ⟨_, rfl⟩
                  obtain ⟨E, hE⟩ : ∃ E, (t.cur.f k).isSome = E := ⟨_, rfl⟩
                  rw [hV, hE] at hv hsn
                  obtain ⟨vk, x0⟩ := V
                  unfold encN at hv
                  dsimp only at hv hsn
                  obtain ⟨Lx, hLx⟩ : ∃ Lx, L3 ++ (l.take (j + 1)).flatMap (funcT t) = Lx := ⟨_, rfl⟩
                  have hsn2 : (L3 ++ (l.take j).flatMap (funcT t)) ++ (if E = true then [k, x0] else []) = Lx := by
                    rw [← hLx]
                    have := hsn
                    unfold funcT at this ⊢
                    rw [this]
                    simp only [List.append_assoc]
                  replace hLx := Lib.hid hLx
                  replace hV := Lib.hid hV
                  replace hE := Lib.hid hE
                  generalize L3 ++ (l.take j).flatMap (funcT t) = L at hO hco hcom hLj hsn2 hgz ⊢
                  replace hsn2 := Lib.hid hsn2
                  replace hLl := Lib.hid hLj
                  replace hgz := Lib.hid hgz
                  clear hsn hfl hgc hTx hLj
                  go_wp2_with fail
                  refine hv.mono ?_
                  rintro e w5 ⟨rfl, hb5⟩
                  have hO5 := Lib.hid ((hO.out.of_below hb5).alloc (.cells #[.int .i64 vk, .bool false, .string x0, .bool false, .slice none 0 0, .slice none 0 0, .slice none 0 0, .slice none 0 0, .slice none 0 0] 88))
                  have ck5 : w5.cell? ⟨g, go + j, none⟩ = some (.string k) := (World.cell?_of_block (a := ⟨g, go + j, none⟩) (hb5.block g hgl)).trans ck
                  have hg5 : g < w5.heap.size := Nat.lt_of_lt_of_le hgl hb5.size
                  have bB : Blk (w5.alloc (.cells #[.int .i64 vk, .bool false, .string x0, .bool false, .slice none 0 0, .slice none 0 0, .slice none 0 0, .slice none 0 0, .slice none 0 0] 88)) w5.heap.size [.int .i64 vk, .bool false, .string x0, .bool false, .slice none 0 0, .slice none 0 0, .slice none 0 0, .slice none 0 0, .slice none 0 0] 88 := Blk.new w5 _ _
                  have ckB : (w5.alloc (.cells #[.int .i64 vk, .bool false, .string x0, .bool false, .slice none 0 0, .slice none 0 0, .slice none 0 0, .slice none 0 0, .slice none 0 0] 88)).cell? ⟨g, go + j, none⟩ = some (.string k) := (World.cell?_of_block (a := ⟨g, go + j, none⟩) ((Below.of_alloc w5 _).block g hg5)).trans ck5
                  have hvB : ∀ q, (Value.slice Ao L.length co).ownBlock = some q → q ≠ w5.heap.size := fun q hq e => by
                    have h1 := (hO.out.row.lt q hq).2
                    have h2 := hb5.size
                    omega
                  go_upto_region 32 with fail
                  generalize (w5.alloc (.cells #[.int .i64 vk, .bool false, .string x0, .bool false, .slice none 0 0, .slice none 0 0, .slice none 0 0, .slice none 0 0, .slice none 0 0] 88)) = wB at hO5 bB ckB ⊢
                  generalize w5.heap.size = y at bB hvB ⊢
                  replace hvB := Lib.hid hvB
                  clear hO hv hb5 ck5 hg5 ck hgl
                  cases E
                  · have hOF : Hid (Out w z wB (.slice Ao L.length co) (L3 ++ (l.take (j + 1)).flatMap (funcT t))) := Lib.hid (by rw [hLx.out, ← hsn2.out]; simpa using hO5.out)
                    clear hO5 bB ckB hvB hsn2 hLl hgz
                    go_wp2
                    go_roundw
                    case rel => exact ⟨j + 1, by omega, by go_num, hOF⟩
                    case measure => simp [intOf]; omega
                  · go_upto_region 33 with fail
                    have hO6 : Out w z wB.drew (.slice Ao L.length co) L := hO5.out.drewN 1
                    have bD : Blk wB.drew y [.int .i64 vk, .bool false, .string x0, .bool false, .slice none 0 0, .slice none 0 0, .slice none 0 0, .slice none 0 0, .slice none 0 0] 88 := bB
                    have e0 : wB.drew.cell? ⟨y, 2, none⟩ = some (.string x0) := bB.cell (i := 2) rfl
                    have ckD : wB.drew.cell? ⟨g, go + j, none⟩ = some (.string k) := ckB
                    obtain ⟨q0, hq0⟩ : ∃ q, wB.drew = q := ⟨_, rfl⟩
                    rw [hq0] at hO6 bD e0 ckD
                    have htx2 := two_txs q0 k x0
                    obtain ⟨gg2, cap2, W2, hrun, hP, r1, r2, r3, hAs⟩ := (hO6.alloc (.cells #[.string k, .string x0] 9)).app rfl hLl.out.2 (by have := hLl.out.1; omega) hi.out hz0 hz1 hz2 htx2 (by decide)
                    have bA : Blk (q0.alloc (.cells #[.string k, .string x0] 9)) y [.int .i64 vk, .bool false, .string x0, .bool false, .slice none 0 0, .slice none 0 0, .slice none 0 0, .slice none 0 0, .slice none 0 0] 88 := bD.alloc _
                    have hne7 : (Value.slice Ao L.length co).ownBlock ≠ some y := fun e => hvB.out y e rfl
                    have bE : Blk W2 y [.int .i64 vk, .bool false, .string x0, .bool false, .slice none 0 0, .slice none 0 0, .slice none 0 0, .slice none 0 0, .slice none 0 0] 88 := (hAs y bA.lt hne7).1.trans bA
                    have hvE : (Value.slice (some ⟨gg2, 0, none⟩) (L.length + 2) cap2).ownBlock ≠ some y := fun e => (hAs y bA.lt hne7).2 (by simpa [Value.ownBlock] using e.symm)
                    obtain ⟨W1, hW1⟩ : ∃ W1, q0.alloc (.cells #[.string k, .string x0] 9) = W1 := ⟨_, rfl⟩
                    have ka0 : W1.cell? ⟨y, 2, none⟩ = some (.string x0) := by rw [← hW1]; exact bA.cell (i := 2) rfl
                    have ka1 : W1.cell? ⟨g, go + j, none⟩ = some (.string k) := by rw [← hW1]; exact (World.cell?_of_block (a := ⟨g, go + j, none⟩) ((Below.of_alloc q0 _).block g (World.block_lt_of_cell? q0 _ ckD))).trans ckD
                    have kb0 : W2.cell? ⟨y, 2, none⟩ = some (.string x0) := bE.cell (i := 2) rfl
                    have hgA : (Value.slice Ao L.length co).ownBlock ≠ some g := hgz.out
                    have kb1 : W2.cell? ⟨g, go + j, none⟩ = some (.string k) := (World.cell?_of_block (a := ⟨g, go + j, none⟩) (hAs g (by rw [hW1]; exact World.block_lt_of_cell? W1 _ ka1) hgA).1).trans (by rw [hW1]; exact ka1)
                    have hl2 : L.length + 2 = (L ++ [k, x0]).length := by rw [List.length_append]; rfl
                    rw [hW1] at hrun
                    replace hP := Lib.hid hP
                    replace bE := Lib.hid bE
                    replace hvE := Lib.hid hvE
                    replace hrun := Lib.hid hrun
                    replace hW1 := Lib.hid hW1
                    replace hq0 := Lib.hid hq0
                    replace hl2 := Lib.hid hl2
                    clear hO6 bD bA hAs htx2 hO5 bB ckB hvB hne7 hgA r3
                    refine wp_region_last (L := 9) (S := (fun w' : World => w'.cell? ⟨y, 2, none⟩ = some (.string x0) ∧ w'.cell? ⟨g, go + j, none⟩ = some (.string k))) (by kernel_rfl) ?_
                    rw [hq0.out]
                    have hS0 : (fun w' : World => w'.cell? ⟨y, 2, none⟩ = some (.string x0) ∧ w'.cell? ⟨g, go + j, none⟩ = some (.string k)) q0 := ⟨e0, ckD⟩
                    refine wpAnyT_takeT (n := 40) (i := 0) (v := .slice Ao L.length co) rfl (by kernel_rfl) (by kernel_rfl) (by kernel_rfl) (by kernel_rfl) (by kernel_rfl) (fun _ _ _ h => h) (Or.inl ⟨by rfl, ?_⟩) hS0 ?_
                    · intro W hW
                      obtain ⟨k0, k1⟩ := hW
                      clear hS0 e0 ckD ka0 ka1 kb0 kb1
                      go_simp
                      try (intro hx; exfalso; omega)
                    try simp only [Act.put, List.setIfInBounds_toArray]
                    refine wpAnyT_takeT (n := 40) (i := 1) (v := .slice (some ⟨g, go, none⟩) m c) rfl (by kernel_rfl) (by kernel_rfl) (by kernel_rfl) (by kernel_rfl) (by kernel_rfl) (fun _ _ _ h => h) (Or.inl ⟨by rfl, ?_⟩) hS0 ?_
                    · intro W hW
                      obtain ⟨k0, k1⟩ := hW
                      clear hS0 e0 ckD ka0 ka1 kb0 kb1
                      go_simp
                      try (intro hx; exfalso; omega)
                    try simp only [Act.put]
                    refine wpAnyT_takeT (n := 40) (i := 2) (v := .int .i64 (j : Int)) rfl (by kernel_rfl) (by kernel_rfl) (by kernel_rfl) (by kernel_rfl) (by kernel_rfl) (fun _ _ _ h => h) (Or.inl ⟨by rfl, ?_⟩) hS0 ?_
                    · intro W hW
                      obtain ⟨k0, k1⟩ := hW
                      clear hS0 e0 ckD ka0 ka1 kb0 kb1
                      go_simp
                      try (intro hx; exfalso; omega)
                    try simp only [Act.put]
                    refine wpAnyT_takeT (n := 40) (i := 3) (v := .pointer (some ⟨g, go + j, none⟩)) rfl (by kernel_rfl) (by kernel_rfl) (by kernel_rfl) (by kernel_rfl) (by kernel_rfl) (fun _ _ _ h => h) (Or.inl ⟨by rfl, ?_⟩) hS0 ?_
                    · intro W hW
                      obtain ⟨k0, k1⟩ := hW
                      clear hS0 e0 ckD ka0 ka1 kb0 kb1
                      go_simp
                      try (intro hx; exfalso; omega)
                    try simp only [Act.put]
                    refine wpAnyT_takeT (n := 40) (i := 4) (v := .string k) rfl (by kernel_rfl) (by kernel_rfl) (by kernel_rfl) (by kernel_rfl) (by kernel_rfl) (fun _ _ _ h => h) (Or.inl ⟨by rfl, ?_⟩) hS0 ?_
                    · intro W hW
                      obtain ⟨k0, k1⟩ := hW
                      clear hS0 e0 ckD ka0 ka1 kb0 kb1
                      go_simp
                      try (intro hx; exfalso; omega)
                    try simp only [Act.put]
                    refine wpAnyT_takeT (n := 40) (i := 5) (v := .pointer (some ⟨y, 2, none⟩)) rfl (by kernel_rfl) (by kernel_rfl) (by kernel_rfl) (by kernel_rfl) (by kernel_rfl) (fun _ _ _ h => h) (Or.inl ⟨by rfl, ?_⟩) hS0 ?_
                    · intro W hW
                      obtain ⟨k0, k1⟩ := hW
                      clear hS0 e0 ckD ka0 ka1 kb0 kb1
                      go_simp
                      try (intro hx; exfalso; omega)
                    try simp only [Act.put]
                    refine wpAnyT_takeT (n := 40) (i := 6) (v := .string x0) rfl (by kernel_rfl) (by kernel_rfl) (by kernel_rfl) (by kernel_rfl) (by kernel_rfl) (fun _ _ _ h => h) (Or.inl ⟨by rfl, ?_⟩) hS0 ?_
                    · intro W hW
                      obtain ⟨k0, k1⟩ := hW
                      clear hS0 e0 ckD ka0 ka1 kb0 kb1
                      go_simp
                      try (intro hx; exfalso; omega)
                    try simp only [Act.put]
                    clear hS0
                    refine wpAnyT_one (i := 7) rfl (by kernel_rfl) rfl ?_
                    go_simp
                    rw [hW1.out]
                    try refine ⟨⟨ka0, ka1⟩, ?_⟩
                    refine wpAnyT_one (i := 8) rfl (by kernel_rfl) rfl ?_
                    refine wp_app_of (.tmp 135) (.tmp 142) 35 35 rfl _ _ _ W2 rfl rfl hrun.out ?_
                    refine ⟨fun _ => ⟨kb0, kb1⟩, ?_⟩
                    try simp only [Act.put, List.setIfInBounds_toArray]
                    refine wpAnyT_one (i := 9) rfl (by kernel_rfl) rfl ?_
                    go_simp
                    refine wpAnyT_done (by kernel_rfl) ?_ _
                    clear ka0 ka1 kb0 kb1 e0 ckD hrun hW1 hq0 hco hcom
                    have hOF : Hid (Out w z W2 (.slice (some ⟨gg2, 0, none⟩) (L.length + 2) cap2) (L3 ++ (l.take (j + 1)).flatMap (funcT t))) := Lib.hid (by rw [hLx.out, ← hsn2.out]; exact hP.out)
                    clear hP hsn2 hLl hgz r1 r2
                    go_wp2
                    go_roundw
                    case rel => exact ⟨j + 1, by omega, by go_num, hOF⟩
                    case measure => simp [intOf]; omega
                · obtain rfl : j = m := by omega
                  have hj5 : ¬ (j : Int) < (j : Int) := by omega
                  rw [show l.take j = l by rw [← hlm.out, List.take_length]] at hO ⊢
                  have h4e : L3 ++ l.flatMap (funcT t) = TL := by rw [← hTL.out, toldL, hL3.out]
                  rw [h4e] at hO ⊢
                  have hfin : Hid (World.ownsRow wr z 9 1 (.slice Ao TL.length co) TL.length (TL.map .string) ∧ Below z w wr) := Lib.hid ⟨hO.out.row, hO.out.below⟩
                  clear hO hfl hLj h4e
                  go_wp2
                  go_ret
                  exact ⟨_, rfl, hfin.out⟩
end
end Go.Proofs.YtigmdfdcflkggaaGreat
