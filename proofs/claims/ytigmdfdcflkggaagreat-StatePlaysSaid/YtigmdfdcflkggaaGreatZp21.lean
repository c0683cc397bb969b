/-
  StatePlays: whatever calls come in, the law answers true and leaves them as they were. Conditions: none.
-/
import Derived.Test.YtigmdfdcflkggaaGreatZp9
import Derived.Test.YtigmdfdcflkggaaGreatZp20
set_option linter.unusedSimpArgs false
set_option linter.unusedVariables false
namespace Go.Proofs.YtigmdfdcflkggaaGreat
open Go Go.RowKit Go.ChangeMaps

section
variable {P : Program} {ops : Array Oper} {Q : Exit → Act → World → Prop} {md : Region.Mode} {S S' : World → Prop}
/-- From here on a condition that says more. -/
theorem wpAnyH_strong (hS : ∀ w, S' w → S w) : ∀ {fuel : Nat} {listed : Array Bool} {a : Act} {w : World}, wpAnyH P md ops Q S' fuel listed a w → wpAnyH P md ops Q S fuel listed a w
  | 0, _, _, _, h => h
  | fuel + 1, _, _, _, h => ⟨h.1, fun i hi => wpOp_mono (fun a' w' h' => ⟨hS _ h'.1, wpAnyH_strong hS h'.2⟩) (h.2 i hi)⟩
end
theorem canon_nil {α : Type} : CanonG (fun _ => (none : Option α)) [] := ⟨List.Pairwise.nil, fun _ => rfl⟩
theorem corr0 : Corr (new0 1000 20).cur rf0 := ⟨canon_nil, fun _ => rfl, canon_nil, canon_nil, rfl, by decide, rfl, rfl, rfl, rfl, fun _ _ h => (by cases h)⟩
theorem bd0 : Bd 0 rf0 := ⟨Nat.le_refl _, Nat.le_refl _, Nat.le_refl _, Nat.le_refl _⟩
theorem begun_pj {w w4 : World} {sb p q mn cn : Nat} {a : Ad} {An : Option Addr} {ks : List ByteArray} (hS : StAt w4 w.heap.size sb a 0 (new0 1000 20) 0) (hb : Blk w4 p [ptrV q, .slice none 0 0] 34) (hp : w.heap.size ≤ p) (hR : RfA w4 q rf0) (hq : w.heap.size ≤ q) (hn : w4.ownsRow 0 9 1 (.slice An mn cn) mn (ks.map .string)) (hB : Below w.heap.size w w4) :
    Pj w.heap.size sb p a An mn cn ks w 0 0 0 (new0 1000 20) 0 q rf0 [] none 0 w4 :=
  ⟨hS, ⟨hb, World.ownsRow_nil _ _ _ _, hp⟩, hR, corr0, bd0, ⟨rfl, fun i Z x h _ => (by cases h), List.nodup_cons.2 ⟨fun h => (by cases h), List.nodup_nil⟩, hq, fun Z h => (by cases h)⟩, rfl, ⟨⟨fun k x hk => (by cases hk), Nat.zero_le _⟩, fun p hp => (by cases hp)⟩, rfl, fun k x h => (by cases h), rfl, Nat.le_refl _, hn, hB⟩
set_option maxHeartbeats 16000000 in
set_option maxRecDepth 100000 in
theorem lawPlays_any {A : Option Addr} {m c : Nat} {l : List Od} (w : World) (h : OpsC w A m c l) (hL : ∀ o ∈ l, Txs w o.A o.m o.c o.l) (h64 : ∀ o ∈ l, In64 o.x ∧ In64 o.n) :
    Calls Tryz.prog 3 #[.slice A m c] w fun e w' => e = .returned (.bool true) ∧ Below w.heap.size w w' := by
  have haw := fun W => awake_any W
  have hfew := Few_any w h hL
  have hbg := begun_any 1000 w (by decide)
  have hcm := h.2.2.1
  have hmc := h.2.1
  unfold maxLen at hcm
  replace haw := Lib.hid haw
  replace hfew := Lib.hid hfew
  replace hbg := Lib.hid hbg
  replace h := Lib.hid h
  replace h64 := Lib.hid h64
  replace hL := Lib.hid hL
  go_enter Tryz.func3, Tryz.ntmps3
  go_wp2_with fail
  refine hfew.out.mono ?_
  rintro e w' (⟨rfl, hwq, hm1, hok⟩ | ⟨rfl, hwq⟩)
  · obtain rfl := hwq.symm
    replace hok := Lib.hid hok
    clear hwq hfew
    go_wp2_with fail
    refine hbg.out.mono ?_
    rintro e w1 ⟨a, sb, rfl, hS, hb1⟩
    have hrn := rNew_any w1
    unfold ptrV at hrn
    replace hS := Lib.hid hS
    replace hb1 := Lib.hid hb1
    unfold ptrV
    clear hbg
    go_wp2_with fail
    refine hrn.mono ?_
    rintro e w2 ⟨q, rfl, hR, hge, hb2⟩
    obtain ⟨p, hp⟩ : ∃ p, w2.heap.size = p := ⟨_, rfl⟩
    have bP : Blk (w2.alloc (.cells #[.pointer (some ⟨q, 0, none⟩), .slice none 0 0] 34)) p [ptrV q, .slice none 0 0] 34 := by rw [← hp]; exact Blk.new w2 _ _
    have hb3 := Below.of_alloc w2 (.cells #[.pointer (some ⟨q, 0, none⟩), .slice none 0 0] 34)
    have hS3 := Lib.hid ((hS.out.below hb2).below hb3)
    have hR3 := Lib.hid (hR.below hb3)
    have hB3 := Lib.hid ((hb1.out.trans (hb2.mono hb1.out.size)).trans (hb3.mono (Nat.le_trans hb1.out.size hb2.size)))
    have hqB : Hid (w.heap.size ≤ q ∧ w.heap.size ≤ p) := Lib.hid (by have := hb1.out.size; have := hb2.size; omega)
    replace bP := Lib.hid bP
    clear hrn hR hge hb2 hb3 hS hb1
    go_upto_region 5 with fail
    try rw [hp]
    generalize (w2.alloc (.cells #[.pointer (some ⟨q, 0, none⟩), .slice none 0 0] 34)) = w3 at bP hS3 hR3 hB3 ⊢
    clear hp
    have hnm := named_any w3 (h.out.below hB3.out) (by omega)
    have hll : (l.map (·.k)).length = m := by rw [List.length_map]; exact h.out.1
    have hno : namesO l = (l.map (·.k)).map .string := by unfold namesO; rw [List.map_map]; rfl
    have hks : ∀ s ∈ l.map (·.k), s.size ≤ 1000000 := fun s hs => by
      obtain ⟨o, ho, rfl⟩ := List.mem_map.1 hs
      have := (hok.out o ho).1
      omega
    rw [hno] at hnm
    generalize l.map (·.k) = ks at hnm hll hks
    replace hll := Lib.hid hll
    replace hks := Lib.hid hks
    clear hno
    go_wp2_with fail
    refine hnm.mono ?_
    rintro e w4 ⟨v, rfl, hown, hb4⟩
    obtain ⟨An, cn, rfl, _, _⟩ := own_form hown
    have hP0 := Lib.hid (begun_pj (hS3.out.below hb4) ((hb4.block p bP.out.lt).trans bP.out) hqB.out.2 (hR3.out.below hb4) hqB.out.1 (hown.mono (Nat.zero_le _)) (hB3.out.trans (hb4.mono hB3.out.size)))
    clear hnm hown hb4 hS3 bP hR3 hB3 hqB
    go_wp2
    go_loopw [8] (fun iv wr => ∃ (i : Nat) (t : Tg) (n : Int) (rb : Nat) (r : Rf) (ws : List Nat) (A2 : Option Addr) (c2 : Nat), i ≤ m ∧ iv = .int .i64 (i : Int) ∧ Hid (Pj w.heap.size sb p a An m cn ks w (12 * i) (2 * i) (6 * i) t n rb r ws A2 c2 wr)) (fun iv _ => m - (intOf iv).toNat)
    case atStart => exact ⟨0, _, _, _, _, _, _, _, Nat.zero_le _, rfl, hP0⟩
    case round =>
      clear hP0
      obtain ⟨i, t, n, rb, r, ws, A2, c2, hi, rfl, hP⟩ := hrel
      by_cases hlt : i < m
      · obtain ⟨hlen, _, _, hcell⟩ := h.out
        have hil : i < l.length := by omega
        obtain ⟨b, off, rfl, hbl, hcc⟩ := hcell (by omega)
        have hx := h64.out l[i] (List.getElem_mem hil)
        have hko := hok.out l[i] (List.getElem_mem hil)
        have htx := fun W (hW : Below w.heap.size w W) => (hL.out l[i] (List.getElem_mem hil)).below hW
        have hce := fun W (hW : Below w.heap.size w W) => (⟨(World.cell?_of_block (a := ⟨b, off + i * 5, none⟩) (hW.block b hbl)).trans (hcc i l[i] (List.getElem?_eq_getElem hil)).1, (World.cell?_of_block (a := ⟨b, off + i * 5 + 1, none⟩) (hW.block b hbl)).trans (hcc i l[i] (List.getElem?_eq_getElem hil)).2.1, (World.cell?_of_block (a := ⟨b, off + i * 5 + 2, none⟩) (hW.block b hbl)).trans (hcc i l[i] (List.getElem?_eq_getElem hil)).2.2.1, (World.cell?_of_block (a := ⟨b, off + i * 5 + 3, none⟩) (hW.block b hbl)).trans (hcc i l[i] (List.getElem?_eq_getElem hil)).2.2.2.1, (World.cell?_of_block (a := ⟨b, off + i * 5 + 4, none⟩) (hW.block b hbl)).trans (hcc i l[i] (List.getElem?_eq_getElem hil)).2.2.2.2⟩ : W.cell? ⟨b, off + i * 5, none⟩ = some (.int .i64 l[i].x) ∧ W.cell? ⟨b, off + i * 5 + 1, none⟩ = some (.string l[i].k) ∧ W.cell? ⟨b, off + i * 5 + 2, none⟩ = some (.string l[i].s) ∧ W.cell? ⟨b, off + i * 5 + 3, none⟩ = some (.int .i64 l[i].n) ∧ W.cell? ⟨b, off + i * 5 + 4, none⟩ = some (.slice l[i].A l[i].m l[i].c))
        generalize l[i] = o at hx hko hce htx
        obtain ⟨x, k, s, g, Ao, mo, co, lo⟩ := o
        have hi1 : (0 : Int) ≤ (i : Int) := by omega
        have hi2 : (i : Int) < (m : Int) := by omega
        have hputs := fun W (hW : Pj w.heap.size sb p a An m cn ks w (12 * i) (2 * i) (6 * i) t n rb r ws A2 c2 W) => puts_step hW (by omega) (by omega) hx.2 hko
        have hdoes := fun W t r (hW : Pj w.heap.size sb p a An m cn ks w (12 * i + 2) (2 * i + 1) (6 * i + 1) t n rb r ws A2 c2 W) => does_step hW (by omega) (htx W hW.fr) hx.1 hx.2 hko
        have hasked := fun W t r ans t' n' (hW : Dj w.heap.size sb p a An m cn ks w (12 * i + 2) (2 * i + 1) (6 * i + 1) ⟨x, k, s, g, Ao, mo, co, lo⟩ ans t t' n n' rb r ws A2 c2 W) => asked_step hW (by omega) (by omega) (htx W hW.fr) hx.1 hx.2 hko
        have hsame := fun W t' n' rb' r' ws' A' c' (hW : Pj w.heap.size sb p a An m cn ks w (12 * i + 2 + 10) (2 * i + 1 + 1) (6 * i + 1 + 5) t' n' rb' r' ws' A' c' W) => same_step hW (by omega) (by omega) hll.out (by omega) hks.out
        have hmarks := fun W t' n' rb' r' ws' A' c' (hW : Pj w.heap.size sb p a An m cn ks w (12 * i + 2 + 10) (2 * i + 1 + 1) (6 * i + 1 + 5) t' n' rb' r' ws' A' c' W) => marks_step hW
        have hpc := fun W pt N M t' n' rb' r' ws' A' c' (hW : Pj w.heap.size sb p a An m cn ks w pt N M t' n' rb' r' ws' A' c' W) => (⟨hW.al.blk.cell (i := 0) rfl, hW.al.blk.cell (i := 1) rfl⟩ : W.cell? ⟨p, 0, none⟩ = some (ptrV rb') ∧ W.cell? ⟨p, 1, none⟩ = some (.slice A' ws'.length c'))
        dsimp only at hce hputs hdoes hasked hsame hmarks
        unfold ptrV at hputs hdoes hasked hsame hmarks hpc
        replace hputs := Lib.hid hputs
        replace hdoes := Lib.hid hdoes
        replace hasked := Lib.hid hasked
        replace hsame := Lib.hid hsame
        replace hmarks := Lib.hid hmarks
        replace hpc := Lib.hid hpc
        replace hce := Lib.hid hce
        clear hcc hcell hx hko htx hbl hil hlen
        go_upto_region 11 with fail
        have hP0 := Lib.hid (hP.out.below (drewN_below wr 1))
        have hk0 := hce.out wr.drew hP0.out.fr
        obtain ⟨hp0, _⟩ := hpc.out wr.drew _ _ _ _ _ _ _ _ _ _ hP0.out
        clear hP
        refine wp_region_held_drew (S := fun w' => w'.cell? ⟨b, off + i * 5, none⟩ = some (.int .i64 x) ∧ w'.cell? ⟨b, off + i * 5 + 1, none⟩ = some (.string k) ∧ w'.cell? ⟨b, off + i * 5 + 2, none⟩ = some (.string s) ∧ w'.cell? ⟨b, off + i * 5 + 3, none⟩ = some (.int .i64 g) ∧ w'.cell? ⟨b, off + i * 5 + 4, none⟩ = some (.slice Ao mo co)) (by kernel_rfl) hk0 (fun _ => ?_)
        refine wpAnyH_take (i := 0) (oi := { dst := some 31, op := Op.move (Operand.tmp 3), type := 25, pos := "law.go:271", after := #[], guard := none }) (v := .pointer (some ⟨sb, 0, none⟩)) rfl (by kernel_rfl) (by kernel_rfl) (by kernel_rfl) (fun _ _ _ h => h) (Or.inl ⟨by rfl, ?_⟩) hk0 ?_
        · intro W hW
          obtain ⟨k0, k1, k2, k3, k4⟩ := hW
          clear hk0 hp0
          go_simp
          try (intro hx; exfalso; omega)
        try simp only [Act.put, List.setIfInBounds_toArray, List.set_cons_zero, List.set_cons_succ]
        refine wpAnyH_take (i := 1) (oi := { dst := some 32, op := Op.move (Operand.tmp 6), type := 29, pos := "law.go:271", after := #[], guard := none }) (v := .pointer (some ⟨p, 0, none⟩)) rfl (by kernel_rfl) (by kernel_rfl) (by kernel_rfl) (fun _ _ _ h => h) (Or.inl ⟨by rfl, ?_⟩) hk0 ?_
        · intro W hW
          obtain ⟨k0, k1, k2, k3, k4⟩ := hW
          clear hk0 hp0
          go_simp
          try (intro hx; exfalso; omega)
        try simp only [Act.put, List.setIfInBounds_toArray, List.set_cons_zero, List.set_cons_succ]
        refine wpAnyH_take (i := 2) (oi := { dst := some 33, op := Op.nilCheck (Operand.tmp 32), type := 0, pos := "law.go:271", after := #[{ on := 1, ground := Ground.data }], guard := none }) (v := .pointer (some ⟨p, 0, none⟩)) rfl (by kernel_rfl) (by kernel_rfl) (by kernel_rfl) (fun _ _ _ h => h) (Or.inl ⟨by rfl, ?_⟩) hk0 ?_
        · intro W hW
          obtain ⟨k0, k1, k2, k3, k4⟩ := hW
          clear hk0 hp0
          go_simp
          try (intro hx; exfalso; omega)
        try simp only [Act.put, List.setIfInBounds_toArray, List.set_cons_zero, List.set_cons_succ]
        refine wpAnyH_take (i := 3) (oi := { dst := some 34, op := Op.fieldAddr 34 (Operand.tmp 33) 0, type := 0, pos := "law.go:271", after := #[{ on := 2, ground := Ground.data }], guard := none }) (v := .pointer (some ⟨p, 0, none⟩)) rfl (by kernel_rfl) (by kernel_rfl) (by kernel_rfl) (fun _ _ _ h => h) (Or.inl ⟨by rfl, ?_⟩) hk0 ?_
        · intro W hW
          obtain ⟨k0, k1, k2, k3, k4⟩ := hW
          clear hk0 hp0
          go_simp
          try (intro hx; exfalso; omega)
        try simp only [Act.put, List.setIfInBounds_toArray, List.set_cons_zero, List.set_cons_succ]
        refine wpAnyH_take (i := 5) (oi := { dst := some 36, op := Op.move (Operand.tmp 0), type := 22, pos := "law.go:271", after := #[], guard := none }) (v := .slice (some ⟨b, off, none⟩) m c) rfl (by kernel_rfl) (by kernel_rfl) (by kernel_rfl) (fun _ _ _ h => h) (Or.inl ⟨by rfl, ?_⟩) hk0 ?_
        · intro W hW
          obtain ⟨k0, k1, k2, k3, k4⟩ := hW
          clear hk0 hp0
          go_simp
          try (intro hx; exfalso; omega)
        try simp only [Act.put, List.setIfInBounds_toArray, List.set_cons_zero, List.set_cons_succ]
        refine wpAnyH_take (i := 6) (oi := { dst := some 37, op := Op.move (Operand.tmp 8), type := 3, pos := "law.go:271", after := #[], guard := none }) (v := .int .i64 (i : Int)) rfl (by kernel_rfl) (by kernel_rfl) (by kernel_rfl) (fun _ _ _ h => h) (Or.inl ⟨by rfl, ?_⟩) hk0 ?_
        · intro W hW
          obtain ⟨k0, k1, k2, k3, k4⟩ := hW
          clear hk0 hp0
          go_simp
          try (intro hx; exfalso; omega)
        try simp only [Act.put, List.setIfInBounds_toArray, List.set_cons_zero, List.set_cons_succ]
        refine wpAnyH_take (i := 7) (oi := { dst := some 38, op := Op.indexAddr 22 (Operand.tmp 36) (Operand.tmp 37), type := 0, pos := "law.go:271", after := #[{ on := 5, ground := Ground.data }, { on := 6, ground := Ground.data }], guard := none }) (v := .pointer (some ⟨b, off + i * 5, none⟩)) rfl (by kernel_rfl) (by kernel_rfl) (by kernel_rfl) (fun _ _ _ h => h) (Or.inl ⟨by rfl, ?_⟩) hk0 ?_
        · intro W hW
          obtain ⟨k0, k1, k2, k3, k4⟩ := hW
          clear hk0 hp0
          go_simp
          try (intro hx; exfalso; omega)
        try simp only [Act.put, List.setIfInBounds_toArray, List.set_cons_zero, List.set_cons_succ]
        refine wpAnyH_take (i := 8) (oi := { dst := some 39, op := Op.load 39 (Operand.tmp 38), type := 39, pos := "law.go:271", after := #[{ on := 7, ground := Ground.data }], guard := none }) (v := .agg #[.int .i64 x, .string k, .string s, .int .i64 g, .slice Ao mo co]) rfl (by kernel_rfl) (by kernel_rfl) (by kernel_rfl) (fun _ _ _ h => h) (Or.inl ⟨by rfl, ?_⟩) hk0 ?_
        · intro W hW
          obtain ⟨k0, k1, k2, k3, k4⟩ := hW
          clear hk0 hp0
          go_simp
          try (intro hx; exfalso; omega)
        try simp only [Act.put, List.setIfInBounds_toArray, List.set_cons_zero, List.set_cons_succ]
        refine wpAnyH_ready (rs := [4]) (by kernel_rfl) (by simp) ?_
        refine AllReadyH.cons (o := { dst := some 35, op := Op.load 30 (Operand.tmp 34), type := 30, pos := "law.go:271", after := #[{ on := 3, ground := Ground.data }], guard := none }) rfl (fun K hK => ?_) AllReadyH.nil
        go_simp
        refine hK.out _ _ hk0 (fun _ => ?_)
        clear hK K
        try simp only [Act.put, List.setIfInBounds_toArray, List.set_cons_zero, List.set_cons_succ]
        refine wpAnyH_ready (rs := [9]) (by kernel_rfl) (by simp) ?_
        refine AllReadyH.cons (o := { dst := some 40, op := Op.call { callee := Callee.value (Operand.func 12), args := #[Operand.tmp 31, Operand.tmp 35, Operand.tmp 39], argTypes := #[25, 30, 39] }, type := 4, pos := "law.go:271", after := #[{ on := 0, ground := Ground.data }, { on := 4, ground := Ground.data }, { on := 8, ground := Ground.data }], guard := none }) rfl (fun K hK => ?_) AllReadyH.nil
        go_simp
        (go_at_call 12; refine (hputs.out _ hP0.out).mono ?_; rintro e wp ⟨rfl, t1, r1, hP1⟩; have hk1 := hce.out wp hP1.fr; clear hp0 hk0; replace hP1 := Lib.hid hP1)
        go_wp2_with fail
        refine hK.out _ _ hk1 (fun _ => ?_)
        clear hK K
        try simp only [Act.put, List.setIfInBounds_toArray, List.set_cons_zero, List.set_cons_succ]
        refine wpAnyH_take (i := 10) (oi := { dst := some 41, op := Op.unOp UnOp.not 4 (Operand.tmp 40), type := 4, pos := "law.go:271", after := #[{ on := 9, ground := Ground.data }], guard := none }) (v := .bool false) rfl (by kernel_rfl) (by kernel_rfl) (by kernel_rfl) (fun _ _ _ h => h) (Or.inl ⟨by rfl, ?_⟩) hk1 ?_
        · intro W hW
          obtain ⟨k0, k1, k2, k3, k4⟩ := hW
          clear hk1
          go_simp
          try (intro hx; exfalso; omega)
        try simp only [Act.put, List.setIfInBounds_toArray, List.set_cons_zero, List.set_cons_succ]
        refine wpAnyH_take (i := 11) (oi := { dst := some 42, op := Op.move (Operand.tmp 41), type := 4, pos := "law.go:271", after := #[{ on := 10, ground := Ground.data }, { on := 9, ground := Ground.chain }], guard := none }) (v := .bool false) rfl (by kernel_rfl) (by kernel_rfl) (by kernel_rfl) (fun _ _ _ h => h) (Or.inl ⟨by rfl, ?_⟩) hk1 ?_
        · intro W hW
          obtain ⟨k0, k1, k2, k3, k4⟩ := hW
          clear hk1
          go_simp
          try (intro hx; exfalso; omega)
        try simp only [Act.put, List.setIfInBounds_toArray, List.set_cons_zero, List.set_cons_succ]
        refine wpAnyH_take (i := 12) (oi := { dst := some 43, op := Op.move (Operand.tmp 3), type := 25, pos := "law.go:271", after := #[{ on := 11, ground := Ground.guard }], guard := some (11, false) }) (v := .pointer (some ⟨sb, 0, none⟩)) rfl (by kernel_rfl) (by kernel_rfl) (by kernel_rfl) (fun _ _ _ h => h) (Or.inl ⟨by rfl, ?_⟩) hk1 ?_
        · intro W hW
          obtain ⟨k0, k1, k2, k3, k4⟩ := hW
          clear hk1
          go_simp
          try (intro hx; exfalso; omega)
        try simp only [Act.put, List.setIfInBounds_toArray, List.set_cons_zero, List.set_cons_succ]
        refine wpAnyH_take (i := 13) (oi := { dst := some 44, op := Op.move (Operand.tmp 4), type := 26, pos := "law.go:271", after := #[{ on := 11, ground := Ground.guard }], guard := some (11, false) }) (v := .pointer (some ⟨a.l, 0, none⟩)) rfl (by kernel_rfl) (by kernel_rfl) (by kernel_rfl) (fun _ _ _ h => h) (Or.inl ⟨by rfl, ?_⟩) hk1 ?_
        · intro W hW
          obtain ⟨k0, k1, k2, k3, k4⟩ := hW
          clear hk1
          go_simp
          try (intro hx; exfalso; omega)
        try simp only [Act.put, List.setIfInBounds_toArray, List.set_cons_zero, List.set_cons_succ]
        refine wpAnyH_take (i := 14) (oi := { dst := some 45, op := Op.move (Operand.tmp 0), type := 22, pos := "law.go:271", after := #[{ on := 11, ground := Ground.guard }], guard := some (11, false) }) (v := .slice (some ⟨b, off, none⟩) m c) rfl (by kernel_rfl) (by kernel_rfl) (by kernel_rfl) (fun _ _ _ h => h) (Or.inl ⟨by rfl, ?_⟩) hk1 ?_
        · intro W hW
          obtain ⟨k0, k1, k2, k3, k4⟩ := hW
          clear hk1
          go_simp
          try (intro hx; exfalso; omega)
        try simp only [Act.put, List.setIfInBounds_toArray, List.set_cons_zero, List.set_cons_succ]
        refine wpAnyH_take (i := 15) (oi := { dst := some 46, op := Op.move (Operand.tmp 8), type := 3, pos := "law.go:271", after := #[{ on := 11, ground := Ground.guard }], guard := some (11, false) }) (v := .int .i64 (i : Int)) rfl (by kernel_rfl) (by kernel_rfl) (by kernel_rfl) (fun _ _ _ h => h) (Or.inl ⟨by rfl, ?_⟩) hk1 ?_
        · intro W hW
          obtain ⟨k0, k1, k2, k3, k4⟩ := hW
          clear hk1
          go_simp
          try (intro hx; exfalso; omega)
        try simp only [Act.put, List.setIfInBounds_toArray, List.set_cons_zero, List.set_cons_succ]
        refine wpAnyH_take (i := 16) (oi := { dst := some 47, op := Op.indexAddr 22 (Operand.tmp 45) (Operand.tmp 46), type := 0, pos := "law.go:271", after := #[{ on := 14, ground := Ground.data }, { on := 15, ground := Ground.data }, { on := 11, ground := Ground.guard }], guard := some (11, false) }) (v := .pointer (some ⟨b, off + i * 5, none⟩)) rfl (by kernel_rfl) (by kernel_rfl) (by kernel_rfl) (fun _ _ _ h => h) (Or.inl ⟨by rfl, ?_⟩) hk1 ?_
        · intro W hW
          obtain ⟨k0, k1, k2, k3, k4⟩ := hW
          clear hk1
          go_simp
          try (intro hx; exfalso; omega)
        try simp only [Act.put, List.setIfInBounds_toArray, List.set_cons_zero, List.set_cons_succ]
        refine wpAnyH_take (i := 17) (oi := { dst := some 48, op := Op.load 39 (Operand.tmp 47), type := 39, pos := "law.go:271", after := #[{ on := 16, ground := Ground.data }, { on := 11, ground := Ground.guard }], guard := some (11, false) }) (v := .agg #[.int .i64 x, .string k, .string s, .int .i64 g, .slice Ao mo co]) rfl (by kernel_rfl) (by kernel_rfl) (by kernel_rfl) (fun _ _ _ h => h) (Or.inl ⟨by rfl, ?_⟩) hk1 ?_
        · intro W hW
          obtain ⟨k0, k1, k2, k3, k4⟩ := hW
          clear hk1
          go_simp
          try (intro hx; exfalso; omega)
        try simp only [Act.put, List.setIfInBounds_toArray, List.set_cons_zero, List.set_cons_succ]
        refine wpAnyH_take (i := 19) (oi := { dst := some 50, op := Op.move (Operand.tmp 6), type := 29, pos := "law.go:271", after := #[{ on := 11, ground := Ground.guard }], guard := some (11, false) }) (v := .pointer (some ⟨p, 0, none⟩)) rfl (by kernel_rfl) (by kernel_rfl) (by kernel_rfl) (fun _ _ _ h => h) (Or.inl ⟨by rfl, ?_⟩) hk1 ?_
        · intro W hW
          obtain ⟨k0, k1, k2, k3, k4⟩ := hW
          clear hk1
          go_simp
          try (intro hx; exfalso; omega)
        try simp only [Act.put, List.setIfInBounds_toArray, List.set_cons_zero, List.set_cons_succ]
        refine wpAnyH_take (i := 20) (oi := { dst := some 51, op := Op.move (Operand.tmp 0), type := 22, pos := "law.go:271", after := #[{ on := 11, ground := Ground.guard }], guard := some (11, false) }) (v := .slice (some ⟨b, off, none⟩) m c) rfl (by kernel_rfl) (by kernel_rfl) (by kernel_rfl) (fun _ _ _ h => h) (Or.inl ⟨by rfl, ?_⟩) hk1 ?_
        · intro W hW
          obtain ⟨k0, k1, k2, k3, k4⟩ := hW
          clear hk1
          go_simp
          try (intro hx; exfalso; omega)
        try simp only [Act.put, List.setIfInBounds_toArray, List.set_cons_zero, List.set_cons_succ]
        refine wpAnyH_take (i := 21) (oi := { dst := some 52, op := Op.move (Operand.tmp 8), type := 3, pos := "law.go:271", after := #[{ on := 11, ground := Ground.guard }], guard := some (11, false) }) (v := .int .i64 (i : Int)) rfl (by kernel_rfl) (by kernel_rfl) (by kernel_rfl) (fun _ _ _ h => h) (Or.inl ⟨by rfl, ?_⟩) hk1 ?_
        · intro W hW
          obtain ⟨k0, k1, k2, k3, k4⟩ := hW
          clear hk1
          go_simp
          try (intro hx; exfalso; omega)
        try simp only [Act.put, List.setIfInBounds_toArray, List.set_cons_zero, List.set_cons_succ]
        refine wpAnyH_take (i := 22) (oi := { dst := some 53, op := Op.indexAddr 22 (Operand.tmp 51) (Operand.tmp 52), type := 0, pos := "law.go:271", after := #[{ on := 20, ground := Ground.data }, { on := 21, ground := Ground.data }, { on := 11, ground := Ground.guard }], guard := some (11, false) }) (v := .pointer (some ⟨b, off + i * 5, none⟩)) rfl (by kernel_rfl) (by kernel_rfl) (by kernel_rfl) (fun _ _ _ h => h) (Or.inl ⟨by rfl, ?_⟩) hk1 ?_
        · intro W hW
          obtain ⟨k0, k1, k2, k3, k4⟩ := hW
          clear hk1
          go_simp
          try (intro hx; exfalso; omega)
        try simp only [Act.put, List.setIfInBounds_toArray, List.set_cons_zero, List.set_cons_succ]
        refine wpAnyH_take (i := 23) (oi := { dst := some 54, op := Op.load 39 (Operand.tmp 53), type := 39, pos := "law.go:271", after := #[{ on := 22, ground := Ground.data }, { on := 11, ground := Ground.guard }], guard := some (11, false) }) (v := .agg #[.int .i64 x, .string k, .string s, .int .i64 g, .slice Ao mo co]) rfl (by kernel_rfl) (by kernel_rfl) (by kernel_rfl) (fun _ _ _ h => h) (Or.inl ⟨by rfl, ?_⟩) hk1 ?_
        · intro W hW
          obtain ⟨k0, k1, k2, k3, k4⟩ := hW
          clear hk1
          go_simp
          try (intro hx; exfalso; omega)
        try simp only [Act.put, List.setIfInBounds_toArray, List.set_cons_zero, List.set_cons_succ]
        refine wpAnyH_ready (rs := [18]) (by kernel_rfl) (by simp) ?_
        refine AllReadyH.cons (o := { dst := some 49, op := Op.call { callee := Callee.value (Operand.func 13), args := #[Operand.tmp 43, Operand.tmp 44, Operand.tmp 48], argTypes := #[25, 26, 39] }, type := 40, pos := "law.go:271", after := #[{ on := 12, ground := Ground.data }, { on := 13, ground := Ground.data }, { on := 17, ground := Ground.data }, { on := 11, ground := Ground.chain }, { on := 11, ground := Ground.guard }], guard := some (11, false) }) rfl (fun K hK => ?_) AllReadyH.nil
        go_simp
        (go_at_call 13; refine (hdoes.out _ _ _ hP1.out).mono ?_; rintro e wd ⟨ans, t2, n2, rfl, hD⟩; have hk2 := hce.out wd hD.fr; clear hk1; replace hD := Lib.hid hD)
        go_wp2_with fail
        refine hK.out _ _ hk2 (fun _ => ?_)
        clear hK K
        try simp only [Act.put, List.setIfInBounds_toArray, List.set_cons_zero, List.set_cons_succ]
        refine wpAnyH_ready (rs := [24]) (by kernel_rfl) (by simp) ?_
        refine AllReadyH.cons (o := { dst := some 55, op := Op.call { callee := Callee.value (Operand.func 14), args := #[Operand.tmp 50, Operand.tmp 54], argTypes := #[29, 39] }, type := 40, pos := "law.go:271", after := #[{ on := 19, ground := Ground.data }, { on := 23, ground := Ground.data }, { on := 18, ground := Ground.chain }, { on := 11, ground := Ground.guard }], guard := some (11, false) }) rfl (fun K hK => ?_) AllReadyH.nil
        go_simp
        (go_at_call 14; refine (hasked.out _ _ _ _ _ _ hD.out).mono ?_; rintro e wa ⟨rfl, rb2, r2, ws2, A3, c3, hP3⟩; have hk3 := hce.out wa hP3.fr; have hpp := hpc.out _ _ _ _ _ _ _ _ _ _ _ hP3; clear hk2; replace hP3 := Lib.hid hP3)
        go_wp2_with fail
        refine hK.out _ _ hk3 (fun _ => ?_)
        clear hK K
        try simp only [Act.put, List.setIfInBounds_toArray, List.set_cons_zero, List.set_cons_succ]
        refine wpAnyH_strong (S' := fun w' => (w'.cell? ⟨b, off + i * 5, none⟩ = some (.int .i64 x) ∧ w'.cell? ⟨b, off + i * 5 + 1, none⟩ = some (.string k) ∧ w'.cell? ⟨b, off + i * 5 + 2, none⟩ = some (.string s) ∧ w'.cell? ⟨b, off + i * 5 + 3, none⟩ = some (.int .i64 g) ∧ w'.cell? ⟨b, off + i * 5 + 4, none⟩ = some (.slice Ao mo co)) ∧ w'.cell? ⟨p, 0, none⟩ = some (.pointer (some ⟨rb2, 0, none⟩)) ∧ w'.cell? ⟨p, 1, none⟩ = some (.slice A3 ws2.length c3)) (fun _ h => h.1) ?_
        have hj3 := And.intro hk3 hpp
        clear hk3 hpp
        refine wpAnyH_take (i := 25) (oi := { dst := some 56, op := Op.binOp BinOp.neq 40 (Operand.tmp 49) (Operand.tmp 55) 40, type := 4, pos := "law.go:271", after := #[{ on := 18, ground := Ground.data }, { on := 24, ground := Ground.data }, { on := 11, ground := Ground.guard }], guard := some (11, false) }) (v := .bool false) rfl (by kernel_rfl) (by kernel_rfl) (by kernel_rfl) (fun _ _ _ h => h) (Or.inl ⟨by rfl, ?_⟩) hj3 ?_
        · intro W hW
          obtain ⟨⟨k0, k1, k2, k3, k4⟩, q0, q1⟩ := hW
          clear hj3
          go_simp
          try (intro hx; exfalso; omega)
        try simp only [Act.put, List.setIfInBounds_toArray, List.set_cons_zero, List.set_cons_succ]
        refine wpAnyH_take (i := 26) (oi := { dst := some 57, op := Op.pick (Operand.tmp 42) (Operand.const (Value.bool true)) (Operand.tmp 56), type := 4, pos := "law.go:271", after := #[{ on := 11, ground := Ground.data }, { on := 25, ground := Ground.data }], guard := none }) (v := .bool false) rfl (by kernel_rfl) (by kernel_rfl) (by kernel_rfl) (fun _ _ _ h => h) (Or.inl ⟨by rfl, ?_⟩) hj3 ?_
        · intro W hW
          obtain ⟨⟨k0, k1, k2, k3, k4⟩, q0, q1⟩ := hW
          clear hj3
          go_simp
          try (intro hx; exfalso; omega)
        try simp only [Act.put, List.setIfInBounds_toArray, List.set_cons_zero, List.set_cons_succ]
        refine wpAnyH_take (i := 27) (oi := { dst := some 58, op := Op.move (Operand.tmp 57), type := 4, pos := "law.go:271", after := #[{ on := 26, ground := Ground.data }, { on := 24, ground := Ground.chain }], guard := none }) (v := .bool false) rfl (by kernel_rfl) (by kernel_rfl) (by kernel_rfl) (fun _ _ _ h => h) (Or.inl ⟨by rfl, ?_⟩) hj3 ?_
        · intro W hW
          obtain ⟨⟨k0, k1, k2, k3, k4⟩, q0, q1⟩ := hW
          clear hj3
          go_simp
          try (intro hx; exfalso; omega)
        try simp only [Act.put, List.setIfInBounds_toArray, List.set_cons_zero, List.set_cons_succ]
        refine wpAnyH_take (i := 28) (oi := { dst := some 59, op := Op.move (Operand.tmp 3), type := 25, pos := "law.go:271", after := #[{ on := 27, ground := Ground.guard }], guard := some (27, false) }) (v := .pointer (some ⟨sb, 0, none⟩)) rfl (by kernel_rfl) (by kernel_rfl) (by kernel_rfl) (fun _ _ _ h => h) (Or.inl ⟨by rfl, ?_⟩) hj3 ?_
        · intro W hW
          obtain ⟨⟨k0, k1, k2, k3, k4⟩, q0, q1⟩ := hW
          clear hj3
          go_simp
          try (intro hx; exfalso; omega)
        try simp only [Act.put, List.setIfInBounds_toArray, List.set_cons_zero, List.set_cons_succ]
        refine wpAnyH_take (i := 29) (oi := { dst := some 60, op := Op.move (Operand.tmp 6), type := 29, pos := "law.go:271", after := #[{ on := 27, ground := Ground.guard }], guard := some (27, false) }) (v := .pointer (some ⟨p, 0, none⟩)) rfl (by kernel_rfl) (by kernel_rfl) (by kernel_rfl) (fun _ _ _ h => h) (Or.inl ⟨by rfl, ?_⟩) hj3 ?_
        · intro W hW
          obtain ⟨⟨k0, k1, k2, k3, k4⟩, q0, q1⟩ := hW
          clear hj3
          go_simp
          try (intro hx; exfalso; omega)
        try simp only [Act.put, List.setIfInBounds_toArray, List.set_cons_zero, List.set_cons_succ]
        refine wpAnyH_take (i := 30) (oi := { dst := some 61, op := Op.nilCheck (Operand.tmp 60), type := 0, pos := "law.go:271", after := #[{ on := 29, ground := Ground.data }, { on := 27, ground := Ground.guard }], guard := some (27, false) }) (v := .pointer (some ⟨p, 0, none⟩)) rfl (by kernel_rfl) (by kernel_rfl) (by kernel_rfl) (fun _ _ _ h => h) (Or.inl ⟨by rfl, ?_⟩) hj3 ?_
        · intro W hW
          obtain ⟨⟨k0, k1, k2, k3, k4⟩, q0, q1⟩ := hW
          clear hj3
          go_simp
          try (intro hx; exfalso; omega)
        try simp only [Act.put, List.setIfInBounds_toArray, List.set_cons_zero, List.set_cons_succ]
        refine wpAnyH_take (i := 31) (oi := { dst := some 62, op := Op.fieldAddr 34 (Operand.tmp 61) 0, type := 0, pos := "law.go:271", after := #[{ on := 30, ground := Ground.data }, { on := 27, ground := Ground.guard }], guard := some (27, false) }) (v := .pointer (some ⟨p, 0, none⟩)) rfl (by kernel_rfl) (by kernel_rfl) (by kernel_rfl) (fun _ _ _ h => h) (Or.inl ⟨by rfl, ?_⟩) hj3 ?_
        · intro W hW
          obtain ⟨⟨k0, k1, k2, k3, k4⟩, q0, q1⟩ := hW
          clear hj3
          go_simp
          try (intro hx; exfalso; omega)
        try simp only [Act.put, List.setIfInBounds_toArray, List.set_cons_zero, List.set_cons_succ]
        refine wpAnyH_take (i := 32) (oi := { dst := some 63, op := Op.load 30 (Operand.tmp 62), type := 30, pos := "law.go:271", after := #[{ on := 31, ground := Ground.data }, { on := 27, ground := Ground.guard }], guard := some (27, false) }) (v := .pointer (some ⟨rb2, 0, none⟩)) rfl (by kernel_rfl) (by kernel_rfl) (by kernel_rfl) (fun _ _ _ h => h) (Or.inl ⟨by rfl, ?_⟩) hj3 ?_
        · intro W hW
          obtain ⟨⟨k0, k1, k2, k3, k4⟩, q0, q1⟩ := hW
          clear hj3
          go_simp
          try (intro hx; exfalso; omega)
        try simp only [Act.put, List.setIfInBounds_toArray, List.set_cons_zero, List.set_cons_succ]
        refine wpAnyH_take (i := 33) (oi := { dst := some 64, op := Op.move (Operand.tmp 7), type := 35, pos := "law.go:271", after := #[{ on := 27, ground := Ground.guard }], guard := some (27, false) }) (v := .slice An m cn) rfl (by kernel_rfl) (by kernel_rfl) (by kernel_rfl) (fun _ _ _ h => h) (Or.inl ⟨by rfl, ?_⟩) hj3 ?_
        · intro W hW
          obtain ⟨⟨k0, k1, k2, k3, k4⟩, q0, q1⟩ := hW
          clear hj3
          go_simp
          try (intro hx; exfalso; omega)
        try simp only [Act.put, List.setIfInBounds_toArray, List.set_cons_zero, List.set_cons_succ]
        refine wpAnyH_ready (rs := [34]) (by kernel_rfl) (by simp) ?_
        refine AllReadyH.cons (o := { dst := some 65, op := Op.call { callee := Callee.value (Operand.func 15), args := #[Operand.tmp 59, Operand.tmp 63, Operand.tmp 64], argTypes := #[25, 30, 35] }, type := 4, pos := "law.go:271", after := #[{ on := 28, ground := Ground.data }, { on := 32, ground := Ground.data }, { on := 33, ground := Ground.data }, { on := 27, ground := Ground.chain }, { on := 27, ground := Ground.guard }], guard := some (27, false) }) rfl (fun K hK => ?_) AllReadyH.nil
        go_simp
        (go_at_call 15; refine (hsame.out _ _ _ _ _ _ _ _ hP3.out).mono ?_; rintro e wz ⟨rfl, hP4⟩; have hj4 := And.intro (hce.out wz hP4.fr) (hpc.out _ _ _ _ _ _ _ _ _ _ _ hP4); clear hj3; replace hP4 := Lib.hid hP4)
        go_wp2_with fail
        refine hK.out _ _ hj4 (fun _ => ?_)
        clear hK K
        try simp only [Act.put, List.setIfInBounds_toArray, List.set_cons_zero, List.set_cons_succ]
        refine wpAnyH_take (i := 35) (oi := { dst := some 66, op := Op.unOp UnOp.not 4 (Operand.tmp 65), type := 4, pos := "law.go:271", after := #[{ on := 34, ground := Ground.data }, { on := 27, ground := Ground.guard }], guard := some (27, false) }) (v := .bool false) rfl (by kernel_rfl) (by kernel_rfl) (by kernel_rfl) (fun _ _ _ h => h) (Or.inl ⟨by rfl, ?_⟩) hj4 ?_
        · intro W hW
          obtain ⟨⟨k0, k1, k2, k3, k4⟩, q0, q1⟩ := hW
          clear hj4
          go_simp
          try (intro hx; exfalso; omega)
        try simp only [Act.put, List.setIfInBounds_toArray, List.set_cons_zero, List.set_cons_succ]
        refine wpAnyH_take (i := 36) (oi := { dst := some 67, op := Op.pick (Operand.tmp 58) (Operand.const (Value.bool true)) (Operand.tmp 66), type := 4, pos := "law.go:271", after := #[{ on := 27, ground := Ground.data }, { on := 35, ground := Ground.data }], guard := none }) (v := .bool false) rfl (by kernel_rfl) (by kernel_rfl) (by kernel_rfl) (fun _ _ _ h => h) (Or.inl ⟨by rfl, ?_⟩) hj4 ?_
        · intro W hW
          obtain ⟨⟨k0, k1, k2, k3, k4⟩, q0, q1⟩ := hW
          clear hj4
          go_simp
          try (intro hx; exfalso; omega)
        try simp only [Act.put, List.setIfInBounds_toArray, List.set_cons_zero, List.set_cons_succ]
        refine wpAnyH_take (i := 37) (oi := { dst := some 68, op := Op.move (Operand.tmp 67), type := 4, pos := "law.go:271", after := #[{ on := 36, ground := Ground.data }, { on := 34, ground := Ground.chain }], guard := none }) (v := .bool false) rfl (by kernel_rfl) (by kernel_rfl) (by kernel_rfl) (fun _ _ _ h => h) (Or.inl ⟨by rfl, ?_⟩) hj4 ?_
        · intro W hW
          obtain ⟨⟨k0, k1, k2, k3, k4⟩, q0, q1⟩ := hW
          clear hj4
          go_simp
          try (intro hx; exfalso; omega)
        try simp only [Act.put, List.setIfInBounds_toArray, List.set_cons_zero, List.set_cons_succ]
        refine wpAnyH_take (i := 38) (oi := { dst := some 69, op := Op.move (Operand.tmp 4), type := 26, pos := "law.go:271", after := #[{ on := 37, ground := Ground.guard }], guard := some (37, false) }) (v := .pointer (some ⟨a.l, 0, none⟩)) rfl (by kernel_rfl) (by kernel_rfl) (by kernel_rfl) (fun _ _ _ h => h) (Or.inl ⟨by rfl, ?_⟩) hj4 ?_
        · intro W hW
          obtain ⟨⟨k0, k1, k2, k3, k4⟩, q0, q1⟩ := hW
          clear hj4
          go_simp
          try (intro hx; exfalso; omega)
        try simp only [Act.put, List.setIfInBounds_toArray, List.set_cons_zero, List.set_cons_succ]
        refine wpAnyH_take (i := 40) (oi := { dst := some 71, op := Op.move (Operand.tmp 6), type := 29, pos := "law.go:271", after := #[{ on := 37, ground := Ground.guard }], guard := some (37, false) }) (v := .pointer (some ⟨p, 0, none⟩)) rfl (by kernel_rfl) (by kernel_rfl) (by kernel_rfl) (fun _ _ _ h => h) (Or.inl ⟨by rfl, ?_⟩) hj4 ?_
        · intro W hW
          obtain ⟨⟨k0, k1, k2, k3, k4⟩, q0, q1⟩ := hW
          clear hj4
          go_simp
          try (intro hx; exfalso; omega)
        try simp only [Act.put, List.setIfInBounds_toArray, List.set_cons_zero, List.set_cons_succ]
        refine wpAnyH_take (i := 41) (oi := { dst := some 72, op := Op.nilCheck (Operand.tmp 71), type := 0, pos := "law.go:271", after := #[{ on := 40, ground := Ground.data }, { on := 37, ground := Ground.guard }], guard := some (37, false) }) (v := .pointer (some ⟨p, 0, none⟩)) rfl (by kernel_rfl) (by kernel_rfl) (by kernel_rfl) (fun _ _ _ h => h) (Or.inl ⟨by rfl, ?_⟩) hj4 ?_
        · intro W hW
          obtain ⟨⟨k0, k1, k2, k3, k4⟩, q0, q1⟩ := hW
          clear hj4
          go_simp
          try (intro hx; exfalso; omega)
        try simp only [Act.put, List.setIfInBounds_toArray, List.set_cons_zero, List.set_cons_succ]
        refine wpAnyH_take (i := 42) (oi := { dst := some 73, op := Op.fieldAddr 34 (Operand.tmp 72) 1, type := 0, pos := "law.go:271", after := #[{ on := 41, ground := Ground.data }, { on := 37, ground := Ground.guard }], guard := some (37, false) }) (v := .pointer (some ⟨p, 1, none⟩)) rfl (by kernel_rfl) (by kernel_rfl) (by kernel_rfl) (fun _ _ _ h => h) (Or.inl ⟨by rfl, ?_⟩) hj4 ?_
        · intro W hW
          obtain ⟨⟨k0, k1, k2, k3, k4⟩, q0, q1⟩ := hW
          clear hj4
          go_simp
          try (intro hx; exfalso; omega)
        try simp only [Act.put, List.setIfInBounds_toArray, List.set_cons_zero, List.set_cons_succ]
        refine wpAnyH_take (i := 43) (oi := { dst := some 74, op := Op.load 32 (Operand.tmp 73), type := 32, pos := "law.go:271", after := #[{ on := 42, ground := Ground.data }, { on := 37, ground := Ground.guard }], guard := some (37, false) }) (v := .slice A3 ws2.length c3) rfl (by kernel_rfl) (by kernel_rfl) (by kernel_rfl) (fun _ _ _ h => h) (Or.inl ⟨by rfl, ?_⟩) hj4 ?_
        · intro W hW
          obtain ⟨⟨k0, k1, k2, k3, k4⟩, q0, q1⟩ := hW
          clear hj4
          go_simp
          try (intro hx; exfalso; omega)
        try simp only [Act.put, List.setIfInBounds_toArray, List.set_cons_zero, List.set_cons_succ]
        refine wpAnyH_take (i := 44) (oi := { dst := some 75, op := Op.call { callee := Callee.builtin Builtin.len, args := #[Operand.tmp 74], argTypes := #[32] }, type := 3, pos := "law.go:271", after := #[{ on := 43, ground := Ground.data }, { on := 37, ground := Ground.guard }], guard := some (37, false) }) (v := .int .i64 (ws2.length : Int)) rfl (by kernel_rfl) (by kernel_rfl) (by kernel_rfl) (fun _ _ _ h => h) (Or.inl ⟨by rfl, ?_⟩) hj4 ?_
        · intro W hW
          obtain ⟨⟨k0, k1, k2, k3, k4⟩, q0, q1⟩ := hW
          clear hj4
          go_simp
          try (intro hx; exfalso; omega)
        try simp only [Act.put, List.setIfInBounds_toArray, List.set_cons_zero, List.set_cons_succ]
        refine wpAnyH_ready (rs := [39]) (by kernel_rfl) (by simp) ?_
        refine AllReadyH.cons (o := { dst := some 70, op := Op.call { callee := Callee.value (Operand.func 16), args := #[Operand.tmp 69], argTypes := #[26] }, type := 3, pos := "law.go:271", after := #[{ on := 38, ground := Ground.data }, { on := 37, ground := Ground.chain }, { on := 37, ground := Ground.guard }], guard := some (37, false) }) rfl (fun K hK => ?_) AllReadyH.nil
        go_simp
        (go_at_call 16; refine (hmarks.out _ _ _ _ _ _ _ _ hP4.out).mono ?_; rintro e wy ⟨rfl, rfl⟩)
        go_wp2_with fail
        refine hK.out _ _ hj4 (fun _ => ?_)
        clear hK K
        try simp only [Act.put, List.setIfInBounds_toArray, List.set_cons_zero, List.set_cons_succ]
        refine wpAnyH_take (i := 45) (oi := { dst := some 76, op := Op.binOp BinOp.neq 3 (Operand.tmp 70) (Operand.tmp 75) 3, type := 4, pos := "law.go:271", after := #[{ on := 39, ground := Ground.data }, { on := 44, ground := Ground.data }, { on := 37, ground := Ground.guard }], guard := some (37, false) }) (v := .bool false) rfl (by kernel_rfl) (by kernel_rfl) (by kernel_rfl) (fun _ _ _ h => h) (Or.inl ⟨by rfl, ?_⟩) hj4 ?_
        · intro W hW
          obtain ⟨⟨k0, k1, k2, k3, k4⟩, q0, q1⟩ := hW
          clear hj4
          go_simp
          try (intro hx; exfalso; omega)
        try simp only [Act.put, List.setIfInBounds_toArray, List.set_cons_zero, List.set_cons_succ]
        refine wpAnyH_take (i := 46) (oi := { dst := some 77, op := Op.pick (Operand.tmp 68) (Operand.const (Value.bool true)) (Operand.tmp 76), type := 4, pos := "law.go:271", after := #[{ on := 37, ground := Ground.data }, { on := 45, ground := Ground.data }], guard := none }) (v := .bool false) rfl (by kernel_rfl) (by kernel_rfl) (by kernel_rfl) (fun _ _ _ h => h) (Or.inl ⟨by rfl, ?_⟩) hj4 ?_
        · intro W hW
          obtain ⟨⟨k0, k1, k2, k3, k4⟩, q0, q1⟩ := hW
          clear hj4
          go_simp
          try (intro hx; exfalso; omega)
        try simp only [Act.put, List.setIfInBounds_toArray, List.set_cons_zero, List.set_cons_succ]
        refine wpAnyH_done (by kernel_rfl) ?_ _
        have hPE := Lib.hid (hP4.out.more (pot' := 12 * (i + 1)) (N' := 2 * (i + 1)) (M' := 6 * (i + 1)) (by omega) (by omega) (by omega))
        clear hP0 hP1 hD hP3 hP4 hj4 hputs hdoes hasked hsame hmarks hpc hce
        go_wp2
        go_roundw
        case rel => exact ⟨i + 1, _, _, _, _, _, _, _, by omega, by go_num, hPE⟩
        case measure => simp [intOf]; omega
      · obtain rfl : i = m := by omega
        have hi3 : ¬ (i : Int) < (i : Int) := by omega
        have hbF := Lib.hid hP.out.fr
        clear hP
        go_wp2_with fail
        refine (haw.out _).mono ?_
        rintro e w9 ⟨rfl, hb9⟩
        have hbE : Hid (Below w.heap.size w w9) := Lib.hid (hbF.out.trans (hb9.mono hbF.out.size))
        clear hb9 haw
        go_wp2
        go_ret
        exact ⟨rfl, hbE.out⟩
  · obtain rfl := hwq.symm
    clear hwq
    have hbR : Hid (Below w.heap.size w w) := Lib.hid (Below.refl _ _)
    go_wp2_with fail
    refine (haw.out _).mono ?_
    rintro e w9 ⟨rfl, hb9⟩
    have hbE : Hid (Below w.heap.size w w9) := Lib.hid (hbR.out.trans (hb9.mono hbR.out.size))
    clear hb9 haw
    go_wp2
    go_ret
    exact ⟨rfl, hbE.out⟩
end Go.Proofs.YtigmdfdcflkggaaGreat
/-
  StatePlays: whatever calls come in, the law answers true and leaves them as they were. Conditions: none.
-/
namespace Go.Proofs.YtigmdfdcflkggaaGreat.lawPlays
open Go Go.ChangeShapes Go.WideShapes Go.ChangeAt Go.RowKit
open Go.ChangeMaps (open_string shut_string)

set_option maxRecDepth 100000 in
theorem contract (H : Type) (enc : TypeId × Value → H) (W : World) (base : Nat) (args : Array Value) (ds gs : List (DataW H)) (before : List MemPlace)
    (hval : ∀ (j : Nat) t v, Tryz.f3.params[j]? = some t → args[j]? = some v → Value.okWide Tryz.prog W .any base t v)
    (hW : DataW.Whole enc Tryz.prog Tryz.f3.params.toList Rows.statePlaysSpec.vars false W args.toList ds gs before) :
    Calls Tryz.prog 3 args W fun e W' => ∃ v, e = .returned v ∧ Rows.statePlaysSpec.post enc Tryz.prog Tryz.f3 false true false false W args v W' := by
  have hW' := hW
  obtain ⟨p, q, hA0, hV, rfl, hfz, hnd⟩ := hW
  have hA : DataW.TrodAll enc Tryz.prog W 0 (fun _ => true) true Tryz.f3.params.toList args.toList ds p := hA0
  rw [Tryz.params3] at hA hval
  obtain ⟨v0, vs0, d0, ds0, p0, q0, hargs, rfl, rfl, h0, r0⟩ := trodAll_cons hA
  obtain ⟨rfl, rfl, rfl⟩ := trodAll_nil r0
  obtain rfl : args = #[v0] := by cases args; simp_all
  obtain ⟨rfl, rfl⟩ := trodVars_none hV
  clear hA0
  simp only [List.append_nil] at hW'
  have hlt : ∀ x ∈ p0, x.block < W.heap.size := fun x hx => by simpa using hW'.lt x (by simpa using hx)
  obtain ⟨A0, m0, c0, l0, hv0, hl0, hx0, hn0⟩ := open_ops (hval 0 _ v0 rfl rfl) h0 (fun x hx => hlt x (by simp [hx]))
  have t0 := fun (W' : World) (hb : Below W.heap.size W W') => Below.trod rowOut (by kernel_rfl) (of_decide_eq_true (by kernel_rfl)) h0 hb (fun x hx => hlt x (by simp [hx]))
  have e1 : (Rows.statePlaysSpec.fn H ([d0] ++ [])).results = [.lit (.bool true)] := rfl
  have e2 : (Rows.statePlaysSpec.fn H ([d0] ++ [])).args = [d0] := rfl
  subst hv0
  refine (lawPlays_any W hl0 hx0 hn0).mono fun e W' ⟨he, hb⟩ => ?_
  subst he
  refine ⟨_, rfl, _, _, _, [], p0 ++ [], [], hW', ?_, ?_, rfl, hb.frame _, fun h => by cases h⟩
  · rw [e1]; exact trodAll_cons_mk (shut_bool Tryz.underlying4 _) trodAll_mk0
  · rw [e2]; exact trodAll_cons_mk (t0 _ hb) trodAll_mk0

theorem reads (os : Os) {H : Type} (enc : TypeId × Value → H) : ∃ places, DataW.whole enc Tryz.prog ((plainWorld os).forCall (fun _ _ => 0) ⟨#[], #[.slice none 0 0], []⟩).memory Tryz.f3.params.toList Rows.statePlaysSpec.vars false #[Value.slice none 0 0].toList 8 = some ([.nil], [], places) :=
  ⟨[], by kernel_rfl⟩

set_option maxRecDepth 100000 in
theorem lifted (os : Os) (started : os.Started) (H : Type) (enc : TypeId × Value → H) (F : Stop.Interp) :
    ReturnsInHanded {} Tryz.checked os 3 .any ((OpenSpec.ofChange Rows.statePlaysSpec).preRow enc Tryz.prog Tryz.f3 Rows.statePlaysRow.domain false Rows.statePlaysRow.laid) (((OpenSpec.ofChange Rows.statePlaysSpec).at F).post enc Tryz.prog Tryz.f3 false true false false) := by
  obtain ⟨places, hx⟩ := reads os enc
  refine returnsInHanded_of_row (C := Tryz.checked) (s := OpenSpec.ofChange Rows.statePlaysSpec) rowOwn started (by kernel_rfl) Tryz.func3
    (witness_row_at (enc := enc) (C := Tryz.checked) false (plainWorld os) #[.slice none 0 0] rfl (by kernel_rfl) (by kernel_rfl) (by kernel_rfl)
      (OpenSpec.preRow_of_cond 8 hx (by kernel_rfl) (fun k hk => by cases hk) (by kernel_rfl) (laid_none _))) ?_
  intro W base args ds gs before hval hW _ _ _ _ _ _
  exact contract H enc W base args ds gs before hval hW

theorem said : Rows.StatePlaysSaid :=
  OpenClaim.holds_of_cond 3 Tryz.f3 rfl rfl rfl rfl rfl rfl rfl ⟨rfl, rfl, rfl, rfl, rfl⟩ rfl rfl rfl rfl rfl (by kernel_rfl) Tryz.func3 (by kernel_rfl)
    (of_decide_eq_true (by kernel_rfl)) (by unfold Func.isWrapper; first | (rw [if_pos (by decide +kernel)]; kernel_rfl) | (rw [if_neg (by decide +kernel)]; exact ⟨rfl, rfl⟩))
    (fun os started H enc _ F => by rw [OpenClaim.pre_eq_preRow]; exact lifted os started H enc F)

end Go.Proofs.YtigmdfdcflkggaaGreat.lawPlays
