/-
  put behind the memory where a new chunk is begun: it is taken, and a beginning of the data goes there. Conditions: something is to be moved; numbers of the size of a pool's.
-/
import Derived.Test.YtbjakhiflgjflaaGreatDoorSpPut2
import Derived.Test.YtbjakhiflgjflaaGreatDoorMkLast2
namespace Go.Proofs.YtbjakhiflgjflaaGreatDoor
open Go Go.RowKit

section
variable {P : Program} {w : World}
theorem wp_append_of {o : Oper} {a : Act} {K : Act → World → Prop} {Q : Exit → Act → World → Prop} (s x : Operand) (t tx : TypeId)
    (ho : o.op = .call { callee := .builtin .append, args := #[s, x], argTypes := #[t, tx] }) (v y r : Value) (w1 : World) (hs : a.eval s = v) (hx : a.eval x = y)
    (hrun : (Builtin.append_ #[t, tx] o.type #[v, y]).run P w = .ok r w1) (h : K (a.put o.dst r) w1) : o.wp P a w K Q := by
  unfold Oper.wp execOp
  simp only [ho, resolve, invoke, builtin, Sem.run_bind, Sem.run_pure, Result.andThen_ok, List.map_toArray, List.map_cons, List.map_nil, hs, hx, hrun]
  exact h
end

/-- take, both ways. -/
theorem take_any (B pb : Nat) (p : Ps) (S : Value) (sp : List Value) (w : World) (hb : Blk w pb (p.cells S) 140) (hB : B ≤ pb) (hS : Row w B 134 S sp.length sp) (hne : ∀ g, S.ownBlock = some g → g ≠ pb)
    (hst : ∀ v ∈ sp, (∃ bs : List UInt8, Row w B 5 v bs.length (bc bs)) ∧ ∀ g, v.ownBlock = some g → g ≠ pb) (hu : p.used ≤ 1000000) :
    Calls Tryz.prog 286 #[.pointer (some ⟨pb, 0, none⟩)] w fun e w' => ∃ (v S' : Value) (sp' : List Value), e = .returned v ∧ Blk w' pb (({ p with used := p.used + 1 } : Ps).cells S') 140 ∧ Row w' B 134 S' sp'.length sp' ∧ S'.ownBlock = S.ownBlock ∧
      Row w' B 5 v 0 (bc []) ∧ (v = .slice none 0 0 ∧ sp = [] ∧ sp' = [] ∨ ∃ v0, sp = sp' ++ [v0] ∧ v.ownBlock = v0.ownBlock) ∧ Mv B (fun b => b = pb) w w' := by
  rcases List.eq_nil_or_concat sp with rfl | ⟨sp', v0, rfl⟩
  · refine (take_none B pb p S w hb hB hS hu).mono ?_
    rintro e w' ⟨he, h1, h2⟩
    exact ⟨_, S, [], he, h1, hS.mv h2 hne, rfl, Row.nil_ _ _ _, .inl ⟨rfl, rfl, rfl⟩, h2⟩
  · rw [List.concat_eq_append] at hS hst ⊢
    obtain ⟨⟨bs, h0⟩, hg⟩ := hst v0 (by simp)
    rw [List.length_append] at hS
    refine (take_some B pb p S v0 bs sp' w hb hB hS hne h0 hg hu).mono ?_
    rintro e w' ⟨v, S', he, h1, h2, h3, h4, h5, h6⟩
    exact ⟨v, S', sp', he, h1, h2, h3, h4, .inr ⟨v0, rfl, h5⟩, h6⟩

set_option maxHeartbeats 4000000 in
set_option maxRecDepth 100000 in
theorem put_new (B pb bb gone len D : Nat) (p : Ps) (S m c : Value) (cs sp : List Value) (data : ByteArray) (w : World) (hp : Blk w pb (p.cells S) 140) (hb : Blk w bb (bufC pb gone len m c) 232) (hne : pb ≠ bb) (hBp : B ≤ pb) (hBb : B ≤ bb)
    (hc : Row w B 134 c cs.length cs) (hcb : ∀ g, c.ownBlock = some g → g ≠ bb ∧ g ≠ pb) (hS : Row w B 134 S sp.length sp) (hSb : ∀ g, S.ownBlock = some g → g ≠ bb ∧ g ≠ pb ∧ c.ownBlock ≠ some g)
    (hst : ∀ v ∈ sp, (∃ bs : List UInt8, Row w B 5 v bs.length (bc bs)) ∧ ∀ g, v.ownBlock = some g → g ≠ pb ∧ g ≠ bb ∧ c.ownBlock ≠ some g ∧ S.ownBlock ≠ some g) (hu : p.used ≤ 1000000) (hcl : cs.length ≤ 1000000) (hd : 0 < data.size) (hlm : len ≤ 100000000) (hlt : 0 < p.ch) (hmost : p.ch ≤ 65536) (hds : data.size ≤ 100000000)
    (hD : (len : Int) - (p.mem : Int) = (D : Int)) (hrem : (D : Int).tmod (p.ch : Int) = 0) :
    Calls Tryz.prog 284 #[.pointer (some ⟨bb, 0, none⟩), .string data] w fun e w' => ∃ (n : Nat) (v v' c' S' : Value) (sp' : List Value), n = min data.size p.ch ∧ e = .returned (.int .i64 (n : Int)) ∧
      Blk w' pb (({ p with used := p.used + 1 } : Ps).cells S') 140 ∧ Row w' B 134 S' sp'.length sp' ∧ S'.ownBlock = S.ownBlock ∧ (v = .slice none 0 0 ∧ sp = [] ∧ sp' = [] ∨ ∃ v0, sp = sp' ++ [v0] ∧ v.ownBlock = v0.ownBlock) ∧
      Blk w' bb (bufC pb gone len m c') 232 ∧ (c'.ownBlock = c.ownBlock ∨ ∃ g, c'.ownBlock = some g ∧ w.heap.size ≤ g) ∧
      Row w' B 134 c' (cs.length + 1) (cs ++ [v']) ∧ Row w' B 5 v' ((tl data).take n).length (bc ((tl data).take n)) ∧ (v'.ownBlock = v.ownBlock ∨ ∃ g, v'.ownBlock = some g ∧ w.heap.size ≤ g ∧ c'.ownBlock ≠ some g) ∧
      Mv B (fun b => b = pb ∨ b = bb ∨ c.ownBlock = some b ∨ v.ownBlock = some b ∨ w.heap.size ≤ b) w w' := by
  have c0 := hb.cell (show (bufC pb gone len m c)[0]? = some _ from rfl)
  have c2 := hb.cell (show (bufC pb gone len m c)[2]? = some _ from rfl)
  have c4 := hb.cell (show (bufC pb gone len m c)[4]? = some _ from rfl)
  have d1 := hp.cell (show (p.cells S)[1]? = some _ from rfl)
  have d2 := hp.cell (show (p.cells S)[2]? = some _ from rfl)
  have htake := fun W (h1 : Blk W pb (p.cells S) 140) (h2 : Row W B 134 S sp.length sp) (h3 : ∀ v ∈ sp, (∃ bs : List UInt8, Row W B 5 v bs.length (bc bs)) ∧ ∀ g, v.ownBlock = some g → g ≠ pb) => take_any B pb p S sp W h1 hBp h2 (fun g h => (hSb g h).2.1) h3 hu
  have hst1 : ∀ v ∈ sp, (∃ bs : List UInt8, Row w B 5 v bs.length (bc bs)) ∧ ∀ g, v.ownBlock = some g → g ≠ pb := fun v hv => ⟨(hst v hv).1, fun g h => ((hst v hv).2 g h).1⟩
  obtain ⟨M, hM⟩ : ∃ M, p.mem = M := ⟨_, rfl⟩
  obtain ⟨C, hC⟩ : ∃ C, p.ch = C := ⟨_, rfl⟩
  rw [hM] at d1 hD
  rw [hC] at d2 hlt hmost hrem ⊢
  replace hM := Lib.hid hM
  replace hC := Lib.hid hC
  have hpl := hp.lt
  have hbl := hb.lt
  obtain ⟨K, hK⟩ : ∃ K, cs.length = K := ⟨_, rfl⟩
  rw [hK] at hc hcl ⊢
  obtain ⟨A, cc, rfl, hcc, hcm⟩ := hc.form
  replace hp := Lib.hid hp
  replace hb := Lib.hid hb
  replace hc := Lib.hid hc
  replace hcb := Lib.hid hcb
  replace hS := Lib.hid hS
  replace hSb := Lib.hid hSb
  replace hst := Lib.hid hst
  replace hst1 := Lib.hid hst1
  replace hK := Lib.hid hK
  have hC1 : C ≠ 0 := by omega
  have hwD : IntKind.i64.wrap (D : Int) = (D : Int) := by rw [IntKind.wrap_i64]; omega
  unfold maxLen at hcm
  obtain ⟨i0, hi, hz0, hz1, hz2⟩ := info_parts infoRow
  go_enter Tryz.func284, Tryz.ntmps284
  go_upto_region 2 with fail
  go_quiet (fail)
  go_wp2_with fail
  go_quiet (fail)
  go_wp2_with fail
  refine wp_region_last (L := 11) (S := (fun w' : World => w'.cell? ⟨bb, 4, none⟩ = some (.slice A K cc))) (by kernel_rfl) ?_
  refine wpAnyT_takeT (n := 12) (i := 0) (v := .pointer (some ⟨bb, 0, none⟩)) rfl (by kernel_rfl) (by kernel_rfl) (by kernel_rfl) (by kernel_rfl) (by kernel_rfl) (fun _ _ _ h => h) (Or.inl ⟨by rfl, ?_⟩) c4 ?_
  · intro W k0
    clear c0 c2 c4 d1 d2 htake hrem hD
    go_simp
    try (intro hx; exfalso; omega)
  try simp only [Act.put, List.setIfInBounds_toArray]
  refine wpAnyT_takeT (n := 12) (i := 1) (v := .pointer (some ⟨bb, 0, none⟩)) rfl (by kernel_rfl) (by kernel_rfl) (by kernel_rfl) (by kernel_rfl) (by kernel_rfl) (fun _ _ _ h => h) (Or.inl ⟨by rfl, ?_⟩) c4 ?_
  · intro W k0
    clear c0 c2 c4 d1 d2 htake hrem hD
    go_simp
    try (intro hx; exfalso; omega)
  try simp only [Act.put]
  refine wpAnyT_takeT (n := 12) (i := 2) (v := .pointer (some ⟨bb, 0, none⟩)) rfl (by kernel_rfl) (by kernel_rfl) (by kernel_rfl) (by kernel_rfl) (by kernel_rfl) (fun _ _ _ h => h) (Or.inl ⟨by rfl, ?_⟩) c4 ?_
  · intro W k0
    clear c0 c2 c4 d1 d2 htake hrem hD
    go_simp
    try (intro hx; exfalso; omega)
  try simp only [Act.put]
  refine wpAnyT_takeT (n := 12) (i := 3) (v := .pointer (some ⟨bb, 4, none⟩)) rfl (by kernel_rfl) (by kernel_rfl) (by kernel_rfl) (by kernel_rfl) (by kernel_rfl) (fun _ _ _ h => h) (Or.inl ⟨by rfl, ?_⟩) c4 ?_
  · intro W k0
    clear c0 c2 c4 d1 d2 htake hrem hD
    go_simp
    try (intro hx; exfalso; omega)
  try simp only [Act.put]
  refine wpAnyT_takeT (n := 12) (i := 4) (v := .slice A K cc) rfl (by kernel_rfl) (by kernel_rfl) (by kernel_rfl) (by kernel_rfl) (by kernel_rfl) (fun _ _ _ h => h) (Or.inl ⟨by rfl, ?_⟩) c4 ?_
  · intro W k0
    clear c0 c2 c4 d1 d2 htake hrem hD
    go_simp
    try (intro hx; exfalso; omega)
  try simp only [Act.put]
  refine wpAnyT_takeT (n := 12) (i := 5) (v := .pointer (some ⟨pb, 0, none⟩)) rfl (by kernel_rfl) (by kernel_rfl) (by kernel_rfl) (by kernel_rfl) (by kernel_rfl) (fun _ _ _ h => h) (Or.inl ⟨by rfl, ?_⟩) c4 ?_
  · intro W k0
    clear c0 c2 c4 d1 d2 htake hrem hD
    go_simp
    try (intro hx; exfalso; omega)
  try simp only [Act.put]

  refine wpAnyT_one (i := 6) rfl (by kernel_rfl) rfl ?_
  go_simp
  refine (htake _ ?_ ?_ ?_).mono ?_
  · exact hp.out
  · exact hS.out
  · exact hst1.out
  rintro e w1 ⟨v, S', sp', rfl, hp1, hS1, hSo, hv1, hvo, m1'⟩
  have m1 : Mv B (fun b => b = pb ∨ b = bb ∨ (Value.slice A K cc).ownBlock = some b ∨ v.ownBlock = some b ∨ w.heap.size ≤ b) w w1 := Mv.mono (w := w) ⟨m1'.os, m1'.tape, m1'.output, m1'.size, m1'.block, m1'.keep⟩ (fun b _ h => .inl h)
  have hv0 : ∀ g, v.ownBlock = some g → g ≠ pb ∧ g ≠ bb ∧ (Value.slice A K cc).ownBlock ≠ some g ∧ S'.ownBlock ≠ some g := by
    intro g hg
    rcases hvo with ⟨rfl, _⟩ | ⟨v0, h1, h2⟩
    · cases hg
    · rw [hSo]
      exact (hst.out v0 (by rw [h1]; simp)).2 g (by rw [← h2]; exact hg)
  have hSo1 : ∀ g, S'.ownBlock = some g → g ≠ bb ∧ g ≠ pb ∧ (Value.slice A K cc).ownBlock ≠ some g := fun g h => hSb.out g (by rw [← hSo]; exact h)
  have hb1 : Blk w1 bb (bufC pb gone len m (.slice A K cc)) 232 := (m1'.block bb hbl (fun h => hne h.symm)).trans hb.out
  have hc1 : Row w1 B 134 (.slice A K cc) K cs := hc.out.keep fun g hg => m1'.block g (hc.out.lt hg).2.1 (hcb.out g hg).2
  have hsz1 : w.heap.size ≤ w1.heap.size := m1'.size
  obtain ⟨A0, c0', rfl, _, _⟩ := hv1.form
  replace m1 := Lib.hid m1
  have k4 := hb1.cell (show (bufC pb gone len m (.slice A K cc))[4]? = some _ from rfl)
  clear m1' c4 c0 c2 d1 d2 htake
  replace hp1 := Lib.hid hp1
  replace hS1 := Lib.hid hS1
  replace hSo := Lib.hid hSo
  replace hv1 := Lib.hid hv1
  replace hvo := Lib.hid hvo
  replace hb1 := Lib.hid hb1
  replace hc1 := Lib.hid hc1
  replace hv0 := Lib.hid hv0
  replace hSo1 := Lib.hid hSo1
  refine ⟨k4, ?_⟩
  refine wpAnyT_one (i := 7) rfl (by kernel_rfl) rfl ?_
  go_simp
  have hB2 := Blk.new w1 [.slice A0 0 c0'] 134
  have m2 := m1.out.trans (Mv.alloc B _ w1 (.cells #[.slice A0 0 c0'] 134))
  have hb2 := hb1.out.alloc (.cells #[.slice A0 0 c0'] 134)
  have hp2 := hp1.out.alloc (.cells #[.slice A0 0 c0'] 134)
  have hc2 : Row (w1.alloc (.cells #[.slice A0 0 c0'] 134)) B 134 (.slice A K cc) K cs := hc1.out.keep fun g hg => Below.heap_alloc w1 _ g (hc1.out.lt hg).2.1
  have hv2 : Row (w1.alloc (.cells #[.slice A0 0 c0'] 134)) B 5 (.slice A0 0 c0') 0 (bc []) := hv1.out.keep fun g hg => Below.heap_alloc w1 _ g (hv1.out.lt hg).2.1
  have hS2 : Row (w1.alloc (.cells #[.slice A0 0 c0'] 134)) B 134 S' sp'.length sp' := hS1.out.keep fun g hg => Below.heap_alloc w1 _ g (hS1.out.lt hg).2.1
  have hsz2 : (w1.alloc (.cells #[.slice A0 0 c0'] 134)).heap.size = w1.heap.size + 1 := by simp
  generalize hw2 : w1.alloc (.cells #[.slice A0 0 c0'] 134) = w2 at hB2 m2 hb2 hp2 hc2 hv2 hS2 hsz2 ⊢
  obtain ⟨y, hy⟩ : ∃ y, w1.heap.size = y := ⟨_, rfl⟩
  rw [hy] at hB2 hsz2 hsz1 ⊢
  have k4 := hb2.cell (show (bufC pb gone len m (.slice A K cc))[4]? = some _ from rfl)
  obtain ⟨c', w3, hrun, hc3, m3, how⟩ := run_append_row (P := Tryz.prog) w2 B 138 138 138 134 i0 _ Tryz.underlying138 hi hz0 hz1 rfl four_rows (.slice A K cc) K cs hc2 (.slice (some ⟨y, 0, none⟩) 1 1) 1 [.slice A0 0 c0']
    (Src.ofSlice w2 Tryz.underlying138 _ 1 1 _ rfl (fun j u hu => by rw [add_plain0, Nat.zero_add]; exact hB2.cell hu) (by simp [Value.oneCell'])) (by rw [hz2]; omega) (by omega) (by omega)
  have hb3 : Blk w3 bb _ _ := hb2.mv m3 fun h => (hcb.out bb h).1 rfl
  have hp3 : Blk w3 pb _ _ := hp2.mv m3 fun h => (hcb.out pb h).2 rfl
  have hv3 := hv2.mv m3 fun g hg => (hv0.out g hg).2.2.1
  have hS3 := hS2.mv m3 fun g hg => (hSo1.out g hg).2.2
  obtain ⟨g, off, cap, rfl, hcc3, hcm3, hBg⟩ := hc3.form1 (Nat.succ_pos _)
  have hgw : (Value.slice A K cc).ownBlock = some g ∨ g = w2.heap.size := how.imp (fun h => h.symm) (fun h => by cases h; rfl)
  have hgb : g ≠ bb := by
    rcases hgw with h | h
    · exact (hcb.out g h).1
    · have := hb2.lt; omega
  have hgp : g ≠ pb := by
    rcases hgw with h | h
    · exact (hcb.out g h).2
    · have := hp2.lt; omega
  have hgv : (Value.slice A0 0 c0').ownBlock ≠ some g := by
    intro hg
    rcases hgw with h | h
    · exact (hv0.out g hg).2.2.1 h
    · have := (hv2.lt hg).2.1; omega
  have m3w : Mv B (fun b => b = pb ∨ b = bb ∨ (Value.slice A K cc).ownBlock = some b ∨ (Value.slice A0 0 c0').ownBlock = some b ∨ w.heap.size ≤ b) w w3 := m2.trans (m3.mono fun b _ h => .inr (.inr (.inl h)))
  have hgs : S'.ownBlock ≠ some g := by
    intro hg
    rcases hgw with h | h
    · exact (hSo1.out g hg).2.2 h
    · have := (hS2.lt hg).2.1; omega
  have k3 := hb3.cell (show (bufC pb gone len m (.slice A K cc))[4]? = some _ from rfl)
  have f3 := hb3.frozen 4
  have hsz3 := m3.size
  replace hB2 := Lib.hid hB2
  replace m2 := Lib.hid m2
  replace hb2 := Lib.hid hb2
  replace hp2 := Lib.hid hp2
  replace hc2 := Lib.hid hc2
  replace hv2 := Lib.hid hv2
  replace hS2 := Lib.hid hS2
  replace hrun := Lib.hid hrun
  replace hc3 := Lib.hid hc3
  replace m3 := Lib.hid m3
  replace how := Lib.hid how
  replace hgw := Lib.hid hgw
  replace hb3 := Lib.hid hb3
  replace hp3 := Lib.hid hp3
  replace hv3 := Lib.hid hv3
  replace hS3 := Lib.hid hS3
  replace hgs := Lib.hid hgs
  replace hgv := Lib.hid hgv
  replace m3w := Lib.hid m3w
  replace hw2 := Lib.hid hw2
  replace hy := Lib.hid hy
  refine ⟨k4, ?_⟩
  clear k4 hi hz0 hz1 hz2
  refine wpAnyT_one (i := 8) rfl (by kernel_rfl) rfl ?_
  refine wp_append_of (.tmp 47) (.tmp 50) 138 138 rfl _ _ _ w3 rfl rfl hrun.out ?_
  refine ⟨fun _ => k3, ?_⟩
  try simp only [Act.put, List.setIfInBounds_toArray]
  refine wpAnyT_one (i := 9) rfl (by kernel_rfl) rfl ?_
  go_simp
  refine wpAnyT_one (i := 10) rfl (by kernel_rfl) rfl ?_
  go_simp
  refine wpAnyT_one (i := 11) rfl (by kernel_rfl) rfl ?_
  clear k3
  have k3 := hb3.out.cell (show (bufC pb gone len m (.slice A K cc))[4]? = some _ from rfl)
  go_simp
  refine wpAnyT_done (by kernel_rfl) ?_ _
  have hb4 := hb3.out.set 4 (.slice (some ⟨g, off, none⟩) (K + 1) cap)
  have e4 : (bufC pb gone len m (.slice A K cc)).set 4 (.slice (some ⟨g, off, none⟩) (K + 1) cap) = bufC pb gone len m (.slice (some ⟨g, off, none⟩) (K + 1) cap) := rfl
  rw [e4] at hb4
  have m4 := m3w.out.trans (Mv.set hb3.out (.inr (.inl rfl)) four_buf hBb 4 (.slice (some ⟨g, off, none⟩) (K + 1) cap))
  have hp4 := hp3.out.other (a := ⟨bb, 4, none⟩) hne (.slice (some ⟨g, off, none⟩) (K + 1) cap)
  have hc4 : Row (w3.setCell ⟨bb, 4, none⟩ (.slice (some ⟨g, off, none⟩) (K + 1) cap)) B 134 (.slice (some ⟨g, off, none⟩) (K + 1) cap) (K + 1) (cs ++ [.slice A0 0 c0']) := hc3.out.keep fun g' hg => by cases hg; exact heap_setCell_other w3 _ g _ hgb
  have hv4 : Row (w3.setCell ⟨bb, 4, none⟩ (.slice (some ⟨g, off, none⟩) (K + 1) cap)) B 5 (.slice A0 0 c0') 0 (bc []) := hv3.out.keep fun g' hg => heap_setCell_other w3 _ g' _ (hv0.out g' hg).2.1
  have hS4 : Row (w3.setCell ⟨bb, 4, none⟩ (.slice (some ⟨g, off, none⟩) (K + 1) cap)) B 134 S' sp'.length sp' := hS3.out.keep fun g' hg => heap_setCell_other w3 _ g' _ (hSo1.out g' hg).1
  have hsz4 : (w3.setCell ⟨bb, 4, none⟩ (.slice (some ⟨g, off, none⟩) (K + 1) cap)).heap.size = w3.heap.size := by simp [World.setCell]
  generalize w3.setCell ⟨bb, 4, none⟩ (.slice (some ⟨g, off, none⟩) (K + 1) cap) = w4 at hb4 m4 hp4 hc4 hv4 hS4 hsz4 ⊢
  have c4 := hb4.cell (show (bufC pb gone len m (.slice (some ⟨g, off, none⟩) (K + 1) cap))[4]? = some _ from rfl)
  have d2 := hp4.cell (show (Ps.cells { p with used := p.used + 1 } S')[2]? = some _ from rfl)
  simp only [hC.out] at d2
  have hpl := hp4.lt
  have hbl := hb4.lt
  obtain ⟨_, hgl, cur, hcur⟩ := hc4.lt (g := g) rfl
  have hv : cur[off + K]? = some (.slice A0 0 c0') := by
    have h1 := hc4.cell (j := K) (u := .slice A0 0 c0') (by rw [← hK.out]; simp)
    rw [cell_of_row w4 g _ _ _ _ hcur] at h1
    simpa using h1
  have hcall := fun W (h1 : Blk W g cur 134) (h2 : Row W B 5 (.slice A0 0 c0') 0 (bc [])) (h3 : B ≤ W.heap.size) => extend_any B g (off + K) _ 134 (.slice A0 0 c0') [] data C W h1 hv four_rows hBg h2 (fun g' h => fun e => hgv.out (by rw [h, e])) hd hlt hmost h3 hds
  have hi0 : (0 : Int) ≤ (K : Int) := by omega
  have hi1 : (K : Int) < (K : Int) + 1 := by omega
  have hwn : IntKind.i64.wrap (K : Int) = (K : Int) := by rw [IntKind.wrap_i64]; omega
  have hwn1 : IntKind.i64.wrap (((K + 1 : Nat) : Int) - 1) = (K : Int) := by rw [IntKind.wrap_i64]; omega
  have hwn2 : IntKind.i64.wrap ((K : Int) + 1 - 1) = (K : Int) := by rw [IntKind.wrap_i64]; omega
  have hB4 : B ≤ w4.heap.size := by omega
  unfold maxLen at hcm3
  replace hb4 := Lib.hid hb4
  replace hp4 := Lib.hid hp4
  replace hc4 := Lib.hid hc4
  replace hv4 := Lib.hid hv4
  replace hS4 := Lib.hid hS4
  replace m4 := Lib.hid m4
  replace hcur := Lib.hid hcur
  replace hv := Lib.hid hv
  clear k3 f3 e4 hwD hrem hD hd hds
  go_wp2_with fail
  go_region_held3 (fun w' => w'.cell? ⟨pb, 2, none⟩ = some (.int .i64 (C : Int)) ∧ w'.cell? ⟨bb, 4, none⟩ = some (.slice (some ⟨g, off, none⟩) (K + 1) cap))
    (first | go_keep | exact hk)
    ((go_at_call 285; refine (hcall _ ?_ ?_ ?_).mono ?_; exact hcur.out; exact hv4.out; exact hB4; rintro e w5 ⟨N, v', hN, rfl, hb5, hr5, m5', how5, hne5⟩; replace hN := Lib.hid hN;
      have m5 : Mv B (fun b => b = g ∨ (Value.slice A0 0 c0').ownBlock = some b) w4 w5 := ⟨m5'.os, m5'.tape, m5'.output, m5'.size, m5'.block, m5'.keep⟩;
      have hk : w5.cell? ⟨pb, 2, none⟩ = some (.int .i64 (C : Int)) ∧ w5.cell? ⟨bb, 4, none⟩ = some (.slice (some ⟨g, off, none⟩) (K + 1) cap) := ⟨(World.cell?_of_block (a := ⟨pb, 2, none⟩) (m5.block pb hpl (fun h => h.elim (fun h => hgp h.symm) (fun h => (hv0.out pb h).1 rfl)))).trans d2, (World.cell?_of_block (a := ⟨bb, 4, none⟩) (m5.block bb hbl (fun h => h.elim (fun h => hgb h.symm) (fun h => (hv0.out bb h).2.1 rfl)))).trans c4⟩))
  have hrow := Lib.hid (row_set_last hc4.out hK.out hcur.out hb5)
  have hp5 : Blk w5 pb _ _ := hp4.out.mv m5 fun h => h.elim (fun h => hgp h.symm) (fun h => (hv0.out pb h).1 rfl)
  have hb5' : Blk w5 bb _ _ := hb4.out.mv m5 fun h => h.elim (fun h => hgb h.symm) (fun h => (hv0.out bb h).2.1 rfl)
  have hS5 := hS4.out.mv m5 fun g' hg => fun h => h.elim (fun h => hgs.out (by rw [hg, h])) (fun h => (hv0.out g' h).2.2.2 hg)
  have hnew : w.heap.size ≤ w4.heap.size := m4.out.size
  have hcn : ∀ h : Nat, (Value.slice (some ⟨g, off, none⟩) (K + 1) cap).ownBlock = some h → h < w4.heap.size := fun h e => by cases e; exact hgl
  have m5w := m4.out.trans (m5.mono fun b hb h => by
    rcases h with h | h
    · rcases hgw.out with hx | hx
      · exact .inr (.inr (.inl (by rw [h]; exact hx)))
      · exact .inr (.inr (.inr (.inr (by omega))))
    · exact .inr (.inr (.inr (.inl h))))
  replace hp5 := Lib.hid hp5
  replace hb5 := Lib.hid hb5
  replace hb5' := Lib.hid hb5'
  replace hS5 := Lib.hid hS5
  replace m5w := Lib.hid m5w
  replace m5 := Lib.hid m5
  replace hr5 := Lib.hid hr5
  replace how5 := Lib.hid how5
  replace hne5 := Lib.hid hne5
  replace hcn := Lib.hid hcn
  clear hcall hk m5' hwn hwn1 hwn2
  go_wp2
  go_ret
  refine ⟨N, _, v', _, S', sp', by rw [hN.out]; simp, rfl, by rw [← hC.out]; exact hp5.out, hS5.out, hSo.out, hvo.out, hb5'.out, ?_, hrow.out, by simpa using hr5.out, ?_, m5w.out⟩
  · rcases hgw.out with h | h
    · exact .inl h.symm
    · exact .inr ⟨g, rfl, by omega⟩
  · rcases how5.out with h | h
    · exact .inl h
    · refine .inr ⟨_, h, hnew, fun e => ?_⟩
      exact absurd (hcn.out _ e) (Nat.lt_irrefl _)
end Go.Proofs.YtbjakhiflgjflaaGreatDoor
