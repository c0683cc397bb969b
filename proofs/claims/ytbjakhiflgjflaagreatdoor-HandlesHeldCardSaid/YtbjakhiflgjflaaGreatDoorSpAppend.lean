/-
  Append to an open buffer: its bytes are behind the others, or, above the quota, nothing is. Conditions: at most a million bytes and chunks; numbers of the size of a pool's.
-/
import Derived.Test.YtbjakhiflgjflaaGreatDoorSpPut
import Derived.Test.YtbjakhiflgjflaaGreatDoorSpSmall
namespace Go.Proofs.YtbjakhiflgjflaaGreatDoor
open Go Go.RowKit

theorem tl_from (s : ByteArray) (k : Nat) : tl (s.extract k s.size) = (tl s).drop k := by
  have h := tl_len s
  unfold tl at h ⊢
  simp only [ByteArray.data_extract, Array.toList_extract, List.extract]
  exact List.take_of_length_le (by rw [List.length_drop]; omega)
theorem tl_emp (s : ByteArray) : s.toList.isEmpty = decide (s.size = 0) := by
  rw [ByteArray.toList_eq]
  have h := tl_len s
  unfold tl at h
  cases hl : s.data.toList with
  | nil => rw [hl] at h; simp [← h]
  | cons x l => rw [hl] at h; simp [← h]
def strLen : Value → Nat | .string s => s.size | _ => 0

theorem PoolAt.head {w w' : World} {B pb : Nat} {lab : Nat → Lab} {p p' : Ps} {S : Value} {sp : List Value} (h : PoolAt w B lab pb p S sp) (hb : Blk w' pb (p'.cells S) 140)
    (hk : ∀ g, g < w.heap.size → g ≠ pb → w'.heap[g]? = w.heap[g]?) : PoolAt w' B lab pb p' S sp where
  blk := hb
  low := h.low
  lb := h.lb
  arr := h.arr.keep fun g hg => hk g (h.arr.lt hg).2.1 (lab_ne (h.arl g hg) h.lb nofun)
  arl := h.arl
  str := fun v hv => by
    obtain ⟨bs, hbs⟩ := h.str v hv
    exact ⟨bs, hbs.keep fun g hg => hk g (hbs.lt hg).2.1 (lab_ne (h.stl v hv g hg) h.lb nofun)⟩
  stl := h.stl
  nd := h.nd
theorem PoolAt.same {w w' : World} {B pb : Nat} {lab : Nat → Lab} {p : Ps} {S : Value} {sp : List Value} (h : PoolAt w B lab pb p S sp) {x : Nat} (hx : lab x ≠ .pool ∧ lab x ≠ .sparr ∧ lab x ≠ .spare)
    (hk : ∀ g, g < w.heap.size → g ≠ x → w'.heap[g]? = w.heap[g]?) : PoolAt w' B lab pb p S sp :=
  h.keep fun g hg hl => ⟨hk g hg fun e => by subst e; rcases hl with h | h | h <;> simp [h] at hx, rfl⟩
theorem BufR.same {w w' : World} {B bb k M C : Nat} {lab : Nat → Lab} {b : Bs} (h : BufR w B lab bb k M C b) {x : Nat} (hx : lab x = .own k 0 ∨ ∀ t, lab x ≠ .own k t)
    (hk : ∀ g, g < w.heap.size → g ≠ x → w'.heap[g]? = w.heap[g]?) : BufR w' B lab bb k M C b :=
  have ne : ∀ {g t}, lab g = .own k (t + 1) → g ≠ x := fun {g t} hg e => by
    subst e
    rcases hx with h | h
    · rw [h] at hg; simp at hg
    · exact h _ hg
  { low := h.low
    lb := h.lb
    gl := h.gl
    mm := fun hm => (h.mm hm).keep fun g hg => hk g ((h.mm hm).lt hg).2.1 (ne (h.ml hm g hg))
    ml := h.ml
    arr := h.arr.keep fun g hg => hk g (h.arr.lt hg).2.1 (ne (h.arl g hg))
    arl := h.arl
    qq := h.qq
    qg := h.qg
    hi := h.hi
    lo := h.lo
    str := fun i v hv => (h.str i v hv).keep fun g hg => hk g ((h.str i v hv).lt hg).2.1 (ne (h.stl v (List.mem_of_getElem? hv) g hg))
    stl := h.stl
    nd := h.nd }
theorem set3 (p : Ps) (S : Value) (u : Nat) : (p.cells S).set 3 (.int .i64 (u : Int)) = ({ p with held := u } : Ps).cells S := rfl

/-- What an Append that is done leaves. -/
def AppPost (B pb bb k : Nat) (lab : Nat → Lab) (p : Ps) (sp : List Value) (b : Bs) (data : ByteArray) (w w' : World) : Prop :=
  ∃ (lab' : Nat → Lab) (u : Nat) (S' : Value) (sp' : List Value) (b' : Bs), PoolAt w' B lab' pb { p with held := p.held + data.size, used := u } S' sp' ∧
    Blk w' bb (bufC pb b.gone b'.all.length b'.m b'.c) 232 ∧ BufR w' B lab' bb k p.mem p.ch b' ∧ b'.all = b.all ++ tl data ∧ b'.gone = b.gone ∧
    Step B k w.heap.size w lab w' lab' ∧ u + b.cs.length = p.used + b'.cs.length ∧ sp'.length + u ≤ sp.length + p.used + data.size

section
variable {B pb bb k : Nat} {lab : Nat → Lab} {p : Ps} {S : Value} {sp : List Value} {b : Bs} {data : ByteArray} {w : World}

set_option maxHeartbeats 2000000 in
set_option maxRecDepth 100000 in
theorem append_no (gone len : Nat) (m c : Value) (hP : Blk w pb (p.cells S) 140) (hblk : Blk w bb (bufC pb gone len m c) 232) (hds : data.size ≤ 1000000) (hq : p.quota < p.held + data.size) (hqb : p.quota ≤ 1048576) (hh : p.held ≤ 1048576) :
    Calls Tryz.prog 283 #[.pointer (some ⟨bb, 0, none⟩), .string data] w fun e w' => e = .returned (.int .i64 41) ∧ ∃ n, w' = w.drewN n := by
  have hop := open_ok pb bb gone len m c w hblk
  have c0 := hblk.cell (show (bufC pb gone len m c)[0]? = some _ from rfl)
  have d0 := hP.cell (show (p.cells S)[0]? = some _ from rfl)
  have d3 := hP.cell (show (p.cells S)[3]? = some _ from rfl)
  obtain ⟨q, hqq⟩ : ∃ q, p.quota = q := ⟨_, rfl⟩
  obtain ⟨h, hhh⟩ : ∃ h, p.held = h := ⟨_, rfl⟩
  rw [hqq] at d0 hq hqb
  rw [hhh] at d3 hq hh
  have hpl := hP.lt
  have hbl := hblk.lt
  have hwD : IntKind.i64.wrap ((q : Int) - (h : Int)) = (q : Int) - (h : Int) := by rw [IntKind.wrap_i64]; omega
  have hlt : (q : Int) - (h : Int) < (data.size : Int) := by omega
  clear hP hblk hqq hhh
  go_enter Tryz.func283, Tryz.ntmps283
  go_wp2_with fail
  refine hop.mono ?_
  rintro e w1 ⟨rfl, hw⟩
  obtain rfl := hw.symm
  go_upto_region 5 with fail
  go_quiet (fail)
  go_wp2
  go_ret
  exact ⟨rfl, _, rfl⟩

set_option maxHeartbeats 4000000 in
set_option maxRecDepth 100000 in
theorem append_ok (hP : PoolAt w B lab pb p S sp) (hblk : Blk w bb (bufC pb b.gone b.all.length b.m b.c) 232) (hR : BufR w B lab bb k p.mem p.ch b) (hnew : ∀ g, w.heap.size ≤ g → lab g = .free) (hB : B ≤ w.heap.size)
    (hlen : b.all.length + data.size ≤ 1000000) (hmem : p.mem ≤ 65536) (hch : 0 < p.ch ∧ p.ch ≤ 65536) (hfew : sp.length + p.used + data.size ≤ 1000000) (hq : p.held + data.size ≤ p.quota) (hqb : p.quota ≤ 1048576) :
    Calls Tryz.prog 283 #[.pointer (some ⟨bb, 0, none⟩), .string data] w fun e w' => e = .returned (.int .i64 0) ∧ AppPost B pb bb k lab p sp b data w w' := by
  have hop := open_ok pb bb b.gone b.all.length b.m b.c w hblk
  have c0 := hblk.cell (show (bufC pb b.gone b.all.length b.m b.c)[0]? = some _ from rfl)
  have d0 := hP.blk.cell (show (p.cells S)[0]? = some _ from rfl)
  have d3 := hP.blk.cell (show (p.cells S)[3]? = some _ from rfl)
  have f3 := hP.blk.frozen 3
  obtain ⟨q, hqq⟩ : ∃ q, p.quota = q := ⟨_, rfl⟩
  obtain ⟨h, hhh⟩ : ∃ h, p.held = h := ⟨_, rfl⟩
  have hq0 := hq
  have hqb0 := hqb
  rw [hqq, hhh] at hq
  rw [hqq] at hqb d0
  rw [hhh] at d3
  have hpl := hP.blk.lt
  have hbl := hblk.lt
  have hwD : IntKind.i64.wrap ((q : Int) - (h : Int)) = (q : Int) - (h : Int) := by rw [IntKind.wrap_i64]; omega
  have hlt : ¬ (q : Int) - (h : Int) < (data.size : Int) := by omega
  have hpb : pb ≠ bb := lab_ne hP.lb hR.lb nofun
  replace hqq := Lib.hid hqq
  replace hhh := Lib.hid hhh
  replace hP := Lib.hid hP
  replace hR := Lib.hid hR
  replace hblk := Lib.hid hblk
  replace hnew := Lib.hid hnew
  go_enter Tryz.func283, Tryz.ntmps283
  go_wp2_with fail
  refine hop.mono ?_
  rintro e w1 ⟨rfl, hw⟩
  obtain rfl := hw.symm
  clear hop
  go_upto_region 5 with fail
  go_quiet (fail)
  go_upto_region 8 with fail
  have e1 : ((w.drewN nq).setCell ⟨pb, 3, none⟩ (.int .i64 ((h : Int) + (data.size : Int)))) = ((w.drewN nq).setCell ⟨pb, 3, none⟩ (.int .i64 ((h + data.size : Nat) : Int))) := rfl
  rw [e1]
  have hpb1 : Blk (w.drewN nq) pb (p.cells S) 140 := hP.out.blk
  have hb2 := hpb1.set 3 (.int .i64 ((h + data.size : Nat) : Int))
  rw [set3] at hb2
  have m2 : Mv B (fun g => Mine k (lab g) ∨ w.heap.size ≤ g) w ((w.drewN nq).setCell ⟨pb, 3, none⟩ (.int .i64 ((h + data.size : Nat) : Int))) :=
    (heap_mv ⟨nq, rfl⟩).trans (Mv.set (S := fun g => Mine k (lab g) ∨ w.heap.size ≤ g) hpb1 (.inl (by rw [hP.out.lb]; trivial)) four_pool hP.out.low 3 _)
  have hk2 : ∀ g, g < w.heap.size → g ≠ pb → ((w.drewN nq).setCell ⟨pb, 3, none⟩ (.int .i64 ((h + data.size : Nat) : Int))).heap[g]? = w.heap[g]? := fun g _ hg => heap_setCell_other (w.drewN nq) _ g _ hg
  have hs2 : ((w.drewN nq).setCell ⟨pb, 3, none⟩ (.int .i64 ((h + data.size : Nat) : Int))).heap.size = w.heap.size := by simp [World.setCell]
  generalize (w.drewN nq).setCell ⟨pb, 3, none⟩ (.int .i64 ((h + data.size : Nat) : Int)) = w2 at hb2 m2 hk2 hs2 ⊢
  have hP2 : PoolAt w2 B lab pb { p with held := h + data.size } S sp := hP.out.head hb2 hk2
  have hblk2 : Blk w2 bb (bufC pb b.gone b.all.length b.m b.c) 232 := (hk2 bb hbl (fun e => hpb e.symm)).trans hblk.out
  have hR2 : BufR w2 B lab bb k p.mem p.ch b := hR.out.same (x := pb) (.inr fun t => by rw [hP.out.lb]; simp) hk2
  have hst2 : Step B k w.heap.size w lab w2 lab := ⟨m2, fun _ _ _ => rfl, fun g hg => hnew.out g (by omega)⟩
  clear c0 d0 d3 f3 e1 hpb1 hb2 m2 hk2 hwD hlt
  replace hP2 := Lib.hid hP2
  replace hblk2 := Lib.hid hblk2
  replace hR2 := Lib.hid hR2
  replace hst2 := Lib.hid hst2
  replace hfew := Lib.hid hfew
  replace hlen := Lib.hid hlen
  replace hch := Lib.hid hch
  replace hq0 := Lib.hid hq0
  go_loopw [1] (fun dv wr => ∃ (d : ByteArray) (lab' : Nat → Lab) (u : Nat) (S' : Value) (sp' : List Value) (b' : Bs), dv = .string d ∧ d.size ≤ data.size ∧ Hid (PoolAt wr B lab' pb { p with held := h + data.size, used := u } S' sp') ∧
      Hid (Blk wr bb (bufC pb b.gone b'.all.length b'.m b'.c) 232) ∧ Hid (BufR wr B lab' bb k p.mem p.ch b') ∧ Hid (b'.all ++ tl d = b.all ++ tl data) ∧ Hid (b'.gone = b.gone) ∧
      Hid (Step B k w.heap.size w lab wr lab') ∧ Hid (u + b.cs.length = p.used + b'.cs.length) ∧ Hid (sp'.length + u + d.size ≤ sp.length + p.used + data.size)) (fun dv _ => strLen dv)
  case atStart => exact ⟨data, lab, p.used, S, sp, b, rfl, Nat.le_refl _, hP2, hblk2, hR2, Lib.hid rfl, Lib.hid rfl, hst2, Lib.hid rfl, Lib.hid (Nat.le_refl _)⟩
  case round =>
    clear hP2 hblk2 hR2 hst2
    obtain ⟨d, lab', u, S', sp', b', rfl, hdl, hP', hblk', hR', hall, hgone, hst, hcnt, hfw⟩ := hrel
    have hsz : b'.all.length + d.size = b.all.length + data.size := by
      have := congrArg List.length hall.out
      simpa [List.length_append, tl_len] using this
    by_cases hd0 : d.size = 0
    · have hem : d.toList.isEmpty = true := by rw [tl_emp, hd0]; rfl
      go_wp2
      go_ret
      have hd1 : tl d = [] := List.eq_nil_of_length_eq_zero (by rw [tl_len]; exact hd0)
      have ha := hall.out
      rw [hd1, List.append_nil] at ha
      have hfw' := hfw.out
      exact ⟨rfl, lab', u, S', sp', b', by rw [hhh.out]; exact hP'.out, hblk'.out, hR'.out, ha, hgone.out, hst.out, hcnt.out, by omega⟩
    · have hem : d.toList.isEmpty = false := by rw [tl_emp]; simp [hd0]
      have hput := put_step (data := d) hP'.out (by rw [hgone.out]; exact hblk'.out) hR'.out hst.out.new (Nat.le_trans hB hst.out.mv.size) (by omega) (by have := hlen.out; omega) (by have := hlen.out; omega) hmem hch.out (by have := hfw.out; have := hfew.out; show sp'.length + u ≤ _; omega)
      go_wp2_with fail
      refine hput.mono ?_
      rintro e w3 ⟨n, lab2, u2, S2, sp2, b2, hn0, hnd, rfl, hP3, hblk3, hR3, hall3, hgone3, hst3, hcnt3, hfw3⟩
      have hblk3l := hblk3.lt
      have c2 := hblk3.cell (show (bufC pb b'.gone b'.all.length b2.m b2.c)[2]? = some _ from rfl)
      have f2 := hblk3.frozen 2
      replace hP3 := Lib.hid hP3
      replace hblk3 := Lib.hid hblk3
      replace hR3 := Lib.hid hR3
      replace hall3 := Lib.hid hall3
      replace hgone3 := Lib.hid hgone3
      replace hst3 := Lib.hid hst3
      replace hcnt3 := Lib.hid hcnt3
      replace hfw3 := Lib.hid hfw3
      have hbd : b'.all.length ≤ 1000000 := by have := hlen.out; omega
      generalize hLL : b'.all.length = LL at c2 hblk3 hbd
      clear hput
      go_upto_region 11 with fail
      have e4 : (w3.setCell ⟨bb, 2, none⟩ (.int .i64 ((LL : Int) + (n : Int)))) = (w3.setCell ⟨bb, 2, none⟩ (.int .i64 ((LL + n : Nat) : Int))) := rfl
      rw [e4]
      have hb4 := hblk3.out.set 2 (.int .i64 ((LL + n : Nat) : Int))
      have e5 : (bufC pb b'.gone LL b2.m b2.c).set 2 (.int .i64 ((LL + n : Nat) : Int)) = bufC pb b'.gone (LL + n) b2.m b2.c := rfl
      rw [e5] at hb4
      have hlb := hR3.out.lb
      have hk4 : ∀ g, g < w3.heap.size → g ≠ bb → (w3.setCell ⟨bb, 2, none⟩ (.int .i64 ((LL + n : Nat) : Int))).heap[g]? = w3.heap[g]? := fun g _ hg => heap_setCell_other w3 _ g _ hg
      have hs4 : (w3.setCell ⟨bb, 2, none⟩ (.int .i64 ((LL + n : Nat) : Int))).heap.size = w3.heap.size := by simp [World.setCell]
      have m4 : Mv B (fun g => Mine k (lab2 g) ∨ w.heap.size ≤ g) w3 (w3.setCell ⟨bb, 2, none⟩ (.int .i64 ((LL + n : Nat) : Int))) := Mv.set (S := fun g => Mine k (lab2 g) ∨ w.heap.size ≤ g) hblk3.out (.inl (by rw [hlb]; rfl)) four_buf hR3.out.low 2 _
      generalize w3.setCell ⟨bb, 2, none⟩ (.int .i64 ((LL + n : Nat) : Int)) = w4 at hb4 hk4 hs4 m4 ⊢
      have hP4 := hP3.out.same (x := bb) ⟨by rw [hlb]; simp, by rw [hlb]; simp, by rw [hlb]; simp⟩ hk4
      have hR4 := hR3.out.same (x := bb) (.inl hlb) hk4
      have hst4 : Step B k w.heap.size w lab w4 lab2 := (hst.out.trans (hst3.out.more hst.out.mv.size) (Nat.le_refl _)).trans ⟨m4, fun _ _ _ => rfl, fun g hg => hst3.out.new g (by omega)⟩ (Nat.le_refl _)
      have hl2 : b2.all.length = LL + n := by
        have := congrArg List.length hall3.out
        rw [List.length_append, List.length_take, tl_len, hLL] at this
        omega
      have hgg : b2.gone = b.gone := hgone3.out.trans hgone.out
      rw [hgone.out, ← hl2] at hb4
      have hex : (d.extract n d.size).size = d.size - n := by rw [ByteArray.size_extract]; omega
      have hal2 : b2.all ++ tl (d.extract n d.size) = b.all ++ tl data := by
        rw [tl_from, hall3.out, List.append_assoc, List.take_append_drop]
        exact hall.out
      have hcn2 : u2 + b.cs.length = p.used + b2.cs.length := by have h1 := hcnt3.out; have h2 := hcnt.out; have h3 : u2 + b'.cs.length = u + b2.cs.length := h1; omega
      have hfw2 : sp2.length + u2 + (d.extract n d.size).size ≤ sp.length + p.used + data.size := by have h1 : sp2.length + u2 ≤ sp'.length + u + 1 := hfw3.out; have h2 := hfw.out; omega
      clear c2 f2 e4 e5 hk4 hs4 m4
      replace hP4 := Lib.hid hP4
      replace hR4 := Lib.hid hR4
      replace hb4 := Lib.hid hb4
      replace hst4 := Lib.hid hst4
      replace hal2 := Lib.hid hal2
      replace hgg := Lib.hid hgg
      replace hcn2 := Lib.hid hcn2
      replace hfw2 := Lib.hid hfw2
      replace hl2 := Lib.hid hl2
      replace hex := Lib.hid hex
      replace hLL := Lib.hid hLL
      go_wp2
      go_roundw
      case rel => exact ⟨_, lab2, u2, S2, sp2, b2, rfl, by rw [hex.out]; omega, hP4, hb4, hR4, hal2, hgg, hst4, hcn2, hfw2⟩
      case measure => simp only [strLen]; rw [hex.out]; omega
end
end Go.Proofs.YtbjakhiflgjflaaGreatDoor
