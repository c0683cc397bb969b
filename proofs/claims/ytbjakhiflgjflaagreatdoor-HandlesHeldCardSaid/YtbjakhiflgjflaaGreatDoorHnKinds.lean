/-
  A table's add, Ref and the first half of Unref. Conditions: none is back where one is given out; at most a hundred thousand.
  What an open node does: its end, its bytes. Conditions: places up to a thousand million.
  What the ends of a pipe do. Conditions: a pool of at most half a million bytes in all.
-/
import Derived.Test.YtbjakhiflgjflaaGreatDoorHnState
import Derived.Handy
import Derived.Test.YtbjakhiflgjflaaGreatDoorNdWrite
import Derived.Test.YtbjakhiflgjflaaGreatDoorNdPath
namespace Go.Proofs.YtbjakhiflgjflaaGreatDoor
open Go Go.RowKit Go.ChangeMaps

theorem doesV_form (pp : Pps) (kd : Kd) (ob : Nat) : ∃ T u, doesV pp kd ob = .iface T u := by cases kd <;> exact ⟨_, _, rfl⟩
section
variable {w : World} {lab : Nat → HL} {F : Nat → Prop} {fb plb tb mb top : Nat} {hs : Hs} {pp : Pps} {mem : Int → HM} {v : Value} {xs : List Int}
set_option maxHeartbeats 1000000 in
set_option maxRecDepth 100000 in
theorem tab_add (h : TabF w F fb plb tb hs pp top []) (G : Nat → Prop) [DecidablePred G] (hG : ∀ g, G g → g < w.heap.size ∧ ¬ F g) (ht : top < 100000) (kd : Kd) (ob : Nat)
    (hob : ∀ w' lab', (∀ g, G g → w'.heap[g]? = w.heap[g]? ∧ lab' g = .obj ((top + 1 : Nat) : Int)) → ∀ kb, ObjAt w' lab' fb pp.length ((top + 1 : Nat) : Int) ⟨kb, ob, .slice none 0 0⟩ kd) :
    Calls Tryz.prog 94 #[ptrV tb, doesV pp kd ob] w fun e w' => e = .returned (.int .i64 ((top + 1 : Nat) : Int)) ∧ ∃ F', TabF w' F' fb plb tb (hs ++ [(((top + 1 : Nat) : Int), ⟨1, kd⟩)]) pp (top + 1) [] ∧ Chg (fun g => F g ∨ G g) F' w w' := by
  obtain ⟨lab, mb, mem, v, h, hF⟩ := h
  have htk := nums_take0 h.num ht
  have hlt := h.num.at_.blk.lt
  have hadd := fun w2 kb => h.add (S := fun g => g = tb ∨ g = mb) (S' := fun g => g = tb ∨ g = mb) (w2 := w2) (k := ((top + 1 : Nat) : Int)) (kd := kd) (ob := ob) (kb := kb) (top' := top + 1) (v' := v) (xs' := []) hF G hG
  have hno : look hs ((top + 1 : Nat) : Int) = none := by
    rw [look_none]
    intro p hp e
    have := (h.num.all p.1).2 (.inl (List.mem_map.2 ⟨p, hp, rfl⟩))
    omega
  have hlk : look (entH mem hs) ((top + 1 : Nat) : Int) = none := by rw [entH_look, hno]; rfl
  have hmt : mb ≠ tb := fun e => by have := h.lmap; rw [e, h.ltb] at this; cases this
  have hkm := h.map
  have hsp : ∀ g, g < w.heap.size → (fun g => g = tb ∨ g = mb) g → lab g = .tab ∨ lab g = .tmap ∨ lab g = .back := fun g _ hg => by
    rcases hg with hg | hg
    · exact .inl (by rw [hg]; exact h.ltb)
    · exact .inr (.inl (by rw [hg]; exact h.lmap))
  have hbk := h.lbk
  have hlm := h.lmap
  generalize ((top + 1 : Nat) : Int) = k at htk hadd hno hlk hob ⊢
  obtain ⟨T, u, hdv⟩ := doesV_form pp kd ob
  unfold ptrV
  rw [hdv]
  replace hdv := Lib.hid hdv
  replace hadd := Lib.hid hadd
  replace hob := Lib.hid hob
  replace hsp := Lib.hid hsp
  replace hbk := Lib.hid hbk
  replace hno := Lib.hid hno
  clear h
  go_enter Tryz.func94, Tryz.ntmps94
  go_wp2_with fail
  refine htk.mono ?_
  rintro e w1 ⟨rfl, hn, hC⟩
  clear htk
  have hkm1 := hkm.keep (hC.block mb hkm.lt hmt)
  have c2 := hn.at_.blk.cell (i := 2) rfl
  have hlt1 := hn.at_.blk.lt
  have hmb1 := hkm1.lt
  have hz1 := hC.size
  replace hn := Lib.hid hn
  replace hC := Lib.hid hC
  have hkm2 : KMap (w1.alloc (.cells #[.iface T u, .int .i64 1] 129)) mb (.int .i64) encI (entH mem hs) := hkm1.keep (Below.heap_alloc w1 _ mb hmb1)
  have hb2 : Blk (w1.alloc (.cells #[.iface T u, .int .i64 1] 129)) w1.heap.size [.iface T u, .int .i64 ((1 : Nat) : Int)] 129 := Blk.new w1 _ _
  have hc2 : Chg (fun g => g = tb ∨ g = mb) (fun g => g = tb ∨ g = mb) w1 (w1.alloc (.cells #[.iface T u, .int .i64 1] 129)) := Chg.alloc_other _ w1 _
  replace hb2 := Lib.hid hb2
  replace hc2 := Lib.hid hc2
  go_wp2_with (at_mapUpdate; go_loud (refine wpList_put_k rfl _ _ _ 115 rfl 3 116 keyI Tryz.underlying115 Tryz.underlying3 rfl hkm2 k rfl hlk (.pointer (some ⟨w1.heap.size, 0, none⟩)) rfl ?_); intro ob2 hkm3; refine Hid.out ?_)
  refine Lib.hid ?_
  have hc3 := (hC.out.mono (G := fun g => g = tb ∨ g = mb) (G' := fun g => g = tb ∨ g = mb) (fun b hb => .inl hb) (fun b _ hb => .inr hb)).trans (hc2.out.trans (Chg.setB (F := fun g => g = tb ∨ g = mb) (.inr rfl) ob2))
  have hb3 := hb2.out.setB (g := mb) (by omega) ob2
  have hn3 : NumR (setBlock (w1.alloc (.cells #[.iface T u, .int .i64 1] 129)) mb ob2) tb _ _ _ _ _ _ _ := hn.out.keep ((setB_other (Ne.symm hmt) ob2).trans (Below.heap_alloc w1 _ tb hlt1)) fun g hg => by
    have hgl := hn.out.at_.row.lt hg
    have hgm : g ≠ mb := fun e => by
      have := hbk.out g hg
      rw [e, hlm] at this
      cases this
    exact (setB_other hgm ob2).trans (Below.heap_alloc w1 _ g hgl)
  have hres := hadd.out _ w1.heap.size hno.out hc3 hsp.out hn3 hbk.out hkm3 (by rw [hdv.out]; exact hb3) hz1 hob.out
  generalize setBlock (w1.alloc (.cells #[.iface T u, .int .i64 1] 129)) mb ob2 = w3 at hres ⊢
  replace hres := Lib.hid hres
  clear hc3 hb3 hn3 hkm2 hb2 hc2 c2 hkm1 hkm3
  go_wp2
  go_ret
  exact ⟨rfl, hres.out⟩
end
end Go.Proofs.YtbjakhiflgjflaaGreatDoor

namespace Go.Proofs.YtbjakhiflgjflaaGreatDoor
open Go Go.RowKit

def fileC (fb : Nat) (n : Int) (a : Nat) (r wr m : Bool) : List Value := [ptrV fb, .int .i64 n, .int .i64 (a : Int), .bool r, .bool wr, .bool m]
section
variable {w : World} {F : Nat → Prop} {fb most room : Nat} {nds : Nds} {ob a : Nat} {n : Int} {r wr m : Bool}

set_option maxRecDepth 100000 in
theorem file_end (hb : Blk w ob (fileC fb n a r wr m) 165) (h : TreeF w F fb most room nds) {x : Pn} (hx : look nds n = some x) (hh : 0 < x.holds) (hm : x.holds ≤ 1000000) (hl : n = 1 ∨ 0 < x.named ∨ 1 < x.holds) :
    Calls Tryz.prog 263 #[ptrV ob] w fun e w' => e = .returned (.tuple #[]) ∧ ∃ F', TreeF w' F' fb most room (upd nds n { x with holds := x.holds - 1 }) ∧ Chg F F' w w' := by
  have hd := fun k => drop_some (h.keep (w' := w.drewN k) (Nat.le_refl _) fun _ _ => rfl) hx hh hm hl
  have c0 := hb.cell (i := 0) rfl
  have c1 := hb.cell (i := 1) rfl
  have hlt := hb.lt
  unfold ptrV at c0 ⊢
  replace hd := Lib.hid hd
  clear h hx hh hm hl hb
  go_enter Tryz.func263, Tryz.ntmps263
  go_still_tail 8, (by kernel_rfl)
  change wpList _ _ _ _ _ (w.drewN 1)
  go_wp2_with fail
  refine (hd.out 1).mono ?_
  rintro e w' ⟨rfl, F', hT, hC⟩
  have hC' : Chg F F' w w' := (Chg.drewN F w 1).trans hC
  replace hT := Lib.hid hT
  replace hC' := Lib.hid hC'
  clear hd hC c0 c1
  go_wp2
  go_end0
  exact ⟨rfl, F', hT.out, hC'.out⟩
set_option maxRecDepth 100000 in
theorem file_read (hb : Blk w ob (fileC fb n a true wr m) 165) (h : TreeF w F fb most room nds) {x : Pn} (hx : look nds n = some x) (hk : x.kind ≠ 1) (ha : a ≤ 1000000) (k : Nat) (hn : k ≤ 9223372036854775807) (hd : x.data.length ≤ 1000000) :
    Calls Tryz.prog 264 #[ptrV ob, .int .i64 (k : Int)] w fun e w' => e = .returned (.tuple #[.string ⟨((x.data.drop a).take k).toArray⟩, .int .i64 0]) ∧ ∃ j, w' = (w.drewN j).setCell ⟨ob, 2, none⟩ (.int .i64 ((a + ((x.data.drop a).take k).length : Nat) : Int)) := by
  obtain ⟨lab, mb, mem, h, hF⟩ := h
  have hr := fun j => read_some (h.grown (w' := w.drewN j) ⟨rfl, rfl, rfl, Nat.le_refl _, fun _ _ _ => rfl⟩) hx hk a k (by omega) hn
  have c0 := hb.cell (i := 0) rfl
  have c1 := hb.cell (i := 1) rfl
  have c2 := hb.cell (i := 2) rfl
  have c3 := hb.cell (i := 3) rfl
  have f2 := hb.frozen 2
  have hlt := hb.lt
  have hlen : ((x.data.drop a).take k).length ≤ 1000000 := by rw [List.length_take, List.length_drop]; omega
  have i1 : ¬ (k : Int) < 0 := by omega
  generalize (x.data.drop a).take k = s at hr hlen ⊢
  unfold ptrV at c0 ⊢
  replace hr := Lib.hid hr
  clear h hx hk hn hF hd hb
  go_enter Tryz.func264, Tryz.ntmps264
  go_upto_region 5 with fail
  obtain ⟨S, hS⟩ : ∃ S : ByteArray, ⟨s.toArray⟩ = S := ⟨_, rfl⟩
  have hsz : S.size = s.length := by rw [← hS]; show s.toArray.size = _; simp
  rw [hS] at hr
  go_quiet ((go_at_call 77; refine Calls.quiet_of (hr.out _)))
  have i2 : IntKind.i64.wrap ((a : Int) + (s.length : Int)) = (a : Int) + (s.length : Int) := by rw [IntKind.wrap_i64]; omega
  go_wp2
  go_ret2
  exact ⟨by first | rfl | (subst hS; rfl), nq, rfl⟩
end
end Go.Proofs.YtbjakhiflgjflaaGreatDoor

namespace Go.Proofs.YtbjakhiflgjflaaGreatDoor
open Go Go.RowKit

section
variable {w : World} {F : Nat → Prop} {plb q M C tot k bb pb ends : Nat} {es : List Ent} {b : Bs}

set_option maxRecDepth 100000 in
theorem rd_read (n : Nat) (hp : Blk w pb [ptrV bb, .int .i64 (ends : Int)] 170) (h : AllF w F plb q M C es tot) (hk : es[k]? = some (bb, some b)) (ht : tot ≤ 500000) :
    Calls Tryz.prog 277 #[.agg #[ptrV pb], .int .i64 (n : Int)] w fun e w' => e = .returned (.tuple #[.string ⟨((b.all.drop b.gone).take n).toArray⟩, .int .i64 0]) ∧
      (∃ (F' : Nat → Prop) (b' : Bs), AllF w' F' plb q M C (es.set k (bb, some b')) tot ∧ Chg F F' w w' ∧ b'.all = b.all ∧ b'.gone = b.gone + min n (b.all.length - b.gone)) := by
  have hb1 : Blk (w.alloc (.cells #[ptrV pb] 172)) w.heap.size [ptrV pb] 172 := Blk.new w _ _
  have hp1 : Blk (w.alloc (.cells #[ptrV pb] 172)) pb _ _ := (Below.heap_alloc w _ pb hp.lt).trans hp
  have h1 : AllF (w.alloc (.cells #[ptrV pb] 172)) F plb q M C es tot := h.keep (by simp) fun g hg => Below.heap_alloc w _ g (h.lt hg)
  have hc1 : Chg F F w (w.alloc (.cells #[ptrV pb] 172)) := Chg.alloc_other F w _
  have hd := allF_drain n h1 hk ht
  unfold ptrV at hp1 hb1 hc1 hd ⊢
  replace hd := Lib.hid hd
  replace hc1 := Lib.hid hc1
  clear h1 hk ht hp h
  go_enter Tryz.func277, Tryz.ntmps277
  go_upto_region 1 with fail
  obtain ⟨z, hz⟩ : ∃ z, w.heap.size = z := ⟨_, rfl⟩
  generalize (w.alloc (.cells #[.pointer (some ⟨pb, 0, none⟩)] 172)) = w1 at hb1 hp1 hc1 hd ⊢
  simp only [hz] at hb1 ⊢
  replace hz := Lib.hid hz
  have z0 := hb1.cell (i := 0) rfl
  have c0 := hp1.cell (i := 0) rfl
  have hzl := hb1.lt
  have hpl := hp1.lt
  clear hb1 hp1
  go_wp2_with fail
  refine hd.out.mono ?_
  rintro e w' ⟨rfl, F', b', h1, h2, h3, h4⟩
  have h5 := hc1.out.trans h2
  replace h1 := Lib.hid h1
  replace h5 := Lib.hid h5
  replace h3 := Lib.hid h3
  replace h4 := Lib.hid h4
  clear hd hc1 h2 z0 c0
  go_wp2
  go_ret2
  exact ⟨rfl, F', b', h1.out, h5.out, h3.out, h4.out⟩
set_option maxRecDepth 100000 in
theorem wr_write (data : ByteArray) (hp : Blk w pb [ptrV bb, .int .i64 (ends : Int)] 170) (h : AllF w F plb q M C es tot) (hk : es[k]? = some (bb, some b)) (ht : tot + data.size ≤ 500000) :
    Calls Tryz.prog 282 #[.agg #[ptrV pb], .string data] w fun e w' =>
      (tally heldOf es + data.size ≤ q ∧ e = .returned (.int .i64 0) ∧ (∃ (F' : Nat → Prop) (b' : Bs), AllF w' F' plb q M C (es.set k (bb, some b')) (tot + data.size) ∧ Chg F F' w w' ∧ b'.all = b.all ++ tl data ∧ b'.gone = b.gone) ∨
       q < tally heldOf es + data.size ∧ e = .returned (.int .i64 41) ∧ AllF w' F plb q M C es tot ∧ Chg F F w w') := by
  have hb1 : Blk (w.alloc (.cells #[ptrV pb] 173)) w.heap.size [ptrV pb] 173 := Blk.new w _ _
  have hp1 : Blk (w.alloc (.cells #[ptrV pb] 173)) pb _ _ := (Below.heap_alloc w _ pb hp.lt).trans hp
  have h1 : AllF (w.alloc (.cells #[ptrV pb] 173)) F plb q M C es tot := h.keep (by simp) fun g hg => Below.heap_alloc w _ g (h.lt hg)
  have hc1 : Chg F F w (w.alloc (.cells #[ptrV pb] 173)) := Chg.alloc_other F w _
  have hd := allF_append data h1 hk ht
  unfold ptrV at hp1 hb1 hc1 hd ⊢
  replace hd := Lib.hid hd
  replace hc1 := Lib.hid hc1
  clear h1 hk ht hp h
  go_enter Tryz.func282, Tryz.ntmps282
  go_upto_region 1 with fail
  obtain ⟨z, hz⟩ : ∃ z, w.heap.size = z := ⟨_, rfl⟩
  generalize (w.alloc (.cells #[.pointer (some ⟨pb, 0, none⟩)] 173)) = w1 at hb1 hp1 hc1 hd ⊢
  simp only [hz] at hb1 ⊢
  replace hz := Lib.hid hz
  have z0 := hb1.cell (i := 0) rfl
  have c0 := hp1.cell (i := 0) rfl
  have hzl := hb1.lt
  have hpl := hp1.lt
  clear hb1 hp1
  go_wp2_with fail
  refine hd.out.mono ?_
  rintro e w' (⟨h0, rfl, F', b', h1, h2, h3, h4⟩ | ⟨h0, rfl, h1, h2⟩)
  · have h5 := hc1.out.trans h2
    replace h0 := Lib.hid h0
    replace h1 := Lib.hid h1
    replace h5 := Lib.hid h5
    replace h3 := Lib.hid h3
    replace h4 := Lib.hid h4
    clear hd hc1 h2 z0 c0
    go_wp2
    go_ret
    exact .inl ⟨h0.out, rfl, F', b', h1.out, h5.out, h3.out, h4.out⟩
  · have h5 := hc1.out.trans h2
    replace h0 := Lib.hid h0
    replace h1 := Lib.hid h1
    replace h5 := Lib.hid h5
    clear hd hc1 h2 z0 c0
    go_wp2
    go_ret
    exact .inr ⟨h0.out, rfl, h1.out, h5.out⟩
set_option maxRecDepth 100000 in
/-- An end goes, and one is left. -/
theorem pipe_end1 (hp : Blk w pb [ptrV bb, .int .i64 ((2 : Nat) : Int)] 170) :
    Calls Tryz.prog 272 #[ptrV pb] w fun e w' => e = .returned (.tuple #[]) ∧ w' = w.setCell ⟨pb, 1, none⟩ (.int .i64 ((1 : Nat) : Int)) := by
  have c1 := hp.cell (i := 1) rfl
  have f1 := hp.frozen 1
  have hlt := hp.lt
  unfold ptrV
  clear hp
  go_enter Tryz.func272, Tryz.ntmps272
  go_wp2
  go_end0
  exact ⟨rfl, rfl⟩
set_option maxRecDepth 100000 in
/-- The last end goes. -/
theorem pipe_end0 (hp : Blk w pb [ptrV bb, .int .i64 ((1 : Nat) : Int)] 170) (h : AllF w F plb q M C es tot) (hpf : ¬ F pb) (hk : es[k]? = some (bb, some b)) (ht : tot ≤ 500000) (hn : es.length ≤ 1000000) :
    Calls Tryz.prog 272 #[ptrV pb] w fun e w' => e = .returned (.tuple #[]) ∧ ∃ w1 F', w1 = w.setCell ⟨pb, 1, none⟩ (.int .i64 ((0 : Nat) : Int)) ∧ AllF w' F' plb q M C (es.set k (bb, none)) tot ∧ Chg F F' w1 w' := by
  have c1 := hp.cell (i := 1) rfl
  have c0 := hp.cell (i := 0) rfl
  have f1 := hp.frozen 1
  have hlt := hp.lt
  have h1 : AllF (w.setCell ⟨pb, 1, none⟩ (.int .i64 0)) F plb q M C es tot := h.keep (by simp [World.setCell]) fun g hg => heap_setCell_other w _ g _ fun e => hpf (by rw [show g = pb from e] at hg; exact hg)
  have hd := allF_close h1 hk ht hn
  unfold ptrV at c0 ⊢
  replace hd := Lib.hid hd
  clear hp h h1 hk
  go_enter Tryz.func272, Tryz.ntmps272
  go_wp2_with fail
  refine hd.out.mono ?_
  rintro e w' ⟨rfl, F', h1, h2⟩
  replace h1 := Lib.hid h1
  replace h2 := Lib.hid h2
  clear hd
  go_wp2
  go_end0
  exact ⟨rfl, _, F', rfl, h1.out, h2.out⟩
end
end Go.Proofs.YtbjakhiflgjflaaGreatDoor
