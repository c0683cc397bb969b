/-
  Ref, Unref of what has more, Read and Write by what a handle does. Conditions: up to a million refs.
  Read and Write of a pipe's ends, by the table. Conditions: a pool of at most half a million bytes in all.
  The last ref of a handle goes. Conditions: a pool of at most half a million bytes in all.
-/
import Derived.Test.YtbjakhiflgjflaaGreatDoorHnSys
namespace Go.Proofs.YtbjakhiflgjflaaGreatDoor
open Go Go.RowKit Go.ChangeMaps

section
variable {w : World} {F : Nat → Prop} {c : Sy} {s : St} {k : Int} {x : Hd}
set_option maxRecDepth 100000 in
theorem sys_Ref (h : Sys w F c s) (hx : look s.hs k = some x) (hr : x.refs ≤ 1000000) :
    Calls Tryz.prog 39 #[ptrV c.tb, .int .i64 k] w fun e w' => e = .returned (.int .i64 0) ∧ ∃ F', Sys w' F' c { s with hs := upd s.hs k { x with refs := x.refs + 1 } } ∧ Chg F F' w w' := by
  obtain ⟨Ft, Fp, Fh, h, hF⟩ := h
  obtain ⟨lab, mb, mem, v, ht, hFh⟩ := h.tab
  have hf := tfind_some ht hx
  have hd := ht.hd k x hx
  have c1 := hd.blk.cell (i := 1) rfl
  have f1 := hd.blk.frozen 1
  have hlt := hd.blk.lt
  obtain ⟨Fh', h1, h2⟩ := ht.refs hFh hx (x.refs + 1)
  obtain ⟨h3, h4⟩ := h.tabStep0 h1 h2
  have hfin := Sys.of hF h3 h4
  have e1 : ((x.refs + 1 : Nat) : Int) = (x.refs : Int) + 1 := by omega
  rw [e1] at hfin
  generalize { x with refs := x.refs + 1 } = y at hfin ⊢
  generalize x.refs = r at c1 hr hfin
  generalize (mem k).blk = kb at hf c1 f1 hlt hfin
  unfold ptrV at hf ⊢
  replace hfin := Lib.hid hfin
  clear h1 h2 h3 h4 h hd ht e1 hF hFh hx
  go_enter Tryz.func39, Tryz.ntmps39
  go_wp2_with fail
  refine hf.mono ?_
  rintro e w' ⟨rfl, hw⟩
  obtain rfl := hw.symm
  clear hf hw
  go_wp2
  go_ret
  exact ⟨rfl, hfin.out⟩
set_option maxRecDepth 100000 in
theorem sys_Unref (h : Sys w F c s) (hx : look s.hs k = some x) {r : Nat} (hxr : x.refs = r + 2) (hr : r ≤ 1000000) :
    Calls Tryz.prog 20 #[ptrV c.tb, .int .i64 k] w fun e w' => e = .returned (.int .i64 0) ∧ ∃ F', Sys w' F' c { s with hs := upd s.hs k { x with refs := r + 1 } } ∧ Chg F F' w w' := by
  obtain ⟨Ft, Fp, Fh, h, hF⟩ := h
  obtain ⟨lab, mb, mem, v, ht, hFh⟩ := h.tab
  have hf := tfind_some ht hx
  have hd := ht.hd k x hx
  have c1 := hd.blk.cell (i := 1) rfl
  have b1 := hd.blk.set 1 (.int .i64 ((r + 1 : Nat) : Int))
  have f1 := hd.blk.frozen 1
  have hlt := hd.blk.lt
  obtain ⟨Fh', h1, h2⟩ := ht.refs hFh hx (r + 1)
  obtain ⟨h3, h4⟩ := h.tabStep0 h1 h2
  have hfin := Sys.of hF h3 h4
  have e1 : ((r + 1 : Nat) : Int) = (r : Int) + 2 - 1 := by omega
  rw [e1] at hfin
  rw [hxr] at c1
  generalize { x with refs := r + 1 } = y at hfin ⊢
  generalize (mem k).blk = kb at hf c1 f1 hlt hfin
  have e2 : ((r : Int) + 1 == 0) = false := by simp; omega
  unfold ptrV at hf ⊢
  replace hfin := Lib.hid hfin
  clear h1 h2 h3 h4 h hd ht e1 hF hFh hx hxr b1
  go_enter Tryz.func20, Tryz.ntmps20
  go_wp2_with fail
  refine hf.mono ?_
  rintro e w' ⟨rfl, hw⟩
  obtain rfl := hw.symm
  clear hf hw
  go_wp2
  go_ret
  exact ⟨rfl, hfin.out⟩
set_option maxRecDepth 100000 in
/-- Read of a node. -/
theorem sys_read_file (h : Sys w F c s) (hx : look s.hs k = some x) {n : Int} {a : Nat} {wr m : Bool} (hk : x.kd = .file n a true wr m) {y : Pn} (hy : look s.nds n = some y) (hyk : y.kind ≠ 1) (ha : a ≤ 1000000) (j : Nat) (hj : j ≤ 9223372036854775807) (hyd : y.data.length ≤ 1000000) :
    Calls Tryz.prog 40 #[ptrV c.tb, .int .i64 k, .int .i64 (j : Int)] w fun e w' => e = .returned (.tuple #[.string ⟨((y.data.drop a).take j).toArray⟩, .int .i64 0]) ∧
      ∃ F', Sys w' F' c { s with hs := upd s.hs k { x with kd := .file n (a + ((y.data.drop a).take j).length) true wr m } } ∧ Chg F F' w w' := by
  obtain ⟨Ft, Fp, Fh, h, hF⟩ := h
  obtain ⟨lab, mb, mem, v, ht, hFh⟩ := h.tab
  have hf := tfind_some ht hx
  have hd := ht.hd k x hx
  have c0 := hd.blk.cell (i := 0) rfl
  rw [show doesV s.pp x.kd (mem k).ob = .iface 161 (ptrV (mem k).ob) by rw [hk]; rfl] at c0
  have hlt := hd.blk.lt
  have ho := hd.ob
  rw [hk] at ho
  have hr := file_read ho.1 h.tree hy hyk ha j hj hyd
  have hres : ∀ d, ∃ F', Sys ((w.drewN d).setCell ⟨(mem k).ob, 2, none⟩ (.int .i64 ((a + ((y.data.drop a).take j).length : Nat) : Int))) F' c { s with hs := upd s.hs k { x with kd := .file n (a + ((y.data.drop a).take j).length) true wr m } } ∧ Chg F F' w ((w.drewN d).setCell ⟨(mem k).ob, 2, none⟩ (.int .i64 ((a + ((y.data.drop a).take j).length : Nat) : Int))) := fun d => by
    have hcc := (Chg.drewN (fun g => g = (mem k).ob) w d).trans (Chg.set (F := fun g => g = (mem k).ob) rfl 2 (.int .i64 ((a + ((y.data.drop a).take j).length : Nat) : Int)))
    have hb2 : Blk ((w.drewN d).setCell ⟨(mem k).ob, 2, none⟩ (.int .i64 ((a + ((y.data.drop a).take j).length : Nat) : Int))) (mem k).ob _ _ := Blk.set (w := w.drewN d) ho.1 2 _
    obtain ⟨Fh', h1, h2⟩ := ht.does hFh hx (.file n (a + ((y.data.drop a).take j).length) true wr m) (by rw [hk]; rfl) ho.2 hcc ⟨hb2, ho.2⟩
    obtain ⟨h3, h4⟩ := h.tabStep0 h1 h2
    exact Sys.of hF h3 h4
  generalize (y.data.drop a).take j = sd at hr hres ⊢
  generalize { x with kd := Kd.file n (a + sd.length) true wr m } = x' at hres ⊢
  generalize (mem k).blk = kb at hf c0 hlt
  unfold ptrV at hf c0 hr ⊢
  replace hres := Lib.hid hres
  replace hr := Lib.hid hr
  clear h hd ht hF hFh hx ho hy hyk hk hyd
  go_enter Tryz.func40, Tryz.ntmps40
  go_wp2_with fail
  refine hf.mono ?_
  rintro e w' ⟨rfl, hw⟩
  obtain rfl := hw.symm
  clear hf hw
  go_wp2_with fail
  refine hr.out.mono ?_
  rintro e w' ⟨rfl, d, rfl⟩
  have hres' := hres.out d
  generalize (w.drewN d).setCell ⟨(mem k).ob, 2, none⟩ (.int .i64 ((a + sd.length : Nat) : Int)) = w2 at hres' ⊢
  replace hres' := Lib.hid hres'
  clear hres hr
  go_wp2
  go_ret2
  exact ⟨rfl, hres'.out⟩
end
end Go.Proofs.YtbjakhiflgjflaaGreatDoor

namespace Go.Proofs.YtbjakhiflgjflaaGreatDoor
open Go Go.RowKit Go.ChangeMaps

section
variable {w : World} {F : Nat → Prop} {c : Sy} {s : St} {k : Int} {x : Hd}
set_option maxRecDepth 100000 in
theorem sys_read_rd (h : Sys w F c s) (hx : look s.hs k = some x) {p pb bb ends q : Nat} {b : Bs} (hk : x.kd = .rd p) (hp : s.pp[p]? = some (pb, bb, ends)) (he : s.es[q]? = some (bb, some b)) (n : Nat) (ht : s.tot ≤ 500000) :
    Calls Tryz.prog 40 #[ptrV c.tb, .int .i64 k, .int .i64 (n : Int)] w fun e w' => e = .returned (.tuple #[.string ⟨((b.all.drop b.gone).take n).toArray⟩, .int .i64 0]) ∧
      ∃ F' b', Sys w' F' c { s with es := s.es.set q (bb, some b') } ∧ Chg F F' w w' ∧ b'.all = b.all ∧ b'.gone = b.gone + min n (b.all.length - b.gone) := by
  obtain ⟨Ft, Fp, Fh, h, hF⟩ := h
  obtain ⟨lab, mb, mem, v, htb, hFh⟩ := h.tab
  have hf := tfind_some htb hx
  have hd := htb.hd k x hx
  have c0 := hd.blk.cell (i := 0) rfl
  have hpb : pipeB s.pp p = pb := by unfold pipeB; rw [List.getD_eq_getElem?_getD, hp]; rfl
  rw [show doesV s.pp x.kd (mem k).ob = .iface 172 (.agg #[ptrV pb]) by rw [hk, ← hpb]; rfl] at c0
  have hlt := hd.blk.lt
  have hr := rd_read n (htb.pi p pb bb ends hp).1 h.pool he ht
  have hfin := fun w' F' es' (h1 : AllF w' F' c.plb c.q c.M c.C es' s.tot) (h2 : Chg Fp F' w w') => Sys.of hF (h.poolStep h1 h2).1 (h.poolStep h1 h2).2
  generalize (b.all.drop b.gone).take n = sd at hr ⊢
  generalize (mem k).blk = kb at hf c0 hlt
  unfold ptrV at hf c0 hr ⊢
  replace hfin := Lib.hid hfin
  replace hr := Lib.hid hr
  clear h hd htb hF hFh hx hk hp he hpb
  go_enter Tryz.func40, Tryz.ntmps40
  go_wp2_with fail
  refine hf.mono ?_
  rintro e w' ⟨rfl, hw⟩
  obtain rfl := hw.symm
  clear hf hw
  go_wp2_with fail
  refine hr.out.mono ?_
  rintro e w' ⟨rfl, F', b', h1, h2, h3, h4⟩
  obtain ⟨F2, h5, h6⟩ := hfin.out _ _ _ h1 h2
  replace h5 := Lib.hid h5
  replace h6 := Lib.hid h6
  replace h3 := Lib.hid h3
  replace h4 := Lib.hid h4
  clear hfin hr h1 h2
  go_wp2
  go_ret2
  exact ⟨rfl, F2, b', h5.out, h6.out, h3.out, h4.out⟩
set_option maxRecDepth 100000 in
theorem sys_write_wr (h : Sys w F c s) (hx : look s.hs k = some x) {p pb bb ends q : Nat} {b : Bs} (hk : x.kd = .wr p) (hp : s.pp[p]? = some (pb, bb, ends)) (he : s.es[q]? = some (bb, some b)) (data : ByteArray) (ht : s.tot + data.size ≤ 500000) :
    Calls Tryz.prog 42 #[ptrV c.tb, .int .i64 k, .string data] w fun e w' =>
      (tally heldOf s.es + data.size ≤ c.q ∧ e = .returned (.int .i64 0) ∧ (∃ F' b', Sys w' F' c { s with es := s.es.set q (bb, some b'), tot := s.tot + data.size } ∧ Chg F F' w w' ∧ b'.all = b.all ++ tl data ∧ b'.gone = b.gone) ∨
       c.q < tally heldOf s.es + data.size ∧ e = .returned (.int .i64 41) ∧ ∃ F', Sys w' F' c s ∧ Chg F F' w w') := by
  obtain ⟨Ft, Fp, Fh, h, hF⟩ := h
  obtain ⟨lab, mb, mem, v, htb, hFh⟩ := h.tab
  have hf := tfind_some htb hx
  have hd := htb.hd k x hx
  have c0 := hd.blk.cell (i := 0) rfl
  have hpb : pipeB s.pp p = pb := by unfold pipeB; rw [List.getD_eq_getElem?_getD, hp]; rfl
  rw [show doesV s.pp x.kd (mem k).ob = .iface 173 (.agg #[ptrV pb]) by rw [hk, ← hpb]; rfl] at c0
  have hlt := hd.blk.lt
  have hr := wr_write data (htb.pi p pb bb ends hp).1 h.pool he ht
  have hfin := fun w' F' es' tot' (h1 : AllF w' F' c.plb c.q c.M c.C es' tot') (h2 : Chg Fp F' w w') => Sys.of hF (h.poolStep h1 h2).1 (h.poolStep h1 h2).2
  generalize (mem k).blk = kb at hf c0 hlt
  unfold ptrV at hf c0 hr ⊢
  replace hfin := Lib.hid hfin
  replace hr := Lib.hid hr
  clear h hd htb hF hFh hx hk hp he hpb
  go_enter Tryz.func42, Tryz.ntmps42
  go_wp2_with fail
  refine hf.mono ?_
  rintro e w' ⟨rfl, hw⟩
  obtain rfl := hw.symm
  clear hf hw
  go_wp2_with fail
  refine hr.out.mono ?_
  rintro e w' (⟨h0, rfl, F', b', h1, h2, h3, h4⟩ | ⟨h0, rfl, h1, h2⟩)
  · obtain ⟨F2, h5, h6⟩ := hfin.out _ _ _ _ h1 h2
    replace h5 := Lib.hid h5
    replace h6 := Lib.hid h6
    replace h3 := Lib.hid h3
    replace h4 := Lib.hid h4
    replace h0 := Lib.hid h0
    clear hfin hr h1 h2
    go_wp2
    go_ret
    exact .inl ⟨h0.out, rfl, F2, b', h5.out, h6.out, h3.out, h4.out⟩
  · have h5 := hfin.out _ _ _ _ h1 h2
    replace h5 := Lib.hid h5
    replace h0 := Lib.hid h0
    clear hfin hr h1 h2
    go_wp2
    go_ret
    exact .inr ⟨h0.out, rfl, h5.out⟩
end
end Go.Proofs.YtbjakhiflgjflaaGreatDoor

namespace Go.Proofs.YtbjakhiflgjflaaGreatDoor
open Go Go.RowKit Go.ChangeMaps

section
variable {w : World} {lab : Nat → HL} {F : Nat → Prop} {fb plb tb mb top : Nat} {hs : Hs} {pp : Pps} {mem : Int → HM} {v : Value} {xs : List Int}
/-- A pipe has fewer ends. -/
theorem TabR.ends (h : TabR w lab fb plb tb hs pp mb mem top v xs) (hF : ∀ g, F g ↔ lab g ≠ .free) {p pb bb e0 : Nat} (hp : pp[p]? = some (pb, bb, e0)) (e1 : Nat) :
    ∃ F', TabF (w.setCell ⟨pb, 1, none⟩ (.int .i64 (e1 : Int))) F' fb plb tb hs (pp.set p (pb, bb, e1)) top xs ∧ Chg F F' w (w.setCell ⟨pb, 1, none⟩ (.int .i64 (e1 : Int))) := by
  obtain ⟨h1, h2⟩ := h.pi p pb bb e0 hp
  obtain ⟨F', h3, h4⟩ := h.pipes (S := fun g => g = pb) (S' := fun g => g = pb) (w2 := w.setCell ⟨pb, 1, none⟩ (.int .i64 (e1 : Int))) (pp' := pp.set p (pb, bb, e1)) (lab' := lab) hF (fun _ => False) (Chg.set (F := fun g => g = pb) rfl 1 _) (fun g _ hg => .inl ⟨p, by rw [hg]; exact h2⟩) (fun _ _ _ => rfl) (fun _ _ hl _ => hl) (fun g hg => h.new g (by simpa [World.setCell] using hg)) (by simp) (fun q hq => by
      unfold pipeB
      rw [List.getD_eq_getElem?_getD, List.getD_eq_getElem?_getD, List.getElem?_set]
      split
      · rename_i hpq
        subst hpq
        rw [hp, if_pos hq]
        rfl
      · rfl) (fun q pb' bb' ends hq => by
      rw [List.getElem?_set] at hq
      split at hq
      · rename_i hpq
        subst hpq
        split at hq
        · cases hq
          exact ⟨h1.set 1 _, h2⟩
        · cases hq
      · rename_i hpq
        obtain ⟨h5, h6⟩ := h.pi q pb' bb' ends hq
        refine ⟨(heap_setCell_other w _ pb' _ fun e => ?_).trans h5, h6⟩
        rw [show pb' = pb from e, h2] at h6
        cases h6
        exact hpq rfl)
  exact ⟨F', h3, h4.mono (fun b hb => hb.elim id False.elim) fun b _ hb => .inl hb⟩
end

section
variable {w : World} {F : Nat → Prop} {c : Sy} {s : St} {k : Int} {x : Hd}
set_option maxHeartbeats 2000000 in
set_option maxRecDepth 100000 in
theorem sys_last_file (h : Sys w F c s) (hx : look s.hs k = some x) (hr : x.refs = 1) {n : Int} {a : Nat} {r wr m : Bool} (hk : x.kd = .file n a r wr m) {y : Pn} (hy : look s.nds n = some y) (hh : 0 < y.holds) (hm2 : y.holds ≤ 1000000) (hl : n = 1 ∨ 0 < y.named ∨ 1 < y.holds) :
    Calls Tryz.prog 20 #[ptrV c.tb, .int .i64 k] w fun e w' => e = .returned (.int .i64 0) ∧ ∃ F' top' xs', Sys w' F' c { s with nds := upd s.nds n { y with holds := y.holds - 1 }, hs := dropH s.hs k, top := top', xs := xs' } ∧ Chg F F' w w' := by
  obtain ⟨Ft, Fp, Fh, h, hF⟩ := h
  obtain ⟨lab, mb, mem, v, ht, hFh⟩ := h.tab
  have hf := tfind_some ht hx
  have hd := ht.hd k x hx
  have c1 := hd.blk.cell (i := 1) rfl
  rw [hr] at c1
  have f1 := hd.blk.frozen 1
  have hlt := hd.blk.lt
  have hlk := hd.lb
  have ho := hd.ob
  rw [hk] at ho
  have hdv : doesV s.pp x.kd (mem k).ob = .iface 161 (ptrV (mem k).ob) := by rw [hk]; rfl
  have hdb := hd.blk.set 1 (.int .i64 0)
  rw [hdv] at hdb
  have t2 := ht.num.at_.blk.cell (i := 2) rfl
  have tl := ht.num.at_.blk.lt
  have htk : c.tb ≠ (mem k).blk := fun e => by rw [← e, ht.ltb] at hlk; cases hlk
  have hmk : mb ≠ (mem k).blk := fun e => by rw [← e, ht.lmap] at hlk; cases hlk
  have hmt : mb ≠ c.tb := fun e => by have := ht.lmap; rw [e, ht.ltb] at this; cases this
  have hvk : ∀ g, v.ownBlock = some g → g ≠ (mem k).blk ∧ g ≠ mb := fun g hg => ⟨fun e => (by have := ht.lbk g hg; rw [e, hlk] at this; cases this), fun e => (by have := ht.lbk g hg; rw [e, ht.lmap] at this; cases this)⟩
  have hkm1 : KMap (w.setCell ⟨(mem k).blk, 1, none⟩ (.int .i64 0)) mb (.int .i64) encI (entH mem s.hs) := ht.map.keep (heap_setCell_other w _ mb _ hmk)
  have hn1 : NumR (w.setCell ⟨(mem k).blk, 1, none⟩ (.int .i64 0)) c.tb (ptrV c.fb) (ptrV c.plb) (.map (some mb)) (ids s.hs) s.top v s.xs := ht.num.keep (heap_setCell_other w _ c.tb _ htk) fun g hg => heap_setCell_other w _ g _ (hvk g hg).1
  have cc1 : Chg (fun g => g = (mem k).blk ∨ g = mb ∨ g = c.tb ∨ v.ownBlock = some g) (fun g => g = (mem k).blk ∨ g = mb ∨ g = c.tb ∨ v.ownBlock = some g) w (w.setCell ⟨(mem k).blk, 1, none⟩ (.int .i64 0)) := Chg.set (.inl rfl) 1 _
  have hnd := ht.nodup
  have hid : k ∈ ids s.hs := List.mem_map.2 ⟨(k, x), look_mem hx, rfl⟩
  have hlv := fun w3 top' v' ys => ht.leave (S := fun g => g = (mem k).blk ∨ g = mb ∨ g = c.tb ∨ v.ownBlock = some g) (S' := fun g => g = (mem k).blk ∨ g = mb ∨ g = c.tb ∨ v.ownBlock = some g ∨ v'.ownBlock = some g) (w2 := w3) (k := k) (top' := top') (v' := v') (ys := ys) hFh
  have hlab : ∀ g, g < w.heap.size → (g = (mem k).blk ∨ g = mb ∨ g = c.tb ∨ v.ownBlock = some g) → lab g = .tab ∨ lab g = .tmap ∨ lab g = .back ∨ OfH k (lab g) := fun g _ hg => by
    rcases hg with hg | hg | hg | hg
    · exact .inr (.inr (.inr (by rw [hg, hlk]; exact rfl)))
    · exact .inr (.inl (by rw [hg]; exact ht.lmap))
    · exact .inl (by rw [hg]; exact ht.ltb)
    · exact .inr (.inr (.inl (ht.lbk g hg)))
  have hbk := ht.lbk
  have hltb := ht.ltb
  have hlmb := ht.lmap
  replace ho : Blk w (mem k).ob (fileC c.fb n a r wr m) 165 ∧ lab (mem k).ob = .obj k := ho
  have hob : lab (mem k).ob = .obj k := ho.2
  have hob1 : (mem k).ob ≠ (mem k).blk ∧ (mem k).ob ≠ mb ∧ (mem k).ob ≠ c.tb ∧ v.ownBlock ≠ some (mem k).ob := ⟨fun e => (by rw [e, hlk] at hob; cases hob), fun e => (by rw [e, hlmb] at hob; cases hob), fun e => (by rw [e, hltb] at hob; cases hob), fun e => (by rw [hbk _ e] at hob; cases hob)⟩
  generalize (mem k).ob = ob at *
  generalize (mem k).blk = kb at *
  unfold ptrV at hf
  unfold ptrV
  replace hlv := Lib.hid hlv
  replace hlab := Lib.hid hlab
  replace hn1 := Lib.hid hn1
  replace cc1 := Lib.hid cc1
  replace hvk := Lib.hid hvk
  replace hdb := Lib.hid hdb
  replace ho := Lib.hid ho
  replace hbk := Lib.hid hbk
  clear ht hd hdv
  go_enter Tryz.func20, Tryz.ntmps20
  go_wp2_with fail
  refine hf.mono ?_
  rintro e w' ⟨rfl, hw⟩
  obtain rfl := hw.symm
  clear hf hw
  go_wp2_with (at_delete; go_loud (refine wpList_del_k rfl _ _ 115 3 rfl 116 keyI Tryz.underlying115 Tryz.underlying3 rfl hkm1 k rfl ?_); intro ob2 hkm2; refine Hid.out ?_)
  refine Lib.hid ?_
  have hsz1 : (w.setCell ⟨kb, 1, none⟩ (.int .i64 0)).heap.size = w.heap.size := by simp [World.setCell]
  have hn2 : NumR (setBlock (w.setCell ⟨kb, 1, none⟩ (.int .i64 0)) mb ob2) c.tb _ _ _ _ _ _ _ := hn1.out.keep (setB_other (Ne.symm hmt) ob2) fun g hg => setB_other (hvk.out g hg).2 ob2
  have cc2 := cc1.out.trans (Chg.setB (.inr (.inl rfl)) ob2)
  have hdb2 : Blk (setBlock (w.setCell ⟨kb, 1, none⟩ (.int .i64 0)) mb ob2) kb _ _ := hdb.out.setB (fun e => hmk e.symm) ob2
  have hsz2 : (setBlock (w.setCell ⟨kb, 1, none⟩ (.int .i64 0)) mb ob2).heap.size = w.heap.size := by simp [setBlock, World.setCell]
  generalize setBlock (w.setCell ⟨kb, 1, none⟩ (.int .i64 0)) mb ob2 = w2 at hn2 cc2 hdb2 hkm2 hsz2 ⊢
  have hle := nums_leave hn2 hnd hid
  replace hn2 := Lib.hid hn2
  replace cc2 := Lib.hid cc2
  replace hdb2 := Lib.hid hdb2
  replace hkm2 := Lib.hid hkm2
  clear hkm1 hn1 cc1 hdb t2 c1 f1
  have htl2 : c.tb < w2.heap.size := by omega
  go_wp2_with fail
  refine hle.mono ?_
  rintro e w3 ⟨rfl, top', v', ys, hn3, cc3, how⟩
  have cc4 : Chg (fun g => g = kb ∨ g = mb ∨ g = c.tb ∨ v.ownBlock = some g) (fun g => g = kb ∨ g = mb ∨ g = c.tb ∨ v.ownBlock = some g ∨ v'.ownBlock = some g) w w3 := cc2.out.trans (cc3.mono (fun b hb => hb.elim (fun hb => .inr (.inr (.inl hb))) fun hb => .inr (.inr (.inr hb))) fun b _ hb => by
    rcases hb with hb | hb | hb | hb | hb
    · exact .inr (.inl hb)
    · exact .inr (.inr (.inl hb))
    · exact .inl (.inl hb)
    · exact .inl (.inr (.inl hb))
    · exact .inl (.inr (.inr hb)))
  have hkm3 := hkm2.out.keep (cc3.block mb hkm2.out.lt fun hb => hb.elim hmt fun hb => (hvk.out mb hb).2 rfl)
  have hdb3 : Blk w3 kb _ _ := hdb2.out.chg cc3 fun hb => hb.elim (fun e => htk e.symm) fun hb => (hvk.out kb hb).1 rfl
  obtain ⟨Fh3, hT3, hC3⟩ := hlv.out w3 top' v' ys cc4 hlab.out hn3 (fun g hg => by
    rcases how with e | e | ⟨g', e, hge⟩
    · rw [e] at hg; cases hg
    · exact .inl (hbk.out g (by rw [← e]; exact hg))
    · rw [e] at hg
      cases hg
      exact .inr ⟨by omega, hn3.at_.row.lt e⟩) hkm3
  obtain ⟨h3, hc3⟩ := h.tabStep0 hT3 hC3
  have d0 := hdb3.cell (i := 0) rfl
  have dl := hdb3.lt
  have hob3 : Blk w3 ob (fileC c.fb n a r wr m) _ := ho.out.1.chg cc4 fun hb => by
    rcases hb with hb | hb | hb | hb
    · exact hob1.1 hb
    · exact hob1.2.1 hb
    · exact hob1.2.2.1 hb
    · exact hob1.2.2.2 hb
  have hend := file_end hob3 h3.tree hy hh hm2 hl
  have hfin := fun w4 Ft' (hT4 : TreeF w4 Ft' c.fb c.most c.room (upd s.nds n { y with holds := y.holds - 1 })) (hC4 : Chg Ft Ft' w3 w4) => Sys.of hF (h3.treeStep hT4 hC4).1 (hc3.trans (h3.treeStep hT4 hC4).2)
  unfold ptrV at d0 hend
  replace hend := Lib.hid hend
  replace hfin := Lib.hid hfin
  clear hle hn3 cc3 cc4 hkm3 hdb3 hT3 hC3 h3 hc3 hn2 cc2 hdb2 hkm2
  go_wp2_with fail
  refine hend.out.mono ?_
  rintro e w4 ⟨rfl, Ft', hT4, hC4⟩
  obtain ⟨F', hR1, hR2⟩ := hfin.out w4 Ft' hT4 hC4
  replace hR1 := Lib.hid hR1
  replace hR2 := Lib.hid hR2
  clear hend hfin hT4 hC4
  go_wp2
  go_ret
  exact ⟨rfl, F', top', ys, hR1.out, hR2.out⟩
set_option maxHeartbeats 2000000 in
set_option maxRecDepth 100000 in
theorem sys_last_rd1 (h : Sys w F c s) (hx : look s.hs k = some x) (hr : x.refs = 1) {p pb bb : Nat} (hk : x.kd = .rd p) (hp : s.pp[p]? = some (pb, bb, 2)) :
    Calls Tryz.prog 20 #[ptrV c.tb, .int .i64 k] w fun e w' => e = .returned (.int .i64 0) ∧ ∃ F' top' xs', Sys w' F' c { s with pp := s.pp.set p (pb, bb, 1), hs := dropH s.hs k, top := top', xs := xs' } ∧ Chg F F' w w' := by
  obtain ⟨Ft, Fp, Fh, h, hF⟩ := h
  obtain ⟨lab, mb, mem, v, ht, hFh⟩ := h.tab
  have hf := tfind_some ht hx
  have hd := ht.hd k x hx
  have c1 := hd.blk.cell (i := 1) rfl
  rw [hr] at c1
  have f1 := hd.blk.frozen 1
  have hlt := hd.blk.lt
  have hlk := hd.lb
  have ho := hd.ob
  rw [hk] at ho
  have hdv : doesV s.pp x.kd (mem k).ob = .iface 172 (.agg #[ptrV pb]) := by show doesV s.pp x.kd (mem k).ob = .iface _ (.agg #[ptrV pb]); rw [hk]; show Value.iface _ (.agg #[ptrV (pipeB s.pp p)]) = _; unfold pipeB; rw [List.getD_eq_getElem?_getD, hp]; rfl
  have hdb := hd.blk.set 1 (.int .i64 0)
  rw [hdv] at hdb
  have t2 := ht.num.at_.blk.cell (i := 2) rfl
  have tl := ht.num.at_.blk.lt
  have htk : c.tb ≠ (mem k).blk := fun e => by rw [← e, ht.ltb] at hlk; cases hlk
  have hmk : mb ≠ (mem k).blk := fun e => by rw [← e, ht.lmap] at hlk; cases hlk
  have hmt : mb ≠ c.tb := fun e => by have := ht.lmap; rw [e, ht.ltb] at this; cases this
  have hvk : ∀ g, v.ownBlock = some g → g ≠ (mem k).blk ∧ g ≠ mb := fun g hg => ⟨fun e => (by have := ht.lbk g hg; rw [e, hlk] at this; cases this), fun e => (by have := ht.lbk g hg; rw [e, ht.lmap] at this; cases this)⟩
  have hkm1 : KMap (w.setCell ⟨(mem k).blk, 1, none⟩ (.int .i64 0)) mb (.int .i64) encI (entH mem s.hs) := ht.map.keep (heap_setCell_other w _ mb _ hmk)
  have hn1 : NumR (w.setCell ⟨(mem k).blk, 1, none⟩ (.int .i64 0)) c.tb (ptrV c.fb) (ptrV c.plb) (.map (some mb)) (ids s.hs) s.top v s.xs := ht.num.keep (heap_setCell_other w _ c.tb _ htk) fun g hg => heap_setCell_other w _ g _ (hvk g hg).1
  have cc1 : Chg (fun g => g = (mem k).blk ∨ g = mb ∨ g = c.tb ∨ v.ownBlock = some g) (fun g => g = (mem k).blk ∨ g = mb ∨ g = c.tb ∨ v.ownBlock = some g) w (w.setCell ⟨(mem k).blk, 1, none⟩ (.int .i64 0)) := Chg.set (.inl rfl) 1 _
  have hnd := ht.nodup
  have hid : k ∈ ids s.hs := List.mem_map.2 ⟨(k, x), look_mem hx, rfl⟩
  have hlv := fun w3 top' v' ys => ht.leave (S := fun g => g = (mem k).blk ∨ g = mb ∨ g = c.tb ∨ v.ownBlock = some g) (S' := fun g => g = (mem k).blk ∨ g = mb ∨ g = c.tb ∨ v.ownBlock = some g ∨ v'.ownBlock = some g) (w2 := w3) (k := k) (top' := top') (v' := v') (ys := ys) hFh
  have hlab : ∀ g, g < w.heap.size → (g = (mem k).blk ∨ g = mb ∨ g = c.tb ∨ v.ownBlock = some g) → lab g = .tab ∨ lab g = .tmap ∨ lab g = .back ∨ OfH k (lab g) := fun g _ hg => by
    rcases hg with hg | hg | hg | hg
    · exact .inr (.inr (.inr (by rw [hg, hlk]; exact rfl)))
    · exact .inr (.inl (by rw [hg]; exact ht.lmap))
    · exact .inl (by rw [hg]; exact ht.ltb)
    · exact .inr (.inr (.inl (ht.lbk g hg)))
  have hbk := ht.lbk
  have hltb := ht.ltb
  have hlmb := ht.lmap

  generalize (mem k).blk = kb at *
  unfold ptrV at hf
  unfold ptrV
  replace hlv := Lib.hid hlv
  replace hlab := Lib.hid hlab
  replace hn1 := Lib.hid hn1
  replace cc1 := Lib.hid cc1
  replace hvk := Lib.hid hvk
  replace hdb := Lib.hid hdb
  replace ho := Lib.hid ho
  replace hbk := Lib.hid hbk
  clear ht hd hdv
  go_enter Tryz.func20, Tryz.ntmps20
  go_wp2_with fail
  refine hf.mono ?_
  rintro e w' ⟨rfl, hw⟩
  obtain rfl := hw.symm
  clear hf hw
  go_wp2_with (at_delete; go_loud (refine wpList_del_k rfl _ _ 115 3 rfl 116 keyI Tryz.underlying115 Tryz.underlying3 rfl hkm1 k rfl ?_); intro ob2 hkm2; refine Hid.out ?_)
  refine Lib.hid ?_
  have hsz1 : (w.setCell ⟨kb, 1, none⟩ (.int .i64 0)).heap.size = w.heap.size := by simp [World.setCell]
  have hn2 : NumR (setBlock (w.setCell ⟨kb, 1, none⟩ (.int .i64 0)) mb ob2) c.tb _ _ _ _ _ _ _ := hn1.out.keep (setB_other (Ne.symm hmt) ob2) fun g hg => setB_other (hvk.out g hg).2 ob2
  have cc2 := cc1.out.trans (Chg.setB (.inr (.inl rfl)) ob2)
  have hdb2 : Blk (setBlock (w.setCell ⟨kb, 1, none⟩ (.int .i64 0)) mb ob2) kb _ _ := hdb.out.setB (fun e => hmk e.symm) ob2
  have hsz2 : (setBlock (w.setCell ⟨kb, 1, none⟩ (.int .i64 0)) mb ob2).heap.size = w.heap.size := by simp [setBlock, World.setCell]
  generalize setBlock (w.setCell ⟨kb, 1, none⟩ (.int .i64 0)) mb ob2 = w2 at hn2 cc2 hdb2 hkm2 hsz2 ⊢
  have hle := nums_leave hn2 hnd hid
  replace hn2 := Lib.hid hn2
  replace cc2 := Lib.hid cc2
  replace hdb2 := Lib.hid hdb2
  replace hkm2 := Lib.hid hkm2
  clear hkm1 hn1 cc1 hdb t2 c1 f1
  have htl2 : c.tb < w2.heap.size := by omega
  go_wp2_with fail
  refine hle.mono ?_
  rintro e w3 ⟨rfl, top', v', ys, hn3, cc3, how⟩
  have cc4 : Chg (fun g => g = kb ∨ g = mb ∨ g = c.tb ∨ v.ownBlock = some g) (fun g => g = kb ∨ g = mb ∨ g = c.tb ∨ v.ownBlock = some g ∨ v'.ownBlock = some g) w w3 := cc2.out.trans (cc3.mono (fun b hb => hb.elim (fun hb => .inr (.inr (.inl hb))) fun hb => .inr (.inr (.inr hb))) fun b _ hb => by
    rcases hb with hb | hb | hb | hb | hb
    · exact .inr (.inl hb)
    · exact .inr (.inr (.inl hb))
    · exact .inl (.inl hb)
    · exact .inl (.inr (.inl hb))
    · exact .inl (.inr (.inr hb)))
  have hkm3 := hkm2.out.keep (cc3.block mb hkm2.out.lt fun hb => hb.elim hmt fun hb => (hvk.out mb hb).2 rfl)
  have hdb3 : Blk w3 kb _ _ := hdb2.out.chg cc3 fun hb => hb.elim (fun e => htk e.symm) fun hb => (hvk.out kb hb).1 rfl
  obtain ⟨Fh3, hT3, hC3⟩ := hlv.out w3 top' v' ys cc4 hlab.out hn3 (fun g hg => by
    rcases how with e | e | ⟨g', e, hge⟩
    · rw [e] at hg; cases hg
    · exact .inl (hbk.out g (by rw [← e]; exact hg))
    · rw [e] at hg
      cases hg
      exact .inr ⟨by omega, hn3.at_.row.lt e⟩) hkm3
  obtain ⟨h3, hc3⟩ := h.tabStep0 hT3 hC3
  have d0 := hdb3.cell (i := 0) rfl
  have dl := hdb3.lt
  obtain ⟨lab3, mb3, mem3, v3, ht3, hFh3⟩ := hT3
  have hpi3 := (ht3.pi p pb bb _ hp).1
  obtain ⟨Fh4, hT4, hC4⟩ := ht3.ends hFh3 hp 1
  obtain ⟨h4, hc4⟩ := h3.tabStep0 hT4 hC4
  have hend := pipe_end1 hpi3
  have hfin := Sys.of hF h4 (hc3.trans hc4)
  unfold ptrV at d0 hend
  replace hend := Lib.hid hend
  replace hfin := Lib.hid hfin
  clear hpi3 ht3 hT4 hC4 h4 hc4
  clear hle hn3 cc3 cc4 hkm3 hdb3 hC3 h3 hc3 hn2 cc2 hdb2 hkm2
  go_wp2_with fail
  refine hend.out.mono ?_
  rintro e w4 ⟨rfl, rfl⟩
  obtain ⟨F', hR1, hR2⟩ := hfin.out
  replace hR1 := Lib.hid hR1
  replace hR2 := Lib.hid hR2
  clear hend hfin
  go_wp2
  go_ret
  exact ⟨rfl, F', top', ys, hR1.out, hR2.out⟩
set_option maxHeartbeats 2000000 in
set_option maxRecDepth 100000 in
theorem sys_last_rd0 (h : Sys w F c s) (hx : look s.hs k = some x) (hr : x.refs = 1) {p pb bb : Nat} (hk : x.kd = .rd p) (hp : s.pp[p]? = some (pb, bb, 1)) {q : Nat} {b : Bs} (he : s.es[q]? = some (bb, some b)) (htot : s.tot ≤ 500000) (hn : s.es.length ≤ 1000000) :
    Calls Tryz.prog 20 #[ptrV c.tb, .int .i64 k] w fun e w' => e = .returned (.int .i64 0) ∧ ∃ F' top' xs', Sys w' F' c { s with es := s.es.set q (bb, none), pp := s.pp.set p (pb, bb, 0), hs := dropH s.hs k, top := top', xs := xs' } ∧ Chg F F' w w' := by
  obtain ⟨Ft, Fp, Fh, h, hF⟩ := h
  obtain ⟨lab, mb, mem, v, ht, hFh⟩ := h.tab
  have hf := tfind_some ht hx
  have hd := ht.hd k x hx
  have c1 := hd.blk.cell (i := 1) rfl
  rw [hr] at c1
  have f1 := hd.blk.frozen 1
  have hlt := hd.blk.lt
  have hlk := hd.lb
  have ho := hd.ob
  rw [hk] at ho
  have hdv : doesV s.pp x.kd (mem k).ob = .iface 172 (.agg #[ptrV pb]) := by show doesV s.pp x.kd (mem k).ob = .iface _ (.agg #[ptrV pb]); rw [hk]; show Value.iface _ (.agg #[ptrV (pipeB s.pp p)]) = _; unfold pipeB; rw [List.getD_eq_getElem?_getD, hp]; rfl
  have hdb := hd.blk.set 1 (.int .i64 0)
  rw [hdv] at hdb
  have t2 := ht.num.at_.blk.cell (i := 2) rfl
  have tl := ht.num.at_.blk.lt
  have htk : c.tb ≠ (mem k).blk := fun e => by rw [← e, ht.ltb] at hlk; cases hlk
  have hmk : mb ≠ (mem k).blk := fun e => by rw [← e, ht.lmap] at hlk; cases hlk
  have hmt : mb ≠ c.tb := fun e => by have := ht.lmap; rw [e, ht.ltb] at this; cases this
  have hvk : ∀ g, v.ownBlock = some g → g ≠ (mem k).blk ∧ g ≠ mb := fun g hg => ⟨fun e => (by have := ht.lbk g hg; rw [e, hlk] at this; cases this), fun e => (by have := ht.lbk g hg; rw [e, ht.lmap] at this; cases this)⟩
  have hkm1 : KMap (w.setCell ⟨(mem k).blk, 1, none⟩ (.int .i64 0)) mb (.int .i64) encI (entH mem s.hs) := ht.map.keep (heap_setCell_other w _ mb _ hmk)
  have hn1 : NumR (w.setCell ⟨(mem k).blk, 1, none⟩ (.int .i64 0)) c.tb (ptrV c.fb) (ptrV c.plb) (.map (some mb)) (ids s.hs) s.top v s.xs := ht.num.keep (heap_setCell_other w _ c.tb _ htk) fun g hg => heap_setCell_other w _ g _ (hvk g hg).1
  have cc1 : Chg (fun g => g = (mem k).blk ∨ g = mb ∨ g = c.tb ∨ v.ownBlock = some g) (fun g => g = (mem k).blk ∨ g = mb ∨ g = c.tb ∨ v.ownBlock = some g) w (w.setCell ⟨(mem k).blk, 1, none⟩ (.int .i64 0)) := Chg.set (.inl rfl) 1 _
  have hnd := ht.nodup
  have hid : k ∈ ids s.hs := List.mem_map.2 ⟨(k, x), look_mem hx, rfl⟩
  have hlv := fun w3 top' v' ys => ht.leave (S := fun g => g = (mem k).blk ∨ g = mb ∨ g = c.tb ∨ v.ownBlock = some g) (S' := fun g => g = (mem k).blk ∨ g = mb ∨ g = c.tb ∨ v.ownBlock = some g ∨ v'.ownBlock = some g) (w2 := w3) (k := k) (top' := top') (v' := v') (ys := ys) hFh
  have hlab : ∀ g, g < w.heap.size → (g = (mem k).blk ∨ g = mb ∨ g = c.tb ∨ v.ownBlock = some g) → lab g = .tab ∨ lab g = .tmap ∨ lab g = .back ∨ OfH k (lab g) := fun g _ hg => by
    rcases hg with hg | hg | hg | hg
    · exact .inr (.inr (.inr (by rw [hg, hlk]; exact rfl)))
    · exact .inr (.inl (by rw [hg]; exact ht.lmap))
    · exact .inl (by rw [hg]; exact ht.ltb)
    · exact .inr (.inr (.inl (ht.lbk g hg)))
  have hbk := ht.lbk
  have hltb := ht.ltb
  have hlmb := ht.lmap

  generalize (mem k).blk = kb at *
  unfold ptrV at hf
  unfold ptrV
  replace hlv := Lib.hid hlv
  replace hlab := Lib.hid hlab
  replace hn1 := Lib.hid hn1
  replace cc1 := Lib.hid cc1
  replace hvk := Lib.hid hvk
  replace hdb := Lib.hid hdb
  replace ho := Lib.hid ho
  replace hbk := Lib.hid hbk
  clear ht hd hdv
  go_enter Tryz.func20, Tryz.ntmps20
  go_wp2_with fail
  refine hf.mono ?_
  rintro e w' ⟨rfl, hw⟩
  obtain rfl := hw.symm
  clear hf hw
  go_wp2_with (at_delete; go_loud (refine wpList_del_k rfl _ _ 115 3 rfl 116 keyI Tryz.underlying115 Tryz.underlying3 rfl hkm1 k rfl ?_); intro ob2 hkm2; refine Hid.out ?_)
  refine Lib.hid ?_
  have hsz1 : (w.setCell ⟨kb, 1, none⟩ (.int .i64 0)).heap.size = w.heap.size := by simp [World.setCell]
  have hn2 : NumR (setBlock (w.setCell ⟨kb, 1, none⟩ (.int .i64 0)) mb ob2) c.tb _ _ _ _ _ _ _ := hn1.out.keep (setB_other (Ne.symm hmt) ob2) fun g hg => setB_other (hvk.out g hg).2 ob2
  have cc2 := cc1.out.trans (Chg.setB (.inr (.inl rfl)) ob2)
  have hdb2 : Blk (setBlock (w.setCell ⟨kb, 1, none⟩ (.int .i64 0)) mb ob2) kb _ _ := hdb.out.setB (fun e => hmk e.symm) ob2
  have hsz2 : (setBlock (w.setCell ⟨kb, 1, none⟩ (.int .i64 0)) mb ob2).heap.size = w.heap.size := by simp [setBlock, World.setCell]
  generalize setBlock (w.setCell ⟨kb, 1, none⟩ (.int .i64 0)) mb ob2 = w2 at hn2 cc2 hdb2 hkm2 hsz2 ⊢
  have hle := nums_leave hn2 hnd hid
  replace hn2 := Lib.hid hn2
  replace cc2 := Lib.hid cc2
  replace hdb2 := Lib.hid hdb2
  replace hkm2 := Lib.hid hkm2
  clear hkm1 hn1 cc1 hdb t2 c1 f1
  have htl2 : c.tb < w2.heap.size := by omega
  go_wp2_with fail
  refine hle.mono ?_
  rintro e w3 ⟨rfl, top', v', ys, hn3, cc3, how⟩
  have cc4 : Chg (fun g => g = kb ∨ g = mb ∨ g = c.tb ∨ v.ownBlock = some g) (fun g => g = kb ∨ g = mb ∨ g = c.tb ∨ v.ownBlock = some g ∨ v'.ownBlock = some g) w w3 := cc2.out.trans (cc3.mono (fun b hb => hb.elim (fun hb => .inr (.inr (.inl hb))) fun hb => .inr (.inr (.inr hb))) fun b _ hb => by
    rcases hb with hb | hb | hb | hb | hb
    · exact .inr (.inl hb)
    · exact .inr (.inr (.inl hb))
    · exact .inl (.inl hb)
    · exact .inl (.inr (.inl hb))
    · exact .inl (.inr (.inr hb)))
  have hkm3 := hkm2.out.keep (cc3.block mb hkm2.out.lt fun hb => hb.elim hmt fun hb => (hvk.out mb hb).2 rfl)
  have hdb3 : Blk w3 kb _ _ := hdb2.out.chg cc3 fun hb => hb.elim (fun e => htk e.symm) fun hb => (hvk.out kb hb).1 rfl
  obtain ⟨Fh3, hT3, hC3⟩ := hlv.out w3 top' v' ys cc4 hlab.out hn3 (fun g hg => by
    rcases how with e | e | ⟨g', e, hge⟩
    · rw [e] at hg; cases hg
    · exact .inl (hbk.out g (by rw [← e]; exact hg))
    · rw [e] at hg
      cases hg
      exact .inr ⟨by omega, hn3.at_.row.lt e⟩) hkm3
  obtain ⟨h3, hc3⟩ := h.tabStep0 hT3 hC3
  have d0 := hdb3.cell (i := 0) rfl
  have dl := hdb3.lt
  obtain ⟨lab3, mb3, mem3, v3, ht3, hFh3⟩ := hT3
  have hpi3 := (ht3.pi p pb bb _ hp).1
  obtain ⟨Fh4, hT4, hC4⟩ := ht3.ends hFh3 hp 0
  obtain ⟨h4, hc4⟩ := h3.tabStep0 hT4 hC4
  have hpf : ¬ Fp pb := fun hf => h3.ph pb hf ((hFh3 pb).2 (by rw [(ht3.pi p pb bb _ hp).2]; exact nofun))
  have hend := pipe_end0 hpi3 h3.pool hpf he htot hn
  have hfin := fun w5 Fp' (hA : AllF w5 Fp' c.plb c.q c.M c.C (s.es.set q (bb, none)) s.tot) (hC : Chg Fp Fp' _ w5) => Sys.of hF (h4.poolStep hA hC).1 ((hc3.trans hc4).trans (h4.poolStep hA hC).2)
  unfold ptrV at d0 hend
  replace hend := Lib.hid hend
  replace hfin := Lib.hid hfin
  clear hpi3 ht3 hT4 hC4 h4 hc4
  clear hle hn3 cc3 cc4 hkm3 hdb3 hC3 h3 hc3 hn2 cc2 hdb2 hkm2
  go_wp2_with fail
  refine hend.out.mono ?_
  rintro e w4 ⟨rfl, w5, Fp', rfl, hA, hC⟩
  obtain ⟨F', hR1, hR2⟩ := hfin.out w4 Fp' hA hC
  replace hR1 := Lib.hid hR1
  replace hR2 := Lib.hid hR2
  clear hend hfin
  go_wp2
  go_ret
  exact ⟨rfl, F', top', ys, hR1.out, hR2.out⟩
set_option maxHeartbeats 2000000 in
set_option maxRecDepth 100000 in
theorem sys_last_wr1 (h : Sys w F c s) (hx : look s.hs k = some x) (hr : x.refs = 1) {p pb bb : Nat} (hk : x.kd = .wr p) (hp : s.pp[p]? = some (pb, bb, 2)) :
    Calls Tryz.prog 20 #[ptrV c.tb, .int .i64 k] w fun e w' => e = .returned (.int .i64 0) ∧ ∃ F' top' xs', Sys w' F' c { s with pp := s.pp.set p (pb, bb, 1), hs := dropH s.hs k, top := top', xs := xs' } ∧ Chg F F' w w' := by
  obtain ⟨Ft, Fp, Fh, h, hF⟩ := h
  obtain ⟨lab, mb, mem, v, ht, hFh⟩ := h.tab
  have hf := tfind_some ht hx
  have hd := ht.hd k x hx
  have c1 := hd.blk.cell (i := 1) rfl
  rw [hr] at c1
  have f1 := hd.blk.frozen 1
  have hlt := hd.blk.lt
  have hlk := hd.lb
  have ho := hd.ob
  rw [hk] at ho
  have hdv : doesV s.pp x.kd (mem k).ob = .iface 173 (.agg #[ptrV pb]) := by show doesV s.pp x.kd (mem k).ob = .iface _ (.agg #[ptrV pb]); rw [hk]; show Value.iface _ (.agg #[ptrV (pipeB s.pp p)]) = _; unfold pipeB; rw [List.getD_eq_getElem?_getD, hp]; rfl
  have hdb := hd.blk.set 1 (.int .i64 0)
  rw [hdv] at hdb
  have t2 := ht.num.at_.blk.cell (i := 2) rfl
  have tl := ht.num.at_.blk.lt
  have htk : c.tb ≠ (mem k).blk := fun e => by rw [← e, ht.ltb] at hlk; cases hlk
  have hmk : mb ≠ (mem k).blk := fun e => by rw [← e, ht.lmap] at hlk; cases hlk
  have hmt : mb ≠ c.tb := fun e => by have := ht.lmap; rw [e, ht.ltb] at this; cases this
  have hvk : ∀ g, v.ownBlock = some g → g ≠ (mem k).blk ∧ g ≠ mb := fun g hg => ⟨fun e => (by have := ht.lbk g hg; rw [e, hlk] at this; cases this), fun e => (by have := ht.lbk g hg; rw [e, ht.lmap] at this; cases this)⟩
  have hkm1 : KMap (w.setCell ⟨(mem k).blk, 1, none⟩ (.int .i64 0)) mb (.int .i64) encI (entH mem s.hs) := ht.map.keep (heap_setCell_other w _ mb _ hmk)
  have hn1 : NumR (w.setCell ⟨(mem k).blk, 1, none⟩ (.int .i64 0)) c.tb (ptrV c.fb) (ptrV c.plb) (.map (some mb)) (ids s.hs) s.top v s.xs := ht.num.keep (heap_setCell_other w _ c.tb _ htk) fun g hg => heap_setCell_other w _ g _ (hvk g hg).1
  have cc1 : Chg (fun g => g = (mem k).blk ∨ g = mb ∨ g = c.tb ∨ v.ownBlock = some g) (fun g => g = (mem k).blk ∨ g = mb ∨ g = c.tb ∨ v.ownBlock = some g) w (w.setCell ⟨(mem k).blk, 1, none⟩ (.int .i64 0)) := Chg.set (.inl rfl) 1 _
  have hnd := ht.nodup
  have hid : k ∈ ids s.hs := List.mem_map.2 ⟨(k, x), look_mem hx, rfl⟩
  have hlv := fun w3 top' v' ys => ht.leave (S := fun g => g = (mem k).blk ∨ g = mb ∨ g = c.tb ∨ v.ownBlock = some g) (S' := fun g => g = (mem k).blk ∨ g = mb ∨ g = c.tb ∨ v.ownBlock = some g ∨ v'.ownBlock = some g) (w2 := w3) (k := k) (top' := top') (v' := v') (ys := ys) hFh
  have hlab : ∀ g, g < w.heap.size → (g = (mem k).blk ∨ g = mb ∨ g = c.tb ∨ v.ownBlock = some g) → lab g = .tab ∨ lab g = .tmap ∨ lab g = .back ∨ OfH k (lab g) := fun g _ hg => by
    rcases hg with hg | hg | hg | hg
    · exact .inr (.inr (.inr (by rw [hg, hlk]; exact rfl)))
    · exact .inr (.inl (by rw [hg]; exact ht.lmap))
    · exact .inl (by rw [hg]; exact ht.ltb)
    · exact .inr (.inr (.inl (ht.lbk g hg)))
  have hbk := ht.lbk
  have hltb := ht.ltb
  have hlmb := ht.lmap

  generalize (mem k).blk = kb at *
  unfold ptrV at hf
  unfold ptrV
  replace hlv := Lib.hid hlv
  replace hlab := Lib.hid hlab
  replace hn1 := Lib.hid hn1
  replace cc1 := Lib.hid cc1
  replace hvk := Lib.hid hvk
  replace hdb := Lib.hid hdb
  replace ho := Lib.hid ho
  replace hbk := Lib.hid hbk
  clear ht hd hdv
  go_enter Tryz.func20, Tryz.ntmps20
  go_wp2_with fail
  refine hf.mono ?_
  rintro e w' ⟨rfl, hw⟩
  obtain rfl := hw.symm
  clear hf hw
  go_wp2_with (at_delete; go_loud (refine wpList_del_k rfl _ _ 115 3 rfl 116 keyI Tryz.underlying115 Tryz.underlying3 rfl hkm1 k rfl ?_); intro ob2 hkm2; refine Hid.out ?_)
  refine Lib.hid ?_
  have hsz1 : (w.setCell ⟨kb, 1, none⟩ (.int .i64 0)).heap.size = w.heap.size := by simp [World.setCell]
  have hn2 : NumR (setBlock (w.setCell ⟨kb, 1, none⟩ (.int .i64 0)) mb ob2) c.tb _ _ _ _ _ _ _ := hn1.out.keep (setB_other (Ne.symm hmt) ob2) fun g hg => setB_other (hvk.out g hg).2 ob2
  have cc2 := cc1.out.trans (Chg.setB (.inr (.inl rfl)) ob2)
  have hdb2 : Blk (setBlock (w.setCell ⟨kb, 1, none⟩ (.int .i64 0)) mb ob2) kb _ _ := hdb.out.setB (fun e => hmk e.symm) ob2
  have hsz2 : (setBlock (w.setCell ⟨kb, 1, none⟩ (.int .i64 0)) mb ob2).heap.size = w.heap.size := by simp [setBlock, World.setCell]
  generalize setBlock (w.setCell ⟨kb, 1, none⟩ (.int .i64 0)) mb ob2 = w2 at hn2 cc2 hdb2 hkm2 hsz2 ⊢
  have hle := nums_leave hn2 hnd hid
  replace hn2 := Lib.hid hn2
  replace cc2 := Lib.hid cc2
  replace hdb2 := Lib.hid hdb2
  replace hkm2 := Lib.hid hkm2
  clear hkm1 hn1 cc1 hdb t2 c1 f1
  have htl2 : c.tb < w2.heap.size := by omega
  go_wp2_with fail
  refine hle.mono ?_
  rintro e w3 ⟨rfl, top', v', ys, hn3, cc3, how⟩
  have cc4 : Chg (fun g => g = kb ∨ g = mb ∨ g = c.tb ∨ v.ownBlock = some g) (fun g => g = kb ∨ g = mb ∨ g = c.tb ∨ v.ownBlock = some g ∨ v'.ownBlock = some g) w w3 := cc2.out.trans (cc3.mono (fun b hb => hb.elim (fun hb => .inr (.inr (.inl hb))) fun hb => .inr (.inr (.inr hb))) fun b _ hb => by
    rcases hb with hb | hb | hb | hb | hb
    · exact .inr (.inl hb)
    · exact .inr (.inr (.inl hb))
    · exact .inl (.inl hb)
    · exact .inl (.inr (.inl hb))
    · exact .inl (.inr (.inr hb)))
  have hkm3 := hkm2.out.keep (cc3.block mb hkm2.out.lt fun hb => hb.elim hmt fun hb => (hvk.out mb hb).2 rfl)
  have hdb3 : Blk w3 kb _ _ := hdb2.out.chg cc3 fun hb => hb.elim (fun e => htk e.symm) fun hb => (hvk.out kb hb).1 rfl
  obtain ⟨Fh3, hT3, hC3⟩ := hlv.out w3 top' v' ys cc4 hlab.out hn3 (fun g hg => by
    rcases how with e | e | ⟨g', e, hge⟩
    · rw [e] at hg; cases hg
    · exact .inl (hbk.out g (by rw [← e]; exact hg))
    · rw [e] at hg
      cases hg
      exact .inr ⟨by omega, hn3.at_.row.lt e⟩) hkm3
  obtain ⟨h3, hc3⟩ := h.tabStep0 hT3 hC3
  have d0 := hdb3.cell (i := 0) rfl
  have dl := hdb3.lt
  obtain ⟨lab3, mb3, mem3, v3, ht3, hFh3⟩ := hT3
  have hpi3 := (ht3.pi p pb bb _ hp).1
  obtain ⟨Fh4, hT4, hC4⟩ := ht3.ends hFh3 hp 1
  obtain ⟨h4, hc4⟩ := h3.tabStep0 hT4 hC4
  have hend := pipe_end1 hpi3
  have hfin := Sys.of hF h4 (hc3.trans hc4)
  unfold ptrV at d0 hend
  replace hend := Lib.hid hend
  replace hfin := Lib.hid hfin
  clear hpi3 ht3 hT4 hC4 h4 hc4
  clear hle hn3 cc3 cc4 hkm3 hdb3 hC3 h3 hc3 hn2 cc2 hdb2 hkm2
  go_wp2_with fail
  refine hend.out.mono ?_
  rintro e w4 ⟨rfl, rfl⟩
  obtain ⟨F', hR1, hR2⟩ := hfin.out
  replace hR1 := Lib.hid hR1
  replace hR2 := Lib.hid hR2
  clear hend hfin
  go_wp2
  go_ret
  exact ⟨rfl, F', top', ys, hR1.out, hR2.out⟩
set_option maxHeartbeats 2000000 in
set_option maxRecDepth 100000 in
theorem sys_last_wr0 (h : Sys w F c s) (hx : look s.hs k = some x) (hr : x.refs = 1) {p pb bb : Nat} (hk : x.kd = .wr p) (hp : s.pp[p]? = some (pb, bb, 1)) {q : Nat} {b : Bs} (he : s.es[q]? = some (bb, some b)) (htot : s.tot ≤ 500000) (hn : s.es.length ≤ 1000000) :
    Calls Tryz.prog 20 #[ptrV c.tb, .int .i64 k] w fun e w' => e = .returned (.int .i64 0) ∧ ∃ F' top' xs', Sys w' F' c { s with es := s.es.set q (bb, none), pp := s.pp.set p (pb, bb, 0), hs := dropH s.hs k, top := top', xs := xs' } ∧ Chg F F' w w' := by
  obtain ⟨Ft, Fp, Fh, h, hF⟩ := h
  obtain ⟨lab, mb, mem, v, ht, hFh⟩ := h.tab
  have hf := tfind_some ht hx
  have hd := ht.hd k x hx
  have c1 := hd.blk.cell (i := 1) rfl
  rw [hr] at c1
  have f1 := hd.blk.frozen 1
  have hlt := hd.blk.lt
  have hlk := hd.lb
  have ho := hd.ob
  rw [hk] at ho
  have hdv : doesV s.pp x.kd (mem k).ob = .iface 173 (.agg #[ptrV pb]) := by show doesV s.pp x.kd (mem k).ob = .iface _ (.agg #[ptrV pb]); rw [hk]; show Value.iface _ (.agg #[ptrV (pipeB s.pp p)]) = _; unfold pipeB; rw [List.getD_eq_getElem?_getD, hp]; rfl
  have hdb := hd.blk.set 1 (.int .i64 0)
  rw [hdv] at hdb
  have t2 := ht.num.at_.blk.cell (i := 2) rfl
  have tl := ht.num.at_.blk.lt
  have htk : c.tb ≠ (mem k).blk := fun e => by rw [← e, ht.ltb] at hlk; cases hlk
  have hmk : mb ≠ (mem k).blk := fun e => by rw [← e, ht.lmap] at hlk; cases hlk
  have hmt : mb ≠ c.tb := fun e => by have := ht.lmap; rw [e, ht.ltb] at this; cases this
  have hvk : ∀ g, v.ownBlock = some g → g ≠ (mem k).blk ∧ g ≠ mb := fun g hg => ⟨fun e => (by have := ht.lbk g hg; rw [e, hlk] at this; cases this), fun e => (by have := ht.lbk g hg; rw [e, ht.lmap] at this; cases this)⟩
  have hkm1 : KMap (w.setCell ⟨(mem k).blk, 1, none⟩ (.int .i64 0)) mb (.int .i64) encI (entH mem s.hs) := ht.map.keep (heap_setCell_other w _ mb _ hmk)
  have hn1 : NumR (w.setCell ⟨(mem k).blk, 1, none⟩ (.int .i64 0)) c.tb (ptrV c.fb) (ptrV c.plb) (.map (some mb)) (ids s.hs) s.top v s.xs := ht.num.keep (heap_setCell_other w _ c.tb _ htk) fun g hg => heap_setCell_other w _ g _ (hvk g hg).1
  have cc1 : Chg (fun g => g = (mem k).blk ∨ g = mb ∨ g = c.tb ∨ v.ownBlock = some g) (fun g => g = (mem k).blk ∨ g = mb ∨ g = c.tb ∨ v.ownBlock = some g) w (w.setCell ⟨(mem k).blk, 1, none⟩ (.int .i64 0)) := Chg.set (.inl rfl) 1 _
  have hnd := ht.nodup
  have hid : k ∈ ids s.hs := List.mem_map.2 ⟨(k, x), look_mem hx, rfl⟩
  have hlv := fun w3 top' v' ys => ht.leave (S := fun g => g = (mem k).blk ∨ g = mb ∨ g = c.tb ∨ v.ownBlock = some g) (S' := fun g => g = (mem k).blk ∨ g = mb ∨ g = c.tb ∨ v.ownBlock = some g ∨ v'.ownBlock = some g) (w2 := w3) (k := k) (top' := top') (v' := v') (ys := ys) hFh
  have hlab : ∀ g, g < w.heap.size → (g = (mem k).blk ∨ g = mb ∨ g = c.tb ∨ v.ownBlock = some g) → lab g = .tab ∨ lab g = .tmap ∨ lab g = .back ∨ OfH k (lab g) := fun g _ hg => by
    rcases hg with hg | hg | hg | hg
    · exact .inr (.inr (.inr (by rw [hg, hlk]; exact rfl)))
    · exact .inr (.inl (by rw [hg]; exact ht.lmap))
    · exact .inl (by rw [hg]; exact ht.ltb)
    · exact .inr (.inr (.inl (ht.lbk g hg)))
  have hbk := ht.lbk
  have hltb := ht.ltb
  have hlmb := ht.lmap

  generalize (mem k).blk = kb at *
  unfold ptrV at hf
  unfold ptrV
  replace hlv := Lib.hid hlv
  replace hlab := Lib.hid hlab
  replace hn1 := Lib.hid hn1
  replace cc1 := Lib.hid cc1
  replace hvk := Lib.hid hvk
  replace hdb := Lib.hid hdb
  replace ho := Lib.hid ho
  replace hbk := Lib.hid hbk
  clear ht hd hdv
  go_enter Tryz.func20, Tryz.ntmps20
  go_wp2_with fail
  refine hf.mono ?_
  rintro e w' ⟨rfl, hw⟩
  obtain rfl := hw.symm
  clear hf hw
  go_wp2_with (at_delete; go_loud (refine wpList_del_k rfl _ _ 115 3 rfl 116 keyI Tryz.underlying115 Tryz.underlying3 rfl hkm1 k rfl ?_); intro ob2 hkm2; refine Hid.out ?_)
  refine Lib.hid ?_
  have hsz1 : (w.setCell ⟨kb, 1, none⟩ (.int .i64 0)).heap.size = w.heap.size := by simp [World.setCell]
  have hn2 : NumR (setBlock (w.setCell ⟨kb, 1, none⟩ (.int .i64 0)) mb ob2) c.tb _ _ _ _ _ _ _ := hn1.out.keep (setB_other (Ne.symm hmt) ob2) fun g hg => setB_other (hvk.out g hg).2 ob2
  have cc2 := cc1.out.trans (Chg.setB (.inr (.inl rfl)) ob2)
  have hdb2 : Blk (setBlock (w.setCell ⟨kb, 1, none⟩ (.int .i64 0)) mb ob2) kb _ _ := hdb.out.setB (fun e => hmk e.symm) ob2
  have hsz2 : (setBlock (w.setCell ⟨kb, 1, none⟩ (.int .i64 0)) mb ob2).heap.size = w.heap.size := by simp [setBlock, World.setCell]
  generalize setBlock (w.setCell ⟨kb, 1, none⟩ (.int .i64 0)) mb ob2 = w2 at hn2 cc2 hdb2 hkm2 hsz2 ⊢
  have hle := nums_leave hn2 hnd hid
  replace hn2 := Lib.hid hn2
  replace cc2 := Lib.hid cc2
  replace hdb2 := Lib.hid hdb2
  replace hkm2 := Lib.hid hkm2
  clear hkm1 hn1 cc1 hdb t2 c1 f1
  have htl2 : c.tb < w2.heap.size := by omega
  go_wp2_with fail
  refine hle.mono ?_
  rintro e w3 ⟨rfl, top', v', ys, hn3, cc3, how⟩
  have cc4 : Chg (fun g => g = kb ∨ g = mb ∨ g = c.tb ∨ v.ownBlock = some g) (fun g => g = kb ∨ g = mb ∨ g = c.tb ∨ v.ownBlock = some g ∨ v'.ownBlock = some g) w w3 := cc2.out.trans (cc3.mono (fun b hb => hb.elim (fun hb => .inr (.inr (.inl hb))) fun hb => .inr (.inr (.inr hb))) fun b _ hb => by
    rcases hb with hb | hb | hb | hb | hb
    · exact .inr (.inl hb)
    · exact .inr (.inr (.inl hb))
    · exact .inl (.inl hb)
    · exact .inl (.inr (.inl hb))
    · exact .inl (.inr (.inr hb)))
  have hkm3 := hkm2.out.keep (cc3.block mb hkm2.out.lt fun hb => hb.elim hmt fun hb => (hvk.out mb hb).2 rfl)
  have hdb3 : Blk w3 kb _ _ := hdb2.out.chg cc3 fun hb => hb.elim (fun e => htk e.symm) fun hb => (hvk.out kb hb).1 rfl
  obtain ⟨Fh3, hT3, hC3⟩ := hlv.out w3 top' v' ys cc4 hlab.out hn3 (fun g hg => by
    rcases how with e | e | ⟨g', e, hge⟩
    · rw [e] at hg; cases hg
    · exact .inl (hbk.out g (by rw [← e]; exact hg))
    · rw [e] at hg
      cases hg
      exact .inr ⟨by omega, hn3.at_.row.lt e⟩) hkm3
  obtain ⟨h3, hc3⟩ := h.tabStep0 hT3 hC3
  have d0 := hdb3.cell (i := 0) rfl
  have dl := hdb3.lt
  obtain ⟨lab3, mb3, mem3, v3, ht3, hFh3⟩ := hT3
  have hpi3 := (ht3.pi p pb bb _ hp).1
  obtain ⟨Fh4, hT4, hC4⟩ := ht3.ends hFh3 hp 0
  obtain ⟨h4, hc4⟩ := h3.tabStep0 hT4 hC4
  have hpf : ¬ Fp pb := fun hf => h3.ph pb hf ((hFh3 pb).2 (by rw [(ht3.pi p pb bb _ hp).2]; exact nofun))
  have hend := pipe_end0 hpi3 h3.pool hpf he htot hn
  have hfin := fun w5 Fp' (hA : AllF w5 Fp' c.plb c.q c.M c.C (s.es.set q (bb, none)) s.tot) (hC : Chg Fp Fp' _ w5) => Sys.of hF (h4.poolStep hA hC).1 ((hc3.trans hc4).trans (h4.poolStep hA hC).2)
  unfold ptrV at d0 hend
  replace hend := Lib.hid hend
  replace hfin := Lib.hid hfin
  clear hpi3 ht3 hT4 hC4 h4 hc4
  clear hle hn3 cc3 cc4 hkm3 hdb3 hC3 h3 hc3 hn2 cc2 hdb2 hkm2
  go_wp2_with fail
  refine hend.out.mono ?_
  rintro e w4 ⟨rfl, w5, Fp', rfl, hA, hC⟩
  obtain ⟨F', hR1, hR2⟩ := hfin.out w4 Fp' hA hC
  replace hR1 := Lib.hid hR1
  replace hR2 := Lib.hid hR2
  clear hend hfin
  go_wp2
  go_ret
  exact ⟨rfl, F', top', ys, hR1.out, hR2.out⟩
end
end Go.Proofs.YtbjakhiflgjflaaGreatDoor
