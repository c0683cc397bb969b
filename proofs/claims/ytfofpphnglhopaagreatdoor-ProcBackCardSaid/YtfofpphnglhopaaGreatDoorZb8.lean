/-
  A part. Conditions: each theorem's own.
-/
import Derived.Deep.RegionHeld3
import Derived.Test.YtfofpphnglhopaaGreatDoorZb2
import Derived.Test.YtfofpphnglhopaaGreatDoorZb5
import Derived.Test.YtfofpphnglhopaaGreatDoorZb6
set_option maxHeartbeats 8000000
set_option maxRecDepth 100000
namespace Go.Proofs.YtfofpphnglhopaaGreatDoor
open Go Go.RowKit Go.ChangeMaps
section
variable {w : World} {F : Nat → Prop} {c : Sy} {s : St} {k : Int} {x : Hd}
theorem sys_Ref (h : Sys w F c s) (hx : look s.hs k = some x) (hr : x.refs ≤ 1000000) :
    Calls Tryz.prog 35 #[ptrV c.tb, .int .i64 k] w fun e w' => e = .returned (.int .i64 0) ∧ ∃ F', Sys w' F' c { s with hs := upd s.hs k { x with refs := x.refs + 1 } } ∧ Chg F F' w w' := by
  obtain ⟨Ft, Fp, Fh, h, hF⟩ := h
  obtain ⟨lab, mb, mem, v, ht, hFh⟩ := h.tab
  have hf := tfind_some ht hx
  have hd := ht.hd k x hx
  have c1 := hd.blk.cell (i := 1) rfl
  have f1 := hd.blk.frozen 1
  have hlt := hd.blk.lt
  obtain ⟨Fh', h1, h2⟩ := ht.refs hFh hx (x.refs + 1)
  obtain ⟨h3, h4⟩ := h.tabStep0 h1 h2
  have hfin := Sys.of hF h3 h4
  have e1 : ((x.refs + 1 : Nat) : Int) = (x.refs : Int) + 1 := by omega
  rw [e1] at hfin
  generalize { x with refs := x.refs + 1 } = y at hfin ⊢
  generalize x.refs = r at c1 hr hfin
  generalize (mem k).blk = kb at hf c1 f1 hlt hfin
  unfold ptrV at hf ⊢
  replace hfin := Lib.hid hfin
  clear h1 h2 h3 h4 h hd ht e1 hF hFh hx
  go_enter Tryz.func35, Tryz.ntmps35
  go_wp2_with fail
  refine hf.mono ?_
  rintro e w' ⟨rfl, hw⟩
  obtain rfl := hw.symm
  clear hf hw
  go_wp2
  go_ret
  exact ⟨rfl, hfin.out⟩
theorem sys_Unref (h : Sys w F c s) (hx : look s.hs k = some x) {r : Nat} (hxr : x.refs = r + 2) (hr : r ≤ 1000000) :
    Calls Tryz.prog 37 #[ptrV c.tb, .int .i64 k] w fun e w' => e = .returned (.int .i64 0) ∧ ∃ F', Sys w' F' c { s with hs := upd s.hs k { x with refs := r + 1 } } ∧ Chg F F' w w' := by
  obtain ⟨Ft, Fp, Fh, h, hF⟩ := h
  obtain ⟨lab, mb, mem, v, ht, hFh⟩ := h.tab
  have hf := tfind_some ht hx
  have hd := ht.hd k x hx
  have c1 := hd.blk.cell (i := 1) rfl
  have b1 := hd.blk.set 1 (.int .i64 ((r + 1 : Nat) : Int))
  have f1 := hd.blk.frozen 1
  have hlt := hd.blk.lt
  obtain ⟨Fh', h1, h2⟩ := ht.refs hFh hx (r + 1)
  obtain ⟨h3, h4⟩ := h.tabStep0 h1 h2
  have hfin := Sys.of hF h3 h4
  have e1 : ((r + 1 : Nat) : Int) = (r : Int) + 2 - 1 := by omega
  rw [e1] at hfin
  rw [hxr] at c1
  generalize { x with refs := r + 1 } = y at hfin ⊢
  generalize (mem k).blk = kb at hf c1 f1 hlt hfin
  have e2 : ((r : Int) + 1 == 0) = false := by simp; omega
  unfold ptrV at hf ⊢
  replace hfin := Lib.hid hfin
  clear h1 h2 h3 h4 h hd ht e1 hF hFh hx hxr b1
  go_enter Tryz.func37, Tryz.ntmps37
  go_wp2_with fail
  refine hf.mono ?_
  rintro e w' ⟨rfl, hw⟩
  obtain rfl := hw.symm
  clear hf hw
  go_wp2
  go_ret
  exact ⟨rfl, hfin.out⟩
theorem sys_read_file (h : Sys w F c s) (hx : look s.hs k = some x) {n : Int} {a : Nat} {wr m : Bool} (hk : x.kd = .file n a true wr m) {y : Pn} (hy : look s.nds n = some y) (hyk : y.kind ≠ 1) (ha : a ≤ 1000000) (j : Nat) (hj : j ≤ 9223372036854775807) (hyd : y.data.length ≤ 1000000) :
    Calls Tryz.prog 36 #[ptrV c.tb, .int .i64 k, .int .i64 (j : Int)] w fun e w' => e = .returned (.tuple #[.string ⟨((y.data.drop a).take j).toArray⟩, .int .i64 0]) ∧
      ∃ F', Sys w' F' c { s with hs := upd s.hs k { x with kd := .file n (a + ((y.data.drop a).take j).length) true wr m } } ∧ Chg F F' w w' := by
  obtain ⟨Ft, Fp, Fh, h, hF⟩ := h
  obtain ⟨lab, mb, mem, v, ht, hFh⟩ := h.tab
  have hf := tfind_some ht hx
  have hd := ht.hd k x hx
  have c0 := hd.blk.cell (i := 0) rfl
  rw [show doesV s.pp x.kd (mem k).ob = .iface 158 (ptrV (mem k).ob) by rw [hk]; rfl] at c0
  have hlt := hd.blk.lt
  have ho := hd.ob
  rw [hk] at ho
  have hr := file_read ho.1 h.tree hy hyk ha j hj hyd
  have hres : ∀ d, ∃ F', Sys ((w.drewN d).setCell ⟨(mem k).ob, 2, none⟩ (.int .i64 ((a + ((y.data.drop a).take j).length : Nat) : Int))) F' c { s with hs := upd s.hs k { x with kd := .file n (a + ((y.data.drop a).take j).length) true wr m } } ∧ Chg F F' w ((w.drewN d).setCell ⟨(mem k).ob, 2, none⟩ (.int .i64 ((a + ((y.data.drop a).take j).length : Nat) : Int))) := fun d => by
    have hcc := (Chg.drewN (fun g => g = (mem k).ob) w d).trans (Chg.set (F := fun g => g = (mem k).ob) rfl 2 (.int .i64 ((a + ((y.data.drop a).take j).length : Nat) : Int)))
    have hb2 : Blk ((w.drewN d).setCell ⟨(mem k).ob, 2, none⟩ (.int .i64 ((a + ((y.data.drop a).take j).length : Nat) : Int))) (mem k).ob _ _ := Blk.set (w := w.drewN d) ho.1 2 _
    obtain ⟨Fh', h1, h2⟩ := ht.does hFh hx (.file n (a + ((y.data.drop a).take j).length) true wr m) (by rw [hk]; rfl) ho.2 hcc ⟨hb2, ho.2⟩
    obtain ⟨h3, h4⟩ := h.tabStep0 h1 h2
    exact Sys.of hF h3 h4
  generalize (y.data.drop a).take j = sd at hr hres ⊢
  generalize { x with kd := Kd.file n (a + sd.length) true wr m } = x' at hres ⊢
  generalize (mem k).blk = kb at hf c0 hlt
  unfold ptrV at hf c0 hr ⊢
  replace hres := Lib.hid hres
  replace hr := Lib.hid hr
  clear h hd ht hF hFh hx ho hy hyk hk hyd
  go_enter Tryz.func36, Tryz.ntmps36
  go_wp2_with fail
  refine hf.mono ?_
  rintro e w' ⟨rfl, hw⟩
  obtain rfl := hw.symm
  clear hf hw
  go_wp2_with fail
  refine hr.out.mono ?_
  rintro e w' ⟨rfl, d, rfl⟩
  have hres' := hres.out d
  generalize (w.drewN d).setCell ⟨(mem k).ob, 2, none⟩ (.int .i64 ((a + sd.length : Nat) : Int)) = w2 at hres' ⊢
  replace hres' := Lib.hid hres'
  clear hres hr
  go_wp2
  go_ret2
  exact ⟨rfl, hres'.out⟩
end
section
variable {w : World} {F : Nat → Prop} {c : Sy} {s : St} {k : Int} {x : Hd}
theorem sys_read_rd (h : Sys w F c s) (hx : look s.hs k = some x) {p pb bb ends q : Nat} {b : Bs} (hk : x.kd = .rd p) (hp : s.pp[p]? = some (pb, bb, ends)) (he : s.es[q]? = some (bb, some b)) (n : Nat) (ht : s.tot ≤ 500000) :
    Calls Tryz.prog 36 #[ptrV c.tb, .int .i64 k, .int .i64 (n : Int)] w fun e w' => e = .returned (.tuple #[.string ⟨((b.all.drop b.gone).take n).toArray⟩, .int .i64 0]) ∧
      ∃ F' b', Sys w' F' c { s with es := s.es.set q (bb, some b') } ∧ Chg F F' w w' ∧ b'.all = b.all ∧ b'.gone = b.gone + min n (b.all.length - b.gone) := by
  obtain ⟨Ft, Fp, Fh, h, hF⟩ := h
  obtain ⟨lab, mb, mem, v, htb, hFh⟩ := h.tab
  have hf := tfind_some htb hx
  have hd := htb.hd k x hx
  have c0 := hd.blk.cell (i := 0) rfl
  have hpb : pipeB s.pp p = pb := by unfold pipeB; rw [List.getD_eq_getElem?_getD, hp]; rfl
  rw [show doesV s.pp x.kd (mem k).ob = .iface 169 (.agg #[ptrV pb]) by rw [hk, ← hpb]; rfl] at c0
  have hlt := hd.blk.lt
  have hr := rd_read n (htb.pi p pb bb ends hp).1 h.pool he ht
  have hfin := fun w' F' es' (h1 : AllF w' F' c.plb c.q c.M c.C es' s.tot) (h2 : Chg Fp F' w w') => Sys.of hF (h.poolStep h1 h2).1 (h.poolStep h1 h2).2
  generalize (b.all.drop b.gone).take n = sd at hr ⊢
  generalize (mem k).blk = kb at hf c0 hlt
  unfold ptrV at hf c0 hr ⊢
  replace hfin := Lib.hid hfin
  replace hr := Lib.hid hr
  clear h hd htb hF hFh hx hk hp he hpb
  go_enter Tryz.func36, Tryz.ntmps36
  go_wp2_with fail
  refine hf.mono ?_
  rintro e w' ⟨rfl, hw⟩
  obtain rfl := hw.symm
  clear hf hw
  go_wp2_with fail
  refine hr.out.mono ?_
  rintro e w' ⟨rfl, F', b', h1, h2, h3, h4⟩
  obtain ⟨F2, h5, h6⟩ := hfin.out _ _ _ h1 h2
  replace h5 := Lib.hid h5
  replace h6 := Lib.hid h6
  replace h3 := Lib.hid h3
  replace h4 := Lib.hid h4
  clear hfin hr h1 h2
  go_wp2
  go_ret2
  exact ⟨rfl, F2, b', h5.out, h6.out, h3.out, h4.out⟩
theorem sys_write_wr (h : Sys w F c s) (hx : look s.hs k = some x) {p pb bb ends q : Nat} {b : Bs} (hk : x.kd = .wr p) (hp : s.pp[p]? = some (pb, bb, ends)) (he : s.es[q]? = some (bb, some b)) (data : ByteArray) (ht : s.tot + data.size ≤ 500000) :
    Calls Tryz.prog 39 #[ptrV c.tb, .int .i64 k, .string data] w fun e w' =>
      (tally heldOf s.es + data.size ≤ c.q ∧ e = .returned (.int .i64 0) ∧ (∃ F' b', Sys w' F' c { s with es := s.es.set q (bb, some b'), tot := s.tot + data.size } ∧ Chg F F' w w' ∧ b'.all = b.all ++ tl data ∧ b'.gone = b.gone) ∨
       c.q < tally heldOf s.es + data.size ∧ e = .returned (.int .i64 41) ∧ ∃ F', Sys w' F' c s ∧ Chg F F' w w') := by
  obtain ⟨Ft, Fp, Fh, h, hF⟩ := h
  obtain ⟨lab, mb, mem, v, htb, hFh⟩ := h.tab
  have hf := tfind_some htb hx
  have hd := htb.hd k x hx
  have c0 := hd.blk.cell (i := 0) rfl
  have hpb : pipeB s.pp p = pb := by unfold pipeB; rw [List.getD_eq_getElem?_getD, hp]; rfl
  rw [show doesV s.pp x.kd (mem k).ob = .iface 170 (.agg #[ptrV pb]) by rw [hk, ← hpb]; rfl] at c0
  have hlt := hd.blk.lt
  have hr := wr_write data (htb.pi p pb bb ends hp).1 h.pool he ht
  have hfin := fun w' F' es' tot' (h1 : AllF w' F' c.plb c.q c.M c.C es' tot') (h2 : Chg Fp F' w w') => Sys.of hF (h.poolStep h1 h2).1 (h.poolStep h1 h2).2
  generalize (mem k).blk = kb at hf c0 hlt
  unfold ptrV at hf c0 hr ⊢
  replace hfin := Lib.hid hfin
  replace hr := Lib.hid hr
  clear h hd htb hF hFh hx hk hp he hpb
  go_enter Tryz.func39, Tryz.ntmps39
  go_wp2_with fail
  refine hf.mono ?_
  rintro e w' ⟨rfl, hw⟩
  obtain rfl := hw.symm
  clear hf hw
  go_wp2_with fail
  refine hr.out.mono ?_
  rintro e w' (⟨h0, rfl, F', b', h1, h2, h3, h4⟩ | ⟨h0, rfl, h1, h2⟩)
  · obtain ⟨F2, h5, h6⟩ := hfin.out _ _ _ _ h1 h2
    replace h5 := Lib.hid h5
    replace h6 := Lib.hid h6
    replace h3 := Lib.hid h3
    replace h4 := Lib.hid h4
    replace h0 := Lib.hid h0
    clear hfin hr h1 h2
    go_wp2
    go_ret
    exact .inl ⟨h0.out, rfl, F2, b', h5.out, h6.out, h3.out, h4.out⟩
  · have h5 := hfin.out _ _ _ _ h1 h2
    replace h5 := Lib.hid h5
    replace h0 := Lib.hid h0
    clear hfin hr h1 h2
    go_wp2
    go_ret
    exact .inr ⟨h0.out, rfl, h5.out⟩
end
section
variable {w : World} {lab : Nat → HL} {F : Nat → Prop} {fb plb tb mb top : Nat} {hs : Hs} {pp : Pps} {mem : Int → HM} {v : Value} {xs : List Int}
theorem TabR.ends (h : TabR w lab fb plb tb hs pp mb mem top v xs) (hF : ∀ g, F g ↔ lab g ≠ .free) {p pb bb e0 : Nat} (hp : pp[p]? = some (pb, bb, e0)) (e1 : Nat) :
    ∃ F', TabF (w.setCell ⟨pb, 1, none⟩ (.int .i64 (e1 : Int))) F' fb plb tb hs (pp.set p (pb, bb, e1)) top xs ∧ Chg F F' w (w.setCell ⟨pb, 1, none⟩ (.int .i64 (e1 : Int))) := by
  obtain ⟨h1, h2⟩ := h.pi p pb bb e0 hp
  obtain ⟨F', h3, h4⟩ := h.pipes (S := fun g => g = pb) (S' := fun g => g = pb) (w2 := w.setCell ⟨pb, 1, none⟩ (.int .i64 (e1 : Int))) (pp' := pp.set p (pb, bb, e1)) (lab' := lab) hF (fun _ => False) (Chg.set (F := fun g => g = pb) rfl 1 _) (fun g _ hg => .inl ⟨p, by rw [hg]; exact h2⟩) (fun _ _ _ => rfl) (fun _ _ hl _ => hl) (fun g hg => h.new g (by simpa [World.setCell] using hg)) (by simp) (fun q hq => by
      unfold pipeB
      rw [List.getD_eq_getElem?_getD, List.getD_eq_getElem?_getD, List.getElem?_set]
      split
      · rename_i hpq
        subst hpq
        rw [hp, if_pos hq]
        rfl
      · rfl) (fun q pb' bb' ends hq => by
      rw [List.getElem?_set] at hq
      split at hq
      · rename_i hpq
        subst hpq
        split at hq
        · cases hq
          exact ⟨h1.set 1 _, h2⟩
        · cases hq
      · rename_i hpq
        obtain ⟨h5, h6⟩ := h.pi q pb' bb' ends hq
        refine ⟨(heap_setCell_other w _ pb' _ fun e => ?_).trans h5, h6⟩
        rw [show pb' = pb from e, h2] at h6
        cases h6
        exact hpq rfl)
  exact ⟨F', h3, h4.mono (fun b hb => hb.elim id False.elim) fun b _ hb => .inl hb⟩
end
section
variable {w : World} {F : Nat → Prop} {c : Sy} {s : St} {k : Int} {x : Hd}
end
section
variable {κ α : Type} [DecidableEq κ]
def away (l : List (κ × α)) (k : κ) : List (κ × α) := l.filter fun p => p.1 ≠ k
theorem look_away (l : List (κ × α)) (k j : κ) : look (away l k) j = if j = k then none else look l j := by
  induction l with
  | nil => show none = _; split <;> rfl
  | cons p l ih =>
    by_cases hp : p.1 = k
    · have e : away (p :: l) k = away l k := List.filter_cons_of_neg (by simpa using hp)
      rw [e, ih]
      by_cases hj : j = k
      · rw [if_pos hj, if_pos hj]
      · rw [if_neg hj, if_neg hj]
        show _ = if p.1 = j then some p.2 else look l j
        rw [if_neg (fun e => hj (e.symm.trans hp))]
    · have e : away (p :: l) k = p :: away l k := List.filter_cons_of_pos (by simpa using hp)
      rw [e]
      show (if p.1 = j then some p.2 else look (away l k) j) = if j = k then none else if p.1 = j then some p.2 else look l j
      rw [ih]
      by_cases hj : j = k
      · subst hj
        rw [if_neg hp, if_pos rfl, if_pos rfl]
      · rw [if_neg hj, if_neg hj]
theorem total_away {f : α → Nat} {l : List (κ × α)} {k : κ} {x : α} (hd : l.Pairwise (fun p q => p.1 ≠ q.1)) (h : look l k = some x) : total f (away l k) + f x = total f l := by
  induction l with
  | nil => cases h
  | cons p l ih =>
    have hd' := (List.pairwise_cons.1 hd).2
    have hd1 := (List.pairwise_cons.1 hd).1
    by_cases hp : p.1 = k
    · have hx : p.2 = x := by
        have : (if p.1 = k then some p.2 else look l k) = some x := h
        rw [if_pos hp] at this
        exact Option.some.inj this
      have e : away (p :: l) k = l := by
        show List.filter _ _ = _
        rw [List.filter_cons_of_neg (by simpa using hp)]
        exact List.filter_eq_self.2 fun q hq => by simpa using fun e => hd1 q hq (hp.trans e.symm)
      rw [e, ← hx]
      show total f l + f p.2 = f p.2 + total f l
      omega
    · have hx : look l k = some x := by
        have : (if p.1 = k then some p.2 else look l k) = some x := h
        rwa [if_neg hp] at this
      have e : away (p :: l) k = p :: away l k := List.filter_cons_of_pos (by simpa using hp)
      rw [e]
      show f p.2 + total f (away l k) + f x = f p.2 + total f l
      have := ih hd' hx
      omega
theorem away_len (l : List (κ × α)) (k : κ) : (away l k).length ≤ l.length := List.length_filter_le _ _
end
section
variable {w : World} {lab : Nat → TL} {F : Nat → Prop} {fb most room mb : Nat} {nds : Nds} {mem : Int → NM}
theorem entN_away (mem : Int → NM) (nds : Nds) (k : Int) : entN mem (away nds k) = (entN mem nds).filter fun p => p.1 ≠ k := by
  unfold entN away
  rw [List.filter_map]
  rfl
theorem TreeR.away {w2 : World} {k : Int} {x : Pn} (h : TreeR w lab fb most room nds mb mem) (hF : ∀ g, F g ↔ lab g ≠ .free) (hx : look nds k = some x) (c : Chg (fun g => g = fb ∨ g = mb) (fun g => g = fb ∨ g = mb) w w2)
    (hfs : Blk w2 fb [.map (some mb), .int .i64 (most : Int), .int .i64 (room : Int), .int .i64 ((usedN nds - x.data.length : Nat) : Int)] 176) (hmap : KMap w2 mb (.int .i64) encI ((entN mem nds).filter fun p => p.1 ≠ k)) :
    ∃ F', TreeF w2 F' fb most room (Proofs.YtfofpphnglhopaaGreatDoor.away nds k) ∧ Chg F F' w w2 := by
  have hu := total_away (f := fun x : Pn => x.data.length) h.apart hx
  have hlim := h.lim
  unfold usedN at hlim
  refine ⟨F, ⟨lab, mb, mem, ⟨?_, h.lfs, ?_, h.lmap, fun j z hz => ?_, fun g hg => h.new g (Nat.le_trans c.size hg), hlim.1, hlim.2.1, ?_⟩, hF⟩, c.mono (fun b hb => (hF b).2 ?_) (fun b hb hf => .inr hf)⟩
  · have e : usedN (Proofs.YtfofpphnglhopaaGreatDoor.away nds k) = usedN nds - x.data.length := by unfold usedN; omega
    rw [e]
    exact hfs
  · rw [entN_away]
    exact hmap
  · rw [look_away] at hz
    split at hz
    · cases hz
    · refine (h.nd j z hz).keep fun g hg ho => ⟨c.block g hg fun hs => ?_, rfl⟩
      rcases hs with rfl | rfl
      · rw [h.lfs] at ho; exact ho
      · rw [h.lmap] at ho; exact ho
  · show usedN (Proofs.YtfofpphnglhopaaGreatDoor.away nds k) ≤ room
    unfold usedN
    omega
  · rcases hb with rfl | rfl
    · rw [h.lfs]; exact nofun
    · rw [h.lmap]; exact nofun
theorem sweep_gone (h : TreeF w F fb most room nds) {k : Int} {x : Pn} (hx : look nds k = some x) (h1 : k ≠ 1) (h2 : x.named = 0) (h3 : x.holds = 0) :
    Calls Tryz.prog 125 #[.pointer (some ⟨fb, 0, none⟩), .int .i64 k] w fun e w' => e = .returned (.tuple #[]) ∧ ∃ F', TreeF w' F' fb most room (away nds k) ∧ Chg F F' w w' := by
  obtain ⟨lab, mb, mem, h, hF⟩ := h
  have hfi := h.find_some hx
  have hN := h.nd k x hx
  have f0 := h.fs.cell (i := 0) rfl
  have f3 := h.fs.cell (i := 3) rfl
  have fr3 := h.fs.frozen 3
  have c1 := hN.blk.cell (show (bodyC x (mem k))[1]? = some _ from rfl)
  have c2 := hN.blk.cell (show (bodyC x (mem k))[2]? = some _ from rfl)
  have c3 := hN.blk.cell (show (bodyC x (mem k))[3]? = some _ from rfl)
  rw [h2] at c1
  rw [h3] at c2
  obtain ⟨A, cc, hdv, hcc, hcm⟩ := hN.data.form
  rw [hdv] at c3
  have hlt := hN.blk.lt
  have hfl := h.fs.lt
  have hge := total_ge (f := fun x : Pn => x.data.length) hx
  have hlim := h.lim
  have hmf : mb ≠ fb := fun e => by have := h.lmap; rw [e, h.lfs] at this; cases this
  have hkf : (mem k).blk ≠ fb := fun e => by have := hN.lb; rw [e, h.lfs] at this; cases this
  have hd4 := hN.few
  have haw := fun w2 => h.away (w2 := w2) hF hx
  have hb1 := h.fs.set 3 (.int .i64 ((usedN nds - x.data.length : Nat) : Int))
  have hkm := h.map
  have e1 : ((usedN nds - x.data.length : Nat) : Int) = (usedN nds : Int) - (x.data.length : Int) := by unfold usedN at *; omega
  rw [e1] at hb1 haw
  have hkm1 : KMap (w.setCell ⟨fb, 3, none⟩ (.int .i64 ((usedN nds : Int) - (x.data.length : Int)))).drew mb (.int .i64) encI (entN mem nds) := hkm.keep (heap_setCell_other w _ mb _ hmf)
  have cc1 : Chg (fun g => g = fb ∨ g = mb) (fun g => g = fb ∨ g = mb) w (w.setCell ⟨fb, 3, none⟩ (.int .i64 ((usedN nds : Int) - (x.data.length : Int)))).drew := (Chg.set (F := fun g => g = fb ∨ g = mb) (.inl rfl) 3 _).trans (Chg.drewN _ _ 1)
  have hub : usedN nds ≤ 1048576 := by omega
  replace hb1 : Blk (w.setCell ⟨fb, 3, none⟩ (.int .i64 ((usedN nds : Int) - (x.data.length : Int)))).drew fb [.map (some mb), .int .i64 (most : Int), .int .i64 (room : Int), .int .i64 ((usedN nds : Int) - (x.data.length : Int))] 176 := hb1
  have f0' := hb1.cell (i := 0) rfl
  have hfl' := hb1.lt
  generalize (mem k).blk = kb at hfi c1 c2 c3 hlt hkf
  generalize usedN nds = U at *
  generalize x.data.length = D at *
  have i1 : (k == 1) = false := by simpa using h1
  replace haw := Lib.hid haw
  replace hb1 := Lib.hid hb1
  replace cc1 := Lib.hid cc1
  clear h hN hx hF hdv e1 hge hlim h1 h2 h3 hkm
  go_enter Tryz.func125, Tryz.ntmps125
  go_wp2
  go_region
  clear f0 f3 fr3 c1 c2 c3 hfi
  generalize (w.setCell ⟨fb, 3, none⟩ _).drew = w1 at *
  go_wp2_with (at_delete; go_loud (refine wpList_del_k rfl _ _ 174 3 rfl 150 keyI Tryz.underlying174 Tryz.underlying3 rfl hkm1 k rfl ?_); intro ob2 hkm2; refine Hid.out ?_)
  refine Lib.hid ?_
  have hfin := haw.out _ (cc1.out.trans (Chg.setB (.inr rfl) ob2)) (hb1.out.setB (Ne.symm hmf) ob2) hkm2
  replace hfin := Lib.hid hfin
  clear hkm1 hkm2
  generalize setBlock w1 mb ob2 = w3 at hfin ⊢
  go_wp2
  go_end0
  exact ⟨rfl, hfin.out⟩
def droppedN (nds : Nds) (k : Int) (x : Pn) : Nds := if k = 1 ∨ 0 < x.named ∨ 1 < x.holds then upd nds k { x with holds := x.holds - 1 } else away nds k
theorem away_upd (nds : Nds) (k : Int) (y : Pn) : away (upd nds k y) k = away nds k := by
  induction nds with
  | nil => rfl
  | cons p l ih =>
    unfold upd away at *
    rw [List.map_cons]
    by_cases hp : p.1 = k
    · rw [if_pos hp, List.filter_cons_of_neg (by simp), List.filter_cons_of_neg (by simpa using hp)]
      exact ih
    · rw [if_neg hp, List.filter_cons_of_pos (by simpa using hp), List.filter_cons_of_pos (by simpa using hp), ih]
theorem drop_any (h : TreeF w F fb most room nds) {k : Int} {x : Pn} (hx : look nds k = some x) (hh : 0 < x.holds) (hm : x.holds ≤ 1000000) :
    Calls Tryz.prog 151 #[.pointer (some ⟨fb, 0, none⟩), .int .i64 k] w fun e w' => e = .returned (.int .i64 0) ∧ ∃ F', TreeF w' F' fb most room (droppedN nds k x) ∧ Chg F F' w w' := by
  by_cases hl : k = 1 ∨ 0 < x.named ∨ 1 < x.holds
  · unfold droppedN
    rw [if_pos hl]
    exact drop_some h hx hh hm hl
  · unfold droppedN
    rw [if_neg hl]
    obtain ⟨lab, mb, mem, h, hF⟩ := h
    have hb := body_some h hx
    have hN := h.nd k x hx
    have c2 := hN.blk.cell (show (bodyC x (mem k))[2]? = some _ from rfl)
    have hf := hN.blk.frozen 2
    have hlt := hN.blk.lt
    have hH : x.holds = 1 := by omega
    have hs := h.set1 hF hx 2 (.int .i64 ((0 : Nat) : Int)) (y := { x with holds := 0 }) rfl rfl rfl
    obtain ⟨F1, hT, hC⟩ := hs
    have hsw := sweep_gone hT (look_upd_same hx _) (fun e => hl (.inl e)) (show x.named = 0 by omega) rfl
    rw [away_upd] at hsw
    rw [hH] at c2
    generalize (mem k).blk = kb at hb c2 hf hlt hT hC hsw
    replace hC := Lib.hid hC
    replace hsw := Lib.hid hsw
    clear h hN hx hF hl hh hH hm hT
    go_enter Tryz.func151, Tryz.ntmps151
    go_wp2_with fail
    refine hb.mono ?_
    rintro e w' ⟨rfl, hw⟩
    obtain rfl := hw.symm
    clear hb hw
    go_wp2_with fail
    refine hsw.out.mono ?_
    rintro e w' ⟨rfl, F', h1, h2⟩
    have h3 := hC.out.trans h2
    replace h1 := Lib.hid h1
    replace h3 := Lib.hid h3
    clear hsw h2 hC
    go_wp2
    go_ret
    exact ⟨rfl, F', h1.out, h3.out⟩
end
end Go.Proofs.YtfofpphnglhopaaGreatDoor
namespace Go.Proofs.YtfofpphnglhopaaGreatDoor
open Go Go.RowKit
section
variable {w : World} {tb top : Nat} {a0 a1 a2 v : Value} {xs : List Int}
theorem NumAt.drewN (h : NumAt w tb a0 a1 a2 top v xs) (n : Nat) : NumAt (w.drewN n) tb a0 a1 a2 top v xs := ⟨h.blk, h.row.keep fun _ _ => rfl, h.ne, h.few⟩
theorem heap_down (h : NumAt w tb a0 a1 a2 top v xs) (N : Nat) (hNl : N ≤ xs.length) (hd : DnInv xs 0 N) :
    Calls Tryz.prog 189 #[.iface 230 (.pointer (some ⟨tb, 4, none⟩)), .int .i64 0, .int .i64 (N : Int)] w fun e w' => (∃ b, e = .returned (.bool b)) ∧ ∃ ys : List Int, NumAt w' tb a0 a1 a2 top v ys ∧ ys.Perm xs ∧ IsHp ys N ∧ (∀ k, N ≤ k → gt ys k = gt xs k) ∧ Chg (fun b => v.ownBlock = some b) (fun b => v.ownBlock = some b) w w' := by
  obtain ⟨A, c, rfl, hc, hcm⟩ := h.row.form
  obtain ⟨L, hL⟩ : ∃ L, xs.length = L := ⟨_, rfl⟩
  have hfew := h.few
  rw [hL] at hNl hc hfew h ⊢
  replace hL := Lib.hid hL
  replace h := Lib.hid h
  replace hd := Lib.hid hd
  go_enter Tryz.func189, Tryz.ntmps189
  go_wp2
  go_loopw [7] (fun jv wr => ∃ (k : Nat) (ys : List Int), jv = .int .i64 (k : Int) ∧ k ≤ L ∧ Hid (ys.length = L) ∧ Hid (NumAt wr tb a0 a1 a2 top (.slice A L c) ys) ∧ Hid (ys.Perm xs) ∧ Hid (DnInv ys k N) ∧ Hid (∀ j, N ≤ j → gt ys j = gt xs j) ∧ Hid (Chg (fun b => (Value.slice A L c).ownBlock = some b) (fun b => (Value.slice A L c).ownBlock = some b) w wr)) (fun jv _ => L + 1 - (intOf jv).toNat)
  case atStart => exact ⟨0, xs, rfl, Nat.zero_le _, hL, h, Lib.hid (List.Perm.refl _), hd, Lib.hid (fun _ _ => rfl), Lib.hid (Chg.refl _ _)⟩
  case round =>
    clear h hd
    obtain ⟨k, ys, rfl, hk, hyl, hN, hP, hD, hT, hC⟩ := hrel
    have c4 := hN.out.blk.cell (i := 4) rfl
    have hlt := hN.out.blk.lt
    have hfin : (∀ j, 0 < j → j < N → (j - 1) / 2 = k → gt ys k ≤ gt ys j) → IsHp ys N := fun he => dn_done hD.out he
    have hstep : ∀ j, 0 < j → j < N → (j - 1) / 2 = k → gt ys j < gt ys k → (∀ i, 0 < i → i < N → (i - 1) / 2 = k → gt ys j ≤ gt ys i) → DnInv (swp ys k j) j N := fun j h0 hj hp hl hm => dn_step hD.out (by rw [hyl.out]; exact hNl) h0 hj hp hl hm
    have hless := fun (i j : Nat) (hi : i < L) (hj : j < L) (W : World) (hW : NumAt W tb a0 a1 a2 top (.slice A L c) ys) => is_Less hW.row hyl.out i j (by rw [hyl.out]; exact hi) (by rw [hyl.out]; exact hj) hW.few
    replace hfin := Lib.hid hfin
    replace hstep := Lib.hid hstep
    replace hless := Lib.hid hless
    obtain ⟨gk, hgk⟩ : ∃ g, gt ys k = g := ⟨_, rfl⟩
    obtain ⟨g1, hg1⟩ : ∃ g, gt ys (2 * k + 1) = g := ⟨_, rfl⟩
    obtain ⟨g2, hg2⟩ : ∃ g, gt ys (2 * k + 2) = g := ⟨_, rfl⟩
    replace hgk := Lib.hid hgk
    replace hg1 := Lib.hid hg1
    replace hg2 := Lib.hid hg2
    by_cases hx : N ≤ 2 * k + 1
    · have e1 : ((N : Nat) : Int) ≤ 2 * (k : Int) + 1 := by omega
      have hH := Lib.hid (hfin.out (fun j h0 hj hp => by omega))
      clear hfin hstep hless
      go_wp2
      go_ret
      exact ⟨⟨_, rfl⟩, ys, hN.out, hP.out, hH.out, hT.out, hC.out⟩
    · have e1 : ¬ ((N : Nat) : Int) ≤ 2 * (k : Int) + 1 := by omega
      have e2 : ¬ (2 * (k : Int) + 1) < 0 := by omega
      have ek1 : ((2 * k + 1 : Nat) : Int) = 2 * (k : Int) + 1 := by omega
      have ek2 : ((2 * k + 2 : Nat) : Int) = 2 * (k : Int) + 1 + 1 := by omega
      have kids : ∀ i, 0 < i → (i - 1) / 2 = k → i = 2 * k + 1 ∨ i = 2 * k + 2 := fun i _ _ => by omega
      replace kids := Lib.hid kids
      by_cases h2 : 2 * k + 2 < N
      · have e3 : 2 * (k : Int) + 1 + 1 < ((N : Nat) : Int) := by omega
        by_cases h3 : g2 < g1
        · have hlsa := hless.out (2 * k + 2) (2 * k + 1) (by omega) (by omega) wr hN.out
          rw [hg2.out, hg1.out, decide_eq_true h3] at hlsa
          (try rw [ek2] at hlsa); (try rw [ek1] at hlsa)
          have hma := m_Less c4
          go_wp2_with fail
          refine hlsa.mono ?_
          rintro e wa ⟨rfl, na, rfl⟩
          have hNa := hN.out.drewN na
          have hCa := hC.out.trans (Chg.drewN _ wr na)
          generalize wr.drewN na = va at hNa hCa ⊢
          have d4a := hNa.blk.cell (i := 4) rfl
          have hlta := hNa.blk.lt
          replace hNa := Lib.hid hNa
          replace hCa := Lib.hid hCa
          clear hlsa hma c4
          by_cases hlb : g2 < gk
          · have hst := Lib.hid (hstep.out (2 * k + 2) (by omega) (by omega) (by omega) (by rw [hg2.out, hgk.out]; exact hlb) (fun i h0 hi hp => by have q1 := hg1.out; have q2 := hg2.out; have q3 := hgk.out; rcases kids.out i h0 hp with rfl | rfl <;> omega))
            have hlssb := hless.out (2 * k + 2) k (by omega) (by omega) va hNa.out
            rw [hg2.out, hgk.out, decide_eq_true hlb] at hlssb
            (try rw [ek2] at hlssb); (try rw [ek1] at hlssb)
            have hmsb := m_Less d4a
            go_wp2_with fail
            refine hlssb.mono ?_
            rintro e wsb ⟨rfl, nsb, rfl⟩
            have hNsb := hNa.out.drewN nsb
            have hCsb := hCa.out.trans (Chg.drewN _ va nsb)
            generalize va.drewN nsb = vsb at hNsb hCsb ⊢
            have d4sb := hNsb.blk.cell (i := 4) rfl
            have hltsb := hNsb.blk.lt
            replace hNsb := Lib.hid hNsb
            replace hCsb := Lib.hid hCsb
            clear hlssb hmsb d4a
            have hpm := Lib.hid (swp_perm (ys := ys) (i := k) (j := 2 * k + 2) (by rw [hyl.out]; omega) (by rw [hyl.out]; omega))
            have hsl := Lib.hid ((swp_len ys k (2 * k + 2)).trans hyl.out)
            have hsw := is_Swap hNsb.out.row hyl.out k (2 * k + 2) (by rw [hyl.out]; omega) (by rw [hyl.out]; omega) hNsb.out.few
            (try rw [ek2] at hsw); (try rw [ek1] at hsw)
            have hgs := Lib.hid (fun i (hi : N ≤ i) => (gt_swp (ys := ys) (i := k) (j := 2 * k + 2) (by rw [hyl.out]; omega) (by rw [hyl.out]; omega) i).trans ((if_neg (by omega)).trans ((if_neg (by omega)).trans (hT.out i hi))))
            have hm2 := m_Swap d4sb
            generalize hyy : swp ys k (2 * k + 2) = zs at hst hpm hsl hsw hgs
            replace hyy := Lib.hid hyy
            go_wp2_with fail
            refine hsw.mono ?_
            rintro e w3 ⟨rfl, hr3, c3⟩
            have hN3 : NumAt w3 tb a0 a1 a2 top (.slice A L c) zs := ⟨hNsb.out.blk.chg c3 hNsb.out.ne, by rw [hsl.out]; rw [hyl.out] at hr3; exact hr3, hNsb.out.ne, by rw [hsl.out]; exact hfew⟩
            replace hN3 := Lib.hid hN3
            have hC3 := Lib.hid (hCsb.out.trans c3)
            have hP3 := Lib.hid (hpm.out.trans hP.out)
            clear hsw hm2 d4sb hr3 c3
            go_wp2
            go_roundw
            case rel => exact ⟨2 * k + 2, zs, by rw [ek2], by omega, hsl, hN3, hP3, hst, hgs, hC3⟩
            case measure => simp [intOf]; omega
          · have hH := Lib.hid (hfin.out (fun i h0 hi hp => by have q1 := hg1.out; have q2 := hg2.out; have q3 := hgk.out; rcases kids.out i h0 hp with rfl | rfl <;> omega))
            have hlstb := hless.out (2 * k + 2) k (by omega) (by omega) va hNa.out
            rw [hg2.out, hgk.out, decide_eq_false hlb] at hlstb
            (try rw [ek2] at hlstb); (try rw [ek1] at hlstb)
            have hmtb := m_Less d4a
            go_wp2_with fail
            refine hlstb.mono ?_
            rintro e wtb ⟨rfl, ntb, rfl⟩
            have hNtb := hNa.out.drewN ntb
            have hCtb := hCa.out.trans (Chg.drewN _ va ntb)
            generalize va.drewN ntb = vtb at hNtb hCtb ⊢
            have d4tb := hNtb.blk.cell (i := 4) rfl
            have hlttb := hNtb.blk.lt
            replace hNtb := Lib.hid hNtb
            replace hCtb := Lib.hid hCtb
            clear hlstb hmtb d4a
            go_wp2
            go_ret
            exact ⟨⟨_, rfl⟩, ys, hNtb.out, hP.out, hH.out, hT.out, hCtb.out⟩
        · have hlsa := hless.out (2 * k + 2) (2 * k + 1) (by omega) (by omega) wr hN.out
          rw [hg2.out, hg1.out, decide_eq_false h3] at hlsa
          (try rw [ek2] at hlsa); (try rw [ek1] at hlsa)
          have hma := m_Less c4
          go_wp2_with fail
          refine hlsa.mono ?_
          rintro e wa ⟨rfl, na, rfl⟩
          have hNa := hN.out.drewN na
          have hCa := hC.out.trans (Chg.drewN _ wr na)
          generalize wr.drewN na = va at hNa hCa ⊢
          have d4a := hNa.blk.cell (i := 4) rfl
          have hlta := hNa.blk.lt
          replace hNa := Lib.hid hNa
          replace hCa := Lib.hid hCa
          clear hlsa hma c4
          by_cases hlb : g1 < gk
          · have hst := Lib.hid (hstep.out (2 * k + 1) (by omega) (by omega) (by omega) (by rw [hg1.out, hgk.out]; exact hlb) (fun i h0 hi hp => by have q1 := hg1.out; have q2 := hg2.out; have q3 := hgk.out; rcases kids.out i h0 hp with rfl | rfl <;> omega))
            have hlssb := hless.out (2 * k + 1) k (by omega) (by omega) va hNa.out
            rw [hg1.out, hgk.out, decide_eq_true hlb] at hlssb
            (try rw [ek2] at hlssb); (try rw [ek1] at hlssb)
            have hmsb := m_Less d4a
            go_wp2_with fail
            refine hlssb.mono ?_
            rintro e wsb ⟨rfl, nsb, rfl⟩
            have hNsb := hNa.out.drewN nsb
            have hCsb := hCa.out.trans (Chg.drewN _ va nsb)
            generalize va.drewN nsb = vsb at hNsb hCsb ⊢
            have d4sb := hNsb.blk.cell (i := 4) rfl
            have hltsb := hNsb.blk.lt
            replace hNsb := Lib.hid hNsb
            replace hCsb := Lib.hid hCsb
            clear hlssb hmsb d4a
            have hpm := Lib.hid (swp_perm (ys := ys) (i := k) (j := 2 * k + 1) (by rw [hyl.out]; omega) (by rw [hyl.out]; omega))
            have hsl := Lib.hid ((swp_len ys k (2 * k + 1)).trans hyl.out)
            have hsw := is_Swap hNsb.out.row hyl.out k (2 * k + 1) (by rw [hyl.out]; omega) (by rw [hyl.out]; omega) hNsb.out.few
            (try rw [ek2] at hsw); (try rw [ek1] at hsw)
            have hgs := Lib.hid (fun i (hi : N ≤ i) => (gt_swp (ys := ys) (i := k) (j := 2 * k + 1) (by rw [hyl.out]; omega) (by rw [hyl.out]; omega) i).trans ((if_neg (by omega)).trans ((if_neg (by omega)).trans (hT.out i hi))))
            have hm2 := m_Swap d4sb
            generalize hyy : swp ys k (2 * k + 1) = zs at hst hpm hsl hsw hgs
            replace hyy := Lib.hid hyy
            go_wp2_with fail
            refine hsw.mono ?_
            rintro e w3 ⟨rfl, hr3, c3⟩
            have hN3 : NumAt w3 tb a0 a1 a2 top (.slice A L c) zs := ⟨hNsb.out.blk.chg c3 hNsb.out.ne, by rw [hsl.out]; rw [hyl.out] at hr3; exact hr3, hNsb.out.ne, by rw [hsl.out]; exact hfew⟩
            replace hN3 := Lib.hid hN3
            have hC3 := Lib.hid (hCsb.out.trans c3)
            have hP3 := Lib.hid (hpm.out.trans hP.out)
            clear hsw hm2 d4sb hr3 c3
            go_wp2
            go_roundw
            case rel => exact ⟨2 * k + 1, zs, by rw [ek1], by omega, hsl, hN3, hP3, hst, hgs, hC3⟩
            case measure => simp [intOf]; omega
          · have hH := Lib.hid (hfin.out (fun i h0 hi hp => by have q1 := hg1.out; have q2 := hg2.out; have q3 := hgk.out; rcases kids.out i h0 hp with rfl | rfl <;> omega))
            have hlstb := hless.out (2 * k + 1) k (by omega) (by omega) va hNa.out
            rw [hg1.out, hgk.out, decide_eq_false hlb] at hlstb
            (try rw [ek2] at hlstb); (try rw [ek1] at hlstb)
            have hmtb := m_Less d4a
            go_wp2_with fail
            refine hlstb.mono ?_
            rintro e wtb ⟨rfl, ntb, rfl⟩
            have hNtb := hNa.out.drewN ntb
            have hCtb := hCa.out.trans (Chg.drewN _ va ntb)
            generalize va.drewN ntb = vtb at hNtb hCtb ⊢
            have d4tb := hNtb.blk.cell (i := 4) rfl
            have hlttb := hNtb.blk.lt
            replace hNtb := Lib.hid hNtb
            replace hCtb := Lib.hid hCtb
            clear hlstb hmtb d4a
            go_wp2
            go_ret
            exact ⟨⟨_, rfl⟩, ys, hNtb.out, hP.out, hH.out, hT.out, hCtb.out⟩
      · have e3 : ¬ 2 * (k : Int) + 1 + 1 < ((N : Nat) : Int) := by omega
        by_cases hlb : g1 < gk
        · have hst := Lib.hid (hstep.out (2 * k + 1) (by omega) (by omega) (by omega) (by rw [hg1.out, hgk.out]; exact hlb) (fun i h0 hi hp => by have q1 := hg1.out; have q2 := hg2.out; have q3 := hgk.out; rcases kids.out i h0 hp with rfl | rfl <;> omega))
          have hlssb := hless.out (2 * k + 1) k (by omega) (by omega) wr hN.out
          rw [hg1.out, hgk.out, decide_eq_true hlb] at hlssb
          (try rw [ek2] at hlssb); (try rw [ek1] at hlssb)
          have hmsb := m_Less c4
          go_wp2_with fail
          refine hlssb.mono ?_
          rintro e wsb ⟨rfl, nsb, rfl⟩
          have hNsb := hN.out.drewN nsb
          have hCsb := hC.out.trans (Chg.drewN _ wr nsb)
          generalize wr.drewN nsb = vsb at hNsb hCsb ⊢
          have d4sb := hNsb.blk.cell (i := 4) rfl
          have hltsb := hNsb.blk.lt
          replace hNsb := Lib.hid hNsb
          replace hCsb := Lib.hid hCsb
          clear hlssb hmsb c4
          have hpm := Lib.hid (swp_perm (ys := ys) (i := k) (j := 2 * k + 1) (by rw [hyl.out]; omega) (by rw [hyl.out]; omega))
          have hsl := Lib.hid ((swp_len ys k (2 * k + 1)).trans hyl.out)
          have hsw := is_Swap hNsb.out.row hyl.out k (2 * k + 1) (by rw [hyl.out]; omega) (by rw [hyl.out]; omega) hNsb.out.few
          (try rw [ek2] at hsw); (try rw [ek1] at hsw)
          have hgs := Lib.hid (fun i (hi : N ≤ i) => (gt_swp (ys := ys) (i := k) (j := 2 * k + 1) (by rw [hyl.out]; omega) (by rw [hyl.out]; omega) i).trans ((if_neg (by omega)).trans ((if_neg (by omega)).trans (hT.out i hi))))
          have hm2 := m_Swap d4sb
          generalize hyy : swp ys k (2 * k + 1) = zs at hst hpm hsl hsw hgs
          replace hyy := Lib.hid hyy
          go_wp2_with fail
          refine hsw.mono ?_
          rintro e w3 ⟨rfl, hr3, c3⟩
          have hN3 : NumAt w3 tb a0 a1 a2 top (.slice A L c) zs := ⟨hNsb.out.blk.chg c3 hNsb.out.ne, by rw [hsl.out]; rw [hyl.out] at hr3; exact hr3, hNsb.out.ne, by rw [hsl.out]; exact hfew⟩
          replace hN3 := Lib.hid hN3
          have hC3 := Lib.hid (hCsb.out.trans c3)
          have hP3 := Lib.hid (hpm.out.trans hP.out)
          clear hsw hm2 d4sb hr3 c3
          go_wp2
          go_roundw
          case rel => exact ⟨2 * k + 1, zs, by rw [ek1], by omega, hsl, hN3, hP3, hst, hgs, hC3⟩
          case measure => simp [intOf]; omega
        · have hH := Lib.hid (hfin.out (fun i h0 hi hp => by have q1 := hg1.out; have q2 := hg2.out; have q3 := hgk.out; rcases kids.out i h0 hp with rfl | rfl <;> omega))
          have hlstb := hless.out (2 * k + 1) k (by omega) (by omega) wr hN.out
          rw [hg1.out, hgk.out, decide_eq_false hlb] at hlstb
          (try rw [ek2] at hlstb); (try rw [ek1] at hlstb)
          have hmtb := m_Less c4
          go_wp2_with fail
          refine hlstb.mono ?_
          rintro e wtb ⟨rfl, ntb, rfl⟩
          have hNtb := hN.out.drewN ntb
          have hCtb := hC.out.trans (Chg.drewN _ wr ntb)
          generalize wr.drewN ntb = vtb at hNtb hCtb ⊢
          have d4tb := hNtb.blk.cell (i := 4) rfl
          have hlttb := hNtb.blk.lt
          replace hNtb := Lib.hid hNtb
          replace hCtb := Lib.hid hCtb
          clear hlstb hmtb c4
          go_wp2
          go_ret
          exact ⟨⟨_, rfl⟩, ys, hNtb.out, hP.out, hH.out, hT.out, hCtb.out⟩
theorem least_Pop (h : NumAt w tb a0 a1 a2 top v xs) {K : Nat} (hK : xs.length = K + 1) :
    Calls Tryz.prog 296 #[.pointer (some ⟨tb, 4, none⟩)] w fun e w' => e = .returned (.iface 3 (.int .i64 (gt xs K))) ∧ ∃ v', NumAt w' tb a0 a1 a2 top v' (xs.take K) ∧ Chg (fun b => b = tb) (fun b => b = tb) w w' ∧ v'.ownBlock = v.ownBlock := by
  obtain ⟨g, off, c, rfl, hc, hcm⟩ := h.row.form1 (by omega)
  have c4 := h.blk.cell (i := 4) rfl
  have f4 := h.blk.frozen 4
  have hlt := h.blk.lt
  have hfew := h.few
  have k1 := h.row.cell (ic_at (xs := xs) (k := K) (by omega))
  have hb := h.blk.set 4 (.slice (some ⟨g, off, none⟩) K c)
  have hne := h.ne
  have hr := h.row.head K (by omega)
  rw [ic_take] at hr
  have htl : (xs.take K).length = K := by rw [List.length_take, hK]; omega
  have hfin : NumAt (w.setCell ⟨tb, 4, none⟩ (.slice (some ⟨g, off, none⟩) K c)) tb a0 a1 a2 top (.slice (some ⟨g, off, none⟩) K c) (xs.take K) := ⟨hb, by
    rw [htl]
    exact hr.keep fun b hb => heap_setCell_other _ _ b _ (fun e => hne (by cases hb; exact congrArg some e)), hne, by rw [htl]; omega⟩
  rw [hK] at c4 hc
  generalize gt xs K = x at k1 ⊢
  have hgl := h.row.lt (g := g) rfl
  replace hfin := Lib.hid hfin
  unfold maxLen at hcm
  clear h hb hr hne htl
  rw [hK] at hfew
  clear hK
  go_enter Tryz.func296, Tryz.ntmps296
  go_wp2
  go_ret
  exact ⟨rfl, _, hfin.out, Chg.set (F := fun b => b = tb) rfl 4 _, rfl⟩
theorem m_Pop {w : World} {tb : Nat} : (method 446 230 (.pointer (some ⟨tb, 4, none⟩)) "Pop").run Tryz.prog w = .ok (296, .pointer (some ⟨tb, 4, none⟩)) w := by kernel_rfl
theorem heap_Pop (h : NumAt w tb a0 a1 a2 top v xs) (hp : IsHp xs xs.length) (h0 : 0 < xs.length) :
    Calls Tryz.prog 158 #[.iface 230 (.pointer (some ⟨tb, 4, none⟩))] w fun e w' => e = .returned (.iface 3 (.int .i64 (gt xs 0))) ∧ ∃ (v' : Value) (ys : List Int), NumAt w' tb a0 a1 a2 top v' ys ∧ (ys ++ [gt xs 0]).Perm xs ∧ IsHp ys ys.length ∧
      Chg (fun b => b = tb ∨ v.ownBlock = some b) (fun b => b = tb ∨ v.ownBlock = some b) w w' ∧ v'.ownBlock = v.ownBlock := by
  obtain ⟨A, c, rfl, hc, hcm⟩ := h.row.form
  obtain ⟨K, hK⟩ : ∃ K, xs.length = K + 1 := ⟨xs.length - 1, by omega⟩
  have c4 := h.blk.cell (i := 4) rfl
  have hlt := h.blk.lt
  have hfew := h.few
  have hsw := is_Swap h.row rfl 0 K (by omega) (by omega) h.few
  have hpm := swp_perm (ys := xs) (i := 0) (j := K) (by omega) (by omega)
  have hsl := (swp_len xs 0 K).trans hK
  have hgs : gt (swp xs 0 K) K = gt xs 0 := by rw [gt_swp (by omega) (by omega), if_pos rfl]
  have hdn := dn_start (n := K) (by rw [← hK]; exact hp) (by omega)
  have hm1 := m_Len c4
  have hm2 := m_Swap c4
  have hl4 := fun W => is_Len A (K + 1) c W
  generalize gt xs 0 = x0 at hgs ⊢
  generalize swp xs 0 K = zs at hsw hpm hsl hgs hdn
  rw [hK] at c4 hsw hc hfew hm1 hm2
  have hN0 := h
  rw [hK] at hN0
  have e1 : ((K + 1 : Nat) : Int) - 1 = (K : Int) := by omega
  have e2 : (K : Int) + 1 - 1 = (K : Int) := by omega
  replace hN0 := Lib.hid hN0
  replace hpm := Lib.hid hpm
  replace hsl := Lib.hid hsl
  replace hgs := Lib.hid hgs
  replace hdn := Lib.hid hdn
  replace hK := Lib.hid hK
  replace hl4 := Lib.hid hl4
  replace hsw := Lib.hid hsw
  clear h hp h0 hcm
  go_enter Tryz.func158, Tryz.ntmps158
  go_wp2_with fail
  refine (hl4.out w).mono ?_
  rintro e w' ⟨rfl, hw⟩
  obtain rfl := hw.symm
  clear hw
  go_wp2_with fail
  refine hsw.out.mono ?_
  rintro e w2 ⟨rfl, hr2, cc2⟩
  have hN2 : NumAt w2 tb a0 a1 a2 top (.slice A (K + 1) c) zs := ⟨hN0.out.blk.chg cc2 hN0.out.ne, by rw [hsl.out]; exact hr2, hN0.out.ne, by rw [hsl.out]; exact hfew⟩
  have hdo := heap_down hN2 K (by rw [hsl.out]; omega) hdn.out
  have hlt2 := hN2.blk.lt
  replace hdo := Lib.hid hdo
  replace cc2 := Lib.hid cc2
  clear hN2 hsw hm1 hm2 c4 hr2 hN0
  go_wp2_with fail
  refine hdo.out.mono ?_
  rintro e w3 ⟨⟨b, rfl⟩, ys, hN3, hP3, hH3, hT3, cc3⟩
  have hyl : ys.length = K + 1 := hP3.length_eq.trans hsl.out
  have hpo := least_Pop hN3 hyl
  rw [hT3 K (Nat.le_refl _), hgs.out] at hpo
  have hlt3 := hN3.blk.lt
  have hP4 : (ys.take K ++ [x0]).Perm xs := by
    have e3 : ys.take K ++ [x0] = ys := by
      have h5 : gt ys K = x0 := (hT3 K (Nat.le_refl _)).trans hgs.out
      rw [gt_of (by omega)] at h5
      rw [← h5]
      have := List.take_append_getElem (l := ys) (i := K) (by omega)
      rw [this, List.take_of_length_le (by omega)]
    rw [e3]
    exact hP3.trans hpm.out
  have hH4 : IsHp (ys.take K) (ys.take K).length := by
    rw [show (ys.take K).length = K by rw [List.length_take, hyl]; omega]
    exact hH3.take
  have hmp := m_Pop (w := w3) (tb := tb)
  have hown : (Value.slice A xs.length c).ownBlock = (Value.slice A (K + 1) c).ownBlock := own_len _ _ _ _ _
  replace hpo := Lib.hid hpo
  replace hP4 := Lib.hid hP4
  replace hH4 := Lib.hid hH4
  replace cc3 := Lib.hid cc3
  replace hown := Lib.hid hown
  clear hN3 hP3 hH3 hT3 hyl hdo hpm hsl hgs hdn
  go_wp2_with fail
  refine hpo.out.mono ?_
  rintro e w4 ⟨rfl, v', hN4, cc4, ho4⟩
  go_wp2
  go_ret
  refine ⟨rfl, v', _, hN4, hP4.out, hH4.out, ?_, ho4.trans hown.out.symm⟩
  rw [hown.out]
  exact ((cc2.out.trans cc3.out).mono (G := fun b => b = tb ∨ (Value.slice A (K + 1) c).ownBlock = some b) (G' := fun b => b = tb ∨ (Value.slice A (K + 1) c).ownBlock = some b) (fun b hb => .inr hb) (fun b _ hb => .inr hb)).trans (cc4.mono (G := fun b => b = tb ∨ (Value.slice A (K + 1) c).ownBlock = some b) (G' := fun b => b = tb ∨ (Value.slice A (K + 1) c).ownBlock = some b) (fun b hb => .inl hb) (fun b _ hb => .inr hb))
def Least (ids : List Int) (k : Int) : Prop := 1 ≤ k ∧ k ∉ ids ∧ ∀ j, 1 ≤ j → j < k → j ∈ ids
theorem NumR.least {ids : List Int} (h : NumR w tb a0 a1 a2 ids top v xs) (h0 : 0 < xs.length) : Least ids (gt xs 0) := by
  have hm : gt xs 0 ∈ xs := by rw [gt_of h0]; exact List.getElem_mem h0
  have h1 := (h.all _).2 (.inr hm)
  refine ⟨h1.1, h.dis _ hm, fun j hj hlt => ?_⟩
  rcases (h.all j).1 ⟨hj, by omega⟩ with h2 | h2
  · exact h2
  · obtain ⟨i, hi, rfl⟩ := List.getElem_of_mem h2
    have := h.hp.least i hi
    rw [gt_of hi] at this
    omega
theorem NumR.least0 {ids : List Int} (h : NumR w tb a0 a1 a2 ids top v []) : Least ids ((top + 1 : Nat) : Int) :=
  ⟨by omega, fun hm => by have := (h.all _).2 (.inl hm); omega, fun j hj hlt => by
    rcases (h.all j).1 ⟨hj, by omega⟩ with h2 | h2
    · exact h2
    · cases h2⟩
theorem NumR.taken {w' : World} {v' : Value} {ids ys : List Int} {x : Int} (h : NumR w tb a0 a1 a2 ids top v xs) (hN : NumAt w' tb a0 a1 a2 top v' ys) (hP : (ys ++ [x]).Perm xs) (hH : IsHp ys ys.length) : NumR w' tb a0 a1 a2 (ids ++ [x]) top v' ys := by
  have hl := hP.length_eq
  rw [List.length_append, List.length_singleton] at hl
  have hnd := hP.nodup_iff.2 h.nd
  rw [List.nodup_append] at hnd
  refine ⟨hN, hH, by have := h.cnt; rw [List.length_append, List.length_singleton]; omega, fun j => ?_, fun j hj hm => ?_, hnd.1, h.few⟩
  · rw [h.all j, ← hP.mem_iff, List.mem_append, List.mem_append, List.mem_singleton]
    constructor
    · rintro (h1 | h1 | h1)
      · exact .inl (.inl h1)
      · exact .inr h1
      · exact .inl (.inr h1)
    · rintro ((h1 | h1) | h1)
      · exact .inl h1
      · exact .inr (.inr h1)
      · exact .inr (.inl h1)
  · rw [List.mem_append, List.mem_singleton] at hm
    rcases hm with hm | hm
    · exact h.dis j (hP.mem_iff.1 (List.mem_append_left _ hj)) hm
    · exact hnd.2.2 j hj x (List.mem_singleton.2 rfl) hm
theorem nums_take {ids : List Int} (h : NumR w tb a0 a1 a2 ids top v xs) (ht : top < 100000) :
    Calls Tryz.prog 134 #[.pointer (some ⟨tb, 3, none⟩)] w fun e w' => ∃ k, e = .returned (.int .i64 k) ∧ Least ids k ∧ ∃ top' v' xs', top' ≤ top + 1 ∧ NumR w' tb a0 a1 a2 (ids ++ [k]) top' v' xs' ∧ Chg (fun b => b = tb ∨ v.ownBlock = some b) (fun b => b = tb ∨ v.ownBlock = some b) w w' ∧ v'.ownBlock = v.ownBlock := by
  by_cases h0 : xs = []
  · subst h0
    refine (nums_take0 h ht).mono ?_
    rintro e w' ⟨rfl, h1, h2⟩
    exact ⟨_, rfl, h.least0, top + 1, v, [], Nat.le_refl _, h1, h2.mono (fun b hb => .inl hb) (fun b _ hb => .inr hb), rfl⟩
  · have hpos : 0 < xs.length := List.length_pos_iff.2 h0
    have hpop := heap_Pop h.at_ h.hp hpos
    have hle := h.least hpos
    have htk := fun w' v' ys => h.taken (w' := w') (v' := v') (ys := ys) (x := gt xs 0)
    obtain ⟨A, c, hv, hc, hcm⟩ := h.at_.row.form
    have c4 := h.at_.blk.cell (i := 4) rfl
    have hlt := h.at_.blk.lt
    generalize gt xs 0 = x at hpop hle htk ⊢
    obtain ⟨L, hL⟩ : ∃ L, xs.length = L := ⟨_, rfl⟩
    rw [hL] at hv hpos
    rw [hv] at c4
    have hl4 := fun W => is_Len A L c W
    have e1 : (0 : Int) < (L : Int) := by omega
    have hta : ∀ W : World, (Instr.typeAssert (.iface 3 (.int .i64 x)) 20 3 false).run Tryz.prog W = .ok (.int .i64 x) W := fun _ => by kernel_rfl
    replace hpop := Lib.hid hpop
    replace hle := Lib.hid hle
    replace htk := Lib.hid htk
    replace hl4 := Lib.hid hl4
    replace hv := Lib.hid hv
    replace hL := Lib.hid hL
    clear h h0 hc hcm
    go_enter Tryz.func134, Tryz.ntmps134
    go_wp2_with fail
    refine (hl4.out w).mono ?_
    rintro e w' ⟨rfl, hw⟩
    obtain rfl := hw.symm
    clear hw
    go_wp2_with fail
    refine hpop.out.mono ?_
    rintro e w' ⟨rfl, v', ys, h1, h2, h3, h4, h5⟩
    go_wp2
    go_ret
    exact ⟨x, rfl, hle.out, top, v', ys, Nat.le_succ _, htk.out w' v' ys h1 h2 h3, h4, h5⟩
theorem nums_leaveT {ids : List Int} (h : NumR w tb a0 a1 a2 ids top v xs) (hnd : ids.Nodup) {id : Int} (hid : id ∈ ids) :
    Calls Tryz.prog 93 #[.pointer (some ⟨tb, 3, none⟩), .int .i64 id] w fun e w' => e = .returned (.tuple #[]) ∧ ∃ (top' : Nat) (v' : Value) (ys : List Int), top' ≤ top ∧ NumR w' tb a0 a1 a2 (ids.filter fun j => j ≠ id) top' v' ys ∧
      Chg (fun b => b = tb ∨ v.ownBlock = some b) (fun b => b = tb ∨ v.ownBlock = some b ∨ v'.ownBlock = some b) w w' ∧ (v'.ownBlock = none ∨ v'.ownBlock = v.ownBlock ∨ ∃ g, v'.ownBlock = some g ∧ w.heap.size ≤ g) := by
  have hpush := heap_Push h.at_ h.hp id (by have := h.cnt; have := h.few; omega)
  have hlt := h.at_.blk.lt
  have hcnt := h.cnt
  have hfew := h.few
  have hpu := fun w' v' ys => h.pushed (w' := w') (v' := v') (ys := ys) hnd hid
  replace hpu := Lib.hid hpu
  replace h := Lib.hid h
  replace hcnt := Lib.hid hcnt
  go_enter Tryz.func93, Tryz.ntmps93
  go_wp2_with fail
  refine hpush.mono ?_
  rintro e w1 ⟨rfl, v', ys, hN, hP, hH, hC, how⟩
  have hR := hpu.out w1 v' ys hN hP hH
  obtain ⟨A, c, hv, hc, hcm⟩ := hN.row.form
  have c3 := hN.blk.cell (i := 3) rfl
  have c4 := hN.blk.cell (i := 4) rfl
  have f3 := hN.blk.frozen 3
  have f4 := hN.blk.frozen 4
  have hl1 := hN.blk.lt
  rw [hv] at c4
  obtain ⟨K, hK⟩ : ∃ K, ys.length = K := ⟨_, rfl⟩
  rw [hK] at c4 hc
  replace hN := Lib.hid hN
  replace hR := Lib.hid hR
  replace hC := Lib.hid hC
  replace how := Lib.hid how
  replace hK := Lib.hid hK
  replace hv := Lib.hid hv
  clear hpush hP hH hpu
  go_wp2_with fail
  go_quiet ((go_at_call 136; refine Calls.quiet_of_same (is_Len A K c _)))
  by_cases hkt : K = top
  · have e1 : ((K : Int) == (top : Int)) = true := by simp [hkt]
    go_wp2
    go_end0
    have hb := (hN.out.blk.set 3 (.int .i64 0)).set 4 (.slice none 0 0)
    have hR' := hR.out
    have hl0 : (ids.filter fun j => j ≠ id).length = 0 := by have := hR'.cnt; have := hK.out; omega
    have hnil := List.eq_nil_of_length_eq_zero hl0
    refine ⟨rfl, 0, .slice none 0 0, [], Nat.zero_le _, ⟨⟨hb, .inl ⟨rfl, rfl, rfl⟩, nofun, Nat.zero_le _⟩, IsHp.nil _, by rw [hnil]; rfl, fun j => ?_, nofun, List.nodup_nil, Nat.zero_le _⟩, ?_, .inl rfl⟩
    · rw [hnil]
      simp
      omega
    · refine ((hC.out.trans (Chg.drewN _ w1 nq)).trans (((Chg.set (F := fun b => b = tb ∨ v.ownBlock = some b ∨ v'.ownBlock = some b) (.inl rfl) 3 _).trans (Chg.set (.inl rfl) 4 _)))).mono (fun b hb => hb) (fun b _ hb => ?_)
      rcases hb with hb | hb | hb
      · exact .inr (.inl hb)
      · exact .inr (.inr hb)
      · cases hb
  · have e1 : ((K : Int) == (top : Int)) = false := by simp; omega
    go_wp2
    go_end0
    exact ⟨rfl, top, v', ys, Nat.le_refl _, hR.out.keep rfl (fun _ _ => rfl), hC.out.trans (Chg.drewN _ w1 nq), .inr how.out⟩
end
section
def info7 (k r a n : Int) (x y z : Bool) : Value := .agg #[.int .i64 k, .int .i64 r, .int .i64 a, .int .i64 n, .bool x, .bool y, .bool z]
end
end Go.Proofs.YtfofpphnglhopaaGreatDoor
namespace Go.Proofs.YtfofpphnglhopaaGreatDoor
open Go Go.RowKit Go.ChangeMaps
theorem tab_New (w : World) (fb plb : Nat) :
    Calls Tryz.prog 44 #[ptrV fb, ptrV plb] w fun e w' => ∃ tb, e = .returned (.tuple #[.pointer (some ⟨tb, 0, none⟩), .int .i64 0]) ∧ ∃ F', TabF w' F' fb plb tb [] [] 0 [] ∧ Chg (fun _ => False) F' w w' := by
  have hmm := @run_makeMap Tryz.prog
  unfold ptrV
  go_enter Tryz.func44, Tryz.ntmps44
  go_upto_region 3 with fail
  have b1 : KMap (w.alloc (.map #[] 0)) w.heap.size (.int .i64) encI ([] : List (Int × Value)) := KMap.new w _ _
  have n1 : (w.alloc (.map #[] 0)).heap.size = w.heap.size + 1 := by simp
  have k1 : ∀ g, g < w.heap.size → (w.alloc (.map #[] 0)).heap[g]? = w.heap[g]? := fun g hg => Below.heap_alloc w _ g hg
  have o1 : (w.alloc (.map #[] 0)).os = w.os ∧ (w.alloc (.map #[] 0)).tape = w.tape ∧ (w.alloc (.map #[] 0)).output = w.output := ⟨rfl, rfl, rfl⟩
  replace b1 := Lib.hid b1
  replace k1 := Lib.hid k1
  replace o1 := Lib.hid o1
  go_wp2
  have b2 : Blk ((w.alloc (.map #[] 0)).alloc (.cells #[.pointer (some ⟨fb, 0, none⟩), .pointer (some ⟨plb, 0, none⟩), .map (some w.heap.size), .int .i64 0, .slice none 0 0] 142)) (w.alloc (.map #[] 0)).heap.size (tabC (ptrV fb) (ptrV plb) (.map (some w.heap.size)) 0 (.slice none 0 0)) 142 := Blk.new (w.alloc (.map #[] 0)) _ _
  have k2 : ∀ g, g < w.heap.size + 1 → ((w.alloc (.map #[] 0)).alloc (.cells #[.pointer (some ⟨fb, 0, none⟩), .pointer (some ⟨plb, 0, none⟩), .map (some w.heap.size), .int .i64 0, .slice none 0 0] 142)).heap[g]? = (w.alloc (.map #[] 0)).heap[g]? := fun g hg => Below.heap_alloc _ _ g (by omega)
  have n2 : ((w.alloc (.map #[] 0)).alloc (.cells #[.pointer (some ⟨fb, 0, none⟩), .pointer (some ⟨plb, 0, none⟩), .map (some w.heap.size), .int .i64 0, .slice none 0 0] 142)).heap.size = w.heap.size + 2 := by simp
  have o2 : ((w.alloc (.map #[] 0)).alloc (.cells #[.pointer (some ⟨fb, 0, none⟩), .pointer (some ⟨plb, 0, none⟩), .map (some w.heap.size), .int .i64 0, .slice none 0 0] 142)).os = w.os ∧ ((w.alloc (.map #[] 0)).alloc (.cells #[.pointer (some ⟨fb, 0, none⟩), .pointer (some ⟨plb, 0, none⟩), .map (some w.heap.size), .int .i64 0, .slice none 0 0] 142)).tape = w.tape ∧ ((w.alloc (.map #[] 0)).alloc (.cells #[.pointer (some ⟨fb, 0, none⟩), .pointer (some ⟨plb, 0, none⟩), .map (some w.heap.size), .int .i64 0, .slice none 0 0] 142)).output = w.output := o1.out
  rw [n1] at b2
  generalize (w.alloc (.map #[] 0)).alloc (.cells #[.pointer (some ⟨fb, 0, none⟩), .pointer (some ⟨plb, 0, none⟩), .map (some w.heap.size), .int .i64 0, .slice none 0 0] 142) = w2 at b2 k2 n2 o2 ⊢
  go_ret2
  refine ⟨w.heap.size + 1, rfl, ?_⟩
  have b1' : KMap w2 w.heap.size (.int .i64) encI ([] : List (Int × Value)) := b1.out.keep (k2 _ (Nat.lt_succ_self _))
  obtain ⟨z, hz⟩ : ∃ z, w.heap.size = z := ⟨_, rfl⟩
  rw [hz] at b2 k2 n2 b1' ⊢
  obtain ⟨lab, hlab⟩ : ∃ lab : Nat → HL, lab = fun g => if g = z then .tmap else if g = z + 1 then .tab else .free := ⟨_, rfl⟩
  have l0 : lab z = .tmap := by rw [hlab]; exact if_pos rfl
  have l1 : lab (z + 1) = .tab := by rw [hlab]; simp
  have l4 : ∀ g, g < z ∨ z + 2 ≤ g → lab g = .free := fun g hg => by
    rw [hlab]
    show (if g = z then _ else _) = _
    rw [if_neg (by omega), if_neg (by omega)]
  refine ⟨fun g => lab g ≠ .free, ⟨lab, z, fun _ => ⟨0, 0, .slice none 0 0⟩, .slice none 0 0, ⟨⟨⟨b2, .inl ⟨rfl, rfl, rfl⟩, nofun, Nat.zero_le _⟩, IsHp.nil _, rfl, fun j => ?_, nofun, List.nodup_nil, Nat.zero_le _⟩, l1, nofun, b1', l0, nofun, fun p pb bb ends hp => by simp at hp, fun g hg => l4 g (by omega)⟩, fun _ => Iff.rfl⟩,
    ⟨o2.1, o2.2.1, o2.2.2, by omega, fun g hg _ => (k2 g (by omega)).trans (k1.out g hg), fun g hg _ hx => hx (l4 g (by omega))⟩⟩
  simp [ids]
  omega
section
variable {w : World} {F Ft Fp Fh : Nat → Prop} {c : Sy} {s : St}
theorem SysR.grown {w' : World} (h : SysR w Ft Fp Fh c s) (hg : w.grownBy w' none) : SysR w' Ft Fp Fh c s := h.keep hg.size fun g hg' => hg.block g (h.lt hg') (by simp)
theorem sys_File_w (h : Sys w F c s) (hxs : s.xs = []) (htop : s.top < 100000) {n : Int} {y : Pn} (hy : look s.nds n = some y) (hyk : y.kind = 2) (hyh : y.holds ≤ 1000000) (hyl : nmsLen y ≤ 1000000) (m : Bool) :
    Calls Tryz.prog 34 #[ptrV c.tb, .int .i64 n, .agg #[.bool false, .bool true, .bool m]] w fun e w' => e = .returned (.tuple #[.int .i64 ((s.top + 1 : Nat) : Int), .int .i64 0]) ∧
      ∃ F', Sys w' F' c { s with nds := upd s.nds n { y with holds := y.holds + 1 }, hs := s.hs ++ [(((s.top + 1 : Nat) : Int), ⟨1, .file n 0 false true m⟩)], top := s.top + 1, xs := [] } ∧ Chg F F' w w' := by
  obtain ⟨Ft, Fp, Fh, h, hF⟩ := h
  have g1 : w.grownBy (w.alloc (.cells #[.bool false, .bool true, .bool m] 38)) none := World.grownBy_alloc w _ _
  have b1 : Blk (w.alloc (.cells #[.bool false, .bool true, .bool m] 38)) w.heap.size [.bool false, .bool true, .bool m] 38 := Blk.new w _ _
  have hzF : ¬ foot Ft Fp Fh w.heap.size := fun hf => absurd (h.lt hf) (Nat.lt_irrefl _)
  unfold ptrV
  go_enter Tryz.func34, Tryz.ntmps34
  go_upto_region 1 with fail
  obtain ⟨z, hz⟩ : ∃ z, w.heap.size = z := ⟨_, rfl⟩
  generalize w.alloc (.cells #[.bool false, .bool true, .bool m] 38) = w1 at g1 b1 ⊢
  simp only [hz] at b1 hzF ⊢
  replace hz := Lib.hid hz
  have h1 := h.grown g1
  have c1 := Chg.of_grown g1 (foot Ft Fp Fh)
  obtain ⟨lab, mb, mem, v, ht1, hFh1⟩ := h1.tab
  obtain ⟨labt, mbt, memt, hT1, hFt1⟩ := h1.tree
  have hi := isNil_no ht1
  have hst := stat_some hT1 hy hyl
  have t0 := ht1.num.at_.blk.cell (i := 0) rfl
  have tl1 := ht1.num.at_.blk.lt
  unfold ptrV at hi t0
  unfold infoOf at hst
  rw [hyk] at hst
  replace hst := Lib.hid hst
  replace h1 := Lib.hid h1
  replace c1 := Lib.hid c1
  clear h g1 hT1 hFt1
  go_wp2_with fail
  refine hi.mono ?_
  rintro e w' ⟨rfl, hw⟩
  obtain rfl := hw.symm
  clear hi hw
  go_wp2_with fail
  refine hst.out.mono ?_
  rintro e w2 ⟨rfl, g2⟩
  have h2 := h1.out.grown g2
  have c2 := c1.out.trans (Chg.of_grown g2 (foot Ft Fp Fh))
  have b2 : Blk w2 z [.bool false, .bool true, .bool m] 38 := (g2.block z b1.lt (by simp)).trans b1
  have tl2 := g2.size
  generalize (y.data.length + nmsLen y : Nat) = sz
  generalize y.named = nd
  replace h2 := Lib.hid h2
  replace c2 := Lib.hid c2
  replace b2 := Lib.hid b2
  clear hst h1 c1 g2 t0 b1
  go_upto_region 4 with fail
  have g3 : w2.grownBy (w2.alloc (.cells #[.int .i64 2, .int .i64 (sz : Int), .int .i64 (nd : Int), .int .i64 (y.holds : Int)] 68)) none := World.grownBy_alloc w2 _ _
  have i3 : Blk (w2.alloc (.cells #[.int .i64 2, .int .i64 (sz : Int), .int .i64 (nd : Int), .int .i64 (y.holds : Int)] 68)) w2.heap.size [.int .i64 2, .int .i64 (sz : Int), .int .i64 (nd : Int), .int .i64 (y.holds : Int)] 68 := Blk.new w2 _ _
  generalize w2.alloc (.cells #[.int .i64 2, .int .i64 (sz : Int), .int .i64 (nd : Int), .int .i64 (y.holds : Int)] 68) = w3 at g3 i3 ⊢
  generalize w2.heap.size = zi at i3 ⊢
  have h3 := h2.out.grown g3
  have c3 := c2.out.trans (Chg.of_grown g3 (foot Ft Fp Fh))
  have b3 : Blk w3 z [.bool false, .bool true, .bool m] 38 := (g3.block z b2.out.lt (by simp)).trans b2.out
  obtain ⟨lab3, mb3, mem3, v3, ht3, hFh3⟩ := h3.tab
  have t0 := ht3.num.at_.blk.cell (i := 0) rfl
  have tl3 := ht3.num.at_.blk.lt
  have i30 := i3.cell (i := 0) rfl
  have m0 := Blk.cell (w := w3) (b := z) (i := 0) b3 rfl
  have m1 := Blk.cell (w := w3) (b := z) (i := 1) b3 rfl
  have m2 := Blk.cell (w := w3) (b := z) (i := 2) b3 rfl
  have hho := hold_some h3.tree hy hyh
  unfold ptrV at t0
  replace h3 := Lib.hid h3
  replace c3 := Lib.hid c3
  replace b3 := Lib.hid b3
  replace hho := Lib.hid hho
  clear h2 c2 b2 g3 i3 ht3 ht1
  go_upto_region 10 with fail
  go_wp2_with fail
  refine hho.out.mono ?_
  rintro e w4 ⟨rfl, Ft4, hT4, hC4⟩
  obtain ⟨h4, c4⟩ := h3.out.treeStep hT4 hC4
  have b4 : Blk w4 z _ _ := b3.out.chg c4 hzF
  have m0 := b4.cell (i := 0) rfl
  have m1 := b4.cell (i := 1) rfl
  have m2 := b4.cell (i := 2) rfl
  have hz4 := b4.lt
  obtain ⟨lab4, mb4, mem4, v4, ht4, hFh4⟩ := h4.tab
  have t0 := ht4.num.at_.blk.cell (i := 0) rfl
  have tl4 := ht4.num.at_.blk.lt
  unfold ptrV at t0
  have g6 : w4.grownBy ((w4.alloc (.cells #[.pointer (some ⟨c.fb, 0, none⟩), .int .i64 n, .int .i64 0, .bool false, .bool true, .bool m] 162)).drew) none := grownBy_drewN (World.grownBy_alloc w4 _ _) 1
  have h6 := h4.grown g6
  have b6 : Blk ((w4.alloc (.cells #[.pointer (some ⟨c.fb, 0, none⟩), .int .i64 n, .int .i64 0, .bool false, .bool true, .bool m] 162)).drew) w4.heap.size (fileC c.fb n 0 false true m) 162 := Blk.new w4 _ _
  have c6 : Chg (foot Ft4 Fp Fh) (fun g => foot Ft4 Fp Fh g ∨ g = w4.heap.size) w4 ((w4.alloc (.cells #[.pointer (some ⟨c.fb, 0, none⟩), .int .i64 n, .int .i64 0, .bool false, .bool true, .bool m] 162)).drew) := (Chg.alloc _ w4 _).trans (Chg.drewN _ _ 1)
  have ht6 : TabF ((w4.alloc (.cells #[.pointer (some ⟨c.fb, 0, none⟩), .int .i64 n, .int .i64 0, .bool false, .bool true, .bool m] 162)).drew) Fh c.fb c.plb c.tb s.hs s.pp s.top [] := by rw [← hxs]; exact h6.tab
  have hG : ∀ g, g = w4.heap.size → g < ((w4.alloc (.cells #[.pointer (some ⟨c.fb, 0, none⟩), .int .i64 n, .int .i64 0, .bool false, .bool true, .bool m] 162)).drew).heap.size ∧ ¬ Fh g := fun g hg => ⟨by rw [hg]; exact b6.lt, fun hf => absurd (h4.tab.lt hf) (by omega)⟩
  have hG2 : ∀ g, g = w4.heap.size → ¬ Ft4 g ∧ ¬ Fp g := fun g hg => ⟨fun hf => absurd (h4.tree.lt hf) (by omega), fun hf => absurd (h4.pool.lt hf) (by omega)⟩
  have hadd := tab_add ht6 (fun g => g = w4.heap.size) hG htop (.file n 0 false true m) w4.heap.size (fun w' lab' hg kb => ⟨(hg _ rfl).1.trans b6, (hg _ rfl).2⟩)
  have hend := fun w7 F7 (hT7 : TabF w7 F7 c.fb c.plb c.tb (s.hs ++ [(((s.top + 1 : Nat) : Int), ⟨1, .file n 0 false true m⟩)]) s.pp (s.top + 1) []) hC7 => Sys.of hF (h6.tabStep hG2 hT7 hC7).1 (((c3.out.trans c4).trans c6).trans (h6.tabStep hG2 hT7 hC7).2)
  have hkeep := fun w7 F7 (hT7 : TabF w7 F7 c.fb c.plb c.tb (s.hs ++ [(((s.top + 1 : Nat) : Int), ⟨1, .file n 0 false true m⟩)]) s.pp (s.top + 1) []) (hC7 : Chg (fun g => Fh g ∨ g = w4.heap.size) F7 ((w4.alloc (.cells #[.pointer (some ⟨c.fb, 0, none⟩), .int .i64 n, .int .i64 0, .bool false, .bool true, .bool m] 162)).drew) w7) => show w7.cell? ⟨c.tb, 0, none⟩ = some (.pointer (some ⟨c.fb, 0, none⟩)) ∧ w7.cell? ⟨z, 0, none⟩ = some (.bool false) ∧ w7.cell? ⟨z, 1, none⟩ = some (.bool true) ∧ w7.cell? ⟨z, 2, none⟩ = some (.bool m) by
    obtain ⟨_, _, _, _, htt, _⟩ := hT7
    have bz : Blk w7 z [.bool false, .bool true, .bool m] 38 := by
      refine (hC7.block z (Nat.lt_of_lt_of_le hz4 g6.size) fun hf => ?_).trans ((g6.block z hz4 (by simp)).trans b4)
      rcases hf with hf | hf
      · exact hzF (.inr (.inr hf))
      · omega
    exact ⟨htt.num.at_.blk.cell (i := 0) rfl, bz.cell (i := 0) rfl, bz.cell (i := 1) rfl, bz.cell (i := 2) rfl⟩
  replace hend := Lib.hid hend
  replace hkeep := Lib.hid hkeep
  replace hadd := Lib.hid hadd
  clear hho h3 c3 hT4 hC4 h4 c4 b3 b4 i30 tl2 tl1 tl3 h6 b6 c6 ht6 hG hG2 g6
  go_upto_region 11 with fail
  clear ht4
  go_region_held3 (fun w' => w'.cell? ⟨c.tb, 0, none⟩ = some (.pointer (some ⟨c.fb, 0, none⟩)) ∧ w'.cell? ⟨z, 0, none⟩ = some (.bool false) ∧ w'.cell? ⟨z, 1, none⟩ = some (.bool true) ∧ w'.cell? ⟨z, 2, none⟩ = some (.bool m))
    (first | go_keep | exact hk)
    ((go_at_call 92; refine hadd.out.mono ?_; rintro e w7 ⟨rfl, F7, hT7, hC7⟩; have hk := hkeep.out w7 F7 hT7 hC7))
  have hres := hend.out w7 F7 hT7 hC7
  replace hres := Lib.hid hres
  go_wp2
  go_ret2
  exact ⟨rfl, hres.out⟩
theorem sys_Pipe (h : Sys w F c s) (hxs : s.xs = []) (htop : s.top < 99999) (hn : s.es.length ≤ 1000000) :
    Calls Tryz.prog 38 #[ptrV c.tb] w fun e w' => e = .returned (.tuple #[.int .i64 ((s.top + 1 : Nat) : Int), .int .i64 ((s.top + 2 : Nat) : Int), .int .i64 0]) ∧
      ∃ F' pb bb, Sys w' F' c { s with es := s.es ++ [(bb, some ⟨[], 0, c.M, .slice none 0 0, .slice none 0 0, []⟩)], pp := s.pp ++ [(pb, bb, 2)], hs := s.hs ++ [(((s.top + 1 : Nat) : Int), ⟨1, .rd s.pp.length⟩)] ++ [(((s.top + 2 : Nat) : Int), ⟨1, .wr s.pp.length⟩)], top := s.top + 2, xs := [] } ∧ Chg F F' w w' := by
  obtain ⟨Ft, Fp, Fh, h, hF⟩ := h
  obtain ⟨lab, mb, mem, v, ht, hFh⟩ := h.tab
  have hi := isNil_no ht
  have hop := allF_open h.pool hn
  have t1 := ht.num.at_.blk.cell (i := 1) rfl
  have tl := ht.num.at_.blk.lt
  unfold ptrV at hi t1 ⊢
  replace hop := Lib.hid hop
  clear ht
  go_enter Tryz.func38, Tryz.ntmps38
  go_wp2_with fail
  refine hi.mono ?_
  rintro e w' ⟨rfl, hw⟩
  obtain rfl := hw.symm
  clear hi hw
  go_wp2_with fail
  refine hop.out.mono ?_
  rintro e w1 ⟨rfl, ⟨Fp', hA1, hC1, hbb⟩, hs1⟩
  generalize hbbe : w.heap.size = bb at hA1 hbb hs1 ⊢
  obtain ⟨h1, c1⟩ := h.poolStep hA1 hC1
  have g2 : w1.grownBy (w1.alloc (.cells #[.pointer (some ⟨bb, 0, none⟩), .int .i64 2] 167)) none := World.grownBy_alloc w1 _ _
  have b2 : Blk (w1.alloc (.cells #[.pointer (some ⟨bb, 0, none⟩), .int .i64 2] 167)) w1.heap.size [ptrV bb, .int .i64 ((2 : Nat) : Int)] 167 := Blk.new w1 _ _
  have c2 := Chg.alloc (foot Ft Fp' Fh) w1 (.cells #[.pointer (some ⟨bb, 0, none⟩), .int .i64 2] 167)
  replace h1 := Lib.hid h1
  replace c1 := Lib.hid c1
  replace g2 := Lib.hid g2
  replace b2 := Lib.hid b2
  replace c2 := Lib.hid c2
  replace hop := Lib.hid trivial
  clear h hC1 hA1 t1 hs1
  go_upto_region 4 with fail
  generalize w1.alloc (.cells #[.pointer (some ⟨bb, 0, none⟩), .int .i64 2] 167) = w2 at g2 b2 c2 ⊢
  have hpbf : ∀ g, g = w1.heap.size → ¬ Ft g ∧ ¬ Fp' g ∧ ¬ Fh g := fun g hg => ⟨fun hf => absurd (h1.out.tree.lt hf) (by omega), fun hf => absurd (h1.out.pool.lt hf) (by omega), fun hf => absurd (h1.out.tab.lt hf) (by omega)⟩
  generalize w1.heap.size = pb at b2 c2 hpbf ⊢
  have h2 := h1.out.grown g2.out
  obtain ⟨lab2, mb2, mem2, v2, ht2, hFh2⟩ := h2.tab
  have hlpb : lab2 pb = .free := Classical.byContradiction fun hne => (hpbf pb rfl).2.2 ((hFh2 pb).2 hne)
  obtain ⟨Fh3, hT3, hC3⟩ := ht2.pipes (S := fun _ => False) (S' := fun _ => False) (w2 := w2) (pp' := s.pp ++ [(pb, bb, 2)]) (lab' := fun g => if g = pb then .pipe s.pp.length else lab2 g) hFh2 (fun g => g = pb) (Chg.refl _ w2) nofun
    (fun g _ hg => if_neg fun e => hg (by rw [e]; exact hlpb)) (fun g _ hg hne => by show (if g = pb then _ else _) = _; rw [if_neg hne]; exact hg) (fun g hg => by
      have := b2.out.lt
      show (if g = pb then _ else _) = _
      rw [if_neg (by omega)]
      exact ht2.new g hg) (by simp) (fun p hp => by unfold pipeB; rw [List.getD_eq_getElem?_getD, List.getD_eq_getElem?_getD, List.getElem?_append_left hp]) (fun p pb' bb' ends hp => by
      rw [List.getElem?_append] at hp
      split at hp
      · obtain ⟨q1, q2⟩ := ht2.pi p pb' bb' ends hp
        refine ⟨q1, ?_⟩
        show (if pb' = pb then _ else _) = _
        rw [if_neg fun e => by rw [e, hlpb] at q2; cases q2]
        exact q2
      · rename_i hp0
        obtain ⟨hp1, hp⟩ := List.getElem?_eq_some_iff.1 hp
        have hp2 : p = s.pp.length := by simp at hp1; omega
        subst hp2
        simp at hp
        obtain ⟨rfl, rfl, rfl⟩ := hp
        exact ⟨b2.out, if_pos rfl⟩)
  obtain ⟨h3, c3⟩ := h2.tabStep (G := fun g => g = pb) (fun g hg => ⟨(hpbf g hg).1, (hpbf g hg).2.1⟩) hT3 hC3
  have c4 := (c1.out.trans c2.out).trans c3
  have ht4 : TabF w2 Fh3 c.fb c.plb c.tb s.hs (s.pp ++ [(pb, bb, 2)]) s.top [] := by rw [← hxs]; exact h3.tab
  have hpl : s.pp.length < (s.pp ++ [(pb, bb, 2)]).length := by simp
  have hpbb : pipeB (s.pp ++ [(pb, bb, 2)]) s.pp.length = pb := by unfold pipeB; simp
  have hadd1 := tab_add ht4 (fun _ => False) nofun (by omega) (.rd s.pp.length) 0 (fun w' lab' hg kb => hpl)
  rw [show doesV (s.pp ++ [(pb, bb, 2)]) (.rd s.pp.length) 0 = .iface 169 (.agg #[ptrV pb]) by show Value.iface _ (.agg #[ptrV (pipeB _ _)]) = _; rw [hpbb]] at hadd1
  unfold ptrV at hadd1
  replace hadd1 := Lib.hid hadd1
  replace h3 := Lib.hid h3
  replace c4 := Lib.hid c4
  clear ht4 hT3 hC3 ht2 h2 h1 c1 c2 c3 b2 g2
  go_wp2_with fail
  refine hadd1.out.mono ?_
  rintro e w5 ⟨rfl, Fh5, hT5, hC5⟩
  obtain ⟨h5, c5⟩ := h3.out.tabStep (G := fun _ => False) nofun hT5 hC5
  have c6 := c4.out.trans (c5.mono (G := foot Ft Fp' Fh3) (fun b hb => hb.elim id False.elim) fun b _ hb => .inl hb)
  have hadd2 := tab_add hT5 (fun _ => False) nofun (by omega) (.wr s.pp.length) 0 (fun w' lab' hg kb => hpl)
  rw [show doesV (s.pp ++ [(pb, bb, 2)]) (.wr s.pp.length) 0 = .iface 170 (.agg #[ptrV pb]) by show Value.iface _ (.agg #[ptrV (pipeB _ _)]) = _; rw [hpbb]] at hadd2
  unfold ptrV at hadd2
  replace hadd2 := Lib.hid hadd2
  replace h5 := Lib.hid h5
  replace c6 := Lib.hid c6
  clear hadd1 h3 c4 c5 hT5 hC5
  go_wp2_with fail
  refine hadd2.out.mono ?_
  rintro e w7 ⟨rfl, Fh7, hT7, hC7⟩
  obtain ⟨h7, c7⟩ := h5.out.tabStep (G := fun _ => False) nofun hT7 hC7
  have c8 := c6.out.trans (c7.mono (G := foot Ft Fp' Fh5) (fun b hb => hb.elim id False.elim) fun b _ hb => .inl hb)
  have hres := Sys.of hF h7 c8
  replace hres := Lib.hid hres
  clear hadd2 h5 c6 c7 hT7 hC7 h7 c8
  go_wp2
  obtain ⟨F', h8, h9⟩ := hres.out
  exact bodyPost_ret (v := .tuple #[.int .i64 ((s.top + 1 : Nat) : Int), .int .i64 ((s.top + 2 : Nat) : Int), .int .i64 0]) (by simp [results, Tryz.results38, go_sem]; omega) rfl ⟨rfl, F', pb, bb, h8, h9⟩
end
end Go.Proofs.YtfofpphnglhopaaGreatDoor
