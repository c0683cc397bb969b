/-
  A node that nothing keeps alive goes: sweep and Drop in all ways. Conditions: at most a million holds.
-/
import Derived.Test.YtbjakhiflgjflaaGreatDoorNdSmall
namespace Go.Proofs.YtbjakhiflgjflaaGreatDoor
open Go Go.RowKit Go.ChangeMaps

section
variable {κ α : Type} [DecidableEq κ]
def away (l : List (κ × α)) (k : κ) : List (κ × α) := l.filter fun p => p.1 ≠ k
theorem look_away (l : List (κ × α)) (k j : κ) : look (away l k) j = if j = k then none else look l j := by
  induction l with
  | nil => show none = _; split <;> rfl
  | cons p l ih =>
    by_cases hp : p.1 = k
    · have e : away (p :: l) k = away l k := List.filter_cons_of_neg (by simpa using hp)
      rw [e, ih]
      by_cases hj : j = k
      · rw [if_pos hj, if_pos hj]
      · rw [if_neg hj, if_neg hj]
        show _ = if p.1 = j then some p.2 else look l j
        rw [if_neg (fun e => hj (e.symm.trans hp))]
    · have e : away (p :: l) k = p :: away l k := List.filter_cons_of_pos (by simpa using hp)
      rw [e]
      show (if p.1 = j then some p.2 else look (away l k) j) = if j = k then none else if p.1 = j then some p.2 else look l j
      rw [ih]
      by_cases hj : j = k
      · subst hj
        rw [if_neg hp, if_pos rfl, if_pos rfl]
      · rw [if_neg hj, if_neg hj]
theorem total_away {f : α → Nat} {l : List (κ × α)} {k : κ} {x : α} (hd : l.Pairwise (fun p q => p.1 ≠ q.1)) (h : look l k = some x) : total f (away l k) + f x = total f l := by
  induction l with
  | nil => cases h
  | cons p l ih =>
    have hd' := (List.pairwise_cons.1 hd).2
    have hd1 := (List.pairwise_cons.1 hd).1
    by_cases hp : p.1 = k
    · have hx : p.2 = x := by
        have : (if p.1 = k then some p.2 else look l k) = some x := h
        rw [if_pos hp] at this
        exact Option.some.inj this
      have e : away (p :: l) k = l := by
        show List.filter _ _ = _
        rw [List.filter_cons_of_neg (by simpa using hp)]
        exact List.filter_eq_self.2 fun q hq => by simpa using fun e => hd1 q hq (hp.trans e.symm)
      rw [e, ← hx]
      show total f l + f p.2 = f p.2 + total f l
      omega
    · have hx : look l k = some x := by
        have : (if p.1 = k then some p.2 else look l k) = some x := h
        rwa [if_neg hp] at this
      have e : away (p :: l) k = p :: away l k := List.filter_cons_of_pos (by simpa using hp)
      rw [e]
      show f p.2 + total f (away l k) + f x = f p.2 + total f l
      have := ih hd' hx
      omega
theorem total_away_none {f : α → Nat} {l : List (κ × α)} {k : κ} (h : look l k = none) : total f (away l k) = total f l := by
  have : away l k = l := List.filter_eq_self.2 fun p hp => by simpa using look_none.1 h p hp
  rw [this]
theorem away_len (l : List (κ × α)) (k : κ) : (away l k).length ≤ l.length := List.length_filter_le _ _
end
section
variable {w : World} {lab : Nat → TL} {F : Nat → Prop} {fb most room mb : Nat} {nds : Nds} {mem : Int → NM}
theorem entN_away (mem : Int → NM) (nds : Nds) (k : Int) : entN mem (away nds k) = (entN mem nds).filter fun p => p.1 ≠ k := by
  unfold entN away
  rw [List.filter_map]
  rfl
theorem TreeR.away {w2 : World} {k : Int} {x : Pn} (h : TreeR w lab fb most room nds mb mem) (hF : ∀ g, F g ↔ lab g ≠ .free) (hx : look nds k = some x) (c : Chg (fun g => g = fb ∨ g = mb) (fun g => g = fb ∨ g = mb) w w2)
    (hfs : Blk w2 fb [.map (some mb), .int .i64 (most : Int), .int .i64 (room : Int), .int .i64 ((usedN nds - x.data.length : Nat) : Int)] 176) (hmap : KMap w2 mb (.int .i64) encI ((entN mem nds).filter fun p => p.1 ≠ k)) :
    ∃ F', TreeF w2 F' fb most room (Proofs.YtbjakhiflgjflaaGreatDoor.away nds k) ∧ Chg F F' w w2 := by
  have hu := total_away (f := fun x : Pn => x.data.length) h.apart hx
  have hlim := h.lim
  unfold usedN at hlim
  refine ⟨F, ⟨lab, mb, mem, ⟨?_, h.lfs, ?_, h.lmap, fun j z hz => ?_, fun g hg => h.new g (Nat.le_trans c.size hg), hlim.1, hlim.2.1, ?_⟩, hF⟩, c.mono (fun b hb => (hF b).2 ?_) (fun b hb hf => .inr hf)⟩
  · have e : usedN (Proofs.YtbjakhiflgjflaaGreatDoor.away nds k) = usedN nds - x.data.length := by unfold usedN; omega
    rw [e]
    exact hfs
  · rw [entN_away]
    exact hmap
  · rw [look_away] at hz
    split at hz
    · cases hz
    · refine (h.nd j z hz).keep fun g hg ho => ⟨c.block g hg fun hs => ?_, rfl⟩
      rcases hs with rfl | rfl
      · rw [h.lfs] at ho; exact ho
      · rw [h.lmap] at ho; exact ho
  · show usedN (Proofs.YtbjakhiflgjflaaGreatDoor.away nds k) ≤ room
    unfold usedN
    omega
  · rcases hb with rfl | rfl
    · rw [h.lfs]; exact nofun
    · rw [h.lmap]; exact nofun
set_option maxHeartbeats 1000000 in
set_option maxRecDepth 100000 in
theorem sweep_gone (h : TreeF w F fb most room nds) {k : Int} {x : Pn} (hx : look nds k = some x) (h1 : k ≠ 1) (h2 : x.named = 0) (h3 : x.holds = 0) :
    Calls Tryz.prog 131 #[.pointer (some ⟨fb, 0, none⟩), .int .i64 k] w fun e w' => e = .returned (.tuple #[]) ∧ ∃ F', TreeF w' F' fb most room (away nds k) ∧ Chg F F' w w' := by
  obtain ⟨lab, mb, mem, h, hF⟩ := h
  have hfi := h.find_some hx
  have hN := h.nd k x hx
  have f0 := h.fs.cell (i := 0) rfl
  have f3 := h.fs.cell (i := 3) rfl
  have fr3 := h.fs.frozen 3
  have c1 := hN.blk.cell (show (bodyC x (mem k))[1]? = some _ from rfl)
  have c2 := hN.blk.cell (show (bodyC x (mem k))[2]? = some _ from rfl)
  have c3 := hN.blk.cell (show (bodyC x (mem k))[3]? = some _ from rfl)
  rw [h2] at c1
  rw [h3] at c2
  obtain ⟨A, cc, hdv, hcc, hcm⟩ := hN.data.form
  rw [hdv] at c3
  have hlt := hN.blk.lt
  have hfl := h.fs.lt
  have hge := total_ge (f := fun x : Pn => x.data.length) hx
  have hlim := h.lim
  have hmf : mb ≠ fb := fun e => by have := h.lmap; rw [e, h.lfs] at this; cases this
  have hkf : (mem k).blk ≠ fb := fun e => by have := hN.lb; rw [e, h.lfs] at this; cases this
  have hd4 := hN.few
  have haw := fun w2 => h.away (w2 := w2) hF hx
  have hb1 := h.fs.set 3 (.int .i64 ((usedN nds - x.data.length : Nat) : Int))
  have hkm := h.map
  have e1 : ((usedN nds - x.data.length : Nat) : Int) = (usedN nds : Int) - (x.data.length : Int) := by unfold usedN at *; omega
  rw [e1] at hb1 haw
  have hkm1 : KMap (w.setCell ⟨fb, 3, none⟩ (.int .i64 ((usedN nds : Int) - (x.data.length : Int)))).drew mb (.int .i64) encI (entN mem nds) := hkm.keep (heap_setCell_other w _ mb _ hmf)
  have cc1 : Chg (fun g => g = fb ∨ g = mb) (fun g => g = fb ∨ g = mb) w (w.setCell ⟨fb, 3, none⟩ (.int .i64 ((usedN nds : Int) - (x.data.length : Int)))).drew := (Chg.set (F := fun g => g = fb ∨ g = mb) (.inl rfl) 3 _).trans (Chg.drewN _ _ 1)
  have hub : usedN nds ≤ 1048576 := by omega
  replace hb1 : Blk (w.setCell ⟨fb, 3, none⟩ (.int .i64 ((usedN nds : Int) - (x.data.length : Int)))).drew fb [.map (some mb), .int .i64 (most : Int), .int .i64 (room : Int), .int .i64 ((usedN nds : Int) - (x.data.length : Int))] 176 := hb1
  have f0' := hb1.cell (i := 0) rfl
  have hfl' := hb1.lt
  generalize (mem k).blk = kb at hfi c1 c2 c3 hlt hkf
  generalize usedN nds = U at *
  generalize x.data.length = D at *
  have i1 : (k == 1) = false := by simpa using h1
  replace haw := Lib.hid haw
  replace hb1 := Lib.hid hb1
  replace cc1 := Lib.hid cc1
  clear h hN hx hF hdv e1 hge hlim h1 h2 h3 hkm
  go_enter Tryz.func131, Tryz.ntmps131
  go_wp2
  go_region
  clear f0 f3 fr3 c1 c2 c3 hfi
  generalize (w.setCell ⟨fb, 3, none⟩ _).drew = w1 at *
  go_wp2_with (at_delete; go_loud (refine wpList_del_k rfl _ _ 174 3 rfl 131 keyI Tryz.underlying174 Tryz.underlying3 rfl hkm1 k rfl ?_); intro ob2 hkm2; refine Hid.out ?_)
  refine Lib.hid ?_
  have hfin := haw.out _ (cc1.out.trans (Chg.setB (.inr rfl) ob2)) (hb1.out.setB (Ne.symm hmf) ob2) hkm2
  replace hfin := Lib.hid hfin
  clear hkm1 hkm2
  generalize setBlock w1 mb ob2 = w3 at hfin ⊢
  go_wp2
  go_end0
  exact ⟨rfl, hfin.out⟩
def droppedN (nds : Nds) (k : Int) (x : Pn) : Nds := if k = 1 ∨ 0 < x.named ∨ 1 < x.holds then upd nds k { x with holds := x.holds - 1 } else away nds k
theorem away_upd (nds : Nds) (k : Int) (y : Pn) : away (upd nds k y) k = away nds k := by
  induction nds with
  | nil => rfl
  | cons p l ih =>
    unfold upd away at *
    rw [List.map_cons]
    by_cases hp : p.1 = k
    · rw [if_pos hp, List.filter_cons_of_neg (by simp), List.filter_cons_of_neg (by simpa using hp)]
      exact ih
    · rw [if_neg hp, List.filter_cons_of_pos (by simpa using hp), List.filter_cons_of_pos (by simpa using hp), ih]
set_option maxHeartbeats 1000000 in
set_option maxRecDepth 100000 in
theorem drop_any (h : TreeF w F fb most room nds) {k : Int} {x : Pn} (hx : look nds k = some x) (hh : 0 < x.holds) (hm : x.holds ≤ 1000000) :
    Calls Tryz.prog 156 #[.pointer (some ⟨fb, 0, none⟩), .int .i64 k] w fun e w' => e = .returned (.int .i64 0) ∧ ∃ F', TreeF w' F' fb most room (droppedN nds k x) ∧ Chg F F' w w' := by
  by_cases hl : k = 1 ∨ 0 < x.named ∨ 1 < x.holds
  · unfold droppedN
    rw [if_pos hl]
    exact drop_some h hx hh hm hl
  · unfold droppedN
    rw [if_neg hl]
    obtain ⟨lab, mb, mem, h, hF⟩ := h
    have hb := body_some h hx
    have hN := h.nd k x hx
    have c2 := hN.blk.cell (show (bodyC x (mem k))[2]? = some _ from rfl)
    have hf := hN.blk.frozen 2
    have hlt := hN.blk.lt
    have hH : x.holds = 1 := by omega
    have hs := h.set1 hF hx 2 (.int .i64 ((0 : Nat) : Int)) (y := { x with holds := 0 }) rfl rfl rfl
    obtain ⟨F1, hT, hC⟩ := hs
    have hsw := sweep_gone hT (look_upd_same hx _) (fun e => hl (.inl e)) (show x.named = 0 by omega) rfl
    rw [away_upd] at hsw
    rw [hH] at c2
    generalize (mem k).blk = kb at hb c2 hf hlt hT hC hsw
    replace hC := Lib.hid hC
    replace hsw := Lib.hid hsw
    clear h hN hx hF hl hh hH hm hT
    go_enter Tryz.func156, Tryz.ntmps156
    go_wp2_with fail
    refine hb.mono ?_
    rintro e w' ⟨rfl, hw⟩
    obtain rfl := hw.symm
    clear hb hw
    go_wp2_with fail
    refine hsw.out.mono ?_
    rintro e w' ⟨rfl, F', h1, h2⟩
    have h3 := hC.out.trans h2
    replace h1 := Lib.hid h1
    replace h3 := Lib.hid h3
    clear hsw h2 hC
    go_wp2
    go_ret
    exact ⟨rfl, F', h1.out, h3.out⟩
theorem drop_none (h : TreeR w lab fb most room nds mb mem) {k : Int} (hx : look nds k = none) :
    Calls Tryz.prog 156 #[.pointer (some ⟨fb, 0, none⟩), .int .i64 k] w fun e w' => e = .returned (.int .i64 10) ∧ w' = w := by
  have hb := body_none h hx
  replace hb := Lib.hid hb
  clear h hx
  go_enter Tryz.func156, Tryz.ntmps156
  go_wp2_with fail
  refine hb.out.mono ?_
  rintro e w' ⟨rfl, hw⟩
  obtain rfl := hw.symm
  go_wp2
  go_ret
  exact ⟨rfl, rfl⟩
end
end Go.Proofs.YtbjakhiflgjflaaGreatDoor
