/-
  A part. Conditions: each theorem's own.
-/
import Derived.Handy
import Derived.Deep.MidRow
import Derived.Deep.AppendLies
import Derived.Test.YtfofpphnglhopaaGreatDoorZb10
import Derived.Test.YtfofpphnglhopaaGreatDoorZb14
import Derived.Test.YtfofpphnglhopaaGreatDoorZb15
import Derived.Test.YtfofpphnglhopaaGreatDoorZb16
import Derived.Test.YtfofpphnglhopaaGreatDoorZb17
import Derived.Test.YtfofpphnglhopaaGreatDoorZb18
set_option maxHeartbeats 8000000
set_option maxRecDepth 100000
namespace Go.Proofs.YtfofpphnglhopaaGreatDoor
open Go Go.RowKit Go.ChangeMaps
def inc (f : Int → Nat) (k : Int) : Int → Nat := fun j => if j = k then f j + 1 else f j
def dec (f : Int → Nat) (k : Int) : Int → Nat := fun j => if j = k then f j - 1 else f j
section
variable {w : World} {F : Nat → Prop} {c : Sy} {s : St} {ext : Ext} {B : Nat} {k : Int}
theorem op_UnrefT (h : Sys w F c s) (g : Good ext s) (b : Bnd s B) (hB : B ≤ 1000) (hx : ∀ n, ext n ≤ 100000) {x : Hd} (hk : look s.hs k = some x) :
    Calls Tryz.prog 37 #[ptrV c.tb, .int .i64 k] w fun e w' => e = .returned (.int .i64 0) ∧ ∃ F' s', Sys w' F' c s' ∧ Good ext s' ∧ Bnd s' B ∧ Chg F F' w w' ∧ s'.hs = unrefd s.hs k x ∧ (s'.nds = s.nds ∨ ∃ n y, look s.nds n = some y ∧ 0 < y.holds ∧ (0 < ext n → 1 < y.holds) ∧ s'.nds = droppedN s.nds n y) := by
  have hr := b.refs k x hk
  have hr1 := g.refs k x hk
  have htot := b.tot
  have hes := b.es
  have hpl := g.len
  unfold unrefd
  by_cases h2 : 2 ≤ x.refs
  · obtain ⟨r, hrr⟩ : ∃ r, x.refs = r + 2 := ⟨x.refs - 2, by omega⟩
    rw [if_neg (by omega)]
    refine (sys_Unref h hk hrr (by omega)).mono ?_
    rintro e w' ⟨rfl, F', h1, h2⟩
    have b' : Bnd { s with hs := upd s.hs k { x with refs := r + 1 } } B := ⟨b.tot, b.top, b.es, fun j z hz => by
      replace hz : look (upd s.hs k { x with refs := r + 1 }) j = some z := hz
      rw [look_upd] at hz
      split at hz
      · rw [hk] at hz
        obtain rfl := Option.some.inj hz
        show r + 1 ≤ B
        omega
      · exact b.refs j z hz⟩
    exact ⟨rfl, F', _, h1, g.ref h.hsd hk (Nat.succ_pos _), b', h2, by rw [hrr]; rfl, .inl rfl⟩
  · have h1 : x.refs = 1 := by omega
    rw [if_pos h1]
    obtain ⟨refs, kd⟩ := x
    cases kd with
    | file n a r wr m =>
      obtain ⟨⟨y, hy, hyk⟩, ha⟩ := g.file k _ hk n a r wr m rfl
      have hge := total_ge (f := nF n) hk
      have e1 : nF n (⟨refs, .file n a r wr m⟩ : Hd) = 1 := by unfold nF; simp
      have hho := g.holds n y hy
      refine (sys_last_fileG h hk h1 rfl hy (by omega) (g.few h b hB hx hy)).mono ?_
      rintro e w' ⟨rfl, F', top', xs', htp, h3, h4⟩
      exact ⟨rfl, F', _, h3, g.goneFile h.hsd hk rfl hy top' xs', b.less _ s.es s.pp rfl htp xs', h4, rfl, .inr ⟨n, y, hy, by omega, fun q => by omega, rfl⟩⟩
    | text T a =>
      refine (sys_last_text h hk h1 rfl).mono ?_
      rintro e w' ⟨rfl, F', top', xs', htp, h3, h4⟩
      exact ⟨rfl, F', _, h3, g.gone h.hsd hk (fun _ => rfl) (fun _ => rfl) (fun _ => rfl) top' xs', b.less s.nds s.es s.pp rfl htp xs', h4, rfl, .inl rfl⟩
    | sink l m =>
      refine (sys_last_sink h hk h1 rfl).mono ?_
      rintro e w' ⟨rfl, F', top', xs', htp, h3, h4⟩
      exact ⟨rfl, F', _, h3, g.gone h.hsd hk (fun _ => rfl) (fun _ => rfl) (fun _ => rfl) top' xs', b.less s.nds s.es s.pp rfl htp xs', h4, rfl, .inl rfl⟩
    | rd p =>
      have hp := g.pipe k _ hk p (.inl rfl)
      obtain ⟨⟨pb, bb, ends⟩, hpp⟩ : ∃ q, s.pp[p]? = some q := ⟨_, List.getElem?_eq_getElem hp⟩
      obtain ⟨q1, q2, q3, o, q4, q5⟩ := g.ends p pb bb ends hpp
      have hge := total_ge (f := nR p) hk
      have e1 : nR p (⟨refs, .rd p⟩ : Hd) = 1 := by unfold nR; simp
      by_cases h2 : ends = 2
      · subst h2
        refine (sys_last_rd1T h hk h1 rfl hpp).mono ?_
        rintro e w' ⟨rfl, F', top', xs', htp, h3, h4⟩
        exact ⟨rfl, F', _, h3, g.goneEnd h.hsd hk (.inl rfl) hpp (o' := o) (q5.trans (by simp)) (set_here q4) top' xs', b.less s.nds s.es _ rfl htp xs', h4, rfl, .inl rfl⟩
      · obtain rfl : ends = 1 := by omega
        obtain ⟨bf, rfl⟩ := Option.isSome_iff_exists.1 (q5.2 (Nat.one_pos))
        refine (sys_last_rd0T h hk h1 rfl hpp q4 (by omega) (by omega)).mono ?_
        rintro e w' ⟨rfl, F', top', xs', htp, h3, h4⟩
        exact ⟨rfl, F', _, h3, g.goneEnd h.hsd hk (.inl rfl) hpp (o' := none) (by simp) rfl top' xs', b.less s.nds _ _ (List.length_set ..) htp xs', h4, rfl, .inl rfl⟩
    | wr p =>
      have hp := g.pipe k _ hk p (.inr rfl)
      obtain ⟨⟨pb, bb, ends⟩, hpp⟩ : ∃ q, s.pp[p]? = some q := ⟨_, List.getElem?_eq_getElem hp⟩
      obtain ⟨q1, q2, q3, o, q4, q5⟩ := g.ends p pb bb ends hpp
      have hge := total_ge (f := nW p) hk
      have e1 : nW p (⟨refs, .wr p⟩ : Hd) = 1 := by unfold nW; simp
      by_cases h2 : ends = 2
      · subst h2
        refine (sys_last_wr1T h hk h1 rfl hpp).mono ?_
        rintro e w' ⟨rfl, F', top', xs', htp, h3, h4⟩
        exact ⟨rfl, F', _, h3, g.goneEnd h.hsd hk (.inr rfl) hpp (o' := o) (q5.trans (by simp)) (set_here q4) top' xs', b.less s.nds s.es _ rfl htp xs', h4, rfl, .inl rfl⟩
      · obtain rfl : ends = 1 := by omega
        obtain ⟨bf, rfl⟩ := Option.isSome_iff_exists.1 (q5.2 (Nat.one_pos))
        refine (sys_last_wr0T h hk h1 rfl hpp q4 (by omega) (by omega)).mono ?_
        rintro e w' ⟨rfl, F', top', xs', htp, h3, h4⟩
        exact ⟨rfl, F', _, h3, g.goneEnd h.hsd hk (.inr rfl) hpp (o' := none) (by simp) rfl top' xs', b.less s.nds _ _ (List.length_set ..) htp xs', h4, rfl, .inl rfl⟩
theorem total_zeroH {f : Hd → Nat} {hs : Hs} (h : ∀ p ∈ hs, f p.2 = 0) : total f hs = 0 := by
  have := total_le_const (f := f) (l := hs) (c := 0) fun p hp => by rw [h p hp]; exact Nat.le_refl _
  omega
theorem total_some {f : Hd → Nat} {hs : Hs} (h : 0 < total f hs) : ∃ p ∈ hs, 0 < f p.2 := by
  refine Decidable.byContradiction fun hn => ?_
  have := total_zeroH (f := f) (hs := hs) fun p hp => Decidable.byContradiction fun e => hn ⟨p, hp, by omega⟩
  omega
theorem Good.tree {D D' : Int → Nat} (g : Good ⟨D, 12⟩ s) {nds' : Nds} (ha : ∀ n y, look s.nds n = some y → 0 < total (nF n) s.hs → ∃ y', look nds' n = some y' ∧ y'.kind = y.kind)
    (hb : ∀ n y', look nds' n = some y' → y'.holds = total (nF n) s.hs + D' n ∧ nmsLen y' ≤ 100000 ∧ (y'.kind = 2 → y'.nms = none) ∧ 1 ≤ n ∧ n ≤ 12) : Good ⟨D', 12⟩ { s with nds := nds' } where
  file := fun j z hz n a r w m e => by
    obtain ⟨⟨y, h1, h2⟩, h3⟩ := g.file j z hz n a r w m e
    have q2 := total_ge (f := nF n) (l := s.hs) hz
    have q3 : nF n z = 1 := by unfold nF; rw [e]; simp
    obtain ⟨y', h4, h5⟩ := ha n y h1 (by omega)
    exact ⟨⟨y', h4, h5.trans h2⟩, h3⟩
  refs := g.refs
  holds := fun n y hy => (hb n y hy).1
  ends := g.ends
  len := g.len
  pipe := g.pipe
  nms := fun n y hy => ⟨(hb n y hy).2.1, (hb n y hy).2.2.1⟩
  num := fun n y hy => (hb n y hy).2.2.2
end
section
variable {w : World} {F : Nat → Prop} {c : Sy} {s : St} {R D : Int → Nat} {B : Nat} {k : Int}
theorem Sys.zero (h : Sys w F c s) : look s.hs 0 = none := by
  obtain ⟨Ft, Fp, Fh, h, hF⟩ := h
  obtain ⟨lab, mb, mem, v, ht, hFh⟩ := h.tab
  refine look_none.2 fun p hp e => ?_
  have := (ht.num.all 0).2 (.inl (by rw [← e]; exact List.mem_map.2 ⟨p, hp, rfl⟩))
  omega
theorem Inv.fileAt (I : Inv s R D B) (hd : s.hs.Pairwise (fun p q => p.1 ≠ q.1)) {n : Int} (h : 0 < total (nF n) s.hs) : ∃ y, look s.nds n = some y := by
  obtain ⟨p, hp, h1⟩ := total_some h
  have hl := look_of_mem hd (show (p.1, p.2) ∈ s.hs from hp)
  unfold nF at h1
  split at h1
  · rename_i m a r w q e
    by_cases hm : m = n
    · obtain ⟨⟨y, hy, _⟩, _⟩ := I.good.file p.1 p.2 hl m a r w q e
      exact ⟨y, by rw [← hm]; exact hy⟩
    · rw [if_neg hm] at h1; omega
  · omega
theorem Inv.stay (I : Inv s R D B) (h : Sys w F c s) {nds' : Nds} (T : TOk nds') (hs : Stay s.nds nds') (hl : nds'.length ≤ 12) (hn : ∀ n, look s.nds n = none → (∃ y', look nds' n = some y') → 1 ≤ n ∧ n ≤ 12) (hB : B ≤ 1000) : Inv { s with nds := nds' } R D (B + 1) := by
  have hpos : ∀ n y, look s.nds n = some y → 0 < total (nF n) s.hs + D n → 0 < y.holds := fun n y hy h0 => by have := I.good.holds n y hy; show 0 < y.holds; rw [this]; exact h0
  refine ⟨I.good.tree (fun n y hy h0 => ?_) fun n y' hy' => ?_, ⟨by have := I.bnd.tot; show s.tot ≤ _; omega, by have := I.bnd.top; show s.top ≤ _; omega, by have := I.bnd.es; show s.es.length ≤ _; omega, fun k x hx => by have := I.bnd.refs k x hx; omega⟩, I.ref, I.ex, fun n h0 => ?_, T, hl, fun k y hy => ?_, I.bs, I.nof⟩
  · obtain ⟨y', h1, h2, _⟩ := hs.up n y hy (hpos n y hy (by omega))
    exact ⟨y', h1, h2⟩
  · have hk2 : y'.kind = 2 → y'.nms = none := fun e => T.leaf n y' hy' (by omega)
    rcases hs.dn n y' hy' with ⟨y, h1, h2, h3, h4⟩ | ⟨h1, h2, h3, h4, h5⟩
    · have q := I.nms n y h1
      exact ⟨by rw [h3]; exact I.good.holds n y h1, by omega, hk2, I.good.num n y h1⟩
    · refine ⟨?_, by omega, hk2, hn n h1 ⟨y', hy'⟩⟩
      rw [h2]
      by_cases e : 0 < total (nF n) s.hs
      · obtain ⟨y, hy⟩ := I.fileAt h.hsd e
        rw [h1] at hy; cases hy
      · by_cases e2 : 0 < D n
        · obtain ⟨y, hy⟩ := I.dir n e2
          rw [h1] at hy; cases hy
        · omega
  · obtain ⟨y, hy⟩ := I.dir n h0
    obtain ⟨y', h1, _⟩ := hs.up n y hy (hpos n y hy (by omega))
    exact ⟨y', h1⟩
  · rcases hs.dn k y hy with ⟨z, h1, h2, h3, h4⟩ | ⟨h1, h2, h3, h4, h5⟩
    · have := I.nms k z h1
      omega
    · omega
theorem iRef (h : Sys w F c s) (I : Inv s R D B) (hB : B ≤ 1000) {x : Hd} (hx : look s.hs k = some x) :
    Calls Tryz.prog 35 #[ptrV c.tb, .int .i64 k] w fun e w' => e = .returned (.int .i64 0) ∧ Nxi (inc R k) D c (B + 1) F w w' := by
  have hr := I.bnd.refs k x hx
  refine (sys_Ref h hx (by omega)).mono ?_
  rintro e w' ⟨rfl, F', h1, h2⟩
  refine ⟨rfl, F', _, h1, ⟨I.good.ref h.hsd hx (Nat.succ_pos _), I.bnd.kd hx (by show x.refs + 1 ≤ _; omega), fun j z hz => ?_, fun j j0 hj => ?_, I.dir, I.tok, I.cnt, fun j y hy => Nat.le_trans (I.nms j y hy) (by omega), fun j => ?_, fun j z hz h4 n => ?_⟩, h2⟩
  · replace hz : look (upd s.hs k { x with refs := x.refs + 1 }) j = some z := hz
    rw [look_upd] at hz
    unfold inc
    split at hz
    · rename_i e
      rw [e] at *
      rw [hx] at hz
      obtain rfl := Option.some.inj hz
      rw [if_pos rfl, ← I.ref k x hx]
    · rename_i e
      rw [if_neg e]
      exact I.ref j z hz
  · show ∃ z, look (upd s.hs k _) j = some z
    rw [look_upd]
    by_cases e : j = k
    · rw [if_pos e, hx]; exact ⟨_, rfl⟩
    · rw [if_neg e]
      unfold inc at hj
      rw [if_neg e] at hj
      exact I.ex j j0 hj
  · have := I.bs j
    unfold inc
    split <;> omega
  · replace hz : look (upd s.hs k { x with refs := x.refs + 1 }) j = some z := hz
    rw [look_upd] at hz
    split at hz
    · rename_i e
      rw [hx] at hz
      obtain rfl := Option.some.inj hz
      exact I.nof k x hx (by rw [← e]; exact h4) n
    · exact I.nof j z hz h4 n
theorem dropped_tok {nds : Nds} (T : TOk nds) (hd : Apart nds) {n : Int} {y : Pn} (hy : look nds n = some y) : TOk (droppedN nds n y) ∧ (droppedN nds n y).length ≤ nds.length ∧ ∀ j z, look (droppedN nds n y) j = some z → ∃ v, look nds j = some v ∧ nmsLen z = nmsLen v ∧ z.kind = v.kind ∧ z.nms = v.nms := by
  unfold droppedN
  split
  · refine ⟨T.upd hd hy rfl rfl rfl rfl rfl, by rw [upd_len]; exact Nat.le_refl _, fun j z hz => ?_⟩
    rw [look_upd] at hz
    split at hz
    · rename_i e
      rw [hy] at hz
      obtain rfl := Option.some.inj hz
      exact ⟨y, by rw [e]; exact hy, rfl, rfl, rfl⟩
    · exact ⟨z, hz, rfl, rfl, rfl⟩
  · rename_i hno
    refine ⟨T.away hd hy (fun e => hno (.inl e)) (by omega), away_len _ _, fun j z hz => ?_⟩
    rw [look_away] at hz
    split at hz
    · cases hz
    · exact ⟨z, hz, rfl, rfl, rfl⟩
theorem iUnref (h : Sys w F c s) (I : Inv s R D B) (hB : B ≤ 1000) (hD : ∀ n, D n ≤ 100000) (hbk : base k + 1 ≤ R k) {x : Hd} (hx : look s.hs k = some x) :
    Calls Tryz.prog 37 #[ptrV c.tb, .int .i64 k] w fun e w' => e = .returned (.int .i64 0) ∧ Nxi (dec R k) D c B F w w' := by
  refine (op_UnrefT h I.good I.bnd hB hD hx).mono ?_
  rintro e w' ⟨rfl, F', s', h1, h2, h3, h4, h5, h6⟩
  have ht : TOk s'.nds ∧ s'.nds.length ≤ 12 ∧ (∀ k y, look s'.nds k = some y → nmsLen y ≤ B + 3) ∧ ∀ n, 0 < D n → ∃ y', look s'.nds n = some y' := by
    rcases h6 with e | ⟨n, y, hy, q1, q2, e⟩
    · rw [e]; exact ⟨I.tok, I.cnt, I.nms, I.dir⟩
    · rw [e]
      obtain ⟨t1, t2, t3⟩ := dropped_tok I.tok h.ndd hy
      refine ⟨t1, Nat.le_trans t2 I.cnt, fun j z hz => ?_, fun j hj => ?_⟩
      · obtain ⟨v, e1, e2, _⟩ := t3 j z hz
        rw [e2]; exact I.nms j v e1
      · obtain ⟨v, hv⟩ := I.dir j hj
        by_cases e3 : j = n
        · rw [e3] at hj ⊢
          exact ⟨_, (look_dropped s.nds n y hy 0).2.2 (q2 hj)⟩
        · exact ⟨v, ((look_dropped s.nds n y hy j).1 e3).trans hv⟩
  obtain ⟨t1, t2, t3, t4⟩ := ht
  have hr := I.ref k x hx
  refine ⟨rfl, F', s', h1, ⟨h2, h3, fun j z hz => ?_, fun j j0 hj => ?_, t4, t1, t2, t3, fun j => ?_, fun j z hz h4 n => ?_⟩, h4⟩
  · rw [h5] at hz
    unfold unrefd at hz
    unfold dec
    split at hz
    · obtain ⟨e1, e2⟩ := look_drop h.hsd hz
      rw [if_neg e2]
      exact I.ref j z e1
    · rw [look_upd] at hz
      split at hz
      · rename_i e
        rw [e] at *
        rw [hx] at hz
        obtain rfl := Option.some.inj hz
        rw [if_pos rfl, ← hr]
      · rename_i e
        rw [if_neg e]
        exact I.ref j z hz
  · rw [h5]
    unfold unrefd
    unfold dec at hj
    by_cases e : j = k
    · rw [if_pos e, e] at hj
      rw [if_neg (by omega), look_upd, if_pos e, hx]
      exact ⟨_, rfl⟩
    · rw [if_neg e] at hj
      obtain ⟨z, hz⟩ := I.ex j j0 hj
      split
      · exact ⟨z, (look_away s.hs k j).trans (by rw [if_neg e]; exact hz)⟩
      · rw [look_upd, if_neg e]
        exact ⟨z, hz⟩
  · have := I.bs j
    unfold dec
    split
    · rename_i e
      rw [e]; omega
    · exact this
  · rw [h5] at hz
    unfold unrefd at hz
    split at hz
    · obtain ⟨e1, e2⟩ := look_drop h.hsd hz
      exact I.nof j z e1 h4 n
    · rw [look_upd] at hz
      split at hz
      · rename_i e
        rw [hx] at hz
        obtain rfl := Option.some.inj hz
        exact I.nof k x hx (by rw [← e]; exact h4) n
      · exact I.nof j z hz h4 n
end
section
variable {w : World} {F : Nat → Prop} {c : Sy} {s : St} {R D : Int → Nat} {B : Nat} {k : Int}
theorem sys_treeE {f : Nat} {args : Array Value} {P : Ending → Nds → Prop} (h : Sys w F c s)
    (hc : ∀ Ft, TreeF w Ft c.fb c.most c.room s.nds → Calls Tryz.prog f args w fun e w' => ∃ Ft' nds', TreeF w' Ft' c.fb c.most c.room nds' ∧ Chg Ft Ft' w w' ∧ P e nds') :
    Calls Tryz.prog f args w fun e w' => ∃ F' nds', Sys w' F' c { s with nds := nds' } ∧ Chg F F' w w' ∧ P e nds' := by
  obtain ⟨Ft, Fp, Fh, h, hF⟩ := h
  refine (hc Ft h.tree).mono ?_
  rintro e w' ⟨Ft', nds', h1, h2, h5⟩
  obtain ⟨h3, h4⟩ := h.treeStep h1 h2
  obtain ⟨F', h6, h7⟩ := Sys.of hF h3 h4
  exact ⟨F', nds', h6, h7, h5⟩
theorem bnd_nds (b : Bnd s B) (nds' : Nds) : Bnd { s with nds := nds' } B := ⟨b.tot, b.top, b.es, b.refs⟩
theorem iHold (h : Sys w F c s) (I : Inv s R D B) (hB : B ≤ 1000) (hD : ∀ n, D n ≤ 100000) {n : Int} {y : Pn} (hy : look s.nds n = some y) :
    Calls Tryz.prog 90 #[ptrV c.fb, .int .i64 n] w fun e w' => e = .returned (.int .i64 0) ∧ Nxi R (inc D n) c B F w w' := by
  refine (sys_treeE (P := fun e nds' => e = .returned (.int .i64 0) ∧ nds' = upd s.nds n { y with holds := y.holds + 1 }) h fun Ft hT => (hold_some hT hy (I.good.few h I.bnd hB hD hy)).mono ?_).mono ?_
  · rintro e w' ⟨rfl, F', h1, h2⟩
    exact ⟨F', _, h1, h2, rfl, rfl⟩
  · rintro e w' ⟨F', nds', h1, h2, rfl, rfl⟩
    have hlk := look_upd s.nds n { y with holds := y.holds + 1 }
    refine ⟨rfl, F', _, h1, ⟨I.good.tree (fun j z hz h0 => ?_) fun j z hz => ?_, bnd_nds I.bnd _, I.ref, I.ex, fun j h0 => ?_, I.tok.upd h.ndd hy rfl rfl rfl rfl rfl, by show (upd _ _ _).length ≤ _; rw [upd_len]; exact I.cnt, fun j z hz => ?_, I.bs, I.nof⟩, h2⟩
    · rw [hlk]
      by_cases e : j = n
      · rw [if_pos e, hy]
        rw [e, hy] at hz
        obtain rfl := Option.some.inj hz
        exact ⟨_, rfl, rfl⟩
      · rw [if_neg e]; exact ⟨z, hz, rfl⟩
    · rw [hlk] at hz
      unfold inc
      by_cases e : j = n
      · rw [if_pos e, hy] at hz
        obtain rfl := Option.some.inj hz
        have q1 := I.good.holds n y hy
        have q2 := I.good.nms n y hy
        have q3 := I.good.num n y hy
        rw [if_pos e, e]
        exact ⟨by show y.holds + 1 = _; rw [q1]; rfl, q2.1, q2.2, q3⟩
      · rw [if_neg e] at hz
        rw [if_neg e]
        have q2 := I.good.nms j z hz
        exact ⟨I.good.holds j z hz, q2.1, q2.2, I.good.num j z hz⟩
    · show ∃ z, look (upd s.nds n _) j = some z
      rw [hlk]
      by_cases e : j = n
      · rw [if_pos e, hy]; exact ⟨_, rfl⟩
      · rw [if_neg e]
        unfold inc at h0
        rw [if_neg e] at h0
        exact I.dir j h0
    · replace hz : look (upd s.nds n _) j = some z := hz
      rw [hlk] at hz
      by_cases e : j = n
      · rw [if_pos e, hy] at hz
        obtain rfl := Option.some.inj hz
        exact I.nms n y hy
      · rw [if_neg e] at hz; exact I.nms j z hz
theorem iDrop (h : Sys w F c s) (I : Inv s R D B) (hB : B ≤ 1000) (hD : ∀ n, D n ≤ 100000) {n : Int} (hn : 0 < D n) :
    Calls Tryz.prog 151 #[ptrV c.fb, .int .i64 n] w fun e w' => e = .returned (.int .i64 0) ∧ Nxi R (dec D n) c B F w w' := by
  obtain ⟨y, hy⟩ := I.dir n hn
  have hho := I.good.holds n y hy
  replace hho : y.holds = total (nF n) s.hs + D n := hho
  refine (sys_treeE (P := fun e nds' => e = .returned (.int .i64 0) ∧ nds' = droppedN s.nds n y) h fun Ft hT => (drop_any hT hy (by omega) (I.good.few h I.bnd hB hD hy)).mono ?_).mono ?_
  · rintro e w' ⟨rfl, F', h1, h2⟩
    exact ⟨F', _, h1, h2, rfl, rfl⟩
  · rintro e w' ⟨F', nds', h1, h2, rfl, rfl⟩
    obtain ⟨t1, t2, t3⟩ := dropped_tok I.tok h.ndd hy
    have hlk := look_dropped s.nds n y hy
    refine ⟨rfl, F', _, h1, ⟨I.good.tree (fun j z hz h0 => ?_) fun j z hz => ?_, bnd_nds I.bnd _, I.ref, I.ex, fun j h0 => ?_, t1, Nat.le_trans t2 I.cnt, fun j z hz => ?_, I.bs, I.nof⟩, h2⟩
    · by_cases e : j = n
      · rw [e] at h0 hz ⊢
        rw [hy] at hz
        obtain rfl := Option.some.inj hz
        exact ⟨_, (hlk 0).2.2 (by omega), rfl⟩
      · exact ⟨z, ((hlk j).1 e).trans hz, rfl⟩
    · obtain ⟨v, e1, e2, e3, e4⟩ := t3 j z hz
      have q2 := I.good.nms j v e1
      refine ⟨?_, by rw [e2]; exact q2.1, fun q => by rw [e4]; exact q2.2 (by omega), I.good.num j v e1⟩
      unfold dec
      by_cases e : j = n
      · rw [e] at hz
        obtain rfl := (hlk 0).2.1 z hz
        rw [if_pos e, e]
        show y.holds - 1 = _
        omega
      · rw [if_neg e]
        rw [(hlk j).1 e] at hz
        exact I.good.holds j z hz
    · unfold dec at h0
      by_cases e : j = n
      · rw [if_pos e, e] at h0
        rw [e]
        exact ⟨_, (hlk 0).2.2 (by omega)⟩
      · rw [if_neg e] at h0
        obtain ⟨v, hv⟩ := I.dir j h0
        exact ⟨v, ((hlk j).1 e).trans hv⟩
    · obtain ⟨v, e1, e2, _⟩ := t3 j z hz
      rw [e2]; exact I.nms j v e1
theorem iCut (h : Sys w F c s) (I : Inv s R D B) (hB : B ≤ 1000) {n : Int} {y : Pn} (hy : look s.nds n = some y) (hyk : y.kind = 2) (hroom : c.room ≤ 1000000) :
    Calls Tryz.prog 148 #[ptrV c.fb, .int .i64 n, .int .i64 0] w fun e w' => e = .returned (.int .i64 0) ∧ Nxi R D c (B + 1) F w w' := by
  refine (sys_treeE (P := fun e nds' => e = .returned (.int .i64 0) ∧ nds' = upd s.nds n { y with data := [] }) h fun Ft hT => (node_cut0 hT hy hyk (Nat.le_trans h.used hroom)).mono ?_).mono ?_
  · rintro e w' ⟨rfl, F', h1, h2⟩
    exact ⟨F', _, h1, h2, rfl, rfl⟩
  · rintro e w' ⟨F', nds', h1, h2, rfl, rfl⟩
    exact ⟨rfl, F', _, h1, I.sm h (I.good.bytes hy []) ((bnd_nds I.bnd _).le (Nat.le_succ _)) ⟨fun _ => rfl, .inr ⟨n, y, [], hy, rfl⟩⟩, h2⟩
theorem iMake (h : Sys w F c s) (I : Inv s R D B) (hB : B ≤ 1000) (hm : c.most = 12) (a : Int) (p : ByteArray) (hp : p.size ≤ 1000000) :
    Calls Tryz.prog 43 #[ptrV c.fb, .int .i64 a, .string p, .int .i64 2, .string ⟨#[]⟩] w fun e w' => ∃ m er : Int, e = .returned (.tuple #[.int .i64 m, .int .i64 er]) ∧ er ≠ 43 ∧
      ∃ F' s', Sys w' F' c s' ∧ Inv s' R D (B + 1) ∧ Chg F F' w w' ∧ s'.hs = s.hs ∧ (er = 0 → ∃ y, look s'.nds m = some y ∧ y.kind = 2) := by
  have hmk := makeE_no I.tok c.most a (tl p)
  refine (sys_treeE (P := fun e nds' => ∃ m : Nat, e = .returned (.tuple #[.int .i64 (m : Int), .int .i64 (makeE s.nds c.most a (tl p))]) ∧ TOk nds' ∧ Stay s.nds nds' ∧ nds'.length ≤ 12 ∧ (∀ n, look s.nds n = none → (∃ y', look nds' n = some y') → 1 ≤ n ∧ n ≤ 12) ∧ (makeE s.nds c.most a (tl p) = 0 → ∃ y, look nds' (m : Int) = some y ∧ y.kind = 2)) h fun Ft hT => (make_any hT I.tok a p hp).mono ?_).mono ?_
  · rintro e w' ⟨m, rfl, F', nds', h1, h2, h3, h4, h5, h6⟩
    refine ⟨F', nds', h1, h4, m, rfl, h2, h3, ?_⟩
    by_cases h0 : makeE s.nds c.most a (tl p) = 0
    · obtain ⟨q1, q2, q3, q4, q5, q6⟩ := h6 h0
      refine ⟨by omega, fun n hn hy => ?_, fun _ => ⟨_, q4, rfl⟩⟩
      by_cases e : n = (m : Int)
      · omega
      · rw [q6 n hn e] at hy
        obtain ⟨y', hy⟩ := hy
        cases hy
    · obtain ⟨q1, rfl⟩ := h5 h0
      exact ⟨I.cnt, (fun n hn hy => by obtain ⟨y', hy⟩ := hy; rw [hn] at hy; cases hy), fun e => absurd e h0⟩
  · rintro e w' ⟨F', nds', h1, h2, m, rfl, h3, h4, h5, h6, h7⟩
    exact ⟨m, _, rfl, hmk, F', _, h1, I.stay h h3 h4 h5 h6 hB, h2, rfl, h7⟩
theorem iRemove (h : Sys w F c s) (I : Inv s R D B) (hB : B ≤ 800) (a : Int) (p : ByteArray) (hp : p.size ≤ 1000000) :
    Calls Tryz.prog 77 #[ptrV c.fb, .int .i64 a, .string p] w fun e w' => (∃ er : Int, e = .returned (.int .i64 er) ∧ er ≠ 43) ∧ Nxi R D c (B + 1) F w w' := by
  have hmk := removeE_no I.tok a (tl p)
  have hcnt := I.cnt
  refine (sys_treeE (P := fun e nds' => e = .returned (.int .i64 (removeE s.nds a (tl p))) ∧ TOk nds' ∧ Stay s.nds nds' ∧ nds'.length ≤ 12 ∧ ∀ n, look s.nds n = none → look nds' n = none) h fun Ft hT => (remove_any hT I.tok (fun k y hy => by have := I.nms k y hy; omega) (by omega) a p hp).mono ?_).mono ?_
  · rintro e w' ⟨rfl, F', nds', h1, h2, h3, h4, h5, h6⟩
    exact ⟨F', nds', h1, h4, rfl, h2, h3, by omega, h6⟩
  · rintro e w' ⟨F', nds', h1, h2, rfl, h3, h4, h5, h6⟩
    exact ⟨⟨_, rfl, hmk⟩, F', _, h1, I.stay h h3 h4 h5 (fun n hn hy => by rw [h6 n hn] at hy; obtain ⟨y', hy⟩ := hy; cases hy) (by omega), h2⟩
theorem iFile (h : Sys w F c s) (I : Inv s R D B) (hB : B ≤ 1000) (hD : ∀ n, D n ≤ 100000) (n : Int) (r wr m : Bool) :
    Calls Tryz.prog 34 #[ptrV c.tb, .int .i64 n, .agg #[.bool r, .bool wr, .bool m]] w fun e w' => ∃ id er, e = .returned (.tuple #[.int .i64 id, .int .i64 er]) ∧ er ≠ 43 ∧
      ∃ F' s', Sys w' F' c s' ∧ Chg F F' w w' ∧ (er ≠ 0 ∧ s' = s ∨ er = 0 ∧ id ≠ 0 ∧ Inv s' (inc R id) D (B + 1) ∧ ∃ y, look s'.nds n = some y ∧ y.kind = 2) := by
  have htop := I.bnd.top
  cases hy : look s.nds n with
  | none =>
    refine (sys_File_none h hy r wr m).mono ?_
    rintro e w' ⟨rfl, hw⟩
    exact ⟨_, _, rfl, by decide, F, s, h.grown hw, Chg.of_grown hw F, .inl ⟨by decide, rfl⟩⟩
  | some y =>
    have hnl := (I.good.nms n y hy).1
    have hbad : ∀ er : Int, er ≠ 43 → er ≠ 0 → Calls Tryz.prog 34 #[ptrV c.tb, .int .i64 n, .agg #[.bool r, .bool wr, .bool m]] w (fun e w' => e = .returned (.tuple #[.int .i64 0, .int .i64 er]) ∧ w.grownBy w' none) → Calls Tryz.prog 34 #[ptrV c.tb, .int .i64 n, .agg #[.bool r, .bool wr, .bool m]] w fun e w' => ∃ id er, e = .returned (.tuple #[.int .i64 id, .int .i64 er]) ∧ er ≠ 43 ∧
      ∃ F' s', Sys w' F' c s' ∧ Chg F F' w w' ∧ (er ≠ 0 ∧ s' = s ∨ er = 0 ∧ id ≠ 0 ∧ Inv s' (inc R id) D (B + 1) ∧ ∃ y, look s'.nds n = some y ∧ y.kind = 2) := by
      intro er e1 e2 hc
      refine hc.mono ?_
      rintro e w' ⟨rfl, hw⟩
      exact ⟨_, _, rfl, e1, F, s, h.grown hw, Chg.of_grown hw F, .inl ⟨e2, rfl⟩⟩
    by_cases h2 : y.kind = 2
    · by_cases hm : r = false ∧ wr = false
      · exact hbad 1 (by decide) (by decide) (sys_File_kind h hy (by omega) r wr m 1 (.inr (.inr ⟨h2, hm.1, hm.2, rfl⟩)))
      · have hho := I.good.few h I.bnd hB hD hy
        have fin : ∀ e w', (∃ kk, e = Ending.returned (.tuple #[.int .i64 kk, .int .i64 0]) ∧ Least (ids s.hs) kk ∧ ∃ F' top' xs', top' ≤ s.top + 1 ∧ Sys w' F' c { s with nds := upd s.nds n { y with holds := y.holds + 1 }, hs := s.hs ++ [(kk, ⟨1, .file n 0 r wr m⟩)], top := top', xs := xs' } ∧ Chg F F' w w') → ∃ id er, e = .returned (.tuple #[.int .i64 id, .int .i64 er]) ∧ er ≠ 43 ∧
          ∃ F' s', Sys w' F' c s' ∧ Chg F F' w w' ∧ (er ≠ 0 ∧ s' = s ∨ er = 0 ∧ id ≠ 0 ∧ Inv s' (inc R id) D (B + 1) ∧ ∃ y, look s'.nds n = some y ∧ y.kind = 2) := by
          rintro e w' ⟨kk, rfl, hle, F', top', xs', htp, h3, h4⟩
          have hkk := not_mem_hs hle
          have hk1 := hle.1
          have hR0 : R kk = 0 := Decidable.byContradiction fun e => by
            obtain ⟨z, hz⟩ := I.ex kk (by omega) (by omega)
            rw [hkk] at hz
            cases hz
          have hlk := look_upd s.nds n { y with holds := y.holds + 1 }
          refine ⟨_, _, rfl, by decide, F', _, h3, h4, .inr ⟨rfl, by omega, ⟨I.good.newFile hkk hy h2 r wr m top' xs', I.bnd.new hkk _ _ htp xs', fun j z hz => ?_, fun j j0 hj => ?_, fun j h0 => ?_, I.tok.upd h.ndd hy rfl rfl rfl rfl rfl, by show (upd _ _ _).length ≤ _; rw [upd_len]; exact I.cnt, fun j z hz => ?_, fun j => by have := I.bs j; unfold inc; split <;> omega, fun j z hz h4 n' => ?_⟩, { y with holds := y.holds + 1 }, ?_, h2⟩⟩
          · replace hz : look (s.hs ++ [(kk, ⟨1, .file n 0 r wr m⟩)]) j = some z := hz
            rw [look_snoc hkk] at hz
            unfold inc
            split at hz
            · rename_i e
              obtain rfl := Option.some.inj hz
              rw [if_pos e, e, hR0]
            · rename_i e
              rw [if_neg e]
              exact I.ref j z hz
          · show ∃ z, look (s.hs ++ [(kk, _)]) j = some z
            rw [look_snoc hkk]
            unfold inc at hj
            split
            · exact ⟨_, rfl⟩
            · rename_i e
              rw [if_neg e] at hj
              exact I.ex j j0 hj
          · obtain ⟨v, hv⟩ := I.dir j h0
            show ∃ z, look (upd s.nds n _) j = some z
            rw [hlk]
            split
            · rw [hy]; exact ⟨_, rfl⟩
            · exact ⟨v, hv⟩
          · replace hz : look (upd s.nds n _) j = some z := hz
            rw [hlk] at hz
            split at hz
            · rw [hy] at hz
              obtain rfl := Option.some.inj hz
              exact Nat.le_trans (I.nms n y hy) (by omega)
            · exact Nat.le_trans (I.nms j z hz) (by omega)
          · replace hz : look (s.hs ++ [(kk, ⟨1, .file n 0 r wr m⟩)]) j = some z := hz
            rw [look_snoc hkk] at hz
            split at hz
            · rename_i e
              have hb := I.bs kk
              unfold base b1 at hb
              rw [if_pos ⟨hk1, by omega⟩] at hb
              omega
            · exact I.nof j z hz h4 n'
          · show look (upd s.nds n _) n = _
            exact look_upd_same hy _
        cases r <;> cases wr
        · exact absurd ⟨rfl, rfl⟩ hm
        · exact (sys_File_wG h (by omega) hy h2 hho (by omega) m).mono fin
        · exact (sys_File_rG h (by omega) hy h2 hho (by omega) m).mono fin
        · exact (sys_File_rwG h (by omega) hy h2 hho (by omega) m).mono fin
    · by_cases h1 : y.kind = 1
      · exact hbad 13 (by decide) (by decide) (sys_File_kind h hy (by omega) r wr m 13 (.inl ⟨h1, rfl⟩))
      · exact hbad 1 (by decide) (by decide) (sys_File_kind h hy (by omega) r wr m 1 (.inr (.inl ⟨h1, h2, rfl⟩)))
end
end Go.Proofs.YtfofpphnglhopaaGreatDoor
namespace Go.Proofs.YtfofpphnglhopaaGreatDoor
open Go Go.RowKit
def Ru (ps : List Pt) (ns : Nts) : Int → Nat := fun k => base k + uses k ps ns
def Du (ps : List Pt) (ns : Nts) : Int → Nat := fun n => dirs n ps ns
def hand (R : Int → Nat) (v : Int) : Int → Nat := if v = 0 then R else inc R v
theorem hand_at (R : Int → Nat) (v : Int) {k : Int} (hk : k ≠ 0) : hand R v k = R k + b1 (v = k) := by
  unfold hand inc b1
  by_cases hv : v = 0
  · rw [if_pos hv, if_neg (by omega)]; rfl
  · rw [if_neg hv]
    show (if k = v then R k + 1 else R k) = _
    by_cases e : k = v
    · rw [if_pos e, if_pos e.symm]
    · rw [if_neg e, if_neg (fun q => e q.symm)]; rfl
theorem dec_inc (R : Int → Nat) (v : Int) : dec (inc R v) v = R := by
  funext j
  unfold dec inc
  by_cases e : j = v
  · rw [if_pos e, if_pos e]; rfl
  · rw [if_neg e, if_neg e]
theorem b1_le (p : Prop) [Decidable p] : b1 p ≤ 1 := by unfold b1; split <;> omega
theorem b1_no {p : Prop} [Decidable p] (h : ¬ p) : b1 p = 0 := if_neg h
theorem b1_and {p q : Prop} [Decidable p] [Decidable q] (h : p) : b1 (p ∧ q) = b1 q := by
  unfold b1
  by_cases hq : q
  · rw [if_pos ⟨h, hq⟩, if_pos hq]
  · rw [if_neg (fun e => hq e.2), if_neg hq]
theorem Du_le (ps : List Pt) (ns : Nts) (n : Int) : Du ps ns n ≤ 1 + ns.length := by
  have h1 : dirQ n ps ≤ 1 := by
    unfold dirQ
    split
    · exact b1_le _
    · omega
  have h2 : dirN n ns ≤ ns.length := List.length_filter_le _ _
  unfold Du dirs
  omega
theorem Ru_now {ps : List Pt} {ns : Nts} {i : Nat} {p : Pt} (hp : ps[i]? = some p) (hi : i < 16) (q : Pt) (k : Int) : Ru (ps.set i q) ns k + b1 (p.v = k) = Ru ps ns k + b1 (q.v = k) := by
  have := useP_set hp hi q k
  unfold Ru uses
  omega
theorem Ru_far {ps : List Pt} {ns : Nts} {i : Nat} (hi : 16 ≤ i) (q : Pt) : Ru (ps.set i q) ns = Ru ps ns := by
  funext k
  unfold Ru uses
  rw [useP_far hi]
theorem Ru_note {ps : List Pt} {ns : Nts} {i : Nat} {p : Pt} (hp : ps[i]? = some p) (hi : i < 16) (q : Pt) (k : Int) : Ru (ps.set i q) (ns ++ [(i, p)]) k = Ru ps ns k + b1 (q.v = k) := by
  have := useP_set hp hi q k
  have h2 := useN_snoc k ns (i, p)
  rw [b1_and (show (i, p).1 < 16 from hi)] at h2
  show base k + (useP k _ + useN k _) = base k + (useP k ps + useN k ns) + _
  rw [h2]
  show base k + (useP k (ps.set i q) + (useN k ns + b1 (p.v = k))) = _
  omega
theorem Ru_note_far {ps : List Pt} {ns : Nts} {i : Nat} {p : Pt} (hi : 16 ≤ i) (q : Pt) : Ru (ps.set i q) (ns ++ [(i, p)]) = Ru ps ns := by
  funext k
  unfold Ru uses
  rw [useP_far hi, useN_snoc, b1_no (fun e => by have := e.1; simp only at this; omega)]
  rfl
theorem Du_far {ps : List Pt} {ns : Nts} {i : Nat} (hi : i ≠ 16) (q : Pt) : Du (ps.set i q) ns = Du ps ns := by
  funext k
  unfold Du dirs
  rw [dirQ_far hi]
theorem Du_note_far {ps : List Pt} {ns : Nts} {i : Nat} {p : Pt} (hi : i ≠ 16) (q : Pt) : Du (ps.set i q) (ns ++ [(i, p)]) = Du ps ns := by
  funext k
  unfold Du dirs
  rw [dirQ_far hi, dirN_snoc, b1_no (fun e => hi e.1)]
  rfl
theorem Du_now {ps : List Pt} {ns : Nts} {p : Pt} (hp : ps[16]? = some p) (q : Pt) (k : Int) : Du (ps.set 16 q) ns k + b1 (p.v = k) = Du ps ns k + b1 (q.v = k) := by
  have := dirQ_set hp q k
  unfold Du dirs
  omega
theorem Du_note {ps : List Pt} {ns : Nts} {p : Pt} (hp : ps[16]? = some p) (q : Pt) (k : Int) : Du (ps.set 16 q) (ns ++ [(16, p)]) k = Du ps ns k + b1 (q.v = k) := by
  have := dirQ_set hp q k
  have h2 := dirN_snoc k ns (16, p)
  rw [b1_and (show (16, p).1 = 16 from rfl)] at h2
  show dirQ k _ + dirN k _ = dirQ k ps + dirN k ns + _
  rw [h2]
  show dirQ k (ps.set 16 q) + (dirN k ns + b1 (p.v = k)) = _
  omega
theorem inc_at (D : Int → Nat) (v k : Int) : inc D v k = D k + b1 (v = k) := by
  unfold inc b1
  by_cases e : k = v
  · rw [if_pos e, if_pos e.symm]
  · rw [if_neg e, if_neg (fun q => e q.symm)]; rfl
section
variable {w : World} {B : Nat} {F : Nat → Prop} {c : Sy} {pb lb most nest : Nat} {s : St} {ps : List Pt} {ns : Nts} {mk : List Nat} {R D : Int → Nat} {N : Nat}
theorem un_hand (h : PrR w B F c pb lb most nest s ps ns mk) {v : Int} (I : Inv s (hand R v) D N) (hbs : ∀ k, base k ≤ R k) (hN : N ≤ 1000) (hD : ∀ n, D n ≤ 100000) :
    Calls Tryz.prog 84 #[ptrV pb, .int .i64 v] w fun e w' => e = .returned (.tuple #[]) ∧ ∃ F' s', PrR w' B F' c pb lb most nest s' ps ns mk ∧ Inv s' R D N ∧ PCh B F F' pb w w' := by
  by_cases hv : v = 0
  · subst hv
    refine (unref_zero _ w).mono ?_
    rintro e w' ⟨rfl, hw⟩
    obtain rfl := hw.symm
    exact ⟨rfl, F, s, h, I, PCh.refl B F pb _⟩
  · unfold hand at I
    rw [if_neg hv] at I
    obtain ⟨x, hx⟩ := I.ex v hv (by unfold inc; rw [if_pos rfl]; omega)
    refine unref_call h.prc v hv (fun w' => ∃ F' s', PrR w' B F' c pb lb most nest s' ps ns mk ∧ Inv s' R D N ∧ PCh B F F' pb w w') ((iUnref h.sys I hN hD (by have := hbs v; unfold inc; rw [if_pos rfl]; omega) hx).mono ?_)
    rintro e w' ⟨rfl, F1, s1, h1, h2, h3⟩
    rw [dec_inc] at h2
    obtain ⟨F2, h4, h5⟩ := h.sysStep h1 h3
    exact ⟨⟨_, rfl⟩, F2, s1, h4, h2, h5⟩
theorem drop_hand (h : PrR w B F c pb lb most nest s ps ns mk) {v : Int} (I : Inv s R (inc D v) N) (hN : N ≤ 1000) (hD : ∀ n, D n ≤ 90000) :
    Calls Tryz.prog 121 #[ptrV pb, .int .i64 v] w fun e w' => e = .returned (.tuple #[]) ∧ ∃ F' s', PrR w' B F' c pb lb most nest s' ps ns mk ∧ Inv s' R D N ∧ PCh B F F' pb w w' := by
  refine pdrop_call h.prc v (fun w' => ∃ F' s', PrR w' B F' c pb lb most nest s' ps ns mk ∧ Inv s' R D N ∧ PCh B F F' pb w w') ((iDrop h.sys I hN (fun n => by have := hD n; have := b1_le (v = n); rw [inc_at]; omega) (by rw [inc_at]; unfold b1; rw [if_pos rfl]; omega)).mono ?_)
  rintro e w' ⟨rfl, F1, s1, h1, h2, h3⟩
  rw [dec_inc] at h2
  obtain ⟨F2, h4, h5⟩ := h.sysStep h1 h3
  exact ⟨⟨_, rfl⟩, F2, s1, h4, h2, h5⟩
def PStp (B : Nat) (F : Nat → Prop) (c : Sy) (pb lb most nest : Nat) (ps : List Pt) (ns : Nts) (mk : List Nat) (N : Nat) (w : World) (er : Int) (w' : World) : Prop :=
  ∃ F' s' ps' ns' mk', PrR w' B F' c pb lb most nest s' ps' ns' mk' ∧ Inv s' (Ru ps' ns') (Du ps' ns') N ∧ PSt most ps ns mk ps' ns' mk' ∧ PCh B F F' pb w w' ∧ ns'.length ≤ most ∧ ns'.length ≤ ns.length + 1 ∧ (er = 43 → ps' = ps ∧ ns' = ns ∧ mk' = mk ∧ ns.length = most) ∧ mk.length ≤ mk'.length
theorem chg_fd (h : PrR w B F c pb lb most nest s ps ns mk) {i : Nat} (hi : i < 16) {v : Int} (I : Inv s (hand (Ru ps ns) v) (Du ps ns) N) (hL : LV mk.reverse ns ps) (hN : N ≤ 1000) (hl : ns.length ≤ most) (hn : ns.length ≤ 80000) :
    Calls Tryz.prog 83 #[ptrV pb, partP pb i, .int .i64 v, .func (.func 84) #[ptrV pb] #[]] w fun e w' => ∃ er, e = .returned (.int .i64 er) ∧ PStp B F c pb lb most nest ps ns mk N w er w' := by
  obtain ⟨p, hp⟩ := h.part (show i < 18 by omega)
  have hle := hL.le p (List.mem_of_getElem? hp)
  rw [List.length_reverse] at hle
  have hD : ∀ n, Du ps ns n ≤ 90000 := fun n => by have := Du_le ps ns n; omega
  by_cases h1 : p.n = mk.length
  · refine (change_now_fd h hp h1 v (fun w' => ∃ F' s', PrR w' B F' c pb lb most nest s' (ps.set i ⟨v, p.n⟩) ns mk ∧ Inv s' (Ru (ps.set i ⟨v, p.n⟩) ns) (Du (ps.set i ⟨v, p.n⟩) ns) N ∧ PCh B F F' pb w w') ?_).mono ?_
    · intro w1 r1 r2
      have I1 : Inv s (hand (Ru (ps.set i ⟨v, p.n⟩) ns) p.v) (Du (ps.set i ⟨v, p.n⟩) ns) N := I.congr h.sys.zero (fun k hk => by
        rw [hand_at _ _ hk, hand_at _ _ hk]
        exact Ru_now hp hi ⟨v, p.n⟩ k) (fun n => by rw [Du_far (by omega)])
      refine (un_hand r1 I1 (fun k => Nat.le_add_right _ _) hN (fun n => by rw [Du_far (by omega)]; have := hD n; omega)).mono ?_
      rintro e w' ⟨rfl, F', s', q1, q2, q3⟩
      exact ⟨rfl, F', s', q1, q2, r2.trans q3⟩
    · rintro e w' ⟨rfl, F', s', q1, q2, q3⟩
      exact ⟨0, rfl, F', s', _, ns, mk, q1, q2, .now v hp h1, q3, hl, Nat.le_succ _, nofun, Nat.le_refl _⟩
  · have hmk : mk ≠ [] := fun e => by rw [e] at hle h1; simp at hle h1; exact h1 hle
    by_cases h2 : ns.length = most
    · refine (change_full_fd h hp h1 hmk h2 v (fun w' => ∃ F' s', PrR w' B F' c pb lb most nest s' ps ns mk ∧ Inv s' (Ru ps ns) (Du ps ns) N ∧ PCh B F F' pb w w') ?_).mono ?_
      · intro w1 r1 r2
        refine (un_hand r1 I (fun k => Nat.le_add_right _ _) hN (fun n => by have := hD n; omega)).mono ?_
        rintro e w' ⟨rfl, F', s', q1, q2, q3⟩
        exact ⟨rfl, F', s', q1, q2, r2.trans q3⟩
      · rintro e w' ⟨rfl, F', s', q1, q2, q3⟩
        exact ⟨43, rfl, F', s', _, _, _, q1, q2, .same _ _ _, q3, hl, Nat.le_succ _, fun _ => ⟨rfl, rfl, rfl, h2⟩, Nat.le_refl _⟩
    · refine (change_note_fd h hi hp h1 hmk (by omega) v).mono ?_
      rintro e w' ⟨rfl, q1, q2⟩
      refine ⟨0, rfl, F, s, _, _, _, q1, I.congr h.sys.zero (fun k hk => ?_) (fun n => by rw [Du_note_far (by omega)]), .note v hp h1 hmk, q2, by rw [List.length_append]; show ns.length + 1 ≤ most; omega, by rw [List.length_append]; exact Nat.le_refl _, nofun, Nat.le_refl _⟩
      rw [hand_at _ _ hk]
      exact Ru_note hp hi _ k
theorem chg_dir (h : PrR w B F c pb lb most nest s ps ns mk) {v : Int} (I : Inv s (Ru ps ns) (inc (Du ps ns) v) N) (hL : LV mk.reverse ns ps) (hN : N ≤ 1000) (hl : ns.length ≤ most) (hn : ns.length ≤ 80000) :
    Calls Tryz.prog 83 #[ptrV pb, partP pb 16, .int .i64 v, .func (.func 121) #[ptrV pb] #[]] w fun e w' => ∃ er, e = .returned (.int .i64 er) ∧ PStp B F c pb lb most nest ps ns mk N w er w' := by
  obtain ⟨p, hp⟩ := h.part (show 16 < 18 by omega)
  have hle := hL.le p (List.mem_of_getElem? hp)
  rw [List.length_reverse] at hle
  have hD : ∀ ps n, Du ps ns n ≤ 90000 := fun ps n => by have := Du_le ps ns n; omega
  by_cases h1 : p.n = mk.length
  · refine (change_now_dir h hp h1 v (fun w' => ∃ F' s', PrR w' B F' c pb lb most nest s' (ps.set 16 ⟨v, p.n⟩) ns mk ∧ Inv s' (Ru (ps.set 16 ⟨v, p.n⟩) ns) (Du (ps.set 16 ⟨v, p.n⟩) ns) N ∧ PCh B F F' pb w w') ?_).mono ?_
    · intro w1 r1 r2
      have I1 : Inv s (Ru (ps.set 16 ⟨v, p.n⟩) ns) (inc (Du (ps.set 16 ⟨v, p.n⟩) ns) p.v) N := I.congr h.sys.zero (fun k hk => by rw [Ru_far (Nat.le_refl _)]) (fun n => by
        rw [inc_at, inc_at]
        exact Du_now hp ⟨v, p.n⟩ n)
      refine (drop_hand r1 I1 hN (hD _)).mono ?_
      rintro e w' ⟨rfl, F', s', q1, q2, q3⟩
      exact ⟨rfl, F', s', q1, q2, r2.trans q3⟩
    · rintro e w' ⟨rfl, F', s', q1, q2, q3⟩
      exact ⟨0, rfl, F', s', _, ns, mk, q1, q2, .now v hp h1, q3, hl, Nat.le_succ _, nofun, Nat.le_refl _⟩
  · have hmk : mk ≠ [] := fun e => by rw [e] at hle h1; simp at hle h1; exact h1 hle
    by_cases h2 : ns.length = most
    · refine (change_full_dir h hp h1 hmk h2 v (fun w' => ∃ F' s', PrR w' B F' c pb lb most nest s' ps ns mk ∧ Inv s' (Ru ps ns) (Du ps ns) N ∧ PCh B F F' pb w w') ?_).mono ?_
      · intro w1 r1 r2
        refine (drop_hand r1 I hN (hD _)).mono ?_
        rintro e w' ⟨rfl, F', s', q1, q2, q3⟩
        exact ⟨rfl, F', s', q1, q2, r2.trans q3⟩
      · rintro e w' ⟨rfl, F', s', q1, q2, q3⟩
        exact ⟨43, rfl, F', s', _, _, _, q1, q2, .same _ _ _, q3, hl, Nat.le_succ _, fun _ => ⟨rfl, rfl, rfl, h2⟩, Nat.le_refl _⟩
    · refine (change_note_dir h rfl hp h1 hmk (by omega) v).mono ?_
      rintro e w' ⟨rfl, q1, q2⟩
      refine ⟨0, rfl, F, s, _, _, _, q1, I.congr h.sys.zero (fun k hk => by rw [Ru_note_far (Nat.le_refl _)]) (fun n => ?_), .note v hp h1 hmk, q2, by rw [List.length_append]; show ns.length + 1 ≤ most; omega, by rw [List.length_append]; exact Nat.le_refl _, nofun, Nat.le_refl _⟩
      rw [inc_at]
      exact Du_note hp _ n
theorem chg_mask (h : PrR w B F c pb lb most nest s ps ns mk) {v : Int} (I : Inv s (Ru ps ns) (Du ps ns) N) (hL : LV mk.reverse ns ps) (hl : ns.length ≤ most) :
    Calls Tryz.prog 83 #[ptrV pb, partP pb 17, .int .i64 v, .func (.func 122) #[] #[]] w fun e w' => ∃ er, e = .returned (.int .i64 er) ∧ PStp B F c pb lb most nest ps ns mk N w er w' := by
  obtain ⟨p, hp⟩ := h.part (show 17 < 18 by omega)
  have hle := hL.le p (List.mem_of_getElem? hp)
  rw [List.length_reverse] at hle
  by_cases h1 : p.n = mk.length
  · refine (change_now_mask h hp h1 v (fun w' => PrR w' B F c pb lb most nest s (ps.set 17 ⟨v, p.n⟩) ns mk ∧ PCh B F F pb w w') ?_).mono ?_
    · intro w1 r1 r2
      refine (mask1_call p.v w1).mono ?_
      rintro e w' ⟨rfl, hw⟩
      obtain rfl := hw.symm
      exact ⟨rfl, r1, r2⟩
    · rintro e w' ⟨rfl, q1, q3⟩
      exact ⟨0, rfl, F, s, _, ns, mk, q1, by rw [Ru_far (by omega), Du_far (by omega)]; exact I, .now v hp h1, q3, hl, Nat.le_succ _, nofun, Nat.le_refl _⟩
  · have hmk : mk ≠ [] := fun e => by rw [e] at hle h1; simp at hle h1; exact h1 hle
    by_cases h2 : ns.length = most
    · refine (change_full_mask h hp h1 hmk h2 v (fun w' => PrR w' B F c pb lb most nest s ps ns mk ∧ PCh B F F pb w w') ?_).mono ?_
      · intro w1 r1 r2
        refine (mask1_call v w1).mono ?_
        rintro e w' ⟨rfl, hw⟩
        obtain rfl := hw.symm
        exact ⟨rfl, r1, r2⟩
      · rintro e w' ⟨rfl, q1, q3⟩
        exact ⟨43, rfl, F, s, _, _, _, q1, I, .same _ _ _, q3, hl, Nat.le_succ _, fun _ => ⟨rfl, rfl, rfl, h2⟩, Nat.le_refl _⟩
    · refine (change_note_mask h rfl hp h1 hmk (by omega) v).mono ?_
      rintro e w' ⟨rfl, q1, q2⟩
      exact ⟨0, rfl, F, s, _, _, _, q1, by rw [Ru_note_far (by omega), Du_note_far (by omega)]; exact I, .note v hp h1 hmk, q2, by rw [List.length_append]; show ns.length + 1 ≤ most; omega, by rw [List.length_append]; exact Nat.le_refl _, nofun, Nat.le_refl _⟩
end
structure PI (w : World) (B : Nat) (F : Nat → Prop) (c : Sy) (pb lb most nest : Nat) (s : St) (ps : List Pt) (ns : Nts) (mk : List Nat) (N : Nat) : Prop where
  r : PrR w B F c pb lb most nest s ps ns mk
  i : Inv s (Ru ps ns) (Du ps ns) N
  l : LV mk.reverse ns ps
  m : ns.length ≤ most
  n : ns.length ≤ N
  cm : c.most = 12
  cr : c.room = 100
section
variable {w w1 : World} {B : Nat} {F F1 : Nat → Prop} {c : Sy} {pb lb most nest : Nat} {s : St} {ps : List Pt} {ns : Nts} {mk : List Nat} {N M : Nat}
theorem PStp.pre (h : PCh B F F1 pb w w1) {er : Int} {w' : World} (t : PStp B F1 c pb lb most nest ps ns mk N w1 er w') : PStp B F c pb lb most nest ps ns mk N w er w' := by
  obtain ⟨F', s', ps', ns', mk', q1, q2, q3, q4, q5, q6, q7⟩ := t
  exact ⟨F', s', ps', ns', mk', q1, q2, q3, h.trans q4, q5, q6, q7⟩
theorem PStp.le {er : Int} {w' : World} (t : PStp B F c pb lb most nest ps ns mk N w er w') (h : N ≤ M) : PStp B F c pb lb most nest ps ns mk M w er w' := by
  obtain ⟨F', s', ps', ns', mk', q1, q2, q3, q4, q5, q6, q7⟩ := t
  exact ⟨F', s', ps', ns', mk', q1, q2.le h, q3, q4, q5, q6, q7⟩
theorem PI.stay (P : PI w B F c pb lb most nest s ps ns mk N) {er : Int} (her : er ≠ 43) {w' : World} (h : ∃ F' s', Sys w' F' c s' ∧ Inv s' (Ru ps ns) (Du ps ns) M ∧ Chg F F' w w') : PStp B F c pb lb most nest ps ns mk M w er w' := by
  obtain ⟨F1, s1, h1, h2, h3⟩ := h
  obtain ⟨F2, h4, h5⟩ := P.r.sysStep h1 h3
  exact ⟨F2, s1, _, _, _, h4, h2, .same _ _ _, h5, P.m, Nat.le_succ _, fun e => absurd e her, Nat.le_refl _⟩
theorem PI.none_ (P : PI w B F c pb lb most nest s ps ns mk N) {er : Int} (her : er ≠ 43) {w' : World} (h : w.grownBy w' none) : PStp B F c pb lb most nest ps ns mk N w er w' := by
  obtain ⟨h1, h2⟩ := P.r.grown h
  exact ⟨F, s, _, _, _, h1, P.i, .same _ _ _, h2, P.m, Nat.le_succ _, fun e => absurd e her, Nat.le_refl _⟩
theorem fdE_cases (fd : Int) : (fd < 0 ∨ 16 ≤ fd) ∨ ∃ i : Nat, i < 16 ∧ fd = (i : Int) := by
  by_cases h : fd < 0 ∨ 16 ≤ fd
  · exact .inl h
  · exact .inr ⟨fd.toNat, by omega, by omega⟩
theorem pfind_any (P : PI w B F c pb lb most nest s ps ns mk N) (fd : Int) : ∃ id er : Int, Calls Tryz.prog 91 #[ptrV pb, .int .i64 fd] w (fun e w' => e = .returned (.tuple #[.int .i64 id, .int .i64 er]) ∧ w' = w) ∧ (er = 18 ∨ er = 0 ∧ ∃ (i : Nat) (p : Pt), i < 16 ∧ fd = (i : Int) ∧ ps[i]? = some p ∧ p.v = id ∧ id ≠ 0) := by
  rcases fdE_cases fd with h | ⟨i, hi, rfl⟩
  · refine ⟨0, 18, pfind_bad fd _ 18 (by decide) ?_, .inl rfl⟩
    have := checkFd_any P.r.prc fd
    rw [fdE_ne h] at this
    exact this
  · obtain ⟨p, hp⟩ := P.r.part (show i < 18 by omega)
    refine ⟨p.v, _, pfind_in P.r.prc hi hp, ?_⟩
    by_cases h0 : p.v = 0
    · exact .inl (if_pos h0)
    · exact .inr ⟨if_neg h0, i, p, hi, rfl, hp, rfl, h0⟩
theorem dClose (P : PI w B F c pb lb most nest s ps ns mk N) (hN : N ≤ 900) (fd : Int) :
    Calls Tryz.prog 24 #[ptrV pb, .int .i64 fd] w fun e w' => ∃ er, e = .returned (.int .i64 er) ∧ PStp B F c pb lb most nest ps ns mk N w er w' := by
  rcases fdE_cases fd with h | ⟨i, hi, rfl⟩
  · refine (PClose_bad P.r.prc fd 0 ⟨#[]⟩ h).mono ?_
    rintro e w' ⟨rfl, hw⟩
    obtain rfl := hw.symm
    exact ⟨_, rfl, P.none_ (by decide) (grownBy_re _)⟩
  · have hn := P.n
    exact PClose_any P.r.prc hi _ (chg_fd P.r hi P.i P.l (by omega) P.m (by omega))
theorem dPut (P : PI w B F c pb lb most nest s ps ns mk N) (hN : N ≤ 900) (fd x : Int) :
    Calls Tryz.prog 72 #[ptrV pb, .int .i64 fd, .int .i64 x] w fun e w' => ∃ er, e = .returned (.int .i64 er) ∧ PStp B F c pb lb most nest ps ns mk (N + 1) w er w' := by
  have hn := P.n
  rcases fdE_cases fd with h | ⟨i, hi, rfl⟩
  · refine (PPut_bad P.r.prc fd x ⟨#[]⟩ h).mono ?_
    rintro e w' ⟨rfl, hw⟩
    obtain rfl := hw.symm
    exact ⟨_, rfl, (P.none_ (by decide) (grownBy_re _)).le (Nat.le_succ _)⟩
  · cases hx : look s.hs x with
    | none =>
      refine PPut_any P.r.prc hi x (fun er w1 => er = 18 ∧ w1 = w) _ ((sys_Ref_none P.r.sys hx).mono ?_) ?_ ?_
      · rintro e w' ⟨rfl, hw⟩
        exact ⟨_, rfl, rfl, hw⟩
      · rintro er w1 ⟨rfl, rfl⟩ _
        exact (P.none_ (by decide) (grownBy_re _)).le (Nat.le_succ _)
      · rintro w1 ⟨h, _⟩
        cases h
    | some h =>
      have hx0 : x ≠ 0 := fun e => by rw [e, P.r.sys.zero] at hx; cases hx
      refine PPut_any P.r.prc hi x (fun er w1 => er = 0 ∧ ∃ F1 s1, PrR w1 B F1 c pb lb most nest s1 ps ns mk ∧ Inv s1 (inc (Ru ps ns) x) (Du ps ns) (N + 1) ∧ PCh B F F1 pb w w1) _ ((iRef P.r.sys P.i (by omega) hx).mono ?_) ?_ ?_
      · rintro e w' ⟨rfl, F1, s1, h1, h2, h3⟩
        obtain ⟨F2, h4, h5⟩ := P.r.sysStep h1 h3
        exact ⟨_, rfl, rfl, F2, s1, h4, h2, h5⟩
      · rintro er w1 ⟨rfl, _⟩ h
        exact absurd rfl h
      · rintro w1 ⟨_, F1, s1, h1, h2, h3⟩
        refine ⟨h1.prc.lt, (chg_fd h1 hi (by unfold hand; rw [if_neg hx0]; exact h2) P.l (by omega) P.m (by omega)).mono ?_⟩
        rintro e w' ⟨er, rfl, t⟩
        exact ⟨er, rfl, t.pre h3⟩
theorem dDup (P : PI w B F c pb lb most nest s ps ns mk N) (hN : N ≤ 900) (fd x : Int) :
    Calls Tryz.prog 73 #[ptrV pb, .int .i64 fd, .int .i64 x] w fun e w' => ∃ er, e = .returned (.int .i64 er) ∧ PStp B F c pb lb most nest ps ns mk (N + 1) w er w' := by
  rcases fdE_cases fd with h | ⟨i, hi, rfl⟩
  · refine (PDup_bad P.r.prc fd x ⟨#[]⟩ h).mono ?_
    rintro e w' ⟨rfl, hw⟩
    obtain rfl := hw.symm
    exact ⟨_, rfl, (P.none_ (by decide) (grownBy_re _)).le (Nat.le_succ _)⟩
  · obtain ⟨id, er, hf, hc⟩ := pfind_any P x
    by_cases hno : er ≠ 0 ∨ (i : Int) = x
    · refine (PDup_no P.r.prc hi x id er hf hno).mono ?_
      rintro e w' ⟨rfl, hw⟩
      obtain rfl := hw.symm
      exact ⟨_, rfl, (P.none_ (by omega) (grownBy_re _)).le (Nat.le_succ _)⟩
    · obtain rfl : er = 0 := by omega
      exact PDup_put P.r.prc hi x id hf (by omega) _ (dPut P hN (i : Int) id)
theorem dRead (P : PI w B F c pb lb most nest s ps ns mk N) (hN : N ≤ 900) (fd n : Int) (hn : n ≤ 9223372036854775807) :
    Calls Tryz.prog 74 #[ptrV pb, .int .i64 fd, .int .i64 n] w fun e w' => ∃ t er, e = .returned (.tuple #[.string t, .int .i64 er]) ∧ PStp B F c pb lb most nest ps ns mk (N + 1) w er w' := by
  obtain ⟨id, er, hf, hc⟩ := pfind_any P fd
  by_cases her : er ≠ 0
  · refine (PRead_no _ fd n id er her hf).mono ?_
    rintro e w' ⟨rfl, hw⟩
    obtain rfl := hw.symm
    exact ⟨_, _, rfl, (P.none_ (by omega) (grownBy_re _)).le (Nat.le_succ _)⟩
  · obtain rfl : er = 0 := by omega
    refine PRead_any P.r.prc fd n id hf (fun _ er w' => PStp B F c pb lb most nest ps ns mk (N + 1) w er w') ((iRead P.r.sys P.i (by omega) id n hn).mono ?_)
    rintro e w' ⟨⟨t, er, rfl, he⟩, h⟩
    exact ⟨t, er, rfl, P.stay he h⟩
theorem dWrite (P : PI w B F c pb lb most nest s ps ns mk N) (hN : N ≤ 900) (fd : Int) (t : ByteArray) (ht : t.size ≤ 100) :
    Calls Tryz.prog 68 #[ptrV pb, .int .i64 fd, .string t] w fun e w' => ∃ er, e = .returned (.int .i64 er) ∧ PStp B F c pb lb most nest ps ns mk (N + 1) w er w' := by
  obtain ⟨id, er, hf, hc⟩ := pfind_any P fd
  by_cases her : er ≠ 0
  · refine (PWrite_no _ fd id er t her hf).mono ?_
    rintro e w' ⟨rfl, hw⟩
    obtain rfl := hw.symm
    exact ⟨_, rfl, (P.none_ (by omega) (grownBy_re _)).le (Nat.le_succ _)⟩
  · obtain rfl : er = 0 := by omega
    refine PWrite_any P.r.prc fd id t hf (fun er w' => PStp B F c pb lb most nest ps ns mk (N + 1) w er w') ((iWrite P.r.sys P.i (by omega) id t ht).mono ?_)
    rintro e w' ⟨⟨er, rfl, he⟩, h⟩
    exact ⟨er, rfl, P.stay he h⟩
theorem dSetMask (P : PI w B F c pb lb most nest s ps ns mk N) (x : Int) :
    Calls Tryz.prog 76 #[ptrV pb, .int .i64 x] w fun e w' => ∃ er, e = .returned (.int .i64 er) ∧ PStp B F c pb lb most nest ps ns mk N w er w' := by
  by_cases hx : x < 0 ∨ 511 < x
  · refine (PSetMask_bad P.r.prc x hx).mono ?_
    rintro e w' ⟨rfl, hw⟩
    obtain rfl := hw.symm
    exact ⟨_, rfl, P.none_ (by decide) (grownBy_re _)⟩
  · exact PSetMask_any P.r.prc x (by omega) (by omega) _ (chg_mask P.r P.i P.l P.m)
end
end Go.Proofs.YtfofpphnglhopaaGreatDoor
namespace Go.Proofs.YtfofpphnglhopaaGreatDoor
open Go Go.RowKit Go.ChangeMaps
section
variable {B pb lb most nest : Nat} {F : Nat → Prop} {w : World} {c : Sy} {s : St} {ps : List Pt} {ns : List (Nat × Pt)} {mk : List Nat}
theorem pr_sys1 (h : PrR w B F c pb lb most nest s ps ns mk) {f : Nat} {args : Array Value} {P : Ending → Prop} {s' : St} (hc : Calls Tryz.prog f args w fun e w' => P e ∧ ∃ F', Sys w' F' c s' ∧ Chg F F' w w') :
    Calls Tryz.prog f args w fun e w' => P e ∧ ∃ F', PrR w' B F' c pb lb most nest s' ps ns mk ∧ PCh B F F' pb w w' := by
  refine hc.mono ?_
  rintro e w' ⟨hP, F', h1, h2⟩
  obtain ⟨F'', h3, h4⟩ := h.sysStep h1 h2
  exact ⟨hP, F'', h3, h4⟩
theorem pr_walk (h : PrR w B F c pb lb most nest s ps ns mk) (T : TOk s.nds) (a : Int) (t : ByteArray) (ht : t.size ≤ 1000000) (fo : Bool) :
    Calls Tryz.prog 69 #[.pointer (some ⟨c.fb, 0, none⟩), .int .i64 a, .string t, .bool fo] w fun e w' => e = .returned (.tuple #[.int .i64 (WalkQ s.nds a (tl t) fo).1, .int .i64 (WalkQ s.nds a (tl t) fo).2]) ∧ w.grownBy w' none := by
  obtain ⟨Ft, Fp, Fh, hR, _⟩ := h.sys
  obtain ⟨lab, mb, mem, hT, _⟩ := hR.tree
  exact Walk_any hT T fo a t ht
theorem open_one (h : PrR w B F c pb lb most nest s ps ns mk) (T : TOk s.nds) {x : Pn} {l : List (ByteArray × Nat)} (hx : look s.nds 1 = some x) (hxk : x.kind = 1) (hxp : x.par = 1) (hxn : x.nms = some l) (ch : UInt8) (h0 : ch ≠ 0) (h46 : ch ≠ 46) (h47 : ch ≠ 47) (hl : look l (nm1 ch) = none)
    (hWk : WalkQ s.nds 1 [ch] true = (0, 10)) (m : Nat) (h1m : 2 ≤ m) (hmm : m ≤ 1000000) (hm : look s.nds (m : Int) = none) (hall : ∀ j : Nat, 1 ≤ j → j < m → ∃ x, look s.nds (j : Int) = some x) (hmany : s.nds.length < c.most) (hroom : usedN s.nds ≤ c.room)
    {dn : Nat} (hd : ps[16]? = some ⟨1, dn⟩) {p : Pt} (hp : ps[1]? = some p) (hpn : p.n = mk.length) (hpv : p.v = 0) (hxs : s.xs = []) (htop : s.top < 100000)
    {nds1 : Nds} (hn1 : made s.nds x l (nm1 ch) m 2 [] = nds1) (hy : look nds1 (m : Int) = some (leafN 2 [])) (hu : usedN (upd nds1 (m : Int) { leafN 2 [] with holds := 1 }) ≤ 1000000) (hy2 : look (upd nds1 (m : Int) { leafN 2 [] with holds := 1 }) (m : Int) = some { leafN 2 [] with holds := 1 }) :
    Calls Tryz.prog 67 #[ptrV pb, .int .i64 1, .string (nm1 ch), .int .i64 2] w fun e w' => e = .returned (.int .i64 0) ∧ ∃ F', PrR w' B F' c pb lb most nest
      { s with nds := upd (upd nds1 (m : Int) { leafN 2 [] with holds := 1 }) (m : Int) { leafN 2 [] with holds := 1 }, hs := s.hs ++ [(((s.top + 1 : Nat) : Int), ⟨1, .file (m : Int) 0 false true false⟩)], top := s.top + 1, xs := [] } (ps.set 1 ⟨((s.top + 1 : Nat) : Int), p.n⟩) ns mk ∧ PCh B F F' pb w w' := by
  obtain ⟨S3, hS3⟩ : ∃ S3 : St, { s with nds := upd (upd nds1 (m : Int) { leafN 2 [] with holds := 1 }) (m : Int) { leafN 2 [] with holds := 1 }, hs := s.hs ++ [(((s.top + 1 : Nat) : Int), ⟨1, .file (m : Int) 0 false true false⟩)], top := s.top + 1, xs := [] } = S3 := ⟨_, rfl⟩
  rw [hS3]
  have hO := openFile_any (pb := pb) (lb := lb) (ps := ps) h.prc hd (nm1 ch) 2 (by decide) (by decide) 0 10
    (fun n er w' => er = 0 ∧ n = (m : Int) ∧ ∃ F', PrR w' B F' c pb lb most nest { s with nds := nds1 } ps ns mk ∧ PCh B F F' pb w w')
    (fun n id er w' => n = (m : Int) ∧ er = 0 ∧ id = ((s.top + 1 : Nat) : Int) ∧ ∃ F', PrR w' B F' c pb lb most nest { s with nds := upd nds1 (m : Int) { leafN 2 [] with holds := 1 }, hs := s.hs ++ [(((s.top + 1 : Nat) : Int), ⟨1, .file (m : Int) 0 false true false⟩)], top := s.top + 1, xs := [] } ps ns mk ∧ PCh B F F' pb w w')
    (fun id er w' => er = 0 ∧ id = ((s.top + 1 : Nat) : Int) ∧ ∃ F', PrR w' B F' c pb lb most nest S3 ps ns mk ∧ PCh B F F' pb w w')
    (fun w1 g1 => by
      have hw := pr_walk (h.grown g1).1 T 1 (nm1 ch) (show (1 : Nat) ≤ 1000000 by decide) true
      rw [show tl (nm1 ch) = [ch] from rfl, hWk] at hw
      exact hw.mono fun e w' ⟨e1, e2⟩ => ⟨e1, grownBy_tr g1 e2⟩)
    (fun w' _ hn => absurd ⟨rfl, by decide⟩ hn)
    (fun _ _ w1 g1 => by
      obtain ⟨q1, q2⟩ := h.grown g1
      have hmk := pr_sys1 q1 (P := fun e => e = .returned (.tuple #[.int .i64 (m : Int), .int .i64 0])) (s' := { s with nds := nds1 }) (by
        have := sys_tree q1.sys (fun Ft hT => make_leaf hT hx hxk hxp hxn ch h0 h46 h47 hl m h1m hmm hm hall hmany 2 (.inl rfl) ⟨#[]⟩ (by decide) (by show usedN s.nds + 0 ≤ _; omega))
        rw [show made s.nds x l (nm1 ch) m 2 (tl ⟨#[]⟩) = nds1 from hn1] at this
        exact this)
      exact hmk.mono fun e w' ⟨e1, F', e2, e3⟩ => ⟨_, _, e1, rfl, rfl, F', e2, q2.trans e3⟩)
    (fun n er w1 ⟨_, _, F', q, _⟩ => q.prc)
    (fun n er w1 ⟨q, _⟩ hne => absurd q hne)
    (fun n w1 w2 ⟨_, hn, F1, q1, q2⟩ g => by
      subst hn
      obtain ⟨q3, q4⟩ := q1.grown g
      have hf := pr_sys1 q3 (sys_File_w q3.sys hxs htop (n := (m : Int)) hy rfl (by decide) (by decide) false)
      exact hf.mono fun e w' ⟨e1, F', e2, e3⟩ => ⟨_, _, e1, rfl, rfl, rfl, F', e2, (q2.trans q4).trans e3⟩)
    (fun n id er w1 ⟨_, _, _, F', q, _⟩ => q.prc)
    (fun _ n id w1 ⟨hn, _, hid, F1, q1, q2⟩ => by
      subst hn
      have hf := pr_sys1 q1 (sys_tree q1.sys (fun Ft hT => node_cut0 hT hy2 rfl hu))
      exact hf.mono fun e w' ⟨e1, F', e2, e3⟩ => ⟨⟨_, e1⟩, rfl, hid, F', hS3 ▸ e2, q2.trans e3⟩)
    (fun n id er w1 ⟨_, he, _⟩ hc => absurd he (hc.resolve_right (by decide)))
  refine (POpen_any h.prc (i := 1) (by decide) (nm1 ch) 2 (by decide) (by decide) _ (fun er w' => er = 0 ∧ ∃ F', PrR w' B F' c pb lb most nest
      S3 (ps.set 1 ⟨((s.top + 1 : Nat) : Int), p.n⟩) ns mk ∧ PCh B F F' pb w w') hO (fun id er w1 ⟨q, _⟩ hne => absurd q hne) (fun id w1 ⟨_, hid, F1, q1, q2⟩ => ⟨q1.prc.lt, ?_⟩)).mono ?_
  · subst hid
    refine (change_now_fd q1 hp hpn _ (fun w' => ∃ F', PrR w' B F' c pb lb most nest S3 (ps.set 1 ⟨((s.top + 1 : Nat) : Int), p.n⟩) ns mk ∧ PCh B F F' pb w w') (fun w2 q3 q4 => ?_)).mono ?_
    · rw [hpv]
      refine (unref_zero _ w2).mono ?_
      rintro e w' ⟨rfl, hw⟩
      obtain rfl := hw.symm
      exact ⟨rfl, _, q3, q2.trans q4⟩
    · rintro e w' ⟨rfl, q⟩
      exact ⟨_, rfl, rfl, q⟩
  · rintro e w' ⟨er, rfl, rfl, q⟩
    exact ⟨rfl, q⟩
end
section
variable {B pb lb most nest : Nat} {F F' : Nat → Prop} {w w' : World} {c : Sy} {s s' : St} {ps : List Pt} {ns : List (Nat × Pt)} {mk : List Nat}
theorem PrS.sysStep (h : PrS w B F c pb lb s ps) (hs : Sys w' F' c s') (k : Chg F F' w w') : ∃ F'', PrS w' B F'' c pb lb s' ps ∧ PCh B F F'' pb w w' ∧ KeepL w w' := by
  have k2 : Chg F (fun g => F' g ∧ ¬ LogB w' g) w w' := k.mono (fun _ h => h) fun b _ hb => .inl hb.1
  have hp := PCh.of_chg k2 h.hF h.hB pb
  refine ⟨_, ⟨hs.shrink, (k.block pb h.prc.lt h.npb).trans h.prc, hp.foot pb h.prc.lt h.npb, h.len, fun g hg => hg.2, fun g hg => ?_, h.hpb, Nat.le_trans h.hB k.size⟩, hp, ⟨k.size, fun b cur t f hb ht => k.block b (Array.getElem?_eq_some_iff.1 hb).1 fun hf => h.nl b hf ⟨cur, t, f, hb, ht⟩⟩⟩
  by_cases hlt : g < w.heap.size
  · exact h.hF g (Classical.byContradiction fun hf => k.foot g hlt hf hg.1)
  · have := h.hB; omega
theorem PrS.logStep (h : PrS w B F c pb lb s ps) (k : Fr B LogT (fun _ => False) w w') : PrS w' B F c pb lb s ps ∧ PCh B F F pb w w' := by
  have hp := PCh.of_fr k F h.hB pb
  have hkeep : ∀ g, F g → w'.heap[g]? = w.heap[g]? := fun g hg => k.keep g (h.sys.lt hg) (.inr ⟨id, fun cur t f hc ht => h.nl g hg ⟨cur, t, f, hc, ht⟩⟩)
  exact ⟨⟨h.sys.keep k.size hkeep, h.prc.fr k nl_proc id, h.npb, h.len, fun g hg hq => h.nl g hg ((logB_congr (hkeep g hg)).1 hq), h.hF, h.hpb, Nat.le_trans h.hB k.size⟩, hp⟩
theorem enters_back : Enters Tryz.prog 130 := enters_of Tryz.func130 (by kernel_rfl) rfl
def UnP (w0 : World) (B : Nat) (F0 : Nat → Prop) (c : Sy) (pb lb : Nat) (fs : List Value) (ns : List (Nat × Pt)) (Q : Nat → St → List Pt → Prop) (j : Nat) (W : World) : Prop :=
  ∃ F s ps, PrS W B F c pb lb s ps ∧ PCh B F0 F pb w0 W ∧ (∀ (i : Nat) n, i < j → ns[i]? = some n → ∃ fv, fs[i]? = some fv ∧ NoteAt W F pb fv n) ∧ Q j s ps
theorem undo_gen {m : Nat} (h : PrR w B F c pb lb most nest s ps ns (mk ++ [m])) (hm : m ≤ ns.length) (Q : Nat → St → List Pt → Prop) (h0 : Q ns.length s ps)
    (step : ∀ j W F' s' ps' i q p, ns[j]? = some (i, q) → m ≤ j → PrS W B F' c pb lb s' (ps'.set i q) → Q (j + 1) s' ps' → ps'[i]? = some p →
      (i < 16 → (p.v = 0 → Q j s' (ps'.set i q)) ∧ (p.v ≠ 0 → Calls Tryz.prog 37 #[ptrV c.tb, .int .i64 p.v] W fun e W' => (∃ er, e = .returned (.int .i64 er)) ∧ ∃ F2 s2, Sys W' F2 c s2 ∧ Chg F' F2 W W' ∧ Q j s2 (ps'.set i q))) ∧
      (i = 16 → Calls Tryz.prog 151 #[ptrV c.fb, .int .i64 p.v] W fun e W' => (∃ er, e = .returned (.int .i64 er)) ∧ ∃ F2 s2, Sys W' F2 c s2 ∧ Chg F' F2 W W' ∧ Q j s2 (ps'.set i q)) ∧
      (i = 17 → Q j s' (ps'.set i q))) :
    Calls Tryz.prog 81 #[ptrV lb] w fun e w' => e = .returned (.int .i64 0) ∧ ∃ F' s' ps', PrR w' B F' c pb lb most nest s' ps' (ns.take m) mk ∧ PCh B F F' pb w w' ∧ Q m s' ps' := by
  obtain ⟨ms, fs, h1, h2, h3, h4, h5⟩ := h.log
  obtain ⟨ms', mm, rfl⟩ : ∃ ms' mm, ms = ms' ++ [mm] := by
    rcases List.eq_nil_or_concat ms with e | ⟨a, b, e⟩
    · subst e
      have := congrArg List.length h3
      simp at this
    · exact ⟨a, b, by simpa using e⟩
  rw [List.map_append] at h3
  obtain ⟨h3a, h3b⟩ := List.append_inj' h3 rfl
  have hmn : mm.notes = m := by simpa using h3b
  have hmc : mm.count = m := (h4 mm (by simp)).trans hmn
  refine (LogUndo_any (m := mm) h1 (by omega) (UnP w B F c pb lb fs ns Q) ⟨F, s, ps, h.less, PCh.refl B F pb w, fun i n _ hn => h5 i n hn, by rw [h2]; exact h0⟩ ?_ ?_).mono ?_
  · rintro j W W' ⟨F1, s1, ps1, q1, q2, q3, q4⟩ hfr
    obtain ⟨q5, q6⟩ := q1.logStep hfr
    exact ⟨F1, s1, ps1, q5, q2.trans q6, fun i n hi hn => by obtain ⟨fv, e1, e2⟩ := q3 i n hi hn; exact ⟨fv, e1, e2.ch q6⟩, q4⟩
  · rintro j W hj hmj ⟨F1, s1, ps1, q1, q2, q3, q4⟩
    have hjn : j < ns.length := by omega
    obtain ⟨⟨i, q⟩, hn⟩ : ∃ n, ns[j]? = some n := ⟨_, List.getElem?_eq_getElem hjn⟩
    obtain ⟨fv, e1, hi18, bx, bw, bf, e2, kx, kw, kf⟩ := q3 j _ (Nat.lt_succ_self j) hn
    rw [List.getElem?_eq_getElem hj] at e1
    obtain rfl := Option.some.inj e1
    simp only at hi18 kx kw kf
    obtain ⟨p, hp⟩ : ∃ p, ps1[i]? = some p := ⟨_, List.getElem?_eq_getElem (by rw [q1.len]; omega)⟩
    have hst := fun W1 F' => step j W1 F' s1 ps1 i q p hn (by omega)
    refine ⟨_, _, e2, enters_back, ?_⟩
    -- what stands behind the store, and behind what gives up
    have fin : ∀ W1 W' F2 s2, PrS W1 B F1 c pb lb s1 (ps1.set i q) → PCh B F1 F1 pb W W1 → KeepL W W1 → Sys W' F2 c s2 → Chg F1 F2 W1 W' → Q j s2 (ps1.set i q) → UnP w B F c pb lb fs ns Q j W' ∧ KeepL W W' := fun W1 W' F2 s2 r1 r2 r3 r4 r5 r6 => by
      obtain ⟨F3, t1, t2, t3⟩ := r1.sysStep r4 r5
      have t4 := r2.trans t2
      exact ⟨⟨F3, s2, _, t1, q2.trans t4, fun k n hk hn => by obtain ⟨fv, u1, u2⟩ := q3 k n (by omega) hn; exact ⟨fv, u1, u2.ch t4⟩, r6⟩,
        ⟨Nat.le_trans r3.size t3.size, fun b cur t f hb ht => (t3.keep b cur t f ((r3.keep b cur t f hb ht).trans hb) ht).trans (r3.keep b cur t f hb ht)⟩⟩
    rcases (by omega : i < 16 ∨ i = 16 ∨ i = 17) with hi | hi | hi
    · refine back_fd q1 hi hp kx kw kf _ fun W1 r1 r2 r3 => ?_
      obtain ⟨z1, z2⟩ := (hst W1 F1 r1 q4 hp).1 hi
      by_cases hv : p.v = 0
      · rw [hv]
        refine (unref_zero _ W1).mono ?_
        rintro e W' ⟨rfl, hw⟩
        obtain rfl := hw.symm
        exact ⟨rfl, fin _ _ _ _ r1 r2 r3 r1.sys (Chg.refl _ _) (z1 hv)⟩
      · refine unref_call r1.prc p.v hv _ ?_
        refine (z2 hv).mono ?_
        rintro e W' ⟨he, F2, s2, t1, t2, t3⟩
        exact ⟨he, fin _ _ _ _ r1 r2 r3 t1 t2 t3⟩
    · refine back_dir q1 hi hp kx kw kf _ fun W1 r1 r2 r3 => ?_
      refine pdrop_call r1.prc p.v _ ?_
      refine ((hst W1 F1 r1 q4 hp).2.1 hi).mono ?_
      rintro e W' ⟨he, F2, s2, t1, t2, t3⟩
      exact ⟨he, fin _ _ _ _ r1 r2 r3 t1 t2 t3⟩
    · refine back_mask q1 hi hp kx kw kf _ fun W1 r1 r2 r3 => ?_
      refine (mask1_call p.v W1).mono ?_
      rintro e W' ⟨rfl, hw⟩
      obtain rfl := hw.symm
      exact ⟨rfl, fin _ _ _ _ r1 r2 r3 r1.sys (Chg.refl _ _) ((hst _ F1 r1 q4 hp).2.2 hi)⟩
  · rintro e w' ⟨rfl, hL, F1, s1, ps1, q1, q2, q3, q4⟩
    rw [hmn] at hL q3 q4
    rw [hmc] at hL
    refine ⟨rfl, F1, s1, ps1, ⟨q1.sys, ⟨ms', fs.take m, ?_, ?_, h3a, fun x hx => h4 x (by simp [hx]), fun j n hn => ?_⟩, q1.prc, q1.npb, q1.len, q1.nl, q1.hF, q1.hpb⟩, q2, q4⟩
    · rw [List.length_take, Nat.min_eq_left hm]; exact hL
    · rw [List.length_take, List.length_take, h2]
    · have hj : j < m := by
        have := (List.getElem?_eq_some_iff.1 hn).1
        rw [List.length_take] at this
        omega
      rw [List.getElem?_take_of_lt hj] at hn
      obtain ⟨fv, e1, e2⟩ := q3 j n hj hn
      exact ⟨fv, by rw [List.getElem?_take_of_lt hj]; exact e1, e2⟩
end
def psX : List Pt := ⟨0, 0⟩ :: ⟨5, 0⟩ :: (List.replicate 14 ⟨0, 0⟩ ++ [⟨1, 0⟩, ⟨18, 0⟩])
theorem infoI9 : (Tryz.prog.info? 3).map (fun i => (i.zero, i.size, i.bytes)) = some (some (.int .i64 0), 1, 8) := by kernel_rfl
theorem wpList_index_of {ops : Array Oper} {rest : List Oper} {o : Oper} {a : Act} {w : World} {Q : Exit → Act → World → Prop} (hgd : o.guard = none) (ty : TypeId) (x i : Operand) (ho : o.op = .index ty x i) (v y r : Value) (hx : a.eval x = v) (hi : a.eval i = y)
    (hrun : (Instr.index ty v y).run Tryz.prog w = .ok r w) (h : wpList Tryz.prog ops Q rest (a.put o.dst r) w) : wpList Tryz.prog ops Q (o :: rest) a w :=
  wpList_plain hgd fun _ hK => by
    unfold Oper.wp execOp
    simp only [ho, hx, hi, Sem.run_bind, Sem.run_pure, Result.andThen_ok, hrun]
    exact hK _ _ h
def fdsL : List Value := .int .i64 0 :: .int .i64 0 :: .int .i64 5 :: List.replicate 29 (.int .i64 0)
theorem idxFd1 (w : World) : (Instr.index 124 (.agg fdsL.toArray) (.int .i64 1)).run Tryz.prog w = .ok (.agg #[.int .i64 5, .int .i64 0]) w := by kernel_rfl
theorem idxFd (w : World) (k : Int) (h : 0 ≤ k ∧ k < 16 ∧ k ≠ 1) : (Instr.index 124 (.agg fdsL.toArray) (.int .i64 k)).run Tryz.prog w = .ok (.agg #[.int .i64 0, .int .i64 0]) w := by
  rcases (by omega : k = 0 ∨ k = 2 ∨ k = 3 ∨ k = 4 ∨ k = 5 ∨ k = 6 ∨ k = 7 ∨ k = 8 ∨ k = 9 ∨ k = 10 ∨ k = 11 ∨ k = 12 ∨ k = 13 ∨ k = 14 ∨ k = 15) with rfl | rfl | rfl | rfl | rfl | rfl | rfl | rfl | rfl | rfl | rfl | rfl | rfl | rfl | rfl <;> kernel_rfl
theorem Fds_one {w : World} {pb fb tb lb : Nat} (hp : PB w pb fb tb lb psX) : Calls Tryz.prog 32 #[ptrV pb] w fun e w' => (∃ A c, e = .returned (.slice A 1 c)) ∧ w.grownBy w' none := by
  obtain ⟨i0, hi, hz0, hz1, hz2⟩ := info_parts infoI9
  have hn := pisNil_no hp
  have hpl := hp.lt
  have hrg : w.rangeAt pb 3 fdsL := fun j v hv => hp.cell (i := 3 + j) (by
      have hj : j < 32 := (List.getElem?_eq_some_iff.1 hv).1
      rw [show (procC fb tb lb psX)[3 + j]? = (fdsL ++ [.int .i64 1, .int .i64 0, .int .i64 18, .int .i64 0])[j]? from by
        rw [show 3 + j = j + 1 + 1 + 1 by omega]; rfl]
      rw [← hv]
      rw [List.getElem?_append_left (show j < fdsL.length from hj)])
  replace hrg := Lib.hid hrg
  unfold ptrV at hn ⊢
  replace hi := Lib.hid hi
  clear hp
  go_enter Tryz.func32, Tryz.ntmps32
  go_wp2_with fail
  refine hn.mono ?_
  rintro e w' ⟨rfl, hw⟩
  obtain rfl := hw.symm
  clear hn hw
  go_wp2_with (refine wpList_load_mid rfl 124 _ rfl pb 3 rfl fdsL _ hrg.out Tryz.underlying124 rfl (by kernel_rfl) ?_)
  clear hrg hpl
  go_loopw [12, 3] (fun kv ov wr => ∃ k : Int, 0 ≤ k ∧ k ≤ 16 ∧ kv = .int .i64 k ∧ Hid (k ≤ 1 → ov = .slice none 0 0) ∧ Hid (1 < k → ∃ A c, ov = .slice A 1 c) ∧ Hid (w.grownBy wr none)) (fun kv _ _ => 16 - (intOf kv).toNat)
  case atStart => exact ⟨0, by omega, by omega, rfl, Lib.hid fun _ => rfl, Lib.hid fun h => by omega, Lib.hid (grownBy_re w)⟩
  case round =>
    obtain ⟨k, hk0, hk, rfl, h1, h2, hg⟩ := hrel
    by_cases hk1 : k = 16
    · subst hk1
      obtain ⟨A, c, rfl⟩ := h2.out (by omega)
      clear h1 h2
      go_wp2
      go_ret
      exact ⟨⟨_, _, rfl⟩, hg.out⟩
    by_cases hk2 : k = 1
    · subst hk2
      obtain rfl := h1.out (by omega)
      clear h1 h2 hk hk1 hk0
      have gA : wr.grownBy (wr.alloc (.cells #[.int .i64 5, .int .i64 0] 123)) none := World.grownBy_alloc wr _ _
      have bA : Blk (wr.alloc (.cells #[.int .i64 5, .int .i64 0] 123)) wr.heap.size [.int .i64 5, .int .i64 0] 123 := Blk.new wr _ _
      go_upto_region 8 with (refine wpList_index_of rfl 124 _ _ rfl _ _ _ rfl rfl (idxFd1 _) ?_)
      try generalize (wr.alloc (.cells #[.int .i64 5, .int .i64 0] 123)) = w3 at gA bA ⊢
      have hg3 := grownBy_tr hg.out gA
      have hrow2 : (w3.alloc (.cells #[.int .i64 1] 3)).ownsRow w3.heap.size 3 1 (.slice none 0 0) 0 [] := World.ownsRow_nil _ _ _ _
      have hB2 : ∀ j u, ([.int .i64 1] : List Value)[j]? = some u → (w3.alloc (.cells #[.int .i64 1] 3)).cell? ((⟨w3.heap.size, 0, none⟩ : Addr).add j) = some u := by
        intro j u hu
        rw [add_plain0, Nat.zero_add]
        exact (Blk.new w3 [.int .i64 1] 3).cell hu
      obtain ⟨g, cap, w5, hrun, hrow3, hgr3, hat, hgl⟩ := run_append_lies (P := Tryz.prog) (w3.alloc (.cells #[.int .i64 1] 3)) 54 54 w3.heap.size 3 i0 _ 1 8 Tryz.underlying54 hi.out hz0 hz1 hz2 rfl (by decide)
        (.slice none 0 0) 0 [] hrow2 ⟨w3.heap.size, 0, none⟩ 1 1 [.int .i64 1] rfl hB2 (by simp [Value.oneCell']) (by decide) (by decide) (by decide) (by simp) (w3.heap.size + 1) (by simp)
      have hg4 : Hid (w.grownBy w5 none) := Lib.hid (grownBy_tr hg3 ((World.grownBy_alloc w3 _ none).trans hgr3))
      replace hrow3 := Lib.hid hrow3
      replace hrun := Lib.hid hrun
      clear hrow2 hB2 hgr3 hat hgl hz0 hz1 hz2 hg3 gA bA hg
      go_wp2_with (at_builtin; refine wpList_append_of rfl _ _ 54 54 rfl _ _ _ w5 rfl rfl hrun.out ?_)
      go_wp2
      go_roundw
      case rel => exact ⟨2, by omega, by omega, by go_num, Lib.hid fun h => by omega, Lib.hid fun _ => ⟨_, _, rfl⟩, hg4⟩
      case measure => simp [intOf]
    · have hov : Hid (k + 1 ≤ 1 → _ = Value.slice none 0 0) := Lib.hid fun h => h1.out (by omega)
      have hov2 : Hid (1 < k + 1 → ∃ A c, _ = Value.slice A 1 c) := Lib.hid fun h => h2.out (by omega)
      clear h1 h2
      have gA : wr.grownBy (wr.alloc (.cells #[.int .i64 0, .int .i64 0] 123)) none := World.grownBy_alloc wr _ _
      have hg4 : Hid (w.grownBy (wr.alloc (.cells #[.int .i64 0, .int .i64 0] 123)) none) := Lib.hid (grownBy_tr hg.out gA)
      clear gA hg
      have hk3 : 0 ≤ k ∧ k < 16 ∧ k ≠ 1 := by omega
      clear hk hk1 hk2 hk0
      go_wp2_with (refine wpList_index_of rfl 124 _ _ rfl _ _ _ rfl rfl (idxFd _ k hk3) ?_)
      have hk4 := hk3.2.1
      have hk5 := hk3.1
      go_wp2
      go_roundw
      case rel => exact ⟨k + 1, by omega, by omega, by go_num, hov, hov2, hg4⟩
      case measure => simp [intOf]; omega
end Go.Proofs.YtfofpphnglhopaaGreatDoor
