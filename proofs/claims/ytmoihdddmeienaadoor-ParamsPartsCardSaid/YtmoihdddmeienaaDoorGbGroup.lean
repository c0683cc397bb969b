/-
  group reads what is behind a [ . Conditions: at most a million bytes.
-/
import Derived.Test.YtmoihdddmeienaaDoorGbScan
import Derived.Test.YtmoihdddmeienaaDoorMkAppend
namespace Go.Proofs.YtmoihdddmeienaaDoor
open Go Go.RowKit

theorem infoRg : (Tryd.prog.info? 137).map (fun i => (i.zero, i.size, i.bytes)) = some (some (.agg #[.int .u8 0, .int .u8 0]), 2, 2) := by kernel_rfl
abbrev zit : Array Value := #[.int .i64 0, .int .u8 0, .bool false, .slice none 0 0]
/-- What group answers. -/
def GroupPost (w : World) (rb pb B : Nat) (A : Option Addr) (c : Nat) (l : List Ch) (path : Bool) (i : Nat) (e : Ending) (w' : World) : Prop :=
  ∃ ps', Rd w' rb pb B A c l path ps' ∧ w.grownBy w' (some pb) ∧
    ((groupP path l i = none ∧ e = .returned (.tuple #[.agg zit, .int .i64 0]) ∧ Pin path l ps' i) ∨
     (∃ (rs : List Rg) (n : Nat) (v : Value), groupP path l i = some ((4, 0, bareAt l i 33, rs), n) ∧ e = .returned (.tuple #[.agg #[.int .i64 4, .int .u8 0, .bool (bareAt l i 33), v], .int .i64 (n : Int)]) ∧
        w'.ownsRow w.heap.size 137 2 v rs.length (cellsRg rs) ∧ Pin path l ps' (i + n)))

/-- The state of group's loop. -/
def GrpAt (path : Bool) (l : List Ch) (b k : Nat) (fst : Bool) (acc : List Rg) : Prop :=
  if fst then acc = [] ∧ k = b else (bareAt l k 93 = true → scan path l b = some (acc, k + 1)) ∧ (bareAt l k 93 = false → scan path l b = (scan path l k).map fun r => (acc ++ r.1, r.2))
theorem grpAt_next {path : Bool} {l : List Ch} {b k : Nat} {fst : Bool} {acc : List Rg} (h : GrpAt path l b k fst acc) (hb : Fb l k fst) (hk : k < l.length) (h0 : ¬ (thingP path l k).2 = 0) :
    GrpAt path l b (k + (thingP path l k).2) false (acc ++ (thingP path l k).1) := by
  have hs : scan path l b = (scan path l k).map fun r => (acc ++ r.1, r.2) := by
    unfold GrpAt at h
    cases fst with
    | true =>
      simp only [if_true] at h
      rw [h.1, h.2]
      cases scan path l b <;> simp
    | false =>
      simp only [Bool.false_eq_true, if_false] at h
      exact h.2 (by simpa [Fb] using hb)
  have he := scan_eq (path := path) hk
  rw [if_neg h0] at he
  unfold GrpAt
  rw [if_neg (by simp)]
  constructor
  · intro hb2
    rw [hs, he, if_pos hb2]
    rfl
  · intro hb2
    rw [hs, he, if_neg (by simp [hb2])]
    cases scan path l (k + (thingP path l k).2) <;> simp
theorem grpAt_fail {path : Bool} {l : List Ch} {b k : Nat} {fst : Bool} {acc : List Rg} (h : GrpAt path l b k fst acc) (hb : Fb l k fst) (hs : scan path l k = none) : scan path l b = none := by
  unfold GrpAt at h
  cases fst with
  | true => simp only [if_true] at h; rw [← h.2]; exact hs
  | false =>
    simp only [Bool.false_eq_true, if_false] at h
    rw [h.2 (by simpa [Fb] using hb), hs]
    rfl
theorem grown_alloc {w w' : World} {r : Option Nat} (h : w.grownBy w' r) (o : Obj) : w.grownBy (w'.alloc o) r :=
  ⟨h.os, h.tape, h.output, by have := h.size; simp; omega, fun k hk hn => (Below.heap_alloc w' o k (by have := h.size; omega)).trans (h.block k hk hn)⟩
theorem grown_set_new {w w' : World} {r : Option Nat} (h : w.grownBy w' r) {p : Addr} (hp : w.heap.size ≤ p.block) (v : Value) : w.grownBy (w'.setCell p v) r :=
  ⟨h.os, h.tape, h.output, by have := h.size; simpa [World.setCell] using this, fun k hk hn => (heap_setCell_other w' p k v (by omega)).trans (h.block k hk hn)⟩
/-- Four cells of a block, written. -/
abbrev set4 (w : World) (g : Nat) (a b c d : Value) : World := (((w.setCell ⟨g, 0, none⟩ a).setCell ⟨g, 1, none⟩ b).setCell ⟨g, 2, none⟩ c).setCell ⟨g, 3, none⟩ d
theorem own_ne_block3 {w : World} {base : Nat} {e t : TypeId} {size n g : Nat} {v : Value} {xs : List Value} {cs : Array Value} {fr : Nat × Nat} (h : w.ownsRow base e size v n xs) (hg : w.heap[g]? = some (.cells cs t fr)) (hne : t ≠ e) : v.ownBlock ≠ some g := by
  rcases h.2 with ⟨rfl, _⟩ | ⟨g', cap, cur, rfl, _, hg', _⟩
  · simp [Value.ownBlock]
  · intro he
    have : g = g' := by simpa [Value.ownBlock] using he.symm
    subst this
    rw [hg] at hg'
    injection hg' with hg'
    injection hg' with _ ht
    exact hne ht
theorem set4_heap {w : World} {g : Nat} {x0 x1 x2 x3 a b c d : Value} {t : TypeId} (h : w.heap[g]? = some (.cells #[x0, x1, x2, x3] t (0, 0))) : (set4 w g a b c d).heap[g]? = some (.cells #[a, b, c, d] t (0, 0)) := by
  have h1 := heap_setCell_same _ _ 0 _ _ a h
  have h2 := heap_setCell_same _ _ 1 _ _ b h1
  have h3 := heap_setCell_same _ _ 2 _ _ c h2
  have h4 := heap_setCell_same _ _ 3 _ _ d h3
  exact h4
theorem set4_other (w : World) (g k : Nat) (a b c d : Value) (h : k ≠ g) : (set4 w g a b c d).heap[k]? = w.heap[k]? := by
  unfold set4
  rw [heap_setCell_other _ ⟨g, 3, none⟩ k _ h, heap_setCell_other _ ⟨g, 2, none⟩ k _ h, heap_setCell_other _ ⟨g, 1, none⟩ k _ h, heap_setCell_other _ ⟨g, 0, none⟩ k _ h]
theorem set4_grown (w : World) (g : Nat) (a b c d : Value) : w.grownBy (set4 w g a b c d) (some g) :=
  ⟨rfl, rfl, rfl, by simp [World.setCell], fun k _ hn => set4_other w g k a b c d (fun e => hn (by rw [e]))⟩
theorem set4_cells {w : World} {g : Nat} {a b c d : Value} {t : TypeId} (h : (set4 w g a b c d).heap[g]? = some (.cells #[a, b, c, d] t (0, 0))) :
    (set4 w g a b c d).cell? ⟨g, 0, none⟩ = some a ∧ (set4 w g a b c d).cell? ⟨g, 1, none⟩ = some b ∧ (set4 w g a b c d).cell? ⟨g, 2, none⟩ = some c ∧ (set4 w g a b c d).cell? ⟨g, 3, none⟩ = some d := by
  refine ⟨?_, ?_, ?_, ?_⟩ <;> (rw [cell_of_row _ _ _ _ _ _ h]; rfl)
theorem grown_set4 {w w' : World} {r : Option Nat} (h : w.grownBy w' r) {g : Nat} (hg : w.heap.size ≤ g) (a b c d : Value) : w.grownBy (set4 w' g a b c d) r :=
  ⟨h.os, h.tape, h.output, by have := h.size; simpa [World.setCell] using this, fun k hk hn => (set4_other w' g k a b c d (by omega)).trans (h.block k hk hn)⟩
theorem rd_grow2 {w w' : World} {rb pb B g : Nat} {A : Option Addr} {c : Nat} {l : List Ch} {path : Bool} {ps : List Bool} (h : Rd w rb pb B A c l path ps) (hg : w.grownBy w' (some g)) (hr : g ≠ rb) (hp : g ≠ pb) (hB : B ≤ g) : Rd w' rb pb B A c l path ps :=
  ⟨(hg.block rb h.rlt (by intro e; injection e with e; exact hr e.symm)).trans h.rd, h.tx.keep fun q hq => World.cell?_of_block (hg.block q.block (by have := h.low; have := h.plt; omega) (by intro e; injection e with e; omega)), h.low, (hg.block pb h.plt (by intro e; injection e with e; exact hp e.symm)).trans h.row, h.len, h.ne⟩

theorem rd_low {w w' : World} {rb pb B N : Nat} {A : Option Addr} {c : Nat} {l : List Ch} {path : Bool} {ps : List Bool} (h : Rd w rb pb B A c l path ps) (hb : Below N w w') (hr : rb < N) (hp : pb < N) (hB : B ≤ N) : Rd w' rb pb B A c l path ps :=
  ⟨(hb.block rb hr).trans h.rd, h.tx.below (hb.mono hB), h.low, (hb.block pb hp).trans h.row, h.len, h.ne⟩
theorem grown_low {w w' w2 : World} {r : Option Nat} (h : w.grownBy w' r) (hb : Below w.heap.size w' w2) : w.grownBy w2 r :=
  ⟨hb.os.trans h.os, hb.tape.trans h.tape, hb.output.trans h.output, by have := h.size; have := hb.size; omega, fun k hk hn => (hb.block k hk).trans (h.block k hk hn)⟩
theorem own_form {w : World} {base : Nat} {e : TypeId} {size n : Nat} {v : Value} {xs : List Value} (h : w.ownsRow base e size v n xs) : ∃ A m c, v = .slice A m c := by
  rcases h.2 with ⟨rfl, _⟩ | ⟨g, cap, cur, rfl, _⟩
  · exact ⟨_, _, _, rfl⟩
  · exact ⟨_, _, _, rfl⟩

set_option maxHeartbeats 4000000 in
set_option maxRecDepth 100000 in
theorem group_any {w : World} {rb pb B : Nat} {A : Option Addr} {c : Nat} {l : List Ch} {path : Bool} {ps : List Bool} (h : Rd w rb pb B A c l path ps) (i : Nat) (hpin : Pin path l ps i) (hl : l.length ≤ 1000000) (hi : i ≤ l.length) :
    Calls Tryd.prog 61 #[.pointer (some ⟨rb, 0, none⟩), .int .i64 (i : Int)] w (GroupPost w rb pb B A c l path i) := by
  obtain ⟨j0, hj, hy0, hy1, hy2⟩ := info_parts infoRg
  have hrlt := h.rlt
  have hplt := h.plt
  have h1 : Rd (w.alloc (.cells zit 72)) rb pb B A c l path ps := h.below ((Below.refl _ _).alloc (Nat.le_refl _) _)
  obtain ⟨no, hno⟩ : ∃ no, bareAt l i 33 = no := ⟨_, rfl⟩
  have hb1 := bare_any h1 i 33 hl (by omega)
  rw [hno] at hb1
  have hG : groupP path l i = (scan path l (if no then i + 1 else i)).map fun r => ((4, 0, no, r.1), r.2 - i) := by unfold groupP; rw [hno]
  obtain ⟨b, hbdef⟩ : ∃ b, b = (if no then i + 1 else i) := ⟨_, rfl⟩
  rw [← hbdef] at hG
  have hG := Lib.hid hG
  have hbi : i ≤ b ∧ b ≤ l.length ∧ b ≤ i + 1 := by
    rw [hbdef]
    cases no with
    | true => have := bareAt_lt hno; simp; omega
    | false => simp; omega
  have hnoH := Lib.hid hno
  go_enter Tryd.func61, Tryd.ntmps61
  go_wp2_with fail
  refine hb1.mono ?_
  rintro e w1 ⟨rfl, rfl⟩
  clear hb1
  go_upto_if 17 with fail
  go_cut [6] from 18 to 19 (fun s6 wx => s6 = .int .i64 (b : Int) ∧ wx = (w.alloc (.cells zit 72)).alloc (.cells #[.int .i64 4, .int .u8 0, .bool no, .slice none 0 0] 72))
  case first =>
    cases no
    · go_wp2
      go_meet
      exact ⟨by rw [hbdef]; rfl, rfl⟩
    · go_wp2
      go_meet
      exact ⟨by rw [hbdef]; go_num, rfl⟩
  case rest =>
    obtain ⟨rfl, rfl⟩ := hcut
    have hR0 : ((w.alloc (.cells zit 72)).alloc (.cells #[.int .i64 4, .int .u8 0, .bool no, .slice none 0 0] 72)).heap[w.heap.size]? = some (.cells zit 72 (0, 0)) := by
      rw [Below.heap_alloc _ _ _ (by simp)]
      exact heap_alloc_new w _
    have hO0 : ((w.alloc (.cells zit 72)).alloc (.cells #[.int .i64 4, .int .u8 0, .bool no, .slice none 0 0] 72)).heap[w.heap.size + 1]? = some (.cells #[.int .i64 4, .int .u8 0, .bool no, .slice none 0 0] 72 (0, 0)) := by
      have := heap_alloc_new (w.alloc (.cells zit 72)) (.cells #[.int .i64 4, .int .u8 0, .bool no, .slice none 0 0] 72)
      rw [World.size_alloc] at this
      exact this
    have hRd0 : Rd ((w.alloc (.cells zit 72)).alloc (.cells #[.int .i64 4, .int .u8 0, .bool no, .slice none 0 0] 72)) rb pb B A c l path ps := h1.below ((Below.refl _ _).alloc (Nat.le_refl _) _)
    have hGr0 : w.grownBy ((w.alloc (.cells zit 72)).alloc (.cells #[.int .i64 4, .int .u8 0, .bool no, .slice none 0 0] 72)) (some pb) := grown_alloc (grown_alloc (World.grownBy.refl w _) _) _
    have hmid0 := Lib.hid (pmid_start (k := b) (f := true) hpin)
    clear h1 hbdef hno
    go_wp2_with fail
    go_loopw [6, 8] (fun at_ fs wr => ∃ (k : Nat) (f : Bool) (acc : List Rg) (v : Value) (ps' : List Bool), at_ = .int .i64 k ∧ fs = .bool f ∧ b ≤ k ∧ k ≤ l.length ∧ acc.length ≤ 4 * k ∧ wr.heap[w.heap.size]? = some (.cells zit 72 (0, 0)) ∧ wr.heap[w.heap.size + 1]? = some (.cells #[.int .i64 4, .int .u8 0, .bool no, v] 72 (0, 0)) ∧ wr.ownsRow w.heap.size 137 2 v acc.length (cellsRg acc) ∧ Rd wr rb pb B A c l path ps' ∧ w.grownBy wr (some pb) ∧ Hid (Pmid path l ps' i k f) ∧ Hid (GrpAt path l b k f acc)) (fun at_ _ _ => l.length - (intOf at_).toNat)
    case atStart => exact ⟨b, true, [], _, ps, rfl, rfl, Nat.le_refl _, hbi.2.1, by simp, hR0, hO0, World.ownsRow_nil _ _ _ _, hRd0, hGr0, hmid0.out, ⟨rfl, rfl⟩⟩
    case round =>
      clear hR0 hO0 hRd0 hGr0 hmid0
      obtain ⟨k, f, acc, v, ps', rfl, rfl, hbk, hkl, hal, hR, hO, hown, hRd, hGr, hmid, hgrp⟩ := hrel
      obtain ⟨Av, nv, cv, rfl⟩ := own_form hown
      cases f with
      | true =>
        have hfb : Hid (Fb l k true) := .inl rfl
        go_wp2_with fail
        refine (enter_any hRd k hl (by omega)).mono ?_
        rintro e w2 (⟨rfl, rfl, hpass⟩ | ⟨rfl, hlt, hRd2, hGr2⟩)
        · have hsn : scan path l k = none := by
            rcases hpass with hpass | hpass
            · exact scan_far hpass
            · exact pmid_passed hmid.out (by omega) hpass
          have hnone : Hid (groupP path l i = none) := by rw [Hid, hG.out, grpAt_fail hgrp.out hfb.out hsn]; rfl
          have hpin2 := Lib.hid (pmid_fail hmid.out hfb.out hsn)
          clear hmid hgrp hpass hsn hO hown
          have q0 : w2.cell? ⟨w.heap.size, 0, none⟩ = some (.int .i64 0) := by rw [cell_of_row w2 _ _ _ _ _ hR]; rfl
          have q1 : w2.cell? ⟨w.heap.size, 1, none⟩ = some (.int .u8 0) := by rw [cell_of_row w2 _ _ _ _ _ hR]; rfl
          have q2 : w2.cell? ⟨w.heap.size, 2, none⟩ = some (.bool false) := by rw [cell_of_row w2 _ _ _ _ _ hR]; rfl
          have q3 : w2.cell? ⟨w.heap.size, 3, none⟩ = some (.slice none 0 0) := by rw [cell_of_row w2 _ _ _ _ _ hR]; rfl
          have qf : ∀ k, w2.frozen? ⟨w.heap.size, k, none⟩ = false := fun k => frozen_of_row w2 _ _ _ _ hR
          have hcell := set4_cells (set4_heap (a := .int .i64 0) (b := .int .u8 0) (c := .bool false) (d := .slice none 0 0) hR)
          have hRd9 := rd_grow2 hRd (set4_grown w2 w.heap.size (.int .i64 0) (.int .u8 0) (.bool false) (.slice none 0 0)) (by omega) (by omega) (by have := h.low; omega)
          have hG9 := grown_set4 hGr (Nat.le_refl w.heap.size) (.int .i64 0) (.int .u8 0) (.bool false) (.slice none 0 0)
          go_wp2
          clear q0 q1 q2 q3 qf
          change bodyPost _ _ _ _ _ (set4 w2 w.heap.size (.int .i64 0) (.int .u8 0) (.bool false) (.slice none 0 0))
          generalize set4 w2 w.heap.size (.int .i64 0) (.int .u8 0) (.bool false) (.slice none 0 0) = w9 at hRd9 hG9 hcell ⊢
          obtain ⟨e0, e1, e2, e3⟩ := hcell
          exact bodyPost_ret (v := .tuple #[.agg #[.int .i64 0, .int .u8 0, .bool false, .slice none 0 0], .int .i64 0]) (by simp [results, Tryd.results61, go_sem, e0, e1, e2, e3]) rfl ⟨ps', hRd9, hG9, .inl ⟨hnone.out, rfl, hpin2.out⟩⟩
        · have hR2 := (hGr2.block w.heap.size (Array.getElem?_eq_some_iff.1 hR).1 (by intro e; injection e with e; omega)).trans hR
          have hO2 := (hGr2.block (w.heap.size + 1) (Array.getElem?_eq_some_iff.1 hO).1 (by intro e; injection e with e; omega)).trans hO
          have hown2 := hown.kept hGr2 (.inr (own_ne_block3 hown hRd.row (by decide)))
          have hGr3 := hGr.trans hGr2
          have hscan := Lib.hid (scan_eq (path := path) hlt)
          have hnext := Lib.hid (fun h0 => grpAt_next hgrp.out hfb.out hlt h0)
          have hfail := Lib.hid (fun hs => grpAt_fail hgrp.out hfb.out hs)
          have hlen4 := thing_len path l k
          have htend := thing_end (path := path) hlt
          have hpl2 := hRd2.len
          clear hRd hGr hR hO hown hGr2 hgrp
          go_wp2_with fail
          refine (thing_any hRd2 k hl hlt).mono ?_
          rintro e w3 ⟨v3, rfl, hown3, hb3⟩
          have hR3 := (hb3.block w.heap.size (Array.getElem?_eq_some_iff.1 hR2).1).trans hR2
          have hO3 := (hb3.block (w.heap.size + 1) (Array.getElem?_eq_some_iff.1 hO2).1).trans hO2
          have hownA := own_below hown2 hb3
          have hRd3 := hRd2.below hb3
          have hGr4 := hGr3.trans (below_grown hb3)
          clear hR2 hO2 hown2 hRd2 hGr3 hb3
          generalize thingP path l k = T at hown3 hscan hnext hfail hlen4 htend
          obtain ⟨tr, tn⟩ := T
          simp only at hown3 hscan hnext hfail hlen4 htend
          by_cases h0 : tn = 0
          · subst h0
            have hsn : scan path l k = none := by have := hscan.out; rw [if_pos rfl] at this; exact this
            have hnone : Hid (groupP path l i = none) := by rw [Hid, hG.out, hfail.out hsn]; rfl
            have hpin2 := Lib.hid (pmid_fail_enter hmid.out hfb.out hsn)
            clear hmid hfail hnext hscan hsn hO3 hownA hown3
            have q0 : w3.cell? ⟨w.heap.size, 0, none⟩ = some (.int .i64 0) := by rw [cell_of_row w3 _ _ _ _ _ hR3]; rfl
            have q1 : w3.cell? ⟨w.heap.size, 1, none⟩ = some (.int .u8 0) := by rw [cell_of_row w3 _ _ _ _ _ hR3]; rfl
            have q2 : w3.cell? ⟨w.heap.size, 2, none⟩ = some (.bool false) := by rw [cell_of_row w3 _ _ _ _ _ hR3]; rfl
            have q3 : w3.cell? ⟨w.heap.size, 3, none⟩ = some (.slice none 0 0) := by rw [cell_of_row w3 _ _ _ _ _ hR3]; rfl
            have qf : ∀ k, w3.frozen? ⟨w.heap.size, k, none⟩ = false := fun k => frozen_of_row w3 _ _ _ _ hR3
            have hcell := set4_cells (set4_heap (a := .int .i64 0) (b := .int .u8 0) (c := .bool false) (d := .slice none 0 0) hR3)
            have hRd9 := rd_grow2 hRd3 (set4_grown w3 w.heap.size (.int .i64 0) (.int .u8 0) (.bool false) (.slice none 0 0)) (by omega) (by omega) (by have := h.low; omega)
            have hG9 := grown_set4 hGr4 (Nat.le_refl w.heap.size) (.int .i64 0) (.int .u8 0) (.bool false) (.slice none 0 0)
            go_wp2
            clear q0 q1 q2 q3 qf
            change bodyPost _ _ _ _ _ (set4 w3 w.heap.size (.int .i64 0) (.int .u8 0) (.bool false) (.slice none 0 0))
            generalize set4 w3 w.heap.size (.int .i64 0) (.int .u8 0) (.bool false) (.slice none 0 0) = w9 at hRd9 hG9 hcell ⊢
            obtain ⟨e0, e1, e2, e3⟩ := hcell
            exact bodyPost_ret (v := .tuple #[.agg #[.int .i64 0, .int .u8 0, .bool false, .slice none 0 0], .int .i64 0]) (by simp [results, Tryd.results61, go_sem, e0, e1, e2, e3]) rfl ⟨_, hRd9, hG9, .inl ⟨hnone.out, rfl, hpin2.out⟩⟩
          · have hmid2 : Hid (Pmid path l (ps'.set k true) i (k + tn) false) := by
              refine pmid_enter hmid.out hfb.out (by omega) (fun hb9 hs => ?_)
              have := hscan.out
              rw [if_neg h0, if_neg (by simp [hb9]), hs] at this
              exact this
            have hgrp2 := Lib.hid (hnext.out h0)
            clear hmid hfail hnext hscan
            have o3 : w3.cell? ⟨w.heap.size + 1, 3, none⟩ = some (.slice Av nv cv) := by rw [cell_of_row w3 _ _ _ _ _ hO3]; rfl
            have hsz3 := hGr4.size
            go_wp2_with (at_builtin; refine wpList_append_sl _ rfl _ _ 70 rfl w.heap.size 137 j0 _ 2 2 Tryd.underlying70 hj hy0 hy1 hy2 rfl (by decide) _ _ _ rfl hownA _ _ _ _ rfl (Sl.of_own hown3) (cellsRg_one _) ?c3 ?c4 ?c5 ?_)
            case c3 => simp only [maxLen]; omega
            case c4 => omega
            case c5 => exact hsz3
            intro v4 w4 hown4 hgrow4
            have hb4 : Below w.heap.size w3 w4 := (Below.refl _ w3).grown hgrow4 hsz3 (fun g h => (hownA.lt g h).1)
            have hR4 := (hgrow4.block w.heap.size (Array.getElem?_eq_some_iff.1 hR3).1 (own_ne_block3 hownA hR3 (by decide)).symm).trans hR3
            have hO4 := (hgrow4.block (w.heap.size + 1) (Array.getElem?_eq_some_iff.1 hO3).1 (own_ne_block3 hownA hO3 (by decide)).symm).trans hO3
            have hRd4 := rd_low hRd3 hb4 hrlt hplt (by have := h.low; omega)
            have hGr5 := grown_low hGr4 hb4
            obtain ⟨Av4, nv4, cv4, rfl⟩ := own_form hown4
            have o4 : w4.cell? ⟨w.heap.size + 1, 3, none⟩ = some (.slice Av nv cv) := by rw [cell_of_row w4 _ _ _ _ _ hO4]; rfl
            have of4 : w4.frozen? ⟨w.heap.size + 1, 3, none⟩ = false := frozen_of_row w4 _ _ _ _ hO4
            have hset : w4.grownBy (w4.setCell ⟨w.heap.size + 1, 3, none⟩ (.slice Av4 nv4 cv4)) (some (w.heap.size + 1)) := ⟨rfl, rfl, rfl, by simp [World.setCell], fun j _ hj => heap_setCell_other w4 ⟨w.heap.size + 1, 3, none⟩ j _ (fun e => hj (by rw [e]))⟩
            have hR5 := (hset.block w.heap.size (Array.getElem?_eq_some_iff.1 hR4).1 (by intro e; injection e with e; omega)).trans hR4
            have hO5 := heap_setCell_same w4 (w.heap.size + 1) 3 _ _ (.slice Av4 nv4 cv4) hO4
            have hown5 := hown4.kept hset (.inr (own_ne_block3 hown4 hO4 (by decide)))
            have hRd5 := rd_grow2 hRd4 hset (by omega) (by omega) (by have := h.low; omega)
            have hGr6 := grown_set_new hGr5 (p := ⟨w.heap.size + 1, 3, none⟩) (by simp) (.slice Av4 nv4 cv4)
            rw [← cellsRg_append] at hown5
            clear hR3 hO3 hownA hRd3 hGr4 hown3 hgrow4 hb4 hR4 hO4 hRd4 hGr5 hown4 hset o3
            go_wp2
            clear o4 of4
            generalize w4.setCell ⟨w.heap.size + 1, 3, none⟩ (.slice Av4 nv4 cv4) = w5 at hR5 hO5 hown5 hRd5 hGr6 ⊢
            go_roundw
            case rel => exact ⟨k + tn, false, acc ++ tr, _, _, by go_num, rfl, by omega, by omega, by rw [List.length_append]; omega, hR5, hO5, by rw [List.length_append]; exact hown5, hRd5, hGr6, hmid2.out, hgrp2.out⟩
            case measure => simp [intOf]; omega
      | false =>
        have hb93 := bare_any hRd k 93 hl (by omega)
        cases e93 : bareAt l k 93 with
        | true =>
          rw [e93] at hb93
          have hgo : Hid (groupP path l i = some ((4, 0, bareAt l i 33, acc), k + 1 - i)) := by
            have := hgrp.out
            unfold GrpAt at this
            rw [if_neg (by simp)] at this
            rw [Hid, hG.out, this.1 e93, hnoH.out]
            rfl
          have hpin2 := Lib.hid ((pmid_done hmid.out (by omega)).mono (show k ≤ i + (k + 1 - i) by omega))
          have en : ((k : Int) + 1 - (i : Int)) = ((k + 1 - i : Nat) : Int) := by omega
          have o0 : wr.cell? ⟨w.heap.size + 1, 0, none⟩ = some (.int .i64 4) := by rw [cell_of_row wr _ _ _ _ _ hO]; rfl
          have o1 : wr.cell? ⟨w.heap.size + 1, 1, none⟩ = some (.int .u8 0) := by rw [cell_of_row wr _ _ _ _ _ hO]; rfl
          have o2 : wr.cell? ⟨w.heap.size + 1, 2, none⟩ = some (.bool no) := by rw [cell_of_row wr _ _ _ _ _ hO]; rfl
          have o3 : wr.cell? ⟨w.heap.size + 1, 3, none⟩ = some (.slice Av nv cv) := by rw [cell_of_row wr _ _ _ _ _ hO]; rfl
          clear e93 hmid hgrp
          go_wp2_with fail
          refine hb93.mono ?_
          rintro e w1 ⟨rfl, rfl⟩
          clear hb93
          have q0 : w1.cell? ⟨w.heap.size, 0, none⟩ = some (.int .i64 0) := by rw [cell_of_row w1 _ _ _ _ _ hR]; rfl
          have q1 : w1.cell? ⟨w.heap.size, 1, none⟩ = some (.int .u8 0) := by rw [cell_of_row w1 _ _ _ _ _ hR]; rfl
          have q2 : w1.cell? ⟨w.heap.size, 2, none⟩ = some (.bool false) := by rw [cell_of_row w1 _ _ _ _ _ hR]; rfl
          have q3 : w1.cell? ⟨w.heap.size, 3, none⟩ = some (.slice none 0 0) := by rw [cell_of_row w1 _ _ _ _ _ hR]; rfl
          have qf : ∀ k, w1.frozen? ⟨w.heap.size, k, none⟩ = false := fun k => frozen_of_row w1 _ _ _ _ hR
          have hcell := set4_cells (set4_heap (a := .int .i64 4) (b := .int .u8 0) (c := .bool no) (d := .slice Av nv cv) hR)
          have hRd9 := rd_grow2 hRd (set4_grown w1 w.heap.size (.int .i64 4) (.int .u8 0) (.bool no) (.slice Av nv cv)) (by omega) (by omega) (by have := h.low; omega)
          have hG9 := grown_set4 hGr (Nat.le_refl w.heap.size) (.int .i64 4) (.int .u8 0) (.bool no) (.slice Av nv cv)
          have hO9 := hown.kept (set4_grown w1 w.heap.size (.int .i64 4) (.int .u8 0) (.bool no) (.slice Av nv cv)) (.inr (own_ne_block3 hown hR (by decide)))
          go_wp2
          clear q0 q1 q2 q3 qf
          change bodyPost _ _ _ _ _ (set4 w1 w.heap.size (.int .i64 4) (.int .u8 0) (.bool no) (.slice Av nv cv))
          generalize set4 w1 w.heap.size (.int .i64 4) (.int .u8 0) (.bool no) (.slice Av nv cv) = w9 at hRd9 hG9 hcell hO9 ⊢
          obtain ⟨e0, e1, e2, e3⟩ := hcell
          exact bodyPost_ret (v := .tuple #[.agg #[.int .i64 4, .int .u8 0, .bool no, .slice Av nv cv], .int .i64 ((k + 1 - i : Nat) : Int)]) (by simp [results, Tryd.results61, go_sem, e0, e1, e2, e3]) rfl ⟨ps', hRd9, hG9, .inr ⟨acc, k + 1 - i, _, hgo.out, by rw [hnoH.out], hO9, hpin2.out⟩⟩
        | false =>
          rw [e93] at hb93
          have hfb : Hid (Fb l k false) := .inr e93
          clear e93
          go_wp2_with fail
          refine hb93.mono ?_
          rintro e w1 ⟨rfl, rfl⟩
          clear hb93
          go_wp2_with fail
          refine (enter_any hRd k hl (by omega)).mono ?_
          rintro e w2 (⟨rfl, rfl, hpass⟩ | ⟨rfl, hlt, hRd2, hGr2⟩)
          · have hsn : scan path l k = none := by
              rcases hpass with hpass | hpass
              · exact scan_far hpass
              · exact pmid_passed hmid.out (by omega) hpass
            have hnone : Hid (groupP path l i = none) := by rw [Hid, hG.out, grpAt_fail hgrp.out hfb.out hsn]; rfl
            have hpin2 := Lib.hid (pmid_fail hmid.out hfb.out hsn)
            clear hmid hgrp hpass hsn hO hown
            have q0 : w2.cell? ⟨w.heap.size, 0, none⟩ = some (.int .i64 0) := by rw [cell_of_row w2 _ _ _ _ _ hR]; rfl
            have q1 : w2.cell? ⟨w.heap.size, 1, none⟩ = some (.int .u8 0) := by rw [cell_of_row w2 _ _ _ _ _ hR]; rfl
            have q2 : w2.cell? ⟨w.heap.size, 2, none⟩ = some (.bool false) := by rw [cell_of_row w2 _ _ _ _ _ hR]; rfl
            have q3 : w2.cell? ⟨w.heap.size, 3, none⟩ = some (.slice none 0 0) := by rw [cell_of_row w2 _ _ _ _ _ hR]; rfl
            have qf : ∀ k, w2.frozen? ⟨w.heap.size, k, none⟩ = false := fun k => frozen_of_row w2 _ _ _ _ hR
            have hcell := set4_cells (set4_heap (a := .int .i64 0) (b := .int .u8 0) (c := .bool false) (d := .slice none 0 0) hR)
            have hRd9 := rd_grow2 hRd (set4_grown w2 w.heap.size (.int .i64 0) (.int .u8 0) (.bool false) (.slice none 0 0)) (by omega) (by omega) (by have := h.low; omega)
            have hG9 := grown_set4 hGr (Nat.le_refl w.heap.size) (.int .i64 0) (.int .u8 0) (.bool false) (.slice none 0 0)
            go_wp2
            clear q0 q1 q2 q3 qf
            change bodyPost _ _ _ _ _ (set4 w2 w.heap.size (.int .i64 0) (.int .u8 0) (.bool false) (.slice none 0 0))
            generalize set4 w2 w.heap.size (.int .i64 0) (.int .u8 0) (.bool false) (.slice none 0 0) = w9 at hRd9 hG9 hcell ⊢
            obtain ⟨e0, e1, e2, e3⟩ := hcell
            exact bodyPost_ret (v := .tuple #[.agg #[.int .i64 0, .int .u8 0, .bool false, .slice none 0 0], .int .i64 0]) (by simp [results, Tryd.results61, go_sem, e0, e1, e2, e3]) rfl ⟨ps', hRd9, hG9, .inl ⟨hnone.out, rfl, hpin2.out⟩⟩
          · have hR2 := (hGr2.block w.heap.size (Array.getElem?_eq_some_iff.1 hR).1 (by intro e; injection e with e; omega)).trans hR
            have hO2 := (hGr2.block (w.heap.size + 1) (Array.getElem?_eq_some_iff.1 hO).1 (by intro e; injection e with e; omega)).trans hO
            have hown2 := hown.kept hGr2 (.inr (own_ne_block3 hown hRd.row (by decide)))
            have hGr3 := hGr.trans hGr2
            have hscan := Lib.hid (scan_eq (path := path) hlt)
            have hnext := Lib.hid (fun h0 => grpAt_next hgrp.out hfb.out hlt h0)
            have hfail := Lib.hid (fun hs => grpAt_fail hgrp.out hfb.out hs)
            have hlen4 := thing_len path l k
            have htend := thing_end (path := path) hlt
            have hpl2 := hRd2.len
            clear hRd hGr hR hO hown hGr2 hgrp
            go_wp2_with fail
            refine (thing_any hRd2 k hl hlt).mono ?_
            rintro e w3 ⟨v3, rfl, hown3, hb3⟩
            have hR3 := (hb3.block w.heap.size (Array.getElem?_eq_some_iff.1 hR2).1).trans hR2
            have hO3 := (hb3.block (w.heap.size + 1) (Array.getElem?_eq_some_iff.1 hO2).1).trans hO2
            have hownA := own_below hown2 hb3
            have hRd3 := hRd2.below hb3
            have hGr4 := hGr3.trans (below_grown hb3)
            clear hR2 hO2 hown2 hRd2 hGr3 hb3
            generalize thingP path l k = T at hown3 hscan hnext hfail hlen4 htend
            obtain ⟨tr, tn⟩ := T
            simp only at hown3 hscan hnext hfail hlen4 htend
            by_cases h0 : tn = 0
            · subst h0
              have hsn : scan path l k = none := by have := hscan.out; rw [if_pos rfl] at this; exact this
              have hnone : Hid (groupP path l i = none) := by rw [Hid, hG.out, hfail.out hsn]; rfl
              have hpin2 := Lib.hid (pmid_fail_enter hmid.out hfb.out hsn)
              clear hmid hfail hnext hscan hsn hO3 hownA hown3
              have q0 : w3.cell? ⟨w.heap.size, 0, none⟩ = some (.int .i64 0) := by rw [cell_of_row w3 _ _ _ _ _ hR3]; rfl
              have q1 : w3.cell? ⟨w.heap.size, 1, none⟩ = some (.int .u8 0) := by rw [cell_of_row w3 _ _ _ _ _ hR3]; rfl
              have q2 : w3.cell? ⟨w.heap.size, 2, none⟩ = some (.bool false) := by rw [cell_of_row w3 _ _ _ _ _ hR3]; rfl
              have q3 : w3.cell? ⟨w.heap.size, 3, none⟩ = some (.slice none 0 0) := by rw [cell_of_row w3 _ _ _ _ _ hR3]; rfl
              have qf : ∀ k, w3.frozen? ⟨w.heap.size, k, none⟩ = false := fun k => frozen_of_row w3 _ _ _ _ hR3
              have hcell := set4_cells (set4_heap (a := .int .i64 0) (b := .int .u8 0) (c := .bool false) (d := .slice none 0 0) hR3)
              have hRd9 := rd_grow2 hRd3 (set4_grown w3 w.heap.size (.int .i64 0) (.int .u8 0) (.bool false) (.slice none 0 0)) (by omega) (by omega) (by have := h.low; omega)
              have hG9 := grown_set4 hGr4 (Nat.le_refl w.heap.size) (.int .i64 0) (.int .u8 0) (.bool false) (.slice none 0 0)
              go_wp2
              clear q0 q1 q2 q3 qf
              change bodyPost _ _ _ _ _ (set4 w3 w.heap.size (.int .i64 0) (.int .u8 0) (.bool false) (.slice none 0 0))
              generalize set4 w3 w.heap.size (.int .i64 0) (.int .u8 0) (.bool false) (.slice none 0 0) = w9 at hRd9 hG9 hcell ⊢
              obtain ⟨e0, e1, e2, e3⟩ := hcell
              exact bodyPost_ret (v := .tuple #[.agg #[.int .i64 0, .int .u8 0, .bool false, .slice none 0 0], .int .i64 0]) (by simp [results, Tryd.results61, go_sem, e0, e1, e2, e3]) rfl ⟨_, hRd9, hG9, .inl ⟨hnone.out, rfl, hpin2.out⟩⟩
            · have hmid2 : Hid (Pmid path l (ps'.set k true) i (k + tn) false) := by
                refine pmid_enter hmid.out hfb.out (by omega) (fun hb9 hs => ?_)
                have := hscan.out
                rw [if_neg h0, if_neg (by simp [hb9]), hs] at this
                exact this
              have hgrp2 := Lib.hid (hnext.out h0)
              clear hmid hfail hnext hscan
              have o3 : w3.cell? ⟨w.heap.size + 1, 3, none⟩ = some (.slice Av nv cv) := by rw [cell_of_row w3 _ _ _ _ _ hO3]; rfl
              have hsz3 := hGr4.size
              go_wp2_with (at_builtin; refine wpList_append_sl _ rfl _ _ 70 rfl w.heap.size 137 j0 _ 2 2 Tryd.underlying70 hj hy0 hy1 hy2 rfl (by decide) _ _ _ rfl hownA _ _ _ _ rfl (Sl.of_own hown3) (cellsRg_one _) ?c3 ?c4 ?c5 ?_)
              case c3 => simp only [maxLen]; omega
              case c4 => omega
              case c5 => exact hsz3
              intro v4 w4 hown4 hgrow4
              have hb4 : Below w.heap.size w3 w4 := (Below.refl _ w3).grown hgrow4 hsz3 (fun g h => (hownA.lt g h).1)
              have hR4 := (hgrow4.block w.heap.size (Array.getElem?_eq_some_iff.1 hR3).1 (own_ne_block3 hownA hR3 (by decide)).symm).trans hR3
              have hO4 := (hgrow4.block (w.heap.size + 1) (Array.getElem?_eq_some_iff.1 hO3).1 (own_ne_block3 hownA hO3 (by decide)).symm).trans hO3
              have hRd4 := rd_low hRd3 hb4 hrlt hplt (by have := h.low; omega)
              have hGr5 := grown_low hGr4 hb4
              obtain ⟨Av4, nv4, cv4, rfl⟩ := own_form hown4
              have o4 : w4.cell? ⟨w.heap.size + 1, 3, none⟩ = some (.slice Av nv cv) := by rw [cell_of_row w4 _ _ _ _ _ hO4]; rfl
              have of4 : w4.frozen? ⟨w.heap.size + 1, 3, none⟩ = false := frozen_of_row w4 _ _ _ _ hO4
              have hset : w4.grownBy (w4.setCell ⟨w.heap.size + 1, 3, none⟩ (.slice Av4 nv4 cv4)) (some (w.heap.size + 1)) := ⟨rfl, rfl, rfl, by simp [World.setCell], fun j _ hj => heap_setCell_other w4 ⟨w.heap.size + 1, 3, none⟩ j _ (fun e => hj (by rw [e]))⟩
              have hR5 := (hset.block w.heap.size (Array.getElem?_eq_some_iff.1 hR4).1 (by intro e; injection e with e; omega)).trans hR4
              have hO5 := heap_setCell_same w4 (w.heap.size + 1) 3 _ _ (.slice Av4 nv4 cv4) hO4
              have hown5 := hown4.kept hset (.inr (own_ne_block3 hown4 hO4 (by decide)))
              have hRd5 := rd_grow2 hRd4 hset (by omega) (by omega) (by have := h.low; omega)
              have hGr6 := grown_set_new hGr5 (p := ⟨w.heap.size + 1, 3, none⟩) (by simp) (.slice Av4 nv4 cv4)
              rw [← cellsRg_append] at hown5
              clear hR3 hO3 hownA hRd3 hGr4 hown3 hgrow4 hb4 hR4 hO4 hRd4 hGr5 hown4 hset o3
              go_wp2
              clear o4 of4
              generalize w4.setCell ⟨w.heap.size + 1, 3, none⟩ (.slice Av4 nv4 cv4) = w5 at hR5 hO5 hown5 hRd5 hGr6 ⊢
              go_roundw
              case rel => exact ⟨k + tn, false, acc ++ tr, _, _, by go_num, rfl, by omega, by omega, by rw [List.length_append]; omega, hR5, hO5, by rw [List.length_append]; exact hown5, hRd5, hGr6, hmid2.out, hgrp2.out⟩
              case measure => simp [intOf]; omega
end Go.Proofs.YtmoihdddmeienaaDoor
