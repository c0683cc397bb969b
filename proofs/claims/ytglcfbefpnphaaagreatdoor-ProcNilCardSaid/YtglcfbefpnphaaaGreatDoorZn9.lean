/-
  A process in memory, beside a tree, a pool, a table and a log: its parts, its notes, and what a step may change. Conditions: none.
-/
import Derived.Handy
import Derived.Test.YtglcfbefpnphaaaGreatDoorZn7
import Derived.Test.YtglcfbefpnphaaaGreatDoorZn8
namespace Go.Proofs.YtglcfbefpnphaaaGreatDoor
open Go Go.RowKit Go.ChangeMaps

/-- A part: what it has, and when it was noted last. -/
structure Pt where
  v : Int
  n : Nat
def partC (p : Pt) : List Value := [.int .i64 p.v, .int .i64 (p.n : Int)]
def partsC (ps : List Pt) : List Value := ps.flatMap partC
def procC (fb tb lb : Nat) (ps : List Pt) : List Value := ptrV fb :: ptrV tb :: ptrV lb :: partsC ps
theorem partsC_cons (p : Pt) (ps : List Pt) : partsC (p :: ps) = .int .i64 p.v :: .int .i64 (p.n : Int) :: partsC ps := rfl
theorem partsC_at {ps : List Pt} {i : Nat} {p : Pt} (h : ps[i]? = some p) : (partsC ps)[2 * i]? = some (.int .i64 p.v) ∧ (partsC ps)[2 * i + 1]? = some (.int .i64 (p.n : Int)) := by
  induction ps generalizing i with
  | nil => simp at h
  | cons q ps ih =>
    rw [partsC_cons]
    cases i with
    | zero => simp at h; subst h; exact ⟨rfl, rfl⟩
    | succ i =>
      have := ih (i := i) (by simpa using h)
      rw [show 2 * (i + 1) = 2 * i + 1 + 1 by omega, show 2 * i + 1 + 1 + 1 = (2 * i + 1) + 1 + 1 by omega]
      simpa using this
theorem partsC_set {ps : List Pt} {i : Nat} {p : Pt} (h : ps[i]? = some p) (v : Int) (n : Nat) : ((partsC ps).set (2 * i) (.int .i64 v)).set (2 * i + 1) (.int .i64 (n : Int)) = partsC (ps.set i ⟨v, n⟩) := by
  induction ps generalizing i with
  | nil => simp at h
  | cons q ps ih =>
    cases i with
    | zero => rfl
    | succ i =>
      have := ih (i := i) (by simpa using h)
      rw [partsC_cons, List.set_cons_succ, partsC_cons, show 2 * (i + 1) = 2 * i + 1 + 1 by omega, show 2 * i + 1 + 1 + 1 = (2 * i + 1) + 1 + 1 by omega]
      simp only [List.set_cons_succ]
      rw [this]
theorem partsC_setv {ps : List Pt} {i : Nat} {p : Pt} (h : ps[i]? = some p) (v : Int) : (partsC ps).set (2 * i) (.int .i64 v) = partsC (ps.set i ⟨v, p.n⟩) := by
  rw [← partsC_set h v p.n]
  refine (List.ext_getElem? fun j => ?_)
  rw [List.getElem?_set, List.getElem?_set, List.getElem?_set]
  by_cases hj : 2 * i + 1 = j
  · subst hj
    rw [if_neg (by omega), if_pos rfl, List.length_set]
    have := (partsC_at h).2
    rw [this, if_pos (List.getElem?_eq_some_iff.1 this).1]
  · rw [if_neg hj]
theorem procC_v {fb tb lb : Nat} {ps : List Pt} {i : Nat} {p : Pt} (h : ps[i]? = some p) : (procC fb tb lb ps)[3 + i * 2]? = some (.int .i64 p.v) := by
  rw [show 3 + i * 2 = 2 * i + 1 + 1 + 1 by omega]; simpa [procC] using (partsC_at h).1
theorem procC_n {fb tb lb : Nat} {ps : List Pt} {i : Nat} {p : Pt} (h : ps[i]? = some p) : (procC fb tb lb ps)[3 + i * 2 + 1]? = some (.int .i64 (p.n : Int)) := by
  rw [show 3 + i * 2 + 1 = (2 * i + 1) + 1 + 1 + 1 by omega]; simpa [procC] using (partsC_at h).2
theorem procC_setv {fb tb lb : Nat} {ps : List Pt} {i : Nat} {p : Pt} (h : ps[i]? = some p) (v : Int) : (procC fb tb lb ps).set (3 + i * 2) (.int .i64 v) = procC fb tb lb (ps.set i ⟨v, p.n⟩) := by
  rw [show 3 + i * 2 = 2 * i + 1 + 1 + 1 by omega]
  unfold procC
  rw [← partsC_setv h v]
  rfl
theorem procC_set {fb tb lb : Nat} {ps : List Pt} {i : Nat} {p : Pt} (h : ps[i]? = some p) (v : Int) (n : Nat) : ((procC fb tb lb ps).set (3 + i * 2) (.int .i64 v)).set (3 + i * 2 + 1) (.int .i64 (n : Int)) = procC fb tb lb (ps.set i ⟨v, n⟩) := by
  rw [show 3 + i * 2 + 1 = (2 * i + 1) + 1 + 1 + 1 by omega, show 3 + i * 2 = 2 * i + 1 + 1 + 1 by omega]
  unfold procC
  rw [← partsC_set h v n]
  rfl

/-- What a step of a process may change: what tree, pool and table have, its own block, a log's blocks. -/
structure PCh (B : Nat) (F F' : Nat → Prop) (pb : Nat) (w w' : World) : Prop where
  os : w'.os = w.os
  tape : w'.tape = w.tape
  output : w'.output = w.output
  size : w.heap.size ≤ w'.heap.size
  low : ∀ b, b < B → w'.heap[b]? = w.heap[b]?
  block : ∀ b, b < w.heap.size → ¬ F b → b ≠ pb → ¬ LogB w b → w'.heap[b]? = w.heap[b]?
  foot : ∀ b, b < w.heap.size → ¬ F b → ¬ F' b
section
variable {B pb : Nat} {F F' F'' : Nat → Prop} {w w' w'' : World}
theorem logB_congr {b : Nat} (h : w'.heap[b]? = w.heap[b]?) : LogB w' b ↔ LogB w b := by unfold LogB; rw [h]
theorem PCh.refl (B : Nat) (F : Nat → Prop) (pb : Nat) (w : World) : PCh B F F pb w w := ⟨rfl, rfl, rfl, Nat.le_refl _, fun _ _ => rfl, fun _ _ _ _ _ => rfl, fun _ _ h => h⟩
theorem PCh.trans (h : PCh B F F' pb w w') (k : PCh B F' F'' pb w' w'') : PCh B F F'' pb w w'' :=
  ⟨k.os.trans h.os, k.tape.trans h.tape, k.output.trans h.output, Nat.le_trans h.size k.size, fun b hb => (k.low b hb).trans (h.low b hb), fun b hb hf hp hl => by
    have e := h.block b hb hf hp hl
    exact (k.block b (Nat.lt_of_lt_of_le hb h.size) (h.foot b hb hf) hp (fun q => hl ((logB_congr e).1 q))).trans e,
   fun b hb hf => k.foot b (Nat.lt_of_lt_of_le hb h.size) (h.foot b hb hf)⟩
theorem PCh.of_chg (h : Chg F F' w w') (hF : ∀ g, F g → B ≤ g) (hB : B ≤ w.heap.size) (pb : Nat) : PCh B F F' pb w w' :=
  ⟨h.os, h.tape, h.output, h.size, fun b hb => h.block b (by omega) fun q => by have := hF b q; omega, fun b hb hf _ _ => h.block b hb hf, h.foot⟩
theorem PCh.of_fr (h : Fr B LogT (fun _ => False) w w') (F : Nat → Prop) (hB : B ≤ w.heap.size) (pb : Nat) : PCh B F F pb w w' :=
  ⟨h.os, h.tape, h.output, h.size, fun b hb => h.keep b (by omega) (.inl hb), fun b hb _ _ hl => h.keep b hb (.inr ⟨id, fun cur t f hc ht => hl ⟨cur, t, f, hc, ht⟩⟩), fun _ _ h => h⟩
theorem PCh.of_grown (h : w.grownBy w' none) (F : Nat → Prop) (hB : B ≤ w.heap.size) (pb : Nat) : PCh B F F pb w w' :=
  ⟨h.os, h.tape, h.output, h.size, fun b hb => h.block b (by omega) (by simp), fun b hb _ _ _ => h.block b hb (by simp), fun _ _ h => h⟩
theorem PCh.set (B : Nat) (F : Nat → Prop) (w : World) (hpb : B ≤ pb) (i : Nat) (u : Value) : PCh B F F pb w (w.setCell ⟨pb, i, none⟩ u) :=
  ⟨rfl, rfl, rfl, by simp [World.setCell], fun b hb => heap_setCell_other w _ b u (by show b ≠ pb; omega), fun b _ _ hp _ => heap_setCell_other w _ b u hp, fun _ _ h => h⟩
theorem PCh.below (h : PCh B F F' pb w w') : Below B w w' := ⟨h.os, h.tape, h.output, h.size, h.low⟩
/-- A block of the caller's, apart from all. -/
def Kq (w : World) (F : Nat → Prop) (pb z : Nat) (C : List Value) (t : TypeId) : Prop := Blk w z C t ∧ ¬ F z ∧ z ≠ pb ∧ ¬ LogT t
theorem Kq.ch {z : Nat} {C : List Value} {t : TypeId} (h : Kq w F pb z C t) (c : PCh B F F' pb w w') : Kq w' F' pb z C t :=
  ⟨(c.block z h.1.lt h.2.1 h.2.2.1 (h.1.noLog h.2.2.2)).trans h.1, c.foot z h.1.lt h.2.1, h.2.2⟩
end

def freeV (pb i : Nat) : Value :=
  if i < 16 then .func (.func 84) #[ptrV pb] #[]
  else if i = 16 then .func (.func 121) #[ptrV pb] #[]
  else .func (.func 122) #[] #[]
def partP (pb i : Nat) : Value := .pointer (some ⟨pb, 3 + i * 2, none⟩)
def NoteAt (w : World) (F : Nat → Prop) (pb : Nat) (fv : Value) (n : Nat × Pt) : Prop :=
  n.1 < 18 ∧ ∃ bx bw bf, fv = .func (.func 130) #[] #[ptrV bx, ptrV bw, ptrV bf] ∧ Kq w F pb bx [partP pb n.1] 128 ∧ Kq w F pb bw (partC n.2) 123 ∧ Kq w F pb bf [freeV pb n.1] 129
theorem NoteAt.ch {B pb : Nat} {F F' : Nat → Prop} {w w' : World} {fv : Value} {n : Nat × Pt} (h : NoteAt w F pb fv n) (c : PCh B F F' pb w w') : NoteAt w' F' pb fv n := by
  obtain ⟨h0, bx, bw, bf, e, h1, h2, h3⟩ := h
  exact ⟨h0, bx, bw, bf, e, h1.ch c, h2.ch c, h3.ch c⟩
/-- A log whose notes are a process'. -/
def LogP (w : World) (B : Nat) (F : Nat → Prop) (pb lb most nest : Nat) (ns : List (Nat × Pt)) (mk : List Nat) : Prop :=
  ∃ ms fs, LogAt w B lb most nest ms fs ns.length ∧ fs.length = ns.length ∧ ms.map Mk.notes = mk ∧ (∀ m ∈ ms, m.count = m.notes) ∧ ∀ (j : Nat) n, ns[j]? = some n → ∃ fv, fs[j]? = some fv ∧ NoteAt w F pb fv n
structure PrR (w : World) (B : Nat) (F : Nat → Prop) (c : Sy) (pb lb most nest : Nat) (s : St) (ps : List Pt) (ns : List (Nat × Pt)) (mk : List Nat) : Prop where
  sys : Sys w F c s
  log : LogP w B F pb lb most nest ns mk
  prc : Blk w pb (procC c.fb c.tb lb ps) 126
  npb : ¬ F pb
  len : ps.length = 18
  nl : ∀ g, F g → ¬ LogB w g
  hF : ∀ g, F g → B ≤ g
  hpb : B ≤ pb
theorem nl_proc : ¬ LogT 126 := by unfold LogT; decide
theorem nl_pp : ¬ LogT 128 := by unfold LogT; decide
theorem nl_part : ¬ LogT 123 := by unfold LogT; decide
theorem nl_fn : ¬ LogT 129 := by unfold LogT; decide
section
variable {B pb lb most nest : Nat} {F F' : Nat → Prop} {w w' : World} {c : Sy} {s s' : St} {ps : List Pt} {ns : List (Nat × Pt)} {mk : List Nat}
theorem LogP.lt (h : LogP w B F pb lb most nest ns mk) : B ≤ lb ∧ lb < w.heap.size := by
  obtain ⟨ms, fs, ⟨mv, nv, h⟩, _⟩ := h
  exact ⟨h.hB, h.blk.lt⟩
theorem LogP.keep (h : LogP w B F pb lb most nest ns mk) (k : KeepL w w') (c : PCh B F F' pb w w') : LogP w' B F' pb lb most nest ns mk := by
  obtain ⟨ms, fs, h1, h2, h3, h4, h5⟩ := h
  exact ⟨ms, fs, h1.keep k, h2, h3, h4, fun j n hn => by obtain ⟨fv, q1, q2⟩ := h5 j n hn; exact ⟨fv, q1, q2.ch c⟩⟩
theorem PrR.hB (h : PrR w B F c pb lb most nest s ps ns mk) : B ≤ w.heap.size := by have := h.log.lt; omega
/-- Behind a step of tree, pool and table. -/
theorem PrR.sysStep (h : PrR w B F c pb lb most nest s ps ns mk) (hs : Sys w' F' c s') (k : Chg F F' w w') : ∃ F'', PrR w' B F'' c pb lb most nest s' ps ns mk ∧ PCh B F F'' pb w w' := by
  have k2 : Chg F (fun g => F' g ∧ ¬ LogB w' g) w w' := k.mono (fun _ h => h) fun b _ hb => .inl hb.1
  have hp := PCh.of_chg k2 h.hF h.hB pb
  have hk : KeepL w w' := ⟨k.size, fun b cur t f hb ht => k.block b (Array.getElem?_eq_some_iff.1 hb).1 fun hf => h.nl b hf ⟨cur, t, f, hb, ht⟩⟩
  refine ⟨_, ⟨hs.shrink, h.log.keep hk hp, (k.block pb h.prc.lt h.npb).trans h.prc, hp.foot pb h.prc.lt h.npb, h.len, fun g hg => hg.2, fun g hg => ?_, h.hpb⟩, hp⟩
  by_cases hlt : g < w.heap.size
  · exact h.hF g (Classical.byContradiction fun hf => k.foot g hlt hf hg.1)
  · have := h.hB; omega
/-- Behind a step of the log. -/
theorem PrR.logStep {ns' : List (Nat × Pt)} {mk' : List Nat} (h : PrR w B F c pb lb most nest s ps ns mk) (k : Fr B LogT (fun _ => False) w w') (hl : LogP w' B F pb lb most nest ns' mk') : PrR w' B F c pb lb most nest s ps ns' mk' ∧ PCh B F F pb w w' := by
  have hp := PCh.of_fr k F h.hB pb
  have hkeep : ∀ g, F g → w'.heap[g]? = w.heap[g]? := fun g hg => k.keep g (h.sys.lt hg) (.inr ⟨id, fun cur t f hc ht => h.nl g hg ⟨cur, t, f, hc, ht⟩⟩)
  exact ⟨⟨h.sys.keep k.size hkeep, hl, h.prc.fr k nl_proc id, h.npb, h.len, fun g hg => by rw [logB_congr (hkeep g hg)]; exact h.nl g hg, h.hF, h.hpb⟩, hp⟩
/-- New blocks. -/
theorem PrR.grown (h : PrR w B F c pb lb most nest s ps ns mk) (g : w.grownBy w' none) : PrR w' B F c pb lb most nest s ps ns mk ∧ PCh B F F pb w w' := by
  have hp := PCh.of_grown g F h.hB pb
  have hkeep : ∀ b, b < w.heap.size → w'.heap[b]? = w.heap[b]? := fun b hb => g.block b hb (by simp)
  exact ⟨⟨h.sys.grown g, h.log.keep ⟨g.size, fun b cur t f hb _ => hkeep b (Array.getElem?_eq_some_iff.1 hb).1⟩ hp, (hkeep pb h.prc.lt).trans h.prc, h.npb, h.len, fun b hb => by rw [logB_congr (hkeep b (h.sys.lt hb))]; exact h.nl b hb, h.hF, h.hpb⟩, hp⟩
theorem PrR.set1 {i : Nat} {u : Value} {ps' : List Pt} (h : PrR w B F c pb lb most nest s ps ns mk) (hC : (procC c.fb c.tb lb ps).set i u = procC c.fb c.tb lb ps') (hlen : ps'.length = 18) : PrR (w.setCell ⟨pb, i, none⟩ u) B F c pb lb most nest s ps' ns mk := by
  have hp : PCh B F F pb w (w.setCell ⟨pb, i, none⟩ u) := PCh.set B F w h.hpb i u
  have hkeep : ∀ b, b ≠ pb → (w.setCell ⟨pb, i, none⟩ u).heap[b]? = w.heap[b]? := fun b hb => heap_setCell_other w _ b u hb
  have hne : ∀ g, F g → g ≠ pb := fun g hg e => h.npb (e ▸ hg)
  refine ⟨h.sys.keep hp.size fun g hg => hkeep g (hne g hg), h.log.keep ⟨hp.size, fun b cur t f hb ht => hkeep b fun e => ?_⟩ hp, by rw [← hC]; exact h.prc.set i u, h.npb, hlen, fun g hg => by rw [logB_congr (hkeep g (hne g hg))]; exact h.nl g hg, h.hF, h.hpb⟩
  subst e
  exact h.prc.noLog nl_proc ⟨cur, t, f, hb, ht⟩
end
end Go.Proofs.YtglcfbefpnphaaaGreatDoor
/-
  The small functions of a process: isNil, checkFd, find, Handle, Dir, Mask, unref, drop. Conditions: none.
-/
namespace Go.Proofs.YtglcfbefpnphaaaGreatDoor
open Go Go.RowKit Go.ChangeMaps

theorem procC_setn {fb tb lb : Nat} {ps : List Pt} {i : Nat} {p : Pt} (h : ps[i]? = some p) (v : Int) (n : Nat) : (procC fb tb lb (ps.set i ⟨v, p.n⟩)).set (3 + i * 2 + 1) (.int .i64 (n : Int)) = procC fb tb lb (ps.set i ⟨v, n⟩) := by
  rw [← procC_set h v n, ← procC_setv h v]
section
variable {w : World} {pb fb tb lb : Nat} {ps : List Pt}
abbrev PB (w : World) (pb fb tb lb : Nat) (ps : List Pt) : Prop := Blk w pb (procC fb tb lb ps) 126
set_option maxRecDepth 100000 in
theorem pisNil_yes (w : World) : Calls Tryz.prog 79 #[.pointer none] w fun e w' => e = .returned (.bool true) ∧ w' = w := by
  go_enter Tryz.func79, Tryz.ntmps79
  go_wp2
  go_ret
  exact ⟨rfl, rfl⟩
set_option maxRecDepth 100000 in
theorem pisNil_no (h : PB w pb fb tb lb ps) : Calls Tryz.prog 79 #[ptrV pb] w fun e w' => e = .returned (.bool false) ∧ w' = w := by
  have c2 : w.cell? ⟨pb, 2, none⟩ = some (.pointer (some ⟨lb, 0, none⟩)) := h.cell (i := 2) rfl
  have hlt := h.lt
  unfold ptrV
  clear h
  go_enter Tryz.func79, Tryz.ntmps79
  go_wp2
  go_ret
  exact ⟨rfl, rfl⟩
set_option maxRecDepth 100000 in
theorem checkFd_nil (fd : Int) (w : World) : Calls Tryz.prog 82 #[.pointer none, .int .i64 fd] w fun e w' => e = .returned (.int .i64 2) ∧ w' = w := by
  go_enter Tryz.func82, Tryz.ntmps82
  go_wp2_with fail
  refine (pisNil_yes _).mono ?_
  rintro e w' ⟨rfl, hw⟩
  obtain rfl := hw.symm
  go_wp2
  go_ret
  exact ⟨rfl, rfl⟩
def fdE (fd : Int) : Int := if fd < 0 ∨ 16 ≤ fd then 18 else 0
set_option maxRecDepth 100000 in
theorem checkFd_any (h : PB w pb fb tb lb ps) (fd : Int) : Calls Tryz.prog 82 #[ptrV pb, .int .i64 fd] w fun e w' => e = .returned (.int .i64 (fdE fd)) ∧ w' = w := by
  have hi := pisNil_no h
  unfold ptrV at hi ⊢
  clear h
  by_cases h1 : fd < 0
  · rw [show fdE fd = 18 from if_pos (.inl h1)]
    go_enter Tryz.func82, Tryz.ntmps82
    go_wp2_with fail
    refine hi.mono ?_
    rintro e w' ⟨rfl, hw⟩
    obtain rfl := hw.symm
    go_wp2
    go_ret
    exact ⟨rfl, rfl⟩
  by_cases h2 : 16 ≤ fd
  · rw [show fdE fd = 18 from if_pos (.inr h2)]
    go_enter Tryz.func82, Tryz.ntmps82
    go_wp2_with fail
    refine hi.mono ?_
    rintro e w' ⟨rfl, hw⟩
    obtain rfl := hw.symm
    go_wp2
    go_ret
    exact ⟨rfl, rfl⟩
  rw [show fdE fd = 0 from if_neg (by omega)]
  go_enter Tryz.func82, Tryz.ntmps82
  go_wp2_with fail
  refine hi.mono ?_
  rintro e w' ⟨rfl, hw⟩
  obtain rfl := hw.symm
  go_wp2
  go_ret
  exact ⟨rfl, rfl⟩
set_option maxRecDepth 100000 in
theorem pfind_bad (fd : Int) (v : Value) (er : Int) (her : er ≠ 0) (hc : Calls Tryz.prog 82 #[v, .int .i64 fd] w fun e w' => e = .returned (.int .i64 er) ∧ w' = w) :
    Calls Tryz.prog 91 #[v, .int .i64 fd] w fun e w' => e = .returned (.tuple #[.int .i64 0, .int .i64 er]) ∧ w' = w := by
  have e1 : (er == 0) = false := by rw [beq_eq_false_iff_ne]; exact her
  clear her
  go_enter Tryz.func91, Tryz.ntmps91
  go_wp2_with fail
  refine hc.mono ?_
  rintro e w' ⟨rfl, hw⟩
  obtain rfl := hw.symm
  go_wp2
  go_ret2
  exact ⟨rfl, rfl⟩
set_option maxRecDepth 100000 in
theorem pfind_in (h : PB w pb fb tb lb ps) {i : Nat} (hi : i < 16) {p : Pt} (hp : ps[i]? = some p) :
    Calls Tryz.prog 91 #[ptrV pb, .int .i64 (i : Int)] w fun e w' => e = .returned (.tuple #[.int .i64 p.v, .int .i64 (if p.v = 0 then 18 else 0)]) ∧ w' = w := by
  have hc := checkFd_any h (i : Int)
  rw [show fdE (i : Int) = 0 from if_neg (by omega)] at hc
  have cv := h.cell (procC_v (fb := fb) (tb := tb) (lb := lb) hp)
  have hlt := h.lt
  unfold ptrV at hc ⊢
  obtain ⟨v, n⟩ := p
  simp only at cv ⊢
  clear h hp
  by_cases h0 : v = 0
  · subst h0
    rw [if_pos rfl]
    go_enter Tryz.func91, Tryz.ntmps91
    go_wp2_with fail
    refine hc.mono ?_
    rintro e w' ⟨rfl, hw⟩
    obtain rfl := hw.symm
    go_wp2
    go_ret2
    exact ⟨rfl, rfl⟩
  · rw [if_neg h0]
    have e0 : (v == 0) = false := by rw [beq_eq_false_iff_ne]; exact h0
    go_enter Tryz.func91, Tryz.ntmps91
    go_wp2_with fail
    refine hc.mono ?_
    rintro e w' ⟨rfl, hw⟩
    obtain rfl := hw.symm
    go_wp2
    go_ret2
    exact ⟨rfl, rfl⟩
set_option maxRecDepth 100000 in
theorem unref_zero (v : Value) (w : World) : Calls Tryz.prog 84 #[v, .int .i64 0] w fun e w' => e = .returned (.tuple #[]) ∧ w' = w := by
  go_enter Tryz.func84, Tryz.ntmps84
  go_wp2
  go_end0
  exact ⟨rfl, rfl⟩
set_option maxRecDepth 100000 in
theorem unref_call (h : PB w pb fb tb lb ps) (v : Int) (hv : v ≠ 0) (R : World → Prop) (hc : Calls Tryz.prog 37 #[ptrV tb, .int .i64 v] w fun e w' => (∃ er, e = .returned (.int .i64 er)) ∧ R w') :
    Calls Tryz.prog 84 #[ptrV pb, .int .i64 v] w fun e w' => e = .returned (.tuple #[]) ∧ R w' := by
  have c1 : w.cell? ⟨pb, 1, none⟩ = some (.pointer (some ⟨tb, 0, none⟩)) := h.cell (i := 1) rfl
  have hlt := h.lt
  have e0 : (v == 0) = false := by rw [beq_eq_false_iff_ne]; exact hv
  unfold ptrV at hc ⊢
  clear h hv
  go_enter Tryz.func84, Tryz.ntmps84
  go_wp2_with fail
  refine hc.mono ?_
  rintro e w' ⟨⟨er, rfl⟩, hR⟩
  replace hR := Lib.hid hR
  clear c1
  go_wp2
  go_end0
  exact ⟨rfl, hR.out⟩
set_option maxRecDepth 100000 in
theorem pdrop_call (h : PB w pb fb tb lb ps) (v : Int) (R : World → Prop) (hc : Calls Tryz.prog 151 #[ptrV fb, .int .i64 v] w fun e w' => (∃ er, e = .returned (.int .i64 er)) ∧ R w') :
    Calls Tryz.prog 121 #[ptrV pb, .int .i64 v] w fun e w' => e = .returned (.tuple #[]) ∧ R w' := by
  have c1 : w.cell? ⟨pb, 0, none⟩ = some (.pointer (some ⟨fb, 0, none⟩)) := h.cell (i := 0) rfl
  have hlt := h.lt
  unfold ptrV at hc ⊢
  clear h
  go_enter Tryz.func121, Tryz.ntmps121
  go_wp2_with fail
  refine hc.mono ?_
  rintro e w' ⟨⟨er, rfl⟩, hR⟩
  replace hR := Lib.hid hR
  clear c1
  go_wp2
  go_end0
  exact ⟨rfl, hR.out⟩
set_option maxRecDepth 100000 in
theorem mask1_call (v : Int) (w : World) : Calls Tryz.prog 122 #[.int .i64 v] w fun e w' => e = .returned (.tuple #[]) ∧ w' = w := by
  go_enter Tryz.func122, Tryz.ntmps122
  go_wp2
  go_end0
  exact ⟨rfl, rfl⟩
end
end Go.Proofs.YtglcfbefpnphaaaGreatDoor
