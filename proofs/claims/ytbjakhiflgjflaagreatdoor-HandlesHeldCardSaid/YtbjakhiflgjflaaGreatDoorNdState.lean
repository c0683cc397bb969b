/-
  A tree in memory: its nodes by their numbers, and which block is whose; body and leaf. Conditions: none.
-/
import Derived.Test.YtbjakhiflgjflaaGreatDoorNdMem
import Derived.Test.YtbjakhiflgjflaaGreatDoorSpTake
namespace Go.Proofs.YtbjakhiflgjflaaGreatDoor
open Go Go.RowKit

theorem Chg.of_mv {B : Nat} {S : Nat → Prop} {w w' : World} (h : Mv B S w w') : Chg S S w w' := ⟨h.os, h.tape, h.output, h.size, h.block, fun _ _ h => h⟩

/-! ### Lists by keys -/
section
variable {κ α : Type} [DecidableEq κ]
def upd (l : List (κ × α)) (k : κ) (y : α) : List (κ × α) := l.map fun p => if p.1 = k then (k, y) else p
theorem look_upd (l : List (κ × α)) (k : κ) (y : α) (j : κ) : look (upd l k y) j = if j = k then (look l k).map (fun _ => y) else look l j := by
  induction l with
  | nil => simp [upd, look]
  | cons a l ih =>
    simp only [upd, List.map_cons, look] at ih ⊢
    by_cases h : a.1 = k
    · rw [if_pos h]
      by_cases hj : j = k
      · simp [hj, h]
      · rw [if_neg (fun e => hj e.symm), if_neg hj, ih, if_neg hj, if_neg (fun e => hj (e.symm.trans h))]
    · rw [if_neg h]
      by_cases hj : j = k
      · rw [if_neg (fun e => h (e.trans hj)), if_pos hj, ih, if_pos hj, if_neg h]
      · rw [if_neg hj, ih, if_neg hj]
theorem look_upd_same {l : List (κ × α)} {k : κ} {x : α} (h : look l k = some x) (y : α) : look (upd l k y) k = some y := by rw [look_upd, if_pos rfl, h]; rfl
theorem keys_upd {β : Type} (f : κ → β) (l : List (κ × α)) (k : κ) (y : α) : (upd l k y).map (fun p => (p.1, f p.1)) = l.map (fun p => (p.1, f p.1)) := by
  unfold upd
  rw [List.map_map]
  refine List.map_congr_left fun p _ => ?_
  show ((if p.1 = k then (k, y) else p).1, f (if p.1 = k then (k, y) else p).1) = _
  split
  · rename_i h; rw [← h]
  · rfl
theorem upd_upd (l : List (κ × α)) (k : κ) (y z : α) : upd (upd l k y) k z = upd l k z := by
  unfold upd
  rw [List.map_map]
  refine List.map_congr_left fun p _ => ?_
  show (if (if p.1 = k then (k, y) else p).1 = k then (k, z) else (if p.1 = k then (k, y) else p)) = _
  by_cases h : p.1 = k
  · rw [if_pos h, if_pos h, if_pos rfl]
  · rw [if_neg h, if_neg h]
theorem upd_len (l : List (κ × α)) (k : κ) (y : α) : (upd l k y).length = l.length := List.length_map _
/-- A sum over all. -/
def total (f : α → Nat) : List (κ × α) → Nat
  | [] => 0
  | p :: l => f p.2 + total f l
omit [DecidableEq κ] in
theorem total_app (f : α → Nat) (l m : List (κ × α)) : total f (l ++ m) = total f l + total f m := by
  induction l with
  | nil => simp [total]
  | cons a l ih => simp only [List.cons_append, total, ih]; omega
theorem upd_none {l : List (κ × α)} {k : κ} (h : look l k = none) (y : α) : upd l k y = l := by
  rw [look_none] at h
  unfold upd
  have := List.map_congr_left (f := fun p => if p.1 = k then (k, y) else p) (g := id) (l := l) fun p hp => if_neg (h p hp)
  rw [this, List.map_id]
theorem total_upd {f : α → Nat} {l : List (κ × α)} {k : κ} {x : α} (hd : l.Pairwise (fun p q => p.1 ≠ q.1)) (h : look l k = some x) (y : α) : total f (upd l k y) + f x = total f l + f y := by
  induction l with
  | nil => simp [look] at h
  | cons a l ih =>
    rw [List.pairwise_cons] at hd
    simp only [look] at h
    split at h
    · rename_i he
      cases h
      have : look l k = none := look_none.2 fun p hp e => hd.1 p hp (he.trans e.symm)
      have e1 : upd (a :: l) k y = (k, y) :: l := by
        show (if a.1 = k then (k, y) else a) :: upd l k y = _
        rw [if_pos he, upd_none this]
      rw [e1]
      simp only [total]
      omega
    · rename_i he
      have := ih hd.2 h
      have e1 : upd (a :: l) k y = a :: upd l k y := by
        show (if a.1 = k then (k, y) else a) :: upd l k y = _
        rw [if_neg he]
      rw [e1]
      simp only [total]
      omega
theorem total_ge {f : α → Nat} {l : List (κ × α)} {k : κ} {x : α} (h : look l k = some x) : f x ≤ total f l := by
  induction l with
  | nil => simp [look] at h
  | cons a l ih =>
    simp only [look] at h
    split at h
    · cases h; simp only [total]; omega
    · have := ih h; simp only [total]; omega
theorem apart_upd {l : List (κ × α)} (hd : l.Pairwise (fun p q => p.1 ≠ q.1)) (k : κ) (y : α) : (upd l k y).Pairwise (fun p q => p.1 ≠ q.1) := by
  have e := keys_upd (fun _ => ()) l k y
  have h1 : ((upd l k y).map (fun p => (p.1, ()))).Pairwise (fun p q => p.1 ≠ q.1) := by rw [e, List.pairwise_map]; exact hd
  rw [List.pairwise_map] at h1
  exact h1
omit [DecidableEq κ] in
theorem total_le_const {f : α → Nat} {l : List (κ × α)} {c : Nat} (h : ∀ p ∈ l, f p.2 ≤ c) : total f l ≤ l.length * c := by
  induction l with
  | nil => simp [total]
  | cons a l ih =>
    have h1 := ih fun p hp => h p (.tail _ hp)
    have h2 := h a (.head _)
    simp only [total, List.length_cons, Nat.add_mul, Nat.one_mul]
    omega
end

/-- A node, but where it lies. -/
structure Pn where
  kind : Nat
  named : Nat
  holds : Nat
  par : Nat
  data : List UInt8
  nms : Option (List (ByteArray × Nat))
  name : ByteArray
/-- Where it lies. -/
structure NM where
  blk : Nat
  dv : Value
  nv : Value
inductive TL where
  | free | fs | nmap
  | body (k : Int)
  | data (k : Int)
  | names (k : Int)
def OfN (k : Int) : TL → Prop
  | .body j => j = k
  | .data j => j = k
  | .names j => j = k
  | _ => False
def bodyC (x : Pn) (m : NM) : List Value := [.int .i64 (x.kind : Int), .int .i64 (x.named : Int), .int .i64 (x.holds : Int), m.dv, m.nv, .int .i64 (x.par : Int), .string x.name]
structure NodeAt (w : World) (lab : Nat → TL) (k : Int) (x : Pn) (m : NM) : Prop where
  blk : Blk w m.blk (bodyC x m) 137
  lb : lab m.blk = .body k
  data : RowM w 5 m.dv x.data.length (bc x.data)
  dl : ∀ g, m.dv.ownBlock = some g → lab g = .data k
  few : x.data.length ≤ 4096
  nil : x.nms = none → m.nv = .map none
  nms : ∀ l, x.nms = some l → ∃ nb, m.nv = .map (some nb) ∧ lab nb = .names k ∧ KMap w nb .string encS (l.map fun p => (p.1, Value.int .i64 (p.2 : Int)))
theorem NodeAt.keep {w w' : World} {lab lab' : Nat → TL} {k : Int} {x : Pn} {m : NM} (h : NodeAt w lab k x m) (hk : ∀ g, g < w.heap.size → OfN k (lab g) → w'.heap[g]? = w.heap[g]? ∧ lab' g = lab g) : NodeAt w' lab' k x m where
  blk := (hk _ h.blk.lt (by rw [h.lb]; exact rfl)).1.trans h.blk
  lb := (hk _ h.blk.lt (by rw [h.lb]; exact rfl)).2.trans h.lb
  data := h.data.keep fun g hg => (hk g (h.data.lt hg) (by rw [h.dl g hg]; exact rfl)).1
  dl := fun g hg => (hk g (h.data.lt hg) (by rw [h.dl g hg]; exact rfl)).2.trans (h.dl g hg)
  few := h.few
  nil := h.nil
  nms := fun l hl => by
    obtain ⟨nb, h1, h2, h3⟩ := h.nms l hl
    have h4 := hk nb h3.lt (by rw [h2]; exact rfl)
    exact ⟨nb, h1, h4.2.trans h2, h3.keep h4.1⟩

abbrev Nds := List (Int × Pn)
def usedN (nds : Nds) : Nat := total (fun x : Pn => x.data.length) nds
def entN (mem : Int → NM) (nds : Nds) : List (Int × Value) := nds.map fun p => (p.1, Value.pointer (some ⟨(mem p.1).blk, 0, none⟩))
structure TreeR (w : World) (lab : Nat → TL) (fb most room : Nat) (nds : Nds) (mb : Nat) (mem : Int → NM) : Prop where
  fs : Blk w fb [.map (some mb), .int .i64 (most : Int), .int .i64 (room : Int), .int .i64 (usedN nds : Int)] 176
  lfs : lab fb = .fs
  map : KMap w mb (.int .i64) encI (entN mem nds)
  lmap : lab mb = .nmap
  nd : ∀ k x, look nds k = some x → NodeAt w lab k x (mem k)
  new : ∀ g, w.heap.size ≤ g → lab g = .free
  lim : most ≤ 1024 ∧ room ≤ 1048576 ∧ usedN nds ≤ room
def TreeF (w : World) (F : Nat → Prop) (fb most room : Nat) (nds : Nds) : Prop := ∃ lab mb mem, TreeR w lab fb most room nds mb mem ∧ ∀ g, F g ↔ lab g ≠ .free

section
variable {w : World} {lab : Nat → TL} {F : Nat → Prop} {fb most room mb : Nat} {nds : Nds} {mem : Int → NM}
theorem TreeF.lt (h : TreeF w F fb most room nds) {g : Nat} (hg : F g) : g < w.heap.size := by
  obtain ⟨lab, mb, mem, h, hF⟩ := h
  exact Nat.lt_of_not_le fun hle => (hF g).1 hg (h.new g hle)
theorem TreeF.keep {w' : World} (h : TreeF w F fb most room nds) (hs : w.heap.size ≤ w'.heap.size) (hk : ∀ g, F g → w'.heap[g]? = w.heap[g]?) : TreeF w' F fb most room nds := by
  obtain ⟨lab, mb, mem, h, hF⟩ := h
  have hk' : ∀ g, lab g ≠ .free → w'.heap[g]? = w.heap[g]? := fun g hg => hk g ((hF g).2 hg)
  exact ⟨lab, mb, mem, ⟨(hk' fb (by rw [h.lfs]; exact nofun)).trans h.fs, h.lfs, h.map.keep (hk' mb (by rw [h.lmap]; exact nofun)), h.lmap,
    fun k x hx => (h.nd k x hx).keep fun g _ ho => ⟨hk' g (fun e => by rw [e] at ho; exact ho), rfl⟩, fun g hg => h.new g (Nat.le_trans hs hg), h.lim⟩, hF⟩
theorem TreeR.apart (h : TreeR w lab fb most room nds mb mem) : nds.Pairwise (fun p q => p.1 ≠ q.1) := by
  have := h.map.apart
  unfold entN at this
  rw [List.pairwise_map] at this
  exact this
/-- Behind a step of one node: only its blocks, and the tree's own, may have changed. -/
theorem TreeR.step {S S' : Nat → Prop} {w' : World} {lab' : Nat → TL} {k : Int} {x y : Pn} {m' : NM} (h : TreeR w lab fb most room nds mb mem) (hF : ∀ g, F g ↔ lab g ≠ .free) (hx : look nds k = some x) (c : Chg S S' w w')
    (hS : ∀ g, g < w.heap.size → S g → lab g = .fs ∨ OfN k (lab g)) (hl : ∀ g, g < w.heap.size → lab' g = lab g) (hn : ∀ g, w'.heap.size ≤ g → lab' g = .free)
    (hfs : Blk w' fb [.map (some mb), .int .i64 (most : Int), .int .i64 (room : Int), .int .i64 (usedN (upd nds k y) : Int)] 176) (hnd : NodeAt w' lab' k y m') (hb : m'.blk = (mem k).blk) (hu : usedN (upd nds k y) ≤ room) :
    ∃ F', TreeF w' F' fb most room (upd nds k y) ∧ Chg F F' w w' := by
  have hfree : ∀ g, ¬ F g → lab g = .free := fun g hg => Classical.byContradiction fun h => hg ((hF g).2 h)
  have hsame : ∀ g, g < w.heap.size → lab g ≠ .fs → ¬ OfN k (lab g) → w'.heap[g]? = w.heap[g]? := fun g hg h1 h2 => c.block g hg fun hs => (hS g hg hs).elim h1 h2
  refine ⟨fun g => lab' g ≠ .free, ⟨lab', mb, fun j => if j = k then m' else mem j, ⟨hfs, (hl fb h.fs.lt).trans h.lfs, ?_, (hl mb h.map.lt).trans h.lmap, fun j z hz => ?_, hn, ⟨h.lim.1, h.lim.2.1, hu⟩⟩, fun g => Iff.rfl⟩,
    ⟨c.os, c.tape, c.output, c.size, fun g hg hn => hsame g hg (by rw [hfree g hn]; exact nofun) (by rw [hfree g hn]; exact id), fun g hg hn => by rw [hl g hg, hfree g hn]; exact fun h => h rfl⟩⟩
  · have e : entN (fun j => if j = k then m' else mem j) (upd nds k y) = entN mem nds := by
      unfold entN
      rw [keys_upd (fun j => Value.pointer (some ⟨(if j = k then m' else mem j).blk, 0, none⟩))]
      refine List.map_congr_left fun p _ => ?_
      by_cases hp : p.1 = k
      · rw [if_pos hp, hb, hp]
      · rw [if_neg hp]
    rw [e]
    exact h.map.keep (hsame mb h.map.lt (by rw [h.lmap]; exact nofun) (by rw [h.lmap]; exact id))
  · rw [look_upd] at hz
    by_cases hj : j = k
    · rw [if_pos hj, hx] at hz
      cases hz
      subst hj
      simpa using hnd
    · rw [if_neg hj] at hz
      rw [if_neg hj]
      refine (h.nd j z hz).keep fun g hg ho => ⟨hsame g hg (fun e => by rw [e] at ho; exact ho) (fun e => hj ?_), hl g hg⟩
      cases hlg : lab g with
      | body i => rw [hlg] at ho e; exact ho.symm.trans e
      | data i => rw [hlg] at ho e; exact ho.symm.trans e
      | names i => rw [hlg] at ho e; exact ho.symm.trans e
      | free => rw [hlg] at ho; exact ho.elim
      | fs => rw [hlg] at ho; exact ho.elim
      | nmap => rw [hlg] at ho; exact ho.elim

theorem entN_look (k : Int) : look (entN mem nds) k = (look nds k).map fun _ => Value.pointer (some ⟨(mem k).blk, 0, none⟩) := by
  unfold entN
  induction nds with
  | nil => rfl
  | cons a l ih =>
    simp only [List.map_cons, look]
    split
    · rename_i h; simp [h]
    · exact ih
theorem TreeR.find (h : TreeR w lab fb most room nds mb mem) (k : Int) : (Instr.lookup 174 (.map (some mb)) (.int .i64 k) false).run Tryz.prog w = .ok (((look nds k).map fun _ => Value.pointer (some ⟨(mem k).blk, 0, none⟩)).getD (.pointer none)) w := by
  have := h.map.find keyI Tryz.underlying174 Tryz.underlying3 (Tryz.zeroValue131 w) false k
  rw [entN_look] at this
  exact this
theorem TreeR.find_some (h : TreeR w lab fb most room nds mb mem) {k : Int} {x : Pn} (hx : look nds k = some x) : (Instr.lookup 174 (.map (some mb)) (.int .i64 k) false).run Tryz.prog w = .ok (.pointer (some ⟨(mem k).blk, 0, none⟩)) w := by
  rw [h.find k, hx]; rfl
theorem TreeR.find_none (h : TreeR w lab fb most room nds mb mem) {k : Int} (hx : look nds k = none) : (Instr.lookup 174 (.map (some mb)) (.int .i64 k) false).run Tryz.prog w = .ok (.pointer none) w := by
  rw [h.find k, hx]; rfl

set_option maxRecDepth 100000 in
theorem body_some (h : TreeR w lab fb most room nds mb mem) {k : Int} {x : Pn} (hx : look nds k = some x) :
    Calls Tryz.prog 72 #[.pointer (some ⟨fb, 0, none⟩), .int .i64 k] w fun e w' => e = .returned (.tuple #[.pointer (some ⟨(mem k).blk, 0, none⟩), .int .i64 0]) ∧ w' = w := by
  have hf := h.find_some hx
  have c0 := h.fs.cell (i := 0) rfl
  have hlt := h.fs.lt
  generalize (mem k).blk = kb at hf ⊢
  clear h hx
  go_enter Tryz.func72, Tryz.ntmps72
  go_wp2
  go_ret2
  exact ⟨rfl, rfl⟩
set_option maxRecDepth 100000 in
theorem body_none (h : TreeR w lab fb most room nds mb mem) {k : Int} (hx : look nds k = none) :
    Calls Tryz.prog 72 #[.pointer (some ⟨fb, 0, none⟩), .int .i64 k] w fun e w' => e = .returned (.tuple #[.pointer none, .int .i64 10]) ∧ w' = w := by
  have hf := h.find_none hx
  have c0 := h.fs.cell (i := 0) rfl
  have hlt := h.fs.lt
  clear h hx
  go_enter Tryz.func72, Tryz.ntmps72
  go_wp2
  go_ret2
  exact ⟨rfl, rfl⟩
set_option maxRecDepth 100000 in
theorem leaf_some (h : TreeR w lab fb most room nds mb mem) {k : Int} {x : Pn} (hx : look nds k = some x) (hk : x.kind ≠ 1) :
    Calls Tryz.prog 126 #[.pointer (some ⟨fb, 0, none⟩), .int .i64 k] w fun e w' => e = .returned (.tuple #[.pointer (some ⟨(mem k).blk, 0, none⟩), .int .i64 0]) ∧ w' = w := by
  have hb := body_some h hx
  have c0 := (h.nd k x hx).blk.cell (i := 0) rfl
  have hlt := (h.nd k x hx).blk.lt
  have e1 : ((x.kind : Int) == 1) = false := by simp; omega
  generalize (mem k).blk = kb at hb c0 hlt ⊢
  clear h hx hk
  go_enter Tryz.func126, Tryz.ntmps126
  go_wp2_with fail
  refine hb.mono ?_
  rintro e w' ⟨rfl, hw⟩
  obtain rfl := hw.symm
  clear hb hw
  go_wp2
  go_ret2
  exact ⟨rfl, rfl⟩
set_option maxRecDepth 100000 in
theorem leaf_dir (h : TreeR w lab fb most room nds mb mem) {k : Int} {x : Pn} (hx : look nds k = some x) (hk : x.kind = 1) :
    Calls Tryz.prog 126 #[.pointer (some ⟨fb, 0, none⟩), .int .i64 k] w fun e w' => e = .returned (.tuple #[.pointer none, .int .i64 13]) ∧ w' = w := by
  have hb := body_some h hx
  have c0 := (h.nd k x hx).blk.cell (i := 0) rfl
  have hlt := (h.nd k x hx).blk.lt
  rw [hk] at c0
  generalize (mem k).blk = kb at hb c0 hlt ⊢
  clear h hx hk
  go_enter Tryz.func126, Tryz.ntmps126
  go_wp2_with fail
  refine hb.mono ?_
  rintro e w' ⟨rfl, hw⟩
  obtain rfl := hw.symm
  clear hb hw
  go_wp2
  go_ret2
  exact ⟨rfl, rfl⟩
set_option maxRecDepth 100000 in
theorem leaf_none (h : TreeR w lab fb most room nds mb mem) {k : Int} (hx : look nds k = none) :
    Calls Tryz.prog 126 #[.pointer (some ⟨fb, 0, none⟩), .int .i64 k] w fun e w' => e = .returned (.tuple #[.pointer none, .int .i64 10]) ∧ w' = w := by
  have hb := body_none h hx
  clear h hx
  go_enter Tryz.func126, Tryz.ntmps126
  go_wp2_with fail
  refine hb.mono ?_
  rintro e w' ⟨rfl, hw⟩
  obtain rfl := hw.symm
  clear hb hw
  go_wp2
  go_ret2
  exact ⟨rfl, rfl⟩
end
end Go.Proofs.YtbjakhiflgjflaaGreatDoor
