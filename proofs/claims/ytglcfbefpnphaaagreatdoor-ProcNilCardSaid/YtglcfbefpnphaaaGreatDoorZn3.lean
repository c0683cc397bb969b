/-
  A tree in memory: its nodes by their numbers, and which block is whose; body and leaf. Conditions: none.
-/
import Derived.Laws.MakeOwn
import Derived.Laws.IdiomStrings
import Derived.Test.YtglcfbefpnphaaaGreatDoorZn1
namespace Go.Proofs.YtglcfbefpnphaaaGreatDoor
open Go Go.RowKit

/-! ### Lists by keys -/
section
variable {κ α : Type} [DecidableEq κ]
def upd (l : List (κ × α)) (k : κ) (y : α) : List (κ × α) := l.map fun p => if p.1 = k then (k, y) else p
theorem look_upd (l : List (κ × α)) (k : κ) (y : α) (j : κ) : look (upd l k y) j = if j = k then (look l k).map (fun _ => y) else look l j := by
  induction l with
  | nil => simp [upd, look]
  | cons a l ih =>
    simp only [upd, List.map_cons, look] at ih ⊢
    by_cases h : a.1 = k
    · rw [if_pos h]
      by_cases hj : j = k
      · simp [hj, h]
      · rw [if_neg (fun e => hj e.symm), if_neg hj, ih, if_neg hj, if_neg (fun e => hj (e.symm.trans h))]
    · rw [if_neg h]
      by_cases hj : j = k
      · rw [if_neg (fun e => h (e.trans hj)), if_pos hj, ih, if_pos hj, if_neg h]
      · rw [if_neg hj, ih, if_neg hj]
theorem look_upd_same {l : List (κ × α)} {k : κ} {x : α} (h : look l k = some x) (y : α) : look (upd l k y) k = some y := by rw [look_upd, if_pos rfl, h]; rfl
theorem keys_upd {β : Type} (f : κ → β) (l : List (κ × α)) (k : κ) (y : α) : (upd l k y).map (fun p => (p.1, f p.1)) = l.map (fun p => (p.1, f p.1)) := by
  unfold upd
  rw [List.map_map]
  refine List.map_congr_left fun p _ => ?_
  show ((if p.1 = k then (k, y) else p).1, f (if p.1 = k then (k, y) else p).1) = _
  split
  · rename_i h; rw [← h]
  · rfl
theorem upd_upd (l : List (κ × α)) (k : κ) (y z : α) : upd (upd l k y) k z = upd l k z := by
  unfold upd
  rw [List.map_map]
  refine List.map_congr_left fun p _ => ?_
  show (if (if p.1 = k then (k, y) else p).1 = k then (k, z) else (if p.1 = k then (k, y) else p)) = _
  by_cases h : p.1 = k
  · rw [if_pos h, if_pos h, if_pos rfl]
  · rw [if_neg h, if_neg h]
/-- A sum over all. -/
def total (f : α → Nat) : List (κ × α) → Nat
  | [] => 0
  | p :: l => f p.2 + total f l
omit [DecidableEq κ] in
theorem total_app (f : α → Nat) (l m : List (κ × α)) : total f (l ++ m) = total f l + total f m := by
  induction l with
  | nil => simp [total]
  | cons a l ih => simp only [List.cons_append, total, ih]; omega
theorem upd_none {l : List (κ × α)} {k : κ} (h : look l k = none) (y : α) : upd l k y = l := by
  rw [look_none] at h
  unfold upd
  have := List.map_congr_left (f := fun p => if p.1 = k then (k, y) else p) (g := id) (l := l) fun p hp => if_neg (h p hp)
  rw [this, List.map_id]
theorem total_upd {f : α → Nat} {l : List (κ × α)} {k : κ} {x : α} (hd : l.Pairwise (fun p q => p.1 ≠ q.1)) (h : look l k = some x) (y : α) : total f (upd l k y) + f x = total f l + f y := by
  induction l with
  | nil => simp [look] at h
  | cons a l ih =>
    rw [List.pairwise_cons] at hd
    simp only [look] at h
    split at h
    · rename_i he
      cases h
      have : look l k = none := look_none.2 fun p hp e => hd.1 p hp (he.trans e.symm)
      have e1 : upd (a :: l) k y = (k, y) :: l := by
        show (if a.1 = k then (k, y) else a) :: upd l k y = _
        rw [if_pos he, upd_none this]
      rw [e1]
      simp only [total]
      omega
    · rename_i he
      have := ih hd.2 h
      have e1 : upd (a :: l) k y = a :: upd l k y := by
        show (if a.1 = k then (k, y) else a) :: upd l k y = _
        rw [if_neg he]
      rw [e1]
      simp only [total]
      omega
theorem total_ge {f : α → Nat} {l : List (κ × α)} {k : κ} {x : α} (h : look l k = some x) : f x ≤ total f l := by
  induction l with
  | nil => simp [look] at h
  | cons a l ih =>
    simp only [look] at h
    split at h
    · cases h; simp only [total]; omega
    · have := ih h; simp only [total]; omega
end

/-- A node, but where it lies. -/
structure Pn where
  kind : Nat
  named : Nat
  holds : Nat
  par : Nat
  data : List UInt8
  nms : Option (List (ByteArray × Nat))
  name : ByteArray
/-- Where it lies. -/
structure NM where
  blk : Nat
  dv : Value
  nv : Value
inductive TL where
  | free | fs | nmap
  | body (k : Int)
  | data (k : Int)
  | names (k : Int)
def OfN (k : Int) : TL → Prop
  | .body j => j = k
  | .data j => j = k
  | .names j => j = k
  | _ => False
def bodyC (x : Pn) (m : NM) : List Value := [.int .i64 (x.kind : Int), .int .i64 (x.named : Int), .int .i64 (x.holds : Int), m.dv, m.nv, .int .i64 (x.par : Int), .string x.name]
structure NodeAt (w : World) (lab : Nat → TL) (k : Int) (x : Pn) (m : NM) : Prop where
  blk : Blk w m.blk (bodyC x m) 156
  lb : lab m.blk = .body k
  data : RowM w 5 m.dv x.data.length (bc x.data)
  dl : ∀ g, m.dv.ownBlock = some g → lab g = .data k
  few : x.data.length ≤ 4096
  nil : x.nms = none → m.nv = .map none
  nms : ∀ l, x.nms = some l → ∃ nb, m.nv = .map (some nb) ∧ lab nb = .names k ∧ KMap w nb .string encS (l.map fun p => (p.1, Value.int .i64 (p.2 : Int)))
theorem NodeAt.keep {w w' : World} {lab lab' : Nat → TL} {k : Int} {x : Pn} {m : NM} (h : NodeAt w lab k x m) (hk : ∀ g, g < w.heap.size → OfN k (lab g) → w'.heap[g]? = w.heap[g]? ∧ lab' g = lab g) : NodeAt w' lab' k x m where
  blk := (hk _ h.blk.lt (by rw [h.lb]; exact rfl)).1.trans h.blk
  lb := (hk _ h.blk.lt (by rw [h.lb]; exact rfl)).2.trans h.lb
  data := h.data.keep fun g hg => (hk g (h.data.lt hg) (by rw [h.dl g hg]; exact rfl)).1
  dl := fun g hg => (hk g (h.data.lt hg) (by rw [h.dl g hg]; exact rfl)).2.trans (h.dl g hg)
  few := h.few
  nil := h.nil
  nms := fun l hl => by
    obtain ⟨nb, h1, h2, h3⟩ := h.nms l hl
    have h4 := hk nb h3.lt (by rw [h2]; exact rfl)
    exact ⟨nb, h1, h4.2.trans h2, h3.keep h4.1⟩

abbrev Nds := List (Int × Pn)
def usedN (nds : Nds) : Nat := total (fun x : Pn => x.data.length) nds
def entN (mem : Int → NM) (nds : Nds) : List (Int × Value) := nds.map fun p => (p.1, Value.pointer (some ⟨(mem p.1).blk, 0, none⟩))
structure TreeR (w : World) (lab : Nat → TL) (fb most room : Nat) (nds : Nds) (mb : Nat) (mem : Int → NM) : Prop where
  fs : Blk w fb [.map (some mb), .int .i64 (most : Int), .int .i64 (room : Int), .int .i64 (usedN nds : Int)] 176
  lfs : lab fb = .fs
  map : KMap w mb (.int .i64) encI (entN mem nds)
  lmap : lab mb = .nmap
  nd : ∀ k x, look nds k = some x → NodeAt w lab k x (mem k)
  new : ∀ g, w.heap.size ≤ g → lab g = .free
  lim : most ≤ 1024 ∧ room ≤ 1048576 ∧ usedN nds ≤ room
def TreeF (w : World) (F : Nat → Prop) (fb most room : Nat) (nds : Nds) : Prop := ∃ lab mb mem, TreeR w lab fb most room nds mb mem ∧ ∀ g, F g ↔ lab g ≠ .free

section
variable {w : World} {lab : Nat → TL} {F : Nat → Prop} {fb most room mb : Nat} {nds : Nds} {mem : Int → NM}
theorem TreeF.lt (h : TreeF w F fb most room nds) {g : Nat} (hg : F g) : g < w.heap.size := by
  obtain ⟨lab, mb, mem, h, hF⟩ := h
  exact Nat.lt_of_not_le fun hle => (hF g).1 hg (h.new g hle)
theorem TreeF.keep {w' : World} (h : TreeF w F fb most room nds) (hs : w.heap.size ≤ w'.heap.size) (hk : ∀ g, F g → w'.heap[g]? = w.heap[g]?) : TreeF w' F fb most room nds := by
  obtain ⟨lab, mb, mem, h, hF⟩ := h
  have hk' : ∀ g, lab g ≠ .free → w'.heap[g]? = w.heap[g]? := fun g hg => hk g ((hF g).2 hg)
  exact ⟨lab, mb, mem, ⟨(hk' fb (by rw [h.lfs]; exact nofun)).trans h.fs, h.lfs, h.map.keep (hk' mb (by rw [h.lmap]; exact nofun)), h.lmap,
    fun k x hx => (h.nd k x hx).keep fun g _ ho => ⟨hk' g (fun e => by rw [e] at ho; exact ho), rfl⟩, fun g hg => h.new g (Nat.le_trans hs hg), h.lim⟩, hF⟩
theorem TreeR.apart (h : TreeR w lab fb most room nds mb mem) : nds.Pairwise (fun p q => p.1 ≠ q.1) := by
  have := h.map.apart
  unfold entN at this
  rw [List.pairwise_map] at this
  exact this
/-- Behind a step of one node: only its blocks, and the tree's own, may have changed. -/
theorem TreeR.step {S S' : Nat → Prop} {w' : World} {lab' : Nat → TL} {k : Int} {x y : Pn} {m' : NM} (h : TreeR w lab fb most room nds mb mem) (hF : ∀ g, F g ↔ lab g ≠ .free) (hx : look nds k = some x) (c : Chg S S' w w')
    (hS : ∀ g, g < w.heap.size → S g → lab g = .fs ∨ OfN k (lab g)) (hl : ∀ g, g < w.heap.size → lab' g = lab g) (hn : ∀ g, w'.heap.size ≤ g → lab' g = .free)
    (hfs : Blk w' fb [.map (some mb), .int .i64 (most : Int), .int .i64 (room : Int), .int .i64 (usedN (upd nds k y) : Int)] 176) (hnd : NodeAt w' lab' k y m') (hb : m'.blk = (mem k).blk) (hu : usedN (upd nds k y) ≤ room) :
    ∃ F', TreeF w' F' fb most room (upd nds k y) ∧ Chg F F' w w' := by
  have hfree : ∀ g, ¬ F g → lab g = .free := fun g hg => Classical.byContradiction fun h => hg ((hF g).2 h)
  have hsame : ∀ g, g < w.heap.size → lab g ≠ .fs → ¬ OfN k (lab g) → w'.heap[g]? = w.heap[g]? := fun g hg h1 h2 => c.block g hg fun hs => (hS g hg hs).elim h1 h2
  refine ⟨fun g => lab' g ≠ .free, ⟨lab', mb, fun j => if j = k then m' else mem j, ⟨hfs, (hl fb h.fs.lt).trans h.lfs, ?_, (hl mb h.map.lt).trans h.lmap, fun j z hz => ?_, hn, ⟨h.lim.1, h.lim.2.1, hu⟩⟩, fun g => Iff.rfl⟩,
    ⟨c.os, c.tape, c.output, c.size, fun g hg hn => hsame g hg (by rw [hfree g hn]; exact nofun) (by rw [hfree g hn]; exact id), fun g hg hn => by rw [hl g hg, hfree g hn]; exact fun h => h rfl⟩⟩
  · have e : entN (fun j => if j = k then m' else mem j) (upd nds k y) = entN mem nds := by
      unfold entN
      rw [keys_upd (fun j => Value.pointer (some ⟨(if j = k then m' else mem j).blk, 0, none⟩))]
      refine List.map_congr_left fun p _ => ?_
      by_cases hp : p.1 = k
      · rw [if_pos hp, hb, hp]
      · rw [if_neg hp]
    rw [e]
    exact h.map.keep (hsame mb h.map.lt (by rw [h.lmap]; exact nofun) (by rw [h.lmap]; exact id))
  · rw [look_upd] at hz
    by_cases hj : j = k
    · rw [if_pos hj, hx] at hz
      cases hz
      subst hj
      simpa using hnd
    · rw [if_neg hj] at hz
      rw [if_neg hj]
      refine (h.nd j z hz).keep fun g hg ho => ⟨hsame g hg (fun e => by rw [e] at ho; exact ho) (fun e => hj ?_), hl g hg⟩
      cases hlg : lab g with
      | body i => rw [hlg] at ho e; exact ho.symm.trans e
      | data i => rw [hlg] at ho e; exact ho.symm.trans e
      | names i => rw [hlg] at ho e; exact ho.symm.trans e
      | free => rw [hlg] at ho; exact ho.elim
      | fs => rw [hlg] at ho; exact ho.elim
      | nmap => rw [hlg] at ho; exact ho.elim

theorem entN_look (k : Int) : look (entN mem nds) k = (look nds k).map fun _ => Value.pointer (some ⟨(mem k).blk, 0, none⟩) := by
  unfold entN
  induction nds with
  | nil => rfl
  | cons a l ih =>
    simp only [List.map_cons, look]
    split
    · rename_i h; simp [h]
    · exact ih
theorem TreeR.find (h : TreeR w lab fb most room nds mb mem) (k : Int) : (Instr.lookup 174 (.map (some mb)) (.int .i64 k) false).run Tryz.prog w = .ok (((look nds k).map fun _ => Value.pointer (some ⟨(mem k).blk, 0, none⟩)).getD (.pointer none)) w := by
  have := h.map.find keyI Tryz.underlying174 Tryz.underlying3 (Tryz.zeroValue150 w) false k
  rw [entN_look] at this
  exact this
theorem TreeR.find_some (h : TreeR w lab fb most room nds mb mem) {k : Int} {x : Pn} (hx : look nds k = some x) : (Instr.lookup 174 (.map (some mb)) (.int .i64 k) false).run Tryz.prog w = .ok (.pointer (some ⟨(mem k).blk, 0, none⟩)) w := by
  rw [h.find k, hx]; rfl
theorem TreeR.find_none (h : TreeR w lab fb most room nds mb mem) {k : Int} (hx : look nds k = none) : (Instr.lookup 174 (.map (some mb)) (.int .i64 k) false).run Tryz.prog w = .ok (.pointer none) w := by
  rw [h.find k, hx]; rfl

set_option maxRecDepth 100000 in
theorem body_some (h : TreeR w lab fb most room nds mb mem) {k : Int} {x : Pn} (hx : look nds k = some x) :
    Calls Tryz.prog 89 #[.pointer (some ⟨fb, 0, none⟩), .int .i64 k] w fun e w' => e = .returned (.tuple #[.pointer (some ⟨(mem k).blk, 0, none⟩), .int .i64 0]) ∧ w' = w := by
  have hf := h.find_some hx
  have c0 := h.fs.cell (i := 0) rfl
  have hlt := h.fs.lt
  generalize (mem k).blk = kb at hf ⊢
  clear h hx
  go_enter Tryz.func89, Tryz.ntmps89
  go_wp2
  go_ret2
  exact ⟨rfl, rfl⟩
set_option maxRecDepth 100000 in
theorem leaf_some (h : TreeR w lab fb most room nds mb mem) {k : Int} {x : Pn} (hx : look nds k = some x) (hk : x.kind ≠ 1) :
    Calls Tryz.prog 120 #[.pointer (some ⟨fb, 0, none⟩), .int .i64 k] w fun e w' => e = .returned (.tuple #[.pointer (some ⟨(mem k).blk, 0, none⟩), .int .i64 0]) ∧ w' = w := by
  have hb := body_some h hx
  have c0 := (h.nd k x hx).blk.cell (i := 0) rfl
  have hlt := (h.nd k x hx).blk.lt
  have e1 : ((x.kind : Int) == 1) = false := by simp; omega
  generalize (mem k).blk = kb at hb c0 hlt ⊢
  clear h hx hk
  go_enter Tryz.func120, Tryz.ntmps120
  go_wp2_with fail
  refine hb.mono ?_
  rintro e w' ⟨rfl, hw⟩
  obtain rfl := hw.symm
  clear hb hw
  go_wp2
  go_ret2
  exact ⟨rfl, rfl⟩
end
end Go.Proofs.YtglcfbefpnphaaaGreatDoor
/-
  A pool and its buffers in memory: which block is whose; what a step of one buffer leaves as it was. Conditions: none.
-/
namespace Go.Proofs.YtglcfbefpnphaaaGreatDoor
open Go Go.RowKit

/-- Whose a block is: t of a buffer: 0 its struct, 1 its memory, 2 its row of chunks, 3 a chunk. -/
inductive Lab where
  | free | pool | sparr | spare
  | own (k t : Nat)
/-- The pool's, or buffer k's. -/
def Mine (k : Nat) : Lab → Prop
  | .free => False
  | .own k' _ => k' = k
  | _ => True
def relab (lab : Nat → Lab) (v : Value) (l : Lab) : Nat → Lab := fun g => if v.ownBlock = some g then l else lab g
structure PoolAt (w : World) (B : Nat) (lab : Nat → Lab) (pb : Nat) (p : Ps) (S : Value) (sp : List Value) : Prop where
  blk : Blk w pb (p.cells S) 173
  low : B ≤ pb
  lb : lab pb = .pool
  arr : Row w B 153 S sp.length sp
  arl : ∀ g, S.ownBlock = some g → lab g = .sparr
  str : ∀ v ∈ sp, ∃ bs : List UInt8, Row w B 5 v bs.length (bc bs)
  stl : ∀ v ∈ sp, ∀ g, v.ownBlock = some g → lab g = .spare
  nd : (sp.filterMap Value.ownBlock).Nodup

/-- A buffer: all its bytes, how many are gone, the place of its first chunk, its memory, its row of chunks, the chunks. -/
structure Bs where
  all : List UInt8
  gone : Nat
  Q : Nat
  m : Value
  c : Value
  cs : List Value
def chunkB (all : List UInt8) (Q C i : Nat) : List UInt8 := (all.drop (Q + i * C)).take C

structure BufR (w : World) (B : Nat) (lab : Nat → Lab) (bb k M C : Nat) (b : Bs) : Prop where
  low : B ≤ bb
  lb : lab bb = .own k 0
  gl : b.gone ≤ b.all.length
  mm : b.gone < M → Row w B 5 b.m (b.all.take M).length (bc (b.all.take M))
  ml : b.gone < M → ∀ g, b.m.ownBlock = some g → lab g = .own k 1
  arr : Row w B 153 b.c b.cs.length b.cs
  arl : ∀ g, b.c.ownBlock = some g → lab g = .own k 2
  qq : ∃ q, b.Q = M + q * C
  qg : b.gone < M ∧ b.Q = M ∨ b.Q ≤ b.gone ∧ b.gone < b.Q + C
  hi : b.all.length - b.Q ≤ b.cs.length * C
  lo : ∀ i, i < b.cs.length → b.Q + i * C < b.all.length
  str : ∀ i v, b.cs[i]? = some v → Row w B 5 v (chunkB b.all b.Q C i).length (bc (chunkB b.all b.Q C i))
  stl : ∀ v ∈ b.cs, ∀ g, v.ownBlock = some g → lab g = .own k 3
  nd : (b.cs.filterMap Value.ownBlock).Nodup

/-- What a step of buffer k leaves: blocks that are neither the pool's nor its own, nor new since n0, are as they were, and whose they were. -/
structure Step (B k n0 : Nat) (w : World) (lab : Nat → Lab) (w' : World) (lab' : Nat → Lab) : Prop where
  mv : Mv B (fun g => Mine k (lab g) ∨ n0 ≤ g) w w'
  lb : ∀ g, g < w.heap.size → ¬ Mine k (lab g) → lab' g = lab g
  new : ∀ g, w'.heap.size ≤ g → lab' g = .free
theorem PoolAt.keep {w w' : World} {B pb : Nat} {lab lab' : Nat → Lab} {p : Ps} {S : Value} {sp : List Value} (h : PoolAt w B lab pb p S sp)
    (hk : ∀ g, g < w.heap.size → (lab g = .pool ∨ lab g = .sparr ∨ lab g = .spare) → w'.heap[g]? = w.heap[g]? ∧ lab' g = lab g) : PoolAt w' B lab' pb p S sp where
  blk := (hk pb h.blk.lt (.inl h.lb)).1.trans h.blk
  low := h.low
  lb := (hk pb h.blk.lt (.inl h.lb)).2.trans h.lb
  arr := h.arr.keep fun g hg => (hk g (h.arr.lt hg).2.1 (.inr (.inl (h.arl g hg)))).1
  arl := fun g hg => (hk g (h.arr.lt hg).2.1 (.inr (.inl (h.arl g hg)))).2.trans (h.arl g hg)
  str := fun v hv => by
    obtain ⟨bs, hb⟩ := h.str v hv
    exact ⟨bs, hb.keep fun g hg => (hk g (hb.lt hg).2.1 (.inr (.inr (h.stl v hv g hg)))).1⟩
  stl := fun v hv g hg => by
    obtain ⟨bs, hb⟩ := h.str v hv
    exact (hk g (hb.lt hg).2.1 (.inr (.inr (h.stl v hv g hg)))).2.trans (h.stl v hv g hg)
  nd := h.nd

theorem BufR.keep {w w' : World} {B bb k M C : Nat} {lab lab' : Nat → Lab} {b : Bs} (h : BufR w B lab bb k M C b) (hbb : bb < w.heap.size)
    (hk : ∀ g, g < w.heap.size → (∃ t, lab g = .own k t) → w'.heap[g]? = w.heap[g]? ∧ lab' g = lab g) : BufR w' B lab' bb k M C b where
  low := h.low
  lb := (hk bb hbb ⟨_, h.lb⟩).2.trans h.lb
  gl := h.gl
  mm := fun hm => (h.mm hm).keep fun g hg => (hk g ((h.mm hm).lt hg).2.1 ⟨_, h.ml hm g hg⟩).1
  ml := fun hm g hg => (hk g ((h.mm hm).lt hg).2.1 ⟨_, h.ml hm g hg⟩).2.trans (h.ml hm g hg)
  arr := h.arr.keep fun g hg => (hk g (h.arr.lt hg).2.1 ⟨_, h.arl g hg⟩).1
  arl := fun g hg => (hk g (h.arr.lt hg).2.1 ⟨_, h.arl g hg⟩).2.trans (h.arl g hg)
  qq := h.qq
  qg := h.qg
  hi := h.hi
  lo := h.lo
  str := fun i v hv => (h.str i v hv).keep fun g hg => (hk g ((h.str i v hv).lt hg).2.1 ⟨_, h.stl v (List.mem_of_getElem? hv) g hg⟩).1
  stl := fun v hv g hg => by
    obtain ⟨i, hi⟩ := List.getElem?_of_mem hv
    exact (hk g ((h.str i v hi).lt hg).2.1 ⟨_, h.stl v hv g hg⟩).2.trans (h.stl v hv g hg)
  nd := h.nd

/-! ### Chunks as bytes -/
end Go.Proofs.YtglcfbefpnphaaaGreatDoor
/-
  put, whatever way: the buffer has a beginning of the data more; the pool and the other buffers stand. Conditions: something is to be moved; at most a million bytes and chunks; numbers of the size of a pool's.
-/
namespace Go.Proofs.YtglcfbefpnphaaaGreatDoor
open Go Go.RowKit

theorem lab_ne {lab : Nat → Lab} {a b : Nat} {x y : Lab} (ha : lab a = x) (hb : lab b = y) (h : x ≠ y) : a ≠ b := fun e => h (by rw [← ha, ← hb, e])
/-- What a put leaves. -/
def PutPost (B pb bb k : Nat) (lab : Nat → Lab) (p : Ps) (sp : List Value) (b : Bs) (data : ByteArray) (w : World) (e : Ending) (w' : World) : Prop :=
  ∃ (n : Nat) (lab' : Nat → Lab) (u : Nat) (S' : Value) (sp' : List Value) (b' : Bs), 0 < n ∧ n ≤ data.size ∧ e = .returned (.int .i64 (n : Int)) ∧ PoolAt w' B lab' pb { p with used := u } S' sp' ∧
    Blk w' bb (bufC pb b.gone b.all.length b'.m b'.c) 232 ∧ BufR w' B lab' bb k p.mem p.ch b' ∧ b'.all = b.all ++ (tl data).take n ∧ b'.gone = b.gone ∧
    Step B k w.heap.size w lab w' lab' ∧ u + b.cs.length = p.used + b'.cs.length ∧ sp'.length + u ≤ sp.length + p.used + 1

section
variable {B pb bb k : Nat} {lab : Nat → Lab} {p : Ps} {S : Value} {sp : List Value} {b : Bs} {data : ByteArray} {w : World}

end
end Go.Proofs.YtglcfbefpnphaaaGreatDoor
/-
  The calls of a line: open, Len, Held, Chunks, Buffers, of what is there, what is closed and what is nil. Conditions: numbers of 64 bits.
-/
namespace Go.Proofs.YtglcfbefpnphaaaGreatDoor
open Go Go.RowKit

/-- A closed buffer's cells. -/
def shutC : List Value := [.pointer none, .int .i64 0, .int .i64 0, .slice none 0 0, .slice none 0 0]

theorem set5 (p : Ps) (S : Value) (u : Nat) : (p.cells S).set 5 (.int .i64 (u : Int)) = ({ p with nb := u } : Ps).cells S := rfl
set_option maxRecDepth 100000 in
theorem Open_ok (B pb : Nat) (p : Ps) (S : Value) (w : World) (hb : Blk w pb (p.cells S) 173) (hB : B ≤ pb) (hn : p.nb ≤ 1000000) :
    Calls Tryz.prog 94 #[.pointer (some ⟨pb, 0, none⟩)] w fun e w' => e = .returned (.pointer (some ⟨w.heap.size, 0, none⟩)) ∧ Blk w' pb (({ p with nb := p.nb + 1 } : Ps).cells S) 173 ∧
      Blk w' w.heap.size (bufC pb 0 0 (.slice none 0 0) (.slice none 0 0)) 232 ∧ Mv B (fun b => b = pb) w w' ∧ w'.heap.size = w.heap.size + 1 := by
  have c5 := hb.cell (show (p.cells S)[5]? = some _ from rfl)
  have hf := hb.frozen 5
  have hlt := hb.lt
  obtain ⟨U, hU⟩ : ∃ U, p.nb = U := ⟨_, rfl⟩
  rw [hU] at c5 hn ⊢
  replace hU := Lib.hid hU
  replace hb := Lib.hid hb
  go_enter Tryz.func94, Tryz.ntmps94
  go_upto_region 4 with fail
  have e1 : (w.setCell ⟨pb, 5, none⟩ (.int .i64 ((U : Int) + 1))) = (w.setCell ⟨pb, 5, none⟩ (.int .i64 ((U + 1 : Nat) : Int))) := rfl
  rw [e1]
  have hb1 := hb.out.set 5 (.int .i64 ((U + 1 : Nat) : Int))
  rw [set5] at hb1
  have hm1 : Mv B (fun b => b = pb) w (w.setCell ⟨pb, 5, none⟩ (.int .i64 ((U + 1 : Nat) : Int))) := Mv.set (S := fun b => b = pb) hb.out rfl four_pool hB _ _
  have hs1 : (w.setCell ⟨pb, 5, none⟩ (.int .i64 ((U + 1 : Nat) : Int))).heap.size = w.heap.size := by simp [World.setCell]
  obtain ⟨z, hz⟩ : ∃ z, w.heap.size = z := ⟨_, rfl⟩
  generalize w.setCell ⟨pb, 5, none⟩ (.int .i64 ((U + 1 : Nat) : Int)) = w1 at hb1 hm1 hs1 ⊢
  rw [hz] at hs1
  have hb2 := hb1.alloc (.cells #[.pointer (some ⟨pb, 0, none⟩), .int .i64 0, .int .i64 0, .slice none 0 0, .slice none 0 0] 232)
  have hnew := Blk.new w1 (bufC pb 0 0 (.slice none 0 0) (.slice none 0 0)) 232
  rw [hs1] at hnew
  have hm2 := hm1.trans (Mv.alloc B _ w1 (.cells #[.pointer (some ⟨pb, 0, none⟩), .int .i64 0, .int .i64 0, .slice none 0 0, .slice none 0 0] 232))
  have hs2 : (w1.alloc (.cells #[.pointer (some ⟨pb, 0, none⟩), .int .i64 0, .int .i64 0, .slice none 0 0, .slice none 0 0] 232)).heap.size = z + 1 := by rw [← hs1]; simp
  replace hs2 := Lib.hid hs2
  replace hb1 := Lib.hid hb1
  replace hm1 := Lib.hid hm1
  replace hb2 := Lib.hid hb2
  replace hm2 := Lib.hid hm2
  replace hnew := Lib.hid hnew
  replace hz := Lib.hid hz
  clear c5 hf e1
  go_wp2
  go_ret
  exact ⟨by rw [hz.out]; rfl, hb2.out, by rw [hz.out]; exact hnew.out, hm2.out, by rw [hz.out]; exact hs2.out⟩

/-- May a pool be made of these? -/
def mayPool (q m c : Int) : Bool := decide (0 ≤ q) && decide (q ≤ 1048576) && decide (0 ≤ m) && decide (m ≤ 65536) && decide (1 ≤ c) && decide (c ≤ 65536)
set_option maxRecDepth 100000 in
theorem New_ok (q m c : Nat) (w : World) (hq : q ≤ 1048576) (hm : m ≤ 65536) (hc0 : 1 ≤ c) (hc : c ≤ 65536) :
    Calls Tryz.prog 42 #[.int .i64 (q : Int), .int .i64 (m : Int), .int .i64 (c : Int)] w fun e w' => e = .returned (.tuple #[.pointer (some ⟨w.heap.size, 0, none⟩), .int .i64 0]) ∧ w' = w.alloc (.cells ((⟨q, m, c, 0, 0, 0⟩ : Ps).cells (.slice none 0 0)).toArray 173) := by
  have h1 : ¬ (q : Int) < 0 := by omega
  have h2 : ¬ (1048576 : Int) < (q : Int) := by omega
  have h3 : ¬ (m : Int) < 0 := by omega
  have h4 : ¬ (65536 : Int) < (m : Int) := by omega
  have h5 : ¬ (c : Int) < 1 := by omega
  have h6 : ¬ (65536 : Int) < (c : Int) := by omega
  go_enter Tryz.func42, Tryz.ntmps42
  go_wp2
  go_ret2
  exact ⟨rfl, rfl⟩
end Go.Proofs.YtglcfbefpnphaaaGreatDoor
/-
  Append to an open buffer: its bytes are behind the others, or, above the quota, nothing is. Conditions: at most a million bytes and chunks; numbers of the size of a pool's.
-/
namespace Go.Proofs.YtglcfbefpnphaaaGreatDoor
open Go Go.RowKit

theorem tl_from (s : ByteArray) (k : Nat) : tl (s.extract k s.size) = (tl s).drop k := by
  have h := tl_len s
  unfold tl at h ⊢
  simp only [ByteArray.data_extract, Array.toList_extract, List.extract]
  exact List.take_of_length_le (by rw [List.length_drop]; omega)
theorem tl_emp (s : ByteArray) : s.toList.isEmpty = decide (s.size = 0) := by
  rw [ByteArray.toList_eq]
  have h := tl_len s
  unfold tl at h
  cases hl : s.data.toList with
  | nil => rw [hl] at h; simp [← h]
  | cons x l => rw [hl] at h; simp [← h]
def strLen : Value → Nat | .string s => s.size | _ => 0

theorem PoolAt.head {w w' : World} {B pb : Nat} {lab : Nat → Lab} {p p' : Ps} {S : Value} {sp : List Value} (h : PoolAt w B lab pb p S sp) (hb : Blk w' pb (p'.cells S) 173)
    (hk : ∀ g, g < w.heap.size → g ≠ pb → w'.heap[g]? = w.heap[g]?) : PoolAt w' B lab pb p' S sp where
  blk := hb
  low := h.low
  lb := h.lb
  arr := h.arr.keep fun g hg => hk g (h.arr.lt hg).2.1 (lab_ne (h.arl g hg) h.lb nofun)
  arl := h.arl
  str := fun v hv => by
    obtain ⟨bs, hbs⟩ := h.str v hv
    exact ⟨bs, hbs.keep fun g hg => hk g (hbs.lt hg).2.1 (lab_ne (h.stl v hv g hg) h.lb nofun)⟩
  stl := h.stl
  nd := h.nd
/-- What an Append that is done leaves. -/
def AppPost (B pb bb k : Nat) (lab : Nat → Lab) (p : Ps) (sp : List Value) (b : Bs) (data : ByteArray) (w w' : World) : Prop :=
  ∃ (lab' : Nat → Lab) (u : Nat) (S' : Value) (sp' : List Value) (b' : Bs), PoolAt w' B lab' pb { p with held := p.held + data.size, used := u } S' sp' ∧
    Blk w' bb (bufC pb b.gone b'.all.length b'.m b'.c) 232 ∧ BufR w' B lab' bb k p.mem p.ch b' ∧ b'.all = b.all ++ tl data ∧ b'.gone = b.gone ∧
    Step B k w.heap.size w lab w' lab' ∧ u + b.cs.length = p.used + b'.cs.length ∧ sp'.length + u ≤ sp.length + p.used + data.size

section
variable {B pb bb k : Nat} {lab : Nat → Lab} {p : Ps} {S : Value} {sp : List Value} {b : Bs} {data : ByteArray} {w : World}

end
end Go.Proofs.YtglcfbefpnphaaaGreatDoor
/-
  get out of memory: bytes are copied out, and the memory goes when it is through. Conditions: bytes are left there; numbers of the size of a pool's.
-/
namespace Go.Proofs.YtglcfbefpnphaaaGreatDoor
open Go Go.RowKit

end Go.Proofs.YtglcfbefpnphaaaGreatDoor
/-
  get out of the first chunk: bytes are copied out; a chunk that is through is left. Conditions: bytes are left there; numbers of the size of a pool's.
-/
namespace Go.Proofs.YtglcfbefpnphaaaGreatDoor
open Go Go.RowKit

end Go.Proofs.YtglcfbefpnphaaaGreatDoor
/-
  get, whatever way: the next bytes go into a block that is nobody's; the pool and the other buffers stand. Conditions: bytes are left; at most a million bytes and chunks; numbers of the size of a pool's.
-/
namespace Go.Proofs.YtglcfbefpnphaaaGreatDoor
open Go Go.RowKit

/-- What a get leaves. -/
def GetPost (B pb bb k n0 : Nat) (lab : Nat → Lab) (p : Ps) (sp : List Value) (b : Bs) (og a dl : Nat) (cur : List Value) (w : World) (e : Ending) (w' : World) : Prop :=
  ∃ (N : Nat) (lab' : Nat → Lab) (u : Nat) (S' : Value) (sp' : List Value) (b' : Bs), 0 < N ∧ N ≤ dl ∧ b.gone + N ≤ b.all.length ∧ e = .returned (.int .i64 (N : Int)) ∧ PoolAt w' B lab' pb { p with used := u } S' sp' ∧
    Blk w' bb (bufC pb (b.gone + N) b.all.length b'.m b'.c) 232 ∧ BufR w' B lab' bb k p.mem p.ch b' ∧ b'.all = b.all ∧ b'.gone = b.gone + N ∧
    Blk w' og (cur.take a ++ bc ((b.all.drop b.gone).take N) ++ cur.drop (a + N)) 5 ∧
    Step B k n0 w lab w' lab' ∧ u + b.cs.length = p.used + b'.cs.length ∧ sp'.length + u ≤ sp.length + p.used

section
variable {B pb bb k n0 : Nat} {lab : Nat → Lab} {p : Ps} {S : Value} {sp : List Value} {b : Bs} {og a dl dc : Nat} {cur : List Value} {w : World}

end
end Go.Proofs.YtglcfbefpnphaaaGreatDoor
/-
  Drain of an open buffer: its next bytes, as many as asked for, or all. Conditions: at most a million bytes and chunks; numbers of the size of a pool's.
-/
namespace Go.Proofs.YtglcfbefpnphaaaGreatDoor
open Go Go.RowKit

/-- What a Drain of T bytes leaves. -/
def DrainPost (B pb bb k : Nat) (lab : Nat → Lab) (p : Ps) (sp : List Value) (b : Bs) (T : Nat) (w w' : World) : Prop :=
  ∃ (lab' : Nat → Lab) (u : Nat) (S' : Value) (sp' : List Value) (b' : Bs), PoolAt w' B lab' pb { p with held := p.held - T, used := u } S' sp' ∧
    Blk w' bb (bufC pb (b.gone + T) b.all.length b'.m b'.c) 232 ∧ BufR w' B lab' bb k p.mem p.ch b' ∧ b'.all = b.all ∧ b'.gone = b.gone + T ∧
    Step B k w.heap.size w lab w' lab' ∧ u + b.cs.length = p.used + b'.cs.length ∧ sp'.length + u ≤ sp.length + p.used
section
variable {B pb bb k : Nat} {lab : Nat → Lab} {p : Ps} {S : Value} {sp : List Value} {b : Bs} {w : World}

end
end Go.Proofs.YtglcfbefpnphaaaGreatDoor
/-
  Close of an open buffer: it has no bytes, its chunks are kept by the pool, and no longer used. Conditions: at most a million bytes and chunks; numbers of the size of a pool's.
-/
namespace Go.Proofs.YtglcfbefpnphaaaGreatDoor
open Go Go.RowKit

/-- Whose a block is when buffer k's chunks have gone to the spare ones. -/
def toSpare (k : Nat) : Lab → Lab
  | .own k' 3 => if k' = k then .spare else .own k' 3
  | l => l
/-- What a Close leaves. -/
def ClosePost (B pb bb k : Nat) (lab : Nat → Lab) (p : Ps) (sp : List Value) (b : Bs) (w w' : World) : Prop :=
  ∃ (lab' : Nat → Lab) (S' : Value), PoolAt w' B lab' pb { p with held := p.held - (b.all.length - b.gone), used := p.used - b.cs.length, nb := p.nb - 1 } S' (sp ++ b.cs) ∧
    Blk w' bb shutC 232 ∧ lab' bb = .own k 0 ∧ Step B k w.heap.size w lab w' lab'

section
variable {B pb bb k : Nat} {lab : Nat → Lab} {p : Ps} {S : Value} {sp : List Value} {b : Bs} {w : World}

end
end Go.Proofs.YtglcfbefpnphaaaGreatDoor
/-
  A pool with all its buffers, open and closed ones: what each call answers and leaves. Conditions: at most a million bytes and buffers; numbers of the size of a pool's.
-/
namespace Go.Proofs.YtglcfbefpnphaaaGreatDoor
open Go Go.RowKit

def tally {α : Type} (f : α → Nat) : List α → Nat
  | [] => 0
  | x :: l => f x + tally f l
theorem tally_app {α : Type} (f : α → Nat) (l : List α) (x : α) : tally f (l ++ [x]) = tally f l + f x := by
  induction l with
  | nil => simp [tally]
  | cons a l ih => simp only [List.cons_append, tally, ih]; omega
theorem tally_one {α : Type} {f : α → Nat} (hf : ∀ x, f x ≤ 1) (l : List α) : tally f l ≤ l.length := by
  induction l with
  | nil => simp [tally]
  | cons a l ih => have := hf a; simp only [tally, List.length_cons]; omega

/-- A buffer's block, and what it has while it is open. -/
abbrev Ent := Nat × Option Bs
def heldOf : Ent → Nat | (_, some b) => b.all.length - b.gone | (_, none) => 0
def usedOf : Ent → Nat | (_, some b) => b.cs.length | (_, none) => 0
def openOf : Ent → Nat | (_, some _) => 1 | (_, none) => 0
def poolOf (q M C : Nat) (es : List Ent) : Ps := ⟨q, M, C, tally heldOf es, tally usedOf es, tally openOf es⟩

def EntAt (w : World) (B : Nat) (lab : Nat → Lab) (pb M C k : Nat) : Ent → Prop
  | (bb, some b) => Blk w bb (bufC pb b.gone b.all.length b.m b.c) 232 ∧ BufR w B lab bb k M C b
  | (bb, none) => Blk w bb shutC 232 ∧ lab bb = .own k 0 ∧ B ≤ bb

structure AllR (w : World) (B : Nat) (lab : Nat → Lab) (pb q M C : Nat) (es : List Ent) (tot : Nat) (S : Value) (sp : List Value) : Prop where
  pool : PoolAt w B lab pb (poolOf q M C es) S sp
  new : ∀ g, w.heap.size ≤ g → lab g = .free
  ent : ∀ k e, es[k]? = some e → EntAt w B lab pb M C k e
  few : sp.length + tally usedOf es ≤ tot
  long : ∀ (k bb : Nat) (b : Bs), es[k]? = some (bb, some b) → b.all.length ≤ tot
  par : q ≤ 1048576 ∧ M ≤ 65536 ∧ 0 < C ∧ C ≤ 65536
  hq : tally heldOf es ≤ q
  base : B ≤ w.heap.size
def All (w : World) (B pb q M C : Nat) (es : List Ent) (tot : Nat) : Prop := ∃ lab S sp, AllR w B lab pb q M C es tot S sp

theorem EntAt.keep {w w' : World} {B pb M C k : Nat} {lab lab' : Nat → Lab} {e : Ent} (h : EntAt w B lab pb M C k e) (hk : ∀ g, g < w.heap.size → (∃ t, lab g = .own k t) → w'.heap[g]? = w.heap[g]? ∧ lab' g = lab g) : EntAt w' B lab' pb M C k e := by
  obtain ⟨bb, o⟩ := e
  cases o with
  | none =>
    obtain ⟨h1, h2, h3⟩ := h
    exact ⟨(hk bb h1.lt ⟨_, h2⟩).1.trans h1, (hk bb h1.lt ⟨_, h2⟩).2.trans h2, h3⟩
  | some b =>
    obtain ⟨h1, h2⟩ := h
    exact ⟨(hk bb h1.lt ⟨_, h2.lb⟩).1.trans h1, h2.keep h1.lt hk⟩
section
variable {w : World} {B pb q M C tot k bb : Nat} {es : List Ent} {b : Bs}

end
end Go.Proofs.YtglcfbefpnphaaaGreatDoor
/-
  A pool with all its buffers, by the blocks that it has: what each call answers, and that no other block changes. Conditions: at most a million bytes and buffers; numbers of the size of a pool's.
-/
namespace Go.Proofs.YtglcfbefpnphaaaGreatDoor
open Go Go.RowKit

def AllF (w : World) (F : Nat → Prop) (pb q M C : Nat) (es : List Ent) (tot : Nat) : Prop := ∃ B lab S sp, AllR w B lab pb q M C es tot S sp ∧ ∀ g, F g ↔ lab g ≠ .free
theorem AllF.lt {w : World} {F : Nat → Prop} {pb q M C tot : Nat} {es : List Ent} (h : AllF w F pb q M C es tot) {g : Nat} (hg : F g) : g < w.heap.size := by
  obtain ⟨B, lab, S, sp, h, hF⟩ := h
  exact Nat.lt_of_not_le fun hle => (hF g).1 hg (h.new g hle)
theorem AllF.keep {w w' : World} {F : Nat → Prop} {pb q M C tot : Nat} {es : List Ent} (h : AllF w F pb q M C es tot) (hs : w.heap.size ≤ w'.heap.size) (hk : ∀ g, F g → w'.heap[g]? = w.heap[g]?) : AllF w' F pb q M C es tot := by
  obtain ⟨B, lab, S, sp, h, hF⟩ := h
  exact ⟨B, lab, S, sp, ⟨h.pool.keep fun g _ hl => ⟨hk g ((hF g).2 (by rcases hl with h | h | h <;> simp [h])), rfl⟩, fun g hg => h.new g (Nat.le_trans hs hg),
    fun k e he => (h.ent k e he).keep fun g _ ⟨t, ht⟩ => ⟨hk g ((hF g).2 (by simp [ht])), rfl⟩, h.few, h.long, h.par, h.hq, Nat.le_trans h.base hs⟩, hF⟩

section
variable {w : World} {F : Nat → Prop} {pb q M C tot k bb : Nat} {es : List Ent} {b : Bs}

theorem allF_new (q M C : Nat) (hq : q ≤ 1048576) (hm : M ≤ 65536) (hc0 : 1 ≤ C) (hc : C ≤ 65536) :
    Calls Tryz.prog 42 #[.int .i64 (q : Int), .int .i64 (M : Int), .int .i64 (C : Int)] w fun e w' => e = .returned (.tuple #[.pointer (some ⟨w.heap.size, 0, none⟩), .int .i64 0]) ∧
      (∃ F', AllF w' F' w.heap.size q M C [] 0 ∧ Chg (fun _ => False) F' w w') ∧ w'.heap.size = w.heap.size + 1 := by
  refine (New_ok q M C w hq hm hc0 hc).mono ?_
  rintro e w' ⟨he, rfl⟩
  refine ⟨he, ⟨fun g => (if g = w.heap.size then Lab.pool else .free) ≠ .free, ⟨w.heap.size, fun g => if g = w.heap.size then .pool else .free, .slice none 0 0, [], ?_, fun g => Iff.rfl⟩, ⟨rfl, rfl, rfl, by simp, fun k hk _ => Below.heap_alloc w _ k hk, fun g hg _ => ?_⟩⟩, by simp⟩
  · exact {
      pool := {
        blk := Blk.new w _ _
        low := Nat.le_refl _
        lb := if_pos rfl
        arr := Row.nil_ _ _ _
        arl := fun g h => by cases h
        str := fun v hv => by cases hv
        stl := fun v hv => by cases hv
        nd := by simp }
      new := fun g hg => if_neg (by simp at hg; omega)
      ent := fun k e h => by simp at h
      few := by simp [tally]
      long := fun k bb b h => by simp at h
      par := ⟨hq, hm, hc0, hc⟩
      hq := by simp [tally]
      base := by simp }
  · rw [if_neg (by omega)]
    exact fun h => h rfl

theorem allF_open (h : AllF w F pb q M C es tot) (hn : es.length ≤ 1000000) :
    Calls Tryz.prog 94 #[.pointer (some ⟨pb, 0, none⟩)] w fun e w' => e = .returned (.pointer (some ⟨w.heap.size, 0, none⟩)) ∧
      (∃ F', AllF w' F' pb q M C (es ++ [(w.heap.size, some ⟨[], 0, M, .slice none 0 0, .slice none 0 0, []⟩)]) tot ∧ Chg F F' w w' ∧ F' w.heap.size) ∧ w'.heap.size = w.heap.size + 1 := by
  obtain ⟨B, lab, S, sp, h, hF⟩ := h
  have hfree : ∀ g, ¬ F g → lab g = .free := fun g hg => Classical.byContradiction fun h => hg ((hF g).2 h)
  have hnb : (poolOf q M C es).nb ≤ 1000000 := Nat.le_trans (tally_one (fun x => by obtain ⟨_, o⟩ := x; cases o <;> simp [openOf]) es) hn
  refine (Open_ok B pb _ S w h.pool.blk h.pool.low hnb).mono ?_
  rintro e w' ⟨he, hb, hbb, hm, hs⟩
  have hnz : ∀ g, g < w.heap.size → (if g = w.heap.size then Lab.own es.length 0 else lab g) = lab g := fun g hg => if_neg (by omega)
  have hst : ∀ g, g < w.heap.size → g ≠ pb → w'.heap[g]? = w.heap[g]? := fun g hg hne => hm.block g hg hne
  refine ⟨he, ⟨fun g => (if g = w.heap.size then Lab.own es.length 0 else lab g) ≠ .free, ⟨B, fun g => if g = w.heap.size then .own es.length 0 else lab g, S, sp, ?_, fun g => Iff.rfl⟩, ⟨hm.os, hm.tape, hm.output, hm.size, fun g hg hn => ?_, fun g hg hn => ?_⟩, ?_⟩, hs⟩
  rotate_left
  · refine hst g hg fun e => ?_
    subst e
    have := hfree g hn
    rw [h.pool.lb] at this
    cases this
  · rw [if_neg (by omega), hfree g hn]
    exact fun h => h rfl
  · show (if w.heap.size = w.heap.size then Lab.own es.length 0 else lab w.heap.size) ≠ Lab.free
    rw [if_pos rfl]
    exact nofun
  have e1 : poolOf q M C (es ++ [(w.heap.size, some ⟨[], 0, M, .slice none 0 0, .slice none 0 0, []⟩)]) = { poolOf q M C es with nb := (poolOf q M C es).nb + 1 } := by
    simp only [poolOf, tally_app, heldOf, usedOf, openOf, List.length_nil, Nat.add_zero, Nat.zero_sub]
  exact {
    pool := by
      rw [e1]
      exact (h.pool.head hb hst).keep (w := w') (lab' := fun g => if g = w.heap.size then Lab.own es.length 0 else lab g) fun g _ hl => ⟨rfl, if_neg fun e => by
        rw [e, h.new _ (Nat.le_refl _)] at hl
        simp at hl⟩
    new := fun g hg => by
      show (if g = w.heap.size then Lab.own es.length 0 else lab g) = .free
      rw [if_neg (by omega)]
      exact h.new g (by omega)
    ent := fun k x hx => by
      rw [List.getElem?_append] at hx
      split at hx
      · exact (h.ent k x hx).keep fun g hg ⟨t, ht⟩ => ⟨hst g hg (lab_ne ht h.pool.lb nofun), hnz g hg⟩
      · rename_i hk
        obtain ⟨hk0, hx⟩ := List.getElem?_eq_some_iff.1 hx
        have hk1 : k = es.length := by simp at hk0; omega
        subst hk1
        simp at hx
        subst hx
        refine ⟨hbb, ?_⟩
        exact {
          low := h.base
          lb := if_pos rfl
          gl := Nat.le_refl _
          mm := fun _ => by simp; exact Row.nil_ _ _ _
          ml := fun _ g hg => by cases hg
          arr := Row.nil_ _ _ _
          arl := fun g hg => by cases hg
          qq := ⟨0, by simp⟩
          qg := by
            show 0 < M ∧ M = M ∨ M ≤ 0 ∧ 0 < M + C
            have := h.par.2.2.1
            omega
          hi := by simp
          lo := fun i hi => by simp at hi
          str := fun i v hv => by simp at hv
          stl := fun v hv => by simp at hv
          nd := by simp }
    few := by rw [tally_app]; exact h.few
    long := fun k bb b hx => by
      rw [List.getElem?_append] at hx
      split at hx
      · exact h.long k bb b hx
      · obtain ⟨hk0, hx⟩ := List.getElem?_eq_some_iff.1 hx
        simp at hx
        obtain ⟨_, rfl⟩ := hx
        exact Nat.zero_le _
    par := h.par
    hq := by rw [tally_app]; exact h.hq
    base := by have := h.base; omega }

end
end Go.Proofs.YtglcfbefpnphaaaGreatDoor
