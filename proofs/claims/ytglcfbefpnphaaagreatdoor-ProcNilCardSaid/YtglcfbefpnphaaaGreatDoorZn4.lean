/-
  A table of handles in memory: each handle, the pipes, the numbers, and which block is whose. Conditions: none.
  A table's handles: a new one, one that leaves, the pipes. Conditions: none.
-/
import Derived.Test.YtglcfbefpnphaaaGreatDoorZn2
import Derived.Test.YtglcfbefpnphaaaGreatDoorZn3
namespace Go.Proofs.YtglcfbefpnphaaaGreatDoor
open Go Go.RowKit Go.ChangeMaps

/-- What a handle does. -/
inductive Kd where
  | file (node : Int) (at_ : Nat) (r w m : Bool)
  | text (s : List UInt8) (at_ : Nat)
  | sink (came : List UInt8) (most : Nat)
  | rd (p : Nat)
  | wr (p : Nat)
structure Hd where
  refs : Nat
  kd : Kd
abbrev Hs := List (Int × Hd)
/-- Where it lies. -/
structure HM where
  blk : Nat
  ob : Nat
  cv : Value
/-- A pipe: its block, its buffer's, how many ends it has. -/
abbrev Pps := List (Nat × Nat × Nat)
inductive HL where
  | free | tab | tmap | back
  | hnd (k : Int)
  | obj (k : Int)
  | came (k : Int)
  | pipe (p : Nat)
def OfH (k : Int) : HL → Prop
  | .hnd j => j = k
  | .obj j => j = k
  | .came j => j = k
  | _ => False
def ptrV (b : Nat) : Value := .pointer (some ⟨b, 0, none⟩)
def pipeB (pp : Pps) (p : Nat) : Nat := (pp.getD p (0, 0, 0)).1
def doesV (pp : Pps) (kd : Kd) (ob : Nat) : Value :=
  match kd with
  | .file .. => .iface 158 (ptrV ob)
  | .text .. => .iface 195 (ptrV ob)
  | .sink .. => .iface 198 (ptrV ob)
  | .rd p => .iface 169 (.agg #[ptrV (pipeB pp p)])
  | .wr p => .iface 170 (.agg #[ptrV (pipeB pp p)])
def ObjAt (w : World) (lab : Nat → HL) (fb : Nat) (np : Nat) (k : Int) (M : HM) : Kd → Prop
  | .file n a r wr m => Blk w M.ob [ptrV fb, .int .i64 n, .int .i64 (a : Int), .bool r, .bool wr, .bool m] 162 ∧ lab M.ob = .obj k
  | .text s a => Blk w M.ob [.string ⟨s.toArray⟩, .int .i64 (a : Int)] 197 ∧ lab M.ob = .obj k ∧ a ≤ s.length ∧ s.length ≤ 1048576
  | .sink c most => Blk w M.ob [M.cv, .int .i64 (most : Int)] 200 ∧ lab M.ob = .obj k ∧ RowM w 5 M.cv c.length (bc c) ∧ (∀ g, M.cv.ownBlock = some g → lab g = .came k) ∧ c.length ≤ most ∧ most ≤ 1048576
  | .rd p => p < np
  | .wr p => p < np
structure HandleAt (w : World) (lab : Nat → HL) (fb : Nat) (pp : Pps) (k : Int) (x : Hd) (M : HM) : Prop where
  blk : Blk w M.blk [doesV pp x.kd M.ob, .int .i64 (x.refs : Int)] 148
  lb : lab M.blk = .hnd k
  ob : ObjAt w lab fb pp.length k M x.kd
theorem ObjAt.keep {w w' : World} {lab lab' : Nat → HL} {fb np : Nat} {k : Int} {M : HM} {kd : Kd} (h : ObjAt w lab fb np k M kd) (hk : ∀ g, g < w.heap.size → OfH k (lab g) → w'.heap[g]? = w.heap[g]? ∧ lab' g = lab g) : ObjAt w' lab' fb np k M kd := by
  cases kd with
  | file n a r wr m =>
    obtain ⟨h1, h2⟩ := h
    have := hk _ h1.lt (by rw [h2]; exact rfl)
    exact ⟨this.1.trans h1, this.2.trans h2⟩
  | text s a =>
    obtain ⟨h1, h2, h3⟩ := h
    have := hk _ h1.lt (by rw [h2]; exact rfl)
    exact ⟨this.1.trans h1, this.2.trans h2, h3⟩
  | sink c most =>
    obtain ⟨h1, h2, h3, h4, h5⟩ := h
    have := hk _ h1.lt (by rw [h2]; exact rfl)
    exact ⟨this.1.trans h1, this.2.trans h2, h3.keep fun g hg => (hk g (h3.lt hg) (by rw [h4 g hg]; exact rfl)).1, fun g hg => (hk g (h3.lt hg) (by rw [h4 g hg]; exact rfl)).2.trans (h4 g hg), h5⟩
  | rd p => exact h
  | wr p => exact h
theorem HandleAt.keep {w w' : World} {lab lab' : Nat → HL} {fb : Nat} {pp : Pps} {k : Int} {x : Hd} {M : HM} (h : HandleAt w lab fb pp k x M) (hk : ∀ g, g < w.heap.size → OfH k (lab g) → w'.heap[g]? = w.heap[g]? ∧ lab' g = lab g) : HandleAt w' lab' fb pp k x M :=
  have := hk _ h.blk.lt (by rw [h.lb]; exact rfl)
  ⟨this.1.trans h.blk, this.2.trans h.lb, h.ob.keep hk⟩

def entH (mem : Int → HM) (hs : Hs) : List (Int × Value) := hs.map fun p => (p.1, ptrV (mem p.1).blk)
def ids (hs : Hs) : List Int := hs.map (·.1)
structure TabR (w : World) (lab : Nat → HL) (fb plb tb : Nat) (hs : Hs) (pp : Pps) (mb : Nat) (mem : Int → HM) (top : Nat) (v : Value) (xs : List Int) : Prop where
  num : NumR w tb (ptrV fb) (ptrV plb) (.map (some mb)) (ids hs) top v xs
  ltb : lab tb = .tab
  lbk : ∀ g, v.ownBlock = some g → lab g = .back
  map : KMap w mb (.int .i64) encI (entH mem hs)
  lmap : lab mb = .tmap
  hd : ∀ k x, look hs k = some x → HandleAt w lab fb pp k x (mem k)
  pi : ∀ (p pb bb ends : Nat), pp[p]? = some (pb, bb, ends) → Blk w pb [ptrV bb, .int .i64 (ends : Int)] 167 ∧ lab pb = .pipe p
  new : ∀ g, w.heap.size ≤ g → lab g = .free
def TabF (w : World) (F : Nat → Prop) (fb plb tb : Nat) (hs : Hs) (pp : Pps) (top : Nat) (xs : List Int) : Prop := ∃ lab mb mem v, TabR w lab fb plb tb hs pp mb mem top v xs ∧ ∀ g, F g ↔ lab g ≠ .free

section
variable {w : World} {lab : Nat → HL} {F : Nat → Prop} {fb plb tb mb top : Nat} {hs : Hs} {pp : Pps} {mem : Int → HM} {v : Value} {xs : List Int}
theorem TabF.lt (h : TabF w F fb plb tb hs pp top xs) {g : Nat} (hg : F g) : g < w.heap.size := by
  obtain ⟨lab, mb, mem, v, h, hF⟩ := h
  exact Nat.lt_of_not_le fun hle => (hF g).1 hg (h.new g hle)
theorem TabR.keep {w' : World} (h : TabR w lab fb plb tb hs pp mb mem top v xs) (hs' : w.heap.size ≤ w'.heap.size) (hk : ∀ g, lab g ≠ .free → w'.heap[g]? = w.heap[g]?) : TabR w' lab fb plb tb hs pp mb mem top v xs :=
  ⟨h.num.keep (hk tb (by rw [h.ltb]; exact nofun)) (fun g hg => hk g (by rw [h.lbk g hg]; exact nofun)), h.ltb, h.lbk, h.map.keep (hk mb (by rw [h.lmap]; exact nofun)), h.lmap,
    fun k x hx => (h.hd k x hx).keep fun g _ ho => ⟨hk g (fun e => by rw [e] at ho; exact ho), rfl⟩,
    fun p pb bb ends hp => ⟨(hk pb (by rw [(h.pi p pb bb ends hp).2]; exact nofun)).trans (h.pi p pb bb ends hp).1, (h.pi p pb bb ends hp).2⟩, fun g hg => h.new g (Nat.le_trans hs' hg)⟩
theorem TabF.keep {w' : World} (h : TabF w F fb plb tb hs pp top xs) (hs' : w.heap.size ≤ w'.heap.size) (hk : ∀ g, F g → w'.heap[g]? = w.heap[g]?) : TabF w' F fb plb tb hs pp top xs := by
  obtain ⟨lab, mb, mem, v, h, hF⟩ := h
  exact ⟨lab, mb, mem, v, h.keep hs' fun g hg => hk g ((hF g).2 hg), hF⟩
theorem ids_upd (hs : Hs) (k : Int) (y : Hd) : ids (upd hs k y) = ids hs := by
  have := congrArg (List.map Prod.fst) (keys_upd (fun _ => ()) hs k y)
  rw [List.map_map, List.map_map] at this
  exact this
theorem TabR.apart (h : TabR w lab fb plb tb hs pp mb mem top v xs) : hs.Pairwise (fun p q => p.1 ≠ q.1) := by
  have := h.map.apart
  unfold entH at this
  rw [List.pairwise_map] at this
  exact this
theorem TabR.nodup (h : TabR w lab fb plb tb hs pp mb mem top v xs) : (ids hs).Nodup := by
  unfold ids List.Nodup
  rw [List.pairwise_map]
  exact h.apart

/-- Behind a step of one handle: only its own blocks may have changed; a row of its own may be new. -/
theorem TabR.step {S S' : Nat → Prop} {w' : World} {lab' : Nat → HL} {k : Int} {x y : Hd} {M' : HM} (h : TabR w lab fb plb tb hs pp mb mem top v xs) (hF : ∀ g, F g ↔ lab g ≠ .free) (hx : look hs k = some x) (c : Chg S S' w w')
    (hS : ∀ g, g < w.heap.size → S g → OfH k (lab g)) (hl : ∀ g, g < w.heap.size → lab' g = lab g) (hn : ∀ g, w'.heap.size ≤ g → lab' g = .free) (hnd : HandleAt w' lab' fb pp k y M') (hb : M'.blk = (mem k).blk) :
    ∃ F', TabF w' F' fb plb tb (upd hs k y) pp top xs ∧ Chg F F' w w' := by
  have hfree : ∀ g, ¬ F g → lab g = .free := fun g hg => Classical.byContradiction fun h => hg ((hF g).2 h)
  have hsame : ∀ g, g < w.heap.size → ¬ OfH k (lab g) → w'.heap[g]? = w.heap[g]? := fun g hg h2 => c.block g hg fun hs => h2 (hS g hg hs)
  have hvb : ∀ g, v.ownBlock = some g → g < w.heap.size := fun g hg => h.num.at_.row.lt hg
  refine ⟨fun g => lab' g ≠ .free, ⟨lab', mb, fun j => if j = k then M' else mem j, v, ⟨?_, (hl tb h.num.at_.blk.lt).trans h.ltb, fun g hg => (hl g (hvb g hg)).trans (h.lbk g hg), ?_, (hl mb h.map.lt).trans h.lmap, fun j z hz => ?_, fun p pb bb ends hp => ?_, hn⟩, fun g => Iff.rfl⟩,
    ⟨c.os, c.tape, c.output, c.size, fun g hg hn => hsame g hg (by rw [hfree g hn]; exact id), fun g hg hn => by rw [hl g hg, hfree g hn]; exact fun h => h rfl⟩⟩
  · rw [ids_upd]
    exact h.num.keep (hsame tb h.num.at_.blk.lt (by rw [h.ltb]; exact id)) fun g hg => hsame g (hvb g hg) (by rw [h.lbk g hg]; exact id)
  · have e : entH (fun j => if j = k then M' else mem j) (upd hs k y) = entH mem hs := by
      unfold entH
      rw [keys_upd (fun j => ptrV (if j = k then M' else mem j).blk)]
      refine List.map_congr_left fun p _ => ?_
      by_cases hp : p.1 = k
      · rw [if_pos hp, hb, hp]
      · rw [if_neg hp]
    rw [e]
    exact h.map.keep (hsame mb h.map.lt (by rw [h.lmap]; exact id))
  · rw [look_upd] at hz
    by_cases hj : j = k
    · rw [if_pos hj, hx] at hz
      cases hz
      subst hj
      simpa using hnd
    · rw [if_neg hj] at hz
      rw [if_neg hj]
      refine (h.hd j z hz).keep fun g hg ho => ⟨hsame g hg (fun e => hj ?_), hl g hg⟩
      cases hlg : lab g with
      | hnd i => rw [hlg] at ho e; exact ho.symm.trans e
      | obj i => rw [hlg] at ho e; exact ho.symm.trans e
      | came i => rw [hlg] at ho e; exact ho.symm.trans e
      | free => rw [hlg] at ho; exact ho.elim
      | tab => rw [hlg] at ho; exact ho.elim
      | tmap => rw [hlg] at ho; exact ho.elim
      | back => rw [hlg] at ho; exact ho.elim
      | pipe p => rw [hlg] at ho; exact ho.elim
  · obtain ⟨h1, h2⟩ := h.pi p pb bb ends hp
    exact ⟨(hsame pb h1.lt (by rw [h2]; exact id)).trans h1, (hl pb h1.lt).trans h2⟩

theorem entH_look (k : Int) : look (entH mem hs) k = (look hs k).map fun _ => ptrV (mem k).blk := by
  unfold entH
  induction hs with
  | nil => rfl
  | cons a l ih =>
    simp only [List.map_cons, look]
    split
    · rename_i h; simp [h]
    · exact ih
theorem TabR.find (h : TabR w lab fb plb tb hs pp mb mem top v xs) (k : Int) : (Instr.lookup 134 (.map (some mb)) (.int .i64 k) false).run Tryz.prog w = .ok (((look hs k).map fun _ => ptrV (mem k).blk).getD (.pointer none)) w := by
  have := h.map.find keyI Tryz.underlying134 Tryz.underlying3 (Tryz.zeroValue135 w) false k
  rw [entH_look] at this
  exact this

set_option maxRecDepth 100000 in
theorem isNil_no (h : TabR w lab fb plb tb hs pp mb mem top v xs) :
    Calls Tryz.prog 85 #[ptrV tb] w fun e w' => e = .returned (.bool false) ∧ w' = w := by
  have c2 := h.num.at_.blk.cell (i := 2) rfl
  have hlt := h.num.at_.blk.lt
  have he := run_eql_map_nil (P := Tryz.prog) w _ _ _ (some mb) Tryz.underlying134
  unfold ptrV
  clear h
  go_enter Tryz.func85, Tryz.ntmps85
  go_wp2
  go_ret
  exact ⟨rfl, rfl⟩
set_option maxRecDepth 100000 in
theorem tfind_some (h : TabR w lab fb plb tb hs pp mb mem top v xs) {k : Int} {x : Hd} (hx : look hs k = some x) :
    Calls Tryz.prog 88 #[ptrV tb, .int .i64 k] w fun e w' => e = .returned (.tuple #[ptrV (mem k).blk, .int .i64 0]) ∧ w' = w := by
  have hi := isNil_no h
  have hf := h.find k
  rw [hx] at hf
  replace hf : (Instr.lookup 134 (.map (some mb)) (.int .i64 k) false).run Tryz.prog w = .ok (ptrV (mem k).blk) w := hf
  have c2 := h.num.at_.blk.cell (i := 2) rfl
  have hlt := h.num.at_.blk.lt
  generalize (mem k).blk = kb at hf ⊢
  unfold ptrV at hi hf ⊢
  clear h hx
  go_enter Tryz.func88, Tryz.ntmps88
  go_wp2_with fail
  refine hi.mono ?_
  rintro e w' ⟨rfl, hw⟩
  obtain rfl := hw.symm
  go_wp2
  go_ret2
  exact ⟨rfl, rfl⟩
end
end Go.Proofs.YtglcfbefpnphaaaGreatDoor

namespace Go.Proofs.YtglcfbefpnphaaaGreatDoor
open Go Go.RowKit Go.ChangeMaps

def dropH (hs : Hs) (k : Int) : Hs := hs.filter fun p => p.1 ≠ k
theorem ids_drop (hs : Hs) (k : Int) : ids (dropH hs k) = (ids hs).filter fun j => j ≠ k := by
  unfold ids dropH
  rw [List.filter_map]
  rfl
theorem entH_drop (mem : Int → HM) (hs : Hs) (k : Int) : entH mem (dropH hs k) = (entH mem hs).filter fun p => p.1 ≠ k := by
  unfold entH dropH
  rw [List.filter_map]
  rfl
theorem look_drop {hs : Hs} (hd : hs.Pairwise (fun p q => p.1 ≠ q.1)) {k j : Int} {z : Hd} (h : look (dropH hs k) j = some z) : look hs j = some z ∧ j ≠ k := by
  have hm := look_mem h
  unfold dropH at hm
  rw [List.mem_filter] at hm
  exact ⟨look_of_mem hd hm.1, by simpa using hm.2⟩
theorem doesV_pipes {pp pp' : Pps} (kd : Kd) (ob : Nat) (h : ∀ p, p < pp.length → pipeB pp' p = pipeB pp p) (hp : ∀ p, kd = .rd p ∨ kd = .wr p → p < pp.length) : doesV pp' kd ob = doesV pp kd ob := by
  cases kd with
  | file n a r wr m => rfl
  | text s a => rfl
  | sink c most => rfl
  | rd p =>
    show Value.iface _ (.agg #[ptrV (pipeB pp' p)]) = .iface _ (.agg #[ptrV (pipeB pp p)])
    rw [h p (hp p (.inl rfl))]
  | wr p =>
    show Value.iface _ (.agg #[ptrV (pipeB pp' p)]) = .iface _ (.agg #[ptrV (pipeB pp p)])
    rw [h p (hp p (.inr rfl))]
theorem ObjAt.more {w : World} {lab : Nat → HL} {fb np np' : Nat} {k : Int} {M : HM} {kd : Kd} (h : ObjAt w lab fb np k M kd) (hn : np ≤ np') : ObjAt w lab fb np' k M kd := by
  cases kd with
  | file n a r wr m => exact h
  | text s a => exact h
  | sink c most => exact h
  | rd p => exact Nat.lt_of_lt_of_le h hn
  | wr p => exact Nat.lt_of_lt_of_le h hn

section
variable {w : World} {lab : Nat → HL} {F : Nat → Prop} {fb plb tb mb top : Nat} {hs : Hs} {pp : Pps} {mem : Int → HM} {v : Value} {xs : List Int}
theorem TabR.add {S S' : Nat → Prop} {w2 : World} {k : Int} {kd : Kd} {ob kb top' : Nat} {v' : Value} {xs' : List Int} (h : TabR w lab fb plb tb hs pp mb mem top v xs) (hF : ∀ g, F g ↔ lab g ≠ .free) (G : Nat → Prop) [DecidablePred G] (hG : ∀ g, G g → g < w.heap.size ∧ ¬ F g)
    (hk : look hs k = none) (c : Chg S S' w w2) (hS : ∀ g, g < w.heap.size → S g → lab g = .tab ∨ lab g = .tmap ∨ lab g = .back) (hn : NumR w2 tb (ptrV fb) (ptrV plb) (.map (some mb)) (ids hs ++ [k]) top' v' xs') (hv : ∀ g, v'.ownBlock = some g → lab g = .back)
    (hkm : KMap w2 mb (.int .i64) encI (entH mem hs ++ [(k, ptrV kb)])) (hkb : Blk w2 kb [doesV pp kd ob, .int .i64 ((1 : Nat) : Int)] 148) (hkl : w.heap.size ≤ kb)
    (hob : ∀ w' lab', (∀ g, G g → w'.heap[g]? = w.heap[g]? ∧ lab' g = .obj k) → ∀ kb, ObjAt w' lab' fb pp.length k ⟨kb, ob, .slice none 0 0⟩ kd) :
    ∃ F', TabF w2 F' fb plb tb (hs ++ [(k, ⟨1, kd⟩)]) pp top' xs' ∧ Chg (fun g => F g ∨ G g) F' w w2 := by
  have hfree : ∀ g, ¬ F g → lab g = .free := fun g hg => Classical.byContradiction fun h => hg ((hF g).2 h)
  have hsame : ∀ g, g < w.heap.size → lab g ≠ .tab → lab g ≠ .tmap → lab g ≠ .back → w2.heap[g]? = w.heap[g]? := fun g hg h1 h2 h3 => c.block g hg fun hs => by
    rcases hS g hg hs with h | h | h
    · exact h1 h
    · exact h2 h
    · exact h3 h
  obtain ⟨lab', hlab⟩ : ∃ lab' : Nat → HL, lab' = fun g => if g = kb then .hnd k else if G g then .obj k else lab g := ⟨_, rfl⟩
  have hl : ∀ g, g < w.heap.size → lab g ≠ .free → lab' g = lab g := fun g hg hl => by
    rw [hlab]
    show (if g = kb then HL.hnd k else if G g then .obj k else lab g) = lab g
    rw [if_neg (by omega), if_neg fun hg2 => hl (hfree g (hG g hg2).2)]
  have hgl : ∀ g, G g → lab' g = .obj k := fun g hg => by
    rw [hlab]
    show (if g = kb then HL.hnd k else if G g then .obj k else lab g) = _
    rw [if_neg (by have := (hG g hg).1; omega), if_pos hg]
  have hvb : ∀ g, lab g ≠ .free → g < w.heap.size := fun g hg => Nat.lt_of_not_le fun hle => hg (h.new g hle)
  have hnon : ∀ g, g < w.heap.size → ¬ F g → ¬ G g → lab' g = .free := fun g hg h1 h2 => by
    rw [hlab]
    show (if g = kb then HL.hnd k else if G g then .obj k else lab g) = _
    rw [if_neg (by omega), if_neg h2, hfree g h1]
  refine ⟨fun g => lab' g ≠ .free, ⟨lab', mb, fun j => if j = k then ⟨kb, ob, .slice none 0 0⟩ else mem j, v', ⟨?_, ?_, fun g hg => ?_, ?_, ?_, fun j z hz => ?_, fun p pb bb ends hp => ?_, fun g hg => ?_⟩, fun g => Iff.rfl⟩,
    ⟨c.os, c.tape, c.output, c.size, fun g hg hn => c.block g hg fun hs => hn (.inl ((hF g).2 ?_)), fun g hg hn hx => hx (hnon g hg (fun h => hn (.inl h)) (fun h => hn (.inr h)))⟩⟩
  · rw [show ids (hs ++ [(k, ⟨1, kd⟩)]) = ids hs ++ [k] from List.map_append]
    exact hn
  · exact (hl tb h.num.at_.blk.lt (by rw [h.ltb]; exact nofun)).trans h.ltb
  · have := hv g hg
    exact (hl g (hvb g (by rw [this]; exact nofun)) (by rw [this]; exact nofun)).trans this
  · have e : entH (fun j => if j = k then ⟨kb, ob, .slice none 0 0⟩ else mem j) (hs ++ [(k, ⟨1, kd⟩)]) = entH mem hs ++ [(k, ptrV kb)] := by
      unfold entH
      rw [List.map_append]
      congr 1
      · refine List.map_congr_left fun p hp => ?_
        show (p.1, ptrV (if p.1 = k then (⟨kb, ob, .slice none 0 0⟩ : HM) else mem p.1).blk) = _
        rw [if_neg (look_none.1 hk p hp)]
      · simp
    rw [e]
    exact hkm
  · exact (hl mb h.map.lt (by rw [h.lmap]; exact nofun)).trans h.lmap
  · rw [look_app] at hz
    cases hj : look hs j with
    | some z' =>
      rw [hj] at hz
      cases hz
      have hjk : j ≠ k := fun e => by rw [e, hk] at hj; cases hj
      rw [if_neg hjk]
      refine (h.hd j z hj).keep fun g hg ho => ⟨?_, hl g hg fun e => by rw [e] at ho; exact ho⟩
      refine hsame g hg ?_ ?_ ?_ <;> exact fun e => by rw [e] at ho; exact ho
    | none =>
      rw [hj] at hz
      have hjk : j = k := by
        by_cases e : j = k
        · exact e
        · simp [look, Ne.symm e] at hz
      subst hjk
      have hz' : (⟨1, kd⟩ : Hd) = z := by simpa [look] using hz
      subst hz'
      rw [if_pos rfl]
      refine ⟨hkb, by rw [hlab]; exact if_pos rfl, hob w2 lab' (fun g hg => ⟨?_, hgl g hg⟩) kb⟩
      have hgf := hfree g (hG g hg).2
      refine hsame g (hG g hg).1 ?_ ?_ ?_ <;> exact fun e => by rw [e] at hgf; cases hgf
  · obtain ⟨h1, h2⟩ := h.pi p pb bb ends hp
    refine ⟨(hsame pb h1.lt ?_ ?_ ?_).trans h1, (hl pb h1.lt (by rw [h2]; exact nofun)).trans h2⟩ <;> (rw [h2]; exact nofun)
  · rw [hlab]
    show (if g = kb then HL.hnd k else if G g then .obj k else lab g) = .free
    have := hkb.lt
    have := c.size
    rw [if_neg (by omega), if_neg fun hg2 => by have := (hG g hg2).1; omega]
    exact h.new g (by omega)
  · rcases hS g hg hs with h | h | h <;> (rw [h]; exact nofun)

/-- A handle leaves. -/
theorem TabR.leave {S S' : Nat → Prop} {w2 : World} {k : Int} {top' : Nat} {v' : Value} {ys : List Int} (h : TabR w lab fb plb tb hs pp mb mem top v xs) (hF : ∀ g, F g ↔ lab g ≠ .free)
    (c : Chg S S' w w2) (hS : ∀ g, g < w.heap.size → S g → lab g = .tab ∨ lab g = .tmap ∨ lab g = .back ∨ OfH k (lab g)) (hn : NumR w2 tb (ptrV fb) (ptrV plb) (.map (some mb)) ((ids hs).filter fun j => j ≠ k) top' v' ys) (hv : ∀ g, v'.ownBlock = some g → lab g = .back ∨ w.heap.size ≤ g ∧ g < w2.heap.size)
    (hkm : KMap w2 mb (.int .i64) encI ((entH mem hs).filter fun p => p.1 ≠ k)) :
    ∃ F', TabF w2 F' fb plb tb (dropH hs k) pp top' ys ∧ Chg F F' w w2 := by
  have hfree : ∀ g, ¬ F g → lab g = .free := fun g hg => Classical.byContradiction fun h => hg ((hF g).2 h)
  have hsame : ∀ g, g < w.heap.size → lab g ≠ .tab → lab g ≠ .tmap → lab g ≠ .back → ¬ OfH k (lab g) → w2.heap[g]? = w.heap[g]? := fun g hg h1 h2 h3 h4 => c.block g hg fun hs => by
    rcases hS g hg hs with h | h | h | h
    · exact h1 h
    · exact h2 h
    · exact h3 h
    · exact h4 h
  have hl : ∀ g, g < w.heap.size → (if v'.ownBlock = some g then HL.back else lab g) = lab g := fun g hg => by
    by_cases e : v'.ownBlock = some g
    · rw [if_pos e]
      rcases hv g e with h | h
      · exact h.symm
      · omega
    · rw [if_neg e]
  have hvb : ∀ g, lab g ≠ .free → g < w.heap.size := fun g hg => Nat.lt_of_not_le fun hle => hg (h.new g hle)
  refine ⟨fun g => (if v'.ownBlock = some g then HL.back else lab g) ≠ .free, ⟨fun g => if v'.ownBlock = some g then HL.back else lab g, mb, mem, v', ⟨?_, ?_, fun g hg => if_pos hg, ?_, ?_, fun j z hz => ?_, fun p pb bb ends hp => ?_, fun g hg => ?_⟩, fun g => Iff.rfl⟩,
    ⟨c.os, c.tape, c.output, c.size, fun g hg hn => c.block g hg fun hs => hn ((hF g).2 ?_), fun g hg hn hx => hx ((hl g hg).trans (hfree g hn))⟩⟩
  · rw [ids_drop]
    exact hn
  · exact (hl tb h.num.at_.blk.lt).trans h.ltb
  · rw [entH_drop]
    exact hkm
  · exact (hl mb h.map.lt).trans h.lmap
  · obtain ⟨hz, hjk⟩ := look_drop h.apart hz
    refine (h.hd j z hz).keep fun g hg ho => ⟨?_, hl g hg⟩
    refine hsame g hg ?_ ?_ ?_ ?_
    · exact fun e => by rw [e] at ho; exact ho
    · exact fun e => by rw [e] at ho; exact ho
    · exact fun e => by rw [e] at ho; exact ho
    · intro e
      cases hlg : lab g with
      | hnd i => rw [hlg] at ho e; exact hjk (ho.symm.trans e)
      | obj i => rw [hlg] at ho e; exact hjk (ho.symm.trans e)
      | came i => rw [hlg] at ho e; exact hjk (ho.symm.trans e)
      | free => rw [hlg] at ho; exact ho.elim
      | tab => rw [hlg] at ho; exact ho.elim
      | tmap => rw [hlg] at ho; exact ho.elim
      | back => rw [hlg] at ho; exact ho.elim
      | pipe p => rw [hlg] at ho; exact ho.elim
  · obtain ⟨h1, h2⟩ := h.pi p pb bb ends hp
    refine ⟨(hsame pb h1.lt ?_ ?_ ?_ ?_).trans h1, (hl pb h1.lt).trans h2⟩ <;> (rw [h2]; first | exact nofun | exact id)
  · have := c.size
    show (if v'.ownBlock = some g then HL.back else lab g) = .free
    rw [if_neg fun e => ?_]
    · exact h.new g (by omega)
    · rcases hv g e with h' | h'
      · have := hvb g (by rw [h']; exact nofun)
        omega
      · omega
  · rcases hS g hg hs with h | h | h | h
    · rw [h]; exact nofun
    · rw [h]; exact nofun
    · rw [h]; exact nofun
    · exact fun e => by rw [e] at h; exact h

/-- The pipes change. -/
theorem TabR.pipes {S S' : Nat → Prop} {w2 : World} {pp' : Pps} {lab' : Nat → HL} (h : TabR w lab fb plb tb hs pp mb mem top v xs) (hF : ∀ g, F g ↔ lab g ≠ .free) (G : Nat → Prop) (c : Chg S S' w w2) (hS : ∀ g, g < w.heap.size → S g → (∃ p, lab g = .pipe p) ∨ G g ∧ lab g = .free)
    (hl : ∀ g, g < w.heap.size → lab g ≠ .free → lab' g = lab g) (hlf : ∀ g, g < w.heap.size → lab g = .free → ¬ G g → lab' g = .free) (hn : ∀ g, w2.heap.size ≤ g → lab' g = .free) (hle : pp.length ≤ pp'.length) (hb : ∀ p, p < pp.length → pipeB pp' p = pipeB pp p)
    (hpi : ∀ (p pb bb ends : Nat), pp'[p]? = some (pb, bb, ends) → Blk w2 pb [ptrV bb, .int .i64 (ends : Int)] 167 ∧ lab' pb = .pipe p) :
    ∃ F', TabF w2 F' fb plb tb hs pp' top xs ∧ Chg (fun g => F g ∨ G g) F' w w2 := by
  have hfree : ∀ g, ¬ F g → lab g = .free := fun g hg => Classical.byContradiction fun h => hg ((hF g).2 h)
  have hsame : ∀ g, g < w.heap.size → lab g ≠ .free → (∀ p, lab g ≠ .pipe p) → w2.heap[g]? = w.heap[g]? := fun g hg h1 h2 => c.block g hg fun hs => by
    rcases hS g hg hs with ⟨p, h⟩ | h
    · exact h2 p h
    · exact h1 h.2
  have hvb : ∀ g, lab g ≠ .free → g < w.heap.size := fun g hg => Nat.lt_of_not_le fun hle => hg (h.new g hle)
  refine ⟨fun g => lab' g ≠ .free, ⟨lab', mb, mem, v, ⟨h.num.keep (hsame tb h.num.at_.blk.lt (by rw [h.ltb]; exact nofun) (by rw [h.ltb]; exact nofun)) fun g hg => ?_, ?_, fun g hg => ?_, h.map.keep (hsame mb h.map.lt (by rw [h.lmap]; exact nofun) (by rw [h.lmap]; exact nofun)), ?_, fun j z hz => ?_, hpi, hn⟩, fun g => Iff.rfl⟩,
    ⟨c.os, c.tape, c.output, c.size, fun g hg hn => c.block g hg fun hs => hn ?_, fun g hg hn hx => hx (hlf g hg (hfree g fun h => hn (.inl h)) fun h => hn (.inr h))⟩⟩
  · have := h.lbk g hg
    exact hsame g (hvb g (by rw [this]; exact nofun)) (by rw [this]; exact nofun) (by rw [this]; exact nofun)
  · exact (hl tb h.num.at_.blk.lt (by rw [h.ltb]; exact nofun)).trans h.ltb
  · have := h.lbk g hg
    exact (hl g (hvb g (by rw [this]; exact nofun)) (by rw [this]; exact nofun)).trans this
  · exact (hl mb h.map.lt (by rw [h.lmap]; exact nofun)).trans h.lmap
  · have hz' := (h.hd j z hz).keep (w' := w2) (lab' := lab') fun g hg ho => ⟨hsame g hg (fun e => by rw [e] at ho; exact ho) (fun p e => by rw [e] at ho; exact ho), hl g hg fun e => by rw [e] at ho; exact ho⟩
    refine ⟨?_, hz'.lb, hz'.ob.more hle⟩
    rw [doesV_pipes z.kd _ hb fun p hp => ?_]
    · exact hz'.blk
    · have := hz'.ob
      rcases hp with hp | hp <;> (rw [hp] at this; exact this)
  · rcases hS g hg hs with ⟨p, h⟩ | h
    · exact .inl ((hF g).2 (by rw [h]; exact nofun))
    · exact .inr h.1
end
end Go.Proofs.YtglcfbefpnphaaaGreatDoor
