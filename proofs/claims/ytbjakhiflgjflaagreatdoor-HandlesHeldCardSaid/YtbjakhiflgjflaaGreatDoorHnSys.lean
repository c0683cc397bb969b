/-
  A tree, a pool and a table together, apart from each other. Conditions: none.
-/
import Derived.Test.YtbjakhiflgjflaaGreatDoorHnKinds
namespace Go.Proofs.YtbjakhiflgjflaaGreatDoor
open Go Go.RowKit Go.ChangeMaps

/-- Where they lie, and their bounds. -/
structure Sy where
  fb : Nat
  plb : Nat
  tb : Nat
  most : Nat
  room : Nat
  q : Nat
  M : Nat
  C : Nat
/-- What they hold. -/
structure St where
  nds : Nds
  es : List Ent
  tot : Nat
  hs : Hs
  pp : Pps
  top : Nat
  xs : List Int
structure SysR (w : World) (Ft Fp Fh : Nat → Prop) (c : Sy) (s : St) : Prop where
  tree : TreeF w Ft c.fb c.most c.room s.nds
  pool : AllF w Fp c.plb c.q c.M c.C s.es s.tot
  tab : TabF w Fh c.fb c.plb c.tb s.hs s.pp s.top s.xs
  tp : ∀ g, Ft g → ¬ Fp g
  th : ∀ g, Ft g → ¬ Fh g
  ph : ∀ g, Fp g → ¬ Fh g
def foot (Ft Fp Fh : Nat → Prop) (g : Nat) : Prop := Ft g ∨ Fp g ∨ Fh g
def Sys (w : World) (F : Nat → Prop) (c : Sy) (s : St) : Prop := ∃ Ft Fp Fh, SysR w Ft Fp Fh c s ∧ ∀ g, F g ↔ foot Ft Fp Fh g

section
variable {w w' : World} {F Ft Fp Fh Ft' Fp' Fh' : Nat → Prop} {c : Sy} {s s' : St}
theorem SysR.lt (h : SysR w Ft Fp Fh c s) {g : Nat} (hg : foot Ft Fp Fh g) : g < w.heap.size := by
  rcases hg with hg | hg | hg
  · exact h.tree.lt hg
  · exact h.pool.lt hg
  · exact h.tab.lt hg
theorem SysR.keep (h : SysR w Ft Fp Fh c s) (hs : w.heap.size ≤ w'.heap.size) (hk : ∀ g, foot Ft Fp Fh g → w'.heap[g]? = w.heap[g]?) : SysR w' Ft Fp Fh c s :=
  ⟨h.tree.keep hs fun g hg => hk g (.inl hg), h.pool.keep hs fun g hg => hk g (.inr (.inl hg)), h.tab.keep hs fun g hg => hk g (.inr (.inr hg)), h.tp, h.th, h.ph⟩
theorem Sys.lt (h : Sys w F c s) {g : Nat} (hg : F g) : g < w.heap.size := by
  obtain ⟨Ft, Fp, Fh, h, hF⟩ := h
  exact h.lt ((hF g).1 hg)
theorem Sys.keep (h : Sys w F c s) (hs : w.heap.size ≤ w'.heap.size) (hk : ∀ g, F g → w'.heap[g]? = w.heap[g]?) : Sys w' F c s := by
  obtain ⟨Ft, Fp, Fh, h, hF⟩ := h
  exact ⟨Ft, Fp, Fh, h.keep hs fun g hg => hk g ((hF g).2 hg), hF⟩
theorem Sys.grown (h : Sys w F c s) (hg : w.grownBy w' none) : Sys w' F c s := h.keep hg.size fun g hg' => hg.block g (h.lt hg') (by simp)
theorem Sys.of {w0 : World} (hF : ∀ g, F g ↔ foot Ft Fp Fh g) (h : SysR w' Ft' Fp' Fh' c s') (k : Chg (foot Ft Fp Fh) (foot Ft' Fp' Fh') w0 w') : ∃ F', Sys w' F' c s' ∧ Chg F F' w0 w' :=
  ⟨foot Ft' Fp' Fh', ⟨Ft', Fp', Fh', h, fun _ => Iff.rfl⟩, k.mono (fun b hb => (hF b).2 hb) fun _ _ h => .inl h⟩
theorem SysR.treeStep {nds' : Nds} (h : SysR w Ft Fp Fh c s) (ht : TreeF w' Ft' c.fb c.most c.room nds') (k : Chg Ft Ft' w w') :
    SysR w' Ft' Fp Fh c { s with nds := nds' } ∧ Chg (foot Ft Fp Fh) (foot Ft' Fp Fh) w w' := by
  have h1 := k.off (G := Fp) fun g hg => ⟨h.pool.lt hg, fun hf => h.tp g hf hg⟩
  have h2 := k.off (G := Fh) fun g hg => ⟨h.tab.lt hg, fun hf => h.th g hf hg⟩
  exact ⟨⟨ht, h.pool.keep k.size fun g hg => k.block g (h.pool.lt hg) fun hf => h.tp g hf hg, h.tab.keep k.size fun g hg => k.block g (h.tab.lt hg) fun hf => h.th g hf hg,
    fun g hg hp => h1 g hp hg, fun g hg hh => h2 g hh hg, h.ph⟩, k.mono (fun b hb => .inl hb) fun b _ hb => hb.elim .inl fun hb => .inr (.inr hb)⟩
theorem SysR.poolStep {es' : List Ent} {tot' : Nat} (h : SysR w Ft Fp Fh c s) (ht : AllF w' Fp' c.plb c.q c.M c.C es' tot') (k : Chg Fp Fp' w w') :
    SysR w' Ft Fp' Fh c { s with es := es', tot := tot' } ∧ Chg (foot Ft Fp Fh) (foot Ft Fp' Fh) w w' := by
  have h1 := k.off (G := Ft) fun g hg => ⟨h.tree.lt hg, fun hf => h.tp g hg hf⟩
  have h2 := k.off (G := Fh) fun g hg => ⟨h.tab.lt hg, fun hf => h.ph g hf hg⟩
  exact ⟨⟨h.tree.keep k.size fun g hg => k.block g (h.tree.lt hg) fun hf => h.tp g hg hf, ht, h.tab.keep k.size fun g hg => k.block g (h.tab.lt hg) fun hf => h.ph g hf hg,
    fun g hg hp => h1 g hg hp, h.th, fun g hg hh => h2 g hh hg⟩, k.mono (fun b hb => .inr (.inl hb)) fun b _ hb => by
      rcases hb with hb | hb | hb
      · exact .inr (.inl hb)
      · exact .inl hb
      · exact .inr (.inr (.inr hb))⟩
theorem SysR.tabStep {G : Nat → Prop} {hs' : Hs} {pp' : Pps} {top' : Nat} {xs' : List Int} (h : SysR w Ft Fp Fh c s) (hG : ∀ g, G g → ¬ Ft g ∧ ¬ Fp g) (ht : TabF w' Fh' c.fb c.plb c.tb hs' pp' top' xs') (k : Chg (fun g => Fh g ∨ G g) Fh' w w') :
    SysR w' Ft Fp Fh' c { s with hs := hs', pp := pp', top := top', xs := xs' } ∧ Chg (fun g => foot Ft Fp Fh g ∨ G g) (foot Ft Fp Fh') w w' := by
  have n1 : ∀ g, Ft g → ¬ (Fh g ∨ G g) := fun g hg hf => hf.elim (h.th g hg) fun hf => (hG g hf).1 hg
  have n2 : ∀ g, Fp g → ¬ (Fh g ∨ G g) := fun g hg hf => hf.elim (h.ph g hg) fun hf => (hG g hf).2 hg
  have h1 := k.off (G := Ft) fun g hg => ⟨h.tree.lt hg, n1 g hg⟩
  have h2 := k.off (G := Fp) fun g hg => ⟨h.pool.lt hg, n2 g hg⟩
  refine ⟨⟨h.tree.keep k.size fun g hg => k.block g (h.tree.lt hg) (n1 g hg), h.pool.keep k.size fun g hg => k.block g (h.pool.lt hg) (n2 g hg), ht, h.tp, fun g hg => h1 g hg, fun g hg => h2 g hg⟩,
    k.mono (fun b hb => hb.elim (fun hb => .inl (.inr (.inr hb))) .inr) fun b _ hb => ?_⟩
  rcases hb with hb | hb | hb
  · exact .inr (.inl (.inl hb))
  · exact .inr (.inl (.inr (.inl hb)))
  · exact .inl hb
theorem SysR.tabStep0 {hs' : Hs} {pp' : Pps} {top' : Nat} {xs' : List Int} (h : SysR w Ft Fp Fh c s) (ht : TabF w' Fh' c.fb c.plb c.tb hs' pp' top' xs') (k : Chg Fh Fh' w w') :
    SysR w' Ft Fp Fh' c { s with hs := hs', pp := pp', top := top', xs := xs' } ∧ Chg (foot Ft Fp Fh) (foot Ft Fp Fh') w w' := by
  have := h.tabStep (G := fun _ => False) nofun ht (k.mono (fun b hb => .inl hb) fun b _ hb => .inl hb)
  exact ⟨this.1, this.2.mono (fun b hb => hb.elim id False.elim) fun b _ hb => .inl hb⟩
end

section
variable {w : World} {lab : Nat → HL} {F : Nat → Prop} {fb plb tb mb top : Nat} {hs : Hs} {pp : Pps} {mem : Int → HM} {v : Value} {xs : List Int}
/-- A handle's count changes. -/
theorem TabR.refs (h : TabR w lab fb plb tb hs pp mb mem top v xs) (hF : ∀ g, F g ↔ lab g ≠ .free) {k : Int} {x : Hd} (hx : look hs k = some x) (r : Nat) :
    ∃ F', TabF (w.setCell ⟨(mem k).blk, 1, none⟩ (.int .i64 (r : Int))) F' fb plb tb (upd hs k { x with refs := r }) pp top xs ∧ Chg F F' w (w.setCell ⟨(mem k).blk, 1, none⟩ (.int .i64 (r : Int))) := by
  have hd := h.hd k x hx
  refine h.step (S := fun g => g = (mem k).blk) (S' := fun g => g = (mem k).blk) (lab' := lab) (M' := mem k) hF hx (Chg.set (F := fun g => g = (mem k).blk) rfl 1 _) (fun g _ hg => by rw [hg, hd.lb]; exact rfl) (fun _ _ => rfl) (fun g hg => h.new g (by simpa [World.setCell] using hg)) ⟨hd.blk.set 1 _, hd.lb, ?_⟩ rfl
  have ho := hd.ob
  have hne : ∀ g, lab g ≠ .hnd k → (w.setCell ⟨(mem k).blk, 1, none⟩ (.int .i64 (r : Int))).heap[g]? = w.heap[g]? := fun g hg => heap_setCell_other w _ g _ fun e => hg (by rw [show g = (mem k).blk from e]; exact hd.lb)
  generalize hkd : x.kd = kd at ho
  cases kd with
  | file n a r wr m => exact ⟨(hne _ (by rw [ho.2]; exact nofun)).trans ho.1, ho.2⟩
  | text s a => exact ⟨(hne _ (by rw [ho.2.1]; exact nofun)).trans ho.1, ho.2⟩
  | sink c most => exact ⟨(hne _ (by rw [ho.2.1]; exact nofun)).trans ho.1, ho.2.1, ho.2.2.1.keep fun g hg => hne g (by rw [ho.2.2.2.1 g hg]; exact nofun), ho.2.2.2⟩
  | rd p => exact ho
  | wr p => exact ho
/-- What a handle does changes, in its own block. -/
theorem TabR.does (h : TabR w lab fb plb tb hs pp mb mem top v xs) (hF : ∀ g, F g ↔ lab g ≠ .free) {k : Int} {x : Hd} (hx : look hs k = some x) {w' : World} (kd : Kd) (hdv : doesV pp kd (mem k).ob = doesV pp x.kd (mem k).ob) (hl : lab (mem k).ob = .obj k) (c : Chg (fun g => g = (mem k).ob) (fun g => g = (mem k).ob) w w')
    (ho : ObjAt w' lab fb pp.length k (mem k) kd) : ∃ F', TabF w' F' fb plb tb (upd hs k { x with kd := kd }) pp top xs ∧ Chg F F' w w' := by
  have hd := h.hd k x hx
  refine h.step (S := fun g => g = (mem k).ob) (S' := fun g => g = (mem k).ob) (lab' := lab) (M' := mem k) hF hx c (fun g _ hg => by rw [hg, hl]; exact rfl) (fun _ _ => rfl) (fun g hg => h.new g (Nat.le_trans c.size hg)) ⟨?_, hd.lb, ho⟩ rfl
  rw [show doesV pp ({ x with kd := kd } : Hd).kd (mem k).ob = doesV pp x.kd (mem k).ob from hdv]
  exact (c.block _ hd.blk.lt fun e => by rw [← e, hd.lb] at hl; cases hl).trans hd.blk
end
end Go.Proofs.YtbjakhiflgjflaaGreatDoor
