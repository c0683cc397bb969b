/-
  A part. Conditions: each theorem's own.
-/
import Derived.Laws.MakeOwn
import Derived.Laws.IdiomStrings
import Derived.Test.YtfofpphnglhopaaGreatDoorZb3
set_option maxHeartbeats 8000000
set_option maxRecDepth 100000
namespace Go.Proofs.YtfofpphnglhopaaGreatDoor
open Go Go.RowKit
def GetPost (B pb bb k n0 : Nat) (lab : Nat → Lab) (p : Ps) (sp : List Value) (b : Bs) (og a dl : Nat) (cur : List Value) (w : World) (e : Ending) (w' : World) : Prop :=
  ∃ (N : Nat) (lab' : Nat → Lab) (u : Nat) (S' : Value) (sp' : List Value) (b' : Bs), 0 < N ∧ N ≤ dl ∧ b.gone + N ≤ b.all.length ∧ e = .returned (.int .i64 (N : Int)) ∧ PoolAt w' B lab' pb { p with used := u } S' sp' ∧
    Blk w' bb (bufC pb (b.gone + N) b.all.length b'.m b'.c) 232 ∧ BufR w' B lab' bb k p.mem p.ch b' ∧ b'.all = b.all ∧ b'.gone = b.gone + N ∧
    Blk w' og (cur.take a ++ bc ((b.all.drop b.gone).take N) ++ cur.drop (a + N)) 5 ∧
    Step B k n0 w lab w' lab' ∧ u + b.cs.length = p.used + b'.cs.length ∧ sp'.length + u ≤ sp.length + p.used
section
variable {B pb bb k n0 : Nat} {lab : Nat → Lab} {p : Ps} {S : Value} {sp : List Value} {b : Bs} {og a dl dc : Nat} {cur : List Value} {w : World}
theorem get_step1 (hP : PoolAt w B lab pb p S sp) (hblk : Blk w bb (bufC pb b.gone b.all.length b.m b.c) 232) (hR : BufR w B lab bb k p.mem p.ch b) (hnew : ∀ g, w.heap.size ≤ g → lab g = .free)
    (ho : Blk w og cur 5) (hof : lab og = .free) (hno : n0 ≤ og) (hBo : B ≤ og) (hfit : a + dl ≤ cur.length) (hdl : 0 < dl) (hlt : b.gone < b.all.length) (hC : 0 < p.ch) (hg : b.gone < p.mem) :
    Calls Tryz.prog 279 #[.pointer (some ⟨bb, 0, none⟩), .slice (some ⟨og, a, none⟩) dl dc] w (GetPost B pb bb k n0 lab p sp b og a dl cur w) := by
  have hrow := hR.mm hg
  have hQ : b.Q = p.mem := by
    rcases hR.qg with h | h
    · exact h.2
    · obtain ⟨q, hq⟩ := hR.qq; omega
  have hKl : (b.all.take p.mem).length = min p.mem b.all.length := List.length_take
  refine (get_mem B pb bb b.gone b.all.length og a dl dc (min ((b.all.take p.mem).length - b.gone) dl) (b.all.take p.mem).length p S b.m b.c (b.all.take p.mem) cur w hP.blk hblk (lab_ne hP.lb hR.lb nofun) hR.low rfl hrow (by omega) (by omega) ho hBo
    ⟨lab_ne hof hR.lb nofun, lab_ne hof hP.lb nofun, fun h => lab_ne hof (hR.ml hg og h) nofun rfl⟩ (fun g h => lab_ne (hR.ml hg g h) hR.lb (by simp)) hfit rfl).mono ?_
  rintro e w' ⟨m', he, hbb', hm', ho', hm⟩
  obtain ⟨N, hN⟩ : ∃ N, min ((b.all.take p.mem).length - b.gone) dl = N := ⟨_, rfl⟩
  rw [hN] at he hbb' hm' ho'
  have hN0 : 0 < N := by omega
  have hNd : N ≤ dl := by omega
  have hNl : b.gone + N ≤ b.all.length := by omega
  have hNm : b.gone + N ≤ p.mem := by omega
  have hbytes : ((b.all.take p.mem).drop b.gone).take N = (b.all.drop b.gone).take N := by
    rw [List.drop_take, List.take_take, Nat.min_eq_left (by omega)]
  rw [hbytes] at ho'
  have hbbl : bb < w.heap.size := hblk.lt
  have hst : ∀ g, g < w.heap.size → lab g ≠ .free → lab g ≠ .own k 0 → w'.heap[g]? = w.heap[g]? := fun g hgl hl hl2 => hm.block g hgl fun h => by
    rcases h with h | h
    · rw [h] at hl2; exact hl2 hR.lb
    · rw [h] at hl; exact hl hof
  refine ⟨N, lab, p.used, S, sp, ⟨b.all, b.gone + N, b.Q, m', b.c, b.cs⟩, hN0, hNd, hNl, he, hP.keep (fun g hgl hl => ⟨hst g hgl (by rcases hl with h | h | h <;> simp [h]) (by rcases hl with h | h | h <;> simp [h]), rfl⟩), hbb', ?_, rfl, rfl, ho', ⟨hm.mono fun g _ h => ?_, fun _ _ _ => rfl, fun g hgl => hnew g (Nat.le_trans hm.size hgl)⟩, rfl, Nat.le_refl _⟩
  · exact {
      low := hR.low
      lb := hR.lb
      gl := hNl
      mm := fun hg2 => by
        obtain ⟨e1, e2⟩ := hm' hg2
        show Row w' B _ m' _ _
        rw [e1]
        exact e2
      ml := fun hg2 g h => by
        obtain ⟨e1, e2⟩ := hm' hg2
        have h : m'.ownBlock = some g := h
        rw [e1] at h
        exact hR.ml hg g h
      arr := hR.arr.keep fun g h => hst g (hR.arr.lt h).2.1 (by rw [hR.arl g h]; simp) (by rw [hR.arl g h]; simp)
      arl := hR.arl
      qq := hR.qq
      qg := by
        show b.gone + N < p.mem ∧ b.Q = p.mem ∨ b.Q ≤ b.gone + N ∧ b.gone + N < b.Q + p.ch
        omega
      hi := hR.hi
      lo := hR.lo
      str := fun i u hu => (hR.str i u hu).keep fun g h => hst g ((hR.str i u hu).lt h).2.1 (by rw [hR.stl u (List.mem_of_getElem? hu) g h]; simp) (by rw [hR.stl u (List.mem_of_getElem? hu) g h]; simp)
      stl := hR.stl
      nd := hR.nd }
  · rcases h with h | h
    · exact .inl (by rw [h, hR.lb]; rfl)
    · exact .inr (by omega)
theorem get_step2 (hP : PoolAt w B lab pb p S sp) (hblk : Blk w bb (bufC pb b.gone b.all.length b.m b.c) 232) (hR : BufR w B lab bb k p.mem p.ch b) (hnew : ∀ g, w.heap.size ≤ g → lab g = .free)
    (ho : Blk w og cur 5) (hof : lab og = .free) (hno : n0 ≤ og) (hBo : B ≤ og) (hfit : a + dl ≤ cur.length) (hdl : 0 < dl) (hlt : b.gone < b.all.length) (hmem : p.mem ≤ 65536) (hch : 0 < p.ch ∧ p.ch ≤ 65536) (hg : p.mem ≤ b.gone)
    (hlen : b.all.length ≤ 1000000) (hu : b.cs.length ≤ p.used) (hfew : sp.length + p.used ≤ 1000000) :
    Calls Tryz.prog 279 #[.pointer (some ⟨bb, 0, none⟩), .slice (some ⟨og, a, none⟩) dl dc] w (GetPost B pb bb k n0 lab p sp b og a dl cur w) := by
  obtain ⟨q, hq⟩ := hR.qq
  obtain ⟨hQg, hgQ⟩ : b.Q ≤ b.gone ∧ b.gone < b.Q + p.ch := by
    rcases hR.qg with h | h
    · omega
    · exact h
  have hov := over_of (D := b.gone - p.mem) hq hQg rfl
  rw [Nat.mod_eq_of_lt (show b.gone - b.Q < p.ch by omega)] at hov
  rcases hcs : b.cs with _ | ⟨v, rest⟩
  · have := hR.hi
    rw [hcs, List.length_nil, Nat.zero_mul] at this
    omega
  have hL : b.cs.length = rest.length + 1 := by rw [hcs]; rfl
  have hhi := hR.hi
  rw [hL, Nat.add_mul, Nat.one_mul] at hhi
  have hbl : (chunkB b.all b.Q p.ch 0).length = min p.ch (b.all.length - b.Q) := by rw [chunkB_len, Nat.zero_mul, Nat.add_zero]
  have hvm : v ∈ b.cs := by rw [hcs]; simp
  have hvr := hR.str 0 v (by rw [hcs]; rfl)
  have harr := hR.arr
  rw [hcs] at harr
  have hnd := hR.nd
  rw [hcs] at hnd
  obtain ⟨hnd1, hnd2⟩ := nd_head hnd
  have hbbl : bb < w.heap.size := hblk.lt
  obtain ⟨N, hN⟩ : ∃ N, min ((chunkB b.all b.Q p.ch 0).length - (b.gone - b.Q)) dl = N := ⟨_, rfl⟩
  have hN0 : 0 < N := by omega
  have hNd : N ≤ dl := by omega
  have hNl : b.gone + N ≤ b.all.length := by omega
  have hNC : b.gone - b.Q + N ≤ p.ch := by omega
  have hov2 := over_of (D := b.gone + N - p.mem) (len := b.gone + N) hq (by omega) rfl
  have hbytes : ((chunkB b.all b.Q p.ch 0).drop (b.gone - b.Q)).take N = (b.all.drop b.gone).take N := by
    unfold chunkB
    rw [Nat.zero_mul, Nat.add_zero, List.drop_take, List.take_take, List.drop_drop, Nat.min_eq_left (by omega), show b.Q + (b.gone - b.Q) = b.gone by omega]
  have hrl : ∀ u ∈ rest, ∀ g, u.ownBlock = some g → g < w.heap.size ∧ lab g = .own k 3 := fun u hu g hg => by
    have hum : u ∈ b.cs := by rw [hcs]; exact List.mem_cons_of_mem _ hu
    obtain ⟨i, hi⟩ := List.getElem?_of_mem hum
    exact ⟨((hR.str i u hi).lt hg).2.1, hR.stl u hum g hg⟩
  by_cases hfull : b.gone - b.Q + N = p.ch
  · have hrem2 : ((b.gone + N - p.mem : Nat) : Int).tmod (p.ch : Int) = 0 := by
      rw [tmod_nat, hov2, show b.gone + N - b.Q = p.ch by omega, Nat.mod_self]; rfl
    refine (get_chunk_go B pb bb b.gone b.all.length og a dl dc N (chunkB b.all b.Q p.ch 0).length rest.length (b.gone - b.Q) (b.gone - p.mem) (b.gone + N - p.mem) p S b.m b.c v rest sp (chunkB b.all b.Q p.ch 0) cur w hP.blk hblk (lab_ne hP.lb hR.lb nofun) hR.low hP.low hP.arr
      (fun g h => ⟨lab_ne (hP.arl g h) hR.lb nofun, lab_ne (hP.arl g h) hP.lb nofun, lab_ne (hP.arl g h) hof nofun, fun h2 => lab_ne (hP.arl g h) (hR.arl g h2) nofun rfl⟩) (by omega) (by omega) (by omega) harr
      (fun g h => ⟨lab_ne (hR.arl g h) hR.lb (by simp), lab_ne (hR.arl g h) hP.lb nofun, lab_ne (hR.arl g h) hof nofun⟩) rfl hvr (by omega) hch.1 ⟨hmem, hch.2⟩ (by omega) (by omega) (by rw [tmod_nat, hov]) (by omega) hrem2
      ho hBo ⟨lab_ne hof hR.lb nofun, lab_ne hof hP.lb nofun, fun h => lab_ne hof (hR.stl v hvm og h) nofun rfl⟩ hfit hN.symm).mono ?_
    rintro e w' ⟨S', c', he, hbb', hc', hco, hp', hS', hSo, ho', hm⟩
    rw [hbytes] at ho'
    have hvl : ∀ g, v.ownBlock = some g → g < w.heap.size ∧ lab g = .own k 3 := fun g hg => ⟨(hvr.lt hg).2.1, hR.stl v hvm g hg⟩
    have hSl : ∀ g, S'.ownBlock = some g → (lab g = .sparr ∧ S.ownBlock = some g) ∨ w.heap.size ≤ g := fun g hg => by
      rcases hSo with h | ⟨g', h, h2⟩
      · exact .inl ⟨hP.arl g (h ▸ hg), h ▸ hg⟩
      · rw [h] at hg; cases hg; exact .inr h2
    have hSv : ∀ g, v.ownBlock = some g → S'.ownBlock ≠ some g := fun g hg h => by
      have := hvl g hg
      rcases hSl g h with h2 | h2
      · rw [this.2] at h2; cases h2.1
      · omega
    have hlab : ∀ g, g < w.heap.size → v.ownBlock ≠ some g → relab (relab lab v .spare) S' .sparr g = lab g := by
      intro g hgl hns
      by_cases h : S'.ownBlock = some g
      · rw [relab_of h]
        rcases hSl g h with h2 | h2
        · exact h2.1.symm
        · omega
      · rw [relab_ne h, relab_ne hns]
    have hlabv : ∀ g, v.ownBlock = some g → relab (relab lab v .spare) S' .sparr g = .spare := fun g hg => (relab_ne (hSv g hg)).trans (relab_of hg)
    have hnv : ∀ g, lab g ≠ .own k 3 → v.ownBlock ≠ some g := fun g h hg => h (hvl g hg).2
    have hst : ∀ g, g < w.heap.size → (lab g = .spare ∨ lab g = .own k 3) → w'.heap[g]? = w.heap[g]? := fun g hgl hl => hm.block g hgl fun h => by
      rcases h with h | h | h | h
      · rw [h, hP.lb] at hl; simp at hl
      · rw [h, hR.lb] at hl; simp at hl
      · rw [h, hof] at hl; simp at hl
      · rw [hP.arl g h] at hl; simp at hl
    refine ⟨N, relab (relab lab v .spare) S' .sparr, p.used - 1, S', sp ++ [v], ⟨b.all, b.gone + N, b.Q + p.ch, b.m, c', rest⟩, hN0, hNd, hNl, he, ?_, hbb', ?_, rfl, rfl, ho', ⟨hm.mono fun g _ h => ?_, fun g hgl hmi => hlab g hgl (hnv g fun h => hmi (by rw [h]; rfl)), fun g hgl => ?_⟩, ?_, ?_⟩
    · exact {
        blk := hp'
        low := hP.low
        lb := (hlab pb hP.blk.lt (hnv pb (by rw [hP.lb]; simp))).trans hP.lb
        arr := hS'
        arl := fun g hg => relab_of hg
        str := fun u hu => by
          rcases List.mem_append.1 hu with h | h
          · obtain ⟨bs, hb⟩ := hP.str u h
            exact ⟨bs, hb.keep fun g hg => hst g (hb.lt hg).2.1 (.inl (hP.stl u h g hg))⟩
          · obtain rfl := List.mem_singleton.1 h
            exact ⟨_, hvr.keep fun g hg => hst g (hvl g hg).1 (.inr (hvl g hg).2)⟩
        stl := fun u hu g hg => by
          rcases List.mem_append.1 hu with h | h
          · obtain ⟨bs, hb⟩ := hP.str u h
            exact (hlab g (hb.lt hg).2.1 (hnv g (by rw [hP.stl u h g hg]; simp))).trans (hP.stl u h g hg)
          · obtain rfl := List.mem_singleton.1 h
            exact hlabv g hg
        nd := nd_snoc hP.nd fun u hu g hg h => by
          have h2 := hP.stl u hu g hg
          rw [(hvl g h).2] at h2
          cases h2 }
    · exact {
        low := hR.low
        lb := (hlab bb hbbl (hnv bb (by rw [hR.lb]; simp))).trans hR.lb
        gl := hNl
        mm := fun hg2 => absurd hg2 (by show ¬ b.gone + N < p.mem; omega)
        ml := fun hg2 => absurd hg2 (by show ¬ b.gone + N < p.mem; omega)
        arr := hc'
        arl := fun g hg => by
          have hg : c'.ownBlock = some g := hg
          rw [hco] at hg
          exact (hlab g (hR.arr.lt hg).2.1 (hnv g (by rw [hR.arl g hg]; simp))).trans (hR.arl g hg)
        qq := ⟨q + 1, by show b.Q + p.ch = _; rw [Nat.add_mul, Nat.one_mul]; omega⟩
        qg := .inr (by show b.Q + p.ch ≤ b.gone + N ∧ b.gone + N < b.Q + p.ch + p.ch; omega)
        hi := by show b.all.length - (b.Q + p.ch) ≤ rest.length * p.ch; omega
        lo := fun i hi => by
          have hi : i < rest.length := hi
          have := hR.lo (i + 1) (by omega)
          rw [Nat.add_mul, Nat.one_mul] at this
          show b.Q + p.ch + i * p.ch < b.all.length
          omega
        str := fun i u hu => by
          have hu : rest[i]? = some u := hu
          have hu2 : b.cs[i + 1]? = some u := by rw [hcs]; exact hu
          have e : chunkB b.all (b.Q + p.ch) p.ch i = chunkB b.all b.Q p.ch (i + 1) := by
            unfold chunkB
            rw [Nat.add_mul, Nat.one_mul, show b.Q + p.ch + i * p.ch = b.Q + (i * p.ch + p.ch) by omega]
          show Row w' B _ u (chunkB b.all (b.Q + p.ch) p.ch i).length (bc (chunkB b.all (b.Q + p.ch) p.ch i))
          rw [e]
          exact (hR.str (i + 1) u hu2).keep fun g hg => hst g ((hR.str (i + 1) u hu2).lt hg).2.1 (.inr (hR.stl u (List.mem_of_getElem? hu2) g hg))
        stl := fun u hu g hg => (hlab g (hrl u hu g hg).1 (hnd2 u hu g hg)).trans (hrl u hu g hg).2
        nd := hnd1 }
    · rcases h with h | h | h | h
      · exact .inl (by rw [h, hP.lb]; trivial)
      · exact .inl (by rw [h, hR.lb]; rfl)
      · exact .inr (by omega)
      · exact .inl (by rw [hP.arl g h]; trivial)
    · have h1 : v.ownBlock ≠ some g := fun h => by
        have := (hvl g h).1
        have := hm.size
        omega
      have h2 : S'.ownBlock ≠ some g := fun h => by
        have := (hS'.lt h).2.1
        omega
      rw [relab_ne h2, relab_ne h1]
      exact hnew g (Nat.le_trans hm.size hgl)
    · show p.used - 1 + b.cs.length = p.used + rest.length
      omega
    · rw [List.length_append, List.length_singleton]
      omega
  · have hrem2 : ((b.gone + N - p.mem : Nat) : Int).tmod (p.ch : Int) = ((b.gone - b.Q + N : Nat) : Int) := by
      rw [tmod_nat, hov2, show b.gone + N - b.Q = b.gone - b.Q + N by omega, Nat.mod_eq_of_lt (by omega)]
    refine (get_chunk_stay B pb bb b.gone b.all.length og a dl dc N (chunkB b.all b.Q p.ch 0).length rest.length (b.gone - b.Q) (b.gone - b.Q + N) (b.gone - p.mem) (b.gone + N - p.mem) p S b.m b.c v rest (chunkB b.all b.Q p.ch 0) cur w hP.blk hblk (lab_ne hP.lb hR.lb nofun) hR.low harr
      (fun g h => ⟨lab_ne (hR.arl g h) hR.lb (by simp), lab_ne (hR.arl g h) hP.lb nofun, lab_ne (hR.arl g h) hof nofun⟩) rfl hvr (by omega) hch.1 ⟨hmem, hch.2⟩ (by omega) (by omega) (by rw [tmod_nat, hov]) (by omega) hrem2 (by omega)
      ho hBo ⟨lab_ne hof hR.lb nofun, lab_ne hof hP.lb nofun, fun h => lab_ne hof (hR.stl v hvm og h) nofun rfl⟩ hfit hN.symm).mono ?_
    rintro e w' ⟨he, hbb', ho', hm⟩
    rw [hbytes] at ho'
    have hst : ∀ g, g < w.heap.size → lab g ≠ .free → lab g ≠ .own k 0 → w'.heap[g]? = w.heap[g]? := fun g hgl hl hl2 => hm.block g hgl fun h => by
      rcases h with h | h
      · rw [h] at hl2; exact hl2 hR.lb
      · rw [h] at hl; exact hl hof
    refine ⟨N, lab, p.used, S, sp, ⟨b.all, b.gone + N, b.Q, b.m, b.c, b.cs⟩, hN0, hNd, hNl, he, hP.keep (fun g hgl hl => ⟨hst g hgl (by rcases hl with h | h | h <;> simp [h]) (by rcases hl with h | h | h <;> simp [h]), rfl⟩), hbb', ?_, rfl, rfl, ho', ⟨hm.mono fun g _ h => ?_, fun _ _ _ => rfl, fun g hgl => hnew g (Nat.le_trans hm.size hgl)⟩, rfl, Nat.le_refl _⟩
    · exact {
        low := hR.low
        lb := hR.lb
        gl := hNl
        mm := fun hg2 => absurd hg2 (by show ¬ b.gone + N < p.mem; omega)
        ml := fun hg2 => absurd hg2 (by show ¬ b.gone + N < p.mem; omega)
        arr := hR.arr.keep fun g h => hst g (hR.arr.lt h).2.1 (by rw [hR.arl g h]; simp) (by rw [hR.arl g h]; simp)
        arl := hR.arl
        qq := hR.qq
        qg := by
          show b.gone + N < p.mem ∧ b.Q = p.mem ∨ b.Q ≤ b.gone + N ∧ b.gone + N < b.Q + p.ch
          omega
        hi := hR.hi
        lo := hR.lo
        str := fun i u hu => (hR.str i u hu).keep fun g h => hst g ((hR.str i u hu).lt h).2.1 (by rw [hR.stl u (List.mem_of_getElem? hu) g h]; simp) (by rw [hR.stl u (List.mem_of_getElem? hu) g h]; simp)
        stl := hR.stl
        nd := hR.nd }
    · rcases h with h | h
      · exact .inl (by rw [h, hR.lb]; rfl)
      · exact .inr (by omega)
theorem get_step (hP : PoolAt w B lab pb p S sp) (hblk : Blk w bb (bufC pb b.gone b.all.length b.m b.c) 232) (hR : BufR w B lab bb k p.mem p.ch b) (hnew : ∀ g, w.heap.size ≤ g → lab g = .free)
    (ho : Blk w og cur 5) (hof : lab og = .free) (hno : n0 ≤ og) (hBo : B ≤ og) (hfit : a + dl ≤ cur.length) (hdl : 0 < dl) (hlt : b.gone < b.all.length) (hmem : p.mem ≤ 65536) (hch : 0 < p.ch ∧ p.ch ≤ 65536)
    (hlen : b.all.length ≤ 1000000) (hu : b.cs.length ≤ p.used) (hfew : sp.length + p.used ≤ 1000000) :
    Calls Tryz.prog 279 #[.pointer (some ⟨bb, 0, none⟩), .slice (some ⟨og, a, none⟩) dl dc] w (GetPost B pb bb k n0 lab p sp b og a dl cur w) := by
  by_cases hg : b.gone < p.mem
  · exact get_step1 hP hblk hR hnew ho hof hno hBo hfit hdl hlt hch.1 hg
  · exact get_step2 hP hblk hR hnew ho hof hno hBo hfit hdl hlt hmem hch (by omega) hlen hu hfew
end
def DrainPost (B pb bb k : Nat) (lab : Nat → Lab) (p : Ps) (sp : List Value) (b : Bs) (T : Nat) (w w' : World) : Prop :=
  ∃ (lab' : Nat → Lab) (u : Nat) (S' : Value) (sp' : List Value) (b' : Bs), PoolAt w' B lab' pb { p with held := p.held - T, used := u } S' sp' ∧
    Blk w' bb (bufC pb (b.gone + T) b.all.length b'.m b'.c) 232 ∧ BufR w' B lab' bb k p.mem p.ch b' ∧ b'.all = b.all ∧ b'.gone = b.gone + T ∧
    Step B k w.heap.size w lab w' lab' ∧ u + b.cs.length = p.used + b'.cs.length ∧ sp'.length + u ≤ sp.length + p.used
theorem bc_full {cur l : List Value} {T : Nat} (h1 : cur.length = T) (h2 : cur.take T = l) : cur = l := by rw [← h2, List.take_of_length_le (by omega)]
section
variable {B pb bb k : Nat} {lab : Nat → Lab} {p : Ps} {S : Value} {sp : List Value} {b : Bs} {w : World}
theorem drain_all (T L : Nat) (hP : PoolAt w B lab pb p S sp) (hblk : Blk w bb (bufC pb b.gone b.all.length b.m b.c) 232) (hR : BufR w B lab bb k p.mem p.ch b) (hnew : ∀ g, w.heap.size ≤ g → lab g = .free) (hB : B ≤ w.heap.size)
    (hlen : b.all.length ≤ 1000000) (hmem : p.mem ≤ 65536) (hch : 0 < p.ch ∧ p.ch ≤ 65536) (hfew : sp.length + p.used ≤ 1000000) (hu : b.cs.length ≤ p.used) (hheld : b.all.length - b.gone ≤ p.held) (hhb : p.held ≤ 1048576) (hLd : b.all.length - b.gone = L) (hTL : T ≤ L) :
    Calls Tryz.prog 278 #[.pointer (some ⟨bb, 0, none⟩), .int .i64 (T : Int)] w fun e w' => e = .returned (.tuple #[.string ⟨((b.all.drop b.gone).take T).toArray⟩, .int .i64 0]) ∧ DrainPost B pb bb k lab p sp b T w w' := by
  have hop := open_ok pb bb b.gone b.all.length b.m b.c w hblk
  have hgl := hR.gl
  have hln := len_ok pb bb b.gone b.all.length b.m b.c w hblk hgl (by omega)
  rw [hLd] at hln
  have hTl : b.gone + T ≤ b.all.length := by omega
  have hTh : T ≤ p.held := by omega
  obtain ⟨i0, hi, hz0, hz1, hz2⟩ := info_parts infoU8
  have hmk : ∀ W : World, (Instr.makeSlice 153 (.int .i64 (T : Int)) (.int .i64 (T : Int))).run Tryz.prog W = .ok (.slice (some ⟨W.heap.size, 0, none⟩) T T) (W.alloc (.cells (madeCells #[.int .u8 0] T) 5)) := fun W => by
    have := run_make W 153 5 i0 _ Tryz.underlying153 hi hz0 .i64 .i64 (T : Int) (T : Int) (by omega) (Int.le_refl _) (by rw [hz2]; omega) (by omega)
    rw [hz1, Int.toNat_natCast, Nat.mul_one] at this
    exact this
  obtain ⟨h, hhh⟩ : ∃ h, p.held = h := ⟨_, rfl⟩
  rw [hhh] at hTh hhb
  have hpl := hP.blk.lt
  have hbl := hblk.lt
  have hpb : pb ≠ bb := lab_ne hP.lb hR.lb nofun
  have hT0 : (0 : Int) ≤ (T : Int) := by omega
  replace hhh := Lib.hid hhh
  replace hP := Lib.hid hP
  replace hR := Lib.hid hR
  replace hblk := Lib.hid hblk
  replace hnew := Lib.hid hnew
  replace hLd := Lib.hid hLd
  replace hTl := Lib.hid hTl
  replace hgl := Lib.hid hgl
  replace hlen := Lib.hid hlen
  replace hu := Lib.hid hu
  replace hfew := Lib.hid hfew
  replace hch := Lib.hid hch
  clear hi hz0 hz1 hz2 hheld
  go_enter Tryz.func278, Tryz.ntmps278
  go_wp2_with fail
  refine hop.mono ?_
  rintro e w1 ⟨rfl, hw⟩
  obtain rfl := hw.symm
  clear hop
  go_wp2_with fail
  refine hln.mono ?_
  rintro e w1 ⟨rfl, nd, rfl⟩
  clear hln
  go_upto_region 7 with fail
  have hmc : (madeCells #[.int .u8 0] T) = ((madeCells #[.int .u8 0] T).toList).toArray := by simp
  have ho2 : Blk ((w.drewN nd).alloc (.cells (madeCells #[.int .u8 0] T) 5)) w.heap.size (madeCells #[.int .u8 0] T).toList 5 := by
    have := Blk.new (w.drewN nd) (madeCells #[.int .u8 0] T).toList 5
    rw [← hmc] at this
    exact this
  have hml : (madeCells #[.int .u8 0] T).toList.length = T := by rw [Array.length_toList, size_madeCells]
  have hk2 : ∀ g, g < w.heap.size → ((w.drewN nd).alloc (.cells (madeCells #[.int .u8 0] T) 5)).heap[g]? = w.heap[g]? := fun g hg => Below.heap_alloc (w.drewN nd) _ g hg
  have m2 : Mv B (fun g => Mine k (lab g) ∨ w.heap.size ≤ g) w ((w.drewN nd).alloc (.cells (madeCells #[.int .u8 0] T) 5)) := (heap_mv ⟨nd, rfl⟩).trans (Mv.alloc B _ (w.drewN nd) _)
  have hs2 : ((w.drewN nd).alloc (.cells (madeCells #[.int .u8 0] T) 5)).heap.size = w.heap.size + 1 := by simp
  generalize (madeCells #[.int .u8 0] T).toList = cur0 at ho2 hml
  generalize (w.drewN nd).alloc (.cells (madeCells #[.int .u8 0] T) 5) = w2 at ho2 hk2 m2 hs2 ⊢
  obtain ⟨z, hz⟩ : ∃ z, w.heap.size = z := ⟨_, rfl⟩
  have hP2 : PoolAt w2 B lab pb p S sp := hP.out.keep fun g hg _ => ⟨hk2 g hg, rfl⟩
  have hblk2 : Blk w2 bb (bufC pb b.gone b.all.length b.m b.c) 232 := (hk2 bb hbl).trans hblk.out
  have hR2 : BufR w2 B lab bb k p.mem p.ch b := hR.out.keep hbl fun g hg _ => ⟨hk2 g hg, rfl⟩
  have hst2 : Step B k w.heap.size w lab w2 lab := ⟨m2, fun _ _ _ => rfl, fun g hg => hnew.out g (by omega)⟩
  have hfr2 : lab z = .free := hnew.out z (by omega)
  rw [hz] at ho2 hbl hpl hs2 hB hst2 ⊢
  have hzh := Lib.hid hz
  replace hmk := Lib.hid hmk
  clear hk2 m2 hmc hz
  replace ho2 := Lib.hid ho2
  replace hml := Lib.hid hml
  replace hP2 := Lib.hid hP2
  replace hblk2 := Lib.hid hblk2
  replace hR2 := Lib.hid hR2
  replace hst2 := Lib.hid hst2
  replace hfr2 := Lib.hid hfr2
  go_wp2
  go_loopw [8] (fun av wr => ∃ (A : Nat) (lab' : Nat → Lab) (u : Nat) (S' : Value) (sp' : List Value) (b' : Bs) (cur : List Value), av = .int .i64 (A : Int) ∧ A ≤ T ∧ Hid (PoolAt wr B lab' pb { p with used := u } S' sp') ∧
      Hid (Blk wr bb (bufC pb b'.gone b'.all.length b'.m b'.c) 232) ∧ Hid (BufR wr B lab' bb k p.mem p.ch b') ∧ Hid (b'.all = b.all) ∧ Hid (b'.gone = b.gone + A) ∧ Hid (Blk wr z cur 5) ∧ Hid (cur.length = T) ∧ Hid (cur.take A = bc ((b.all.drop b.gone).take A)) ∧ Hid (lab' z = .free) ∧
      Hid (Step B k z w lab wr lab') ∧ Hid (u + b.cs.length = p.used + b'.cs.length) ∧ Hid (sp'.length + u ≤ sp.length + p.used)) (fun av _ => T - (intOf av).toNat)
  case atStart => exact ⟨0, lab, p.used, S, sp, b, cur0, rfl, Nat.zero_le _, hP2, hblk2, hR2, Lib.hid rfl, Lib.hid rfl, ho2, hml, Lib.hid rfl, hfr2, hst2, Lib.hid rfl, Lib.hid (Nat.le_refl _)⟩
  case round =>
    clear hP2 hblk2 hR2 hst2 hfr2 ho2 hml
    obtain ⟨A, lab', u, S', sp', b', cur, rfl, hAT, hP', hblk', hR', hall, hgone, ho', hcl, hct, hfr, hst, hcnt, hfw⟩ := hrel
    by_cases hlt : A < T
    · have hget := get_step (a := A) (dl := T - A) (dc := T - A) hP'.out hblk'.out hR'.out hst.out.new ho'.out hfr.out (Nat.le_refl _) hB (by rw [hcl.out]; omega) (by omega) (by rw [hgone.out, hall.out]; have := hTl.out; omega) hmem hch.out (by rw [hall.out]; exact hlen.out) (by show b'.cs.length ≤ u; have := hcnt.out; have := hu.out; omega) (by show sp'.length + u ≤ _; have := hfw.out; have := hfew.out; omega)
      have hA0 : (0 : Int) ≤ (A : Int) := by omega
      have hA1 : (A : Int) ≤ (T : Int) := by omega
      have hA2 : ¬ T = A := by omega
      go_wp2_with fail
      refine hget.mono ?_
      rintro e w3 ⟨N, lab2, u2, S2, sp2, b2, hN0, hNd, hNl, rfl, hP3, hblk3, hR3, hall3, hgone3, ho3, hst3, hcnt3, hfw3⟩
      have hg3 : b2.gone = b.gone + (A + N) := by rw [hgone3, hgone.out]; omega
      have ha3 : b2.all = b.all := hall3.trans hall.out
      have hl3 : (cur.take A ++ bc ((b'.all.drop b'.gone).take N) ++ cur.drop (A + N)).length = T := by
        have := hcl.out
        simp only [List.length_append, List.length_take, List.length_drop, bc_len]
        omega
      have ht3 : (cur.take A ++ bc ((b'.all.drop b'.gone).take N) ++ cur.drop (A + N)).take (A + N) = bc ((b.all.drop b.gone).take (A + N)) := by
        have h1 := hcl.out
        rw [List.take_left' (by simp only [List.length_append, List.length_take, List.length_drop, bc_len]; omega), hct.out, hall.out, hgone.out, List.take_add, bc_app, List.drop_drop]
      have hf3 : lab2 z = .free := by
        rw [hst3.lb z (ho'.out.lt) (by rw [hfr.out]; exact id)]
        exact hfr.out
      have hst4 : Step B k z w lab w3 lab2 := hst.out.trans hst3 (by rw [hzh.out]; exact Nat.le_refl _)
      have hcn3 : u2 + b.cs.length = p.used + b2.cs.length := by have h1 : u2 + b'.cs.length = u + b2.cs.length := hcnt3; have h2 := hcnt.out; omega
      have hfw4 : sp2.length + u2 ≤ sp.length + p.used := by have h1 : sp2.length + u2 ≤ sp'.length + u := hfw3; have h2 := hfw.out; omega
      rw [← hgone3, ← hall3] at hblk3
      clear hget hst3 hcnt3 hfw3 hgone3 hall3
      replace hP3 := Lib.hid hP3
      replace hblk3 := Lib.hid hblk3
      replace hR3 := Lib.hid hR3
      replace hg3 := Lib.hid hg3
      replace ha3 := Lib.hid ha3
      replace hl3 := Lib.hid hl3
      replace ht3 := Lib.hid ht3
      replace hf3 := Lib.hid hf3
      replace hst4 := Lib.hid hst4
      replace hcn3 := Lib.hid hcn3
      replace hfw4 := Lib.hid hfw4
      replace ho3 := Lib.hid ho3
      replace hNl := Lib.hid hNl
      go_wp2
      go_roundw
      case rel => exact ⟨A + N, lab2, u2, S2, sp2, b2, _, by go_num, by omega, hP3, hblk3, hR3, ha3, hg3, ho3, hl3, ht3, hf3, hst4, hcn3, hfw4⟩
      case measure => simp [intOf]; omega
    · obtain rfl : A = T := by omega
      have hcf := bc_full hcl.out hct.out
      have c0 := hblk'.out.cell (show (bufC pb b'.gone b'.all.length b'.m b'.c)[0]? = some _ from rfl)
      have d3 := hP'.out.blk.cell (show (Ps.cells { p with used := u } S')[3]? = some _ from rfl)
      have f3 := hP'.out.blk.frozen 3
      simp only [hhh.out] at d3
      have hpl3 := hP'.out.blk.lt
      have hbl3 := hblk'.out.lt
      have hzl3 := ho'.out.lt
      have hzp : z ≠ pb := lab_ne hfr.out hP'.out.lb nofun
      have hll : ((b.all.drop b.gone).take A).length = A := by have := hTl.out; rw [List.length_take, List.length_drop]; omega
      have hconv : ∀ W : World, Blk W z cur 5 → (convert 153 9 (.slice (some ⟨z, 0, none⟩) A A)).run Tryz.prog W = .ok (.string ⟨((b.all.drop b.gone).take A).toArray⟩) W := fun W hW => by
        have := run_convert_bytes_back W 153 9 5 ⟨z, 0, none⟩ A ((b.all.drop b.gone).take A) Tryz.underlying153 Tryz.underlying5 Tryz.underlying9 (fun j hj => by
          rw [add_plain0, Nat.zero_add]
          refine hW.cell ?_
          rw [hcf]
          unfold bc
          rw [List.getElem?_map, List.getElem?_eq_getElem hj]
          rfl)
        rw [hll] at this
        exact this
      have hTh2 := hTh
      go_upto_region 11 with fail
      have e1 : ((h : Int) - (A : Int)) = ((h - A : Nat) : Int) := by omega
      rw [e1]
      have hb4 := hP'.out.blk.set 3 (.int .i64 ((h - A : Nat) : Int))
      have e5 : (Ps.cells { p with used := u } S').set 3 (.int .i64 ((h - A : Nat) : Int)) = Ps.cells { p with held := h - A, used := u } S' := rfl
      rw [e5] at hb4
      have hlb := hP'.out.lb
      have hk4 : ∀ g, g < wr.heap.size → g ≠ pb → (wr.setCell ⟨pb, 3, none⟩ (.int .i64 ((h - A : Nat) : Int))).heap[g]? = wr.heap[g]? := fun g _ hg => heap_setCell_other wr _ g _ hg
      have hs4 : (wr.setCell ⟨pb, 3, none⟩ (.int .i64 ((h - A : Nat) : Int))).heap.size = wr.heap.size := by simp [World.setCell]
      have m4 : Mv B (fun g => Mine k (lab' g) ∨ z ≤ g) wr (wr.setCell ⟨pb, 3, none⟩ (.int .i64 ((h - A : Nat) : Int))) := Mv.set (S := fun g => Mine k (lab' g) ∨ z ≤ g) hP'.out.blk (.inl (by rw [hlb]; trivial)) four_pool hP'.out.low 3 _
      generalize wr.setCell ⟨pb, 3, none⟩ (.int .i64 ((h - A : Nat) : Int)) = w4 at hb4 hk4 hs4 m4 ⊢
      have hP4 := hP'.out.head hb4 hk4
      have hblk4 : Blk w4 bb _ _ := (hk4 bb hbl3 (fun e => hpb e.symm)).trans hblk'.out
      have ho4 : Blk w4 z _ _ := (hk4 z hzl3 hzp).trans ho'.out
      have hR4 := hR'.out.same (x := pb) (.inr fun t => by rw [hlb]; simp) hk4
      have hst4 : Step B k z w lab w4 lab' := hst.out.trans ⟨m4, fun _ _ _ => rfl, fun g hg => hst.out.new g (by omega)⟩ (by rw [hzh.out]; exact Nat.le_refl _)
      have hcv := hconv w4 ho4
      rw [hgone.out, hall.out] at hblk4
      clear c0 d3 f3 e1 e5 hk4 m4 hconv hb4
      replace hP4 := Lib.hid hP4
      replace hblk4 := Lib.hid hblk4
      replace hR4 := Lib.hid hR4
      replace hst4 := Lib.hid hst4
      replace ho4 := Lib.hid ho4
      replace hcf := Lib.hid hcf
      replace hll := Lib.hid hll
      replace hlb := Lib.hid hlb
      go_wp2
      go_ret2
      exact ⟨rfl, lab', u, S', sp', b', by rw [hhh.out]; exact hP4.out, hblk4.out, hR4.out, hall.out, hgone.out, by rw [hzh.out]; exact hst4.out, hcnt.out, hfw.out⟩
theorem drain_more (T : Nat) (n : Int) (hP : PoolAt w B lab pb p S sp) (hblk : Blk w bb (bufC pb b.gone b.all.length b.m b.c) 232) (hR : BufR w B lab bb k p.mem p.ch b) (hnew : ∀ g, w.heap.size ≤ g → lab g = .free) (hB : B ≤ w.heap.size)
    (hlen : b.all.length ≤ 1000000) (hmem : p.mem ≤ 65536) (hch : 0 < p.ch ∧ p.ch ≤ 65536) (hfew : sp.length + p.used ≤ 1000000) (hu : b.cs.length ≤ p.used) (hheld : b.all.length - b.gone ≤ p.held) (hhb : p.held ≤ 1048576) (hLd : b.all.length - b.gone = T) (hTL : (T : Int) < n) :
    Calls Tryz.prog 278 #[.pointer (some ⟨bb, 0, none⟩), .int .i64 n] w fun e w' => e = .returned (.tuple #[.string ⟨((b.all.drop b.gone).take T).toArray⟩, .int .i64 0]) ∧ DrainPost B pb bb k lab p sp b T w w' := by
  have hop := open_ok pb bb b.gone b.all.length b.m b.c w hblk
  have hgl := hR.gl
  have hln := len_ok pb bb b.gone b.all.length b.m b.c w hblk hgl (by omega)
  rw [hLd] at hln
  have hTl : b.gone + T ≤ b.all.length := by omega
  have hTh : T ≤ p.held := by omega
  obtain ⟨i0, hi, hz0, hz1, hz2⟩ := info_parts infoU8
  have hmk : ∀ W : World, (Instr.makeSlice 153 (.int .i64 (T : Int)) (.int .i64 (T : Int))).run Tryz.prog W = .ok (.slice (some ⟨W.heap.size, 0, none⟩) T T) (W.alloc (.cells (madeCells #[.int .u8 0] T) 5)) := fun W => by
    have := run_make W 153 5 i0 _ Tryz.underlying153 hi hz0 .i64 .i64 (T : Int) (T : Int) (by omega) (Int.le_refl _) (by rw [hz2]; omega) (by omega)
    rw [hz1, Int.toNat_natCast, Nat.mul_one] at this
    exact this
  obtain ⟨h, hhh⟩ : ∃ h, p.held = h := ⟨_, rfl⟩
  rw [hhh] at hTh hhb
  have hpl := hP.blk.lt
  have hbl := hblk.lt
  have hpb : pb ≠ bb := lab_ne hP.lb hR.lb nofun
  have hT0 : (0 : Int) ≤ (T : Int) := by omega
  have hn0 : ¬ n < 0 := by omega
  have hn1 : ¬ n ≤ (T : Int) := by omega
  replace hhh := Lib.hid hhh
  replace hP := Lib.hid hP
  replace hR := Lib.hid hR
  replace hblk := Lib.hid hblk
  replace hnew := Lib.hid hnew
  replace hLd := Lib.hid hLd
  replace hTl := Lib.hid hTl
  replace hgl := Lib.hid hgl
  replace hlen := Lib.hid hlen
  replace hu := Lib.hid hu
  replace hfew := Lib.hid hfew
  replace hch := Lib.hid hch
  clear hi hz0 hz1 hz2 hheld
  go_enter Tryz.func278, Tryz.ntmps278
  go_wp2_with fail
  refine hop.mono ?_
  rintro e w1 ⟨rfl, hw⟩
  obtain rfl := hw.symm
  clear hop
  go_wp2_with fail
  refine hln.mono ?_
  rintro e w1 ⟨rfl, nd, rfl⟩
  clear hln
  go_upto_region 7 with fail
  have hmc : (madeCells #[.int .u8 0] T) = ((madeCells #[.int .u8 0] T).toList).toArray := by simp
  have ho2 : Blk ((w.drewN nd).alloc (.cells (madeCells #[.int .u8 0] T) 5)) w.heap.size (madeCells #[.int .u8 0] T).toList 5 := by
    have := Blk.new (w.drewN nd) (madeCells #[.int .u8 0] T).toList 5
    rw [← hmc] at this
    exact this
  have hml : (madeCells #[.int .u8 0] T).toList.length = T := by rw [Array.length_toList, size_madeCells]
  have hk2 : ∀ g, g < w.heap.size → ((w.drewN nd).alloc (.cells (madeCells #[.int .u8 0] T) 5)).heap[g]? = w.heap[g]? := fun g hg => Below.heap_alloc (w.drewN nd) _ g hg
  have m2 : Mv B (fun g => Mine k (lab g) ∨ w.heap.size ≤ g) w ((w.drewN nd).alloc (.cells (madeCells #[.int .u8 0] T) 5)) := (heap_mv ⟨nd, rfl⟩).trans (Mv.alloc B _ (w.drewN nd) _)
  have hs2 : ((w.drewN nd).alloc (.cells (madeCells #[.int .u8 0] T) 5)).heap.size = w.heap.size + 1 := by simp
  generalize (madeCells #[.int .u8 0] T).toList = cur0 at ho2 hml
  generalize (w.drewN nd).alloc (.cells (madeCells #[.int .u8 0] T) 5) = w2 at ho2 hk2 m2 hs2 ⊢
  obtain ⟨z, hz⟩ : ∃ z, w.heap.size = z := ⟨_, rfl⟩
  have hP2 : PoolAt w2 B lab pb p S sp := hP.out.keep fun g hg _ => ⟨hk2 g hg, rfl⟩
  have hblk2 : Blk w2 bb (bufC pb b.gone b.all.length b.m b.c) 232 := (hk2 bb hbl).trans hblk.out
  have hR2 : BufR w2 B lab bb k p.mem p.ch b := hR.out.keep hbl fun g hg _ => ⟨hk2 g hg, rfl⟩
  have hst2 : Step B k w.heap.size w lab w2 lab := ⟨m2, fun _ _ _ => rfl, fun g hg => hnew.out g (by omega)⟩
  have hfr2 : lab z = .free := hnew.out z (by omega)
  rw [hz] at ho2 hbl hpl hs2 hB hst2 ⊢
  have hzh := Lib.hid hz
  replace hmk := Lib.hid hmk
  clear hk2 m2 hmc hz
  replace ho2 := Lib.hid ho2
  replace hml := Lib.hid hml
  replace hP2 := Lib.hid hP2
  replace hblk2 := Lib.hid hblk2
  replace hR2 := Lib.hid hR2
  replace hst2 := Lib.hid hst2
  replace hfr2 := Lib.hid hfr2
  go_wp2
  go_loopw [8] (fun av wr => ∃ (A : Nat) (lab' : Nat → Lab) (u : Nat) (S' : Value) (sp' : List Value) (b' : Bs) (cur : List Value), av = .int .i64 (A : Int) ∧ A ≤ T ∧ Hid (PoolAt wr B lab' pb { p with used := u } S' sp') ∧
      Hid (Blk wr bb (bufC pb b'.gone b'.all.length b'.m b'.c) 232) ∧ Hid (BufR wr B lab' bb k p.mem p.ch b') ∧ Hid (b'.all = b.all) ∧ Hid (b'.gone = b.gone + A) ∧ Hid (Blk wr z cur 5) ∧ Hid (cur.length = T) ∧ Hid (cur.take A = bc ((b.all.drop b.gone).take A)) ∧ Hid (lab' z = .free) ∧
      Hid (Step B k z w lab wr lab') ∧ Hid (u + b.cs.length = p.used + b'.cs.length) ∧ Hid (sp'.length + u ≤ sp.length + p.used)) (fun av _ => T - (intOf av).toNat)
  case atStart => exact ⟨0, lab, p.used, S, sp, b, cur0, rfl, Nat.zero_le _, hP2, hblk2, hR2, Lib.hid rfl, Lib.hid rfl, ho2, hml, Lib.hid rfl, hfr2, hst2, Lib.hid rfl, Lib.hid (Nat.le_refl _)⟩
  case round =>
    clear hP2 hblk2 hR2 hst2 hfr2 ho2 hml
    obtain ⟨A, lab', u, S', sp', b', cur, rfl, hAT, hP', hblk', hR', hall, hgone, ho', hcl, hct, hfr, hst, hcnt, hfw⟩ := hrel
    by_cases hlt : A < T
    · have hget := get_step (a := A) (dl := T - A) (dc := T - A) hP'.out hblk'.out hR'.out hst.out.new ho'.out hfr.out (Nat.le_refl _) hB (by rw [hcl.out]; omega) (by omega) (by rw [hgone.out, hall.out]; have := hTl.out; omega) hmem hch.out (by rw [hall.out]; exact hlen.out) (by show b'.cs.length ≤ u; have := hcnt.out; have := hu.out; omega) (by show sp'.length + u ≤ _; have := hfw.out; have := hfew.out; omega)
      have hA0 : (0 : Int) ≤ (A : Int) := by omega
      have hA1 : (A : Int) ≤ (T : Int) := by omega
      have hA2 : ¬ T = A := by omega
      go_wp2_with fail
      refine hget.mono ?_
      rintro e w3 ⟨N, lab2, u2, S2, sp2, b2, hN0, hNd, hNl, rfl, hP3, hblk3, hR3, hall3, hgone3, ho3, hst3, hcnt3, hfw3⟩
      have hg3 : b2.gone = b.gone + (A + N) := by rw [hgone3, hgone.out]; omega
      have ha3 : b2.all = b.all := hall3.trans hall.out
      have hl3 : (cur.take A ++ bc ((b'.all.drop b'.gone).take N) ++ cur.drop (A + N)).length = T := by
        have := hcl.out
        simp only [List.length_append, List.length_take, List.length_drop, bc_len]
        omega
      have ht3 : (cur.take A ++ bc ((b'.all.drop b'.gone).take N) ++ cur.drop (A + N)).take (A + N) = bc ((b.all.drop b.gone).take (A + N)) := by
        have h1 := hcl.out
        rw [List.take_left' (by simp only [List.length_append, List.length_take, List.length_drop, bc_len]; omega), hct.out, hall.out, hgone.out, List.take_add, bc_app, List.drop_drop]
      have hf3 : lab2 z = .free := by
        rw [hst3.lb z (ho'.out.lt) (by rw [hfr.out]; exact id)]
        exact hfr.out
      have hst4 : Step B k z w lab w3 lab2 := hst.out.trans hst3 (by rw [hzh.out]; exact Nat.le_refl _)
      have hcn3 : u2 + b.cs.length = p.used + b2.cs.length := by have h1 : u2 + b'.cs.length = u + b2.cs.length := hcnt3; have h2 := hcnt.out; omega
      have hfw4 : sp2.length + u2 ≤ sp.length + p.used := by have h1 : sp2.length + u2 ≤ sp'.length + u := hfw3; have h2 := hfw.out; omega
      rw [← hgone3, ← hall3] at hblk3
      clear hget hst3 hcnt3 hfw3 hgone3 hall3
      replace hP3 := Lib.hid hP3
      replace hblk3 := Lib.hid hblk3
      replace hR3 := Lib.hid hR3
      replace hg3 := Lib.hid hg3
      replace ha3 := Lib.hid ha3
      replace hl3 := Lib.hid hl3
      replace ht3 := Lib.hid ht3
      replace hf3 := Lib.hid hf3
      replace hst4 := Lib.hid hst4
      replace hcn3 := Lib.hid hcn3
      replace hfw4 := Lib.hid hfw4
      replace ho3 := Lib.hid ho3
      replace hNl := Lib.hid hNl
      go_wp2
      go_roundw
      case rel => exact ⟨A + N, lab2, u2, S2, sp2, b2, _, by go_num, by omega, hP3, hblk3, hR3, ha3, hg3, ho3, hl3, ht3, hf3, hst4, hcn3, hfw4⟩
      case measure => simp [intOf]; omega
    · obtain rfl : A = T := by omega
      have hcf := bc_full hcl.out hct.out
      have c0 := hblk'.out.cell (show (bufC pb b'.gone b'.all.length b'.m b'.c)[0]? = some _ from rfl)
      have d3 := hP'.out.blk.cell (show (Ps.cells { p with used := u } S')[3]? = some _ from rfl)
      have f3 := hP'.out.blk.frozen 3
      simp only [hhh.out] at d3
      have hpl3 := hP'.out.blk.lt
      have hbl3 := hblk'.out.lt
      have hzl3 := ho'.out.lt
      have hzp : z ≠ pb := lab_ne hfr.out hP'.out.lb nofun
      have hll : ((b.all.drop b.gone).take A).length = A := by have := hTl.out; rw [List.length_take, List.length_drop]; omega
      have hconv : ∀ W : World, Blk W z cur 5 → (convert 153 9 (.slice (some ⟨z, 0, none⟩) A A)).run Tryz.prog W = .ok (.string ⟨((b.all.drop b.gone).take A).toArray⟩) W := fun W hW => by
        have := run_convert_bytes_back W 153 9 5 ⟨z, 0, none⟩ A ((b.all.drop b.gone).take A) Tryz.underlying153 Tryz.underlying5 Tryz.underlying9 (fun j hj => by
          rw [add_plain0, Nat.zero_add]
          refine hW.cell ?_
          rw [hcf]
          unfold bc
          rw [List.getElem?_map, List.getElem?_eq_getElem hj]
          rfl)
        rw [hll] at this
        exact this
      have hTh2 := hTh
      go_upto_region 11 with fail
      have e1 : ((h : Int) - (A : Int)) = ((h - A : Nat) : Int) := by omega
      rw [e1]
      have hb4 := hP'.out.blk.set 3 (.int .i64 ((h - A : Nat) : Int))
      have e5 : (Ps.cells { p with used := u } S').set 3 (.int .i64 ((h - A : Nat) : Int)) = Ps.cells { p with held := h - A, used := u } S' := rfl
      rw [e5] at hb4
      have hlb := hP'.out.lb
      have hk4 : ∀ g, g < wr.heap.size → g ≠ pb → (wr.setCell ⟨pb, 3, none⟩ (.int .i64 ((h - A : Nat) : Int))).heap[g]? = wr.heap[g]? := fun g _ hg => heap_setCell_other wr _ g _ hg
      have hs4 : (wr.setCell ⟨pb, 3, none⟩ (.int .i64 ((h - A : Nat) : Int))).heap.size = wr.heap.size := by simp [World.setCell]
      have m4 : Mv B (fun g => Mine k (lab' g) ∨ z ≤ g) wr (wr.setCell ⟨pb, 3, none⟩ (.int .i64 ((h - A : Nat) : Int))) := Mv.set (S := fun g => Mine k (lab' g) ∨ z ≤ g) hP'.out.blk (.inl (by rw [hlb]; trivial)) four_pool hP'.out.low 3 _
      generalize wr.setCell ⟨pb, 3, none⟩ (.int .i64 ((h - A : Nat) : Int)) = w4 at hb4 hk4 hs4 m4 ⊢
      have hP4 := hP'.out.head hb4 hk4
      have hblk4 : Blk w4 bb _ _ := (hk4 bb hbl3 (fun e => hpb e.symm)).trans hblk'.out
      have ho4 : Blk w4 z _ _ := (hk4 z hzl3 hzp).trans ho'.out
      have hR4 := hR'.out.same (x := pb) (.inr fun t => by rw [hlb]; simp) hk4
      have hst4 : Step B k z w lab w4 lab' := hst.out.trans ⟨m4, fun _ _ _ => rfl, fun g hg => hst.out.new g (by omega)⟩ (by rw [hzh.out]; exact Nat.le_refl _)
      have hcv := hconv w4 ho4
      rw [hgone.out, hall.out] at hblk4
      clear c0 d3 f3 e1 e5 hk4 m4 hconv hb4
      replace hP4 := Lib.hid hP4
      replace hblk4 := Lib.hid hblk4
      replace hR4 := Lib.hid hR4
      replace hst4 := Lib.hid hst4
      replace ho4 := Lib.hid ho4
      replace hcf := Lib.hid hcf
      replace hll := Lib.hid hll
      replace hlb := Lib.hid hlb
      go_wp2
      go_ret2
      exact ⟨rfl, lab', u, S', sp', b', by rw [hhh.out]; exact hP4.out, hblk4.out, hR4.out, hall.out, hgone.out, by rw [hzh.out]; exact hst4.out, hcnt.out, hfw.out⟩
theorem drain_ok (n : Nat) (hP : PoolAt w B lab pb p S sp) (hblk : Blk w bb (bufC pb b.gone b.all.length b.m b.c) 232) (hR : BufR w B lab bb k p.mem p.ch b) (hnew : ∀ g, w.heap.size ≤ g → lab g = .free) (hB : B ≤ w.heap.size)
    (hlen : b.all.length ≤ 1000000) (hmem : p.mem ≤ 65536) (hch : 0 < p.ch ∧ p.ch ≤ 65536) (hfew : sp.length + p.used ≤ 1000000) (hu : b.cs.length ≤ p.used) (hheld : b.all.length - b.gone ≤ p.held) (hhb : p.held ≤ 1048576) :
    Calls Tryz.prog 278 #[.pointer (some ⟨bb, 0, none⟩), .int .i64 (n : Int)] w fun e w' => e = .returned (.tuple #[.string ⟨((b.all.drop b.gone).take n).toArray⟩, .int .i64 0]) ∧ DrainPost B pb bb k lab p sp b (min n (b.all.length - b.gone)) w w' := by
  by_cases h : n ≤ b.all.length - b.gone
  · rw [Nat.min_eq_left h]
    exact drain_all n _ hP hblk hR hnew hB hlen hmem hch hfew hu hheld hhb rfl h
  · rw [Nat.min_eq_right (by omega)]
    have e : (b.all.drop b.gone).take n = (b.all.drop b.gone).take (b.all.length - b.gone) := by
      rw [List.take_of_length_le (by rw [List.length_drop]; omega), List.take_of_length_le (by rw [List.length_drop]; omega)]
    rw [e]
    exact drain_more _ (n : Int) hP hblk hR hnew hB hlen hmem hch hfew hu hheld hhb rfl (by omega)
theorem drain_neg (gone len : Nat) (m c : Value) (n : Int) (hn : n < 0) (hblk : Blk w bb (bufC pb gone len m c) 232) :
    Calls Tryz.prog 278 #[.pointer (some ⟨bb, 0, none⟩), .int .i64 n] w fun e w' => e = .returned (.tuple #[.string ⟨#[]⟩, .int .i64 1]) ∧ w' = w := by
  have hop := open_ok pb bb gone len m c w hblk
  clear hblk
  go_enter Tryz.func278, Tryz.ntmps278
  go_wp2_with fail
  refine hop.mono ?_
  rintro e w1 ⟨rfl, hw⟩
  obtain rfl := hw.symm
  clear hop
  go_wp2
  go_ret2
  exact ⟨rfl, rfl⟩
end
def toSpare (k : Nat) : Lab → Lab
  | .own k' 3 => if k' = k then .spare else .own k' 3
  | l => l
theorem toSpare_ne (k : Nat) {l : Lab} (h : l ≠ .own k 3) : toSpare k l = l := by
  match l with
  | .free => rfl
  | .pool => rfl
  | .sparr => rfl
  | .spare => rfl
  | .own k' t =>
    match t with
    | 0 => rfl
    | 1 => rfl
    | 2 => rfl
    | 3 => exact if_neg fun e => h (by rw [e])
    | t + 4 => rfl
def ClosePost (B pb bb k : Nat) (lab : Nat → Lab) (p : Ps) (sp : List Value) (b : Bs) (w w' : World) : Prop :=
  ∃ (lab' : Nat → Lab) (S' : Value), PoolAt w' B lab' pb { p with held := p.held - (b.all.length - b.gone), used := p.used - b.cs.length, nb := p.nb - 1 } S' (sp ++ b.cs) ∧
    Blk w' bb shutC 232 ∧ lab' bb = .own k 0 ∧ Step B k w.heap.size w lab w' lab'
section
variable {B pb bb k : Nat} {lab : Nat → Lab} {p : Ps} {S : Value} {sp : List Value} {b : Bs} {w : World}
theorem row_one {w : World} {B : Nat} {e : TypeId} {v : Value} {n : Nat} {xs : List Value} (h : Row w B e v n xs) : v.oneCell' = true := by
  obtain ⟨A, c, rfl, _⟩ := h.form
  rfl
theorem close_ok (hP : PoolAt w B lab pb p S sp) (hblk : Blk w bb (bufC pb b.gone b.all.length b.m b.c) 232) (hR : BufR w B lab bb k p.mem p.ch b) (hnew : ∀ g, w.heap.size ≤ g → lab g = .free) (hB : B ≤ w.heap.size)
    (hlen : b.all.length ≤ 1000000) (hfew : sp.length + p.used ≤ 1000000) (hu : b.cs.length ≤ p.used) (hheld : b.all.length - b.gone ≤ p.held) (hhb : p.held ≤ 1048576) (hnb : 0 < p.nb) (hnb2 : p.nb ≤ 1000000) :
    Calls Tryz.prog 272 #[.pointer (some ⟨bb, 0, none⟩)] w fun e w' => e = .returned (.int .i64 0) ∧ ClosePost B pb bb k lab p sp b w w' := by
  have hop := open_ok pb bb b.gone b.all.length b.m b.c w hblk
  have hgl := hR.gl
  obtain ⟨Ac, cc, hbc, _, _⟩ := hR.arr.form
  rw [hbc] at hblk
  have c0 := hblk.cell (show (bufC pb b.gone b.all.length b.m (.slice Ac b.cs.length cc))[0]? = some _ from rfl)
  have d5 := hP.blk.cell (show (p.cells S)[5]? = some _ from rfl)
  have f5 := hP.blk.frozen 5
  obtain ⟨h, hhh⟩ : ∃ h, p.held = h := ⟨_, rfl⟩
  obtain ⟨U, hUU⟩ : ∃ U, p.nb = U := ⟨_, rfl⟩
  rw [hhh] at hheld hhb
  rw [hUU] at hnb hnb2 d5
  have hpl := hP.blk.lt
  have hbl := hblk.lt
  have hpb : pb ≠ bb := lab_ne hP.lb hR.lb nofun
  obtain ⟨L, hL⟩ : ∃ L, b.all.length - b.gone = L := ⟨_, rfl⟩
  rw [hL] at hheld
  replace hhh := Lib.hid hhh
  replace hUU := Lib.hid hUU
  replace hP := Lib.hid hP
  replace hR := Lib.hid hR
  replace hblk := Lib.hid hblk
  replace hnew := Lib.hid hnew
  replace hL := Lib.hid hL
  replace hgl := Lib.hid hgl
  replace hlen := Lib.hid hlen
  replace hu := Lib.hid hu
  replace hfew := Lib.hid hfew
  go_enter Tryz.func272, Tryz.ntmps272
  go_wp2_with fail
  refine hop.mono ?_
  rintro e w1 ⟨rfl, hw⟩
  obtain rfl := hw.symm
  clear hop
  go_upto_region 6 with fail
  have e1 : ((U : Int) - 1) = ((U - 1 : Nat) : Int) := by omega
  rw [e1]
  have hb2 := hP.out.blk.set 5 (.int .i64 ((U - 1 : Nat) : Int))
  rw [set5] at hb2
  have m2 : Mv B (fun g => Mine k (lab g) ∨ w.heap.size ≤ g) w (w.setCell ⟨pb, 5, none⟩ (.int .i64 ((U - 1 : Nat) : Int))) := Mv.set (S := fun g => Mine k (lab g) ∨ w.heap.size ≤ g) hP.out.blk (.inl (by rw [hP.out.lb]; trivial)) four_pool hP.out.low 5 _
  have hk2 : ∀ g, g < w.heap.size → g ≠ pb → (w.setCell ⟨pb, 5, none⟩ (.int .i64 ((U - 1 : Nat) : Int))).heap[g]? = w.heap[g]? := fun g _ hg => heap_setCell_other w _ g _ hg
  have hs2 : (w.setCell ⟨pb, 5, none⟩ (.int .i64 ((U - 1 : Nat) : Int))).heap.size = w.heap.size := by simp [World.setCell]
  generalize w.setCell ⟨pb, 5, none⟩ (.int .i64 ((U - 1 : Nat) : Int)) = w2 at hb2 m2 hk2 hs2 ⊢
  have hblk2 : Blk w2 bb (bufC pb b.gone b.all.length b.m (.slice Ac b.cs.length cc)) 232 := (hk2 bb hbl (fun e => hpb e.symm)).trans hblk.out
  have hln := len_ok pb bb b.gone b.all.length b.m (.slice Ac b.cs.length cc) w2.drew hblk2 hgl.out (by have := hlen.out; omega)
  rw [hL.out] at hln
  have d3 := hb2.cell (show (Ps.cells { p with nb := U - 1 } S)[3]? = some _ from rfl)
  have f3 := hb2.frozen 3
  simp only [hhh.out] at d3
  have hpl2 := hb2.lt
  clear c0 d5 f5 e1
  replace hb2 := Lib.hid hb2
  replace m2 := Lib.hid m2
  replace hk2 := Lib.hid hk2
  replace hblk2 := Lib.hid hblk2
  refine wp_region_last (L := 9) (S := (fun w' : World => w'.cell? ⟨pb, 3, none⟩ = some (.int .i64 (h : Int)))) (by kernel_rfl) ?_
  refine wpAnyT_takeT (n := 10) (i := 0) (v := .pointer (some ⟨pb, 0, none⟩)) rfl (by kernel_rfl) (by kernel_rfl) (by kernel_rfl) (by kernel_rfl) (by kernel_rfl) (fun _ _ _ h => h) (Or.inl ⟨by rfl, ?_⟩) d3 ?_
  · intro W k0
    clear d3 f3 hln
    go_simp
    try (intro hx; exfalso; omega)
  try simp only [Act.put, List.setIfInBounds_toArray]
  refine wpAnyT_takeT (n := 10) (i := 1) (v := .pointer (some ⟨pb, 0, none⟩)) rfl (by kernel_rfl) (by kernel_rfl) (by kernel_rfl) (by kernel_rfl) (by kernel_rfl) (fun _ _ _ h => h) (Or.inl ⟨by rfl, ?_⟩) d3 ?_
  · intro W k0
    clear d3 f3 hln
    go_simp
    try (intro hx; exfalso; omega)
  try simp only [Act.put]
  refine wpAnyT_takeT (n := 10) (i := 2) (v := .pointer (some ⟨pb, 3, none⟩)) rfl (by kernel_rfl) (by kernel_rfl) (by kernel_rfl) (by kernel_rfl) (by kernel_rfl) (fun _ _ _ h => h) (Or.inl ⟨by rfl, ?_⟩) d3 ?_
  · intro W k0
    clear d3 f3 hln
    go_simp
    try (intro hx; exfalso; omega)
  try simp only [Act.put]
  refine wpAnyT_takeT (n := 10) (i := 3) (v := .int .i64 (h : Int)) rfl (by kernel_rfl) (by kernel_rfl) (by kernel_rfl) (by kernel_rfl) (by kernel_rfl) (fun _ _ _ h => h) (Or.inl ⟨by rfl, ?_⟩) d3 ?_
  · intro W k0
    clear d3 f3 hln
    go_simp
    try (intro hx; exfalso; omega)
  try simp only [Act.put]
  refine wpAnyT_takeT (n := 10) (i := 4) (v := .pointer (some ⟨bb, 0, none⟩)) rfl (by kernel_rfl) (by kernel_rfl) (by kernel_rfl) (by kernel_rfl) (by kernel_rfl) (fun _ _ _ h => h) (Or.inl ⟨by rfl, ?_⟩) d3 ?_
  · intro W k0
    clear d3 f3 hln
    go_simp
    try (intro hx; exfalso; omega)
  try simp only [Act.put]
  refine wpAnyT_one (i := 5) rfl (by kernel_rfl) rfl ?_
  go_simp
  refine hln.mono ?_
  rintro e w3 ⟨rfl, nd, hw3⟩
  have hh3 : w3.heap = w2.heap := by rw [hw3]; rfl
  have d3' : w3.cell? ⟨pb, 3, none⟩ = some (.int .i64 (h : Int)) := by rw [hw3]; exact d3
  have f3' : w3.frozen? ⟨pb, 3, none⟩ = false := by rw [hw3]; exact f3
  have m3 : Mv B (fun g => Mine k (lab g) ∨ w.heap.size ≤ g) w w3 := m2.out.trans (by rw [hw3]; exact ⟨rfl, rfl, rfl, Nat.le_refl _, fun _ _ _ => rfl, fun _ _ _ => rfl⟩)
  have hs3 : w3.heap.size = w.heap.size := by rw [hh3]; exact hs2
  have hb3 : Blk w3 pb (Ps.cells { p with nb := U - 1 } S) 173 := by unfold Blk; rw [hh3]; exact hb2.out
  have hk3 : ∀ g, g < w.heap.size → g ≠ pb → w3.heap[g]? = w.heap[g]? := by rw [hh3]; exact hk2.out
  clear hw3 hh3 hln d3 f3
  replace m3 := Lib.hid m3
  replace hb3 := Lib.hid hb3
  replace hk3 := Lib.hid hk3
  refine ⟨d3', ?_⟩
  have hlt3 : pb < w3.heap.size := by omega
  have hwS : IntKind.i64.wrap ((h : Int) - (L : Int)) = (h : Int) - (L : Int) := by rw [IntKind.wrap_i64]; omega
  refine wpAnyT_one (i := 6) rfl (by kernel_rfl) rfl ?_
  go_simp
  refine wpAnyT_one (i := 7) rfl (by kernel_rfl) rfl ?_
  go_simp
  refine wpAnyT_one (i := 8) rfl (by kernel_rfl) rfl ?_
  go_simp
  refine wpAnyT_one (i := 9) rfl (by kernel_rfl) rfl ?_
  go_simp
  refine wpAnyT_done (by kernel_rfl) ?_ _
  have e1 : ((h : Int) - (L : Int)) = ((h - L : Nat) : Int) := by omega
  rw [e1]
  have hb4 := hb3.out.set 3 (.int .i64 ((h - L : Nat) : Int))
  rw [set3] at hb4
  have hk4 : ∀ g, g < w.heap.size → g ≠ pb → (w3.setCell ⟨pb, 3, none⟩ (.int .i64 ((h - L : Nat) : Int))).heap[g]? = w.heap[g]? := fun g hg hne => (heap_setCell_other w3 _ g _ hne).trans (hk3.out g hg hne)
  have hs4 : (w3.setCell ⟨pb, 3, none⟩ (.int .i64 ((h - L : Nat) : Int))).heap.size = w.heap.size := by rw [← hs3]; simp [World.setCell]
  have m4 := m3.out.trans (Mv.set (S := fun g => Mine k (lab g) ∨ w.heap.size ≤ g) hb3.out (.inl (by rw [hP.out.lb]; trivial)) four_pool hP.out.low 3 (.int .i64 ((h - L : Nat) : Int)))
  generalize w3.setCell ⟨pb, 3, none⟩ (.int .i64 ((h - L : Nat) : Int)) = w4 at hb4 hk4 hs4 m4 ⊢
  have hP4 : PoolAt w4 B lab pb { p with held := h - L, nb := U - 1 } S sp := hP.out.head hb4 hk4
  have hR4 := hR.out.same (x := pb) (.inr fun t => by rw [hP.out.lb]; simp) hk4
  have hblk4 : Blk w4 bb _ _ := (hk4 bb hbl (fun e => hpb e.symm)).trans hblk.out
  have harr4 := hR4.arr
  rw [hbc] at harr4
  have hlv := leave_any B pb { p with held := h - L, nb := U - 1 } S (.slice Ac b.cs.length cc) sp b.cs w4 hP4.blk hP4.low (by omega) hP4.arr (fun g hg => lab_ne (hP4.arl g hg) hP4.lb nofun) harr4 (fun g hg => lab_ne (hR4.arl g (by rw [hbc]; exact hg)) hP4.lb nofun)
    (fun v hv => by obtain ⟨i, hi⟩ := List.getElem?_of_mem hv; exact row_one (hR4.str i v hi)) hu.out (by have := hfew.out; show p.used ≤ _; omega) (by have := hfew.out; omega)
  have c4 := hblk4.cell (show (bufC pb b.gone b.all.length b.m (.slice Ac b.cs.length cc))[4]? = some _ from rfl)
  have hbl4 := hblk4.lt
  obtain ⟨KC, hKC⟩ : ∃ KC, b.cs.length = KC := ⟨_, rfl⟩
  have hbK := hR4.arr
  clear d3' f3' e1 hb4 hlt3 hwS harr4
  replace hP4 := Lib.hid hP4
  replace hR4 := Lib.hid hR4
  replace hblk4 := Lib.hid hblk4
  replace hk4 := Lib.hid hk4
  replace m4 := Lib.hid m4
  replace hbK := Lib.hid hbK
  replace hbc := Lib.hid hbc
  rw [hKC] at hlv c4
  replace hKC := Lib.hid hKC
  go_wp2_with fail
  refine hlv.mono ?_
  rintro e w5 ⟨S', rfl, hb5, hS5, hSo, m5⟩
  have hblk5 : Blk w5 bb _ _ := hblk4.out.mv m5 fun h => h.elim (fun h => hpb h.symm) (fun h => lab_ne (hP4.out.arl bb h) hR4.out.lb nofun rfl)
  have c0 := hblk5.cell (show (bufC pb b.gone b.all.length b.m (.slice Ac b.cs.length cc))[0]? = some _ from rfl)
  have c1 := hblk5.cell (show (bufC pb b.gone b.all.length b.m (.slice Ac b.cs.length cc))[1]? = some _ from rfl)
  have c2 := hblk5.cell (show (bufC pb b.gone b.all.length b.m (.slice Ac b.cs.length cc))[2]? = some _ from rfl)
  have c3 := hblk5.cell (show (bufC pb b.gone b.all.length b.m (.slice Ac b.cs.length cc))[3]? = some _ from rfl)
  have c5 := hblk5.cell (show (bufC pb b.gone b.all.length b.m (.slice Ac b.cs.length cc))[4]? = some _ from rfl)
  have f0 := hblk5.frozen 0
  have f1 := hblk5.frozen 1
  have f2 := hblk5.frozen 2
  have f3 := hblk5.frozen 3
  have f4 := hblk5.frozen 4
  have hbl5 := hblk5.lt
  generalize b.m = bm at c3
  rw [hKC.out] at c5
  clear hlv c4
  replace hb5 := Lib.hid hb5
  replace hS5 := Lib.hid hS5
  replace hSo := Lib.hid hSo
  replace m5 := Lib.hid m5
  replace hblk5 := Lib.hid hblk5
  go_wp2
  go_ret
  have x0 := hblk5.out
  have x1 := x0.set 0 (.pointer none)
  have x2 := x1.set 1 (.int .i64 0)
  have x3 := x2.set 2 (.int .i64 0)
  have x4 := x3.set 3 (.slice none 0 0)
  have x5 := x4.set 4 (.slice none 0 0)
  have hlb := hR.out.lb
  have hf : Mine k (lab bb) := by rw [hlb]; rfl
  have m6 := ((((((m4.out.trans (m5.out.mono (S' := fun g => Mine k (lab g) ∨ w.heap.size ≤ g) fun g _ hg => .inl (by
    rcases hg with h | h
    · rw [h, hP.out.lb]; trivial
    · rw [hP.out.arl g h]; trivial))).trans (Mv.set (S := fun g => Mine k (lab g) ∨ w.heap.size ≤ g) x0 (.inl hf) four_buf hR.out.low 0 (.pointer none))).trans (Mv.set (S := fun g => Mine k (lab g) ∨ w.heap.size ≤ g) x1 (.inl hf) four_buf hR.out.low 1 (.int .i64 0))).trans
    (Mv.set (S := fun g => Mine k (lab g) ∨ w.heap.size ≤ g) x2 (.inl hf) four_buf hR.out.low 2 (.int .i64 0))).trans (Mv.set (S := fun g => Mine k (lab g) ∨ w.heap.size ≤ g) x3 (.inl hf) four_buf hR.out.low 3 (.slice none 0 0))).trans (Mv.set (S := fun g => Mine k (lab g) ∨ w.heap.size ≤ g) x4 (.inl hf) four_buf hR.out.low 4 (.slice none 0 0)))
  have hk6 : ∀ g, g ≠ bb → (((((w5.setCell ⟨bb, 0, none⟩ (.pointer none)).setCell ⟨bb, 1, none⟩ (.int .i64 0)).setCell ⟨bb, 2, none⟩ (.int .i64 0)).setCell ⟨bb, 3, none⟩ (.slice none 0 0)).setCell ⟨bb, 4, none⟩ (.slice none 0 0)).heap[g]? = w5.heap[g]? := fun g hg =>
    (heap_setCell_other _ _ g _ hg).trans ((heap_setCell_other _ _ g _ hg).trans ((heap_setCell_other _ _ g _ hg).trans ((heap_setCell_other _ _ g _ hg).trans (heap_setCell_other _ _ g _ hg))))
  have hs6 : (((((w5.setCell ⟨bb, 0, none⟩ (.pointer none)).setCell ⟨bb, 1, none⟩ (.int .i64 0)).setCell ⟨bb, 2, none⟩ (.int .i64 0)).setCell ⟨bb, 3, none⟩ (.slice none 0 0)).setCell ⟨bb, 4, none⟩ (.slice none 0 0)).heap.size = w5.heap.size := by simp [World.setCell]
  generalize ((((w5.setCell ⟨bb, 0, none⟩ (.pointer none)).setCell ⟨bb, 1, none⟩ (.int .i64 0)).setCell ⟨bb, 2, none⟩ (.int .i64 0)).setCell ⟨bb, 3, none⟩ (.slice none 0 0)).setCell ⟨bb, 4, none⟩ (.slice none 0 0) = w6 at x5 m6 hk6 hs6 ⊢
  have hSl : ∀ g, S'.ownBlock = some g → (lab g = .sparr ∧ S.ownBlock = some g) ∨ g = w.heap.size := fun g hg => by
    rcases hSo.out with h | h
    · exact .inl ⟨hP.out.arl g (h ▸ hg), h ▸ hg⟩
    · rw [h] at hg; cases hg; exact .inr hs4
  have hlab : ∀ g, g < w.heap.size → lab g ≠ .own k 3 → relab (fun g => toSpare k (lab g)) S' .sparr g = lab g := by
    intro g hgl hns
    by_cases h : S'.ownBlock = some g
    · rw [relab_of h]
      rcases hSl g h with h2 | h2
      · exact h2.1.symm
      · omega
    · rw [relab_ne h]; exact toSpare_ne k hns
  have hlab3 : ∀ g, g < w.heap.size → lab g = .own k 3 → relab (fun g => toSpare k (lab g)) S' .sparr g = .spare := by
    intro g hgl hns
    have h : S'.ownBlock ≠ some g := fun h => by
      rcases hSl g h with h2 | h2
      · rw [hns] at h2; cases h2.1
      · omega
    rw [relab_ne h, hns]
    exact if_pos rfl
  have hst : ∀ g, g < w.heap.size → (lab g = .spare ∨ lab g = .own k 3) → w6.heap[g]? = w.heap[g]? := fun g hgl hl => by
    have h1 : g ≠ bb := fun e => by rw [e, hlb] at hl; simp at hl
    have h2 : g ≠ pb := fun e => by rw [e, hP.out.lb] at hl; simp at hl
    have h3 : S.ownBlock ≠ some g := fun e => by rw [hP.out.arl g e] at hl; simp at hl
    exact (hk6 g h1).trans ((m5.out.block g (by omega) (fun h => h.elim h2 h3)).trans (hk4.out g hgl h2))
  have hcl : ∀ v ∈ b.cs, ∀ g, v.ownBlock = some g → g < w.heap.size ∧ lab g = .own k 3 := fun v hv g hg => by
    obtain ⟨i, hi⟩ := List.getElem?_of_mem hv
    exact ⟨((hR.out.str i v hi).lt hg).2.1, hR.out.stl v hv g hg⟩
  refine ⟨rfl, relab (fun g => toSpare k (lab g)) S' .sparr, S', ?_, x5, (hlab bb hbl (by rw [hlb]; simp)).trans hlb, ⟨m6, fun g hgl hm => hlab g hgl (fun e => hm (by rw [e]; rfl)), fun g hgl => ?_⟩⟩
  · rw [hhh.out, hL.out, hUU.out, hKC.out]
    exact {
      blk := (hk6 pb hpb).trans hb5.out
      low := hP.out.low
      lb := (hlab pb hpl (by rw [hP.out.lb]; simp)).trans hP.out.lb
      arr := hS5.out.keep fun g hg => hk6 g fun e => by
        rcases hSl g hg with h | h
        · rw [e, hlb] at h; cases h.1
        · omega
      arl := fun g hg => relab_of hg
      str := fun v hv => by
        rcases List.mem_append.1 hv with h | h
        · obtain ⟨bs, hb⟩ := hP.out.str v h
          exact ⟨bs, hb.keep fun g hg => hst g (hb.lt hg).2.1 (.inl (hP.out.stl v h g hg))⟩
        · obtain ⟨i, hi⟩ := List.getElem?_of_mem h
          exact ⟨_, (hR.out.str i v hi).keep fun g hg => hst g (hcl v h g hg).1 (.inr (hcl v h g hg).2)⟩
      stl := fun v hv g hg => by
        rcases List.mem_append.1 hv with h | h
        · obtain ⟨bs, hb⟩ := hP.out.str v h
          exact (hlab g (hb.lt hg).2.1 (by rw [hP.out.stl v h g hg]; simp)).trans (hP.out.stl v h g hg)
        · exact hlab3 g (hcl v h g hg).1 (hcl v h g hg).2
      nd := nd_app hP.out.nd hR.out.nd fun u hu g hg v hv h2 => by
        have h3 := hP.out.stl u hu g hg
        rw [(hcl v hv g h2).2] at h3
        cases h3 }
  · have h1 : S'.ownBlock ≠ some g := fun h => by
      have := (hS5.out.lt h).2.1
      omega
    rw [relab_ne h1]
    show toSpare k (lab g) = .free
    rw [hnew.out g (Nat.le_trans m6.size hgl)]
    rfl
end
def tally {α : Type} (f : α → Nat) : List α → Nat
  | [] => 0
  | x :: l => f x + tally f l
theorem tally_app {α : Type} (f : α → Nat) (l : List α) (x : α) : tally f (l ++ [x]) = tally f l + f x := by
  induction l with
  | nil => simp [tally]
  | cons a l ih => simp only [List.cons_append, tally, ih]; omega
theorem tally_set {α : Type} (f : α → Nat) {l : List α} {k : Nat} {y : α} (h : l[k]? = some y) (x : α) : tally f (l.set k x) + f y = tally f l + f x := by
  induction l generalizing k with
  | nil => simp at h
  | cons a l ih =>
    cases k with
    | zero => simp at h; subst h; simp only [List.set_cons_zero, tally]; omega
    | succ k =>
      have := ih (k := k) (by simpa using h)
      simp only [List.set_cons_succ, tally]
      omega
theorem tally_ge {α : Type} (f : α → Nat) {l : List α} {k : Nat} {y : α} (h : l[k]? = some y) : f y ≤ tally f l := by
  induction l generalizing k with
  | nil => simp at h
  | cons a l ih =>
    cases k with
    | zero => simp at h; subst h; simp only [tally]; omega
    | succ k =>
      have := ih (k := k) (by simpa using h)
      simp only [tally]
      omega
theorem tally_one {α : Type} {f : α → Nat} (hf : ∀ x, f x ≤ 1) (l : List α) : tally f l ≤ l.length := by
  induction l with
  | nil => simp [tally]
  | cons a l ih => have := hf a; simp only [tally, List.length_cons]; omega
abbrev Ent := Nat × Option Bs
def heldOf : Ent → Nat | (_, some b) => b.all.length - b.gone | (_, none) => 0
def usedOf : Ent → Nat | (_, some b) => b.cs.length | (_, none) => 0
def openOf : Ent → Nat | (_, some _) => 1 | (_, none) => 0
def poolOf (q M C : Nat) (es : List Ent) : Ps := ⟨q, M, C, tally heldOf es, tally usedOf es, tally openOf es⟩
def EntAt (w : World) (B : Nat) (lab : Nat → Lab) (pb M C k : Nat) : Ent → Prop
  | (bb, some b) => Blk w bb (bufC pb b.gone b.all.length b.m b.c) 232 ∧ BufR w B lab bb k M C b
  | (bb, none) => Blk w bb shutC 232 ∧ lab bb = .own k 0 ∧ B ≤ bb
structure AllR (w : World) (B : Nat) (lab : Nat → Lab) (pb q M C : Nat) (es : List Ent) (tot : Nat) (S : Value) (sp : List Value) : Prop where
  pool : PoolAt w B lab pb (poolOf q M C es) S sp
  new : ∀ g, w.heap.size ≤ g → lab g = .free
  ent : ∀ k e, es[k]? = some e → EntAt w B lab pb M C k e
  few : sp.length + tally usedOf es ≤ tot
  long : ∀ (k bb : Nat) (b : Bs), es[k]? = some (bb, some b) → b.all.length ≤ tot
  par : q ≤ 1048576 ∧ M ≤ 65536 ∧ 0 < C ∧ C ≤ 65536
  hq : tally heldOf es ≤ q
  base : B ≤ w.heap.size
def All (w : World) (B pb q M C : Nat) (es : List Ent) (tot : Nat) : Prop := ∃ lab S sp, AllR w B lab pb q M C es tot S sp
theorem EntAt.keep {w w' : World} {B pb M C k : Nat} {lab lab' : Nat → Lab} {e : Ent} (h : EntAt w B lab pb M C k e) (hk : ∀ g, g < w.heap.size → (∃ t, lab g = .own k t) → w'.heap[g]? = w.heap[g]? ∧ lab' g = lab g) : EntAt w' B lab' pb M C k e := by
  obtain ⟨bb, o⟩ := e
  cases o with
  | none =>
    obtain ⟨h1, h2, h3⟩ := h
    exact ⟨(hk bb h1.lt ⟨_, h2⟩).1.trans h1, (hk bb h1.lt ⟨_, h2⟩).2.trans h2, h3⟩
  | some b =>
    obtain ⟨h1, h2⟩ := h
    exact ⟨(hk bb h1.lt ⟨_, h2.lb⟩).1.trans h1, h2.keep h1.lt hk⟩
theorem EntAt.step {w w' : World} {B pb M C k j : Nat} {lab lab' : Nat → Lab} {e : Ent} (h : EntAt w B lab pb M C j e) (hs : Step B k w.heap.size w lab w' lab') (hj : j ≠ k) : EntAt w' B lab' pb M C j e :=
  h.keep fun g hg ⟨t, ht⟩ => by
    have hm : ¬ Mine k (lab g) := by rw [ht]; exact hj
    exact ⟨hs.mv.block g hg (fun h => h.elim hm (fun h => by omega)), hs.lb g hg hm⟩
section
variable {w : World} {B pb q M C tot k bb : Nat} {es : List Ent} {b : Bs}
theorem all_len (h : All w B pb q M C es tot) (hk : es[k]? = some (bb, some b)) (ht : tot ≤ 500000) :
    Calls Tryz.prog 274 #[.pointer (some ⟨bb, 0, none⟩)] w fun e w' => e = .returned (.int .i64 ((b.all.length - b.gone : Nat) : Int)) ∧ ∃ n, w' = w.drewN n := by
  obtain ⟨lab, S, sp, h⟩ := h
  obtain ⟨hblk, hR⟩ := h.ent k _ hk
  have hlen := h.long k bb b hk
  exact len_ok pb bb b.gone b.all.length b.m b.c w hblk hR.gl (by omega)
theorem all_neg (n : Int) (hn : n < 0) (h : All w B pb q M C es tot) (hk : es[k]? = some (bb, some b)) :
    Calls Tryz.prog 278 #[.pointer (some ⟨bb, 0, none⟩), .int .i64 n] w fun e w' => e = .returned (.tuple #[.string ⟨#[]⟩, .int .i64 1]) ∧ w' = w := by
  obtain ⟨lab, S, sp, h⟩ := h
  obtain ⟨hblk, hR⟩ := h.ent k _ hk
  exact drain_neg b.gone b.all.length b.m b.c n hn hblk
end
end Go.Proofs.YtfofpphnglhopaaGreatDoor
