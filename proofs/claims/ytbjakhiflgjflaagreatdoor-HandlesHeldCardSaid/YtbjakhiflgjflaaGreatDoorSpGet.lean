/-
  get, whatever way: the next bytes go into a block that is nobody's; the pool and the other buffers stand. Conditions: bytes are left; at most a million bytes and chunks; numbers of the size of a pool's.
-/
import Derived.Test.YtbjakhiflgjflaaGreatDoorSpPut
import Derived.Test.YtbjakhiflgjflaaGreatDoorSpGet2
namespace Go.Proofs.YtbjakhiflgjflaaGreatDoor
open Go Go.RowKit

/-- What a get leaves. -/
def GetPost (B pb bb k n0 : Nat) (lab : Nat → Lab) (p : Ps) (sp : List Value) (b : Bs) (og a dl : Nat) (cur : List Value) (w : World) (e : Ending) (w' : World) : Prop :=
  ∃ (N : Nat) (lab' : Nat → Lab) (u : Nat) (S' : Value) (sp' : List Value) (b' : Bs), 0 < N ∧ N ≤ dl ∧ b.gone + N ≤ b.all.length ∧ e = .returned (.int .i64 (N : Int)) ∧ PoolAt w' B lab' pb { p with used := u } S' sp' ∧
    Blk w' bb (bufC pb (b.gone + N) b.all.length b'.m b'.c) 232 ∧ BufR w' B lab' bb k p.mem p.ch b' ∧ b'.all = b.all ∧ b'.gone = b.gone + N ∧
    Blk w' og (cur.take a ++ bc ((b.all.drop b.gone).take N) ++ cur.drop (a + N)) 5 ∧
    Step B k n0 w lab w' lab' ∧ u + b.cs.length = p.used + b'.cs.length ∧ sp'.length + u ≤ sp.length + p.used

section
variable {B pb bb k n0 : Nat} {lab : Nat → Lab} {p : Ps} {S : Value} {sp : List Value} {b : Bs} {og a dl dc : Nat} {cur : List Value} {w : World}

theorem get_step1 (hP : PoolAt w B lab pb p S sp) (hblk : Blk w bb (bufC pb b.gone b.all.length b.m b.c) 232) (hR : BufR w B lab bb k p.mem p.ch b) (hnew : ∀ g, w.heap.size ≤ g → lab g = .free)
    (ho : Blk w og cur 5) (hof : lab og = .free) (hno : n0 ≤ og) (hBo : B ≤ og) (hfit : a + dl ≤ cur.length) (hdl : 0 < dl) (hlt : b.gone < b.all.length) (hC : 0 < p.ch) (hg : b.gone < p.mem) :
    Calls Tryz.prog 280 #[.pointer (some ⟨bb, 0, none⟩), .slice (some ⟨og, a, none⟩) dl dc] w (GetPost B pb bb k n0 lab p sp b og a dl cur w) := by
  have hrow := hR.mm hg
  have hQ : b.Q = p.mem := by
    rcases hR.qg with h | h
    · exact h.2
    · obtain ⟨q, hq⟩ := hR.qq; omega
  have hKl : (b.all.take p.mem).length = min p.mem b.all.length := List.length_take
  refine (get_mem B pb bb b.gone b.all.length og a dl dc (min ((b.all.take p.mem).length - b.gone) dl) (b.all.take p.mem).length p S b.m b.c (b.all.take p.mem) cur w hP.blk hblk (lab_ne hP.lb hR.lb nofun) hR.low rfl hrow (by omega) (by omega) ho hBo
    ⟨lab_ne hof hR.lb nofun, lab_ne hof hP.lb nofun, fun h => lab_ne hof (hR.ml hg og h) nofun rfl⟩ (fun g h => lab_ne (hR.ml hg g h) hR.lb (by simp)) hfit rfl).mono ?_
  rintro e w' ⟨m', he, hbb', hm', ho', hm⟩
  obtain ⟨N, hN⟩ : ∃ N, min ((b.all.take p.mem).length - b.gone) dl = N := ⟨_, rfl⟩
  rw [hN] at he hbb' hm' ho'
  have hN0 : 0 < N := by omega
  have hNd : N ≤ dl := by omega
  have hNl : b.gone + N ≤ b.all.length := by omega
  have hNm : b.gone + N ≤ p.mem := by omega
  have hbytes : ((b.all.take p.mem).drop b.gone).take N = (b.all.drop b.gone).take N := by
    rw [List.drop_take, List.take_take, Nat.min_eq_left (by omega)]
  rw [hbytes] at ho'
  have hbbl : bb < w.heap.size := hblk.lt
  have hst : ∀ g, g < w.heap.size → lab g ≠ .free → lab g ≠ .own k 0 → w'.heap[g]? = w.heap[g]? := fun g hgl hl hl2 => hm.block g hgl fun h => by
    rcases h with h | h
    · rw [h] at hl2; exact hl2 hR.lb
    · rw [h] at hl; exact hl hof
  refine ⟨N, lab, p.used, S, sp, ⟨b.all, b.gone + N, b.Q, m', b.c, b.cs⟩, hN0, hNd, hNl, he, hP.keep (fun g hgl hl => ⟨hst g hgl (by rcases hl with h | h | h <;> simp [h]) (by rcases hl with h | h | h <;> simp [h]), rfl⟩), hbb', ?_, rfl, rfl, ho', ⟨hm.mono fun g _ h => ?_, fun _ _ _ => rfl, fun g hgl => hnew g (Nat.le_trans hm.size hgl)⟩, rfl, Nat.le_refl _⟩
  · exact {
      low := hR.low
      lb := hR.lb
      gl := hNl
      mm := fun hg2 => by
        obtain ⟨e1, e2⟩ := hm' hg2
        show Row w' B _ m' _ _
        rw [e1]
        exact e2
      ml := fun hg2 g h => by
        obtain ⟨e1, e2⟩ := hm' hg2
        have h : m'.ownBlock = some g := h
        rw [e1] at h
        exact hR.ml hg g h
      arr := hR.arr.keep fun g h => hst g (hR.arr.lt h).2.1 (by rw [hR.arl g h]; simp) (by rw [hR.arl g h]; simp)
      arl := hR.arl
      qq := hR.qq
      qg := by
        show b.gone + N < p.mem ∧ b.Q = p.mem ∨ b.Q ≤ b.gone + N ∧ b.gone + N < b.Q + p.ch
        omega
      hi := hR.hi
      lo := hR.lo
      str := fun i u hu => (hR.str i u hu).keep fun g h => hst g ((hR.str i u hu).lt h).2.1 (by rw [hR.stl u (List.mem_of_getElem? hu) g h]; simp) (by rw [hR.stl u (List.mem_of_getElem? hu) g h]; simp)
      stl := hR.stl
      nd := hR.nd }
  · rcases h with h | h
    · exact .inl (by rw [h, hR.lb]; rfl)
    · exact .inr (by omega)

theorem get_step2 (hP : PoolAt w B lab pb p S sp) (hblk : Blk w bb (bufC pb b.gone b.all.length b.m b.c) 232) (hR : BufR w B lab bb k p.mem p.ch b) (hnew : ∀ g, w.heap.size ≤ g → lab g = .free)
    (ho : Blk w og cur 5) (hof : lab og = .free) (hno : n0 ≤ og) (hBo : B ≤ og) (hfit : a + dl ≤ cur.length) (hdl : 0 < dl) (hlt : b.gone < b.all.length) (hmem : p.mem ≤ 65536) (hch : 0 < p.ch ∧ p.ch ≤ 65536) (hg : p.mem ≤ b.gone)
    (hlen : b.all.length ≤ 1000000) (hu : b.cs.length ≤ p.used) (hfew : sp.length + p.used ≤ 1000000) :
    Calls Tryz.prog 280 #[.pointer (some ⟨bb, 0, none⟩), .slice (some ⟨og, a, none⟩) dl dc] w (GetPost B pb bb k n0 lab p sp b og a dl cur w) := by
  obtain ⟨q, hq⟩ := hR.qq
  obtain ⟨hQg, hgQ⟩ : b.Q ≤ b.gone ∧ b.gone < b.Q + p.ch := by
    rcases hR.qg with h | h
    · omega
    · exact h
  have hov := over_of (D := b.gone - p.mem) hq hQg rfl
  rw [Nat.mod_eq_of_lt (show b.gone - b.Q < p.ch by omega)] at hov
  rcases hcs : b.cs with _ | ⟨v, rest⟩
  · have := hR.hi
    rw [hcs, List.length_nil, Nat.zero_mul] at this
    omega
  have hL : b.cs.length = rest.length + 1 := by rw [hcs]; rfl
  have hhi := hR.hi
  rw [hL, Nat.add_mul, Nat.one_mul] at hhi
  have hbl : (chunkB b.all b.Q p.ch 0).length = min p.ch (b.all.length - b.Q) := by rw [chunkB_len, Nat.zero_mul, Nat.add_zero]
  have hvm : v ∈ b.cs := by rw [hcs]; simp
  have hvr := hR.str 0 v (by rw [hcs]; rfl)
  have harr := hR.arr
  rw [hcs] at harr
  have hnd := hR.nd
  rw [hcs] at hnd
  obtain ⟨hnd1, hnd2⟩ := nd_head hnd
  have hbbl : bb < w.heap.size := hblk.lt
  obtain ⟨N, hN⟩ : ∃ N, min ((chunkB b.all b.Q p.ch 0).length - (b.gone - b.Q)) dl = N := ⟨_, rfl⟩
  have hN0 : 0 < N := by omega
  have hNd : N ≤ dl := by omega
  have hNl : b.gone + N ≤ b.all.length := by omega
  have hNC : b.gone - b.Q + N ≤ p.ch := by omega
  have hov2 := over_of (D := b.gone + N - p.mem) (len := b.gone + N) hq (by omega) rfl
  have hbytes : ((chunkB b.all b.Q p.ch 0).drop (b.gone - b.Q)).take N = (b.all.drop b.gone).take N := by
    unfold chunkB
    rw [Nat.zero_mul, Nat.add_zero, List.drop_take, List.take_take, List.drop_drop, Nat.min_eq_left (by omega), show b.Q + (b.gone - b.Q) = b.gone by omega]
  have hrl : ∀ u ∈ rest, ∀ g, u.ownBlock = some g → g < w.heap.size ∧ lab g = .own k 3 := fun u hu g hg => by
    have hum : u ∈ b.cs := by rw [hcs]; exact List.mem_cons_of_mem _ hu
    obtain ⟨i, hi⟩ := List.getElem?_of_mem hum
    exact ⟨((hR.str i u hi).lt hg).2.1, hR.stl u hum g hg⟩
  by_cases hfull : b.gone - b.Q + N = p.ch
  · have hrem2 : ((b.gone + N - p.mem : Nat) : Int).tmod (p.ch : Int) = 0 := by
      rw [tmod_nat, hov2, show b.gone + N - b.Q = p.ch by omega, Nat.mod_self]; rfl
    refine (get_chunk_go B pb bb b.gone b.all.length og a dl dc N (chunkB b.all b.Q p.ch 0).length rest.length (b.gone - b.Q) (b.gone - p.mem) (b.gone + N - p.mem) p S b.m b.c v rest sp (chunkB b.all b.Q p.ch 0) cur w hP.blk hblk (lab_ne hP.lb hR.lb nofun) hR.low hP.low hP.arr
      (fun g h => ⟨lab_ne (hP.arl g h) hR.lb nofun, lab_ne (hP.arl g h) hP.lb nofun, lab_ne (hP.arl g h) hof nofun, fun h2 => lab_ne (hP.arl g h) (hR.arl g h2) nofun rfl⟩) (by omega) (by omega) (by omega) harr
      (fun g h => ⟨lab_ne (hR.arl g h) hR.lb (by simp), lab_ne (hR.arl g h) hP.lb nofun, lab_ne (hR.arl g h) hof nofun⟩) rfl hvr (by omega) hch.1 ⟨hmem, hch.2⟩ (by omega) (by omega) (by rw [tmod_nat, hov]) (by omega) hrem2
      ho hBo ⟨lab_ne hof hR.lb nofun, lab_ne hof hP.lb nofun, fun h => lab_ne hof (hR.stl v hvm og h) nofun rfl⟩ hfit hN.symm).mono ?_
    rintro e w' ⟨S', c', he, hbb', hc', hco, hp', hS', hSo, ho', hm⟩
    rw [hbytes] at ho'
    have hvl : ∀ g, v.ownBlock = some g → g < w.heap.size ∧ lab g = .own k 3 := fun g hg => ⟨(hvr.lt hg).2.1, hR.stl v hvm g hg⟩
    have hSl : ∀ g, S'.ownBlock = some g → (lab g = .sparr ∧ S.ownBlock = some g) ∨ w.heap.size ≤ g := fun g hg => by
      rcases hSo with h | ⟨g', h, h2⟩
      · exact .inl ⟨hP.arl g (h ▸ hg), h ▸ hg⟩
      · rw [h] at hg; cases hg; exact .inr h2
    have hSv : ∀ g, v.ownBlock = some g → S'.ownBlock ≠ some g := fun g hg h => by
      have := hvl g hg
      rcases hSl g h with h2 | h2
      · rw [this.2] at h2; cases h2.1
      · omega
    have hlab : ∀ g, g < w.heap.size → v.ownBlock ≠ some g → relab (relab lab v .spare) S' .sparr g = lab g := by
      intro g hgl hns
      by_cases h : S'.ownBlock = some g
      · rw [relab_of h]
        rcases hSl g h with h2 | h2
        · exact h2.1.symm
        · omega
      · rw [relab_ne h, relab_ne hns]
    have hlabv : ∀ g, v.ownBlock = some g → relab (relab lab v .spare) S' .sparr g = .spare := fun g hg => (relab_ne (hSv g hg)).trans (relab_of hg)
    have hnv : ∀ g, lab g ≠ .own k 3 → v.ownBlock ≠ some g := fun g h hg => h (hvl g hg).2
    have hst : ∀ g, g < w.heap.size → (lab g = .spare ∨ lab g = .own k 3) → w'.heap[g]? = w.heap[g]? := fun g hgl hl => hm.block g hgl fun h => by
      rcases h with h | h | h | h
      · rw [h, hP.lb] at hl; simp at hl
      · rw [h, hR.lb] at hl; simp at hl
      · rw [h, hof] at hl; simp at hl
      · rw [hP.arl g h] at hl; simp at hl
    refine ⟨N, relab (relab lab v .spare) S' .sparr, p.used - 1, S', sp ++ [v], ⟨b.all, b.gone + N, b.Q + p.ch, b.m, c', rest⟩, hN0, hNd, hNl, he, ?_, hbb', ?_, rfl, rfl, ho', ⟨hm.mono fun g _ h => ?_, fun g hgl hmi => hlab g hgl (hnv g fun h => hmi (by rw [h]; rfl)), fun g hgl => ?_⟩, ?_, ?_⟩
    · exact {
        blk := hp'
        low := hP.low
        lb := (hlab pb hP.blk.lt (hnv pb (by rw [hP.lb]; simp))).trans hP.lb
        arr := hS'
        arl := fun g hg => relab_of hg
        str := fun u hu => by
          rcases List.mem_append.1 hu with h | h
          · obtain ⟨bs, hb⟩ := hP.str u h
            exact ⟨bs, hb.keep fun g hg => hst g (hb.lt hg).2.1 (.inl (hP.stl u h g hg))⟩
          · obtain rfl := List.mem_singleton.1 h
            exact ⟨_, hvr.keep fun g hg => hst g (hvl g hg).1 (.inr (hvl g hg).2)⟩
        stl := fun u hu g hg => by
          rcases List.mem_append.1 hu with h | h
          · obtain ⟨bs, hb⟩ := hP.str u h
            exact (hlab g (hb.lt hg).2.1 (hnv g (by rw [hP.stl u h g hg]; simp))).trans (hP.stl u h g hg)
          · obtain rfl := List.mem_singleton.1 h
            exact hlabv g hg
        nd := nd_snoc hP.nd fun u hu g hg h => by
          have h2 := hP.stl u hu g hg
          rw [(hvl g h).2] at h2
          cases h2 }
    · exact {
        low := hR.low
        lb := (hlab bb hbbl (hnv bb (by rw [hR.lb]; simp))).trans hR.lb
        gl := hNl
        mm := fun hg2 => absurd hg2 (by show ¬ b.gone + N < p.mem; omega)
        ml := fun hg2 => absurd hg2 (by show ¬ b.gone + N < p.mem; omega)
        arr := hc'
        arl := fun g hg => by
          have hg : c'.ownBlock = some g := hg
          rw [hco] at hg
          exact (hlab g (hR.arr.lt hg).2.1 (hnv g (by rw [hR.arl g hg]; simp))).trans (hR.arl g hg)
        qq := ⟨q + 1, by show b.Q + p.ch = _; rw [Nat.add_mul, Nat.one_mul]; omega⟩
        qg := .inr (by show b.Q + p.ch ≤ b.gone + N ∧ b.gone + N < b.Q + p.ch + p.ch; omega)
        hi := by show b.all.length - (b.Q + p.ch) ≤ rest.length * p.ch; omega
        lo := fun i hi => by
          have hi : i < rest.length := hi
          have := hR.lo (i + 1) (by omega)
          rw [Nat.add_mul, Nat.one_mul] at this
          show b.Q + p.ch + i * p.ch < b.all.length
          omega
        str := fun i u hu => by
          have hu : rest[i]? = some u := hu
          have hu2 : b.cs[i + 1]? = some u := by rw [hcs]; exact hu
          have e : chunkB b.all (b.Q + p.ch) p.ch i = chunkB b.all b.Q p.ch (i + 1) := by
            unfold chunkB
            rw [Nat.add_mul, Nat.one_mul, show b.Q + p.ch + i * p.ch = b.Q + (i * p.ch + p.ch) by omega]
          show Row w' B _ u (chunkB b.all (b.Q + p.ch) p.ch i).length (bc (chunkB b.all (b.Q + p.ch) p.ch i))
          rw [e]
          exact (hR.str (i + 1) u hu2).keep fun g hg => hst g ((hR.str (i + 1) u hu2).lt hg).2.1 (.inr (hR.stl u (List.mem_of_getElem? hu2) g hg))
        stl := fun u hu g hg => (hlab g (hrl u hu g hg).1 (hnd2 u hu g hg)).trans (hrl u hu g hg).2
        nd := hnd1 }
    · rcases h with h | h | h | h
      · exact .inl (by rw [h, hP.lb]; trivial)
      · exact .inl (by rw [h, hR.lb]; rfl)
      · exact .inr (by omega)
      · exact .inl (by rw [hP.arl g h]; trivial)
    · have h1 : v.ownBlock ≠ some g := fun h => by
        have := (hvl g h).1
        have := hm.size
        omega
      have h2 : S'.ownBlock ≠ some g := fun h => by
        have := (hS'.lt h).2.1
        omega
      rw [relab_ne h2, relab_ne h1]
      exact hnew g (Nat.le_trans hm.size hgl)
    · show p.used - 1 + b.cs.length = p.used + rest.length
      omega
    · rw [List.length_append, List.length_singleton]
      omega
  · have hrem2 : ((b.gone + N - p.mem : Nat) : Int).tmod (p.ch : Int) = ((b.gone - b.Q + N : Nat) : Int) := by
      rw [tmod_nat, hov2, show b.gone + N - b.Q = b.gone - b.Q + N by omega, Nat.mod_eq_of_lt (by omega)]
    refine (get_chunk_stay B pb bb b.gone b.all.length og a dl dc N (chunkB b.all b.Q p.ch 0).length rest.length (b.gone - b.Q) (b.gone - b.Q + N) (b.gone - p.mem) (b.gone + N - p.mem) p S b.m b.c v rest (chunkB b.all b.Q p.ch 0) cur w hP.blk hblk (lab_ne hP.lb hR.lb nofun) hR.low harr
      (fun g h => ⟨lab_ne (hR.arl g h) hR.lb (by simp), lab_ne (hR.arl g h) hP.lb nofun, lab_ne (hR.arl g h) hof nofun⟩) rfl hvr (by omega) hch.1 ⟨hmem, hch.2⟩ (by omega) (by omega) (by rw [tmod_nat, hov]) (by omega) hrem2 (by omega)
      ho hBo ⟨lab_ne hof hR.lb nofun, lab_ne hof hP.lb nofun, fun h => lab_ne hof (hR.stl v hvm og h) nofun rfl⟩ hfit hN.symm).mono ?_
    rintro e w' ⟨he, hbb', ho', hm⟩
    rw [hbytes] at ho'
    have hst : ∀ g, g < w.heap.size → lab g ≠ .free → lab g ≠ .own k 0 → w'.heap[g]? = w.heap[g]? := fun g hgl hl hl2 => hm.block g hgl fun h => by
      rcases h with h | h
      · rw [h] at hl2; exact hl2 hR.lb
      · rw [h] at hl; exact hl hof
    refine ⟨N, lab, p.used, S, sp, ⟨b.all, b.gone + N, b.Q, b.m, b.c, b.cs⟩, hN0, hNd, hNl, he, hP.keep (fun g hgl hl => ⟨hst g hgl (by rcases hl with h | h | h <;> simp [h]) (by rcases hl with h | h | h <;> simp [h]), rfl⟩), hbb', ?_, rfl, rfl, ho', ⟨hm.mono fun g _ h => ?_, fun _ _ _ => rfl, fun g hgl => hnew g (Nat.le_trans hm.size hgl)⟩, rfl, Nat.le_refl _⟩
    · exact {
        low := hR.low
        lb := hR.lb
        gl := hNl
        mm := fun hg2 => absurd hg2 (by show ¬ b.gone + N < p.mem; omega)
        ml := fun hg2 => absurd hg2 (by show ¬ b.gone + N < p.mem; omega)
        arr := hR.arr.keep fun g h => hst g (hR.arr.lt h).2.1 (by rw [hR.arl g h]; simp) (by rw [hR.arl g h]; simp)
        arl := hR.arl
        qq := hR.qq
        qg := by
          show b.gone + N < p.mem ∧ b.Q = p.mem ∨ b.Q ≤ b.gone + N ∧ b.gone + N < b.Q + p.ch
          omega
        hi := hR.hi
        lo := hR.lo
        str := fun i u hu => (hR.str i u hu).keep fun g h => hst g ((hR.str i u hu).lt h).2.1 (by rw [hR.stl u (List.mem_of_getElem? hu) g h]; simp) (by rw [hR.stl u (List.mem_of_getElem? hu) g h]; simp)
        stl := hR.stl
        nd := hR.nd }
    · rcases h with h | h
      · exact .inl (by rw [h, hR.lb]; rfl)
      · exact .inr (by omega)

/-- get, all ways. -/
theorem get_step (hP : PoolAt w B lab pb p S sp) (hblk : Blk w bb (bufC pb b.gone b.all.length b.m b.c) 232) (hR : BufR w B lab bb k p.mem p.ch b) (hnew : ∀ g, w.heap.size ≤ g → lab g = .free)
    (ho : Blk w og cur 5) (hof : lab og = .free) (hno : n0 ≤ og) (hBo : B ≤ og) (hfit : a + dl ≤ cur.length) (hdl : 0 < dl) (hlt : b.gone < b.all.length) (hmem : p.mem ≤ 65536) (hch : 0 < p.ch ∧ p.ch ≤ 65536)
    (hlen : b.all.length ≤ 1000000) (hu : b.cs.length ≤ p.used) (hfew : sp.length + p.used ≤ 1000000) :
    Calls Tryz.prog 280 #[.pointer (some ⟨bb, 0, none⟩), .slice (some ⟨og, a, none⟩) dl dc] w (GetPost B pb bb k n0 lab p sp b og a dl cur w) := by
  by_cases hg : b.gone < p.mem
  · exact get_step1 hP hblk hR hnew ho hof hno hBo hfit hdl hlt hch.1 hg
  · exact get_step2 hP hblk hR hnew ho hof hno hBo hfit hdl hlt hmem hch (by omega) hlen hu hfew
end
end Go.Proofs.YtbjakhiflgjflaaGreatDoor
