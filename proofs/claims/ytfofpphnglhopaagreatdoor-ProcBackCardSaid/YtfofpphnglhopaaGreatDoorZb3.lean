/-
  A part. Conditions: each theorem's own.
-/
import Derived.Test.YtfofpphnglhopaaGreatDoorZb1
import Derived.Test.YtfofpphnglhopaaGreatDoorZb2
set_option maxHeartbeats 8000000
set_option maxRecDepth 100000
namespace Go.Proofs.YtfofpphnglhopaaGreatDoor
open Go Go.RowKit
theorem lab_ne {lab : Nat → Lab} {a b : Nat} {x y : Lab} (ha : lab a = x) (hb : lab b = y) (h : x ≠ y) : a ≠ b := fun e => h (by rw [← ha, ← hb, e])
theorem nd_last {init : List Value} {v : Value} (h : ((init ++ [v]).filterMap Value.ownBlock).Nodup) : (init.filterMap Value.ownBlock).Nodup ∧ ∀ u ∈ init, ∀ g, u.ownBlock = some g → v.ownBlock ≠ some g := by
  rw [List.filterMap_append, List.nodup_append] at h
  refine ⟨h.1, fun u hu g hg hv => ?_⟩
  exact h.2.2 g (List.mem_filterMap.2 ⟨u, hu, hg⟩) g (List.mem_filterMap.2 ⟨v, by simp, hv⟩) rfl
theorem nd_app {a b : List Value} (ha : (a.filterMap Value.ownBlock).Nodup) (hb : (b.filterMap Value.ownBlock).Nodup) (h : ∀ u ∈ a, ∀ g, u.ownBlock = some g → ∀ v ∈ b, v.ownBlock ≠ some g) : ((a ++ b).filterMap Value.ownBlock).Nodup := by
  rw [List.filterMap_append, List.nodup_append]
  refine ⟨ha, hb, fun x hx y hy e => ?_⟩
  subst e
  obtain ⟨u, hu, h1⟩ := List.mem_filterMap.1 hx
  obtain ⟨v, hv, h2⟩ := List.mem_filterMap.1 hy
  exact h u hu x h1 v hv h2
theorem nd_one (v : Value) : ([v].filterMap Value.ownBlock).Nodup := by
  cases h : v.ownBlock <;> simp [h]
theorem nd_snoc {init : List Value} {v : Value} (h : (init.filterMap Value.ownBlock).Nodup) (hv : ∀ u ∈ init, ∀ g, u.ownBlock = some g → v.ownBlock ≠ some g) : ((init ++ [v]).filterMap Value.ownBlock).Nodup :=
  nd_app h (nd_one v) fun u hu g hg x hx => by
    obtain rfl := List.mem_singleton.1 hx
    exact hv u hu g hg
theorem nd_head {rest : List Value} {v : Value} (h : ((v :: rest).filterMap Value.ownBlock).Nodup) : (rest.filterMap Value.ownBlock).Nodup ∧ ∀ u ∈ rest, ∀ g, u.ownBlock = some g → v.ownBlock ≠ some g := by
  have h2 : (([v] ++ rest).filterMap Value.ownBlock).Nodup := h
  rw [List.filterMap_append, List.nodup_append] at h2
  refine ⟨h2.2.1, fun u hu g hg hv => ?_⟩
  exact h2.2.2 g (List.mem_filterMap.2 ⟨v, by simp, hv⟩) g (List.mem_filterMap.2 ⟨u, hu, hg⟩) rfl
theorem Step.more {B k n0 n1 : Nat} {w w' : World} {lab lab' : Nat → Lab} (h : Step B k n0 w lab w' lab') (hn : n1 ≤ n0) : Step B k n1 w lab w' lab' :=
  ⟨h.mv.mono fun _ _ hg => hg.imp id fun h => by omega, h.lb, h.new⟩
def PutPost (B pb bb k : Nat) (lab : Nat → Lab) (p : Ps) (sp : List Value) (b : Bs) (data : ByteArray) (w : World) (e : Ending) (w' : World) : Prop :=
  ∃ (n : Nat) (lab' : Nat → Lab) (u : Nat) (S' : Value) (sp' : List Value) (b' : Bs), 0 < n ∧ n ≤ data.size ∧ e = .returned (.int .i64 (n : Int)) ∧ PoolAt w' B lab' pb { p with used := u } S' sp' ∧
    Blk w' bb (bufC pb b.gone b.all.length b'.m b'.c) 232 ∧ BufR w' B lab' bb k p.mem p.ch b' ∧ b'.all = b.all ++ (tl data).take n ∧ b'.gone = b.gone ∧
    Step B k w.heap.size w lab w' lab' ∧ u + b.cs.length = p.used + b'.cs.length ∧ sp'.length + u ≤ sp.length + p.used + 1
section
variable {B pb bb k : Nat} {lab : Nat → Lab} {p : Ps} {S : Value} {sp : List Value} {b : Bs} {data : ByteArray} {w : World}
theorem put_step1 (hP : PoolAt w B lab pb p S sp) (hblk : Blk w bb (bufC pb b.gone b.all.length b.m b.c) 232) (hR : BufR w B lab bb k p.mem p.ch b) (hnew : ∀ g, w.heap.size ≤ g → lab g = .free) (hB : B ≤ w.heap.size)
    (hd : 0 < data.size) (hds : data.size ≤ 1000000) (hlt : b.all.length < p.mem) (hmem : p.mem ≤ 65536) :
    Calls Tryz.prog 283 #[.pointer (some ⟨bb, 0, none⟩), .string data] w (PutPost B pb bb k lab p sp b data w) := by
  have hg : b.gone < p.mem := Nat.lt_of_le_of_lt hR.gl hlt
  have hall : b.all.take p.mem = b.all := List.take_of_length_le (by omega)
  have hrow := hR.mm hg
  rw [hall] at hrow
  have hcs : b.cs = [] := by
    refine List.eq_nil_of_length_eq_zero (Nat.eq_zero_of_not_pos fun h => ?_)
    have := hR.lo 0 h
    obtain ⟨q, hq⟩ := hR.qq
    omega
  have hQ : b.Q = p.mem := by
    rcases hR.qg with h | h
    · exact h.2
    · obtain ⟨q, hq⟩ := hR.qq; omega
  refine (put_mem B pb bb b.gone b.all.length p S b.m b.c b.all data w hP.blk hblk (lab_ne hP.lb hR.lb nofun) hR.low hB rfl hrow (fun g h => ⟨lab_ne (hR.ml hg g h) hR.lb (by simp), lab_ne (hR.ml hg g h) hP.lb nofun⟩) hd hlt hmem (by omega)).mono ?_
  rintro e w' ⟨n, m', hn, he, hb', hr', hm, how, hne'⟩
  have hn0 : 0 < n := by omega
  have hnd : n ≤ data.size := by omega
  have hlab : ∀ g, g < w.heap.size → relab lab m' (.own k 1) g = lab g := by
    intro g hgl
    by_cases h : m'.ownBlock = some g
    · rw [relab_of h]
      rcases how with h2 | h2
      · exact (hR.ml hg g (h2 ▸ h)).symm
      · rw [h2] at h; cases h; omega
    · exact relab_ne h
  have hxl : ((tl data).take n).length = n := by rw [List.length_take, tl_len]; omega
  have hal : (b.all ++ (tl data).take n).length = b.all.length + n := by rw [List.length_append, hxl]
  have htk : (b.all ++ (tl data).take n).take p.mem = b.all ++ (tl data).take n := List.take_of_length_le (by omega)
  have hbl : bb < w.heap.size := hblk.lt
  have hst : ∀ g, g < w.heap.size → (lab g = .pool ∨ lab g = .sparr ∨ lab g = .spare ∨ lab g = .own k 2) → w'.heap[g]? = w.heap[g]? := fun g hgl hl => hm.block g hgl fun h => by
    rcases h with h | h
    · rw [h, hR.lb] at hl
      simp at hl
    · rw [hR.ml hg g h] at hl
      simp at hl
  refine ⟨n, relab lab m' (.own k 1), p.used, S, sp, ⟨b.all ++ (tl data).take n, b.gone, b.Q, m', b.c, b.cs⟩, hn0, hnd, he, hP.keep (fun g hgl hl => ⟨hst g hgl (by rcases hl with h | h | h <;> simp [h]), hlab g hgl⟩), hb', ?_, rfl, rfl, ⟨hm.mono fun g _ h => .inl ?_, fun g hgl _ => hlab g hgl, fun g hgl => ?_⟩, rfl, Nat.le_succ _⟩
  · exact {
      low := hR.low
      lb := (hlab bb hbl).trans hR.lb
      gl := by show b.gone ≤ (b.all ++ (tl data).take n).length; have := hR.gl; omega
      mm := fun _ => by show Row w' B _ m' ((b.all ++ (tl data).take n).take p.mem).length (bc ((b.all ++ (tl data).take n).take p.mem)); rw [htk]; exact hr'
      ml := fun _ g h => relab_of h
      arr := hR.arr.keep fun g h => hst g (hR.arr.lt h).2.1 (.inr (.inr (.inr (hR.arl g h))))
      arl := fun g h => (hlab g (hR.arr.lt h).2.1).trans (hR.arl g h)
      qq := hR.qq
      qg := hR.qg
      hi := by show (b.all ++ (tl data).take n).length - b.Q ≤ _; rw [hal]; omega
      lo := fun i hi => by simp [hcs] at hi
      str := fun i v hv => by simp [hcs] at hv
      stl := fun v hv => by simp [hcs] at hv
      nd := by simp [hcs] }
  · rcases h with h | h
    · rw [h, hR.lb]; rfl
    · rw [hR.ml hg g h]; rfl
  · have h1 : m'.ownBlock ≠ some g := fun h => by
      have := (hr'.lt h).2.1
      omega
    rw [relab_ne h1]
    exact hnew g (Nat.le_trans hm.size hgl)
theorem put_step3 (hP : PoolAt w B lab pb p S sp) (hblk : Blk w bb (bufC pb b.gone b.all.length b.m b.c) 232) (hR : BufR w B lab bb k p.mem p.ch b) (hnew : ∀ g, w.heap.size ≤ g → lab g = .free) (hB : B ≤ w.heap.size)
    (hd : 0 < data.size) (hds : data.size ≤ 1000000) (hlen : b.all.length ≤ 1000000) (hge : p.mem ≤ b.all.length) (hch : 0 < p.ch ∧ p.ch ≤ 65536) (hmod : 0 < (b.all.length - p.mem) % p.ch) :
    Calls Tryz.prog 283 #[.pointer (some ⟨bb, 0, none⟩), .string data] w (PutPost B pb bb k lab p sp b data w) := by
  obtain ⟨q, hq⟩ := hR.qq
  have hQl : b.Q ≤ b.all.length := by
    have := hR.gl
    rcases hR.qg with h | h <;> omega
  have hov := over_of (D := b.all.length - p.mem) hq hQl rfl
  rcases List.eq_nil_or_concat b.cs with hnil | ⟨init, v, hcs⟩
  · have := hR.hi
    rw [hnil, List.length_nil, Nat.zero_mul] at this
    rw [hov, show b.all.length - b.Q = 0 by omega, Nat.zero_mod] at hmod
    omega
  rw [List.concat_eq_append] at hcs
  have hL : b.cs.length = init.length + 1 := by rw [hcs, List.length_append]; rfl
  have hlo := hR.lo init.length (by omega)
  have hhi := hR.hi
  rw [hL, Nat.add_mul, Nat.one_mul] at hhi
  have hlt : b.all.length - (b.Q + init.length * p.ch) < p.ch := by
    refine Classical.byContradiction fun h => ?_
    have e : b.all.length - b.Q = init.length * p.ch + p.ch := by omega
    rw [hov, e, Nat.add_mod_right, Nat.mul_mod_left] at hmod
    omega
  have hbl : (chunkB b.all b.Q p.ch init.length).length = b.all.length - (b.Q + init.length * p.ch) := by rw [chunkB_len]; omega
  have hvi : b.cs[init.length]? = some v := by rw [hcs]; simp
  have hvm : v ∈ b.cs := List.mem_of_getElem? hvi
  have hvr := hR.str _ v hvi
  have harr := hR.arr
  rw [hcs, List.length_append] at harr
  have hnd := hR.nd
  rw [hcs] at hnd
  obtain ⟨hnd1, hnd2⟩ := nd_last hnd
  refine (put_last B pb bb b.gone b.all.length ((b.all.length - p.mem) % p.ch) (b.all.length - p.mem) p S b.m b.c v init (chunkB b.all b.Q p.ch init.length) data w hP.blk hblk hB harr
    (fun g h => ⟨lab_ne (hR.arl g h) hR.lb (by simp), lab_ne (hR.arl g h) hP.lb nofun, fun h2 => lab_ne (hR.arl g h) (hR.stl v hvm g h2) (by simp) rfl⟩) hvr (fun g h => ⟨lab_ne (hR.stl v hvm g h) hR.lb (by simp), lab_ne (hR.stl v hvm g h) hP.lb nofun⟩)
    hd (by omega) (by omega) hch.2 (by omega) (by omega) (tmod_nat _ _) hmod).mono ?_
  rintro e w' ⟨n, v', hn, he, hrow, hr', hm, how⟩
  have hn0 : 0 < n := by omega
  have hndd : n ≤ data.size := by omega
  have hlab : ∀ g, g < w.heap.size → relab lab v' (.own k 3) g = lab g := by
    intro g hgl
    by_cases h : v'.ownBlock = some g
    · rw [relab_of h]
      rcases how with h2 | h2
      · exact (hR.stl v hvm g (h2 ▸ h)).symm
      · rw [h2] at h; cases h; omega
    · exact relab_ne h
  have hxl : ((tl data).take n).length = n := by rw [List.length_take, tl_len]; omega
  have hal : (b.all ++ (tl data).take n).length = b.all.length + n := by rw [List.length_append, hxl]
  have hbbl : bb < w.heap.size := hblk.lt
  have hst : ∀ g, g < w.heap.size → (lab g = .pool ∨ lab g = .sparr ∨ lab g = .spare ∨ lab g = .own k 0 ∨ lab g = .own k 1) → w'.heap[g]? = w.heap[g]? := fun g hgl hl => hm.block g hgl fun h => by
    rcases h with h | h
    · rw [hR.arl g h] at hl
      simp at hl
    · rw [hR.stl v hvm g h] at hl
      simp at hl
  refine ⟨n, relab lab v' (.own k 3), p.used, S, sp, ⟨b.all ++ (tl data).take n, b.gone, b.Q, b.m, b.c, init ++ [v']⟩, hn0, hndd, he, hP.keep (fun g hgl hl => ⟨hst g hgl (by rcases hl with h | h | h <;> simp [h]), hlab g hgl⟩), ?_, ?_, rfl, rfl, ⟨hm.mono fun g _ h => .inl ?_, fun g hgl _ => hlab g hgl, fun g hgl => ?_⟩, ?_, Nat.le_succ _⟩
  · exact (hst bb hbbl (.inr (.inr (.inr (.inl hR.lb))))).trans hblk
  · exact {
      low := hR.low
      lb := (hlab bb hbbl).trans hR.lb
      gl := by show b.gone ≤ (b.all ++ (tl data).take n).length; have := hR.gl; omega
      mm := fun hg => by
        have hg : b.gone < p.mem := hg
        show Row w' B _ b.m ((b.all ++ (tl data).take n).take p.mem).length (bc ((b.all ++ (tl data).take n).take p.mem))
        rw [List.take_append_of_le_length hge]
        exact (hR.mm hg).keep fun g h => hst g ((hR.mm hg).lt h).2.1 (.inr (.inr (.inr (.inr (hR.ml hg g h)))))
      ml := fun hg g h => (hlab g ((hR.mm hg).lt h).2.1).trans (hR.ml hg g h)
      arr := by show Row w' B _ b.c (init ++ [v']).length (init ++ [v']); rw [List.length_append]; exact hrow
      arl := fun g h => (hlab g (hR.arr.lt h).2.1).trans (hR.arl g h)
      qq := hR.qq
      qg := hR.qg
      hi := by
        show (b.all ++ (tl data).take n).length - b.Q ≤ (init ++ [v']).length * p.ch
        rw [hal, List.length_append, List.length_singleton, Nat.add_mul, Nat.one_mul]
        omega
      lo := fun i hi => by
        have hi : i < (init ++ [v']).length := hi
        show b.Q + i * p.ch < (b.all ++ (tl data).take n).length
        rw [List.length_append, List.length_singleton] at hi
        have := Nat.mul_le_mul_right p.ch (show i ≤ init.length by omega)
        omega
      str := fun i u hu => by
        have hu : (init ++ [v'])[i]? = some u := hu
        show Row w' B _ u (chunkB (b.all ++ (tl data).take n) b.Q p.ch i).length (bc (chunkB (b.all ++ (tl data).take n) b.Q p.ch i))
        rcases Nat.lt_trichotomy i init.length with h | h | h
        · rw [List.getElem?_append_left h] at hu
          have hu2 : b.cs[i]? = some u := by rw [hcs, List.getElem?_append_left h]; exact hu
          have hum := List.mem_of_getElem? hu
          have := mul_step p.ch h
          rw [chunkB_left (by omega)]
          refine (hR.str i u hu2).keep fun g hg => hm.block g ((hR.str i u hu2).lt hg).2.1 fun h => ?_
          rcases h with h | h
          · exact lab_ne (hR.arl g h) (hR.stl u (List.mem_of_getElem? hu2) g hg) (by simp) rfl
          · exact hnd2 u hum g hg h
        · subst h
          rw [List.getElem?_append_right (Nat.le_refl _), Nat.sub_self] at hu
          obtain rfl : v' = u := by simpa using hu
          rw [chunkB_right (by omega) (by omega)]
          exact hr'
        · rw [List.getElem?_eq_none (by rw [List.length_append, List.length_singleton]; omega)] at hu
          cases hu
      stl := fun u hu g hg => by
        have hu : u ∈ init ++ [v'] := hu
        rcases List.mem_append.1 hu with h | h
        · have hum : u ∈ b.cs := by rw [hcs]; exact List.mem_append_left _ h
          obtain ⟨i, hi⟩ := List.getElem?_of_mem hum
          exact (hlab g ((hR.str i u hi).lt hg).2.1).trans (hR.stl u hum g hg)
        · obtain rfl := List.mem_singleton.1 h
          exact relab_of hg
      nd := nd_snoc hnd1 fun u hu g hg hv' => by
        have hum : u ∈ b.cs := by rw [hcs]; exact List.mem_append_left _ hu
        obtain ⟨i, hi⟩ := List.getElem?_of_mem hum
        rcases how with h | h
        · exact hnd2 u hu g hg (h ▸ hv')
        · rw [h] at hv'
          cases hv'
          exact absurd ((hR.str i u hi).lt hg).2.1 (Nat.lt_irrefl _) }
  · rcases h with h | h
    · rw [hR.arl g h]; rfl
    · rw [hR.stl v hvm g h]; rfl
  · have h1 : v'.ownBlock ≠ some g := fun h => by
      have := (hr'.lt h).2.1
      omega
    rw [relab_ne h1]
    exact hnew g (Nat.le_trans hm.size hgl)
  · show p.used + b.cs.length = p.used + (init ++ [v']).length
    rw [hL, List.length_append]; rfl
theorem put_step2 (hP : PoolAt w B lab pb p S sp) (hblk : Blk w bb (bufC pb b.gone b.all.length b.m b.c) 232) (hR : BufR w B lab bb k p.mem p.ch b) (hnew : ∀ g, w.heap.size ≤ g → lab g = .free)
    (hd : 0 < data.size) (hds : data.size ≤ 1000000) (hlen : b.all.length ≤ 1000000) (hge : p.mem ≤ b.all.length) (hch : 0 < p.ch ∧ p.ch ≤ 65536) (hmod : (b.all.length - p.mem) % p.ch = 0) (hfew : sp.length + p.used ≤ 1000000) (hfew2 : b.cs.length ≤ 1000000) :
    Calls Tryz.prog 283 #[.pointer (some ⟨bb, 0, none⟩), .string data] w (PutPost B pb bb k lab p sp b data w) := by
  obtain ⟨q, hq⟩ := hR.qq
  have hQl : b.Q ≤ b.all.length := by
    have := hR.gl
    rcases hR.qg with h | h <;> omega
  have hov := over_of (D := b.all.length - p.mem) hq hQl rfl
  rw [hov] at hmod
  have hfull : b.all.length = b.Q + b.cs.length * p.ch := by
    have hhi := hR.hi
    rcases Nat.eq_zero_or_pos b.cs.length with h0 | h0
    · rw [h0] at hhi ⊢
      omega
    · obtain ⟨I, hI⟩ : ∃ I, b.cs.length = I + 1 := ⟨b.cs.length - 1, by omega⟩
      have hlo := hR.lo I (by omega)
      rw [hI, Nat.add_mul, Nat.one_mul] at hhi ⊢
      refine Classical.byContradiction fun h => ?_
      have e : b.all.length - b.Q = (b.all.length - b.Q - I * p.ch) + I * p.ch := by omega
      rw [e, Nat.add_mul_mod_self_right, Nat.mod_eq_of_lt (by omega)] at hmod
      omega
  have hrem : ((b.all.length - p.mem : Nat) : Int).tmod (p.ch : Int) = 0 := by rw [tmod_nat, hov, hmod]; rfl
  have hst0 : ∀ v ∈ sp, ∀ g, v.ownBlock = some g → g < w.heap.size := fun v hv g hg => by
    obtain ⟨bs, hb⟩ := hP.str v hv
    exact (hb.lt hg).2.1
  have hcs0 : ∀ v ∈ b.cs, ∀ g, v.ownBlock = some g → g < w.heap.size := fun v hv g hg => by
    obtain ⟨i, hi⟩ := List.getElem?_of_mem hv
    exact ((hR.str i v hi).lt hg).2.1
  refine (put_new B pb bb b.gone b.all.length (b.all.length - p.mem) p S b.m b.c b.cs sp data w hP.blk hblk (lab_ne hP.lb hR.lb nofun) hP.low hR.low hR.arr
    (fun g h => ⟨lab_ne (hR.arl g h) hR.lb (by simp), lab_ne (hR.arl g h) hP.lb nofun⟩) hP.arr (fun g h => ⟨lab_ne (hP.arl g h) hR.lb nofun, lab_ne (hP.arl g h) hP.lb nofun, fun h2 => lab_ne (hP.arl g h) (hR.arl g h2) nofun rfl⟩)
    (fun v hv => ⟨hP.str v hv, fun g h => ⟨lab_ne (hP.stl v hv g h) hP.lb nofun, lab_ne (hP.stl v hv g h) hR.lb nofun, fun h2 => lab_ne (hP.stl v hv g h) (hR.arl g h2) nofun rfl, fun h2 => lab_ne (hP.stl v hv g h) (hP.arl g h2) nofun rfl⟩⟩)
    (by omega) hfew2 hd (by omega) hch.1 hch.2 (by omega) (by omega) hrem).mono ?_
  rintro e w' ⟨n, v, v', c', S', sp', hn, he, hb', hS', hSo, hvo, hbb', hco, hcr, hvr, hvo', hm⟩
  have hn0 : 0 < n := by have := hch.1; omega
  have hndd : n ≤ data.size := by omega
  have hxl : ((tl data).take n).length = n := by rw [List.length_take, tl_len]; omega
  have hal : (b.all ++ (tl data).take n).length = b.all.length + n := by rw [List.length_append, hxl]
  have hbbl : bb < w.heap.size := hblk.lt
  have hsub : ∀ u ∈ sp', u ∈ sp := fun u hu => by
    rcases hvo with ⟨_, _, h⟩ | ⟨v0, h, _⟩
    · rw [h] at hu; cases hu
    · rw [h]; exact List.mem_append_left _ hu
  have hvl : ∀ g, v.ownBlock = some g → lab g = .spare ∧ g < w.heap.size ∧ ∀ u ∈ sp', u.ownBlock ≠ some g := fun g hg => by
    rcases hvo with ⟨h, _, _⟩ | ⟨v0, h, h2⟩
    · rw [h] at hg; cases hg
    · have hv0 : v0 ∈ sp := by rw [h]; simp
      have hnd := hP.nd
      rw [h] at hnd
      exact ⟨hP.stl v0 hv0 g (h2 ▸ hg), hst0 v0 hv0 g (h2 ▸ hg), fun u hu hug => (nd_last hnd).2 u hu g hug (h2 ▸ hg)⟩
  have hv'l : ∀ g, v'.ownBlock = some g → (lab g = .spare ∧ v.ownBlock = some g) ∨ w.heap.size ≤ g := fun g hg => by
    rcases hvo' with h | ⟨g', h, h2, _⟩
    · exact .inl ⟨(hvl g (h ▸ hg)).1, h ▸ hg⟩
    · rw [h] at hg; cases hg; exact .inr h2
  have hc'l : ∀ g, c'.ownBlock = some g → (lab g = .own k 2 ∧ b.c.ownBlock = some g) ∨ w.heap.size ≤ g := fun g hg => by
    rcases hco with h | ⟨g', h, h2⟩
    · exact .inl ⟨hR.arl g (h ▸ hg), h ▸ hg⟩
    · rw [h] at hg; cases hg; exact .inr h2
  have hcv : ∀ g, c'.ownBlock = some g → v'.ownBlock ≠ some g := fun g hg hv => by
    rcases hvo' with h | ⟨g', h, h2, h3⟩
    · rcases hc'l g hg with h4 | h4
      · have h5 := (hvl g (h ▸ hv)).1
        rw [h4.1] at h5; cases h5
      · have := (hvl g (h ▸ hv)).2.1
        omega
    · rw [h] at hv; cases hv
      exact h3 hg
  have hlab : ∀ g, g < w.heap.size → lab g ≠ .spare → relab (relab lab c' (.own k 2)) v' (.own k 3) g = lab g := by
    intro g hgl hns
    have h1 : v'.ownBlock ≠ some g := fun h => by
      rcases hv'l g h with h2 | h2
      · exact hns h2.1
      · omega
    rw [relab_ne h1]
    by_cases h : c'.ownBlock = some g
    · rw [relab_of h]
      rcases hc'l g h with h2 | h2
      · exact h2.1.symm
      · omega
    · exact relab_ne h
  have hlabs : ∀ u ∈ sp', ∀ g, u.ownBlock = some g → relab (relab lab c' (.own k 2)) v' (.own k 3) g = .spare := by
    intro u hu g hg
    have hgl := hst0 u (hsub u hu) g hg
    have hsl := hP.stl u (hsub u hu) g hg
    have h1 : v'.ownBlock ≠ some g := fun h => by
      rcases hv'l g h with h2 | h2
      · exact (hvl g h2.2).2.2 u hu hg
      · omega
    have h3 : c'.ownBlock ≠ some g := fun h => by
      rcases hc'l g h with h2 | h2
      · rw [hsl] at h2; cases h2.1
      · omega
    rw [relab_ne h1, relab_ne h3]
    exact hsl
  have hst : ∀ g, g < w.heap.size → (lab g = .sparr ∨ lab g = .own k 1 ∨ lab g = .own k 3) → w'.heap[g]? = w.heap[g]? := fun g hgl hl => hm.block g hgl fun h => by
    rcases h with h | h | h | h | h
    · rw [h, hP.lb] at hl; simp at hl
    · rw [h, hR.lb] at hl; simp at hl
    · rw [hR.arl g h] at hl; simp at hl
    · rw [(hvl g h).1] at hl; simp at hl
    · omega
  have hsts : ∀ u ∈ sp', ∀ g, u.ownBlock = some g → w'.heap[g]? = w.heap[g]? := fun u hu g hg => hm.block g (hst0 u (hsub u hu) g hg) fun h => by
    have hsl := hP.stl u (hsub u hu) g hg
    rcases h with h | h | h | h | h
    · rw [h, hP.lb] at hsl; cases hsl
    · rw [h, hR.lb] at hsl; cases hsl
    · rw [hR.arl g h] at hsl; cases hsl
    · exact (hvl g h).2.2 u hu hg
    · have := hst0 u (hsub u hu) g hg; omega
  have hchn : chunkB (b.all ++ (tl data).take n) b.Q p.ch b.cs.length = (tl data).take n := by
    unfold chunkB
    rw [← hfull, List.drop_left' rfl, List.take_of_length_le (by omega)]
  refine ⟨n, relab (relab lab c' (.own k 2)) v' (.own k 3), p.used + 1, S', sp', ⟨b.all ++ (tl data).take n, b.gone, b.Q, b.m, c', b.cs ++ [v']⟩, hn0, hndd, he, ?_, hbb', ?_, rfl, rfl, ⟨hm.mono fun g hgl h => ?_, fun g hgl hmi => hlab g hgl (fun h => hmi (by rw [h]; trivial)), fun g hgl => ?_⟩, ?_, ?_⟩
  · exact {
      blk := hb'
      low := hP.low
      lb := (hlab pb hP.blk.lt (by rw [hP.lb]; simp)).trans hP.lb
      arr := hS'
      arl := fun g hg => (hlab g (hP.arr.lt (hSo ▸ hg)).2.1 (by rw [hP.arl g (hSo ▸ hg)]; simp)).trans (hP.arl g (hSo ▸ hg))
      str := fun u hu => by
        obtain ⟨bs, hb⟩ := hP.str u (hsub u hu)
        exact ⟨bs, hb.keep fun g hg => hsts u hu g hg⟩
      stl := fun u hu g hg => hlabs u hu g hg
      nd := by
        rcases hvo with ⟨_, _, h⟩ | ⟨v0, h, _⟩
        · rw [h]; simp
        · have hnd := hP.nd
          rw [h] at hnd
          exact (nd_last hnd).1 }
  · exact {
      low := hR.low
      lb := (hlab bb hbbl (by rw [hR.lb]; simp)).trans hR.lb
      gl := by show b.gone ≤ (b.all ++ (tl data).take n).length; have := hR.gl; omega
      mm := fun hg => by
        have hg : b.gone < p.mem := hg
        show Row w' B _ b.m ((b.all ++ (tl data).take n).take p.mem).length (bc ((b.all ++ (tl data).take n).take p.mem))
        rw [List.take_append_of_le_length hge]
        exact (hR.mm hg).keep fun g h => hst g ((hR.mm hg).lt h).2.1 (.inr (.inl (hR.ml hg g h)))
      ml := fun hg g h => (hlab g ((hR.mm hg).lt h).2.1 (by rw [hR.ml hg g h]; simp)).trans (hR.ml hg g h)
      arr := by show Row w' B _ c' (b.cs ++ [v']).length (b.cs ++ [v']); rw [List.length_append]; exact hcr
      arl := fun g h => (relab_ne (hcv g h)).trans (relab_of h)
      qq := hR.qq
      qg := hR.qg
      hi := by
        show (b.all ++ (tl data).take n).length - b.Q ≤ (b.cs ++ [v']).length * p.ch
        rw [hal, List.length_append, List.length_singleton, Nat.add_mul, Nat.one_mul]
        omega
      lo := fun i hi => by
        have hi : i < (b.cs ++ [v']).length := hi
        show b.Q + i * p.ch < (b.all ++ (tl data).take n).length
        rw [List.length_append, List.length_singleton] at hi
        have := Nat.mul_le_mul_right p.ch (show i ≤ b.cs.length by omega)
        omega
      str := fun i u hu => by
        have hu : (b.cs ++ [v'])[i]? = some u := hu
        show Row w' B _ u (chunkB (b.all ++ (tl data).take n) b.Q p.ch i).length (bc (chunkB (b.all ++ (tl data).take n) b.Q p.ch i))
        rcases Nat.lt_trichotomy i b.cs.length with h | h | h
        · rw [List.getElem?_append_left h] at hu
          have := mul_step p.ch h
          rw [chunkB_left (by omega)]
          exact (hR.str i u hu).keep fun g hg => hst g ((hR.str i u hu).lt hg).2.1 (.inr (.inr (hR.stl u (List.mem_of_getElem? hu) g hg)))
        · subst h
          rw [List.getElem?_append_right (Nat.le_refl _), Nat.sub_self] at hu
          obtain rfl : v' = u := by simpa using hu
          rw [hchn]
          exact hvr
        · rw [List.getElem?_eq_none (by rw [List.length_append, List.length_singleton]; omega)] at hu
          cases hu
      stl := fun u hu g hg => by
        have hu : u ∈ b.cs ++ [v'] := hu
        rcases List.mem_append.1 hu with h | h
        · exact (hlab g (hcs0 u h g hg) (by rw [hR.stl u h g hg]; simp)).trans (hR.stl u h g hg)
        · obtain rfl := List.mem_singleton.1 h
          exact relab_of hg
      nd := nd_snoc hR.nd fun u hu g hg hv' => by
        rcases hv'l g hv' with h | h
        · have h2 := hR.stl u hu g hg
          rw [h.1] at h2; cases h2
        · have := hcs0 u hu g hg; omega }
  · rcases h with h | h | h | h | h
    · exact .inl (by rw [h, hP.lb]; trivial)
    · exact .inl (by rw [h, hR.lb]; rfl)
    · exact .inl (by rw [hR.arl g h]; rfl)
    · exact .inl (by rw [(hvl g h).1]; trivial)
    · exact .inr h
  · have h1 : v'.ownBlock ≠ some g := fun h => by
      have := (hvr.lt h).2.1
      omega
    have h2 : c'.ownBlock ≠ some g := fun h => by
      have := (hcr.lt h).2.1
      omega
    rw [relab_ne h1, relab_ne h2]
    exact hnew g (Nat.le_trans hm.size hgl)
  · show p.used + 1 + b.cs.length = p.used + (b.cs ++ [v']).length
    rw [List.length_append, List.length_singleton]; omega
  · rcases hvo with ⟨_, h1, h⟩ | ⟨v0, h, _⟩
    · rw [h, h1]; simp
    · rw [h, List.length_append, List.length_singleton]; omega
theorem chunks_le (hR : BufR w B lab bb k p.mem p.ch b) (hch : 0 < p.ch) : b.cs.length ≤ b.all.length := by
  rcases Nat.eq_zero_or_pos b.cs.length with h0 | h0
  · omega
  · have := hR.lo (b.cs.length - 1) (by omega)
    have := Nat.le_mul_of_pos_right (b.cs.length - 1) hch
    omega
theorem put_step (hP : PoolAt w B lab pb p S sp) (hblk : Blk w bb (bufC pb b.gone b.all.length b.m b.c) 232) (hR : BufR w B lab bb k p.mem p.ch b) (hnew : ∀ g, w.heap.size ≤ g → lab g = .free) (hB : B ≤ w.heap.size)
    (hd : 0 < data.size) (hds : data.size ≤ 1000000) (hlen : b.all.length ≤ 1000000) (hmem : p.mem ≤ 65536) (hch : 0 < p.ch ∧ p.ch ≤ 65536) (hfew : sp.length + p.used ≤ 1000000) :
    Calls Tryz.prog 283 #[.pointer (some ⟨bb, 0, none⟩), .string data] w (PutPost B pb bb k lab p sp b data w) := by
  have hcl := chunks_le hR hch.1
  by_cases hlt : b.all.length < p.mem
  · exact put_step1 hP hblk hR hnew hB hd hds hlt hmem
  · by_cases hmod : (b.all.length - p.mem) % p.ch = 0
    · exact put_step2 hP hblk hR hnew hd hds hlen (by omega) hch hmod hfew (by omega)
    · exact put_step3 hP hblk hR hnew hB hd hds hlen (by omega) hch (by omega)
end
def shutC : List Value := [.pointer none, .int .i64 0, .int .i64 0, .slice none 0 0, .slice none 0 0]
theorem open_ok (pb bb gone len : Nat) (m c : Value) (w : World) (hb : Blk w bb (bufC pb gone len m c) 232) :
    Calls Tryz.prog 273 #[.pointer (some ⟨bb, 0, none⟩)] w fun e w' => e = .returned (.int .i64 0) ∧ w' = w := by
  have c0 := hb.cell (show (bufC pb gone len m c)[0]? = some _ from rfl)
  have hlt := hb.lt
  clear hb
  go_enter Tryz.func273, Tryz.ntmps273
  go_wp2
  go_ret
  exact ⟨rfl, rfl⟩
theorem heap_mv {B : Nat} {S : Nat → Prop} {w w' : World} (h : ∃ n, w' = w.drewN n) : Mv B S w w' := by
  obtain ⟨n, rfl⟩ := h
  exact ⟨rfl, rfl, rfl, Nat.le_refl _, fun _ _ _ => rfl, fun _ _ _ => rfl⟩
theorem len_ok (pb bb gone len : Nat) (m c : Value) (w : World) (hb : Blk w bb (bufC pb gone len m c) 232) (hg : gone ≤ len) (hl : len ≤ 100000000) :
    Calls Tryz.prog 274 #[.pointer (some ⟨bb, 0, none⟩)] w fun e w' => e = .returned (.int .i64 ((len - gone : Nat) : Int)) ∧ ∃ n, w' = w.drewN n := by
  have c1 := hb.cell (show (bufC pb gone len m c)[1]? = some _ from rfl)
  have c2 := hb.cell (show (bufC pb gone len m c)[2]? = some _ from rfl)
  have hlt := hb.lt
  have hD : (len : Int) - (gone : Int) = ((len - gone : Nat) : Int) := by omega
  generalize len - gone = D at hD ⊢
  clear hb
  have hwD : IntKind.i64.wrap (D : Int) = (D : Int) := by rw [IntKind.wrap_i64]; omega
  go_enter Tryz.func274, Tryz.ntmps274
  go_upto_region 3 with fail
  go_quiet (fail)
  go_wp2
  go_ret
  exact ⟨rfl, _, rfl⟩
theorem set5 (p : Ps) (S : Value) (u : Nat) : (p.cells S).set 5 (.int .i64 (u : Int)) = ({ p with nb := u } : Ps).cells S := rfl
theorem Open_ok (B pb : Nat) (p : Ps) (S : Value) (w : World) (hb : Blk w pb (p.cells S) 173) (hB : B ≤ pb) (hn : p.nb ≤ 1000000) :
    Calls Tryz.prog 94 #[.pointer (some ⟨pb, 0, none⟩)] w fun e w' => e = .returned (.pointer (some ⟨w.heap.size, 0, none⟩)) ∧ Blk w' pb (({ p with nb := p.nb + 1 } : Ps).cells S) 173 ∧
      Blk w' w.heap.size (bufC pb 0 0 (.slice none 0 0) (.slice none 0 0)) 232 ∧ Mv B (fun b => b = pb) w w' ∧ w'.heap.size = w.heap.size + 1 := by
  have c5 := hb.cell (show (p.cells S)[5]? = some _ from rfl)
  have hf := hb.frozen 5
  have hlt := hb.lt
  obtain ⟨U, hU⟩ : ∃ U, p.nb = U := ⟨_, rfl⟩
  rw [hU] at c5 hn ⊢
  replace hU := Lib.hid hU
  replace hb := Lib.hid hb
  go_enter Tryz.func94, Tryz.ntmps94
  go_upto_region 4 with fail
  have e1 : (w.setCell ⟨pb, 5, none⟩ (.int .i64 ((U : Int) + 1))) = (w.setCell ⟨pb, 5, none⟩ (.int .i64 ((U + 1 : Nat) : Int))) := rfl
  rw [e1]
  have hb1 := hb.out.set 5 (.int .i64 ((U + 1 : Nat) : Int))
  rw [set5] at hb1
  have hm1 : Mv B (fun b => b = pb) w (w.setCell ⟨pb, 5, none⟩ (.int .i64 ((U + 1 : Nat) : Int))) := Mv.set (S := fun b => b = pb) hb.out rfl four_pool hB _ _
  have hs1 : (w.setCell ⟨pb, 5, none⟩ (.int .i64 ((U + 1 : Nat) : Int))).heap.size = w.heap.size := by simp [World.setCell]
  obtain ⟨z, hz⟩ : ∃ z, w.heap.size = z := ⟨_, rfl⟩
  generalize w.setCell ⟨pb, 5, none⟩ (.int .i64 ((U + 1 : Nat) : Int)) = w1 at hb1 hm1 hs1 ⊢
  rw [hz] at hs1
  have hb2 := hb1.alloc (.cells #[.pointer (some ⟨pb, 0, none⟩), .int .i64 0, .int .i64 0, .slice none 0 0, .slice none 0 0] 232)
  have hnew := Blk.new w1 (bufC pb 0 0 (.slice none 0 0) (.slice none 0 0)) 232
  rw [hs1] at hnew
  have hm2 := hm1.trans (Mv.alloc B _ w1 (.cells #[.pointer (some ⟨pb, 0, none⟩), .int .i64 0, .int .i64 0, .slice none 0 0, .slice none 0 0] 232))
  have hs2 : (w1.alloc (.cells #[.pointer (some ⟨pb, 0, none⟩), .int .i64 0, .int .i64 0, .slice none 0 0, .slice none 0 0] 232)).heap.size = z + 1 := by rw [← hs1]; simp
  replace hs2 := Lib.hid hs2
  replace hb1 := Lib.hid hb1
  replace hm1 := Lib.hid hm1
  replace hb2 := Lib.hid hb2
  replace hm2 := Lib.hid hm2
  replace hnew := Lib.hid hnew
  replace hz := Lib.hid hz
  clear c5 hf e1
  go_wp2
  go_ret
  exact ⟨by rw [hz.out]; rfl, hb2.out, by rw [hz.out]; exact hnew.out, hm2.out, by rw [hz.out]; exact hs2.out⟩
theorem New_ok (q m c : Nat) (w : World) (hq : q ≤ 1048576) (hm : m ≤ 65536) (hc0 : 1 ≤ c) (hc : c ≤ 65536) :
    Calls Tryz.prog 42 #[.int .i64 (q : Int), .int .i64 (m : Int), .int .i64 (c : Int)] w fun e w' => e = .returned (.tuple #[.pointer (some ⟨w.heap.size, 0, none⟩), .int .i64 0]) ∧ w' = w.alloc (.cells ((⟨q, m, c, 0, 0, 0⟩ : Ps).cells (.slice none 0 0)).toArray 173) := by
  have h1 : ¬ (q : Int) < 0 := by omega
  have h2 : ¬ (1048576 : Int) < (q : Int) := by omega
  have h3 : ¬ (m : Int) < 0 := by omega
  have h4 : ¬ (65536 : Int) < (m : Int) := by omega
  have h5 : ¬ (c : Int) < 1 := by omega
  have h6 : ¬ (65536 : Int) < (c : Int) := by omega
  go_enter Tryz.func42, Tryz.ntmps42
  go_wp2
  go_ret2
  exact ⟨rfl, rfl⟩
theorem tl_from (s : ByteArray) (k : Nat) : tl (s.extract k s.size) = (tl s).drop k := by
  have h := tl_len s
  unfold tl at h ⊢
  simp only [ByteArray.data_extract, Array.toList_extract, List.extract]
  exact List.take_of_length_le (by rw [List.length_drop]; omega)
theorem tl_emp (s : ByteArray) : s.toList.isEmpty = decide (s.size = 0) := by
  rw [ByteArray.toList_eq]
  have h := tl_len s
  unfold tl at h
  cases hl : s.data.toList with
  | nil => rw [hl] at h; simp [← h]
  | cons x l => rw [hl] at h; simp [← h]
def strLen : Value → Nat | .string s => s.size | _ => 0
theorem PoolAt.head {w w' : World} {B pb : Nat} {lab : Nat → Lab} {p p' : Ps} {S : Value} {sp : List Value} (h : PoolAt w B lab pb p S sp) (hb : Blk w' pb (p'.cells S) 173)
    (hk : ∀ g, g < w.heap.size → g ≠ pb → w'.heap[g]? = w.heap[g]?) : PoolAt w' B lab pb p' S sp where
  blk := hb
  low := h.low
  lb := h.lb
  arr := h.arr.keep fun g hg => hk g (h.arr.lt hg).2.1 (lab_ne (h.arl g hg) h.lb nofun)
  arl := h.arl
  str := fun v hv => by
    obtain ⟨bs, hbs⟩ := h.str v hv
    exact ⟨bs, hbs.keep fun g hg => hk g (hbs.lt hg).2.1 (lab_ne (h.stl v hv g hg) h.lb nofun)⟩
  stl := h.stl
  nd := h.nd
theorem PoolAt.same {w w' : World} {B pb : Nat} {lab : Nat → Lab} {p : Ps} {S : Value} {sp : List Value} (h : PoolAt w B lab pb p S sp) {x : Nat} (hx : lab x ≠ .pool ∧ lab x ≠ .sparr ∧ lab x ≠ .spare)
    (hk : ∀ g, g < w.heap.size → g ≠ x → w'.heap[g]? = w.heap[g]?) : PoolAt w' B lab pb p S sp :=
  h.keep fun g hg hl => ⟨hk g hg fun e => by subst e; rcases hl with h | h | h <;> simp [h] at hx, rfl⟩
theorem BufR.same {w w' : World} {B bb k M C : Nat} {lab : Nat → Lab} {b : Bs} (h : BufR w B lab bb k M C b) {x : Nat} (hx : lab x = .own k 0 ∨ ∀ t, lab x ≠ .own k t)
    (hk : ∀ g, g < w.heap.size → g ≠ x → w'.heap[g]? = w.heap[g]?) : BufR w' B lab bb k M C b :=
  have ne : ∀ {g t}, lab g = .own k (t + 1) → g ≠ x := fun {g t} hg e => by
    subst e
    rcases hx with h | h
    · rw [h] at hg; simp at hg
    · exact h _ hg
  { low := h.low
    lb := h.lb
    gl := h.gl
    mm := fun hm => (h.mm hm).keep fun g hg => hk g ((h.mm hm).lt hg).2.1 (ne (h.ml hm g hg))
    ml := h.ml
    arr := h.arr.keep fun g hg => hk g (h.arr.lt hg).2.1 (ne (h.arl g hg))
    arl := h.arl
    qq := h.qq
    qg := h.qg
    hi := h.hi
    lo := h.lo
    str := fun i v hv => (h.str i v hv).keep fun g hg => hk g ((h.str i v hv).lt hg).2.1 (ne (h.stl v (List.mem_of_getElem? hv) g hg))
    stl := h.stl
    nd := h.nd }
theorem set3 (p : Ps) (S : Value) (u : Nat) : (p.cells S).set 3 (.int .i64 (u : Int)) = ({ p with held := u } : Ps).cells S := rfl
def AppPost (B pb bb k : Nat) (lab : Nat → Lab) (p : Ps) (sp : List Value) (b : Bs) (data : ByteArray) (w w' : World) : Prop :=
  ∃ (lab' : Nat → Lab) (u : Nat) (S' : Value) (sp' : List Value) (b' : Bs), PoolAt w' B lab' pb { p with held := p.held + data.size, used := u } S' sp' ∧
    Blk w' bb (bufC pb b.gone b'.all.length b'.m b'.c) 232 ∧ BufR w' B lab' bb k p.mem p.ch b' ∧ b'.all = b.all ++ tl data ∧ b'.gone = b.gone ∧
    Step B k w.heap.size w lab w' lab' ∧ u + b.cs.length = p.used + b'.cs.length ∧ sp'.length + u ≤ sp.length + p.used + data.size
section
variable {B pb bb k : Nat} {lab : Nat → Lab} {p : Ps} {S : Value} {sp : List Value} {b : Bs} {data : ByteArray} {w : World}
theorem append_no (gone len : Nat) (m c : Value) (hP : Blk w pb (p.cells S) 173) (hblk : Blk w bb (bufC pb gone len m c) 232) (hds : data.size ≤ 1000000) (hq : p.quota < p.held + data.size) (hqb : p.quota ≤ 1048576) (hh : p.held ≤ 1048576) :
    Calls Tryz.prog 282 #[.pointer (some ⟨bb, 0, none⟩), .string data] w fun e w' => e = .returned (.int .i64 41) ∧ ∃ n, w' = w.drewN n := by
  have hop := open_ok pb bb gone len m c w hblk
  have c0 := hblk.cell (show (bufC pb gone len m c)[0]? = some _ from rfl)
  have d0 := hP.cell (show (p.cells S)[0]? = some _ from rfl)
  have d3 := hP.cell (show (p.cells S)[3]? = some _ from rfl)
  obtain ⟨q, hqq⟩ : ∃ q, p.quota = q := ⟨_, rfl⟩
  obtain ⟨h, hhh⟩ : ∃ h, p.held = h := ⟨_, rfl⟩
  rw [hqq] at d0 hq hqb
  rw [hhh] at d3 hq hh
  have hpl := hP.lt
  have hbl := hblk.lt
  have hwD : IntKind.i64.wrap ((q : Int) - (h : Int)) = (q : Int) - (h : Int) := by rw [IntKind.wrap_i64]; omega
  have hlt : (q : Int) - (h : Int) < (data.size : Int) := by omega
  clear hP hblk hqq hhh
  go_enter Tryz.func282, Tryz.ntmps282
  go_wp2_with fail
  refine hop.mono ?_
  rintro e w1 ⟨rfl, hw⟩
  obtain rfl := hw.symm
  go_upto_region 5 with fail
  go_quiet (fail)
  go_wp2
  go_ret
  exact ⟨rfl, _, rfl⟩
theorem append_ok (hP : PoolAt w B lab pb p S sp) (hblk : Blk w bb (bufC pb b.gone b.all.length b.m b.c) 232) (hR : BufR w B lab bb k p.mem p.ch b) (hnew : ∀ g, w.heap.size ≤ g → lab g = .free) (hB : B ≤ w.heap.size)
    (hlen : b.all.length + data.size ≤ 1000000) (hmem : p.mem ≤ 65536) (hch : 0 < p.ch ∧ p.ch ≤ 65536) (hfew : sp.length + p.used + data.size ≤ 1000000) (hq : p.held + data.size ≤ p.quota) (hqb : p.quota ≤ 1048576) :
    Calls Tryz.prog 282 #[.pointer (some ⟨bb, 0, none⟩), .string data] w fun e w' => e = .returned (.int .i64 0) ∧ AppPost B pb bb k lab p sp b data w w' := by
  have hop := open_ok pb bb b.gone b.all.length b.m b.c w hblk
  have c0 := hblk.cell (show (bufC pb b.gone b.all.length b.m b.c)[0]? = some _ from rfl)
  have d0 := hP.blk.cell (show (p.cells S)[0]? = some _ from rfl)
  have d3 := hP.blk.cell (show (p.cells S)[3]? = some _ from rfl)
  have f3 := hP.blk.frozen 3
  obtain ⟨q, hqq⟩ : ∃ q, p.quota = q := ⟨_, rfl⟩
  obtain ⟨h, hhh⟩ : ∃ h, p.held = h := ⟨_, rfl⟩
  have hq0 := hq
  have hqb0 := hqb
  rw [hqq, hhh] at hq
  rw [hqq] at hqb d0
  rw [hhh] at d3
  have hpl := hP.blk.lt
  have hbl := hblk.lt
  have hwD : IntKind.i64.wrap ((q : Int) - (h : Int)) = (q : Int) - (h : Int) := by rw [IntKind.wrap_i64]; omega
  have hlt : ¬ (q : Int) - (h : Int) < (data.size : Int) := by omega
  have hpb : pb ≠ bb := lab_ne hP.lb hR.lb nofun
  replace hqq := Lib.hid hqq
  replace hhh := Lib.hid hhh
  replace hP := Lib.hid hP
  replace hR := Lib.hid hR
  replace hblk := Lib.hid hblk
  replace hnew := Lib.hid hnew
  go_enter Tryz.func282, Tryz.ntmps282
  go_wp2_with fail
  refine hop.mono ?_
  rintro e w1 ⟨rfl, hw⟩
  obtain rfl := hw.symm
  clear hop
  go_upto_region 5 with fail
  go_quiet (fail)
  go_upto_region 8 with fail
  have e1 : ((w.drewN nq).setCell ⟨pb, 3, none⟩ (.int .i64 ((h : Int) + (data.size : Int)))) = ((w.drewN nq).setCell ⟨pb, 3, none⟩ (.int .i64 ((h + data.size : Nat) : Int))) := rfl
  rw [e1]
  have hpb1 : Blk (w.drewN nq) pb (p.cells S) 173 := hP.out.blk
  have hb2 := hpb1.set 3 (.int .i64 ((h + data.size : Nat) : Int))
  rw [set3] at hb2
  have m2 : Mv B (fun g => Mine k (lab g) ∨ w.heap.size ≤ g) w ((w.drewN nq).setCell ⟨pb, 3, none⟩ (.int .i64 ((h + data.size : Nat) : Int))) :=
    (heap_mv ⟨nq, rfl⟩).trans (Mv.set (S := fun g => Mine k (lab g) ∨ w.heap.size ≤ g) hpb1 (.inl (by rw [hP.out.lb]; trivial)) four_pool hP.out.low 3 _)
  have hk2 : ∀ g, g < w.heap.size → g ≠ pb → ((w.drewN nq).setCell ⟨pb, 3, none⟩ (.int .i64 ((h + data.size : Nat) : Int))).heap[g]? = w.heap[g]? := fun g _ hg => heap_setCell_other (w.drewN nq) _ g _ hg
  have hs2 : ((w.drewN nq).setCell ⟨pb, 3, none⟩ (.int .i64 ((h + data.size : Nat) : Int))).heap.size = w.heap.size := by simp [World.setCell]
  generalize (w.drewN nq).setCell ⟨pb, 3, none⟩ (.int .i64 ((h + data.size : Nat) : Int)) = w2 at hb2 m2 hk2 hs2 ⊢
  have hP2 : PoolAt w2 B lab pb { p with held := h + data.size } S sp := hP.out.head hb2 hk2
  have hblk2 : Blk w2 bb (bufC pb b.gone b.all.length b.m b.c) 232 := (hk2 bb hbl (fun e => hpb e.symm)).trans hblk.out
  have hR2 : BufR w2 B lab bb k p.mem p.ch b := hR.out.same (x := pb) (.inr fun t => by rw [hP.out.lb]; simp) hk2
  have hst2 : Step B k w.heap.size w lab w2 lab := ⟨m2, fun _ _ _ => rfl, fun g hg => hnew.out g (by omega)⟩
  clear c0 d0 d3 f3 e1 hpb1 hb2 m2 hk2 hwD hlt
  replace hP2 := Lib.hid hP2
  replace hblk2 := Lib.hid hblk2
  replace hR2 := Lib.hid hR2
  replace hst2 := Lib.hid hst2
  replace hfew := Lib.hid hfew
  replace hlen := Lib.hid hlen
  replace hch := Lib.hid hch
  replace hq0 := Lib.hid hq0
  go_loopw [1] (fun dv wr => ∃ (d : ByteArray) (lab' : Nat → Lab) (u : Nat) (S' : Value) (sp' : List Value) (b' : Bs), dv = .string d ∧ d.size ≤ data.size ∧ Hid (PoolAt wr B lab' pb { p with held := h + data.size, used := u } S' sp') ∧
      Hid (Blk wr bb (bufC pb b.gone b'.all.length b'.m b'.c) 232) ∧ Hid (BufR wr B lab' bb k p.mem p.ch b') ∧ Hid (b'.all ++ tl d = b.all ++ tl data) ∧ Hid (b'.gone = b.gone) ∧
      Hid (Step B k w.heap.size w lab wr lab') ∧ Hid (u + b.cs.length = p.used + b'.cs.length) ∧ Hid (sp'.length + u + d.size ≤ sp.length + p.used + data.size)) (fun dv _ => strLen dv)
  case atStart => exact ⟨data, lab, p.used, S, sp, b, rfl, Nat.le_refl _, hP2, hblk2, hR2, Lib.hid rfl, Lib.hid rfl, hst2, Lib.hid rfl, Lib.hid (Nat.le_refl _)⟩
  case round =>
    clear hP2 hblk2 hR2 hst2
    obtain ⟨d, lab', u, S', sp', b', rfl, hdl, hP', hblk', hR', hall, hgone, hst, hcnt, hfw⟩ := hrel
    have hsz : b'.all.length + d.size = b.all.length + data.size := by
      have := congrArg List.length hall.out
      simpa [List.length_append, tl_len] using this
    by_cases hd0 : d.size = 0
    · have hem : d.toList.isEmpty = true := by rw [tl_emp, hd0]; rfl
      go_wp2
      go_ret
      have hd1 : tl d = [] := List.eq_nil_of_length_eq_zero (by rw [tl_len]; exact hd0)
      have ha := hall.out
      rw [hd1, List.append_nil] at ha
      have hfw' := hfw.out
      exact ⟨rfl, lab', u, S', sp', b', by rw [hhh.out]; exact hP'.out, hblk'.out, hR'.out, ha, hgone.out, hst.out, hcnt.out, by omega⟩
    · have hem : d.toList.isEmpty = false := by rw [tl_emp]; simp [hd0]
      have hput := put_step (data := d) hP'.out (by rw [hgone.out]; exact hblk'.out) hR'.out hst.out.new (Nat.le_trans hB hst.out.mv.size) (by omega) (by have := hlen.out; omega) (by have := hlen.out; omega) hmem hch.out (by have := hfw.out; have := hfew.out; show sp'.length + u ≤ _; omega)
      go_wp2_with fail
      refine hput.mono ?_
      rintro e w3 ⟨n, lab2, u2, S2, sp2, b2, hn0, hnd, rfl, hP3, hblk3, hR3, hall3, hgone3, hst3, hcnt3, hfw3⟩
      have hblk3l := hblk3.lt
      have c2 := hblk3.cell (show (bufC pb b'.gone b'.all.length b2.m b2.c)[2]? = some _ from rfl)
      have f2 := hblk3.frozen 2
      replace hP3 := Lib.hid hP3
      replace hblk3 := Lib.hid hblk3
      replace hR3 := Lib.hid hR3
      replace hall3 := Lib.hid hall3
      replace hgone3 := Lib.hid hgone3
      replace hst3 := Lib.hid hst3
      replace hcnt3 := Lib.hid hcnt3
      replace hfw3 := Lib.hid hfw3
      have hbd : b'.all.length ≤ 1000000 := by have := hlen.out; omega
      generalize hLL : b'.all.length = LL at c2 hblk3 hbd
      clear hput
      go_upto_region 11 with fail
      have e4 : (w3.setCell ⟨bb, 2, none⟩ (.int .i64 ((LL : Int) + (n : Int)))) = (w3.setCell ⟨bb, 2, none⟩ (.int .i64 ((LL + n : Nat) : Int))) := rfl
      rw [e4]
      have hb4 := hblk3.out.set 2 (.int .i64 ((LL + n : Nat) : Int))
      have e5 : (bufC pb b'.gone LL b2.m b2.c).set 2 (.int .i64 ((LL + n : Nat) : Int)) = bufC pb b'.gone (LL + n) b2.m b2.c := rfl
      rw [e5] at hb4
      have hlb := hR3.out.lb
      have hk4 : ∀ g, g < w3.heap.size → g ≠ bb → (w3.setCell ⟨bb, 2, none⟩ (.int .i64 ((LL + n : Nat) : Int))).heap[g]? = w3.heap[g]? := fun g _ hg => heap_setCell_other w3 _ g _ hg
      have hs4 : (w3.setCell ⟨bb, 2, none⟩ (.int .i64 ((LL + n : Nat) : Int))).heap.size = w3.heap.size := by simp [World.setCell]
      have m4 : Mv B (fun g => Mine k (lab2 g) ∨ w.heap.size ≤ g) w3 (w3.setCell ⟨bb, 2, none⟩ (.int .i64 ((LL + n : Nat) : Int))) := Mv.set (S := fun g => Mine k (lab2 g) ∨ w.heap.size ≤ g) hblk3.out (.inl (by rw [hlb]; rfl)) four_buf hR3.out.low 2 _
      generalize w3.setCell ⟨bb, 2, none⟩ (.int .i64 ((LL + n : Nat) : Int)) = w4 at hb4 hk4 hs4 m4 ⊢
      have hP4 := hP3.out.same (x := bb) ⟨by rw [hlb]; simp, by rw [hlb]; simp, by rw [hlb]; simp⟩ hk4
      have hR4 := hR3.out.same (x := bb) (.inl hlb) hk4
      have hst4 : Step B k w.heap.size w lab w4 lab2 := (hst.out.trans (hst3.out.more hst.out.mv.size) (Nat.le_refl _)).trans ⟨m4, fun _ _ _ => rfl, fun g hg => hst3.out.new g (by omega)⟩ (Nat.le_refl _)
      have hl2 : b2.all.length = LL + n := by
        have := congrArg List.length hall3.out
        rw [List.length_append, List.length_take, tl_len, hLL] at this
        omega
      have hgg : b2.gone = b.gone := hgone3.out.trans hgone.out
      rw [hgone.out, ← hl2] at hb4
      have hex : (d.extract n d.size).size = d.size - n := by rw [ByteArray.size_extract]; omega
      have hal2 : b2.all ++ tl (d.extract n d.size) = b.all ++ tl data := by
        rw [tl_from, hall3.out, List.append_assoc, List.take_append_drop]
        exact hall.out
      have hcn2 : u2 + b.cs.length = p.used + b2.cs.length := by have h1 := hcnt3.out; have h2 := hcnt.out; have h3 : u2 + b'.cs.length = u + b2.cs.length := h1; omega
      have hfw2 : sp2.length + u2 + (d.extract n d.size).size ≤ sp.length + p.used + data.size := by have h1 : sp2.length + u2 ≤ sp'.length + u + 1 := hfw3.out; have h2 := hfw.out; omega
      clear c2 f2 e4 e5 hk4 hs4 m4
      replace hP4 := Lib.hid hP4
      replace hR4 := Lib.hid hR4
      replace hb4 := Lib.hid hb4
      replace hst4 := Lib.hid hst4
      replace hal2 := Lib.hid hal2
      replace hgg := Lib.hid hgg
      replace hcn2 := Lib.hid hcn2
      replace hfw2 := Lib.hid hfw2
      replace hl2 := Lib.hid hl2
      replace hex := Lib.hid hex
      replace hLL := Lib.hid hLL
      go_wp2
      go_roundw
      case rel => exact ⟨_, lab2, u2, S2, sp2, b2, rfl, by rw [hex.out]; omega, hP4, hb4, hR4, hal2, hgg, hst4, hcn2, hfw2⟩
      case measure => simp only [strLen]; rw [hex.out]; omega
end
theorem step_copy_of {P : Program} {ops : Array Oper} {o : Oper} {a : Act} {w : World} {K : Act → World → Prop} {Q : Exit → Act → World → Prop} {E : Prop} (hgd : o.guard = none) (s x : Operand) (t tx : TypeId)
    (ho : o.op = .call { callee := .builtin .copy, args := #[s, x], argTypes := #[t, tx] }) (v y r : Value) (w1 : World) (hs : a.eval s = v) (hx : a.eval x = y)
    (hrun : (Builtin.copy_ #[t, tx] o.type #[v, y]).run P w = .ok r w1) (h : K (a.put o.dst r) w1) :
    if Region.wanted o (yielded ops a.tmps) = true then Oper.wp P o a w K Q else E := by
  have hw : Region.wanted o (yielded ops a.tmps) = true := by simp [Region.wanted, hgd]
  rw [if_pos hw]
  unfold Oper.wp execOp
  simp only [ho, resolve, invoke, builtin, Sem.run_bind, Sem.run_pure, Result.andThen_ok, List.map_toArray, List.map_cons, List.map_nil, hs, hx, hrun]
  exact h
theorem step_copy_ex {P : Program} {ops : Array Oper} {o : Oper} {a : Act} {w : World} {K : Act → World → Prop} {Q : Exit → Act → World → Prop} {E : Prop} (hgd : o.guard = none) (s x : Operand) (t tx : TypeId)
    (ho : o.op = .call { callee := .builtin .copy, args := #[s, x], argTypes := #[t, tx] }) (v y r : Value) (R : World → Prop) (hs : a.eval s = v) (hx : a.eval x = y)
    (hrun : ∃ w1, (Builtin.copy_ #[t, tx] o.type #[v, y]).run P w = .ok r w1 ∧ R w1) (h : ∀ w1, R w1 → K (a.put o.dst r) w1) :
    if Region.wanted o (yielded ops a.tmps) = true then Oper.wp P o a w K Q else E := by
  obtain ⟨w1, h1, h2⟩ := hrun
  exact step_copy_of hgd s x t tx ho v y r w1 hs hx h1 (h w1 h2)
theorem run_copy_stretch {P : Program} (W : World) (ty : TypeId) (hu : P.underlying 153 = some (.slice 5)) (hs : (P.info? 5).map (·.size) = some 1) (B og a dl dc g off c k N : Nat) (cur : List Value) (bs : List UInt8)
    (ho : Blk W og cur 5) (hfit : a + N ≤ cur.length) (hr : Row W B 5 (.slice (some ⟨g, off, none⟩) bs.length c) bs.length (bc bs)) (hN : N = min (bs.length - k) dl) :
    (Builtin.copy_ #[153, 153] ty #[.slice (some ⟨og, a, none⟩) dl dc, .slice (some ⟨g, off + k, none⟩) (bs.length - k) (c - k)]).run P W =
      .ok (goInt N) (W.setRow og (cur.take a ++ bc ((bs.drop k).take N) ++ cur.drop (a + N)).toArray) := by
  have hl : (bc ((bs.drop k).take N)).length = N := by rw [bc_len, List.length_take, List.length_drop]; omega
  have := run_copy_row P W 153 153 ty 5 og a dl dc ⟨g, off + k, none⟩ (bs.length - k) (c - k) cur.toArray 5 (bc ((bs.drop k).take N)) hu hs ho (by rw [hl, hN]) (fun j v hv => by
    rw [add_plain0, Nat.add_assoc]
    refine hr.cell ?_
    rw [bc_take, bc_drop, List.getElem?_take] at hv
    split at hv
    · rw [List.getElem?_drop] at hv; exact hv
    · cases hv) (by rw [hl]; simpa using hfit) (bc_one _)
  rw [hl] at this
  simpa using this
theorem get_mem (B pb bb gone len og a dl dc N K : Nat) (p : Ps) (S m c : Value) (bs : List UInt8) (cur : List Value) (w : World) (hp : Blk w pb (p.cells S) 173) (hb : Blk w bb (bufC pb gone len m c) 232) (hne : pb ≠ bb) (hBb : B ≤ bb)
    (hK : bs.length = K) (hr : Row w B 5 m K (bc bs)) (hg : gone < K) (hgm : K ≤ p.mem) (ho : Blk w og cur 5) (hBo : B ≤ og) (hob : og ≠ bb ∧ og ≠ pb ∧ m.ownBlock ≠ some og) (hmb : ∀ g, m.ownBlock = some g → g ≠ bb) (hfit : a + dl ≤ cur.length)
    (hN : N = min (K - gone) dl) :
    Calls Tryz.prog 279 #[.pointer (some ⟨bb, 0, none⟩), .slice (some ⟨og, a, none⟩) dl dc] w fun e w' => ∃ m', e = .returned (.int .i64 (N : Int)) ∧ Blk w' bb (bufC pb (gone + N) len m' c) 232 ∧
      (gone + N < p.mem → m' = m ∧ Row w' B 5 m K (bc bs)) ∧ Blk w' og (cur.take a ++ bc ((bs.drop gone).take N) ++ cur.drop (a + N)) 5 ∧ Mv B (fun b => b = bb ∨ b = og) w w' := by
  have c0 := hb.cell (show (bufC pb gone len m c)[0]? = some _ from rfl)
  have c1 := hb.cell (show (bufC pb gone len m c)[1]? = some _ from rfl)
  have c3 := hb.cell (show (bufC pb gone len m c)[3]? = some _ from rfl)
  have d1 := hp.cell (show (p.cells S)[1]? = some _ from rfl)
  obtain ⟨M, hM⟩ : ∃ M, p.mem = M := ⟨_, rfl⟩
  rw [hM] at d1 hgm ⊢
  replace hM := Lib.hid hM
  have hpl := hp.lt
  have hbl := hb.lt
  obtain ⟨g, off, cap, rfl, hcc, hcm, hBg⟩ := hr.form1 (by omega)
  have hNd : N ≤ dl := by omega
  have hNK : gone + N ≤ K := by omega
  have hcopy := fun W ty (h0 : W.heap = w.heap) (h01 : W.os = w.os) (h02 : W.tape = w.tape) (h03 : W.output = w.output) =>
    show ∃ w1, (Builtin.copy_ #[153, 153] ty #[.slice (some ⟨og, a, none⟩) dl dc, .slice (some ⟨g, off + gone, none⟩) (K - gone) (cap - gone)]).run Tryz.prog W = .ok (.int .i64 (N : Int)) w1 ∧ (fun w1 : World => Blk w1 og (cur.take a ++ bc ((bs.drop gone).take N) ++ cur.drop (a + N)) 5 ∧
      Blk w1 bb (bufC pb gone len (.slice (some ⟨g, off, none⟩) K cap) c) 232 ∧ Blk w1 pb (p.cells S) 173 ∧ Row w1 B 5 (.slice (some ⟨g, off, none⟩) K cap) K (bc bs) ∧ Mv B (fun b => b = bb ∨ b = og) w w1) w1 from by
    have hoW : Blk W og cur 5 := by unfold Blk; rw [h0]; exact ho
    have hrW : Row W B 5 (.slice (some ⟨g, off, none⟩) K cap) K (bc bs) := hr.keep fun g' _ => by rw [h0]
    have hbW : Blk W bb _ _ := show W.heap[bb]? = _ by rw [h0]; exact hb
    have hpW : Blk W pb _ _ := show W.heap[pb]? = _ by rw [h0]; exact hp
    have hmW : Mv B (fun b => b = bb ∨ b = og) w W := ⟨h01, h02, h03, by rw [h0]; exact Nat.le_refl _, fun b _ _ => by rw [h0], fun b _ _ => by rw [h0]⟩
    have hrun := run_copy_stretch (P := Tryz.prog) W ty Tryz.underlying153 (by kernel_rfl) B og a dl dc g off cap gone N cur bs hoW (by omega) (by rw [hK]; exact hrW) (by rw [hK]; exact hN)
    rw [hK] at hrun
    refine ⟨_, hrun, hoW.row _, (setRow_other W og bb _ (fun h => hob.1 h.symm)).trans hbW, (setRow_other W og pb _ (fun h => hob.2.1 h.symm)).trans hpW, hrW.keep fun g' hg' => setRow_other W og g' _ (fun h => hob.2.2 (by rw [hg', h])), hmW.trans (Mv.row (S := fun b => b = bb ∨ b = og) hoW (.inr rfl) four_byte hBo _)⟩
  replace hp := Lib.hid hp
  replace hb := Lib.hid hb
  replace hr := Lib.hid hr
  replace hN := Lib.hid hN
  replace hK := Lib.hid hK
  replace ho := Lib.hid ho
  replace hob := Lib.hid hob
  unfold maxLen at hcm
  have hi0 : (0 : Int) ≤ (gone : Int) := by omega
  have hi1 : (gone : Int) ≤ (K : Int) := by omega
  have hi2 : ¬ cap = gone := by omega
  have hlt : (gone : Int) < (M : Int) := by omega
  go_enter Tryz.func279, Tryz.ntmps279
  go_upto_region 2 with fail
  go_quiet (fail)
  go_wp2_with fail
  go_region_held3 (fun w' => w'.cell? ⟨bb, 3, none⟩ = some (.slice (some ⟨g, off, none⟩) K cap) ∧ w'.cell? ⟨bb, 1, none⟩ = some (.int .i64 (gone : Int)))
    (first
      | go_keep
      | exact hk)
    ((refine step_copy_ex rfl _ _ 153 153 rfl _ _ _ _ rfl rfl (hcopy _ _ rfl rfl rfl rfl) ?_; rintro w1 ⟨ho1, hb1, hp1, hr1, m1⟩; have hk : w1.cell? ⟨bb, 3, none⟩ = some (.slice (some ⟨g, off, none⟩) K cap) ∧ w1.cell? ⟨bb, 1, none⟩ = some (.int .i64 (gone : Int)) := ⟨hb1.cell rfl, hb1.cell rfl⟩))
  clear c0 c1 c3 d1 hcopy hk
  have c1 := hb1.cell (show (bufC pb gone len (.slice (some ⟨g, off, none⟩) K cap) c)[1]? = some _ from rfl)
  have f1 := hb1.frozen 1
  have hbl1 := hb1.lt
  replace ho1 := Lib.hid ho1
  replace hb1 := Lib.hid hb1
  replace hp1 := Lib.hid hp1
  replace hr1 := Lib.hid hr1
  replace m1 := Lib.hid m1
  go_upto_region 5 with fail
  have eN : ((gone : Int) + (N : Int)) = ((gone + N : Nat) : Int) := rfl
  have hb2 := hb1.out.set 1 (.int .i64 ((gone + N : Nat) : Int))
  have e2 : (bufC pb gone len (.slice (some ⟨g, off, none⟩) K cap) c).set 1 (.int .i64 ((gone + N : Nat) : Int)) = bufC pb (gone + N) len (.slice (some ⟨g, off, none⟩) K cap) c := rfl
  rw [e2] at hb2
  rw [eN]
  have hp2 := hp1.out.other (a := ⟨bb, 1, none⟩) hne (.int .i64 ((gone + N : Nat) : Int))
  have ho2 := ho1.out.other (a := ⟨bb, 1, none⟩) hob.out.1 (.int .i64 ((gone + N : Nat) : Int))
  have hr2 : Row (w1.setCell ⟨bb, 1, none⟩ (.int .i64 ((gone + N : Nat) : Int))) B 5 (.slice (some ⟨g, off, none⟩) K cap) K (bc bs) := hr1.out.keep fun g' hg' => heap_setCell_other w1 _ g' _ (hmb g' hg')
  have m2 := m1.out.trans (Mv.set (S := fun b => b = bb ∨ b = og) hb1.out (.inl rfl) four_buf hBb 1 (.int .i64 ((gone + N : Nat) : Int)))
  generalize w1.setCell ⟨bb, 1, none⟩ (.int .i64 ((gone + N : Nat) : Int)) = w2 at hb2 hp2 ho2 hr2 m2 ⊢
  obtain ⟨G, hG⟩ : ∃ G, gone + N = G := ⟨_, rfl⟩
  rw [hG] at hb2 hNK ⊢
  clear c1 f1 eN e2
  have c1 := hb2.cell (show (bufC pb G len (.slice (some ⟨g, off, none⟩) K cap) c)[1]? = some _ from rfl)
  have f3 := hb2.frozen 3
  have c3 := hb2.cell (show (bufC pb G len (.slice (some ⟨g, off, none⟩) K cap) c)[3]? = some _ from rfl)
  have d1 := hp2.cell (show (p.cells S)[1]? = some _ from rfl)
  simp only [hM.out] at d1
  have hbl2 := hb2.lt
  replace ho2 := Lib.hid ho2
  replace hb2 := Lib.hid hb2
  replace hp2 := Lib.hid hp2
  replace hr2 := Lib.hid hr2
  replace m2 := Lib.hid m2
  replace hG := Lib.hid hG
  by_cases hGM : G = M
  · have hq : ((G : Int) == (M : Int)) = true := by rw [hGM]; simp
    replace hGM := Lib.hid hGM
    go_quiet (fail)
    go_wp2
    go_ret
    have hb3 := hb2.out.set 3 (.slice none 0 0)
    have m3 := m2.out.trans (Mv.set (S := fun b => b = bb ∨ b = og) hb2.out (.inl rfl) four_buf hBb 3 (.slice none 0 0))
    refine ⟨.slice none 0 0, rfl, ?_, fun h => ?_, ?_, ⟨m3.os, m3.tape, m3.output, m3.size, m3.block, m3.keep⟩⟩
    · rw [hG.out]; exact hb3
    · have := hG.out; have := hGM.out; omega
    · exact ho2.out.other (a := ⟨bb, 3, none⟩) hob.out.1 _
  · have hq : ((G : Int) == (M : Int)) = false := by simp; omega
    go_quiet (fail)
    go_wp2
    go_ret
    have hm := m2.out
    exact ⟨_, rfl, by rw [hG.out]; exact hb2.out, fun _ => ⟨rfl, hr2.out⟩, ho2.out, ⟨hm.os, hm.tape, hm.output, hm.size, hm.block, hm.keep⟩⟩
theorem get_chunk_stay (B pb bb gone len og a dl dc N K n r r2 D D2 : Nat) (p : Ps) (S m c v : Value) (rest : List Value) (bs : List UInt8) (cur : List Value) (w : World) (hp : Blk w pb (p.cells S) 173) (hb : Blk w bb (bufC pb gone len m c) 232) (hne : pb ≠ bb) (hBb : B ≤ bb)
    (hc : Row w B 153 c (n + 1) (v :: rest)) (hcb : ∀ g, c.ownBlock = some g → g ≠ bb ∧ g ≠ pb ∧ g ≠ og) (hK : bs.length = K) (hr : Row w B 5 v K (bc bs)) (hg : r < K) (hC0 : 0 < p.ch) (hmost : p.mem ≤ 65536 ∧ p.ch ≤ 65536) (hgl : gone + K ≤ 100000000)
    (hD : (gone : Int) - (p.mem : Int) = (D : Int)) (hrem : (D : Int).tmod (p.ch : Int) = (r : Int)) (hD2 : ((gone + N : Nat) : Int) - (p.mem : Int) = (D2 : Int)) (hrem2 : (D2 : Int).tmod (p.ch : Int) = (r2 : Int)) (hr2 : 0 < r2)
    (ho : Blk w og cur 5) (hBo : B ≤ og) (hob : og ≠ bb ∧ og ≠ pb ∧ v.ownBlock ≠ some og) (hfit : a + dl ≤ cur.length) (hN : N = min (K - r) dl) :
    Calls Tryz.prog 279 #[.pointer (some ⟨bb, 0, none⟩), .slice (some ⟨og, a, none⟩) dl dc] w fun e w' => e = .returned (.int .i64 (N : Int)) ∧ Blk w' bb (bufC pb (gone + N) len m c) 232 ∧ Blk w' og (cur.take a ++ bc ((bs.drop r).take N) ++ cur.drop (a + N)) 5 ∧ Mv B (fun b => b = bb ∨ b = og) w w' := by
  have c0 := hb.cell (show (bufC pb gone len m c)[0]? = some _ from rfl)
  have c1 := hb.cell (show (bufC pb gone len m c)[1]? = some _ from rfl)
  have c4 := hb.cell (show (bufC pb gone len m c)[4]? = some _ from rfl)
  have d1 := hp.cell (show (p.cells S)[1]? = some _ from rfl)
  have d2 := hp.cell (show (p.cells S)[2]? = some _ from rfl)
  obtain ⟨M, hM⟩ : ∃ M, p.mem = M := ⟨_, rfl⟩
  obtain ⟨C, hC⟩ : ∃ C, p.ch = C := ⟨_, rfl⟩
  rw [hM] at d1 hD hD2 hmost
  rw [hC] at d2 hrem hrem2 hC0 hmost
  replace hM := Lib.hid hM
  replace hC := Lib.hid hC
  have hpl := hp.lt
  have hbl := hb.lt
  obtain ⟨cg, co, cc, rfl, hcc, hcm, hBc⟩ := hc.form1 (Nat.succ_pos _)
  obtain ⟨hcg1, hcg2, hcg3⟩ := hcb cg rfl
  have v0 := hc.cell (j := 0) (u := v) rfl
  rw [Nat.add_zero] at v0
  obtain ⟨g, off, cap, rfl, hvc, hvm, hBg⟩ := hr.form1 (by omega)
  have hNd : N ≤ dl := by omega
  have hNK : r + N ≤ K := by omega
  have hcopy := fun W ty (h0 : W.heap = w.heap) (h01 : W.os = w.os) (h02 : W.tape = w.tape) (h03 : W.output = w.output) =>
    show ∃ w1, (Builtin.copy_ #[153, 153] ty #[.slice (some ⟨og, a, none⟩) dl dc, .slice (some ⟨g, off + r, none⟩) (K - r) (cap - r)]).run Tryz.prog W = .ok (.int .i64 (N : Int)) w1 ∧ (fun w1 : World => Blk w1 og (cur.take a ++ bc ((bs.drop r).take N) ++ cur.drop (a + N)) 5 ∧
      Blk w1 bb (bufC pb gone len m (.slice (some ⟨cg, co, none⟩) (n + 1) cc)) 232 ∧ Blk w1 pb (p.cells S) 173 ∧ Row w1 B 153 (.slice (some ⟨cg, co, none⟩) (n + 1) cc) (n + 1) (.slice (some ⟨g, off, none⟩) K cap :: rest) ∧ Mv B (fun b => b = bb ∨ b = og) w w1) w1 from by
    have hoW : Blk W og cur 5 := by unfold Blk; rw [h0]; exact ho
    have hrW : Row W B 5 (.slice (some ⟨g, off, none⟩) K cap) K (bc bs) := hr.keep fun g' _ => by rw [h0]
    have hcW : Row W B 153 (.slice (some ⟨cg, co, none⟩) (n + 1) cc) (n + 1) (.slice (some ⟨g, off, none⟩) K cap :: rest) := hc.keep fun g' _ => by rw [h0]
    have hbW : Blk W bb _ _ := show W.heap[bb]? = _ by rw [h0]; exact hb
    have hpW : Blk W pb _ _ := show W.heap[pb]? = _ by rw [h0]; exact hp
    have hmW : Mv B (fun b => b = bb ∨ b = og) w W := ⟨h01, h02, h03, by rw [h0]; exact Nat.le_refl _, fun b _ _ => by rw [h0], fun b _ _ => by rw [h0]⟩
    have hrun := run_copy_stretch (P := Tryz.prog) W ty Tryz.underlying153 (by kernel_rfl) B og a dl dc g off cap r N cur bs hoW (by omega) (by rw [hK]; exact hrW) (by rw [hK]; exact hN)
    rw [hK] at hrun
    refine ⟨_, hrun, hoW.row _, (setRow_other W og bb _ (fun h => hob.1 h.symm)).trans hbW, (setRow_other W og pb _ (fun h => hob.2.1 h.symm)).trans hpW, hcW.keep fun g' hg' => setRow_other W og g' _ (hcb g' hg').2.2, hmW.trans (Mv.row (S := fun b => b = bb ∨ b = og) hoW (.inr rfl) four_byte hBo _)⟩
  replace hp := Lib.hid hp
  replace hb := Lib.hid hb
  replace hc := Lib.hid hc
  replace hr := Lib.hid hr
  replace hN := Lib.hid hN
  replace hK := Lib.hid hK
  replace ho := Lib.hid ho
  replace hob := Lib.hid hob
  replace hcb := Lib.hid hcb
  unfold maxLen at hcm hvm
  have hi0 : (0 : Int) ≤ (r : Int) := by omega
  have hi1 : (r : Int) ≤ (K : Int) := by omega
  have hi2 : ¬ cap = r := by omega
  have hn0 : (0 : Int) ≤ (n : Int) := by omega
  have hn1 : (0 : Int) < (n : Int) + 1 := by omega
  have hlt : ¬ (gone : Int) < (M : Int) := by omega
  have hC1 : C ≠ 0 := by omega
  have hwD : IntKind.i64.wrap (D : Int) = (D : Int) := by rw [IntKind.wrap_i64]; omega
  have hwD2 : IntKind.i64.wrap (D2 : Int) = (D2 : Int) := by rw [IntKind.wrap_i64]; omega
  go_enter Tryz.func279, Tryz.ntmps279
  go_upto_region 2 with fail
  go_quiet (fail)
  go_wp2_with fail
  go_region_held3 (fun w' => w'.cell? ⟨bb, 4, none⟩ = some (.slice (some ⟨cg, co, none⟩) (n + 1) cc) ∧ w'.cell? ⟨cg, co, none⟩ = some (.slice (some ⟨g, off, none⟩) K cap) ∧ w'.cell? ⟨bb, 1, none⟩ = some (.int .i64 (gone : Int)) ∧ w'.cell? ⟨pb, 1, none⟩ = some (.int .i64 (M : Int)) ∧ w'.cell? ⟨pb, 2, none⟩ = some (.int .i64 (C : Int)))
    (first | go_keep | exact hk)
    ((refine step_copy_ex rfl _ _ 153 153 rfl _ _ _ _ rfl rfl (hcopy _ _ rfl rfl rfl rfl) ?_; rintro w1 ⟨ho1, hb1, hp1, hc1, m1⟩; have hk : w1.cell? ⟨bb, 4, none⟩ = some (.slice (some ⟨cg, co, none⟩) (n + 1) cc) ∧ w1.cell? ⟨cg, co, none⟩ = some (.slice (some ⟨g, off, none⟩) K cap) ∧ w1.cell? ⟨bb, 1, none⟩ = some (.int .i64 (gone : Int)) ∧ w1.cell? ⟨pb, 1, none⟩ = some (.int .i64 (M : Int)) ∧ w1.cell? ⟨pb, 2, none⟩ = some (.int .i64 (C : Int)) :=
      ⟨hb1.cell rfl, hc1.cell (j := 0) rfl, hb1.cell rfl, by rw [← hM.out]; exact hp1.cell rfl, by rw [← hC.out]; exact hp1.cell rfl⟩))
  clear c0 c1 c4 d1 d2 hcopy hk v0
  have c1 := hb1.cell (show (bufC pb gone len m (.slice (some ⟨cg, co, none⟩) (n + 1) cc))[1]? = some _ from rfl)
  have f1 := hb1.frozen 1
  have hbl1 := hb1.lt
  replace ho1 := Lib.hid ho1
  replace hb1 := Lib.hid hb1
  replace hp1 := Lib.hid hp1
  replace hc1 := Lib.hid hc1
  replace m1 := Lib.hid m1
  go_upto_region 10 with fail
  have eN : ((gone : Int) + (N : Int)) = ((gone + N : Nat) : Int) := rfl
  have hb2 := hb1.out.set 1 (.int .i64 ((gone + N : Nat) : Int))
  have e2 : (bufC pb gone len m (.slice (some ⟨cg, co, none⟩) (n + 1) cc)).set 1 (.int .i64 ((gone + N : Nat) : Int)) = bufC pb (gone + N) len m (.slice (some ⟨cg, co, none⟩) (n + 1) cc) := rfl
  rw [e2] at hb2
  rw [eN]
  have hp2 := hp1.out.other (a := ⟨bb, 1, none⟩) hne (.int .i64 ((gone + N : Nat) : Int))
  have ho2 := ho1.out.other (a := ⟨bb, 1, none⟩) hob.out.1 (.int .i64 ((gone + N : Nat) : Int))
  have hc2 : Row (w1.setCell ⟨bb, 1, none⟩ (.int .i64 ((gone + N : Nat) : Int))) B 153 (.slice (some ⟨cg, co, none⟩) (n + 1) cc) (n + 1) (.slice (some ⟨g, off, none⟩) K cap :: rest) := hc1.out.keep fun g' hg' => heap_setCell_other w1 _ g' _ (hcb.out g' hg').1
  have m2 := m1.out.trans (Mv.set (S := fun b => b = bb ∨ b = og) hb1.out (.inl rfl) four_buf hBb 1 (.int .i64 ((gone + N : Nat) : Int)))
  generalize w1.setCell ⟨bb, 1, none⟩ (.int .i64 ((gone + N : Nat) : Int)) = w2 at hb2 hp2 ho2 hc2 m2 ⊢
  obtain ⟨G, hG⟩ : ∃ G, gone + N = G := ⟨_, rfl⟩
  rw [hG] at hb2 hD2 ⊢
  clear c1 f1 eN e2 hrem hD hwD hlt
  have c1 := hb2.cell (show (bufC pb G len m (.slice (some ⟨cg, co, none⟩) (n + 1) cc))[1]? = some _ from rfl)
  have c4 := hb2.cell (show (bufC pb G len m (.slice (some ⟨cg, co, none⟩) (n + 1) cc))[4]? = some _ from rfl)
  have d1 := hp2.cell (show (p.cells S)[1]? = some _ from rfl)
  have d2 := hp2.cell (show (p.cells S)[2]? = some _ from rfl)
  simp only [hM.out] at d1
  simp only [hC.out] at d2
  have hbl2 := hb2.lt
  have hpl2 := hp2.lt
  replace ho2 := Lib.hid ho2
  replace hb2 := Lib.hid hb2
  replace hp2 := Lib.hid hp2
  replace m2 := Lib.hid m2
  replace hG := Lib.hid hG
  replace hc2 := Lib.hid hc2
  have hrz : ((r2 : Int) == 0) = false := by simp; omega
  go_quiet (fail)
  go_wp2
  go_ret
  have hm := m2.out
  exact ⟨rfl, by rw [hG.out]; exact hb2.out, ho2.out, ⟨hm.os, hm.tape, hm.output, hm.size, hm.block, hm.keep⟩⟩
theorem get_chunk_go (B pb bb gone len og a dl dc N K n r D D2 : Nat) (p : Ps) (S m c v : Value) (rest sp : List Value) (bs : List UInt8) (cur : List Value) (w : World) (hp : Blk w pb (p.cells S) 173) (hb : Blk w bb (bufC pb gone len m c) 232) (hne : pb ≠ bb) (hBb : B ≤ bb) (hBp : B ≤ pb) (hS : Row w B 153 S sp.length sp) (hSb : ∀ g, S.ownBlock = some g → g ≠ bb ∧ g ≠ pb ∧ g ≠ og ∧ c.ownBlock ≠ some g) (hu : 0 < p.used) (hu2 : p.used ≤ 1000000) (hsp : sp.length ≤ 1000000)
    (hc : Row w B 153 c (n + 1) (v :: rest)) (hcb : ∀ g, c.ownBlock = some g → g ≠ bb ∧ g ≠ pb ∧ g ≠ og) (hK : bs.length = K) (hr : Row w B 5 v K (bc bs)) (hg : r < K) (hC0 : 0 < p.ch) (hmost : p.mem ≤ 65536 ∧ p.ch ≤ 65536) (hgl : gone + K ≤ 100000000)
    (hD : (gone : Int) - (p.mem : Int) = (D : Int)) (hrem : (D : Int).tmod (p.ch : Int) = (r : Int)) (hD2 : ((gone + N : Nat) : Int) - (p.mem : Int) = (D2 : Int)) (hrem2 : (D2 : Int).tmod (p.ch : Int) = 0)
    (ho : Blk w og cur 5) (hBo : B ≤ og) (hob : og ≠ bb ∧ og ≠ pb ∧ v.ownBlock ≠ some og) (hfit : a + dl ≤ cur.length) (hN : N = min (K - r) dl) :
    Calls Tryz.prog 279 #[.pointer (some ⟨bb, 0, none⟩), .slice (some ⟨og, a, none⟩) dl dc] w fun e w' => ∃ S' c', e = .returned (.int .i64 (N : Int)) ∧ Blk w' bb (bufC pb (gone + N) len m c') 232 ∧ Row w' B 153 c' n rest ∧ c'.ownBlock = c.ownBlock ∧
      Blk w' pb (({ p with used := p.used - 1 } : Ps).cells S') 173 ∧ Row w' B 153 S' (sp ++ [v]).length (sp ++ [v]) ∧ (S'.ownBlock = S.ownBlock ∨ ∃ g, S'.ownBlock = some g ∧ w.heap.size ≤ g) ∧ Blk w' og (cur.take a ++ bc ((bs.drop r).take N) ++ cur.drop (a + N)) 5 ∧ Mv B (fun b => b = pb ∨ b = bb ∨ b = og ∨ S.ownBlock = some b) w w' := by
  have c0 := hb.cell (show (bufC pb gone len m c)[0]? = some _ from rfl)
  have c1 := hb.cell (show (bufC pb gone len m c)[1]? = some _ from rfl)
  have c4 := hb.cell (show (bufC pb gone len m c)[4]? = some _ from rfl)
  have d1 := hp.cell (show (p.cells S)[1]? = some _ from rfl)
  have d2 := hp.cell (show (p.cells S)[2]? = some _ from rfl)
  obtain ⟨M, hM⟩ : ∃ M, p.mem = M := ⟨_, rfl⟩
  obtain ⟨C, hC⟩ : ∃ C, p.ch = C := ⟨_, rfl⟩
  rw [hM] at d1 hD hD2 hmost
  rw [hC] at d2 hrem hrem2 hC0 hmost
  replace hM := Lib.hid hM
  replace hC := Lib.hid hC
  have hpl := hp.lt
  have hbl := hb.lt
  obtain ⟨cg, co, cc, rfl, hcc, hcm, hBc⟩ := hc.form1 (Nat.succ_pos _)
  obtain ⟨hcg1, hcg2, hcg3⟩ := hcb cg rfl
  have v0 := hc.cell (j := 0) (u := v) rfl
  rw [Nat.add_zero] at v0
  obtain ⟨g, off, cap, rfl, hvc, hvm, hBg⟩ := hr.form1 (by omega)
  have hNd : N ≤ dl := by omega
  have hNK : r + N ≤ K := by omega
  have hcopy := fun W ty (h0 : W.heap = w.heap) (h01 : W.os = w.os) (h02 : W.tape = w.tape) (h03 : W.output = w.output) =>
    show ∃ w1, (Builtin.copy_ #[153, 153] ty #[.slice (some ⟨og, a, none⟩) dl dc, .slice (some ⟨g, off + r, none⟩) (K - r) (cap - r)]).run Tryz.prog W = .ok (.int .i64 (N : Int)) w1 ∧ (fun w1 : World => Blk w1 og (cur.take a ++ bc ((bs.drop r).take N) ++ cur.drop (a + N)) 5 ∧
      Blk w1 bb (bufC pb gone len m (.slice (some ⟨cg, co, none⟩) (n + 1) cc)) 232 ∧ Blk w1 pb (p.cells S) 173 ∧ Row w1 B 153 (.slice (some ⟨cg, co, none⟩) (n + 1) cc) (n + 1) (.slice (some ⟨g, off, none⟩) K cap :: rest) ∧ Mv B (fun b => b = bb ∨ b = og) w w1) w1 from by
    have hoW : Blk W og cur 5 := by unfold Blk; rw [h0]; exact ho
    have hrW : Row W B 5 (.slice (some ⟨g, off, none⟩) K cap) K (bc bs) := hr.keep fun g' _ => by rw [h0]
    have hcW : Row W B 153 (.slice (some ⟨cg, co, none⟩) (n + 1) cc) (n + 1) (.slice (some ⟨g, off, none⟩) K cap :: rest) := hc.keep fun g' _ => by rw [h0]
    have hbW : Blk W bb _ _ := show W.heap[bb]? = _ by rw [h0]; exact hb
    have hpW : Blk W pb _ _ := show W.heap[pb]? = _ by rw [h0]; exact hp
    have hmW : Mv B (fun b => b = bb ∨ b = og) w W := ⟨h01, h02, h03, by rw [h0]; exact Nat.le_refl _, fun b _ _ => by rw [h0], fun b _ _ => by rw [h0]⟩
    have hrun := run_copy_stretch (P := Tryz.prog) W ty Tryz.underlying153 (by kernel_rfl) B og a dl dc g off cap r N cur bs hoW (by omega) (by rw [hK]; exact hrW) (by rw [hK]; exact hN)
    rw [hK] at hrun
    refine ⟨_, hrun, hoW.row _, (setRow_other W og bb _ (fun h => hob.1 h.symm)).trans hbW, (setRow_other W og pb _ (fun h => hob.2.1 h.symm)).trans hpW, hcW.keep fun g' hg' => setRow_other W og g' _ (hcb g' hg').2.2, hmW.trans (Mv.row (S := fun b => b = bb ∨ b = og) hoW (.inr rfl) four_byte hBo _)⟩
  replace hp := Lib.hid hp
  replace hb := Lib.hid hb
  replace hc := Lib.hid hc
  replace hr := Lib.hid hr
  replace hN := Lib.hid hN
  replace hK := Lib.hid hK
  replace ho := Lib.hid ho
  replace hob := Lib.hid hob
  replace hcb := Lib.hid hcb
  unfold maxLen at hcm hvm
  have hi0 : (0 : Int) ≤ (r : Int) := by omega
  have hi1 : (r : Int) ≤ (K : Int) := by omega
  have hi2 : ¬ cap = r := by omega
  have hn0 : (0 : Int) ≤ (n : Int) := by omega
  have hn1 : (0 : Int) < (n : Int) + 1 := by omega
  have hlt : ¬ (gone : Int) < (M : Int) := by omega
  have hC1 : C ≠ 0 := by omega
  have hwD : IntKind.i64.wrap (D : Int) = (D : Int) := by rw [IntKind.wrap_i64]; omega
  have hwD2 : IntKind.i64.wrap (D2 : Int) = (D2 : Int) := by rw [IntKind.wrap_i64]; omega
  go_enter Tryz.func279, Tryz.ntmps279
  go_upto_region 2 with fail
  go_quiet (fail)
  go_wp2_with fail
  go_region_held3 (fun w' => w'.cell? ⟨bb, 4, none⟩ = some (.slice (some ⟨cg, co, none⟩) (n + 1) cc) ∧ w'.cell? ⟨cg, co, none⟩ = some (.slice (some ⟨g, off, none⟩) K cap) ∧ w'.cell? ⟨bb, 1, none⟩ = some (.int .i64 (gone : Int)) ∧ w'.cell? ⟨pb, 1, none⟩ = some (.int .i64 (M : Int)) ∧ w'.cell? ⟨pb, 2, none⟩ = some (.int .i64 (C : Int)))
    (first | go_keep | exact hk)
    ((refine step_copy_ex rfl _ _ 153 153 rfl _ _ _ _ rfl rfl (hcopy _ _ rfl rfl rfl rfl) ?_; rintro w1 ⟨ho1, hb1, hp1, hc1, m1⟩; have hk : w1.cell? ⟨bb, 4, none⟩ = some (.slice (some ⟨cg, co, none⟩) (n + 1) cc) ∧ w1.cell? ⟨cg, co, none⟩ = some (.slice (some ⟨g, off, none⟩) K cap) ∧ w1.cell? ⟨bb, 1, none⟩ = some (.int .i64 (gone : Int)) ∧ w1.cell? ⟨pb, 1, none⟩ = some (.int .i64 (M : Int)) ∧ w1.cell? ⟨pb, 2, none⟩ = some (.int .i64 (C : Int)) :=
      ⟨hb1.cell rfl, hc1.cell (j := 0) rfl, hb1.cell rfl, by rw [← hM.out]; exact hp1.cell rfl, by rw [← hC.out]; exact hp1.cell rfl⟩))
  clear c0 c1 c4 d1 d2 hcopy hk v0
  have c1 := hb1.cell (show (bufC pb gone len m (.slice (some ⟨cg, co, none⟩) (n + 1) cc))[1]? = some _ from rfl)
  have f1 := hb1.frozen 1
  have hbl1 := hb1.lt
  replace ho1 := Lib.hid ho1
  replace hb1 := Lib.hid hb1
  replace hp1 := Lib.hid hp1
  replace hc1 := Lib.hid hc1
  replace m1 := Lib.hid m1
  go_upto_region 10 with fail
  have eN : ((gone : Int) + (N : Int)) = ((gone + N : Nat) : Int) := rfl
  have hb2 := hb1.out.set 1 (.int .i64 ((gone + N : Nat) : Int))
  have e2 : (bufC pb gone len m (.slice (some ⟨cg, co, none⟩) (n + 1) cc)).set 1 (.int .i64 ((gone + N : Nat) : Int)) = bufC pb (gone + N) len m (.slice (some ⟨cg, co, none⟩) (n + 1) cc) := rfl
  rw [e2] at hb2
  rw [eN]
  have hp2 := hp1.out.other (a := ⟨bb, 1, none⟩) hne (.int .i64 ((gone + N : Nat) : Int))
  have ho2 := ho1.out.other (a := ⟨bb, 1, none⟩) hob.out.1 (.int .i64 ((gone + N : Nat) : Int))
  have hc2 : Row (w1.setCell ⟨bb, 1, none⟩ (.int .i64 ((gone + N : Nat) : Int))) B 153 (.slice (some ⟨cg, co, none⟩) (n + 1) cc) (n + 1) (.slice (some ⟨g, off, none⟩) K cap :: rest) := hc1.out.keep fun g' hg' => heap_setCell_other w1 _ g' _ (hcb.out g' hg').1
  have m2 := m1.out.trans (Mv.set (S := fun b => b = bb ∨ b = og) hb1.out (.inl rfl) four_buf hBb 1 (.int .i64 ((gone + N : Nat) : Int)))
  generalize w1.setCell ⟨bb, 1, none⟩ (.int .i64 ((gone + N : Nat) : Int)) = w2 at hb2 hp2 ho2 hc2 m2 ⊢
  obtain ⟨G, hG⟩ : ∃ G, gone + N = G := ⟨_, rfl⟩
  rw [hG] at hb2 hD2 ⊢
  clear c1 f1 eN e2 hrem hD hwD hlt
  have c1 := hb2.cell (show (bufC pb G len m (.slice (some ⟨cg, co, none⟩) (n + 1) cc))[1]? = some _ from rfl)
  have c4 := hb2.cell (show (bufC pb G len m (.slice (some ⟨cg, co, none⟩) (n + 1) cc))[4]? = some _ from rfl)
  have d1 := hp2.cell (show (p.cells S)[1]? = some _ from rfl)
  have d2 := hp2.cell (show (p.cells S)[2]? = some _ from rfl)
  simp only [hM.out] at d1
  simp only [hC.out] at d2
  have hbl2 := hb2.lt
  have hpl2 := hp2.lt
  replace ho2 := Lib.hid ho2
  replace hb2 := Lib.hid hb2
  replace hp2 := Lib.hid hp2
  replace m2 := Lib.hid m2
  replace hG := Lib.hid hG
  have hS2 : Row w2 B 153 S sp.length sp := hS.mv m2.out fun g' hg' h => h.elim (hSb g' hg').1 (hSb g' hg').2.2.1
  have hsz2 := m2.out.size
  have v0 := hc2.cell (j := 0) (u := .slice (some ⟨g, off, none⟩) K cap) rfl
  rw [Nat.add_zero] at v0
  have hcl2 := (hc2.lt (g := cg) rfl).2.1
  have hm2 : Mv B (fun b => b = pb ∨ b = bb ∨ b = og ∨ S.ownBlock = some b) w w2 := m2.out.mono fun b _ h => .inr (h.imp id .inl)
  have hgo := (Row.lt (w := w) hr.out (g := g) rfl).2.1
  replace hm2 := Lib.hid hm2
  replace hc2 := Lib.hid hc2
  replace hS2 := Lib.hid hS2
  replace hS := Lib.hid hS
  replace hSb := Lib.hid hSb
  go_quiet (fail)
  go_wp2_with fail
  refine (leave_any B pb p S _ sp [.slice (some ⟨g, off, none⟩) K cap] _ ?_ hBp ?_ ?_ (fun g' h => (hSb.out g' h).2.1) ?_ ?_ ?_ ?_ hu2 hsp).mono ?_
  · exact hp2.out.alloc _
  · show B ≤ (w2.alloc _).heap.size
    simp; omega
  · exact hS2.out.keep fun g' hg' => Below.heap_alloc w2 _ g' (hS2.out.lt hg').2.1
  · exact .inr ⟨w2.heap.size, 0, 1, [.slice (some ⟨g, off, none⟩) K cap], rfl, by omega, Blk.new w2 _ _, Nat.le_refl _, by decide, by simp, rfl⟩
  · intro g' h
    cases h
    exact Nat.ne_of_gt hpl2
  · simp [Value.oneCell']
  · exact hu
  rintro e w4 ⟨S', rfl, hp4, hS4, hSo, m4'⟩
  have m4 : Mv B (fun b => b = pb ∨ S.ownBlock = some b) (w2.alloc (.cells #[.slice (some ⟨g, off, none⟩) K cap] 153)) w4 := ⟨m4'.os, m4'.tape, m4'.output, m4'.size, m4'.block, m4'.keep⟩
  have m24 := (Mv.alloc B (fun b => b = pb ∨ S.ownBlock = some b) w2 (.cells #[.slice (some ⟨g, off, none⟩) K cap] 153)).trans m4
  have hb4 : Blk w4 bb _ _ := hb2.out.mv m24 fun h => h.elim (fun h => hne h.symm) (fun h => (hSb.out bb h).1 rfl)
  have ho4 : Blk w4 og _ _ := ho2.out.mv m24 fun h => h.elim (fun h => hob.out.2.1 h) (fun h => (hSb.out og h).2.2.1 rfl)
  have hc4 := hc2.out.mv m24 fun g' hg' h => h.elim (fun h => (hcb.out g' hg').2.1 h) (fun h => (hSb.out g' h).2.2.2 hg')
  have m4w := hm2.out.trans (m24.mono fun b _ h => h.imp id fun h => .inr (.inr h))
  have hSn : ∀ g', S'.ownBlock = some g' → g' ≠ bb := by
    intro g' hg'
    rcases hSo with h | h
    · exact (hSb.out g' (by rw [← h]; exact hg')).1
    · rw [h] at hg'
      have h1 : (w2.alloc (.cells #[.slice (some ⟨g, off, none⟩) K cap] 153)).heap.size = g' := Option.some.inj hg'
      have h2 : (w2.alloc (.cells #[.slice (some ⟨g, off, none⟩) K cap] 153)).heap.size = w2.heap.size + 1 := by simp
      omega
  have hSo : S'.ownBlock = S.ownBlock ∨ ∃ g', S'.ownBlock = some g' ∧ w.heap.size ≤ g' := by
    rcases hSo with h | h
    · exact .inl h
    · refine .inr ⟨_, h, ?_⟩
      have h2 : (w2.alloc (.cells #[.slice (some ⟨g, off, none⟩) K cap] 153)).heap.size = w2.heap.size + 1 := by simp
      show w.heap.size ≤ (w2.alloc (.cells #[.slice (some ⟨g, off, none⟩) K cap] 153)).heap.size
      omega
  clear m4' m4 c1 c4 d1 d2 v0
  have c4 := hb4.cell (show (bufC pb G len m (.slice (some ⟨cg, co, none⟩) (n + 1) cc))[4]? = some _ from rfl)
  have f4 := hb4.frozen 4
  have hbl4 := hb4.lt
  have htl := hc4.tail 1 (by omega)
  have hn11 : n + 1 - 1 = n := by omega
  rw [hn11, List.drop_succ_cons, List.drop_zero] at htl
  replace hp4 := Lib.hid hp4
  replace hS4 := Lib.hid hS4
  replace hSo := Lib.hid hSo
  replace hSn := Lib.hid hSn
  replace m24 := Lib.hid m24
  replace hb4 := Lib.hid hb4
  replace ho4 := Lib.hid ho4
  replace hc4 := Lib.hid hc4
  replace m4w := Lib.hid m4w
  have hj1 : (1 : Int) ≤ (n : Int) + 1 := by omega
  by_cases hcc1 : cc = 1
  · rw [if_pos hcc1] at htl
    subst hcc1
    replace htl := Lib.hid htl
    go_wp2
    go_ret
    have hb5 := hb4.out.set 4 (.slice (some ⟨cg, co, none⟩) n 0)
    have e5 : (bufC pb G len m (.slice (some ⟨cg, co, none⟩) (n + 1) 1)).set 4 (.slice (some ⟨cg, co, none⟩) n 0) = bufC pb G len m (.slice (some ⟨cg, co, none⟩) n 0) := rfl
    rw [e5] at hb5
    have m5 := m4w.out.trans (Mv.set hb4.out (.inr (.inl rfl)) four_buf hBb 4 (.slice (some ⟨cg, co, none⟩) n 0))
    refine ⟨S', .slice (some ⟨cg, co, none⟩) n 0, rfl, by rw [hG.out]; exact hb5, ?_, rfl, hp4.out.other (a := ⟨bb, 4, none⟩) hne _, hS4.out.keep fun g' hg' => heap_setCell_other w4 _ g' _ (hSn.out g' hg'), ?_, ho4.out.other (a := ⟨bb, 4, none⟩) hob.out.1 _, m5⟩
    · exact htl.out.keep fun g' hg' => heap_setCell_other w4 _ g' _ (by cases hg'; exact hcg1)
    · exact hSo.out
  · rw [if_neg hcc1, Option.map_some, add_plain0] at htl
    replace htl := Lib.hid htl
    go_wp2
    go_ret
    have hb5 := hb4.out.set 4 (.slice (some ⟨cg, co + 1, none⟩) n (cc - 1))
    have e5 : (bufC pb G len m (.slice (some ⟨cg, co, none⟩) (n + 1) cc)).set 4 (.slice (some ⟨cg, co + 1, none⟩) n (cc - 1)) = bufC pb G len m (.slice (some ⟨cg, co + 1, none⟩) n (cc - 1)) := rfl
    rw [e5] at hb5
    have m5 := m4w.out.trans (Mv.set hb4.out (.inr (.inl rfl)) four_buf hBb 4 (.slice (some ⟨cg, co + 1, none⟩) n (cc - 1)))
    refine ⟨S', .slice (some ⟨cg, co + 1, none⟩) n (cc - 1), rfl, by rw [hG.out]; exact hb5, ?_, rfl, hp4.out.other (a := ⟨bb, 4, none⟩) hne _, hS4.out.keep fun g' hg' => heap_setCell_other w4 _ g' _ (hSn.out g' hg'), ?_, ho4.out.other (a := ⟨bb, 4, none⟩) hob.out.1 _, m5⟩
    · exact htl.out.keep fun g' hg' => heap_setCell_other w4 _ g' _ (by cases hg'; exact hcg1)
    · exact hSo.out
end Go.Proofs.YtfofpphnglhopaaGreatDoor
