/-
  put, whatever way: the buffer has a beginning of the data more; the pool and the other buffers stand. Conditions: something is to be moved; at most a million bytes and chunks; numbers of the size of a pool's.
-/
import Derived.Test.YtbjakhiflgjflaaGreatDoorSpState
import Derived.Test.YtbjakhiflgjflaaGreatDoorSpPut3
namespace Go.Proofs.YtbjakhiflgjflaaGreatDoor
open Go Go.RowKit

theorem lab_ne {lab : Nat → Lab} {a b : Nat} {x y : Lab} (ha : lab a = x) (hb : lab b = y) (h : x ≠ y) : a ≠ b := fun e => h (by rw [← ha, ← hb, e])
theorem nd_last {init : List Value} {v : Value} (h : ((init ++ [v]).filterMap Value.ownBlock).Nodup) : (init.filterMap Value.ownBlock).Nodup ∧ ∀ u ∈ init, ∀ g, u.ownBlock = some g → v.ownBlock ≠ some g := by
  rw [List.filterMap_append, List.nodup_append] at h
  refine ⟨h.1, fun u hu g hg hv => ?_⟩
  exact h.2.2 g (List.mem_filterMap.2 ⟨u, hu, hg⟩) g (List.mem_filterMap.2 ⟨v, by simp, hv⟩) rfl
theorem nd_app {a b : List Value} (ha : (a.filterMap Value.ownBlock).Nodup) (hb : (b.filterMap Value.ownBlock).Nodup) (h : ∀ u ∈ a, ∀ g, u.ownBlock = some g → ∀ v ∈ b, v.ownBlock ≠ some g) : ((a ++ b).filterMap Value.ownBlock).Nodup := by
  rw [List.filterMap_append, List.nodup_append]
  refine ⟨ha, hb, fun x hx y hy e => ?_⟩
  subst e
  obtain ⟨u, hu, h1⟩ := List.mem_filterMap.1 hx
  obtain ⟨v, hv, h2⟩ := List.mem_filterMap.1 hy
  exact h u hu x h1 v hv h2
theorem nd_one (v : Value) : ([v].filterMap Value.ownBlock).Nodup := by
  cases h : v.ownBlock <;> simp [h]
theorem nd_snoc {init : List Value} {v : Value} (h : (init.filterMap Value.ownBlock).Nodup) (hv : ∀ u ∈ init, ∀ g, u.ownBlock = some g → v.ownBlock ≠ some g) : ((init ++ [v]).filterMap Value.ownBlock).Nodup :=
  nd_app h (nd_one v) fun u hu g hg x hx => by
    obtain rfl := List.mem_singleton.1 hx
    exact hv u hu g hg
theorem nd_head {rest : List Value} {v : Value} (h : ((v :: rest).filterMap Value.ownBlock).Nodup) : (rest.filterMap Value.ownBlock).Nodup ∧ ∀ u ∈ rest, ∀ g, u.ownBlock = some g → v.ownBlock ≠ some g := by
  have h2 : (([v] ++ rest).filterMap Value.ownBlock).Nodup := h
  rw [List.filterMap_append, List.nodup_append] at h2
  refine ⟨h2.2.1, fun u hu g hg hv => ?_⟩
  exact h2.2.2 g (List.mem_filterMap.2 ⟨v, by simp, hv⟩) g (List.mem_filterMap.2 ⟨u, hu, hg⟩) rfl

theorem Step.more {B k n0 n1 : Nat} {w w' : World} {lab lab' : Nat → Lab} (h : Step B k n0 w lab w' lab') (hn : n1 ≤ n0) : Step B k n1 w lab w' lab' :=
  ⟨h.mv.mono fun _ _ hg => hg.imp id fun h => by omega, h.lb, h.new⟩

/-- What a put leaves. -/
def PutPost (B pb bb k : Nat) (lab : Nat → Lab) (p : Ps) (sp : List Value) (b : Bs) (data : ByteArray) (w : World) (e : Ending) (w' : World) : Prop :=
  ∃ (n : Nat) (lab' : Nat → Lab) (u : Nat) (S' : Value) (sp' : List Value) (b' : Bs), 0 < n ∧ n ≤ data.size ∧ e = .returned (.int .i64 (n : Int)) ∧ PoolAt w' B lab' pb { p with used := u } S' sp' ∧
    Blk w' bb (bufC pb b.gone b.all.length b'.m b'.c) 232 ∧ BufR w' B lab' bb k p.mem p.ch b' ∧ b'.all = b.all ++ (tl data).take n ∧ b'.gone = b.gone ∧
    Step B k w.heap.size w lab w' lab' ∧ u + b.cs.length = p.used + b'.cs.length ∧ sp'.length + u ≤ sp.length + p.used + 1

section
variable {B pb bb k : Nat} {lab : Nat → Lab} {p : Ps} {S : Value} {sp : List Value} {b : Bs} {data : ByteArray} {w : World}

theorem put_step1 (hP : PoolAt w B lab pb p S sp) (hblk : Blk w bb (bufC pb b.gone b.all.length b.m b.c) 232) (hR : BufR w B lab bb k p.mem p.ch b) (hnew : ∀ g, w.heap.size ≤ g → lab g = .free) (hB : B ≤ w.heap.size)
    (hd : 0 < data.size) (hds : data.size ≤ 1000000) (hlt : b.all.length < p.mem) (hmem : p.mem ≤ 65536) :
    Calls Tryz.prog 284 #[.pointer (some ⟨bb, 0, none⟩), .string data] w (PutPost B pb bb k lab p sp b data w) := by
  have hg : b.gone < p.mem := Nat.lt_of_le_of_lt hR.gl hlt
  have hall : b.all.take p.mem = b.all := List.take_of_length_le (by omega)
  have hrow := hR.mm hg
  rw [hall] at hrow
  have hcs : b.cs = [] := by
    refine List.eq_nil_of_length_eq_zero (Nat.eq_zero_of_not_pos fun h => ?_)
    have := hR.lo 0 h
    obtain ⟨q, hq⟩ := hR.qq
    omega
  have hQ : b.Q = p.mem := by
    rcases hR.qg with h | h
    · exact h.2
    · obtain ⟨q, hq⟩ := hR.qq; omega
  refine (put_mem B pb bb b.gone b.all.length p S b.m b.c b.all data w hP.blk hblk (lab_ne hP.lb hR.lb nofun) hR.low hB rfl hrow (fun g h => ⟨lab_ne (hR.ml hg g h) hR.lb (by simp), lab_ne (hR.ml hg g h) hP.lb nofun⟩) hd hlt hmem (by omega)).mono ?_
  rintro e w' ⟨n, m', hn, he, hb', hr', hm, how, hne'⟩
  have hn0 : 0 < n := by omega
  have hnd : n ≤ data.size := by omega
  have hlab : ∀ g, g < w.heap.size → relab lab m' (.own k 1) g = lab g := by
    intro g hgl
    by_cases h : m'.ownBlock = some g
    · rw [relab_of h]
      rcases how with h2 | h2
      · exact (hR.ml hg g (h2 ▸ h)).symm
      · rw [h2] at h; cases h; omega
    · exact relab_ne h
  have hxl : ((tl data).take n).length = n := by rw [List.length_take, tl_len]; omega
  have hal : (b.all ++ (tl data).take n).length = b.all.length + n := by rw [List.length_append, hxl]
  have htk : (b.all ++ (tl data).take n).take p.mem = b.all ++ (tl data).take n := List.take_of_length_le (by omega)
  have hbl : bb < w.heap.size := hblk.lt
  have hst : ∀ g, g < w.heap.size → (lab g = .pool ∨ lab g = .sparr ∨ lab g = .spare ∨ lab g = .own k 2) → w'.heap[g]? = w.heap[g]? := fun g hgl hl => hm.block g hgl fun h => by
    rcases h with h | h
    · rw [h, hR.lb] at hl
      simp at hl
    · rw [hR.ml hg g h] at hl
      simp at hl
  refine ⟨n, relab lab m' (.own k 1), p.used, S, sp, ⟨b.all ++ (tl data).take n, b.gone, b.Q, m', b.c, b.cs⟩, hn0, hnd, he, hP.keep (fun g hgl hl => ⟨hst g hgl (by rcases hl with h | h | h <;> simp [h]), hlab g hgl⟩), hb', ?_, rfl, rfl, ⟨hm.mono fun g _ h => .inl ?_, fun g hgl _ => hlab g hgl, fun g hgl => ?_⟩, rfl, Nat.le_succ _⟩
  · exact {
      low := hR.low
      lb := (hlab bb hbl).trans hR.lb
      gl := by show b.gone ≤ (b.all ++ (tl data).take n).length; have := hR.gl; omega
      mm := fun _ => by show Row w' B _ m' ((b.all ++ (tl data).take n).take p.mem).length (bc ((b.all ++ (tl data).take n).take p.mem)); rw [htk]; exact hr'
      ml := fun _ g h => relab_of h
      arr := hR.arr.keep fun g h => hst g (hR.arr.lt h).2.1 (.inr (.inr (.inr (hR.arl g h))))
      arl := fun g h => (hlab g (hR.arr.lt h).2.1).trans (hR.arl g h)
      qq := hR.qq
      qg := hR.qg
      hi := by show (b.all ++ (tl data).take n).length - b.Q ≤ _; rw [hal]; omega
      lo := fun i hi => by simp [hcs] at hi
      str := fun i v hv => by simp [hcs] at hv
      stl := fun v hv => by simp [hcs] at hv
      nd := by simp [hcs] }
  · rcases h with h | h
    · rw [h, hR.lb]; rfl
    · rw [hR.ml hg g h]; rfl
  · have h1 : m'.ownBlock ≠ some g := fun h => by
      have := (hr'.lt h).2.1
      omega
    rw [relab_ne h1]
    exact hnew g (Nat.le_trans hm.size hgl)

theorem put_step3 (hP : PoolAt w B lab pb p S sp) (hblk : Blk w bb (bufC pb b.gone b.all.length b.m b.c) 232) (hR : BufR w B lab bb k p.mem p.ch b) (hnew : ∀ g, w.heap.size ≤ g → lab g = .free) (hB : B ≤ w.heap.size)
    (hd : 0 < data.size) (hds : data.size ≤ 1000000) (hlen : b.all.length ≤ 1000000) (hge : p.mem ≤ b.all.length) (hch : 0 < p.ch ∧ p.ch ≤ 65536) (hmod : 0 < (b.all.length - p.mem) % p.ch) :
    Calls Tryz.prog 284 #[.pointer (some ⟨bb, 0, none⟩), .string data] w (PutPost B pb bb k lab p sp b data w) := by
  obtain ⟨q, hq⟩ := hR.qq
  have hQl : b.Q ≤ b.all.length := by
    have := hR.gl
    rcases hR.qg with h | h <;> omega
  have hov := over_of (D := b.all.length - p.mem) hq hQl rfl
  rcases List.eq_nil_or_concat b.cs with hnil | ⟨init, v, hcs⟩
  · have := hR.hi
    rw [hnil, List.length_nil, Nat.zero_mul] at this
    rw [hov, show b.all.length - b.Q = 0 by omega, Nat.zero_mod] at hmod
    omega
  rw [List.concat_eq_append] at hcs
  have hL : b.cs.length = init.length + 1 := by rw [hcs, List.length_append]; rfl
  have hlo := hR.lo init.length (by omega)
  have hhi := hR.hi
  rw [hL, Nat.add_mul, Nat.one_mul] at hhi
  have hlt : b.all.length - (b.Q + init.length * p.ch) < p.ch := by
    refine Classical.byContradiction fun h => ?_
    have e : b.all.length - b.Q = init.length * p.ch + p.ch := by omega
    rw [hov, e, Nat.add_mod_right, Nat.mul_mod_left] at hmod
    omega
  have hbl : (chunkB b.all b.Q p.ch init.length).length = b.all.length - (b.Q + init.length * p.ch) := by rw [chunkB_len]; omega
  have hvi : b.cs[init.length]? = some v := by rw [hcs]; simp
  have hvm : v ∈ b.cs := List.mem_of_getElem? hvi
  have hvr := hR.str _ v hvi
  have harr := hR.arr
  rw [hcs, List.length_append] at harr
  have hnd := hR.nd
  rw [hcs] at hnd
  obtain ⟨hnd1, hnd2⟩ := nd_last hnd
  refine (put_last B pb bb b.gone b.all.length ((b.all.length - p.mem) % p.ch) (b.all.length - p.mem) p S b.m b.c v init (chunkB b.all b.Q p.ch init.length) data w hP.blk hblk hB harr
    (fun g h => ⟨lab_ne (hR.arl g h) hR.lb (by simp), lab_ne (hR.arl g h) hP.lb nofun, fun h2 => lab_ne (hR.arl g h) (hR.stl v hvm g h2) (by simp) rfl⟩) hvr (fun g h => ⟨lab_ne (hR.stl v hvm g h) hR.lb (by simp), lab_ne (hR.stl v hvm g h) hP.lb nofun⟩)
    hd (by omega) (by omega) hch.2 (by omega) (by omega) (tmod_nat _ _) hmod).mono ?_
  rintro e w' ⟨n, v', hn, he, hrow, hr', hm, how⟩
  have hn0 : 0 < n := by omega
  have hndd : n ≤ data.size := by omega
  have hlab : ∀ g, g < w.heap.size → relab lab v' (.own k 3) g = lab g := by
    intro g hgl
    by_cases h : v'.ownBlock = some g
    · rw [relab_of h]
      rcases how with h2 | h2
      · exact (hR.stl v hvm g (h2 ▸ h)).symm
      · rw [h2] at h; cases h; omega
    · exact relab_ne h
  have hxl : ((tl data).take n).length = n := by rw [List.length_take, tl_len]; omega
  have hal : (b.all ++ (tl data).take n).length = b.all.length + n := by rw [List.length_append, hxl]
  have hbbl : bb < w.heap.size := hblk.lt
  have hst : ∀ g, g < w.heap.size → (lab g = .pool ∨ lab g = .sparr ∨ lab g = .spare ∨ lab g = .own k 0 ∨ lab g = .own k 1) → w'.heap[g]? = w.heap[g]? := fun g hgl hl => hm.block g hgl fun h => by
    rcases h with h | h
    · rw [hR.arl g h] at hl
      simp at hl
    · rw [hR.stl v hvm g h] at hl
      simp at hl
  refine ⟨n, relab lab v' (.own k 3), p.used, S, sp, ⟨b.all ++ (tl data).take n, b.gone, b.Q, b.m, b.c, init ++ [v']⟩, hn0, hndd, he, hP.keep (fun g hgl hl => ⟨hst g hgl (by rcases hl with h | h | h <;> simp [h]), hlab g hgl⟩), ?_, ?_, rfl, rfl, ⟨hm.mono fun g _ h => .inl ?_, fun g hgl _ => hlab g hgl, fun g hgl => ?_⟩, ?_, Nat.le_succ _⟩
  · exact (hst bb hbbl (.inr (.inr (.inr (.inl hR.lb))))).trans hblk
  · exact {
      low := hR.low
      lb := (hlab bb hbbl).trans hR.lb
      gl := by show b.gone ≤ (b.all ++ (tl data).take n).length; have := hR.gl; omega
      mm := fun hg => by
        have hg : b.gone < p.mem := hg
        show Row w' B _ b.m ((b.all ++ (tl data).take n).take p.mem).length (bc ((b.all ++ (tl data).take n).take p.mem))
        rw [List.take_append_of_le_length hge]
        exact (hR.mm hg).keep fun g h => hst g ((hR.mm hg).lt h).2.1 (.inr (.inr (.inr (.inr (hR.ml hg g h)))))
      ml := fun hg g h => (hlab g ((hR.mm hg).lt h).2.1).trans (hR.ml hg g h)
      arr := by show Row w' B _ b.c (init ++ [v']).length (init ++ [v']); rw [List.length_append]; exact hrow
      arl := fun g h => (hlab g (hR.arr.lt h).2.1).trans (hR.arl g h)
      qq := hR.qq
      qg := hR.qg
      hi := by
        show (b.all ++ (tl data).take n).length - b.Q ≤ (init ++ [v']).length * p.ch
        rw [hal, List.length_append, List.length_singleton, Nat.add_mul, Nat.one_mul]
        omega
      lo := fun i hi => by
        have hi : i < (init ++ [v']).length := hi
        show b.Q + i * p.ch < (b.all ++ (tl data).take n).length
        rw [List.length_append, List.length_singleton] at hi
        have := Nat.mul_le_mul_right p.ch (show i ≤ init.length by omega)
        omega
      str := fun i u hu => by
        have hu : (init ++ [v'])[i]? = some u := hu
        show Row w' B _ u (chunkB (b.all ++ (tl data).take n) b.Q p.ch i).length (bc (chunkB (b.all ++ (tl data).take n) b.Q p.ch i))
        rcases Nat.lt_trichotomy i init.length with h | h | h
        · rw [List.getElem?_append_left h] at hu
          have hu2 : b.cs[i]? = some u := by rw [hcs, List.getElem?_append_left h]; exact hu
          have hum := List.mem_of_getElem? hu
          have := mul_step p.ch h
          rw [chunkB_left (by omega)]
          refine (hR.str i u hu2).keep fun g hg => hm.block g ((hR.str i u hu2).lt hg).2.1 fun h => ?_
          rcases h with h | h
          · exact lab_ne (hR.arl g h) (hR.stl u (List.mem_of_getElem? hu2) g hg) (by simp) rfl
          · exact hnd2 u hum g hg h
        · subst h
          rw [List.getElem?_append_right (Nat.le_refl _), Nat.sub_self] at hu
          obtain rfl : v' = u := by simpa using hu
          rw [chunkB_right (by omega) (by omega)]
          exact hr'
        · rw [List.getElem?_eq_none (by rw [List.length_append, List.length_singleton]; omega)] at hu
          cases hu
      stl := fun u hu g hg => by
        have hu : u ∈ init ++ [v'] := hu
        rcases List.mem_append.1 hu with h | h
        · have hum : u ∈ b.cs := by rw [hcs]; exact List.mem_append_left _ h
          obtain ⟨i, hi⟩ := List.getElem?_of_mem hum
          exact (hlab g ((hR.str i u hi).lt hg).2.1).trans (hR.stl u hum g hg)
        · obtain rfl := List.mem_singleton.1 h
          exact relab_of hg
      nd := nd_snoc hnd1 fun u hu g hg hv' => by
        have hum : u ∈ b.cs := by rw [hcs]; exact List.mem_append_left _ hu
        obtain ⟨i, hi⟩ := List.getElem?_of_mem hum
        rcases how with h | h
        · exact hnd2 u hu g hg (h ▸ hv')
        · rw [h] at hv'
          cases hv'
          exact absurd ((hR.str i u hi).lt hg).2.1 (Nat.lt_irrefl _) }
  · rcases h with h | h
    · rw [hR.arl g h]; rfl
    · rw [hR.stl v hvm g h]; rfl
  · have h1 : v'.ownBlock ≠ some g := fun h => by
      have := (hr'.lt h).2.1
      omega
    rw [relab_ne h1]
    exact hnew g (Nat.le_trans hm.size hgl)
  · show p.used + b.cs.length = p.used + (init ++ [v']).length
    rw [hL, List.length_append]; rfl

theorem put_step2 (hP : PoolAt w B lab pb p S sp) (hblk : Blk w bb (bufC pb b.gone b.all.length b.m b.c) 232) (hR : BufR w B lab bb k p.mem p.ch b) (hnew : ∀ g, w.heap.size ≤ g → lab g = .free)
    (hd : 0 < data.size) (hds : data.size ≤ 1000000) (hlen : b.all.length ≤ 1000000) (hge : p.mem ≤ b.all.length) (hch : 0 < p.ch ∧ p.ch ≤ 65536) (hmod : (b.all.length - p.mem) % p.ch = 0) (hfew : sp.length + p.used ≤ 1000000) (hfew2 : b.cs.length ≤ 1000000) :
    Calls Tryz.prog 284 #[.pointer (some ⟨bb, 0, none⟩), .string data] w (PutPost B pb bb k lab p sp b data w) := by
  obtain ⟨q, hq⟩ := hR.qq
  have hQl : b.Q ≤ b.all.length := by
    have := hR.gl
    rcases hR.qg with h | h <;> omega
  have hov := over_of (D := b.all.length - p.mem) hq hQl rfl
  rw [hov] at hmod
  have hfull : b.all.length = b.Q + b.cs.length * p.ch := by
    have hhi := hR.hi
    rcases Nat.eq_zero_or_pos b.cs.length with h0 | h0
    · rw [h0] at hhi ⊢
      omega
    · obtain ⟨I, hI⟩ : ∃ I, b.cs.length = I + 1 := ⟨b.cs.length - 1, by omega⟩
      have hlo := hR.lo I (by omega)
      rw [hI, Nat.add_mul, Nat.one_mul] at hhi ⊢
      refine Classical.byContradiction fun h => ?_
      have e : b.all.length - b.Q = (b.all.length - b.Q - I * p.ch) + I * p.ch := by omega
      rw [e, Nat.add_mul_mod_self_right, Nat.mod_eq_of_lt (by omega)] at hmod
      omega
  have hrem : ((b.all.length - p.mem : Nat) : Int).tmod (p.ch : Int) = 0 := by rw [tmod_nat, hov, hmod]; rfl
  have hst0 : ∀ v ∈ sp, ∀ g, v.ownBlock = some g → g < w.heap.size := fun v hv g hg => by
    obtain ⟨bs, hb⟩ := hP.str v hv
    exact (hb.lt hg).2.1
  have hcs0 : ∀ v ∈ b.cs, ∀ g, v.ownBlock = some g → g < w.heap.size := fun v hv g hg => by
    obtain ⟨i, hi⟩ := List.getElem?_of_mem hv
    exact ((hR.str i v hi).lt hg).2.1
  refine (put_new B pb bb b.gone b.all.length (b.all.length - p.mem) p S b.m b.c b.cs sp data w hP.blk hblk (lab_ne hP.lb hR.lb nofun) hP.low hR.low hR.arr
    (fun g h => ⟨lab_ne (hR.arl g h) hR.lb (by simp), lab_ne (hR.arl g h) hP.lb nofun⟩) hP.arr (fun g h => ⟨lab_ne (hP.arl g h) hR.lb nofun, lab_ne (hP.arl g h) hP.lb nofun, fun h2 => lab_ne (hP.arl g h) (hR.arl g h2) nofun rfl⟩)
    (fun v hv => ⟨hP.str v hv, fun g h => ⟨lab_ne (hP.stl v hv g h) hP.lb nofun, lab_ne (hP.stl v hv g h) hR.lb nofun, fun h2 => lab_ne (hP.stl v hv g h) (hR.arl g h2) nofun rfl, fun h2 => lab_ne (hP.stl v hv g h) (hP.arl g h2) nofun rfl⟩⟩)
    (by omega) hfew2 hd (by omega) hch.1 hch.2 (by omega) (by omega) hrem).mono ?_
  rintro e w' ⟨n, v, v', c', S', sp', hn, he, hb', hS', hSo, hvo, hbb', hco, hcr, hvr, hvo', hm⟩
  have hn0 : 0 < n := by have := hch.1; omega
  have hndd : n ≤ data.size := by omega
  have hxl : ((tl data).take n).length = n := by rw [List.length_take, tl_len]; omega
  have hal : (b.all ++ (tl data).take n).length = b.all.length + n := by rw [List.length_append, hxl]
  have hbbl : bb < w.heap.size := hblk.lt
  have hsub : ∀ u ∈ sp', u ∈ sp := fun u hu => by
    rcases hvo with ⟨_, _, h⟩ | ⟨v0, h, _⟩
    · rw [h] at hu; cases hu
    · rw [h]; exact List.mem_append_left _ hu
  have hvl : ∀ g, v.ownBlock = some g → lab g = .spare ∧ g < w.heap.size ∧ ∀ u ∈ sp', u.ownBlock ≠ some g := fun g hg => by
    rcases hvo with ⟨h, _, _⟩ | ⟨v0, h, h2⟩
    · rw [h] at hg; cases hg
    · have hv0 : v0 ∈ sp := by rw [h]; simp
      have hnd := hP.nd
      rw [h] at hnd
      exact ⟨hP.stl v0 hv0 g (h2 ▸ hg), hst0 v0 hv0 g (h2 ▸ hg), fun u hu hug => (nd_last hnd).2 u hu g hug (h2 ▸ hg)⟩
  have hv'l : ∀ g, v'.ownBlock = some g → (lab g = .spare ∧ v.ownBlock = some g) ∨ w.heap.size ≤ g := fun g hg => by
    rcases hvo' with h | ⟨g', h, h2, _⟩
    · exact .inl ⟨(hvl g (h ▸ hg)).1, h ▸ hg⟩
    · rw [h] at hg; cases hg; exact .inr h2
  have hc'l : ∀ g, c'.ownBlock = some g → (lab g = .own k 2 ∧ b.c.ownBlock = some g) ∨ w.heap.size ≤ g := fun g hg => by
    rcases hco with h | ⟨g', h, h2⟩
    · exact .inl ⟨hR.arl g (h ▸ hg), h ▸ hg⟩
    · rw [h] at hg; cases hg; exact .inr h2
  have hcv : ∀ g, c'.ownBlock = some g → v'.ownBlock ≠ some g := fun g hg hv => by
    rcases hvo' with h | ⟨g', h, h2, h3⟩
    · rcases hc'l g hg with h4 | h4
      · have h5 := (hvl g (h ▸ hv)).1
        rw [h4.1] at h5; cases h5
      · have := (hvl g (h ▸ hv)).2.1
        omega
    · rw [h] at hv; cases hv
      exact h3 hg
  have hlab : ∀ g, g < w.heap.size → lab g ≠ .spare → relab (relab lab c' (.own k 2)) v' (.own k 3) g = lab g := by
    intro g hgl hns
    have h1 : v'.ownBlock ≠ some g := fun h => by
      rcases hv'l g h with h2 | h2
      · exact hns h2.1
      · omega
    rw [relab_ne h1]
    by_cases h : c'.ownBlock = some g
    · rw [relab_of h]
      rcases hc'l g h with h2 | h2
      · exact h2.1.symm
      · omega
    · exact relab_ne h
  have hlabs : ∀ u ∈ sp', ∀ g, u.ownBlock = some g → relab (relab lab c' (.own k 2)) v' (.own k 3) g = .spare := by
    intro u hu g hg
    have hgl := hst0 u (hsub u hu) g hg
    have hsl := hP.stl u (hsub u hu) g hg
    have h1 : v'.ownBlock ≠ some g := fun h => by
      rcases hv'l g h with h2 | h2
      · exact (hvl g h2.2).2.2 u hu hg
      · omega
    have h3 : c'.ownBlock ≠ some g := fun h => by
      rcases hc'l g h with h2 | h2
      · rw [hsl] at h2; cases h2.1
      · omega
    rw [relab_ne h1, relab_ne h3]
    exact hsl
  have hst : ∀ g, g < w.heap.size → (lab g = .sparr ∨ lab g = .own k 1 ∨ lab g = .own k 3) → w'.heap[g]? = w.heap[g]? := fun g hgl hl => hm.block g hgl fun h => by
    rcases h with h | h | h | h | h
    · rw [h, hP.lb] at hl; simp at hl
    · rw [h, hR.lb] at hl; simp at hl
    · rw [hR.arl g h] at hl; simp at hl
    · rw [(hvl g h).1] at hl; simp at hl
    · omega
  have hsts : ∀ u ∈ sp', ∀ g, u.ownBlock = some g → w'.heap[g]? = w.heap[g]? := fun u hu g hg => hm.block g (hst0 u (hsub u hu) g hg) fun h => by
    have hsl := hP.stl u (hsub u hu) g hg
    rcases h with h | h | h | h | h
    · rw [h, hP.lb] at hsl; cases hsl
    · rw [h, hR.lb] at hsl; cases hsl
    · rw [hR.arl g h] at hsl; cases hsl
    · exact (hvl g h).2.2 u hu hg
    · have := hst0 u (hsub u hu) g hg; omega
  have hchn : chunkB (b.all ++ (tl data).take n) b.Q p.ch b.cs.length = (tl data).take n := by
    unfold chunkB
    rw [← hfull, List.drop_left' rfl, List.take_of_length_le (by omega)]
  refine ⟨n, relab (relab lab c' (.own k 2)) v' (.own k 3), p.used + 1, S', sp', ⟨b.all ++ (tl data).take n, b.gone, b.Q, b.m, c', b.cs ++ [v']⟩, hn0, hndd, he, ?_, hbb', ?_, rfl, rfl, ⟨hm.mono fun g hgl h => ?_, fun g hgl hmi => hlab g hgl (fun h => hmi (by rw [h]; trivial)), fun g hgl => ?_⟩, ?_, ?_⟩
  · exact {
      blk := hb'
      low := hP.low
      lb := (hlab pb hP.blk.lt (by rw [hP.lb]; simp)).trans hP.lb
      arr := hS'
      arl := fun g hg => (hlab g (hP.arr.lt (hSo ▸ hg)).2.1 (by rw [hP.arl g (hSo ▸ hg)]; simp)).trans (hP.arl g (hSo ▸ hg))
      str := fun u hu => by
        obtain ⟨bs, hb⟩ := hP.str u (hsub u hu)
        exact ⟨bs, hb.keep fun g hg => hsts u hu g hg⟩
      stl := fun u hu g hg => hlabs u hu g hg
      nd := by
        rcases hvo with ⟨_, _, h⟩ | ⟨v0, h, _⟩
        · rw [h]; simp
        · have hnd := hP.nd
          rw [h] at hnd
          exact (nd_last hnd).1 }
  · exact {
      low := hR.low
      lb := (hlab bb hbbl (by rw [hR.lb]; simp)).trans hR.lb
      gl := by show b.gone ≤ (b.all ++ (tl data).take n).length; have := hR.gl; omega
      mm := fun hg => by
        have hg : b.gone < p.mem := hg
        show Row w' B _ b.m ((b.all ++ (tl data).take n).take p.mem).length (bc ((b.all ++ (tl data).take n).take p.mem))
        rw [List.take_append_of_le_length hge]
        exact (hR.mm hg).keep fun g h => hst g ((hR.mm hg).lt h).2.1 (.inr (.inl (hR.ml hg g h)))
      ml := fun hg g h => (hlab g ((hR.mm hg).lt h).2.1 (by rw [hR.ml hg g h]; simp)).trans (hR.ml hg g h)
      arr := by show Row w' B _ c' (b.cs ++ [v']).length (b.cs ++ [v']); rw [List.length_append]; exact hcr
      arl := fun g h => (relab_ne (hcv g h)).trans (relab_of h)
      qq := hR.qq
      qg := hR.qg
      hi := by
        show (b.all ++ (tl data).take n).length - b.Q ≤ (b.cs ++ [v']).length * p.ch
        rw [hal, List.length_append, List.length_singleton, Nat.add_mul, Nat.one_mul]
        omega
      lo := fun i hi => by
        have hi : i < (b.cs ++ [v']).length := hi
        show b.Q + i * p.ch < (b.all ++ (tl data).take n).length
        rw [List.length_append, List.length_singleton] at hi
        have := Nat.mul_le_mul_right p.ch (show i ≤ b.cs.length by omega)
        omega
      str := fun i u hu => by
        have hu : (b.cs ++ [v'])[i]? = some u := hu
        show Row w' B _ u (chunkB (b.all ++ (tl data).take n) b.Q p.ch i).length (bc (chunkB (b.all ++ (tl data).take n) b.Q p.ch i))
        rcases Nat.lt_trichotomy i b.cs.length with h | h | h
        · rw [List.getElem?_append_left h] at hu
          have := mul_step p.ch h
          rw [chunkB_left (by omega)]
          exact (hR.str i u hu).keep fun g hg => hst g ((hR.str i u hu).lt hg).2.1 (.inr (.inr (hR.stl u (List.mem_of_getElem? hu) g hg)))
        · subst h
          rw [List.getElem?_append_right (Nat.le_refl _), Nat.sub_self] at hu
          obtain rfl : v' = u := by simpa using hu
          rw [hchn]
          exact hvr
        · rw [List.getElem?_eq_none (by rw [List.length_append, List.length_singleton]; omega)] at hu
          cases hu
      stl := fun u hu g hg => by
        have hu : u ∈ b.cs ++ [v'] := hu
        rcases List.mem_append.1 hu with h | h
        · exact (hlab g (hcs0 u h g hg) (by rw [hR.stl u h g hg]; simp)).trans (hR.stl u h g hg)
        · obtain rfl := List.mem_singleton.1 h
          exact relab_of hg
      nd := nd_snoc hR.nd fun u hu g hg hv' => by
        rcases hv'l g hv' with h | h
        · have h2 := hR.stl u hu g hg
          rw [h.1] at h2; cases h2
        · have := hcs0 u hu g hg; omega }
  · rcases h with h | h | h | h | h
    · exact .inl (by rw [h, hP.lb]; trivial)
    · exact .inl (by rw [h, hR.lb]; rfl)
    · exact .inl (by rw [hR.arl g h]; rfl)
    · exact .inl (by rw [(hvl g h).1]; trivial)
    · exact .inr h
  · have h1 : v'.ownBlock ≠ some g := fun h => by
      have := (hvr.lt h).2.1
      omega
    have h2 : c'.ownBlock ≠ some g := fun h => by
      have := (hcr.lt h).2.1
      omega
    rw [relab_ne h1, relab_ne h2]
    exact hnew g (Nat.le_trans hm.size hgl)
  · show p.used + 1 + b.cs.length = p.used + (b.cs ++ [v']).length
    rw [List.length_append, List.length_singleton]; omega
  · rcases hvo with ⟨_, h1, h⟩ | ⟨v0, h, _⟩
    · rw [h, h1]; simp
    · rw [h, List.length_append, List.length_singleton]; omega

/-- How many chunks there may be. -/
theorem chunks_le (hR : BufR w B lab bb k p.mem p.ch b) (hch : 0 < p.ch) : b.cs.length ≤ b.all.length := by
  rcases Nat.eq_zero_or_pos b.cs.length with h0 | h0
  · omega
  · have := hR.lo (b.cs.length - 1) (by omega)
    have := Nat.le_mul_of_pos_right (b.cs.length - 1) hch
    omega

/-- put, all ways. -/
theorem put_step (hP : PoolAt w B lab pb p S sp) (hblk : Blk w bb (bufC pb b.gone b.all.length b.m b.c) 232) (hR : BufR w B lab bb k p.mem p.ch b) (hnew : ∀ g, w.heap.size ≤ g → lab g = .free) (hB : B ≤ w.heap.size)
    (hd : 0 < data.size) (hds : data.size ≤ 1000000) (hlen : b.all.length ≤ 1000000) (hmem : p.mem ≤ 65536) (hch : 0 < p.ch ∧ p.ch ≤ 65536) (hfew : sp.length + p.used ≤ 1000000) :
    Calls Tryz.prog 284 #[.pointer (some ⟨bb, 0, none⟩), .string data] w (PutPost B pb bb k lab p sp b data w) := by
  have hcl := chunks_le hR hch.1
  by_cases hlt : b.all.length < p.mem
  · exact put_step1 hP hblk hR hnew hB hd hds hlt hmem
  · by_cases hmod : (b.all.length - p.mem) % p.ch = 0
    · exact put_step2 hP hblk hR hnew hd hds hlen (by omega) hch hmod hfew (by omega)
    · exact put_step3 hP hblk hR hnew hB hd hds hlen (by omega) hch (by omega)
end
end Go.Proofs.YtbjakhiflgjflaaGreatDoor
