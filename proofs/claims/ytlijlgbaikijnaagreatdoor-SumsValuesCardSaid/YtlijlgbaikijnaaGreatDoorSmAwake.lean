/-
  The chapter's examples come out as they should: awake answers true, in every world in which the table of powers of ten holds them.
-/
import Derived.Test.YtlijlgbaikijnaaGreatDoorSmFaceS
import Derived.Test.YtlijlgbaikijnaaGreatDoorSmFuel
namespace Go.Proofs.YtlijlgbaikijnaaGreatDoor
open Go Go.RowKit

def aw_x : E := .mk [61] 0 [120] [.mk [43, 61] 0 [121] [.mk [110, 117, 109] 2 [] []]]
def aw_b : E := .mk [63] 0 [] [.mk [110, 97, 109, 101] 0 [97] [], .mk [110, 101, 103] 0 [] [.mk [110, 97, 109, 101] 0 [98] []], .mk [110, 117, 109] 3 [] []]
theorem aw_p1 : parseP 40 [120, 61, 121, 43, 61, 50] = .ok aw_x ⟨0, [], 0, 6⟩ := by kernel_rfl
theorem aw_p2 : parseP 40 [48, 124, 124, 120, 61, 49] = .no 25 4 := by kernel_rfl
theorem aw_p3 : parseP 40 [48, 56] = .no 23 0 := by kernel_rfl
theorem aw_p4 : parseP 40 [97, 63, 45, 98, 58, 51] = .ok aw_b ⟨0, [], 0, 6⟩ := by kernel_rfl
def aw_ps : List Pr := [(⟨#[121]⟩, ⟨#[53]⟩, false)]
def aw_qs : List Pr := [(⟨#[121]⟩, ⟨#[55]⟩, false), (⟨#[120]⟩, ⟨#[55]⟩, false)]
theorem aw_v : faceV aw_x aw_ps = .ok 7 aw_qs := by kernel_rfl
theorem aw_g : getP aw_qs ⟨#[120]⟩ = some ⟨#[55]⟩ := by kernel_rfl
theorem aw_s : showF aw_b = ([40, 97, 63, 40, 45, 98, 41, 58, 51, 41], 0) := by kernel_rfl

theorem tabK_of {w0 w : World} {tb : Nat} (ht : Tab w0) (hg : w0.grownBy w none) (hb : w0.heap.size ≤ tb) : TabK tb w := fun w' h =>
  ht.below ⟨h.os.trans hg.os, h.tape.trans hg.tape, h.output.trans hg.output, Nat.le_trans hg.size h.size, fun i hi => (h.block i (Nat.lt_of_lt_of_le hi hg.size) (by simp; omega)).trans (hg.block i hi (by simp))⟩
/-- Parse of a text that is parsed as an expression. -/
theorem parse_ok {n : Nat} {l : List UInt8} {x : E} {t : Th} (h : parseP n l = .ok x t) (s : ByteArray) (hs : tl s = l) (hz : s.size ≤ 4096) (w : World) :
    Calls Tryz.prog 23 #[.string s] w fun e w' => (∃ v, e = .returned (.tuple #[v, .int .i64 0, .int .i64 0]) ∧ ExR w' (fun g => w.heap.size ≤ g ∧ g < w'.heap.size) x v) ∧ w.grownBy w' none := by
  have := Parse_any n s w hz (by rw [hs, h]; simp)
  rw [hs, h] at this
  exact this
theorem parse_no {n : Nat} {l : List UInt8} {c : Int} {k : Nat} (h : parseP n l = .no c k) (s : ByteArray) (hs : tl s = l) (hz : s.size ≤ 4096) (w : World) :
    Calls Tryz.prog 23 #[.string s] w fun e w' => e = .returned (.tuple #[.agg (exC [] 0 [] (.slice none 0 0)), .int .i64 (k : Int), .int .i64 c]) ∧ w.grownBy w' none := by
  have := Parse_any n s w hz (by rw [hs, h]; simp)
  rw [hs, h] at this
  exact this
/-- A table of pairs that have just been laid. -/
theorem tabAt_new {w : World} {tb g n : Nat} {ps : List Pr} (hn : ps.length = n) (hm : n ≤ maxLen) (hc : w.cell? ⟨tb, 0, none⟩ = some (.slice (some ⟨g, 0, none⟩) n n)) (hf : w.frozen? ⟨tb, 0, none⟩ = false) (hg : g < w.heap.size) (hne : g ≠ tb)
    (hcs : ∀ (j : Nat) (u : Value), (cellsPr ps)[j]? = some u → w.cell? ⟨g, j, none⟩ = some u) (hty : ∃ cur o, w.heap[g]? = some (.cells cur 57 o)) : TabAt w tb ps := by
  subst hn
  refine ⟨⟨_, hc, ⟨_, _, rfl, Nat.le_refl _, hm, cellsPr_length _, fun _ => ⟨g, 0, rfl, hg, fun j u h => by rw [Nat.zero_add]; exact hcs j u h⟩⟩, fun b off n c hv _ => ?_⟩, hf, fun _ b off n c h => ?_⟩
  case refine_2 =>
    rw [hc] at h
    obtain ⟨rfl, _⟩ := Addr.mk.inj (Option.some.inj (Value.slice.inj (Option.some.inj h)).1)
    exact hty
  injection hv with e1
  injection e1 with e2
  injection e2 with e3
  omega

set_option maxHeartbeats 4000000 in
set_option maxRecDepth 100000 in
theorem awake_any (w : World) (ht : Tab w) : Calls Tryz.prog 7 #[] w fun e w' => e = .returned (.bool true) ∧ w.grownBy w' none := by
  have hp1 := fun W => parse_ok aw_p1 ⟨#[120, 61, 121, 43, 61, 50]⟩ rfl (by decide) W
  have hp2 := fun W => parse_no aw_p2 ⟨#[48, 124, 124, 120, 61, 49]⟩ rfl (by decide) W
  have hp3 := fun W => parse_no aw_p3 ⟨#[48, 56]⟩ rfl (by decide) W
  have hp4 := fun W => parse_ok aw_p4 ⟨#[97, 63, 45, 98, 58, 51]⟩ rfl (by decide) W
  have hmi : ∀ (p : Option Addr) (w : World), (Instr.makeInterface 41 (.pointer p)).run Tryz.prog w = .ok (.iface 41 (.pointer p)) w := fun _ _ => rfl
  have htb := fun W (hg : w.grownBy W none) tb (h : w.heap.size ≤ tb) => tabK_of ht hg h
  have ht0 := Lib.hid ht
  clear ht
  go_enter Tryz.func7, Tryz.ntmps7
  go_wp2_with fail
  obtain ⟨w2, hW2, hs2, hgr, hcz, hcy, hfz, hfy, hold⟩ := two_new w #[.string ⟨#[121]⟩, .string ⟨#[53]⟩, .bool false] #[.slice (some ⟨w.heap.size, 0, none⟩) 1 1] 57 59
  rw [hW2]
  have hg2 := hgr none
  have hta : TabAt w2 (w.heap.size + 1) aw_ps := tabAt_new (n := 1) rfl (by decide) (hcy 0 _ rfl) (hfy 0) (by omega) (by omega) (fun j u h => hcz j u (by
    have e : cellsPr aw_ps = [.string ⟨#[121]⟩, .string ⟨#[53]⟩, .bool false] := rfl
    rw [e] at h
    simpa using h)) ⟨_, _, by rw [← hW2, Below.heap_alloc _ _ _ (by simp)]; exact heap_alloc_new w _⟩
  obtain ⟨z, hz⟩ : ∃ z, w.heap.size = z := ⟨_, rfl⟩
  have hkk := htb w2 hg2 (w.heap.size + 1) (by omega)
  rw [hz] at hta hs2 hkk ⊢
  have hzh := Lib.hid hz
  have hta := Lib.hid hta
  have hkk := Lib.hid hkk
  clear hW2 hgr hcz hcy hfz hfy hold htb hz
  refine (hp1 _).mono ?_
  rintro e w3 ⟨⟨v, rfl, hx⟩, hg3⟩
  have hg23 := grownBy_trans' hg2 hg3
  have hs3 := hg3.size
  unfold aw_x at hx
  have hx0 := Lib.hid hx
  obtain ⟨A, c, rfl, hc, hcm, _⟩ := hx.form
  simp only [List.length_cons, List.length_nil, Nat.zero_add] at hc hx0 ⊢
  clear hp1 hx
  go_upto_region 3 with fail
  obtain ⟨w4, hW4, hs4, hgr4, hcz4, _, hold4⟩ := one_new w3 #[.string ⟨#[61]⟩, .int .i64 0, .string ⟨#[120]⟩, .slice A 1 c] 30
  rw [hW4]
  have hg4 := hgr4 none
  have hg34 := grownBy_trans' hg3 hg4
  have hg24 := grownBy_trans' hg2 hg34
  have q0 := hcz4 0 _ rfl
  have q1 := hcz4 1 _ rfl
  have q2 := hcz4 2 _ rfl
  have q3 := hcz4 3 _ rfl
  have hx4 : ExR w4 (fun g => w2.heap.size ≤ g ∧ g < w4.heap.size) aw_x (.agg #[.string ⟨#[61]⟩, .int .i64 0, .string ⟨#[120]⟩, .slice A 1 c]) := hx0.out.keep (fun g h => ⟨h.1, by have := h.2; omega⟩) (fun g h => hold4 g h.2)
  have hvc : ValC w4 (z + 1) (fun g => w2.heap.size ≤ g ∧ g < w4.heap.size) aw_x aw_ps :=
    ⟨fun g h => ⟨h.2, by have := h.1; omega⟩, hta.out.keep hg34, hkk.out.keep (grow_some hg34 _), by intro p hp; simp [aw_ps] at hp; subst hp; decide, by unfold aw_x; simp [NumE, NumL, InR], by decide⟩
  have hva := Value_any (z + 1) aw_x _ _ w4 aw_ps hx4 hvc
  rw [aw_v] at hva
  have hmi4 := hmi (some ⟨z + 1, 0, none⟩)
  generalize hy : w3.heap.size = y at q0 q1 q2 q3 hs4 ⊢
  clear hW4 hgr4 hcz4 hold4 hx0 hx4 hvc hmi hy
  go_wp2_with fail
  refine hva.mono ?_
  rintro e w5 ⟨rfl, ht5, hg5⟩
  have hg25 := grownBy_trans' (grow_some hg24 (z + 1)) hg5
  have hs5 := hg5.size
  have hs24 := hg24.size
  have hg5n := grown_none hg24 hg5 (by have := hzh.out; omega)
  have hget := get_any ⟨#[120]⟩ (z + 1) aw_qs w5 ht5
  rw [aw_g] at hget
  clear hva q0 q1 q2 q3 hg4 hg34 hg5 hg24 hg23 hg3
  go_wp2_with fail
  refine hget.mono ?_
  rintro e w6 ⟨rfl, hg6⟩
  have hg26 := grownBy_trans' hg5n hg6
  clear hget hg5n hg6 hg25
  go_wp2_with fail
  refine (hp2 _).mono ?_
  rintro e w7 ⟨rfl, hg7⟩
  have hg27 := grownBy_trans' hg26 hg7
  clear hp2 hg26 hg7
  unfold exC
  go_upto_region 6 with fail
  have hg8 := grownBy_trans' hg27 (World.grownBy_alloc w7 (.cells #[.string ⟨#[]⟩, .int .i64 0, .string ⟨#[]⟩, .slice none 0 0] 30) none)
  generalize w7.alloc (.cells #[.string ⟨#[]⟩, .int .i64 0, .string ⟨#[]⟩, .slice none 0 0] 30) = w8 at hg8 ⊢
  clear hg27
  go_wp2_with fail
  refine (hp3 _).mono ?_
  rintro e w9 ⟨rfl, hg9⟩
  have hg29 := grownBy_trans' hg8 hg9
  clear hp3 hg8 hg9
  unfold exC
  go_upto_region 7 with fail
  have hg10 := grownBy_trans' hg29 (World.grownBy_alloc w9 (.cells #[.string ⟨#[]⟩, .int .i64 0, .string ⟨#[]⟩, .slice none 0 0] 30) none)
  generalize w9.alloc (.cells #[.string ⟨#[]⟩, .int .i64 0, .string ⟨#[]⟩, .slice none 0 0] 30) = w10 at hg10 ⊢
  clear hg29
  go_wp2_with fail
  refine (hp4 _).mono ?_
  rintro e w11 ⟨⟨v, rfl, hx⟩, hg11⟩
  have hg211 := grownBy_trans' hg10 hg11
  unfold aw_b at hx
  have hx0 := Lib.hid hx
  obtain ⟨A2, c2, rfl, hc2, hcm2, _⟩ := hx.form
  simp only [List.length_cons, List.length_nil, Nat.zero_add, Nat.reduceAdd] at hc2 hx0 ⊢
  clear hp4 hx hg10
  go_upto_region 8 with fail
  obtain ⟨w12, hW12, hs12, hgr12, hcz12, _, hold12⟩ := one_new w11 #[.string ⟨#[63]⟩, .int .i64 0, .string ⟨#[]⟩, .slice A2 3 c2] 30
  rw [hW12]
  have hg212 := grownBy_trans' hg211 (hgr12 none)
  have q0 := hcz12 0 _ rfl
  have q1 := hcz12 1 _ rfl
  have q2 := hcz12 2 _ rfl
  have q3 := hcz12 3 _ rfl
  have hx12 : ExR w12 (fun g => g < w12.heap.size) aw_b (.agg #[.string ⟨#[63]⟩, .int .i64 0, .string ⟨#[]⟩, .slice A2 3 c2]) := hx0.out.keep (fun g h => by have := h.2; omega) (fun g h => hold12 g h.2)
  have hsa := Show_any aw_b _ _ w12 hx12 (fun g h => h) (ht0.out.below (below_of_none hg212)) (by unfold aw_b; simp [NumE, NumL, InR]) (by unfold aw_b; simp [ShortE, ShortL]) (by decide)
  rw [aw_s] at hsa
  generalize hy : w11.heap.size = y at q0 q1 q2 q3 hs12 ⊢
  clear hW12 hgr12 hcz12 hold12 hx0 hx12 hy
  go_wp2_with fail
  refine hsa.mono ?_
  rintro e w13 ⟨rfl, hg13⟩
  have hgE := grownBy_trans' hg212 hg13
  have t1 : (⟨#[55]⟩ : ByteArray).toList == [55] := by decide +kernel
  have t2 : (⟨#[40, 97, 63, 40, 45, 98, 41, 58, 51, 41]⟩ : ByteArray).toList == [40, 97, 63, 40, 45, 98, 41, 58, 51, 41] := by decide +kernel
  clear hsa q0 q1 q2 q3 hg13 hg212
  simp only []
  go_wp2
  go_ret
  exact ⟨rfl, hgE⟩
end Go.Proofs.YtlijlgbaikijnaaGreatDoor
