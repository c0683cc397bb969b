/-
  SumsHalf answers true. Conditions: the table of powers of ten holds them.
-/
import Derived.Test.YtlijlgbaikijnaaDoorSmArith
namespace Go.Proofs.YtlijlgbaikijnaaDoor
open Go Go.RowKit

def lfN (n : Int) : E := .mk [110, 117, 109] n [] []
def lfV (nm : List UInt8) : E := .mk [110, 97, 109, 101] 0 nm []
/-- x=1/0. -/
def hfBad : E := .mk [61] 0 [120] [.mk [47] 0 [] [lfN 1, lfN 0]]
def hf0 : E := .mk [38, 38] 0 [] [lfV [110], hfBad]
def hf1 : E := .mk [124, 124] 0 [] [lfV [110], hfBad]
def hf2 : E := .mk [63] 0 [] [lfV [110], lfN 1, hfBad]
def hf3 : E := .mk [63] 0 [] [lfV [110], hfBad, lfN 2]
def hfS : E := .mk [61] 0 [120] [lfN 1]
theorem hf_p0 : parseP 40 [110, 38, 38, 40, 120, 61, 49, 47, 48, 41] = .ok hf0 ⟨0, [], 0, 10⟩ := by kernel_rfl
theorem hf_p1 : parseP 40 [110, 124, 124, 40, 120, 61, 49, 47, 48, 41] = .ok hf1 ⟨0, [], 0, 10⟩ := by kernel_rfl
theorem hf_p2 : parseP 40 [110, 63, 49, 58, 40, 120, 61, 49, 47, 48, 41] = .ok hf2 ⟨0, [], 0, 11⟩ := by kernel_rfl
theorem hf_p3 : parseP 40 [110, 63, 40, 120, 61, 49, 47, 48, 41, 58, 50] = .ok hf3 ⟨0, [], 0, 11⟩ := by kernel_rfl
theorem hf_pS : parseP 40 [120, 61, 49] = .ok hfS ⟨0, [], 0, 3⟩ := by kernel_rfl
theorem hf_bad (k : Nat) (ps : List Pr) : valueP (k + 3) hfBad ps = .no 24 ps := rfl
theorem hf_num (k : Nat) (n : Int) (ps : List Pr) : valueP (k + 1) (lfN n) ps = .ok n ps := rfl
theorem hf_name (k : Nat) (ps : List Pr) (n : Int) (h : getV ps (nmB [110]) = some n) : valueP (k + 1) (lfV [110]) ps = .ok n ps := by
  show getR ps [110] = .ok n ps
  unfold getR
  rw [h]
section
variable {ps : List Pr} {n : Int} (h : getV ps (nmB [110]) = some n)
include h
theorem hf_f0 : faceV hf0 ps = if ¬ n = 0 then .no 24 ps else .ok 0 ps := by
  have e : faceV hf0 ps = (valueP (198 + 1) (lfV [110]) ps).next (fun x qs => if ¬ x = 0 then (valueP (196 + 3) hfBad qs).next fun y rs => .ok (truthI (!(y == 0))) rs else .ok 0 qs) := by kernel_rfl
  rw [e, hf_name _ _ _ h]
  show (if ¬ n = 0 then (valueP (196 + 3) hfBad ps).next _ else _) = _
  rw [hf_bad]
  rfl
theorem hf_f1 : faceV hf1 ps = if ¬ n = 0 then .ok 1 ps else .no 24 ps := by
  have e : faceV hf1 ps = (valueP (198 + 1) (lfV [110]) ps).next (fun x qs => if ¬ x = 0 then .ok 1 qs else (valueP (196 + 3) hfBad qs).next fun y rs => .ok (truthI (!(y == 0))) rs) := by kernel_rfl
  rw [e, hf_name _ _ _ h]
  show (if ¬ n = 0 then _ else (valueP (196 + 3) hfBad ps).next _) = _
  rw [hf_bad]
  rfl
theorem hf_f2 : faceV hf2 ps = if ¬ n = 0 then .ok 1 ps else .no 24 ps := by
  have e : faceV hf2 ps = (valueP (198 + 1) (lfV [110]) ps).next (fun x qs => if ¬ x = 0 then valueP (198 + 1) (lfN 1) qs else valueP (196 + 3) hfBad qs) := by kernel_rfl
  rw [e, hf_name _ _ _ h]
  show (if ¬ n = 0 then valueP (198 + 1) (lfN 1) ps else valueP (196 + 3) hfBad ps) = _
  rw [hf_bad, hf_num]
theorem hf_f3 : faceV hf3 ps = if ¬ n = 0 then .no 24 ps else .ok 2 ps := by
  have e : faceV hf3 ps = (valueP (198 + 1) (lfV [110]) ps).next (fun x qs => if ¬ x = 0 then valueP (196 + 3) hfBad qs else valueP (198 + 1) (lfN 2) qs) := by kernel_rfl
  rw [e, hf_name _ _ _ h]
  show (if ¬ n = 0 then valueP (196 + 3) hfBad ps else valueP (198 + 1) (lfN 2) ps) = _
  rw [hf_bad, hf_num]
end
/-- The law's table. -/
def hfPs (T s : ByteArray) : List Pr := [(⟨#[110]⟩, T, false), (⟨#[120]⟩, s, true)]
theorem hf_set (T s : ByteArray) : faceV hfS (hfPs T s) = .no 26 (hfPs T s) := by
  have e : faceV hfS (hfPs T s) = setR (hfPs T s) [120] 1 := by kernel_rfl
  exact e.trans (by kernel_rfl)
theorem hf_getx (T s : ByteArray) : getP (hfPs T s) ⟨#[120]⟩ = some s := by kernel_rfl
theorem hf_getn {n : Int} (h : InR n) (s : ByteArray) : getV (hfPs ⟨(Lib.itoa n).toArray⟩ s) (nmB [110]) = some n := by
  have e : getP (hfPs ⟨(Lib.itoa n).toArray⟩ s) (nmB [110]) = some ⟨(Lib.itoa n).toArray⟩ := by kernel_rfl
  unfold getV
  rw [e]
  exact num_itoa h
theorem hf_few (T s : ByteArray) (x : E) (h : sizeE x ≤ 100) : (hfPs T s).length + sizeE x ≤ 1000000 := by
  show 2 + sizeE x ≤ 1000000
  omega

theorem grown_ov {a w W : World} {b : Nat} (h : a.grownBy w none) (k : w.grownBy W (some b)) (hb : a.heap.size ≤ b) : a.grownBy W none :=
  ⟨k.os.trans h.os, k.tape.trans h.tape, k.output.trans h.output, Nat.le_trans h.size k.size, fun i hi _ => (k.block i (Nat.lt_of_lt_of_le hi h.size) (by simp; omega)).trans (h.block i hi (by simp))⟩
set_option maxHeartbeats 8000000 in
set_option maxRecDepth 100000 in
theorem lawHalf_any (n : Int) (hn : InR n) (s : ByteArray) (w : World) (ht : Tab w) :
    Calls Tryd.prog 4 #[.int .i64 n, .string s] w fun e w' => e = .returned (.bool true) ∧ Below w.heap.size w w' := by
  have haw := fun W h => awake_any W h
  by_cases hs : s.size ≤ 100
  · have hp0 := fun W => parse_ok hf_p0 ⟨#[110, 38, 38, 40, 120, 61, 49, 47, 48, 41]⟩ rfl (by decide) W
    have hp1 := fun W => parse_ok hf_p1 ⟨#[110, 124, 124, 40, 120, 61, 49, 47, 48, 41]⟩ rfl (by decide) W
    have hp2 := fun W => parse_ok hf_p2 ⟨#[110, 63, 49, 58, 40, 120, 61, 49, 47, 48, 41]⟩ rfl (by decide) W
    have hp3 := fun W => parse_ok hf_p3 ⟨#[110, 63, 40, 120, 61, 49, 47, 48, 41, 58, 50]⟩ rfl (by decide) W
    have hpS := fun W => parse_ok hf_pS ⟨#[120, 61, 49]⟩ rfl (by decide) W
    have htx := text_any n hn.1 hn.2 w ht
    have hgn := hf_getn hn s
    have hT : (⟨(Lib.itoa n).toArray⟩ : ByteArray).size ≤ 1000000 := by
      have := itoa_small hn.1 hn.2
      show (Lib.itoa n).toArray.size ≤ _
      rw [List.size_toArray]; omega
    generalize (⟨(Lib.itoa n).toArray⟩ : ByteArray) = T at htx hgn hT
    have hf0' := hf_f0 hgn
    have hf1' := hf_f1 hgn
    have hf2' := hf_f2 hgn
    have hf3' := hf_f3 hgn
    have hfs := hf_set T s
    have hgx := hf_getx T s
    have hvs : Vals (hfPs T s) := by
      intro p hp
      simp only [hfPs, List.mem_cons, List.mem_nil_iff, or_false] at hp
      rcases hp with rfl | rfl
      · exact hT
      · show s.size ≤ 1000000; omega
    have hcs : cellsPr (hfPs T s) = [.string ⟨#[110]⟩, .string T, .bool false, .string ⟨#[120]⟩, .string s, .bool true] := rfl
    have hlen : (hfPs T s).length = 2 := rfl
    have hfew : ∀ x : E, sizeE x ≤ 100 → (hfPs T s).length + sizeE x ≤ 1000000 := hf_few T s
    generalize hfPs T s = ps at hf0' hf1' hf2' hf3' hfs hgx hvs hcs hlen hfew
    have i0 : ¬ (100 : Int) < (s.size : Int) := by omega
    have hmi : ∀ (p : Option Addr) (w : World), (Instr.makeInterface 30 (.pointer p)).run Tryd.prog w = .ok (.iface 30 (.pointer p)) w := fun _ _ => rfl
    have htb := fun W (hg : w.grownBy W none) tb (h : w.heap.size ≤ tb) => tabK_of ht hg h
    have ht0 := Lib.hid ht
    clear ht hgn hT
    go_enter Tryd.func4, Tryd.ntmps4
    go_wp2_with fail
    refine htx.mono ?_
    rintro e w1 ⟨rfl, hb1⟩
    have hg1 := below_none hb1
    clear htx hb1
    go_upto_region 4 with fail
    obtain ⟨w2, hW2, hs2, hgr, hcz, hcy, hfz, hfy, hold⟩ := two_new w1 #[.string ⟨#[110]⟩, .string T, .bool false, .string ⟨#[120]⟩, .string s, .bool true] #[.slice (some ⟨w1.heap.size, 0, none⟩) 2 2] 33 36
    rw [hW2]
    have hg2 := grownBy_trans' hg1 (hgr none)
    have hta : TabAt w2 (w1.heap.size + 1) ps := tabAt_new (n := 2) hlen (by decide) (hcy 0 _ rfl) (hfy 0) (by omega) (by omega) (fun j u h => hcz j u (by
      rw [hcs] at h
      simpa using h))
    have hs1 := hg1.size
    obtain ⟨z, hz⟩ : ∃ z, w1.heap.size = z := ⟨_, rfl⟩
    have hkk := htb w2 hg2 (w1.heap.size + 1) (by omega)
    rw [hz] at hta hs2 hkk ⊢
    have hzw : w.heap.size ≤ z + 1 := by omega
    have hta := Lib.hid hta
    have hkk := Lib.hid hkk
    clear hW2 hgr hcz hcy hfz hfy hold htb hz hg1 hs1
    go_upto_region 5 with fail
    obtain ⟨w3, hW3, hs3, hgr3, hcz3, _, hold3⟩ := one_new w2 #[.string ⟨#[110, 38, 38, 40, 120, 61, 49, 47, 48, 41]⟩, .string ⟨#[110, 124, 124, 40, 120, 61, 49, 47, 48, 41]⟩, .string ⟨#[110, 63, 49, 58, 40, 120, 61, 49, 47, 48, 41]⟩, .string ⟨#[110, 63, 40, 120, 61, 49, 47, 48, 41, 58, 50]⟩] 9
    rw [hW3]
    rw [hs2] at hcz3 hs3
    obtain ⟨b6, hb6⟩ : ∃ b6, z + 2 = b6 := ⟨_, rfl⟩
    rw [hb6] at hcz3 hs3 ⊢
    have s0 := hcz3 0 _ rfl
    have s1 := hcz3 1 _ rfl
    have s2 := hcz3 2 _ rfl
    have s3 := hcz3 3 _ rfl
    have hg3 := grownBy_trans' hg2 (hgr3 none)
    have hta3 := Lib.hid (hta.out.keep (hgr3 none))
    have hkk3 := Lib.hid (hkk.out.keep (grow_some (hgr3 none) (z + 1)))
    have htb3 : z + 1 < w3.heap.size := by omega
    have hzb : z + 1 < b6 := by omega
    replace hg3 := Lib.hid hg3
    replace hb6 := Lib.hid hb6
    clear hW3 hgr3 hcz3 hold3 hta hkk hg2 hs2
    have hpS := Lib.hid hpS
    have hfs := Lib.hid hfs
    have hgx := Lib.hid hgx
    have hvs := Lib.hid hvs
    clear hcs hlen
    go_wp2
    go_loopw [7] (fun nv wr => ∃ m : Nat, m ≤ 4 ∧ nv = .int .i64 (m : Int) ∧ Hid (w3.grownBy wr (some (z + 1))) ∧ Hid (TabAt wr (z + 1) ps)) (fun nv _ => 4 - (intOf nv).toNat)
    case atStart => exact ⟨0, by omega, rfl, grownBy_refl' _ _, hta3⟩
    case round =>
      obtain ⟨m, hm, rfl, hg, hta⟩ := hrel
      clear hta3
      have hkk := Lib.hid (hkk3.out.keep hg.out)
      have hbz : b6 ≠ z + 1 := by omega
      have s0 := cell_grown s0 hg.out hbz
      have s1 := cell_grown s1 hg.out hbz
      have s2 := cell_grown s2 hg.out hbz
      have s3 := cell_grown s3 hg.out hbz
      have hszr := hg.out.size
      have htb := htb3
      have htbr : z + 1 < wr.heap.size := by omega
      clear htb
      by_cases hm4 : m = 4
      · subst hm4
        clear hp0 hp1 hp2 hp3 hf0' hf1' hf2' hf3' s0 s1 s2 s3
        have hge := get_any ⟨#[120]⟩ (z + 1) ps wr hta.out
        rw [hgx.out] at hge
        simp only [] at hge
        obtain ⟨E, hE⟩ : ∃ E, hfS = E := ⟨_, rfl⟩
        have hsz : sizeE E ≤ 100 := by rw [← hE]; decide
        have hnm : NumE E := by rw [← hE]; unfold hfS lfN; simp [NumE, NumL, InR]
        have hpS := hpS.out
        have hfs := hfs.out
        rw [hE] at hpS hfs
        replace hfs := Lib.hid hfs
        clear hE
        go_wp2_with fail
        refine hge.mono ?_
        rintro e w4 ⟨rfl, hg4⟩
        have hps4 := hpS w4
        have hta4 := Lib.hid (hta.out.keep hg4)
        clear hge hpS hta
        go_wp2_with fail
        refine hps4.mono ?_
        rintro e w5 ⟨⟨v5, rfl, hv5⟩, hg5⟩
        obtain ⟨so, sn, sm, sk⟩ := E
        obtain ⟨yA, yc, rfl, _⟩ := hv5.form
        replace hv5 := Lib.hid hv5
        generalize hSL : sk.length = SL at hv5 ⊢
        clear hps4 hSL
        go_upto_region 18 with fail
        obtain ⟨w6, hW6, hs6, hgr6, hcz6, _, hold6⟩ := one_new w5 #[.string ⟨so.toArray⟩, .int .i64 sn, .string ⟨sm.toArray⟩, .slice yA SL yc] 40
        rw [hW6]
        generalize hyy : w5.heap.size = y at hcz6 ⊢
        have c0 := hcz6 0 _ rfl
        have c1 := hcz6 1 _ rfl
        have c2 := hcz6 2 _ rfl
        have c3 := hcz6 3 _ rfl
        have hg46 := grownBy_trans' hg4 (grownBy_trans' hg5 (hgr6 none))
        have hx6 : ExR w6 (fun g => w4.heap.size ≤ g ∧ g < w5.heap.size) (.mk so sn sm sk) (.agg #[.string ⟨so.toArray⟩, .int .i64 sn, .string ⟨sm.toArray⟩, .slice yA SL yc]) := hv5.out.keep (fun _ h => h) (fun g h => hold6 g h.2)
        have hva := Value_any (z + 1) (.mk so sn sm sk) _ (fun g => w4.heap.size ≤ g ∧ g < w5.heap.size) w6 ps hx6 ⟨fun g h => by have h1 := hg4.size; omega, hta4.out.keep (grownBy_trans' hg5 (hgr6 none)), hkk.out.keep (grow_some hg46 _), hvs.out, hnm, hfew _ hsz⟩
        rw [hfs.out] at hva
        have hg36 := Lib.hid (grownBy_trans' hg.out (grow_some hg46 (z + 1)))
        have hkk6 := Lib.hid (hkk.out.keep (grow_some hg46 (z + 1)))
        clear hW6 hs6 hgr6 hcz6 hold6 hx6 hv5 hyy hg46 hg4 hg5 hta4 hkk hfs hsz hnm hfew hvs hm hg hszr htbr
        go_wp2_with fail
        refine hva.mono ?_
        rintro e w7 ⟨rfl, _, hg7⟩
        have haw7 := haw w7 (hkk6.out w7 hg7)
        have hgA := Lib.hid (grownBy_trans' hg36.out hg7)
        have e0 : (s.toList == s.toList) = true := by simp
        clear hva haw hg7 hkk6 hg36 c0 c1 c2 c3
        go_wp2_with fail
        refine haw7.mono ?_
        rintro e w8 ⟨rfl, hg8⟩
        have hgE := grown_ov hg3.out (grownBy_trans' hgA.out (grow_some hg8 (z + 1))) (by omega)
        clear haw7 hg8 hgA
        go_wp2
        go_ret
        exact ⟨rfl, below_of_none hgE⟩
      · clear hpS hfs hgx
        rcases (show m = 0 ∨ m = 1 ∨ m = 2 ∨ m = 3 by omega) with rfl | rfl | rfl | rfl
        · obtain ⟨E, hE⟩ : ∃ E, hf0 = E := ⟨_, rfl⟩
          have hsz : sizeE E ≤ 100 := by rw [← hE]; decide
          have hnm : NumE E := by rw [← hE]; unfold hf0 hfBad lfV lfN; simp [NumE, NumL, InR]
          have hp := hp0 wr
          have hf := hf0'
          rw [hE] at hp hf
          clear hE hp0 hp1 hp2 hp3 hf0' hf1' hf2' hf3' hm4
          by_cases hn0 : n = 0
          · subst hn0
            rw [if_neg (by simp)] at hf
            replace hf := Lib.hid hf
            go_wp2_with fail
            refine hp.mono ?_
            rintro e w5 ⟨⟨v5, rfl, hv5⟩, hg5⟩
            obtain ⟨so, sn, sm, sk⟩ := E
            obtain ⟨yA, yc, rfl, _⟩ := hv5.form
            replace hv5 := Lib.hid hv5
            generalize hSL : sk.length = SL at hv5 ⊢
            clear hp hSL
            go_upto_region 9 with fail
            obtain ⟨w6, hW6, hs6, hgr6, hcz6, _, hold6⟩ := one_new w5 #[.string ⟨so.toArray⟩, .int .i64 sn, .string ⟨sm.toArray⟩, .slice yA SL yc] 40
            rw [hW6]
            generalize hyy : w5.heap.size = y at hcz6 ⊢
            have c0 := hcz6 0 _ rfl
            have c1 := hcz6 1 _ rfl
            have c2 := hcz6 2 _ rfl
            have c3 := hcz6 3 _ rfl
            have hg46 := grownBy_trans' hg5 (hgr6 none)
            have hx6 : ExR w6 (fun g => wr.heap.size ≤ g ∧ g < w5.heap.size) (.mk so sn sm sk) (.agg #[.string ⟨so.toArray⟩, .int .i64 sn, .string ⟨sm.toArray⟩, .slice yA SL yc]) := hv5.out.keep (fun _ h => h) (fun g h => hold6 g h.2)
            have hva := Value_any (z + 1) (.mk so sn sm sk) _ (fun g => wr.heap.size ≤ g ∧ g < w5.heap.size) w6 ps hx6 ⟨fun g h => by omega, hta.out.keep hg46, hkk.out.keep (grow_some hg46 _), hvs.out, hnm, hfew _ hsz⟩
            rw [hf.out] at hva
            have hg36 := Lib.hid (grownBy_trans' hg.out (grow_some hg46 (z + 1)))
            clear hW6 hs6 hgr6 hcz6 hold6 hx6 hv5 hyy hg46 hg5 hta hkk hf hsz hnm hg hszr htbr
            go_wp2_with fail
            refine hva.mono ?_
            rintro e w7 ⟨rfl, hta7, hg7⟩
            have hgA := Lib.hid (grownBy_trans' hg36.out hg7)
            replace hta7 := Lib.hid hta7
            clear hva hg7 hg36 c0 c1 c2 c3 s0 s1 s2 s3
            go_wp2
            go_roundw
            case rel => exact ⟨1, by omega, by go_num, grownBy_trans' hgA.out (World.grownBy_alloc _ _ _), hta7.out.keep (World.grownBy_alloc _ _ _)⟩
            case measure => simp [intOf]
          · rw [if_pos hn0] at hf
            have hnb : (n == 0) = false := by simpa using hn0
            replace hf := Lib.hid hf
            go_wp2_with fail
            refine hp.mono ?_
            rintro e w5 ⟨⟨v5, rfl, hv5⟩, hg5⟩
            obtain ⟨so, sn, sm, sk⟩ := E
            obtain ⟨yA, yc, rfl, _⟩ := hv5.form
            replace hv5 := Lib.hid hv5
            generalize hSL : sk.length = SL at hv5 ⊢
            clear hp hSL
            go_upto_region 9 with fail
            obtain ⟨w6, hW6, hs6, hgr6, hcz6, _, hold6⟩ := one_new w5 #[.string ⟨so.toArray⟩, .int .i64 sn, .string ⟨sm.toArray⟩, .slice yA SL yc] 40
            rw [hW6]
            generalize hyy : w5.heap.size = y at hcz6 ⊢
            have c0 := hcz6 0 _ rfl
            have c1 := hcz6 1 _ rfl
            have c2 := hcz6 2 _ rfl
            have c3 := hcz6 3 _ rfl
            have hg46 := grownBy_trans' hg5 (hgr6 none)
            have hx6 : ExR w6 (fun g => wr.heap.size ≤ g ∧ g < w5.heap.size) (.mk so sn sm sk) (.agg #[.string ⟨so.toArray⟩, .int .i64 sn, .string ⟨sm.toArray⟩, .slice yA SL yc]) := hv5.out.keep (fun _ h => h) (fun g h => hold6 g h.2)
            have hva := Value_any (z + 1) (.mk so sn sm sk) _ (fun g => wr.heap.size ≤ g ∧ g < w5.heap.size) w6 ps hx6 ⟨fun g h => by omega, hta.out.keep hg46, hkk.out.keep (grow_some hg46 _), hvs.out, hnm, hfew _ hsz⟩
            rw [hf.out] at hva
            have hg36 := Lib.hid (grownBy_trans' hg.out (grow_some hg46 (z + 1)))
            clear hW6 hs6 hgr6 hcz6 hold6 hx6 hv5 hyy hg46 hg5 hta hkk hf hsz hnm hg hszr htbr
            go_wp2_with fail
            refine hva.mono ?_
            rintro e w7 ⟨rfl, hta7, hg7⟩
            have hgA := Lib.hid (grownBy_trans' hg36.out hg7)
            replace hta7 := Lib.hid hta7
            clear hva hg7 hg36 c0 c1 c2 c3 s0 s1 s2 s3
            go_wp2
            go_roundw
            case rel => exact ⟨1, by omega, by go_num, grownBy_trans' hgA.out (World.grownBy_alloc _ _ _), hta7.out.keep (World.grownBy_alloc _ _ _)⟩
            case measure => simp [intOf]
        · obtain ⟨E, hE⟩ : ∃ E, hf1 = E := ⟨_, rfl⟩
          have hsz : sizeE E ≤ 100 := by rw [← hE]; decide
          have hnm : NumE E := by rw [← hE]; unfold hf1 hfBad lfV lfN; simp [NumE, NumL, InR]
          have hp := hp1 wr
          have hf := hf1'
          rw [hE] at hp hf
          clear hE hp0 hp1 hp2 hp3 hf0' hf1' hf2' hf3' hm4
          by_cases hn0 : n = 0
          · subst hn0
            rw [if_neg (by simp)] at hf
            replace hf := Lib.hid hf
            go_wp2_with fail
            refine hp.mono ?_
            rintro e w5 ⟨⟨v5, rfl, hv5⟩, hg5⟩
            obtain ⟨so, sn, sm, sk⟩ := E
            obtain ⟨yA, yc, rfl, _⟩ := hv5.form
            replace hv5 := Lib.hid hv5
            generalize hSL : sk.length = SL at hv5 ⊢
            clear hp hSL
            go_upto_region 9 with fail
            obtain ⟨w6, hW6, hs6, hgr6, hcz6, _, hold6⟩ := one_new w5 #[.string ⟨so.toArray⟩, .int .i64 sn, .string ⟨sm.toArray⟩, .slice yA SL yc] 40
            rw [hW6]
            generalize hyy : w5.heap.size = y at hcz6 ⊢
            have c0 := hcz6 0 _ rfl
            have c1 := hcz6 1 _ rfl
            have c2 := hcz6 2 _ rfl
            have c3 := hcz6 3 _ rfl
            have hg46 := grownBy_trans' hg5 (hgr6 none)
            have hx6 : ExR w6 (fun g => wr.heap.size ≤ g ∧ g < w5.heap.size) (.mk so sn sm sk) (.agg #[.string ⟨so.toArray⟩, .int .i64 sn, .string ⟨sm.toArray⟩, .slice yA SL yc]) := hv5.out.keep (fun _ h => h) (fun g h => hold6 g h.2)
            have hva := Value_any (z + 1) (.mk so sn sm sk) _ (fun g => wr.heap.size ≤ g ∧ g < w5.heap.size) w6 ps hx6 ⟨fun g h => by omega, hta.out.keep hg46, hkk.out.keep (grow_some hg46 _), hvs.out, hnm, hfew _ hsz⟩
            rw [hf.out] at hva
            have hg36 := Lib.hid (grownBy_trans' hg.out (grow_some hg46 (z + 1)))
            clear hW6 hs6 hgr6 hcz6 hold6 hx6 hv5 hyy hg46 hg5 hta hkk hf hsz hnm hg hszr htbr
            go_wp2_with fail
            refine hva.mono ?_
            rintro e w7 ⟨rfl, hta7, hg7⟩
            have hgA := Lib.hid (grownBy_trans' hg36.out hg7)
            replace hta7 := Lib.hid hta7
            clear hva hg7 hg36 c0 c1 c2 c3 s0 s1 s2 s3
            go_wp2
            go_roundw
            case rel => exact ⟨2, by omega, by go_num, grownBy_trans' hgA.out (World.grownBy_alloc _ _ _), hta7.out.keep (World.grownBy_alloc _ _ _)⟩
            case measure => simp [intOf]
          · rw [if_pos hn0] at hf
            have hnb : (n == 0) = false := by simpa using hn0
            replace hf := Lib.hid hf
            go_wp2_with fail
            refine hp.mono ?_
            rintro e w5 ⟨⟨v5, rfl, hv5⟩, hg5⟩
            obtain ⟨so, sn, sm, sk⟩ := E
            obtain ⟨yA, yc, rfl, _⟩ := hv5.form
            replace hv5 := Lib.hid hv5
            generalize hSL : sk.length = SL at hv5 ⊢
            clear hp hSL
            go_upto_region 9 with fail
            obtain ⟨w6, hW6, hs6, hgr6, hcz6, _, hold6⟩ := one_new w5 #[.string ⟨so.toArray⟩, .int .i64 sn, .string ⟨sm.toArray⟩, .slice yA SL yc] 40
            rw [hW6]
            generalize hyy : w5.heap.size = y at hcz6 ⊢
            have c0 := hcz6 0 _ rfl
            have c1 := hcz6 1 _ rfl
            have c2 := hcz6 2 _ rfl
            have c3 := hcz6 3 _ rfl
            have hg46 := grownBy_trans' hg5 (hgr6 none)
            have hx6 : ExR w6 (fun g => wr.heap.size ≤ g ∧ g < w5.heap.size) (.mk so sn sm sk) (.agg #[.string ⟨so.toArray⟩, .int .i64 sn, .string ⟨sm.toArray⟩, .slice yA SL yc]) := hv5.out.keep (fun _ h => h) (fun g h => hold6 g h.2)
            have hva := Value_any (z + 1) (.mk so sn sm sk) _ (fun g => wr.heap.size ≤ g ∧ g < w5.heap.size) w6 ps hx6 ⟨fun g h => by omega, hta.out.keep hg46, hkk.out.keep (grow_some hg46 _), hvs.out, hnm, hfew _ hsz⟩
            rw [hf.out] at hva
            have hg36 := Lib.hid (grownBy_trans' hg.out (grow_some hg46 (z + 1)))
            clear hW6 hs6 hgr6 hcz6 hold6 hx6 hv5 hyy hg46 hg5 hta hkk hf hsz hnm hg hszr htbr
            go_wp2_with fail
            refine hva.mono ?_
            rintro e w7 ⟨rfl, hta7, hg7⟩
            have hgA := Lib.hid (grownBy_trans' hg36.out hg7)
            replace hta7 := Lib.hid hta7
            clear hva hg7 hg36 c0 c1 c2 c3 s0 s1 s2 s3
            go_wp2
            go_roundw
            case rel => exact ⟨2, by omega, by go_num, grownBy_trans' hgA.out (World.grownBy_alloc _ _ _), hta7.out.keep (World.grownBy_alloc _ _ _)⟩
            case measure => simp [intOf]
        · obtain ⟨E, hE⟩ : ∃ E, hf2 = E := ⟨_, rfl⟩
          have hsz : sizeE E ≤ 100 := by rw [← hE]; decide
          have hnm : NumE E := by rw [← hE]; unfold hf2 hfBad lfV lfN; simp [NumE, NumL, InR]
          have hp := hp2 wr
          have hf := hf2'
          rw [hE] at hp hf
          clear hE hp0 hp1 hp2 hp3 hf0' hf1' hf2' hf3' hm4
          by_cases hn0 : n = 0
          · subst hn0
            rw [if_neg (by simp)] at hf
            replace hf := Lib.hid hf
            go_wp2_with fail
            refine hp.mono ?_
            rintro e w5 ⟨⟨v5, rfl, hv5⟩, hg5⟩
            obtain ⟨so, sn, sm, sk⟩ := E
            obtain ⟨yA, yc, rfl, _⟩ := hv5.form
            replace hv5 := Lib.hid hv5
            generalize hSL : sk.length = SL at hv5 ⊢
            clear hp hSL
            go_upto_region 9 with fail
            obtain ⟨w6, hW6, hs6, hgr6, hcz6, _, hold6⟩ := one_new w5 #[.string ⟨so.toArray⟩, .int .i64 sn, .string ⟨sm.toArray⟩, .slice yA SL yc] 40
            rw [hW6]
            generalize hyy : w5.heap.size = y at hcz6 ⊢
            have c0 := hcz6 0 _ rfl
            have c1 := hcz6 1 _ rfl
            have c2 := hcz6 2 _ rfl
            have c3 := hcz6 3 _ rfl
            have hg46 := grownBy_trans' hg5 (hgr6 none)
            have hx6 : ExR w6 (fun g => wr.heap.size ≤ g ∧ g < w5.heap.size) (.mk so sn sm sk) (.agg #[.string ⟨so.toArray⟩, .int .i64 sn, .string ⟨sm.toArray⟩, .slice yA SL yc]) := hv5.out.keep (fun _ h => h) (fun g h => hold6 g h.2)
            have hva := Value_any (z + 1) (.mk so sn sm sk) _ (fun g => wr.heap.size ≤ g ∧ g < w5.heap.size) w6 ps hx6 ⟨fun g h => by omega, hta.out.keep hg46, hkk.out.keep (grow_some hg46 _), hvs.out, hnm, hfew _ hsz⟩
            rw [hf.out] at hva
            have hg36 := Lib.hid (grownBy_trans' hg.out (grow_some hg46 (z + 1)))
            clear hW6 hs6 hgr6 hcz6 hold6 hx6 hv5 hyy hg46 hg5 hta hkk hf hsz hnm hg hszr htbr
            go_wp2_with fail
            refine hva.mono ?_
            rintro e w7 ⟨rfl, hta7, hg7⟩
            have hgA := Lib.hid (grownBy_trans' hg36.out hg7)
            replace hta7 := Lib.hid hta7
            clear hva hg7 hg36 c0 c1 c2 c3 s0 s1 s2 s3
            go_wp2
            go_roundw
            case rel => exact ⟨3, by omega, by go_num, grownBy_trans' hgA.out (World.grownBy_alloc _ _ _), hta7.out.keep (World.grownBy_alloc _ _ _)⟩
            case measure => simp [intOf]
          · rw [if_pos hn0] at hf
            have hnb : (n == 0) = false := by simpa using hn0
            replace hf := Lib.hid hf
            go_wp2_with fail
            refine hp.mono ?_
            rintro e w5 ⟨⟨v5, rfl, hv5⟩, hg5⟩
            obtain ⟨so, sn, sm, sk⟩ := E
            obtain ⟨yA, yc, rfl, _⟩ := hv5.form
            replace hv5 := Lib.hid hv5
            generalize hSL : sk.length = SL at hv5 ⊢
            clear hp hSL
            go_upto_region 9 with fail
            obtain ⟨w6, hW6, hs6, hgr6, hcz6, _, hold6⟩ := one_new w5 #[.string ⟨so.toArray⟩, .int .i64 sn, .string ⟨sm.toArray⟩, .slice yA SL yc] 40
            rw [hW6]
            generalize hyy : w5.heap.size = y at hcz6 ⊢
            have c0 := hcz6 0 _ rfl
            have c1 := hcz6 1 _ rfl
            have c2 := hcz6 2 _ rfl
            have c3 := hcz6 3 _ rfl
            have hg46 := grownBy_trans' hg5 (hgr6 none)
            have hx6 : ExR w6 (fun g => wr.heap.size ≤ g ∧ g < w5.heap.size) (.mk so sn sm sk) (.agg #[.string ⟨so.toArray⟩, .int .i64 sn, .string ⟨sm.toArray⟩, .slice yA SL yc]) := hv5.out.keep (fun _ h => h) (fun g h => hold6 g h.2)
            have hva := Value_any (z + 1) (.mk so sn sm sk) _ (fun g => wr.heap.size ≤ g ∧ g < w5.heap.size) w6 ps hx6 ⟨fun g h => by omega, hta.out.keep hg46, hkk.out.keep (grow_some hg46 _), hvs.out, hnm, hfew _ hsz⟩
            rw [hf.out] at hva
            have hg36 := Lib.hid (grownBy_trans' hg.out (grow_some hg46 (z + 1)))
            clear hW6 hs6 hgr6 hcz6 hold6 hx6 hv5 hyy hg46 hg5 hta hkk hf hsz hnm hg hszr htbr
            go_wp2_with fail
            refine hva.mono ?_
            rintro e w7 ⟨rfl, hta7, hg7⟩
            have hgA := Lib.hid (grownBy_trans' hg36.out hg7)
            replace hta7 := Lib.hid hta7
            clear hva hg7 hg36 c0 c1 c2 c3 s0 s1 s2 s3
            go_wp2
            go_roundw
            case rel => exact ⟨3, by omega, by go_num, grownBy_trans' hgA.out (World.grownBy_alloc _ _ _), hta7.out.keep (World.grownBy_alloc _ _ _)⟩
            case measure => simp [intOf]
        · obtain ⟨E, hE⟩ : ∃ E, hf3 = E := ⟨_, rfl⟩
          have hsz : sizeE E ≤ 100 := by rw [← hE]; decide
          have hnm : NumE E := by rw [← hE]; unfold hf3 hfBad lfV lfN; simp [NumE, NumL, InR]
          have hp := hp3 wr
          have hf := hf3'
          rw [hE] at hp hf
          clear hE hp0 hp1 hp2 hp3 hf0' hf1' hf2' hf3' hm4
          by_cases hn0 : n = 0
          · subst hn0
            rw [if_neg (by simp)] at hf
            replace hf := Lib.hid hf
            go_wp2_with fail
            refine hp.mono ?_
            rintro e w5 ⟨⟨v5, rfl, hv5⟩, hg5⟩
            obtain ⟨so, sn, sm, sk⟩ := E
            obtain ⟨yA, yc, rfl, _⟩ := hv5.form
            replace hv5 := Lib.hid hv5
            generalize hSL : sk.length = SL at hv5 ⊢
            clear hp hSL
            go_upto_region 9 with fail
            obtain ⟨w6, hW6, hs6, hgr6, hcz6, _, hold6⟩ := one_new w5 #[.string ⟨so.toArray⟩, .int .i64 sn, .string ⟨sm.toArray⟩, .slice yA SL yc] 40
            rw [hW6]
            generalize hyy : w5.heap.size = y at hcz6 ⊢
            have c0 := hcz6 0 _ rfl
            have c1 := hcz6 1 _ rfl
            have c2 := hcz6 2 _ rfl
            have c3 := hcz6 3 _ rfl
            have hg46 := grownBy_trans' hg5 (hgr6 none)
            have hx6 : ExR w6 (fun g => wr.heap.size ≤ g ∧ g < w5.heap.size) (.mk so sn sm sk) (.agg #[.string ⟨so.toArray⟩, .int .i64 sn, .string ⟨sm.toArray⟩, .slice yA SL yc]) := hv5.out.keep (fun _ h => h) (fun g h => hold6 g h.2)
            have hva := Value_any (z + 1) (.mk so sn sm sk) _ (fun g => wr.heap.size ≤ g ∧ g < w5.heap.size) w6 ps hx6 ⟨fun g h => by omega, hta.out.keep hg46, hkk.out.keep (grow_some hg46 _), hvs.out, hnm, hfew _ hsz⟩
            rw [hf.out] at hva
            have hg36 := Lib.hid (grownBy_trans' hg.out (grow_some hg46 (z + 1)))
            clear hW6 hs6 hgr6 hcz6 hold6 hx6 hv5 hyy hg46 hg5 hta hkk hf hsz hnm hg hszr htbr
            go_wp2_with fail
            refine hva.mono ?_
            rintro e w7 ⟨rfl, hta7, hg7⟩
            have hgA := Lib.hid (grownBy_trans' hg36.out hg7)
            replace hta7 := Lib.hid hta7
            clear hva hg7 hg36 c0 c1 c2 c3 s0 s1 s2 s3
            go_wp2
            go_roundw
            case rel => exact ⟨4, by omega, by go_num, grownBy_trans' hgA.out (World.grownBy_alloc _ _ _), hta7.out.keep (World.grownBy_alloc _ _ _)⟩
            case measure => simp [intOf]
          · rw [if_pos hn0] at hf
            have hnb : (n == 0) = false := by simpa using hn0
            replace hf := Lib.hid hf
            go_wp2_with fail
            refine hp.mono ?_
            rintro e w5 ⟨⟨v5, rfl, hv5⟩, hg5⟩
            obtain ⟨so, sn, sm, sk⟩ := E
            obtain ⟨yA, yc, rfl, _⟩ := hv5.form
            replace hv5 := Lib.hid hv5
            generalize hSL : sk.length = SL at hv5 ⊢
            clear hp hSL
            go_upto_region 9 with fail
            obtain ⟨w6, hW6, hs6, hgr6, hcz6, _, hold6⟩ := one_new w5 #[.string ⟨so.toArray⟩, .int .i64 sn, .string ⟨sm.toArray⟩, .slice yA SL yc] 40
            rw [hW6]
            generalize hyy : w5.heap.size = y at hcz6 ⊢
            have c0 := hcz6 0 _ rfl
            have c1 := hcz6 1 _ rfl
            have c2 := hcz6 2 _ rfl
            have c3 := hcz6 3 _ rfl
            have hg46 := grownBy_trans' hg5 (hgr6 none)
            have hx6 : ExR w6 (fun g => wr.heap.size ≤ g ∧ g < w5.heap.size) (.mk so sn sm sk) (.agg #[.string ⟨so.toArray⟩, .int .i64 sn, .string ⟨sm.toArray⟩, .slice yA SL yc]) := hv5.out.keep (fun _ h => h) (fun g h => hold6 g h.2)
            have hva := Value_any (z + 1) (.mk so sn sm sk) _ (fun g => wr.heap.size ≤ g ∧ g < w5.heap.size) w6 ps hx6 ⟨fun g h => by omega, hta.out.keep hg46, hkk.out.keep (grow_some hg46 _), hvs.out, hnm, hfew _ hsz⟩
            rw [hf.out] at hva
            have hg36 := Lib.hid (grownBy_trans' hg.out (grow_some hg46 (z + 1)))
            clear hW6 hs6 hgr6 hcz6 hold6 hx6 hv5 hyy hg46 hg5 hta hkk hf hsz hnm hg hszr htbr
            go_wp2_with fail
            refine hva.mono ?_
            rintro e w7 ⟨rfl, hta7, hg7⟩
            have hgA := Lib.hid (grownBy_trans' hg36.out hg7)
            replace hta7 := Lib.hid hta7
            clear hva hg7 hg36 c0 c1 c2 c3 s0 s1 s2 s3
            go_wp2
            go_roundw
            case rel => exact ⟨4, by omega, by go_num, grownBy_trans' hgA.out (World.grownBy_alloc _ _ _), hta7.out.keep (World.grownBy_alloc _ _ _)⟩
            case measure => simp [intOf]
  · have i0 : (100 : Int) < (s.size : Int) := by omega
    have haw := haw w ht
    go_enter Tryd.func4, Tryd.ntmps4
    go_wp2_with fail
    refine haw.mono ?_
    rintro e w1 ⟨rfl, hg⟩
    go_wp2
    go_ret
    exact ⟨rfl, below_of_none hg⟩
end Go.Proofs.YtlijlgbaikijnaaDoor
