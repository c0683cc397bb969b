/-
  val, a text's value over three names, by the law. Conditions: the table of powers of ten holds them; the text is parsed as an expression without an assignment, over a, b and c.
-/
import Derived.Test.YtlijlgbaikijnaaDoorSmLawHalf
import Derived.OrdersHeld
namespace Go.Proofs.YtlijlgbaikijnaaDoor
open Go Go.RowKit

section
variable {P : Program} {ops : Array Oper} {Q : Exit → Act → World → Prop} {md : Region.Mode} {S : World → Prop}
theorem wpAnyH_one {i : Nat} {o : Oper} {fuel : Nat} {listed : Array Bool} {a : Act} {w : World} (ho : ops[i]? = some o) (hr : Region.ready md ops listed = [i]) (hg : o.guard = none)
    (h : o.wp P a w (fun a' w' => S w' ∧ wpAnyH P md ops Q S fuel (listed.setIfInBounds i true) a' w') Q) : wpAnyH P md ops Q S (fuel + 1) listed a w := by
  refine ⟨fun h0 => (by rw [hr] at h0; cases h0), fun j hj => ?_⟩
  rw [hr, List.mem_singleton] at hj
  subst hj
  unfold wpOp
  simp only [ho, Region.wanted, hg, if_true]
  exact .inl h
end
/-- The numbers of the three names. -/
def abcG (a b c : Int) (nm : List UInt8) : Int := if nm = [97] then a else if nm = [98] then b else c
def abcN : List (List UInt8) := [[97], [98], [99]]
def abcP (Ta Tb Tc : ByteArray) : List Pr := [(⟨#[97]⟩, Ta, false), (⟨#[98]⟩, Tb, false), (⟨#[99]⟩, Tc, false)]
theorem abc_get {a b c : Int} (ha : InR a) (hb : InR b) (hc : InR c) : ∀ nm ∈ abcN, getV (abcP ⟨(Lib.itoa a).toArray⟩ ⟨(Lib.itoa b).toArray⟩ ⟨(Lib.itoa c).toArray⟩) (nmB nm) = some (abcG a b c nm) := by
  intro nm h
  simp only [abcN, List.mem_cons, List.mem_nil_iff, or_false] at h
  rcases h with rfl | rfl | rfl
  · have e : getP (abcP ⟨(Lib.itoa a).toArray⟩ ⟨(Lib.itoa b).toArray⟩ ⟨(Lib.itoa c).toArray⟩) (nmB [97]) = some ⟨(Lib.itoa a).toArray⟩ := by kernel_rfl
    unfold getV; rw [e]; exact num_itoa ha
  · have e : getP (abcP ⟨(Lib.itoa a).toArray⟩ ⟨(Lib.itoa b).toArray⟩ ⟨(Lib.itoa c).toArray⟩) (nmB [98]) = some ⟨(Lib.itoa b).toArray⟩ := by kernel_rfl
    unfold getV; rw [e]; exact num_itoa hb
  · have e : getP (abcP ⟨(Lib.itoa a).toArray⟩ ⟨(Lib.itoa b).toArray⟩ ⟨(Lib.itoa c).toArray⟩) (nmB [99]) = some ⟨(Lib.itoa c).toArray⟩ := by kernel_rfl
    unfold getV; rw [e]; exact num_itoa hc
def valR0 (o : Option Int) : Int := match o with | some n => n | none => 0
def valR1 (o : Option Int) : Int := match o with | some _ => 0 | none => 24

set_option maxHeartbeats 8000000 in
set_option maxRecDepth 100000 in
theorem val_any {E0 : E} (hok : okX abcN 200 E0 = true) (hd : dpLe 200 E0 = true) (hsz : sizeE E0 ≤ 100) (hnm : NumE E0) {N : Nat} {t : Th} (s : ByteArray) (hp : parseP N (tl s) = .ok E0 t) (hs : s.size ≤ 4096)
    (a b c : Int) (ha : InR a) (hb : InR b) (hc : InR c) (w : World) (ht : Tab w) :
    Calls Tryd.prog 5 #[.string s, .agg #[.int .i64 a, .int .i64 b, .int .i64 c]] w fun e w' => e = .returned (.tuple #[.int .i64 (valR0 (valX (abcG a b c) 200 E0)), .int .i64 (valR1 (valX (abcG a b c) 200 E0))]) ∧ w.grownBy w' none := by
  have hget := abc_get ha hb hc
  have hT : ∀ n : Int, InR n → (⟨(Lib.itoa n).toArray⟩ : ByteArray).size ≤ 1000000 := fun n h => by
    have := itoa_small h.1 h.2
    show (Lib.itoa n).toArray.size ≤ _
    rw [List.size_toArray]; omega
  have hTa := hT a ha
  have hTb := hT b hb
  have hTc := hT c hc
  obtain ⟨f, hf⟩ : ∃ f : Int → ByteArray, f = fun n => ⟨(Lib.itoa n).toArray⟩ := ⟨_, rfl⟩
  have htx0 : ∀ n, InR n → ∀ W, Tab W → Calls Tryd.prog 7 #[.int .i64 n] W fun e w' => e = .returned (.string (f n)) ∧ Below W.heap.size W w' := fun n h W hW => by rw [hf]; exact text_any n h.1 h.2 W hW
  have e1 : ∀ n, (⟨(Lib.itoa n).toArray⟩ : ByteArray) = f n := fun n => by rw [hf]
  rw [e1, e1, e1] at hget
  rw [e1] at hTa hTb hTc
  clear hf e1 hT
  obtain ⟨Ta, hTae⟩ : ∃ T, f a = T := ⟨_, rfl⟩
  obtain ⟨Tb, hTbe⟩ : ∃ T, f b = T := ⟨_, rfl⟩
  obtain ⟨Tc, hTce⟩ : ∃ T, f c = T := ⟨_, rfl⟩
  rw [hTae, hTbe, hTce] at hget
  rw [hTae] at hTa
  rw [hTbe] at hTb
  rw [hTce] at hTc
  have hvx := valX_val hget 200 E0 hok
  have hlen : (abcP Ta Tb Tc).length = 3 := rfl
  have hcs : cellsPr (abcP Ta Tb Tc) = [.string ⟨#[97]⟩, .string Ta, .bool false, .string ⟨#[98]⟩, .string Tb, .bool false, .string ⟨#[99]⟩, .string Tc, .bool false] := rfl
  have hvs : Vals (abcP Ta Tb Tc) := by
    intro p hp
    simp only [abcP, List.mem_cons, List.mem_nil_iff, or_false] at hp
    rcases hp with rfl | rfl | rfl
    · exact hTa
    · exact hTb
    · exact hTc
  generalize abcP Ta Tb Tc = ps at hvx hlen hcs hvs
  have hfv : faceV E0 ps = OfX (valX (abcG a b c) 200 E0) ps := by unfold faceV; rw [hd]; exact hvx
  generalize valX (abcG a b c) 200 E0 = o at hfv ⊢
  obtain ⟨r0, hr0⟩ : ∃ r, valR0 o = r := ⟨_, rfl⟩
  obtain ⟨r1, hr1⟩ : ∃ r, valR1 o = r := ⟨_, rfl⟩
  rw [hr0, hr1]
  have hpa := fun W => parse_ok hp s rfl hs W
  have hmi : ∀ (p : Option Addr) (w : World), (Instr.makeInterface 30 (.pointer p)).run Tryd.prog w = .ok (.iface 30 (.pointer p)) w := fun _ _ => rfl
  obtain ⟨so, sn, sm, sk⟩ := E0
  replace ht := Lib.hid ht
  clear hok hd hp hs hget hvx hTa hTb hTc
  go_enter Tryd.func5, Tryd.ntmps5
  go_upto_region 1 with fail
  obtain ⟨w2, hW2, hs2, hgr2, hcz2, _, _⟩ := one_new w #[.int .i64 a, .int .i64 b, .int .i64 c] 22
  rw [hW2]
  obtain ⟨z, hz⟩ : ∃ z, w.heap.size = z := ⟨_, rfl⟩
  rw [hz] at hcz2 hs2 ⊢
  have q0 := hcz2 0 _ rfl
  have q1 := hcz2 1 _ rfl
  have q2 := hcz2 2 _ rfl
  have hg2 := hgr2 none
  have hpa2 := hpa w2
  clear hW2 hgr2 hcz2 hpa
  go_wp2_with fail
  refine hpa2.mono ?_
  rintro e w5 ⟨⟨v5, rfl, hv5⟩, hg5⟩
  obtain ⟨yA, yc, rfl, _⟩ := hv5.form
  generalize hSL : sk.length = SL at hv5 ⊢
  have q0 := hg5.cell q0 (by simp)
  have q1 := hg5.cell q1 (by simp)
  have q2 := hg5.cell q2 (by simp)
  have hz5 : z < w5.heap.size := World.block_lt_of_cell? w5 ⟨z, 0, none⟩ q0
  have hg25 := grownBy_trans' hg2 hg5
  have hs5 := hg5.size
  replace hv5 := Lib.hid hv5
  clear hpa2 hSL hg5 hg2
  go_upto_region 4 with fail
  obtain ⟨w6, hW6, hs6, hgr6, hcz6, _, hold6⟩ := one_new w5 #[.string ⟨so.toArray⟩, .int .i64 sn, .string ⟨sm.toArray⟩, .slice yA SL yc] 40
  rw [hW6]
  generalize hyy : w5.heap.size = y at hcz6 hs6 hz5 hs5 ⊢
  have c0 := hcz6 0 _ rfl
  have c1 := hcz6 1 _ rfl
  have c2 := hcz6 2 _ rfl
  have c3 := hcz6 3 _ rfl
  have q0 := (hgr6 none).cell q0 (by simp)
  have q1 := (hgr6 none).cell q1 (by simp)
  have q2 := (hgr6 none).cell q2 (by simp)
  have hgw6 := grownBy_trans' hg25 (hgr6 none)
  have hx6 : ExR w6 (fun g => w2.heap.size ≤ g ∧ g < y) (.mk so sn sm sk) (.agg #[.string ⟨so.toArray⟩, .int .i64 sn, .string ⟨sm.toArray⟩, .slice yA SL yc]) := hv5.out.keep (fun g h => by omega) (fun g h => hold6 g (by omega))
  have htx : ∀ n, InR n → ∀ W, w6.grownBy W none → Calls Tryd.prog 7 #[.int .i64 n] W fun e w' => e = .returned (.string (f n)) ∧ Below W.heap.size W w' := fun n h W hW => htx0 n h W (ht.out.below (below_of_none (grownBy_trans' hgw6 hW)))
  have htxa := fun W hW => htx a ha W hW
  have htxb := fun W hW => htx b hb W hW
  have htxc := fun W hW => htx c hc W hW
  rw [hTae] at htxa
  rw [hTbe] at htxb
  rw [hTce] at htxc
  have hva : ∀ (W : World) (tb : Nat), TabAt W tb ps → w6.grownBy W none → y < tb → w.heap.size ≤ tb → Calls Tryd.prog 9 #[.agg #[.string ⟨so.toArray⟩, .int .i64 sn, .string ⟨sm.toArray⟩, .slice yA SL yc], .iface 30 (.pointer (some ⟨tb, 0, none⟩))] W fun e w' => e = .returned (.tuple #[.int .i64 r0, .int .i64 r1]) ∧ W.grownBy w' (some tb) := by
    intro W tb hta hW hyt hwt
    have hxW := hx6.keep (fun _ h => h) (fun g h => hW.block g (by omega) (by simp))
    have hsW := hW.size
    refine (Value_any tb (.mk so sn sm sk) _ _ W ps hxW ⟨fun g h => by omega, hta, tabK_of ht.out (grownBy_trans' hgw6 hW) hwt, hvs, hnm, by rw [hlen]; omega⟩).mono ?_
    rw [hfv]
    rintro e w' ⟨h1, _, h3⟩
    refine ⟨?_, h3⟩
    cases o with
    | some n => rw [← hr0, ← hr1]; exact h1
    | none => rw [← hr0, ← hr1]; exact h1
  have hyz : z ≠ y := by omega
  clear hW6 hgr6 hcz6 hold6 hv5 hg25 htx0 htx hx6 hfv hvs hnm hsz hr0 hr1 ht
  go_wp2_with fail
  refine wp_region_held (S := (fun w' : World => w'.cell? ⟨z, 0, none⟩ = some (.int .i64 a) ∧ w'.cell? ⟨z, 1, none⟩ = some (.int .i64 b) ∧ w'.cell? ⟨z, 2, none⟩ = some (.int .i64 c) ∧ w'.cell? ⟨y, 0, none⟩ = some (.string ⟨so.toArray⟩) ∧ w'.cell? ⟨y, 1, none⟩ = some (.int .i64 sn) ∧ w'.cell? ⟨y, 2, none⟩ = some (.string ⟨sm.toArray⟩) ∧ w'.cell? ⟨y, 3, none⟩ = some (.slice yA SL yc))) (by kernel_rfl) ?_
  have hS0 : (fun w' : World => w'.cell? ⟨z, 0, none⟩ = some (.int .i64 a) ∧ w'.cell? ⟨z, 1, none⟩ = some (.int .i64 b) ∧ w'.cell? ⟨z, 2, none⟩ = some (.int .i64 c) ∧ w'.cell? ⟨y, 0, none⟩ = some (.string ⟨so.toArray⟩) ∧ w'.cell? ⟨y, 1, none⟩ = some (.int .i64 sn) ∧ w'.cell? ⟨y, 2, none⟩ = some (.string ⟨sm.toArray⟩) ∧ w'.cell? ⟨y, 3, none⟩ = some (.slice yA SL yc)) w6.drew := ⟨q0, q1, q2, c0, c1, c2, c3⟩
  refine wpAnyH_take (i := 0) (v := .agg #[.string ⟨so.toArray⟩, .int .i64 sn, .string ⟨sm.toArray⟩, .slice yA SL yc]) rfl (by kernel_rfl) (by kernel_rfl) (by kernel_rfl) (fun _ _ _ h => h) (Or.inl ⟨by rfl, ?_⟩) hS0 ?_
  · intro W hW
    obtain ⟨k0, k1, k2, k3, k4, k5, k6⟩ := hW
    clear q0 q1 q2 c0 c1 c2 c3 hS0 htxa htxb htxc hva
    go_simp
  try simp only [Act.put, List.setIfInBounds_toArray]
  refine wpAnyH_take (i := 1) (v := .pointer (some ⟨z, 0, none⟩)) rfl (by kernel_rfl) (by kernel_rfl) (by kernel_rfl) (fun _ _ _ h => h) (Or.inl ⟨by rfl, ?_⟩) hS0 ?_
  · intro W hW
    obtain ⟨k0, k1, k2, k3, k4, k5, k6⟩ := hW
    clear q0 q1 q2 c0 c1 c2 c3 hS0 htxa htxb htxc hva
    go_simp
  try simp only [Act.put]
  refine wpAnyH_take (i := 2) (v := .int .i64 a) rfl (by kernel_rfl) (by kernel_rfl) (by kernel_rfl) (fun _ _ _ h => h) (Or.inl ⟨by rfl, ?_⟩) hS0 ?_
  · intro W hW
    obtain ⟨k0, k1, k2, k3, k4, k5, k6⟩ := hW
    clear q0 q1 q2 c0 c1 c2 c3 hS0 htxa htxb htxc hva
    go_simp
  try simp only [Act.put]
  refine wpAnyH_take (i := 5) (v := .pointer (some ⟨z, 1, none⟩)) rfl (by kernel_rfl) (by kernel_rfl) (by kernel_rfl) (fun _ _ _ h => h) (Or.inl ⟨by rfl, ?_⟩) hS0 ?_
  · intro W hW
    obtain ⟨k0, k1, k2, k3, k4, k5, k6⟩ := hW
    clear q0 q1 q2 c0 c1 c2 c3 hS0 htxa htxb htxc hva
    go_simp
  try simp only [Act.put]
  refine wpAnyH_take (i := 6) (v := .int .i64 b) rfl (by kernel_rfl) (by kernel_rfl) (by kernel_rfl) (fun _ _ _ h => h) (Or.inl ⟨by rfl, ?_⟩) hS0 ?_
  · intro W hW
    obtain ⟨k0, k1, k2, k3, k4, k5, k6⟩ := hW
    clear q0 q1 q2 c0 c1 c2 c3 hS0 htxa htxb htxc hva
    go_simp
  try simp only [Act.put]
  refine wpAnyH_take (i := 9) (v := .pointer (some ⟨z, 2, none⟩)) rfl (by kernel_rfl) (by kernel_rfl) (by kernel_rfl) (fun _ _ _ h => h) (Or.inl ⟨by rfl, ?_⟩) hS0 ?_
  · intro W hW
    obtain ⟨k0, k1, k2, k3, k4, k5, k6⟩ := hW
    clear q0 q1 q2 c0 c1 c2 c3 hS0 htxa htxb htxc hva
    go_simp
  try simp only [Act.put]
  refine wpAnyH_take (i := 10) (v := .int .i64 c) rfl (by kernel_rfl) (by kernel_rfl) (by kernel_rfl) (fun _ _ _ h => h) (Or.inl ⟨by rfl, ?_⟩) hS0 ?_
  · intro W hW
    obtain ⟨k0, k1, k2, k3, k4, k5, k6⟩ := hW
    clear q0 q1 q2 c0 c1 c2 c3 hS0 htxa htxb htxc hva
    go_simp
  try simp only [Act.put]
  clear hS0
  refine wpAnyH_one (i := 3) rfl (by kernel_rfl) rfl ?_
  go_simp
  refine (htxa w6.drew ⟨rfl, rfl, rfl, Nat.le_refl _, fun _ _ _ => rfl⟩).mono ?_
  rintro e v1 ⟨rfl, gb1⟩
  have gg1 : w6.grownBy v1 none := below_none (((Below.refl _ w6).drew).trans gb1)
  have q0 := gg1.cell q0 (by simp)
  have q1 := gg1.cell q1 (by simp)
  have q2 := gg1.cell q2 (by simp)
  have c0 := gg1.cell c0 (by simp)
  have c1 := gg1.cell c1 (by simp)
  have c2 := gg1.cell c2 (by simp)
  have c3 := gg1.cell c3 (by simp)
  have hh1 : w6.grownBy v1 none := gg1
  refine ⟨⟨q0, q1, q2, c0, c1, c2, c3⟩, ?_⟩
  have hS0 : (fun w' : World => w'.cell? ⟨z, 0, none⟩ = some (.int .i64 a) ∧ w'.cell? ⟨z, 1, none⟩ = some (.int .i64 b) ∧ w'.cell? ⟨z, 2, none⟩ = some (.int .i64 c) ∧ w'.cell? ⟨y, 0, none⟩ = some (.string ⟨so.toArray⟩) ∧ w'.cell? ⟨y, 1, none⟩ = some (.int .i64 sn) ∧ w'.cell? ⟨y, 2, none⟩ = some (.string ⟨sm.toArray⟩) ∧ w'.cell? ⟨y, 3, none⟩ = some (.slice yA SL yc)) v1 := ⟨q0, q1, q2, c0, c1, c2, c3⟩
  clear gb1 gg1
  refine wpAnyH_take (i := 4) (v := .agg #[.string ⟨#[97]⟩, .string Ta, .bool false]) rfl (by kernel_rfl) (by kernel_rfl) (by kernel_rfl) (fun _ _ _ h => h) (Or.inl ⟨by rfl, ?_⟩) hS0 ?_
  · intro W hW
    obtain ⟨k0, k1, k2, k3, k4, k5, k6⟩ := hW
    clear q0 q1 q2 c0 c1 c2 c3 hS0 htxa htxb htxc hva hh1
    go_simp
  try simp only [Act.put]
  clear hS0
  refine wpAnyH_one (i := 7) rfl (by kernel_rfl) rfl ?_
  go_simp
  refine (htxb v1 hh1).mono ?_
  rintro e v2 ⟨rfl, gb2⟩
  have gg2 : v1.grownBy v2 none := below_none (gb2)
  have q0 := gg2.cell q0 (by simp)
  have q1 := gg2.cell q1 (by simp)
  have q2 := gg2.cell q2 (by simp)
  have c0 := gg2.cell c0 (by simp)
  have c1 := gg2.cell c1 (by simp)
  have c2 := gg2.cell c2 (by simp)
  have c3 := gg2.cell c3 (by simp)
  have hh2 : w6.grownBy v2 none := grownBy_trans' hh1 gg2
  refine ⟨⟨q0, q1, q2, c0, c1, c2, c3⟩, ?_⟩
  have hS0 : (fun w' : World => w'.cell? ⟨z, 0, none⟩ = some (.int .i64 a) ∧ w'.cell? ⟨z, 1, none⟩ = some (.int .i64 b) ∧ w'.cell? ⟨z, 2, none⟩ = some (.int .i64 c) ∧ w'.cell? ⟨y, 0, none⟩ = some (.string ⟨so.toArray⟩) ∧ w'.cell? ⟨y, 1, none⟩ = some (.int .i64 sn) ∧ w'.cell? ⟨y, 2, none⟩ = some (.string ⟨sm.toArray⟩) ∧ w'.cell? ⟨y, 3, none⟩ = some (.slice yA SL yc)) v2 := ⟨q0, q1, q2, c0, c1, c2, c3⟩
  clear gb2 gg2 hh1
  refine wpAnyH_take (i := 8) (v := .agg #[.string ⟨#[98]⟩, .string Tb, .bool false]) rfl (by kernel_rfl) (by kernel_rfl) (by kernel_rfl) (fun _ _ _ h => h) (Or.inl ⟨by rfl, ?_⟩) hS0 ?_
  · intro W hW
    obtain ⟨k0, k1, k2, k3, k4, k5, k6⟩ := hW
    clear q0 q1 q2 c0 c1 c2 c3 hS0 htxa htxb htxc hva hh2
    go_simp
  try simp only [Act.put]
  clear hS0
  refine wpAnyH_one (i := 11) rfl (by kernel_rfl) rfl ?_
  go_simp
  refine (htxc v2 hh2).mono ?_
  rintro e v3 ⟨rfl, gb3⟩
  have gg3 : v2.grownBy v3 none := below_none (gb3)
  have q0 := gg3.cell q0 (by simp)
  have q1 := gg3.cell q1 (by simp)
  have q2 := gg3.cell q2 (by simp)
  have c0 := gg3.cell c0 (by simp)
  have c1 := gg3.cell c1 (by simp)
  have c2 := gg3.cell c2 (by simp)
  have c3 := gg3.cell c3 (by simp)
  have hh3 : w6.grownBy v3 none := grownBy_trans' hh2 gg3
  refine ⟨⟨q0, q1, q2, c0, c1, c2, c3⟩, ?_⟩
  have hS0 : (fun w' : World => w'.cell? ⟨z, 0, none⟩ = some (.int .i64 a) ∧ w'.cell? ⟨z, 1, none⟩ = some (.int .i64 b) ∧ w'.cell? ⟨z, 2, none⟩ = some (.int .i64 c) ∧ w'.cell? ⟨y, 0, none⟩ = some (.string ⟨so.toArray⟩) ∧ w'.cell? ⟨y, 1, none⟩ = some (.int .i64 sn) ∧ w'.cell? ⟨y, 2, none⟩ = some (.string ⟨sm.toArray⟩) ∧ w'.cell? ⟨y, 3, none⟩ = some (.slice yA SL yc)) v3 := ⟨q0, q1, q2, c0, c1, c2, c3⟩
  clear gb3 gg3 hh2
  refine wpAnyH_take (i := 12) (v := .agg #[.string ⟨#[99]⟩, .string Tc, .bool false]) rfl (by kernel_rfl) (by kernel_rfl) (by kernel_rfl) (fun _ _ _ h => h) (Or.inl ⟨by rfl, ?_⟩) hS0 ?_
  · intro W hW
    obtain ⟨k0, k1, k2, k3, k4, k5, k6⟩ := hW
    clear q0 q1 q2 c0 c1 c2 c3 hS0 htxa htxb htxc hva hh3
    go_simp
  try simp only [Act.put]
  clear hS0 htxa htxb htxc
  refine wpAnyH_one (i := 13) rfl (by kernel_rfl) rfl ?_
  go_simp
  obtain ⟨v4, hV4, hs4, hgr4, hcz4, _, hold4⟩ := one_new v3 #[.string ⟨#[97]⟩, .string Ta, .bool false, .string ⟨#[98]⟩, .string Tb, .bool false, .string ⟨#[99]⟩, .string Tc, .bool false] 33
  rw [hV4]
  generalize hp4 : v3.heap.size = p at hcz4 hs4 ⊢
  have q0 := (hgr4 none).cell q0 (by simp)
  have q1 := (hgr4 none).cell q1 (by simp)
  have q2 := (hgr4 none).cell q2 (by simp)
  have c0 := (hgr4 none).cell c0 (by simp)
  have c1 := (hgr4 none).cell c1 (by simp)
  have c2 := (hgr4 none).cell c2 (by simp)
  have c3 := (hgr4 none).cell c3 (by simp)
  refine ⟨⟨q0, q1, q2, c0, c1, c2, c3⟩, ?_⟩
  have hS0 : (fun w' : World => w'.cell? ⟨z, 0, none⟩ = some (.int .i64 a) ∧ w'.cell? ⟨z, 1, none⟩ = some (.int .i64 b) ∧ w'.cell? ⟨z, 2, none⟩ = some (.int .i64 c) ∧ w'.cell? ⟨y, 0, none⟩ = some (.string ⟨so.toArray⟩) ∧ w'.cell? ⟨y, 1, none⟩ = some (.int .i64 sn) ∧ w'.cell? ⟨y, 2, none⟩ = some (.string ⟨sm.toArray⟩) ∧ w'.cell? ⟨y, 3, none⟩ = some (.slice yA SL yc)) v4 := ⟨q0, q1, q2, c0, c1, c2, c3⟩
  refine wpAnyH_take (i := 14) (v := .agg #[.slice (some ⟨p, 0, none⟩) 3 3]) rfl (by kernel_rfl) (by kernel_rfl) (by kernel_rfl) (fun _ _ _ h => h) (Or.inl ⟨by rfl, ?_⟩) hS0 ?_
  · intro W hW
    obtain ⟨k0, k1, k2, k3, k4, k5, k6⟩ := hW
    clear q0 q1 q2 c0 c1 c2 c3 hS0 hva hh3 hgr4 hcz4 hold4
    go_simp
  try simp only [Act.put]
  clear hS0
  refine wpAnyH_one (i := 15) rfl (by kernel_rfl) rfl ?_
  go_simp
  obtain ⟨v5, hV5, hs5, hgr5, hcz5, hfz5, hold5⟩ := one_new v4 #[.slice (some ⟨p, 0, none⟩) 3 3] 36
  rw [hV5]
  rw [hs4] at hcz5 hfz5
  have q0 := (hgr5 none).cell q0 (by simp)
  have q1 := (hgr5 none).cell q1 (by simp)
  have q2 := (hgr5 none).cell q2 (by simp)
  have c0 := (hgr5 none).cell c0 (by simp)
  have c1 := (hgr5 none).cell c1 (by simp)
  have c2 := (hgr5 none).cell c2 (by simp)
  have c3 := (hgr5 none).cell c3 (by simp)
  refine ⟨⟨q0, q1, q2, c0, c1, c2, c3⟩, ?_⟩
  have hS0 : (fun w' : World => w'.cell? ⟨z, 0, none⟩ = some (.int .i64 a) ∧ w'.cell? ⟨z, 1, none⟩ = some (.int .i64 b) ∧ w'.cell? ⟨z, 2, none⟩ = some (.int .i64 c) ∧ w'.cell? ⟨y, 0, none⟩ = some (.string ⟨so.toArray⟩) ∧ w'.cell? ⟨y, 1, none⟩ = some (.int .i64 sn) ∧ w'.cell? ⟨y, 2, none⟩ = some (.string ⟨sm.toArray⟩) ∧ w'.cell? ⟨y, 3, none⟩ = some (.slice yA SL yc)) v5 := ⟨q0, q1, q2, c0, c1, c2, c3⟩
  have hta : TabAt v5 (p + 1) ps := tabAt_new (n := 3) hlen (by decide) (hcz5 0 _ rfl) (hfz5 0) (by omega) (by omega) (fun j u h => ((hgr5 none).cell (hcz4 j u (by
    rw [hcs] at h
    simpa using h)) (by simp)))
  have hh5 := grownBy_trans' hh3 (grownBy_trans' (hgr4 none) (hgr5 none))
  have hp6 : w6.heap.size ≤ p := by rw [← hp4]; exact hh3.size
  have hva2 := hva v5 (p + 1) hta hh5 (by omega) (by omega)
  clear hva hV4 hV5 hgr4 hcz4 hold4 hgr5 hcz5 hfz5 hold5 hta hh3 hs4 hs5
  refine wpAnyH_take (i := 16) (v := .iface 30 (.pointer (some ⟨p + 1, 0, none⟩))) rfl (by kernel_rfl) (by kernel_rfl) (by kernel_rfl) (fun _ _ _ h => h) (Or.inl ⟨by rfl, ?_⟩) hS0 ?_
  · intro W hW
    obtain ⟨k0, k1, k2, k3, k4, k5, k6⟩ := hW
    clear q0 q1 q2 c0 c1 c2 c3 hS0 hh5 hva2
    go_simp
  try simp only [Act.put]
  clear hS0
  refine wpAnyH_one (i := 17) rfl (by kernel_rfl) rfl ?_
  go_simp
  refine hva2.mono ?_
  rintro e v6 ⟨rfl, hg6⟩
  have q0 := cell_grown q0 hg6 (by omega)
  have q1 := cell_grown q1 hg6 (by omega)
  have q2 := cell_grown q2 hg6 (by omega)
  have c0 := cell_grown c0 hg6 (by omega)
  have c1 := cell_grown c1 hg6 (by omega)
  have c2 := cell_grown c2 hg6 (by omega)
  have c3 := cell_grown c3 hg6 (by omega)
  refine ⟨⟨q0, q1, q2, c0, c1, c2, c3⟩, ?_⟩
  have hS0 : (fun w' : World => w'.cell? ⟨z, 0, none⟩ = some (.int .i64 a) ∧ w'.cell? ⟨z, 1, none⟩ = some (.int .i64 b) ∧ w'.cell? ⟨z, 2, none⟩ = some (.int .i64 c) ∧ w'.cell? ⟨y, 0, none⟩ = some (.string ⟨so.toArray⟩) ∧ w'.cell? ⟨y, 1, none⟩ = some (.int .i64 sn) ∧ w'.cell? ⟨y, 2, none⟩ = some (.string ⟨sm.toArray⟩) ∧ w'.cell? ⟨y, 3, none⟩ = some (.slice yA SL yc)) v6 := ⟨q0, q1, q2, c0, c1, c2, c3⟩
  have hgE := grown_ov hgw6 (grownBy_trans' (grow_some hh5 (p + 1)) hg6) (by have := hgw6.size; omega)
  clear hh5 hva2 hg6
  refine wpAnyH_take (i := 18) (v := .int .i64 r0) rfl (by kernel_rfl) (by kernel_rfl) (by kernel_rfl) (fun _ _ _ h => h) (Or.inl ⟨by rfl, ?_⟩) hS0 ?_
  · intro W hW
    obtain ⟨k0, k1, k2, k3, k4, k5, k6⟩ := hW
    clear q0 q1 q2 c0 c1 c2 c3 hS0 hgE
    go_simp
  try simp only [Act.put]
  refine wpAnyH_take (i := 19) (v := .int .i64 r1) rfl (by kernel_rfl) (by kernel_rfl) (by kernel_rfl) (fun _ _ _ h => h) (Or.inl ⟨by rfl, ?_⟩) hS0 ?_
  · intro W hW
    obtain ⟨k0, k1, k2, k3, k4, k5, k6⟩ := hW
    clear q0 q1 q2 c0 c1 c2 c3 hS0 hgE
    go_simp
  try simp only [Act.put]
  refine wpAnyH_take (i := 20) (v := .int .i64 r0) rfl (by kernel_rfl) (by kernel_rfl) (by kernel_rfl) (fun _ _ _ h => h) (Or.inl ⟨by rfl, ?_⟩) hS0 ?_
  · intro W hW
    obtain ⟨k0, k1, k2, k3, k4, k5, k6⟩ := hW
    clear q0 q1 q2 c0 c1 c2 c3 hS0 hgE
    go_simp
  try simp only [Act.put]
  refine wpAnyH_one (i := 21) rfl (by kernel_rfl) rfl ?_
  go_simp
  try (refine ⟨⟨q0, q1, q2, c0, c1, c2, c3⟩, ?_⟩)
  refine wpAnyH_done (by kernel_rfl) ?_ _
  clear hS0 q0 q1 q2 c0 c1 c2 c3
  go_wp2
  go_ret2
  exact ⟨rfl, hgE⟩
end Go.Proofs.YtlijlgbaikijnaaDoor
