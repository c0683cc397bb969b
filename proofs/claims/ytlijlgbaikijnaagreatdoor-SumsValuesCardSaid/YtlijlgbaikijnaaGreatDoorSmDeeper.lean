/-
  How many Ops are in one another: deeper, by the package. Conditions: none.
  Whether there are more Ops in one another than so many, by the package. Conditions: at most 65536.
-/
import Derived.Test.YtlijlgbaikijnaaGreatDoorSmParse
import Derived.Deep.LoopGhost
namespace Go.Proofs.YtlijlgbaikijnaaGreatDoor
open Go Go.RowKit

/-- Whether at most n Ops are in one another. -/
def dpLe : Nat → E → Bool
  | 0, _ => false
  | n + 1, .mk _ _ _ kids => kids.all (dpLe n)

theorem KidsR.at_ {w : World} {ok : Nat → Prop} {g : Nat} : ∀ {l : List E} {off : Nat}, KidsR w ok g off l → ∀ (i : Nat) (hi : i < l.length), ∃ (v0 v1 v2 v3 : Value),
    w.cell? ⟨g, off + i * 4, none⟩ = some v0 ∧ w.cell? ⟨g, off + i * 4 + 1, none⟩ = some v1 ∧ w.cell? ⟨g, off + i * 4 + 2, none⟩ = some v2 ∧ w.cell? ⟨g, off + i * 4 + 3, none⟩ = some v3 ∧ ExR w ok l[i] (.agg #[v0, v1, v2, v3])
  | [], off, _, i, hi => by simp at hi
  | x :: l, off, h, i, hi => by
    unfold KidsR at h
    obtain ⟨⟨cs, hs, hc, hx⟩, hr⟩ := h
    cases i with
    | zero =>
      have e : cs = #[cs[0], cs[1], cs[2], cs[3]] := by
        apply Array.ext
        · simp [hs]
        · intro j h1 h2
          have : j < 4 := by omega
          match j, this with
          | 0, _ => rfl
          | 1, _ => rfl
          | 2, _ => rfl
          | 3, _ => rfl
      refine ⟨cs[0], cs[1], cs[2], cs[3], ?_, ?_, ?_, ?_, ?_⟩
      · exact hc 0 (by omega)
      · exact hc 1 (by omega)
      · exact hc 2 (by omega)
      · exact hc 3 (by omega)
      · rw [← e]; exact hx
    | succ i =>
      have := KidsR.at_ hr i (by simpa using hi)
      rw [show off + (i + 1) * 4 = off + 4 + i * 4 by omega]
      exact this
theorem ExR.form {w : World} {ok : Nat → Prop} {op : List UInt8} {num : Int} {name : List UInt8} {kids : List E} {v : Value} (h : ExR w ok (.mk op num name kids) v) :
    ∃ (A : Option Addr) (c : Nat), v = .agg #[.string ⟨op.toArray⟩, .int .i64 num, .string ⟨name.toArray⟩, .slice A kids.length c] ∧ kids.length ≤ c ∧ c ≤ maxLen ∧ (kids = [] ∨ ∃ g off : Nat, A = some ⟨g, off, none⟩ ∧ ok g ∧ KidsR w ok g off kids) := by
  unfold ExR exC at h
  exact h

/-- What a function that is handed a Kid and answers a truth comes to, in all later worlds. -/
def Tells (f : Nat) (cap : Array Value) (ok : Nat → Prop) (w : World) (p : E → Bool) (x : E) : Prop :=
  ∀ (wr : World) (v : Value), w.grownBy wr none → ExR wr ok x v → Calls Tryz.prog f (#[v] ++ cap) wr fun e w' => e = .returned (.bool (p x)) ∧ wr.grownBy w' none

set_option maxHeartbeats 2000000 in
set_option maxRecDepth 100000 in
theorem index_any (a : Addr) (p : E → Bool) (kids : List E) (ok : Nat → Prop) (A : Option Addr) (c : Nat) (w : World) (hc : kids.length ≤ c) (hcm : c ≤ maxLen)
    (hok : ∀ g, ok g → g < w.heap.size) (hk : kids = [] ∨ ∃ g off : Nat, A = some ⟨g, off, none⟩ ∧ ok g ∧ KidsR w ok g off kids) (ht : ∀ x ∈ kids, Tells 60 #[.pointer (some a)] ok w p x) :
    Calls Tryz.prog 91 #[.slice A kids.length c, .func (.func 60) #[] #[.pointer (some a)]] w fun e w' => e = .returned (.int .i64 (match kids.findIdx? p with | some i => (i : Int) | none => -1)) ∧ w.grownBy w' none := by
  unfold maxLen at hcm
  obtain ⟨r, hr⟩ : ∃ r : Int, (match kids.findIdx? p with | some i => (i : Int) | none => -1) = r := ⟨_, rfl⟩
  rw [hr]
  have hr := Lib.hid hr
  obtain ⟨KL, hKL⟩ : ∃ KL, kids.length = KL := ⟨_, rfl⟩
  rw [hKL] at hc ⊢
  have hKL := Lib.hid hKL
  have ht := Lib.hid ht
  have hk := Lib.hid hk
  have hok := Lib.hid hok
  go_enter Tryz.func91, Tryz.ntmps91
  go_wp2
  go_loopw [8] (fun nv wr => ∃ n : Nat, n ≤ KL ∧ nv = .int .i64 (n : Int) ∧ Hid (w.grownBy wr none) ∧ Hid (∀ i (hi : i < kids.length), i < n → p kids[i] = false)) (fun nv _ => KL - (intOf nv).toNat)
  case atStart => exact ⟨0, Nat.zero_le _, rfl, grownBy_refl' _ _, fun _ _ h => absurd h (Nat.not_lt_zero _)⟩
  case round =>
    obtain ⟨n, hn, rfl, hg, hno⟩ := hrel
    by_cases hlt : n < KL
    · have hlt' : n < kids.length := by rw [hKL.out]; exact hlt
      have hnn : Hid (kids ≠ []) := fun e => by rw [e] at hlt'; simp at hlt'
      obtain ⟨g, off, rfl, hgo, hkr⟩ := hk.out.resolve_left hnn.out
      obtain ⟨v0, v1, v2, v3, c0, c1, c2, c3, hx⟩ := hkr.at_ n hlt'
      have hgw := hok.out g hgo
      have hblk := hg.out.block g hgw (by simp)
      have d0 := (World.cell?_of_block (a := ⟨g, off + n * 4, none⟩) hblk).trans c0
      have d1 := (World.cell?_of_block (a := ⟨g, off + n * 4 + 1, none⟩) hblk).trans c1
      have d2 := (World.cell?_of_block (a := ⟨g, off + n * 4 + 2, none⟩) hblk).trans c2
      have d3 := (World.cell?_of_block (a := ⟨g, off + n * 4 + 3, none⟩) hblk).trans c3
      have hcl := ht.out kids[n] (List.getElem_mem hlt') wr (.agg #[v0, v1, v2, v3]) hg.out (hx.keep (fun g h => h) (fun g h => hg.out.block g (hok.out g h) (by simp)))
      have hcl : Calls Tryz.prog 60 #[.agg #[v0, v1, v2, v3], .pointer (some a)] wr _ := hcl
      clear c0 c1 c2 c3 hx hkr hblk
      cases hp : p kids[n] with
      | true =>
        rw [hp] at hcl
        have hrn : r = (n : Int) := by
          rw [← hr.out]
          have h1 : kids.findIdx? p = some n := by
            rw [List.findIdx?_eq_some_iff_getElem]
            exact ⟨hlt', hp, fun j hj => by rw [hno.out j (by omega) hj]; simp⟩
          rw [h1]
        subst hrn
        clear hr hno hp
        go_wp2_with fail
        refine hcl.mono ?_
        rintro e w1 ⟨rfl, hg1⟩
        have hgE := grownBy_trans' hg.out hg1
        clear hcl
        go_wp2
        go_ret
        exact ⟨rfl, hgE⟩
      | false =>
        rw [hp] at hcl
        have hno2 : Hid (∀ i (hi : i < kids.length), i < n + 1 → p kids[i] = false) := fun i hi h => by
          rcases Nat.lt_or_ge i n with h' | h'
          · exact hno.out i hi h'
          · obtain rfl : i = n := by omega
            exact hp
        clear hno hp
        go_wp2_with fail
        refine hcl.mono ?_
        rintro e w1 ⟨rfl, hg1⟩
        have hgE := Lib.hid (grownBy_trans' hg.out hg1)
        clear hcl
        go_wp2
        go_roundw
        case rel => exact ⟨n + 1, by omega, by go_num, hgE, hno2⟩
        case measure => simp [intOf]; omega
    · obtain rfl : n = KL := by omega
      have hrn : r = -1 := by
        rw [← hr.out]
        have h1 : kids.findIdx? p = none := by
          rw [List.findIdx?_eq_none_iff]
          intro x hx
          obtain ⟨i, hi, rfl⟩ := List.getElem_of_mem hx
          exact hno.out i hi (by have := hKL.out; omega)
        rw [h1]
      subst hrn
      clear hr hno
      go_wp2
      go_ret
      exact ⟨rfl, hg.out⟩

theorem grownBy_none_alloc (w : World) (o : Obj) : w.grownBy (w.alloc o) none := World.grownBy_alloc _ _ _

set_option maxHeartbeats 1000000 in
set_option maxRecDepth 100000 in
theorem contains_any (a : Addr) (p : E → Bool) (kids : List E) (ok : Nat → Prop) (A : Option Addr) (c : Nat) (w : World) (hc : kids.length ≤ c) (hcm : c ≤ maxLen)
    (hok : ∀ g, ok g → g < w.heap.size) (hk : kids = [] ∨ ∃ g off : Nat, A = some ⟨g, off, none⟩ ∧ ok g ∧ KidsR w ok g off kids) (ht : ∀ x ∈ kids, Tells 60 #[.pointer (some a)] ok w p x) :
    Calls Tryz.prog 59 #[.slice A kids.length c, .func (.func 60) #[] #[.pointer (some a)]] w fun e w' => e = .returned (.bool (kids.any p)) ∧ w.grownBy w' none := by
  have hi := index_any a p kids ok A c w hc hcm hok hk ht
  obtain ⟨r, hr⟩ : ∃ r : Int, (match kids.findIdx? p with | some i => (i : Int) | none => -1) = r := ⟨_, rfl⟩
  rw [hr] at hi
  have hb : kids.any p = decide (0 ≤ r) := by
    rw [← hr]
    cases h : kids.findIdx? p with
    | none =>
      rw [List.findIdx?_eq_none_iff] at h
      rw [Bool.eq_iff_iff]; simp; exact h
    | some i =>
      rw [List.findIdx?_eq_some_iff_getElem] at h
      obtain ⟨h1, h2, _⟩ := h
      rw [Bool.eq_iff_iff]; simp; exact ⟨_, List.getElem_mem h1, h2⟩
  rw [hb]
  obtain ⟨KL, hKL⟩ : ∃ KL, kids.length = KL := ⟨_, rfl⟩
  rw [hKL] at hi ⊢
  clear hb hr ht hk hok hcm hc hKL
  go_enter Tryz.func59, Tryz.ntmps59
  go_wp2_with fail
  refine hi.mono ?_
  rintro e w1 ⟨rfl, hg⟩
  go_wp2
  go_ret
  exact ⟨rfl, hg⟩
end Go.Proofs.YtlijlgbaikijnaaGreatDoor

namespace Go.Proofs.YtlijlgbaikijnaaGreatDoor
open Go Go.RowKit

/-- What deeper answers at a bound. -/
def Deeper (n : Nat) : Prop :=
  ∀ (x : E) (v : Value) (ok : Nat → Prop) (w : World), ExR w ok x v → (∀ g, ok g → g < w.heap.size) →
    Calls Tryz.prog 34 #[v, .int .i64 (n : Int)] w fun e w' => e = .returned (.bool (!dpLe n x)) ∧ w.grownBy w' none

set_option maxHeartbeats 1000000 in
set_option maxRecDepth 100000 in
theorem deeper1_any (n : Nat) (hn : n ≤ 65536) (ih : Deeper n) (a : Addr) (ok : Nat → Prop) (w : World) (hok : ∀ g, ok g → g < w.heap.size) (ha : w.cell? a = some (.int .i64 ((n + 1 : Nat) : Int))) (x : E) :
    Tells 60 #[.pointer (some a)] ok w (fun x => !dpLe n x) x := by
  intro wr v hg hx
  obtain ⟨op, num, name, kids⟩ := x
  have hx0 := Lib.hid hx
  obtain ⟨A, c, rfl, hc, hcm, _⟩ := hx.form
  show Calls Tryz.prog 60 #[.agg #[.string ⟨op.toArray⟩, .int .i64 num, .string ⟨name.toArray⟩, .slice A kids.length c], .pointer (some a)] wr _
  obtain ⟨KL, hKL⟩ : ∃ KL, kids.length = KL := ⟨_, rfl⟩
  rw [hKL] at hx0 ⊢
  obtain ⟨q, hq⟩ : ∃ q, (!dpLe n (E.mk op num name kids)) = q := ⟨_, rfl⟩
  simp only [hq]
  have hab := World.block_lt_of_cell? w a ha
  have ha2 := hg.cell ha (by simp)
  have hgs := hg.size
  have e1 : IntKind.i64.wrap (((n + 1 : Nat) : Int) - 1) = (n : Int) := by rw [show ((n + 1 : Nat) : Int) - 1 = (n : Int) by omega]; exact IntWalk.i64_in _ (by omega)
  unfold Deeper at ih
  have ih := ih (.mk op num name kids)
  simp only [hq] at ih
  clear hq hKL hx ha
  go_enter Tryz.func60, Tryz.ntmps60
  go_upto_region 1 with fail
  obtain ⟨w2, hW2, hs2, hgr, hcz, _, hold⟩ := one_new wr #[.string ⟨op.toArray⟩, .int .i64 num, .string ⟨name.toArray⟩, .slice A KL c] 30
  rw [hW2]
  obtain ⟨z, hz⟩ : ∃ z, wr.heap.size = z := ⟨_, rfl⟩
  rw [hz] at hcz hs2 ⊢
  have c0 := hcz 0 _ rfl
  have c1 := hcz 1 _ rfl
  have c2 := hcz 2 _ rfl
  have c3 := hcz 3 _ rfl
  have ha3 := (hgr none).cell ha2 (by simp)
  have hxl := hx0.out.keep (ok' := ok) (fun g h => h) (fun g h => hold g (by have := hok g h; omega))
  have ih2 := ih _ ok w2 hxl (fun g h => by have := hok g h; omega)
  have hg2 := hgr none
  have hz := Lib.hid hz
  clear hW2 hgr hcz hold ih hxl ha2
  go_wp2_with fail
  refine ih2.mono ?_
  rintro e w3 ⟨rfl, hg3⟩
  have hgE := grownBy_trans' hg2 hg3
  clear ih2
  go_wp2
  go_ret
  exact ⟨rfl, hgE⟩

set_option maxHeartbeats 1000000 in
set_option maxRecDepth 100000 in
theorem deeper_any : ∀ n : Nat, n ≤ 65536 → Deeper n
  | 0, _ => by
    intro x v ok w hx hok
    obtain ⟨op, num, name, kids⟩ := x
    obtain ⟨A, c, rfl, hc, hcm, _⟩ := hx.form
    rw [show (!dpLe 0 (E.mk op num name kids)) = true by rw [dpLe]; rfl]
    obtain ⟨KL, hKL⟩ : ∃ KL, kids.length = KL := ⟨_, rfl⟩
    rw [hKL]
    clear hx hKL
    go_enter Tryz.func34, Tryz.ntmps34
    go_wp2
    go_ret
    exact ⟨rfl, grownBy_trans' (World.grownBy_alloc _ _ _) (World.grownBy_alloc _ _ _)⟩
  | n + 1, hn => by
    intro x v ok w hx hok
    have ih := deeper_any n (by omega)
    obtain ⟨op, num, name, kids⟩ := x
    have hx0 := Lib.hid hx
    obtain ⟨A, c, rfl, hc, hcm, hk⟩ := hx.form
    have hq : (!dpLe (n + 1) (E.mk op num name kids)) = kids.any (fun x => !dpLe n x) := by
      rw [dpLe, List.not_all_eq_any_not]
    rw [hq]
    have hcc := fun (a : Addr) (W : World) (h1 : ∀ g, ok g → g < W.heap.size) (h2 : W.cell? a = some (.int .i64 ((n + 1 : Nat) : Int))) (h3 : kids = [] ∨ ∃ g off : Nat, A = some ⟨g, off, none⟩ ∧ ok g ∧ KidsR W ok g off kids) =>
      contains_any a (fun x => !dpLe n x) kids ok A c W hc hcm h1 h3 (fun x _ => deeper1_any n (by omega) ih a ok W h1 h2 x)
    obtain ⟨q, hq⟩ : ∃ q, (kids.any (fun x => !dpLe n x)) = q := ⟨_, rfl⟩
    rw [hq] at hcc ⊢
    obtain ⟨KL, hKL⟩ : ∃ KL, kids.length = KL := ⟨_, rfl⟩
    rw [hKL] at hcc hx0 ⊢
    have i0 : ¬ ((n + 1 : Nat) : Int) = 0 := by omega
    have hmf : ∀ (fn : Fn) (first cap : Array Value) (w : World), (Instr.makeFunc fn first cap).run Tryz.prog w = .ok (.func fn first cap) w := fun _ _ _ _ => rfl
    have hk := Lib.hid hk
    obtain ⟨N, hN⟩ : ∃ N : Nat, n + 1 = N := ⟨_, rfl⟩
    rw [hN] at hcc i0 ⊢
    clear hq hKL ih hx hN
    go_enter Tryz.func34, Tryz.ntmps34
    go_upto_region 1 with fail
    obtain ⟨w2, hW2, hs2, hgr, hcz, hcy, _, _, hold⟩ := two_new w #[.string ⟨op.toArray⟩, .int .i64 num, .string ⟨name.toArray⟩, .slice A KL c] #[.int .i64 (N : Int)] 30 3
    rw [hW2]
    obtain ⟨z, hz⟩ : ∃ z, w.heap.size = z := ⟨_, rfl⟩
    rw [hz] at hcz hcy hs2 ⊢
    have c0 := hcz 0 _ rfl
    have c1 := hcz 1 _ rfl
    have c2 := hcz 2 _ rfl
    have c3 := hcz 3 _ rfl
    have d0 := hcy 0 _ rfl
    have hc2 := hcc ⟨z + 1, 0, none⟩ w2 (fun g h => by have := hok g h; omega) d0 (by
      rcases hk.out with h | ⟨g, off, h1, h2, h3⟩
      · exact .inl h
      · exact .inr ⟨g, off, h1, h2, h3.keep (fun g h => h) (fun g h => hold g (by have := hok g h; omega)) h2⟩)
    have hg2 := hgr none
    clear hW2 hgr hcz hcy hold hcc hz
    go_wp2_with fail
    refine hc2.mono ?_
    rintro e w3 ⟨rfl, hg3⟩
    have hgE := grownBy_trans' hg2 hg3
    clear hc2
    go_wp2
    go_ret
    exact ⟨rfl, hgE⟩
end Go.Proofs.YtlijlgbaikijnaaGreatDoor
