/-
  The thing that begins first from a place on, by the package: it is laid into the reader, or a fault is thrown. Conditions: at most a million bytes.
-/
import Derived.Test.YtlijlgbaikijnaaGreatDoorSmThrow
namespace Go.Proofs.YtlijlgbaikijnaaGreatDoor
open Go Go.RowKit

def blankB (b : UInt8) : Bool := decide (0 ≤ Lib.indexByte [9, 10, 11, 12, 13, 32] b)
/-- A thing: its kind, its text, of a number its value, its place. -/
structure Th where
  kind : Nat
  text : List UInt8
  num : Nat
  place : Nat
/-- The thing at the beginning of a rest, a its place; or what is wrong. -/
def thingP (rest : List UInt8) (a : Nat) : Option Th :=
  if rest.isEmpty then some ⟨0, [], 0, a⟩
  else if 0 < nameLen rest then some ⟨2, rest.take (nameLen rest), 0, a⟩
  else if 0 < (digitsP rest).2 then
    (if 9223372036854775807 < (digitsP rest).1 ∨ (rest[(digitsP rest).2]?.map nameB) = some true then none else some ⟨1, rest.take (digitsP rest).2, (digitsP rest).1, a⟩)
  else some ⟨3, longV rest, 0, a⟩
def blanks (l : List UInt8) : Nat := (l.takeWhile blankB).length
def lookP (s : List UInt8) (a : Nat) : Option Th := thingP (s.drop (a + blanks (s.drop a))) (a + blanks (s.drop a))

/-- How a reader lies in memory: its text, the thing that is next, and how deep it stands. -/
structure RdAt (w : World) (b : Nat) (s : ByteArray) (t : Th) (d : Nat) : Prop where
  c0 : w.cell? ⟨b, 0, none⟩ = some (.string s)
  c1 : w.cell? ⟨b, 1, none⟩ = some (.int .i64 (t.kind : Int))
  c2 : w.cell? ⟨b, 2, none⟩ = some (.string ⟨t.text.toArray⟩)
  c3 : w.cell? ⟨b, 3, none⟩ = some (.int .i64 (t.num : Int))
  c4 : w.cell? ⟨b, 4, none⟩ = some (.int .i64 (t.place : Int))
  c5 : w.cell? ⟨b, 5, none⟩ = some (.int .i64 (d : Int))
  fz : ∀ j, w.frozen? ⟨b, j, none⟩ = false
/-- A thing is laid into a reader. -/
def laidTh (w : World) (b : Nat) (t : Th) : World := (((w.setCell ⟨b, 1, none⟩ (.int .i64 (t.kind : Int))).setCell ⟨b, 2, none⟩ (.string ⟨t.text.toArray⟩)).setCell ⟨b, 3, none⟩ (.int .i64 (t.num : Int))).setCell ⟨b, 4, none⟩ (.int .i64 (t.place : Int))

set_option maxHeartbeats 4000000 in
set_option maxRecDepth 100000 in
theorem look_any (s : ByteArray) (b a : Nat) (t : Th) (d : Nat) (w : World) (hr : RdAt w b s t d) (ha : a ≤ s.size) (hs : s.size ≤ 1000000) :
    Calls Tryz.prog 80 #[.pointer (some ⟨b, 0, none⟩), .int .i64 (a : Int)] w fun e w' => match lookP (tl s) a with
      | some t' => (∃ v, e = .returned v) ∧ w' = laidTh w b t'
      | none => e = thrown 23 (a + blanks ((tl s).drop a)) ∧ w' = w := by
  have hc0 := hr.c0
  have hc1 := hr.c1
  have hc2 := hr.c2
  have hc3 := hr.c3
  have hc4 := hr.c4
  have f1 := hr.fz 1
  have f2 := hr.fz 2
  have f3 := hr.fz 3
  have f4 := hr.fz 4
  clear hr
  have hdrop := fun (k : Nat) (h : k < s.size) => (List.drop_eq_getElem_cons (i := k) (l := tl s) (by rw [tl_len]; exact h))
  have hdrop := Lib.hid hdrop
  obtain ⟨K, hK⟩ : ∃ K, a + blanks ((tl s).drop a) = K := ⟨_, rfl⟩
  obtain ⟨o, ho0⟩ : ∃ o, lookP (tl s) a = o := ⟨_, rfl⟩
  rw [ho0, hK]
  have ho : Hid (thingP ((tl s).drop K) K = o) := by rw [Hid, ← ho0, lookP, hK]
  have hK := Lib.hid hK
  clear ho0
  go_enter Tryz.func80, Tryz.ntmps80
  go_wp2
  go_loopw [1] (fun nv wr => ∃ n : Nat, n ≤ s.size ∧ nv = .int .i64 (n : Int) ∧ wr = w ∧ Hid (n + blanks ((tl s).drop n) = K)) (fun nv _ => s.size - (intOf nv).toNat)
  case atStart => exact ⟨a, ha, rfl, rfl, hK⟩
  case round =>
    obtain ⟨n, hn, rfl, rfl, hq⟩ := hrel
    by_cases hlt : n < s.size
    · have hib := fun W => Tryz.strings_IndexByte ⟨#[9, 10, 11, 12, 13, 32]⟩ (s[n].toNat : Int) W
      have e1 : ((s[n].toNat : Int)).toNat.toUInt8 = s[n] := by simp
      simp only [e1] at hib
      have hst : Hid (blanks ((tl s).drop n) = if blankB s[n] then blanks ((tl s).drop (n + 1)) + 1 else 0) := by
        have h1 := hdrop.out n hlt
        rw [tl_get s n hlt] at h1
        rw [Hid, h1]
        unfold blanks
        rw [List.takeWhile_cons]
        split <;> simp
      cases hb : blankB s[n] with
      | true =>
        have hq2 : Hid (n + 1 + blanks ((tl s).drop (n + 1)) = K) := by have h1 := hst.out; rw [hb, if_pos rfl] at h1; have := hq.out; rw [Hid]; omega
        have i1 : 0 ≤ Lib.indexByte [9, 10, 11, 12, 13, 32] s[n] := by unfold blankB at hb; simpa using hb
        generalize Lib.indexByte [9, 10, 11, 12, 13, 32] s[n] = ix at hib i1
        clear hb hst hq e1
        go_wp2_with fail
        refine (hib _).mono ?_
        rintro e w1 ⟨rfl, rfl⟩
        go_wp2
        go_roundw
        case rel => exact ⟨n + 1, by omega, by go_num, trivial, hq2⟩
        case measure => simp [intOf]; omega
      | false =>
        obtain rfl : n = K := by have h1 := hst.out; rw [hb] at h1; have := hq.out; simp at h1; omega
        have i1 : ¬ 0 ≤ Lib.indexByte [9, 10, 11, 12, 13, 32] s[n] := by unfold blankB at hb; simpa using hb
        generalize Lib.indexByte [9, 10, 11, 12, 13, 32] s[n] = ix at hib i1
        clear hb hst hq e1
        go_wp2_with fail
        refine (hib _).mono ?_
        rintro e w1 ⟨rfl, rfl⟩
        have htx : tl (s.extract n s.size) = (tl s).drop n := tl_from s n
        have hxs : (s.extract n s.size).size = s.size - n := by rw [← tl_len, htx, List.length_drop, tl_len]
        have hne : (s.extract n s.size).toList.isEmpty = false := by
          rw [Lib.toList_data]
          show (tl (s.extract n s.size)).isEmpty = false
          rw [htx, hdrop.out n hlt]; rfl
        have hrne : ((tl s).drop n).isEmpty = false := by rw [hdrop.out n hlt]; rfl
        have hnl := fun W => nameLength_any (s.extract n s.size) W (by omega)
        have hdg := fun W => digits_any (s.extract n s.size) W (by omega)
        have hlm := fun W => longestMark_any (s.extract n s.size) W (by omega) (by omega)
        rw [htx] at hnl hdg hlm
        have hcut : Hid (∀ k, (s.extract n s.size).extract 0 k = ⟨(((tl s).drop n).take k).toArray⟩) := fun k => tl_inj (by rw [tl_upto, htx]; rfl)
        have hget : Hid (∀ k (h : k < (s.extract n s.size).size), ((tl s).drop n)[k]? = some (s.extract n s.size)[k]) := fun k h => by rw [← htx]; exact tl_opt _ k h
        obtain ⟨R, hR⟩ : ∃ R, (tl s).drop n = R := ⟨_, rfl⟩
        rw [hR] at hnl hdg hlm hcut hget hrne
        have hRl : R.length = s.size - n := by rw [← hR, List.length_drop, tl_len]
        rw [hR] at ho
        have hth : Hid (o = if 0 < nameLen R then some ⟨2, R.take (nameLen R), 0, n⟩ else if 0 < (digitsP R).2 then
            (if 9223372036854775807 < (digitsP R).1 ∨ (R[(digitsP R).2]?.map nameB) = some true then none else some ⟨1, R.take (digitsP R).2, (digitsP R).1, n⟩) else some ⟨3, longV R, 0, n⟩) := by
          rw [Hid, ← ho.out, thingP, hrne]; rfl
        have hnle := nameLen_le R
        obtain ⟨V, M, hVM⟩ : ∃ V M, digitsP R = (V, M) := ⟨_, _, rfl⟩
        have hMle : M ≤ R.length := by
          have h1 : (digitsP R).2 ≤ R.length := by
            unfold digitsP
            have h2 := (List.takeWhile_sublist (fun b => decide (digV b < (headB R).1)) (l := R.drop (headB R).2)).length_le
            rw [List.length_drop] at h2
            have h3 : (headB R).2 ≤ R.length := by rcases headB_cases R with h | h | ⟨h, h4⟩ <;> rw [h] <;> simp <;> omega
            unfold digRun
            simp only
            omega
          rwa [hVM] at h1
        rw [hVM] at hdg hth
        simp only at hdg hth
        obtain ⟨m, hm⟩ : ∃ m, min V tooBig = m := ⟨_, rfl⟩
        rw [hm] at hdg
        have hmV : Hid ((9223372036854775807 < V ↔ 9223372036854775807 < m) ∧ (V ≤ 9223372036854775807 → m = V)) := by rw [Hid, ← hm]; unfold tooBig; omega
        generalize hNN : nameLen R = N at hnl hth hnle
        have hxs := Lib.hid hxs
        clear hVM hm hNN hR htx hrne hdrop
        generalize longV R = lv at hlm hth
        by_cases hN : 0 < N
        · have ho2 : o = some ⟨2, R.take N, 0, n⟩ := by rw [hth.out, if_pos hN]
          subst ho2
          have i2 : (0 : Int) < (N : Int) := by omega
          have i3 : (N : Int) ≤ ((s.extract n s.size).size : Int) := by rw [hxs.out]; omega
          have hk := hcut.out N
          clear hth hcut hget hmV hdg hlm hib ho hK
          go_wp2_with fail
          refine (hnl _).mono ?_
          rintro e w2 ⟨rfl, rfl⟩
          go_wp2
          refine bodyPost_ret (results_none rfl _ _ _) rfl ?_
          exact ⟨⟨_, rfl⟩, rfl⟩
        · have i2 : ¬ (0 : Int) < (N : Int) := by omega
          by_cases hM : 0 < M
          · have i3 : (0 : Int) < (M : Int) := by omega
            by_cases hV : 9223372036854775807 < V
            · have ho2 : o = none := by rw [hth.out, if_neg hN, if_pos hM, if_pos (.inl hV)]
              subst ho2
              have i4 : (9223372036854775807 : Int) < (m : Int) := by have := hmV.out.1.1 hV; omega
              clear hth hcut hget hmV hlm hib ho hK
              go_wp2_with fail
              refine (hnl _).mono ?_
              rintro e w2 ⟨rfl, rfl⟩
              go_wp2_with fail
              refine (hdg _).mono ?_
              rintro e w2 ⟨rfl, rfl⟩
              go_wp2_with fail
              refine (throw_any 23 n _).mono ?_
              rintro e w2 ⟨rfl, rfl⟩
              exact ⟨rfl, rfl, rfl⟩
            · have hmv2 := hmV.out.2 (by omega)
              subst hmv2
              have i4 : ¬ (9223372036854775807 : Int) < (m : Int) := by omega
              by_cases hl : M < R.length
              · have hlx : M < (s.extract n s.size).size := by rw [hxs.out]; omega
                have hg := hget.out M hlx
                have hin := fun W => inName_any (s.extract n s.size)[M] W
                have i5 : (M : Int) < ((s.extract n s.size).size : Int) := by omega
                cases hnb : nameB (s.extract n s.size)[M] with
                | true =>
                  have ho2 : o = none := by rw [hth.out, if_neg hN, if_pos hM, if_pos (.inr (by rw [hg, Option.map_some, hnb]))]
                  subst ho2
                  rw [hnb] at hin
                  clear hth hcut hget hmV hlm hib ho hK hg hnb
                  go_wp2_with fail
                  refine (hnl _).mono ?_
                  rintro e w2 ⟨rfl, rfl⟩
                  go_wp2_with fail
                  refine (hdg _).mono ?_
                  rintro e w2 ⟨rfl, rfl⟩
                  go_wp2_with fail
                  refine (hin _).mono ?_
                  rintro e w2 ⟨rfl, rfl⟩
                  go_wp2_with fail
                  refine (throw_any 23 n _).mono ?_
                  rintro e w2 ⟨rfl, rfl⟩
                  exact ⟨rfl, rfl, rfl⟩
                | false =>
                  have ho2 : o = some ⟨1, R.take M, m, n⟩ := by rw [hth.out, if_neg hN, if_pos hM, if_neg (by rw [hg, Option.map_some, hnb]; simp; omega)]
                  subst ho2
                  rw [hnb] at hin
                  have hk := hcut.out M
                  have i6 : (M : Int) ≤ ((s.extract n s.size).size : Int) := by omega
                  have n2 : IntKind.i64.wrap (m : Int) = (m : Int) := IntWalk.i64_in _ (by omega)
                  clear hth hcut hget hmV hlm hib ho hK hg hnb
                  go_wp2_with fail
                  refine (hnl _).mono ?_
                  rintro e w2 ⟨rfl, rfl⟩
                  go_wp2_with fail
                  refine (hdg _).mono ?_
                  rintro e w2 ⟨rfl, rfl⟩
                  go_wp2_with fail
                  refine (hin _).mono ?_
                  rintro e w2 ⟨rfl, rfl⟩
                  go_wp2
                  refine bodyPost_ret (results_none rfl _ _ _) rfl ?_
                  exact ⟨⟨_, rfl⟩, rfl⟩
              · have hg : R[M]? = none := List.getElem?_eq_none (by omega)
                have ho2 : o = some ⟨1, R.take M, m, n⟩ := by rw [hth.out, if_neg hN, if_pos hM, if_neg (by rw [hg]; simp; omega)]
                subst ho2
                have hk := hcut.out M
                have i5 : ¬ (M : Int) < ((s.extract n s.size).size : Int) := by rw [hxs.out]; omega
                have i6 : (M : Int) ≤ ((s.extract n s.size).size : Int) := by rw [hxs.out]; omega
                have n2 : IntKind.i64.wrap (m : Int) = (m : Int) := IntWalk.i64_in _ (by omega)
                clear hth hcut hget hmV hlm hib ho hK hg
                go_wp2_with fail
                refine (hnl _).mono ?_
                rintro e w2 ⟨rfl, rfl⟩
                go_wp2_with fail
                refine (hdg _).mono ?_
                rintro e w2 ⟨rfl, rfl⟩
                go_wp2
                refine bodyPost_ret (results_none rfl _ _ _) rfl ?_
                exact ⟨⟨_, rfl⟩, rfl⟩
          · have i3 : ¬ (0 : Int) < (M : Int) := by omega
            have ho2 : o = some ⟨3, lv, 0, n⟩ := by rw [hth.out, if_neg hN, if_neg hM]
            subst ho2
            clear hth hcut hget hmV hib ho hK
            go_wp2_with fail
            refine (hnl _).mono ?_
            rintro e w2 ⟨rfl, rfl⟩
            go_wp2_with fail
            refine (hdg _).mono ?_
            rintro e w2 ⟨rfl, rfl⟩
            go_wp2_with fail
            refine (hlm _).mono ?_
            rintro e w2 ⟨rfl, rfl⟩
            go_wp2
            go_end0
            exact ⟨⟨_, rfl⟩, rfl⟩
    · obtain rfl : n = s.size := by omega
      have hz : (tl s).drop s.size = [] := List.drop_eq_nil_of_le (by rw [tl_len]; omega)
      obtain rfl : s.size = K := by have := hq.out; rw [hz] at this; simpa [blanks] using this
      have ho2 : o = some ⟨0, [], 0, s.size⟩ := by rw [← ho.out, hz]; rfl
      subst ho2
      have hx0 : s.extract s.size s.size = ⟨#[]⟩ := tl_inj (by rw [tl_from, hz]; rfl)
      clear hq hz ho hK hdrop
      go_wp2
      refine bodyPost_ret (results_none rfl _ _ _) rfl ?_
      exact ⟨⟨_, rfl⟩, rfl⟩
end Go.Proofs.YtlijlgbaikijnaaGreatDoor
