/-
  What a value comes to, by the package: all ways, by induction on the fuel. Conditions: at most a million pairs and Ops; numbers of 64 bits.
-/
import Derived.Test.YtlijlgbaikijnaaGreatDoorSmAsgM
import Derived.Test.YtlijlgbaikijnaaGreatDoorSmValueA
import Derived.Test.YtlijlgbaikijnaaGreatDoorSmValueO
import Derived.Test.YtlijlgbaikijnaaGreatDoorSmValueT
namespace Go.Proofs.YtlijlgbaikijnaaGreatDoor
open Go Go.RowKit

set_option maxHeartbeats 4000000 in
set_option maxRecDepth 100000 in
theorem value_bad (tb : Nat) (op name : List UInt8) (num : Int) (kids : List E) (v : Value) (ok : Nat → Prop) (w : World) (ps : List Pr)
    (hx : ExR w ok (.mk op num name kids) v) (hc : ValC w tb ok (.mk op num name kids) ps) (hK : (kids.length : Int) ≠ kidsV op) :
    Calls Tryz.prog 43 #[valr tb, v] w (ValR w tb (.no 1 ps)) := by
  have hx0 := Lib.hid hx
  obtain ⟨A, cc, rfl, hcc, hcm, _⟩ := hx.form
  have htb := hc.tab.lt
  have ht0 := hc.tab
  have hv0 := Lib.hid hc.val
  obtain ⟨KL, hKL⟩ : ∃ KL, kids.length = KL := ⟨_, rfl⟩
  rw [hKL] at hK hcc hx0 ⊢
  obtain ⟨x, hxx⟩ : ∃ x : ByteArray, (⟨op.toArray⟩ : ByteArray) = x := ⟨_, rfl⟩
  have hxt : tl x = op := by rw [← hxx]; rfl
  have hxl : x.toList = op := by rw [Lib.toList_data]; exact hxt
  have hkd := fun W => kids_any x W
  have has := fun W => assigns_any x W
  rw [hxt] at hkd has
  obtain ⟨KV, hKV⟩ : ∃ KV, kidsV op = KV := ⟨_, rfl⟩
  rw [hKV] at hkd hK
  have hne : ((KL : Int) == KV) = false := by simpa using hK
  have hth := fun W => throw_any 1 0 W
  rw [hxx]
  unfold maxLen at hcm
  clear hx hxt hxl hKL hKV hK hc
  unfold valr
  go_enter Tryz.func43, Tryz.ntmps43
  go_upto_region 1 with fail
  obtain ⟨w2, hW2, hs2, hgr, hcz, hcy, hfz, hfy, hold⟩ := two_new w #[.iface 41 (.pointer (some ⟨tb, 0, none⟩))] #[.string x, .int .i64 num, .string ⟨name.toArray⟩, .slice A KL cc] 91 30
  try rw [hxx]
  rw [hW2]
  obtain ⟨z, hz⟩ : ∃ z, w.heap.size = z := ⟨_, rfl⟩
  rw [hz] at hcz hcy hs2 ⊢
  have q0 := hcz 0 _ rfl
  have q1 := hcy 0 _ rfl
  have q2 := hcy 1 _ rfl
  have q3 := hcy 2 _ rfl
  have q4 := hcy 3 _ rfl
  have hg2 := hgr none
  have hz := Lib.hid hz
  clear hW2 hgr hcz hcy hfz hfy hold
  go_quiet ((go_at_call 61; refine Calls.quiet_of_same (hkd _)))
  go_wp2_with fail
  refine (hth _).mono ?_
  rintro e wq ⟨rfl, hwq⟩
  obtain rfl := hwq.symm
  have hg3 : w.grownBy (w2.drewN nq) none := ⟨hg2.os, hg2.tape, hg2.output, hg2.size, hg2.block⟩
  exact ⟨rfl, rfl, ht0.keep hg3, grow_some hg3 tb⟩

set_option maxHeartbeats 4000000 in
set_option maxRecDepth 100000 in
theorem value_num (tb : Nat) (op name : List UInt8) (num : Int) (kids : List E) (v : Value) (ok : Nat → Prop) (w : World) (ps : List Pr)
    (hx : ExR w ok (.mk op num name kids) v) (hc : ValC w tb ok (.mk op num name kids) ps) (hK : (kids.length : Int) = kidsV op) (ho : op = [110, 117, 109]) :
    Calls Tryz.prog 43 #[valr tb, v] w (ValR w tb (.ok num ps)) := by
  have hx0 := Lib.hid hx
  obtain ⟨A, cc, rfl, hcc, hcm, _⟩ := hx.form
  have htb := hc.tab.lt
  have ht0 := hc.tab
  have hv0 := Lib.hid hc.val
  obtain ⟨KL, hKL⟩ : ∃ KL, kids.length = KL := ⟨_, rfl⟩
  rw [hKL] at hK hcc hx0 ⊢
  obtain ⟨x, hxx⟩ : ∃ x : ByteArray, (⟨op.toArray⟩ : ByteArray) = x := ⟨_, rfl⟩
  have hxt : tl x = op := by rw [← hxx]; rfl
  have hxl : x.toList = op := by rw [Lib.toList_data]; exact hxt
  have hkd := fun W => kids_any x W
  have has := fun W => assigns_any x W
  rw [hxt] at hkd has
  rw [← hK] at hkd
  have g1 : (x.toList == [110, 117, 109]) = true := by rw [hxl, ho]; rfl
  rw [hxx]
  unfold maxLen at hcm
  clear hx hxt hxl hKL hK hc ho
  unfold valr
  go_enter Tryz.func43, Tryz.ntmps43
  go_upto_region 1 with fail
  obtain ⟨w2, hW2, hs2, hgr, hcz, hcy, hfz, hfy, hold⟩ := two_new w #[.iface 41 (.pointer (some ⟨tb, 0, none⟩))] #[.string x, .int .i64 num, .string ⟨name.toArray⟩, .slice A KL cc] 91 30
  try rw [hxx]
  rw [hW2]
  obtain ⟨z, hz⟩ : ∃ z, w.heap.size = z := ⟨_, rfl⟩
  rw [hz] at hcz hcy hs2 ⊢
  have q0 := hcz 0 _ rfl
  have q1 := hcy 0 _ rfl
  have q2 := hcy 1 _ rfl
  have q3 := hcy 2 _ rfl
  have q4 := hcy 3 _ rfl
  have hg2 := hgr none
  have hz := Lib.hid hz
  clear hW2 hgr hcz hcy hfz hfy hold
  go_quiet ((go_at_call 61; refine Calls.quiet_of_same (hkd _)))
  go_wp2
  go_ret
  have hg3 : w.grownBy (w2.drewN nq) none := ⟨hg2.os, hg2.tape, hg2.output, hg2.size, hg2.block⟩
  exact ⟨rfl, ht0.keep hg3, grow_some hg3 tb⟩

set_option maxHeartbeats 4000000 in
set_option maxRecDepth 100000 in
theorem value_name (tb : Nat) (op name : List UInt8) (num : Int) (kids : List E) (v : Value) (ok : Nat → Prop) (w : World) (ps : List Pr)
    (hx : ExR w ok (.mk op num name kids) v) (hc : ValC w tb ok (.mk op num name kids) ps) (hK : (kids.length : Int) = kidsV op) (ho : op = [110, 97, 109, 101]) :
    Calls Tryz.prog 43 #[valr tb, v] w (ValR w tb (getR ps name)) := by
  have hx0 := Lib.hid hx
  obtain ⟨A, cc, rfl, hcc, hcm, _⟩ := hx.form
  have htb := hc.tab.lt
  have ht0 := hc.tab
  have hv0 := Lib.hid hc.val
  obtain ⟨KL, hKL⟩ : ∃ KL, kids.length = KL := ⟨_, rfl⟩
  rw [hKL] at hK hcc hx0 ⊢
  obtain ⟨x, hxx⟩ : ∃ x : ByteArray, (⟨op.toArray⟩ : ByteArray) = x := ⟨_, rfl⟩
  have hxt : tl x = op := by rw [← hxx]; rfl
  have hxl : x.toList = op := by rw [Lib.toList_data]; exact hxt
  have hkd := fun W => kids_any x W
  have has := fun W => assigns_any x W
  rw [hxt] at hkd has
  rw [← hK] at hkd
  have g1 : (x.toList == [110, 117, 109]) = false := by rw [hxl, ho]; rfl
  have g2 : (x.toList == [110, 97, 109, 101]) = true := by rw [hxl, ho]; rfl
  rw [hxx]
  unfold getR
  rw [show nmB name = ⟨name.toArray⟩ from rfl]
  obtain ⟨nx, hnx⟩ : ∃ nx : ByteArray, (⟨name.toArray⟩ : ByteArray) = nx := ⟨_, rfl⟩
  rw [hnx]
  have hgv := fun W h1 => vget_any nx tb ps W h1 hv0.out
  obtain ⟨og, hog⟩ : ∃ og, getV ps nx = og := ⟨_, rfl⟩
  rw [hog] at hgv ⊢
  unfold maxLen at hcm
  clear hx hxt hxl hKL hK hc ho hog
  unfold valr
  go_enter Tryz.func43, Tryz.ntmps43
  go_upto_region 1 with fail
  obtain ⟨w2, hW2, hs2, hgr, hcz, hcy, hfz, hfy, hold⟩ := two_new w #[.iface 41 (.pointer (some ⟨tb, 0, none⟩))] #[.string x, .int .i64 num, .string nx, .slice A KL cc] 91 30
  try rw [hxx]
  rw [hW2]
  obtain ⟨z, hz⟩ : ∃ z, w.heap.size = z := ⟨_, rfl⟩
  rw [hz] at hcz hcy hs2 ⊢
  have q0 := hcz 0 _ rfl
  have q1 := hcy 0 _ rfl
  have q2 := hcy 1 _ rfl
  have q3 := hcy 2 _ rfl
  have q4 := hcy 3 _ rfl
  have hg2 := hgr none
  have hz := Lib.hid hz
  clear hW2 hgr hcz hcy hfz hfy hold
  go_quiet ((go_at_call 61; refine Calls.quiet_of_same (hkd _)))
  unfold valr at hgv
  go_wp2_with fail
  have hg3 : w.grownBy (w2.drewN nq) none := ⟨hg2.os, hg2.tape, hg2.output, hg2.size, hg2.block⟩
  have hgt2 := hgv (w2.drewN nq) (ht0.keep hg3)
  clear hgv
  refine hgt2.mono ?_
  rintro e w3 ⟨he, hg4⟩
  have hgE := grownBy_trans' hg3 hg4
  cases og with
  | none =>
    simp only at he
    subst he
    exact ⟨rfl, rfl, ht0.keep hgE, grow_some hgE tb⟩
  | some a =>
    simp only at he
    subst he
    clear hgt2
    go_wp2
    go_ret
    exact ⟨rfl, ht0.keep hgE, grow_some hgE tb⟩

set_option maxHeartbeats 4000000 in
set_option maxRecDepth 100000 in
theorem value_asg (tb : Nat) (op name : List UInt8) (num : Int) (kids : List E) (v : Value) (ok : Nat → Prop) (w : World) (ps : List Pr)
    (hx : ExR w ok (.mk op num name kids) v) (hc : ValC w tb ok (.mk op num name kids) ps) (hK : (kids.length : Int) = kidsV op) (hn1 : op ≠ [110, 117, 109]) (hn2 : op ≠ [110, 97, 109, 101]) (hA : asgV op = true) (R : VRes) (hasg : ∀ W v, ExR W ok (.mk op num name kids) v → w.grownBy W none → Calls Tryz.prog 70 #[valr tb, v] W (ValR W tb R)) :
    Calls Tryz.prog 43 #[valr tb, v] w (ValR w tb (R)) := by
  have hx0 := Lib.hid hx
  obtain ⟨A, cc, rfl, hcc, hcm, _⟩ := hx.form
  have htb := hc.tab.lt
  have ht0 := hc.tab
  have hv0 := Lib.hid hc.val
  obtain ⟨KL, hKL⟩ : ∃ KL, kids.length = KL := ⟨_, rfl⟩
  rw [hKL] at hK hcc hx0 ⊢
  obtain ⟨x, hxx⟩ : ∃ x : ByteArray, (⟨op.toArray⟩ : ByteArray) = x := ⟨_, rfl⟩
  have hxt : tl x = op := by rw [← hxx]; rfl
  have hxl : x.toList = op := by rw [Lib.toList_data]; exact hxt
  have hkd := fun W => kids_any x W
  have has := fun W => assigns_any x W
  rw [hxt] at hkd has
  rw [← hK] at hkd
  rw [hA] at has
  have g1 : (x.toList == [110, 117, 109]) = false := by rw [hxl]; simpa using hn1
  have g2 : (x.toList == [110, 97, 109, 101]) = false := by rw [hxl]; simpa using hn2
  rw [hxx] at hx0 ⊢
  unfold maxLen at hcm
  clear hx hxt hxl hKL hK hn1 hn2 hA
  unfold valr
  go_enter Tryz.func43, Tryz.ntmps43
  go_upto_region 1 with fail
  obtain ⟨w2, hW2, hs2, hgr, hcz, hcy, hfz, hfy, hold⟩ := two_new w #[.iface 41 (.pointer (some ⟨tb, 0, none⟩))] #[.string x, .int .i64 num, .string ⟨name.toArray⟩, .slice A KL cc] 91 30
  try rw [hxx]
  rw [hW2]
  obtain ⟨z, hz⟩ : ∃ z, w.heap.size = z := ⟨_, rfl⟩
  rw [hz] at hcz hcy hs2 ⊢
  have q0 := hcz 0 _ rfl
  have q1 := hcy 0 _ rfl
  have q2 := hcy 1 _ rfl
  have q3 := hcy 2 _ rfl
  have q4 := hcy 3 _ rfl
  have hg2 := hgr none
  have hz := Lib.hid hz
  have hblk := fun g h => hold g (hc.blk g h).1
  have hx2 := hx0.out.keep (w' := w2) (ok' := ok) (fun g h => h) hblk
  clear hW2 hgr hcz hcy hfz hfy hold hblk hc
  go_quiet ((go_at_call 61; refine Calls.quiet_of_same (hkd _)))
  have hg3 : w.grownBy (w2.drewN nq) none := ⟨hg2.os, hg2.tape, hg2.output, hg2.size, hg2.block⟩
  have hasg := hasg (w2.drewN nq) _ (ExR.keep (w := w2) (w' := w2.drewN nq) (ok := ok) (ok' := ok) (fun g h => h) (fun _ _ => rfl) hx2) hg3
  unfold valr at hasg
  clear hx2
  go_wp2_with (go_at_call 62; refine (has _).mono ?_; rintro e wq ⟨rfl, rfl⟩)
  refine hasg.mono ?_
  intro e w3 h
  cases R with
  | no c1 qs =>
    obtain ⟨rfl, ht, hg⟩ := h
    exact ⟨rfl, rfl, ht, grownBy_trans' (grow_some hg3 tb) hg⟩
  | ok m qs =>
    obtain ⟨rfl, ht, hg⟩ := h
    have hgE := grownBy_trans' (grow_some hg3 tb) hg
    clear hasg
    go_wp2
    go_ret
    exact ⟨rfl, ht, hgE⟩

theorem kidsV_asg {op : List UInt8} (hn1 : op ≠ [110, 117, 109]) (hn2 : op ≠ [110, 97, 109, 101]) (hA : asgV op = true) : kidsV op = 1 := by
  unfold kidsV
  rw [if_neg (by simp [hn1, hn2]), if_pos (by simp [hA])]
theorem kidsV_cases (op : List UInt8) : kidsV op = 0 ∨ kidsV op = 1 ∨ kidsV op = 2 ∨ kidsV op = 3 ∨ kidsV op = -1 := by
  unfold kidsV
  repeat' split
  all_goals simp
theorem kidsV_0 {op : List UInt8} (h : kidsV op = 0) : op = [110, 117, 109] ∨ op = [110, 97, 109, 101] := by
  unfold kidsV at h
  split at h
  · rename_i hc; simpa using hc
  · repeat' split at h
    all_goals omega
theorem kidsV_3 {op : List UInt8} (h : kidsV op = 3) : op = [63] := by
  unfold kidsV at h
  repeat' split at h
  all_goals first | omega | (rename_i hc; simpa using hc)
theorem kidsV_2 {op : List UInt8} (h : kidsV op = 2) : op ≠ [63] ∧ asgV op = false := by
  refine ⟨by rintro rfl; exact absurd h (by decide), ?_⟩
  unfold kidsV at h
  split at h
  · omega
  · split at h
    · omega
    · rename_i hc
      simp only [Bool.or_eq_true, not_or, Bool.not_eq_true] at hc
      exact hc.2
theorem stepV_one {val : E → List Pr → VRes} {op : List UInt8} {num : Int} {name : List UInt8} {k : E} {ps : List Pr} (hK : kidsV op = 1) (hn1 : op ≠ [110, 117, 109]) (hn2 : op ≠ [110, 97, 109, 101]) (hA : asgV op = false) :
    stepV val op num name [k] ps = (val k ps).next fun a qs => .ok (oneV op a) qs := by
  unfold stepV
  rw [if_neg (by simp [hK]), if_neg hn1, if_neg hn2, if_neg (by simp [hA])]

theorem value_all (tb : Nat) : ∀ n, ValSays tb n
  | 0 => by
    intro x v ok w ps hx hc hd
    obtain ⟨op, num, name, kids⟩ := x
    rw [dpLe] at hd
    cases hd
  | n + 1 => by
    intro x v ok w ps hx hc hd
    have ih := value_all tb n
    obtain ⟨op, num, name, kids⟩ := x
    rw [dpLe, List.all_eq_true] at hd
    rw [valueP]
    by_cases hK : (kids.length : Int) = kidsV op
    · by_cases h1 : op = [110, 117, 109]
      · rw [show stepV (valueP n) op num name kids ps = .ok num ps by unfold stepV; rw [if_neg (by simp [hK]), if_pos h1]]
        exact value_num tb op name num kids v ok w ps hx hc hK h1
      · by_cases h2 : op = [110, 97, 109, 101]
        · rw [show stepV (valueP n) op num name kids ps = getR ps name by unfold stepV; rw [if_neg (by simp [hK]), if_neg h1, if_pos h2]]
          exact value_name tb op name num kids v ok w ps hx hc hK h2
        · by_cases hA : asgV op = true
          · have hk1 := kidsV_asg h1 h2 hA
            obtain ⟨k, rfl⟩ : ∃ k, kids = [k] := by
              match kids, hK with
              | [], hK => rw [hk1] at hK; simp at hK
              | [k], _ => exact ⟨k, rfl⟩
              | _ :: _ :: _, hK => rw [hk1] at hK; simp at hK; omega
            have hdk := hd k (by simp)
            refine value_asg tb op name num [k] v ok w ps hx hc hK h1 h2 hA _ fun W v hxW hgW => ?_
            unfold stepV
            rw [if_neg (by simp [hk1]), if_neg h1, if_neg h2, if_pos hA]
            simp only
            by_cases hm : Lib.trimSuffix op [61] = []
            · rw [if_pos hm]
              exact assign_plain tb n ih op name num k v ok W ps hxW (hc.keep hgW) hdk hA hm
            · rw [if_neg hm]
              exact assign_mark tb n ih op name num k v ok W ps hxW (hc.keep hgW) hdk hA hm
          · have hA : asgV op = false := by simpa using hA
            rcases kidsV_cases op with hk | hk | hk | hk | hk
            · rcases kidsV_0 hk with h | h
              · exact absurd h h1
              · exact absurd h h2
            · obtain ⟨k, rfl⟩ : ∃ k, kids = [k] := by
                match kids, hK with
                | [], hK => rw [hk] at hK; simp at hK
                | [k], _ => exact ⟨k, rfl⟩
                | _ :: _ :: _, hK => rw [hk] at hK; simp at hK; omega
              rw [stepV_one hk h1 h2 hA]
              exact value_one tb n ih op name num k v ok w ps hx hc (hd k (by simp)) hk hA h1 h2
            · obtain ⟨a, b, rfl⟩ : ∃ a b, kids = [a, b] := by
                match kids, hK with
                | [], hK => rw [hk] at hK; simp at hK
                | [_], hK => rw [hk] at hK; simp at hK
                | [a, b], _ => exact ⟨a, b, rfl⟩
                | _ :: _ :: _ :: _, hK => rw [hk] at hK; simp at hK; omega
              obtain ⟨h3, _⟩ := kidsV_2 hk
              have hda := hd a (by simp)
              have hdb := hd b (by simp)
              by_cases h4 : op = [38, 38]
              · subst h4
                exact value_and tb n ih name num a b v ok w ps hx hc hda hdb
              · by_cases h5 : op = [124, 124]
                · subst h5
                  exact value_or tb n ih name num a b v ok w ps hx hc hda hdb
                · have := value_two tb n ih op name num a b v ok w ps hx hc hda hdb h1 h2 h3 h4 h5 hk hA
                  unfold stepV
                  rw [if_neg (by simp [hk]), if_neg h1, if_neg h2, if_neg (by simp [hA])]
                  simp only [if_neg h3, if_neg h4, if_neg h5]
                  exact this
            · obtain ⟨a, b, c, rfl⟩ : ∃ a b c, kids = [a, b, c] := by
                match kids, hK with
                | [], hK => rw [hk] at hK; simp at hK
                | [_], hK => rw [hk] at hK; simp at hK
                | [_, _], hK => rw [hk] at hK; simp at hK
                | [a, b, c], _ => exact ⟨a, b, c, rfl⟩
                | _ :: _ :: _ :: _ :: _, hK => rw [hk] at hK; simp at hK; omega
              obtain rfl := kidsV_3 hk
              exact value_three tb n ih name num a b c v ok w ps hx hc (hd a (by simp)) (hd b (by simp)) (hd c (by simp))
            · rw [hk] at hK; omega
    · rw [show stepV (valueP n) op num name kids ps = .no 1 ps by unfold stepV; rw [if_pos hK]]
      exact value_bad tb op name num kids v ok w ps hx hc hK
end Go.Proofs.YtlijlgbaikijnaaGreatDoor
