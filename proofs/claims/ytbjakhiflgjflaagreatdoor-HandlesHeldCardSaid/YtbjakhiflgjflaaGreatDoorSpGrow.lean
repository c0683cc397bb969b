/-
  slices.Grow of a row of bytes: there is room for more behind it, in the same block or in a new one. Conditions: at most 200000 bytes.
-/
import Derived.Test.YtbjakhiflgjflaaGreatDoorSpMem
import Derived.Test.YtbjakhiflgjflaaGreatDoorProg
import Derived.OwnWalk
namespace Go.Proofs.YtbjakhiflgjflaaGreatDoor
open Go Go.RowKit

section
variable {P : Program} {w : World}
theorem wpList_append_of {ops : Array Oper} {rest : List Oper} {o : Oper} {a : Act} {Q : Exit → Act → World → Prop} (hgd : o.guard = none) (s x : Operand) (t tx : TypeId)
    (ho : o.op = .call { callee := .builtin .append, args := #[s, x], argTypes := #[t, tx] }) (v y r : Value) (w1 : World) (hs : a.eval s = v) (hx : a.eval x = y)
    (hrun : (Builtin.append_ #[t, tx] o.type #[v, y]).run P w = .ok r w1) (h : wpList P ops Q rest (a.put o.dst r) w1) : wpList P ops Q (o :: rest) a w :=
  wpList_plain hgd fun _ hK => by
    unfold Oper.wp execOp
    simp only [ho, resolve, invoke, builtin, Sem.run_bind, Sem.run_pure, Result.andThen_ok, List.map_toArray, List.map_cons, List.map_nil, hs, hx, hrun]
    exact hK _ _ h
theorem wpList_copy_of {ops : Array Oper} {rest : List Oper} {o : Oper} {a : Act} {Q : Exit → Act → World → Prop} (hgd : o.guard = none) (s x : Operand) (t tx : TypeId)
    (ho : o.op = .call { callee := .builtin .copy, args := #[s, x], argTypes := #[t, tx] }) (v y r : Value) (w1 : World) (hs : a.eval s = v) (hx : a.eval x = y)
    (hrun : (Builtin.copy_ #[t, tx] o.type #[v, y]).run P w = .ok r w1) (h : wpList P ops Q rest (a.put o.dst r) w1) : wpList P ops Q (o :: rest) a w :=
  wpList_plain hgd fun _ hK => by
    unfold Oper.wp execOp
    simp only [ho, resolve, invoke, builtin, Sem.run_bind, Sem.run_pure, Result.andThen_ok, List.map_toArray, List.map_cons, List.map_nil, hs, hx, hrun]
    exact hK _ _ h
end

theorem infoU8 : (Tryz.prog.info? 5).map (fun i => (i.zero, i.size, i.bytes)) = some (some (.int .u8 0), 1, 1) := by kernel_rfl
theorem infoRow : (Tryz.prog.info? 134).map (fun i => (i.zero, i.size, i.bytes)) = some (some (.slice none 0 0), 1, 24) := by kernel_rfl
theorem info_parts {P : Program} {t : TypeId} {z : Value} {s b : Nat} (h : (P.info? t).map (fun i => (i.zero, i.size, i.bytes)) = some (some z, s, b)) : ∃ i, P.info? t = some i ∧ i.zero = some z ∧ i.size = s ∧ i.bytes = b := by
  cases hi : P.info? t with
  | none => rw [hi] at h; cases h
  | some i =>
    rw [hi] at h
    simp only [Option.map_some, Option.some.injEq, Prod.mk.injEq] at h
    exact ⟨i, rfl, h.1, h.2.1, h.2.2⟩

set_option maxHeartbeats 1000000 in
set_option maxRecDepth 100000 in
theorem grow_any (B : Nat) (v : Value) (n : Nat) (xs : List Value) (k : Nat) (w : World) (hr : Row w B 5 v n xs) (hk : 0 < k) (hm : n + k ≤ 200000) (hB : B ≤ w.heap.size) :
    Calls Tryz.prog 287 #[v, .int .i64 (k : Int)] w fun e w' => ∃ g off c, e = .returned (.slice (some ⟨g, off, none⟩) n c) ∧ n + k ≤ c ∧ c ≤ maxLen ∧ Row w' B 5 (.slice (some ⟨g, off, none⟩) n c) n xs ∧ w.grownBy w' none ∧ (v.ownBlock = some g ∨ g = w.heap.size) := by
  obtain ⟨A, c, rfl, hc, hcm⟩ := hr.form
  unfold maxLen at hcm
  by_cases hroom : n + k ≤ c
  · obtain ⟨g, off, rfl⟩ : ∃ g off, A = some ⟨g, off, none⟩ := by
      rcases hr with ⟨h, _⟩ | ⟨g, off, cap, cur, hv, _⟩
      · cases h; omega
      · cases hv; exact ⟨g, off, rfl⟩
    have hr := Lib.hid hr
    go_enter Tryz.func287, Tryz.ntmps287
    go_wp2
    go_ret
    exact ⟨g, off, c, rfl, hroom, by unfold maxLen; omega, hr.out, ⟨rfl, rfl, rfl, Nat.le_refl _, fun _ _ _ => rfl⟩, .inl rfl⟩
  · obtain ⟨i0, hi, hz0, hz1, hz2⟩ := info_parts infoU8
    obtain ⟨k', hk'⟩ : ∃ k' : Nat, (k : Int) - ((c : Int) - (n : Int)) = (k' : Int) := ⟨k - (c - n), by omega⟩
    have hk0 : 0 < k' := by omega
    obtain ⟨cap, w2, hrun, h1, h2, h3, h4⟩ := run_append_zeros (P := Tryz.prog) w B 134 3 134 5 i0 _ .i64 Tryz.underlying134 Tryz.underlying3 hi hz0 hz1 hz2 rfl A c n xs hr .i64 k' hk0 (by omega) hB
    have hcn : n + k ≤ cap := by omega
    unfold maxLen at h2
    obtain ⟨z, hz⟩ : ∃ z, w.heap.size = z := ⟨_, rfl⟩
    rw [hz] at hrun h3 ⊢
    have hr := Lib.hid hr
    have hrun := Lib.hid hrun
    have h3 := Lib.hid h3
    have h4 := Lib.hid h4
    go_enter Tryz.func287, Tryz.ntmps287
    go_wp2_with (at_builtin; refine wpList_append_of rfl _ _ 134 3 rfl _ _ _ w2 rfl rfl hrun.out ?_)
    go_wp2
    go_ret
    exact ⟨z, 0, cap, rfl, hcn, by unfold maxLen; omega, h3.out, h4.out, .inr rfl⟩
end Go.Proofs.YtbjakhiflgjflaaGreatDoor
