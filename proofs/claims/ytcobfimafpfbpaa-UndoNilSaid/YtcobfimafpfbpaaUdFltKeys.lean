/-
  Keys of a map of floats with at most one key. Conditions: none.
-/
import Derived.Test.YtcobfimafpfbpaaUdFltSort
import Derived.Test.YtcobfimafpfbpaaUdFltIter
import Derived.Shelf.AbstractIn
namespace Go.Proofs.Ytcobfimafpfbpaa
open Go Go.Proofs Go.RowKit Go.Shelf Go.ChangeMaps

section
variable {w : World} {Bm : Nat}
set_option maxRecDepth 100000 in
theorem collectF (n : Nat) (hn : 3 ≤ n)
    (hseq : SeqStopsK Fence.wide (n - 1 - 1) Try.prog 67 #[.pointer (some ⟨Bm, 0, none⟩)] (fun x : Nat => #[Value.float .f64 x]) KeepsWalks (fun xs => xs.length ≤ 1) (fun _ => True) 1 w) :
    CallsIn Fence.wide n Try.prog 65 #[.func (.func 67) #[] #[.pointer (some ⟨Bm, 0, none⟩)]] w fun e w' => (∃ A k c, e = .returned (.slice A k c) ∧ k ≤ 1) ∧ Below w.heap.size w w' := by
  have h1 : 1 ≤ n := by omega
  have ha := appendF (n - 1) (by omega) hseq
  have hfA : Fence.wide.fn 71 := trivial
  replace hseq := Lib.hid hseq
  refine callsIn_of_wp Try.func65 rfl trivial ?_ rfl
  simp only [Try.ntmps65, List.size_toArray, List.length_cons, List.length_nil, Nat.reduceAdd, Nat.reduceSub, Array.replicate_succ, Array.replicate_zero, List.push_toArray, List.append_toArray, List.nil_append, List.cons_append]
  gi_wp2_with (gi_at_call 71; refine ha.mono ?_; rintro e w' ⟨⟨A, k, c, rfl, hk⟩, hb⟩)
  go_ret
  exact ⟨⟨A, k, c, rfl, hk⟩, hb⟩
set_option maxRecDepth 100000 in
theorem sortedF (n : Nat) (hn : 4 ≤ n)
    (hseq : SeqStopsK Fence.wide (n - 1 - 1 - 1) Try.prog 67 #[.pointer (some ⟨Bm, 0, none⟩)] (fun x : Nat => #[Value.float .f64 x]) KeepsWalks (fun xs => xs.length ≤ 1) (fun _ => True) 1 w) :
    CallsIn Fence.wide n Try.prog 55 #[.func (.func 67) #[] #[.pointer (some ⟨Bm, 0, none⟩)]] w fun e w' => (∃ A k c, e = .returned (.slice A k c) ∧ k ≤ 1) ∧ Below w.heap.size w w' := by
  have h1 : 1 ≤ n := by omega
  have ha := collectF (n - 1) (by omega) hseq
  have hfA : Fence.wide.fn 65 := trivial
  have hfB : Fence.wide.fn 66 := trivial
  have hs : ∀ A cc W (k : Nat), k ≤ 1 → CallsIn Fence.wide (n - 1) Try.prog 66 #[.slice A k cc] W fun e w' => e = .returned (.tuple #[]) ∧ w' = W := fun A cc W k hk => callsIn_wide.2 (sortF A cc W k hk)
  replace hseq := Lib.hid hseq
  refine callsIn_of_wp Try.func55 rfl trivial ?_ rfl
  simp only [Try.ntmps55, List.size_toArray, List.length_cons, List.length_nil, Nat.reduceAdd, Nat.reduceSub, Array.replicate_succ, Array.replicate_zero, List.push_toArray, List.append_toArray, List.nil_append, List.cons_append]
  gi_wp2_with (first
    | (gi_at_call 65; refine ha.mono ?_; rintro e w' ⟨⟨A, k, c, rfl, hk⟩, hb⟩)
    | (gi_at_call 66; refine (hs A c w' k hk).mono ?_; rintro e w2 ⟨rfl, rfl⟩))
  go_ret
  exact ⟨⟨A, k, c, rfl, hk⟩, hb⟩
set_option maxRecDepth 100000 in
theorem keysMF (n : Nat) (mb : Option Nat) (w : World) :
    CallsIn Fence.wide n Try.prog 56 #[.map mb] w fun e w' => e = .returned (.func (.func 67) #[] #[.pointer (some ⟨w.heap.size, 0, none⟩)]) ∧ w' = w.alloc (.cells #[.map mb] 100) := by
  refine callsIn_of_wp Try.func56 rfl trivial ?_ rfl
  simp only [Try.ntmps56, List.size_toArray, List.length_cons, List.length_nil, Nat.reduceAdd, Nat.reduceSub, Array.replicate_succ, Array.replicate_zero, List.push_toArray, List.append_toArray, List.nil_append, List.cons_append]
  gi_wp2
  go_ret
  exact ⟨rfl, rfl⟩
set_option maxRecDepth 100000 in
theorem KeysF_any {lo : Option Addr} {mb ob ck : Nat} {es : Array MapEntry} (h : FAt w mb lo ob es ck) (hMF : MF es ck) :
    Calls Try.prog 36 #[ptrV mb] w fun e w' => (∃ A k c, e = .returned (.slice A k c) ∧ k ≤ 1) ∧ Below w.heap.size w w' := by
  have c1 : w.cell? ⟨mb, 1, none⟩ = some (.map (some ob)) := h.blk.cell (i := 1) rfl
  have hlt := h.blk.lt
  have hbx : Blk (w.alloc (.cells #[.map (some ob)] 100)) w.heap.size [.map (some ob)] 100 := Blk.new w _ _
  have hb0 : Below w.heap.size w (w.alloc (.cells #[.map (some ob)] 100)) := (Below.refl _ w).alloc (Nat.le_refl _) _
  have hseq := iterF (w := w.alloc (.cells #[.map (some ob)] 100)) 2 (by omega) hbx.lt (hbx.cell (i := 0) rfl) ((Below.heap_alloc w _ ob h.lt2).trans h.map) hMF
  have hs := sortedF (w := w.alloc (.cells #[.map (some ob)] 100)) 5 (by omega) hseq
  have hk := keysMF 5 (some ob) w
  have hfA : Fence.wide.fn 56 := trivial
  have hfB : Fence.wide.fn 55 := trivial
  replace hseq := Lib.hid hseq
  replace hbx := Lib.hid hbx
  replace hb0 := Lib.hid hb0
  unfold ptrV
  clear h hMF
  refine (callsIn_wide (n := 6)).1 ?_
  refine callsIn_of_wp Try.func36 rfl trivial ?_ rfl
  simp only [Try.ntmps36, List.size_toArray, List.length_cons, List.length_nil, Nat.reduceAdd, Nat.reduceSub, Array.replicate_succ, Array.replicate_zero, List.push_toArray, List.append_toArray, List.nil_append, List.cons_append]
  gi_wp2_with (first
    | (gi_at_call 56; refine hk.mono ?_; rintro e w' ⟨rfl, rfl⟩)
    | (gi_at_call 55; refine hs.mono ?_; rintro e w' ⟨⟨A, k, c, rfl, hk1⟩, hb⟩))
  go_ret
  exact ⟨⟨A, k, c, rfl, hk1⟩, hb0.out.trans (hb.mono (by simp))⟩
end
end Go.Proofs.Ytcobfimafpfbpaa
