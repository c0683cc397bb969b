/-
  A note that writes a number behind others. Conditions: few numbers.
-/
import Derived.Test.YtcobfimafpfbpaaUdAwake
import Derived.Test.YtcobfimafpfbpaaUdRow
namespace Go.Proofs.Ytcobfimafpfbpaa
open Go Go.RowKit Go.ChangeMaps

theorem infoInt : (Try.prog.info? 3).map (fun i => (i.zero, i.size, i.bytes)) = some (some (.int .i64 0), 1, 8) := by kernel_rfl
theorem enters_out : Enters Try.prog 24 := enters_of Try.func24 (by kernel_rfl) rfl
def outF (ob b : Nat) : Value := .func (.func 24) #[] #[ptrV ob, ptrV b]

section
variable {w w' : World}
set_option maxRecDepth 100000 in
set_option maxHeartbeats 1000000 in
theorem out_note {ob b zu n : Nat} {v : Value} {xs : List Value} {x : Int} (ho : Blk w ob [v] 46) (hr : Row w zu 3 v n xs) (hb : Blk w b [.int .i64 x] 3) (hn : n ≤ 1000) (hz : zu ≤ w.heap.size) :
    Calls Try.prog 24 #[ptrV ob, ptrV b] w fun e w' => e = .returned (.tuple #[]) ∧ ∃ v', Blk w' ob [v'] 46 ∧ Row w' zu 3 v' (n + 1) (xs ++ [.int .i64 x]) ∧ Stp (fun g => g = ob ∨ v.ownBlock = some g) w w' := by
  obtain ⟨i0, hi, hz0, hz1, hz2⟩ := info_parts infoInt
  obtain ⟨A, cc, rfl, hc, hcm⟩ := hr.form
  have c0 : w.cell? ⟨ob, 0, none⟩ = some (.slice A n cc) := ho.cell (i := 0) rfl
  have c1 : w.cell? ⟨b, 0, none⟩ = some (.int .i64 x) := hb.cell (i := 0) rfl
  have l0 := ho.lt
  have l1 := hb.lt
  have hb2 : Blk (w.alloc (.cells #[.int .i64 x] 3)) w.heap.size [.int .i64 x] 3 := Blk.new w _ _
  have hr2 : Row (w.alloc (.cells #[.int .i64 x] 3)) zu 3 (.slice A n cc) n xs := hr.keep fun g hg => Below.heap_alloc w _ g (hr.lt hg).2.1
  have ho2 := ho.alloc (.cells #[.int .i64 x] 3)
  obtain ⟨v', w3, hrun, hrow, hst, how⟩ := run_append_row (P := Try.prog) (w.alloc (.cells #[.int .i64 x] 3)) zu 46 46 46 3 i0 _ Try.underlying46 hi hz0 hz1 rfl (.slice A n cc) n xs hr2 (.slice (some ⟨w.heap.size, 0, none⟩) 1 1) 1 [.int .i64 x]
    (Src.ofSlice _ Try.underlying46 _ 1 1 _ rfl (fun j u hu => by rw [add_plain0, Nat.zero_add]; exact hb2.cell hu) (by simp [Value.oneCell'])) (by rw [hz2]; omega) (by omega) (by simp; omega)
  obtain ⟨A3, cc3, rfl, hc3, hcm3⟩ := hrow.form
  have hne : ∀ g, (Value.slice A n cc).ownBlock = some g → g ≠ ob := fun g hg => Row.ne hr2 ho2 (by decide) hg
  have ho3 : Blk w3 ob [.slice A n cc] 46 := ho2.stp hst fun e => hne ob e rfl
  have hne3 : ∀ g, (Value.slice A3 (n + 1) cc3).ownBlock = some g → g ≠ ob := fun g hg => Row.ne hrow ho3 (by decide) hg
  have ho4 : Blk (w3.setCell ⟨ob, 0, none⟩ (.slice A3 (n + 1) cc3)) ob [.slice A3 (n + 1) cc3] 46 := ho3.set 0 (.slice A3 (n + 1) cc3)
  have hrow4 := hrow.keep (w' := w3.setCell ⟨ob, 0, none⟩ (.slice A3 (n + 1) cc3)) fun g hg => heap_setCell_other w3 _ g _ (hne3 g hg)
  have hS : Stp (fun g => g = ob ∨ (Value.slice A n cc).ownBlock = some g) w (w3.setCell ⟨ob, 0, none⟩ (.slice A3 (n + 1) cc3)) :=
    (((Stp.alloc (fun g => g = ob ∨ (Value.slice A n cc).ownBlock = some g) w _).trans hst (fun _ _ h => .inr h))).trans (Stp.set (S := fun g => g = ob) rfl 0 _) (fun _ _ h => .inl h)
  have d0 : w3.cell? ⟨ob, 0, none⟩ = some (.slice A n cc) := ho3.cell (i := 0) rfl
  have f0 := ho3.frozen 0
  have l3 := ho3.lt
  have hfin : Hid (∃ v', Blk (w3.setCell ⟨ob, 0, none⟩ (.slice A3 (n + 1) cc3)) ob [v'] 46 ∧ Row (w3.setCell ⟨ob, 0, none⟩ (.slice A3 (n + 1) cc3)) zu 3 v' (n + 1) (xs ++ [.int .i64 x]) ∧ Stp (fun g => g = ob ∨ (Value.slice A n cc).ownBlock = some g) w (w3.setCell ⟨ob, 0, none⟩ (.slice A3 (n + 1) cc3))) := ⟨_, ho4, hrow4, hS⟩
  replace hrun := Lib.hid hrun
  unfold ptrV
  clear hS hrow4 ho4 hne3 ho3 hne how hst hrow hr2 ho2 hb2 hi hz0 hz1 hz2 ho hr hb
  go_enter Try.func24, Try.ntmps24
  go_wp2_with (at_builtin; refine wpList_append_of rfl _ _ 46 46 rfl _ _ _ w3 rfl rfl hrun.out ?_)
  go_end0
  exact ⟨rfl, hfin.out⟩
end
end Go.Proofs.Ytcobfimafpfbpaa
