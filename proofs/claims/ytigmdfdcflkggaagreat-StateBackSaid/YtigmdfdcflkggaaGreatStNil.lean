/-
  What the calls of no state answer. Conditions: none.
-/
import Derived.Test.YtigmdfdcflkggaaGreatStAwake
namespace Go.Proofs.YtigmdfdcflkggaaGreat
open Go Go.RowKit Go.ChangeMaps

section
variable {w w' : World}
set_option maxRecDepth 100000 in
theorem checkName_n (k : ByteArray) (w : World) :
    Calls Tryz.prog 83 #[.pointer none, .string k] w fun e w' => e = .returned (.int .i64 2) ∧ w' = w := by
  have h0 := sisNil_yes w
  go_enter Tryz.func83, Tryz.ntmps83
  go_wp2_with fail
  refine h0.mono ?_
  rintro e w' ⟨rfl, hw⟩
  obtain rfl := hw.symm
  clear hw h0
  go_wp2
  go_ret
  exact ⟨rfl, rfl⟩
set_option maxRecDepth 100000 in
theorem checkTrap_n (k : ByteArray) (w : World) :
    Calls Tryz.prog 98 #[.pointer none, .string k] w fun e w' => e = .returned (.int .i64 2) ∧ w' = w := by
  have h0 := sisNil_yes w
  go_enter Tryz.func98, Tryz.ntmps98
  go_wp2_with fail
  refine h0.mono ?_
  rintro e w' ⟨rfl, hw⟩
  obtain rfl := hw.symm
  clear hw h0
  go_wp2
  go_ret
  exact ⟨rfl, rfl⟩
set_option maxRecDepth 100000 in
theorem Unset_n (k : ByteArray) (w : World) :
    Calls Tryz.prog 27 #[.pointer none, .string k] w fun e w' => e = .returned (.int .i64 2) ∧ w' = w := by
  have h0 := checkName_n k w
  go_enter Tryz.func27, Tryz.ntmps27
  go_wp2_with fail
  refine h0.mono ?_
  rintro e w' ⟨rfl, hw⟩
  obtain rfl := hw.symm
  clear hw h0
  go_wp2
  go_ret
  exact ⟨rfl, rfl⟩
set_option maxRecDepth 100000 in
theorem UnsetFunc_n (k : ByteArray) (w : World) :
    Calls Tryz.prog 43 #[.pointer none, .string k] w fun e w' => e = .returned (.int .i64 2) ∧ w' = w := by
  have h0 := checkName_n k w
  go_enter Tryz.func43, Tryz.ntmps43
  go_wp2_with fail
  refine h0.mono ?_
  rintro e w' ⟨rfl, hw⟩
  obtain rfl := hw.symm
  clear hw h0
  go_wp2
  go_ret
  exact ⟨rfl, rfl⟩
set_option maxRecDepth 100000 in
theorem SetAlias_n (k v : ByteArray) (w : World) :
    Calls Tryz.prog 44 #[.pointer none, .string k, .string v] w fun e w' => e = .returned (.int .i64 2) ∧ w' = w := by
  have h0 := sisNil_yes w
  go_enter Tryz.func44, Tryz.ntmps44
  go_wp2_with fail
  refine h0.mono ?_
  rintro e w' ⟨rfl, hw⟩
  obtain rfl := hw.symm
  clear hw h0
  go_wp2
  go_ret
  exact ⟨rfl, rfl⟩
set_option maxRecDepth 100000 in
theorem Unalias_n (k : ByteArray) (w : World) :
    Calls Tryz.prog 45 #[.pointer none, .string k] w fun e w' => e = .returned (.int .i64 2) ∧ w' = w := by
  have h0 := sisNil_yes w
  go_enter Tryz.func45, Tryz.ntmps45
  go_wp2_with fail
  refine h0.mono ?_
  rintro e w' ⟨rfl, hw⟩
  obtain rfl := hw.symm
  clear hw h0
  go_wp2
  go_ret
  exact ⟨rfl, rfl⟩
set_option maxRecDepth 100000 in
theorem SetTrap_n (k v : ByteArray) (w : World) :
    Calls Tryz.prog 35 #[.pointer none, .string k, .string v] w fun e w' => e = .returned (.int .i64 2) ∧ w' = w := by
  have h0 := checkTrap_n k w
  go_enter Tryz.func35, Tryz.ntmps35
  go_wp2_with fail
  refine h0.mono ?_
  rintro e w' ⟨rfl, hw⟩
  obtain rfl := hw.symm
  clear hw h0
  go_wp2
  go_ret
  exact ⟨rfl, rfl⟩
set_option maxRecDepth 100000 in
theorem Untrap_n (k : ByteArray) (w : World) :
    Calls Tryz.prog 46 #[.pointer none, .string k] w fun e w' => e = .returned (.int .i64 2) ∧ w' = w := by
  have h0 := checkTrap_n k w
  go_enter Tryz.func46, Tryz.ntmps46
  go_wp2_with fail
  refine h0.mono ?_
  rintro e w' ⟨rfl, hw⟩
  obtain rfl := hw.symm
  clear hw h0
  go_wp2
  go_ret
  exact ⟨rfl, rfl⟩
set_option maxRecDepth 100000 in
theorem Enter_n (w : World) :
    Calls Tryz.prog 36 #[.pointer none] w fun e w' => e = .returned (.int .i64 2) ∧ w' = w := by
  have h0 := sisNil_yes w
  go_enter Tryz.func36, Tryz.ntmps36
  go_wp2_with fail
  refine h0.mono ?_
  rintro e w' ⟨rfl, hw⟩
  obtain rfl := hw.symm
  clear hw h0
  go_wp2
  go_ret
  exact ⟨rfl, rfl⟩
set_option maxRecDepth 100000 in
theorem SetOption_n (o : Int) (on : Bool) (w : World) :
    Calls Tryz.prog 30 #[.pointer none, .int .u8 o, .bool on] w fun e w' => e = .returned (.int .i64 2) ∧ w' = w := by
  have h0 := sisNil_yes w
  go_enter Tryz.func30, Tryz.ntmps30
  go_wp2_with fail
  refine h0.mono ?_
  rintro e w' ⟨rfl, hw⟩
  obtain rfl := hw.symm
  clear hw h0
  go_wp2
  go_ret
  exact ⟨rfl, rfl⟩
set_option maxRecDepth 100000 in
theorem SetArgs_n (v : Value) (w : World) :
    Calls Tryz.prog 32 #[.pointer none, v] w fun e w' => e = .returned (.int .i64 2) ∧ w' = w := by
  have h0 := sisNil_yes w
  go_enter Tryz.func32, Tryz.ntmps32
  go_wp2_with fail
  refine h0.mono ?_
  rintro e w' ⟨rfl, hw⟩
  obtain rfl := hw.symm
  clear hw h0
  go_wp2
  go_ret
  exact ⟨rfl, rfl⟩
set_option maxRecDepth 100000 in
theorem Shift_n (x : Int) (w : World) :
    Calls Tryz.prog 33 #[.pointer none, .int .i64 x] w fun e w' => e = .returned (.int .i64 2) ∧ w' = w := by
  have h0 := sisNil_yes w
  go_enter Tryz.func33, Tryz.ntmps33
  go_wp2_with fail
  refine h0.mono ?_
  rintro e w' ⟨rfl, hw⟩
  obtain rfl := hw.symm
  clear hw h0
  go_wp2
  go_ret
  exact ⟨rfl, rfl⟩
set_option maxRecDepth 100000 in
theorem SetCursor_n (x y : Int) (w : World) :
    Calls Tryz.prog 48 #[.pointer none, .int .i64 x, .int .i64 y] w fun e w' => e = .returned (.int .i64 2) ∧ w' = w := by
  have h0 := sisNil_yes w
  go_enter Tryz.func48, Tryz.ntmps48
  go_wp2_with fail
  refine h0.mono ?_
  rintro e w' ⟨rfl, hw⟩
  obtain rfl := hw.symm
  clear hw h0
  go_wp2
  go_ret
  exact ⟨rfl, rfl⟩
set_option maxRecDepth 100000 in
theorem Status_n (w : World) :
    Calls Tryz.prog 21 #[.pointer none] w fun e w' => e = .returned (.int .i64 0) ∧ w' = w := by
  have h0 := sisNil_yes w
  go_enter Tryz.func21, Tryz.ntmps21
  go_wp2_with fail
  refine h0.mono ?_
  rintro e w' ⟨rfl, hw⟩
  obtain rfl := hw.symm
  clear hw h0
  go_wp2
  go_ret
  exact ⟨rfl, rfl⟩
set_option maxRecDepth 100000 in
theorem Cursor_n (w : World) :
    Calls Tryz.prog 18 #[.pointer none] w fun e w' => e = .returned (.tuple #[.int .i64 0, .int .i64 0]) ∧ w' = w := by
  have h0 := sisNil_yes w
  go_enter Tryz.func18, Tryz.ntmps18
  go_wp2_with fail
  refine h0.mono ?_
  rintro e w' ⟨rfl, hw⟩
  obtain rfl := hw.symm
  clear hw h0
  go_wp2
  go_ret2
  exact ⟨rfl, rfl⟩
set_option maxRecDepth 100000 in
theorem Options_n (w : World) :
    Calls Tryz.prog 67 #[.pointer none] w fun e w' => e = .returned (.string ⟨#[]⟩) ∧ w' = w := by
  have h0 := sisNil_yes w
  go_enter Tryz.func67, Tryz.ntmps67
  go_wp2_with fail
  refine h0.mono ?_
  rintro e w' ⟨rfl, hw⟩
  obtain rfl := hw.symm
  clear hw h0
  go_wp2
  go_ret
  exact ⟨rfl, rfl⟩
set_option maxRecDepth 100000 in
theorem Args_n (w : World) :
    Calls Tryz.prog 34 #[.pointer none] w fun e w' => e = .returned (.slice none 0 0) ∧ w' = w := by
  have h0 := sisNil_yes w
  go_enter Tryz.func34, Tryz.ntmps34
  go_wp2_with fail
  refine h0.mono ?_
  rintro e w' ⟨rfl, hw⟩
  obtain rfl := hw.symm
  clear hw h0
  go_wp2
  go_ret
  exact ⟨rfl, rfl⟩
set_option maxRecDepth 100000 in
theorem Names_n (w : World) :
    Calls Tryz.prog 68 #[.pointer none] w fun e w' => e = .returned (.slice none 0 0) ∧ w' = w := by
  have h0 := sisNil_yes w
  go_enter Tryz.func68, Tryz.ntmps68
  go_wp2_with fail
  refine h0.mono ?_
  rintro e w' ⟨rfl, hw⟩
  obtain rfl := hw.symm
  clear hw h0
  go_wp2
  go_ret
  exact ⟨rfl, rfl⟩
set_option maxRecDepth 100000 in
theorem Aliases_n (w : World) :
    Calls Tryz.prog 69 #[.pointer none] w fun e w' => e = .returned (.slice none 0 0) ∧ w' = w := by
  have h0 := sisNil_yes w
  go_enter Tryz.func69, Tryz.ntmps69
  go_wp2_with fail
  refine h0.mono ?_
  rintro e w' ⟨rfl, hw⟩
  obtain rfl := hw.symm
  clear hw h0
  go_wp2
  go_ret
  exact ⟨rfl, rfl⟩
set_option maxRecDepth 100000 in
theorem Alias_n (k : ByteArray) (w : World) :
    Calls Tryz.prog 70 #[.pointer none, .string k] w fun e w' => e = .returned (.tuple #[.string ⟨#[]⟩, .bool false]) ∧ w' = w := by
  have h0 := sisNil_yes w
  go_enter Tryz.func70, Tryz.ntmps70
  go_wp2_with fail
  refine h0.mono ?_
  rintro e w' ⟨rfl, hw⟩
  obtain rfl := hw.symm
  clear hw h0
  go_wp2
  go_ret2
  exact ⟨rfl, rfl⟩
set_option maxRecDepth 100000 in
theorem Trap_n (k : ByteArray) (w : World) :
    Calls Tryz.prog 37 #[.pointer none, .string k] w fun e w' => e = .returned (.tuple #[.string ⟨#[]⟩, .bool false]) ∧ w' = w := by
  have h0 := sisNil_yes w
  go_enter Tryz.func37, Tryz.ntmps37
  go_wp2_with fail
  refine h0.mono ?_
  rintro e w' ⟨rfl, hw⟩
  obtain rfl := hw.symm
  clear hw h0
  go_wp2
  go_ret2
  exact ⟨rfl, rfl⟩
set_option maxRecDepth 100000 in
theorem SetStatus_n (x : Int) (w : World) :
    Calls Tryz.prog 49 #[.pointer none, .int .i64 x] w fun e w' => e = .returned (.tuple #[]) ∧ w' = w := by
  have h0 := sisNil_yes w
  go_enter Tryz.func49, Tryz.ntmps49
  go_wp2_with fail
  refine h0.mono ?_
  rintro e w' ⟨rfl, hw⟩
  obtain rfl := hw.symm
  clear hw h0
  go_wp2
  exact bodyPost_end (v := .tuple #[]) (results_none rfl _ _ _) rfl ⟨rfl, rfl⟩
end
end Go.Proofs.YtigmdfdcflkggaaGreat
