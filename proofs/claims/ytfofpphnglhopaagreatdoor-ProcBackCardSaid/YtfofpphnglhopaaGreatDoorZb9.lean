/-
  A part. Conditions: each theorem's own.
-/
import Derived.Handy
import Derived.Test.YtfofpphnglhopaaGreatDoorZb5
import Derived.Test.YtfofpphnglhopaaGreatDoorZb6
import Derived.Test.YtfofpphnglhopaaGreatDoorZb8
set_option maxHeartbeats 8000000
set_option maxRecDepth 100000
namespace Go.Proofs.YtfofpphnglhopaaGreatDoor
open Go Go.RowKit
theorem part0 {P : Program} {w : World} {ob b : Nat} {cur : List Value} {t : TypeId} (h : Blk w ob cur t) (hb : byteOfCell P P.depth t 0 = some b) : (partAt ⟨ob, 0, none⟩ 0 0).run P w = .ok ⟨ob, 0, none⟩ w := by
  unfold Blk at h
  have hs : w.shape? ob = some (t, cur.length) := by unfold World.shape?; rw [h]; simp
  by_cases hc : P.cellsOf t = 0
  · simp [partAt, byteOf, noView, viewAt, go_sem, hs, hc]
  · simp [partAt, byteOf, noView, viewAt, go_sem, hs, hc, hb]
theorem m_text_write {w : World} {ob : Nat} {cur : List Value} (h : Blk w ob cur 197) : (method 446 195 (.pointer (some ⟨ob, 0, none⟩)) "whelk/handles.write").run Tryz.prog w = .ok (270, .agg #[]) w := by
  have e : (method 446 195 (.pointer (some ⟨ob, 0, none⟩)) "whelk/handles.write").run Tryz.prog w = (do let p ← (do let a ← partAt ⟨ob, 0, none⟩ 0 0; pure ((160, Place.var a) : TypeId × Place)); let v ← receiverAt p.1 p.2 false none; pure (270, v) : Sem (FuncId × Value)).run Tryz.prog w := by kernel_rfl
  rw [e]
  simp [part0 (P := Tryz.prog) h (b := 0) (by kernel_rfl), receiverAt, go_sem, Place.get]
theorem m_text_end {w : World} {ob : Nat} {cur : List Value} (h : Blk w ob cur 197) : (method 446 195 (.pointer (some ⟨ob, 0, none⟩)) "whelk/handles.end").run Tryz.prog w = .ok (268, .agg #[]) w := by
  have e : (method 446 195 (.pointer (some ⟨ob, 0, none⟩)) "whelk/handles.end").run Tryz.prog w = (do let p ← (do let a ← partAt ⟨ob, 0, none⟩ 0 0; pure ((160, Place.var a) : TypeId × Place)); let v ← receiverAt p.1 p.2 false none; pure (268, v) : Sem (FuncId × Value)).run Tryz.prog w := by kernel_rfl
  rw [e]
  simp [part0 (P := Tryz.prog) h (b := 0) (by kernel_rfl), receiverAt, go_sem, Place.get]
theorem m_sink_read {w : World} {ob : Nat} {cur : List Value} (h : Blk w ob cur 200) : (method 446 198 (.pointer (some ⟨ob, 0, none⟩)) "whelk/handles.read").run Tryz.prog w = .ok (269, .agg #[]) w := by
  have e : (method 446 198 (.pointer (some ⟨ob, 0, none⟩)) "whelk/handles.read").run Tryz.prog w = (do let p ← (do let a ← partAt ⟨ob, 0, none⟩ 0 0; pure ((160, Place.var a) : TypeId × Place)); let v ← receiverAt p.1 p.2 false none; pure (269, v) : Sem (FuncId × Value)).run Tryz.prog w := by kernel_rfl
  rw [e]
  simp [part0 (P := Tryz.prog) h (b := 0) (by kernel_rfl), receiverAt, go_sem, Place.get]
theorem m_sink_end {w : World} {ob : Nat} {cur : List Value} (h : Blk w ob cur 200) : (method 446 198 (.pointer (some ⟨ob, 0, none⟩)) "whelk/handles.end").run Tryz.prog w = .ok (268, .agg #[]) w := by
  have e : (method 446 198 (.pointer (some ⟨ob, 0, none⟩)) "whelk/handles.end").run Tryz.prog w = (do let p ← (do let a ← partAt ⟨ob, 0, none⟩ 0 0; pure ((160, Place.var a) : TypeId × Place)); let v ← receiverAt p.1 p.2 false none; pure (268, v) : Sem (FuncId × Value)).run Tryz.prog w := by kernel_rfl
  rw [e]
  simp [part0 (P := Tryz.prog) h (b := 0) (by kernel_rfl), receiverAt, go_sem, Place.get]
theorem m_rd_write {w : World} {ob : Nat} {cur : List Value} (h : Blk w ob cur 167) : (method 446 169 (.agg #[.pointer (some ⟨ob, 0, none⟩)]) "whelk/handles.write").run Tryz.prog w = .ok (270, .agg #[]) w := by
  have e : (method 446 169 (.agg #[.pointer (some ⟨ob, 0, none⟩)]) "whelk/handles.write").run Tryz.prog w = (do let p ← (do let a ← partAt ⟨ob, 0, none⟩ 0 0; pure ((160, Place.var a) : TypeId × Place)); let v ← receiverAt p.1 p.2 false none; pure (270, v) : Sem (FuncId × Value)).run Tryz.prog w := by kernel_rfl
  rw [e]
  simp [part0 (P := Tryz.prog) h (b := 0) (by kernel_rfl), receiverAt, go_sem, Place.get]
theorem m_wr_read {w : World} {ob : Nat} {cur : List Value} (h : Blk w ob cur 167) : (method 446 170 (.agg #[.pointer (some ⟨ob, 0, none⟩)]) "whelk/handles.read").run Tryz.prog w = .ok (269, .agg #[]) w := by
  have e : (method 446 170 (.agg #[.pointer (some ⟨ob, 0, none⟩)]) "whelk/handles.read").run Tryz.prog w = (do let p ← (do let a ← partAt ⟨ob, 0, none⟩ 0 0; pure ((160, Place.var a) : TypeId × Place)); let v ← receiverAt p.1 p.2 false none; pure (269, v) : Sem (FuncId × Value)).run Tryz.prog w := by kernel_rfl
  rw [e]
  simp [part0 (P := Tryz.prog) h (b := 0) (by kernel_rfl), receiverAt, go_sem, Place.get]
end Go.Proofs.YtfofpphnglhopaaGreatDoor
namespace Go.Proofs.YtfofpphnglhopaaGreatDoor
open Go Go.RowKit Go.ChangeMaps
section
variable {w : World} {F : Nat → Prop} {fb : Nat} {ob a pb bb ends : Nat} {n : Int} {r wr m : Bool}
theorem file_read_no (hb : Blk w ob (fileC fb n a false wr m) 162) (k : Int) :
    Calls Tryz.prog 263 #[ptrV ob, .int .i64 k] w fun e w' => e = .returned (.tuple #[.string ⟨#[]⟩, .int .i64 19]) ∧ w' = w := by
  have c3 := hb.cell (i := 3) rfl
  have c4 := hb.cell (i := 4) rfl
  have hlt := hb.lt
  unfold ptrV
  clear hb
  go_enter Tryz.func263, Tryz.ntmps263
  go_wp2
  go_ret2
  exact ⟨rfl, rfl⟩
theorem file_read_neg (hb : Blk w ob (fileC fb n a true wr m) 162) (k : Int) (hk : k < 0) :
    Calls Tryz.prog 263 #[ptrV ob, .int .i64 k] w fun e w' => e = .returned (.tuple #[.string ⟨#[]⟩, .int .i64 1]) ∧ w' = w := by
  have c3 := hb.cell (i := 3) rfl
  have c4 := hb.cell (i := 4) rfl
  have hlt := hb.lt
  unfold ptrV
  clear hb
  go_enter Tryz.func263, Tryz.ntmps263
  go_wp2
  go_ret2
  exact ⟨rfl, rfl⟩
theorem file_write_no (hb : Blk w ob (fileC fb n a r false m) 162) (s : ByteArray) :
    Calls Tryz.prog 266 #[ptrV ob, .string s] w fun e w' => e = .returned (.int .i64 19) ∧ w' = w := by
  have c3 := hb.cell (i := 3) rfl
  have c4 := hb.cell (i := 4) rfl
  have hlt := hb.lt
  unfold ptrV
  clear hb
  go_enter Tryz.func266, Tryz.ntmps266
  go_wp2
  go_ret
  exact ⟨rfl, rfl⟩
theorem text_read_neg {t : ByteArray} (hb : Blk w ob [.string t, .int .i64 (a : Int)] 197) (k : Int) (hk : k < 0) :
    Calls Tryz.prog 287 #[ptrV ob, .int .i64 k] w fun e w' => e = .returned (.tuple #[.string ⟨#[]⟩, .int .i64 1]) ∧ w' = w := by
  have c0 := hb.cell (i := 0) rfl
  have c1 := hb.cell (i := 1) rfl
  have hlt := hb.lt
  unfold ptrV
  clear hb
  go_enter Tryz.func287, Tryz.ntmps287
  go_wp2
  go_ret2
  exact ⟨rfl, rfl⟩
theorem rd_read_neg {F : Nat → Prop} {plb q M C tot k : Nat} {es : List Ent} {b : Bs} (hp : Blk w pb [ptrV bb, .int .i64 (ends : Int)] 167) (h : AllF w F plb q M C es tot) (hk : es[k]? = some (bb, some b)) (j : Int) (hj : j < 0) :
    Calls Tryz.prog 276 #[.agg #[ptrV pb], .int .i64 j] w fun e w' => e = .returned (.tuple #[.string ⟨#[]⟩, .int .i64 1]) ∧ w.grownBy w' none := by
  have hb1 : Blk (w.alloc (.cells #[ptrV pb] 169)) w.heap.size [ptrV pb] 169 := Blk.new w _ _
  have hp1 : Blk (w.alloc (.cells #[ptrV pb] 169)) pb _ _ := (Below.heap_alloc w _ pb hp.lt).trans hp
  have h1 : AllF (w.alloc (.cells #[ptrV pb] 169)) F plb q M C es tot := h.keep (by simp) fun g hg => Below.heap_alloc w _ g (h.lt hg)
  have hc1 : w.grownBy (w.alloc (.cells #[ptrV pb] 169)) none := World.grownBy_alloc w _ _
  obtain ⟨B, hA⟩ := h1.all
  have hn := all_neg j hj hA hk
  unfold ptrV at hp1 hb1 hc1 hn ⊢
  replace hn := Lib.hid hn
  replace hc1 := Lib.hid hc1
  clear hA h1 h hp hj
  go_enter Tryz.func276, Tryz.ntmps276
  go_upto_region 1 with fail
  obtain ⟨z, hz⟩ : ∃ z, w.heap.size = z := ⟨_, rfl⟩
  generalize (w.alloc (.cells #[.pointer (some ⟨pb, 0, none⟩)] 169)) = w1 at hb1 hp1 hc1 hn ⊢
  simp only [hz] at hb1 ⊢
  replace hz := Lib.hid hz
  have z0 := hb1.cell (i := 0) rfl
  have c0 := hp1.cell (i := 0) rfl
  have hzl := hb1.lt
  have hpl := hp1.lt
  clear hb1 hp1
  go_wp2_with fail
  refine hn.out.mono ?_
  rintro e w' ⟨rfl, hw⟩
  obtain rfl := hw.symm
  clear hn hw
  go_wp2
  go_ret2
  exact ⟨rfl, hc1.out⟩
end
section
variable {w : World} {F : Nat → Prop} {c : Sy} {s : St} {k : Int} {x : Hd}
theorem sys_Ref_none (h : Sys w F c s) (hx : look s.hs k = none) :
    Calls Tryz.prog 35 #[ptrV c.tb, .int .i64 k] w fun e w' => e = .returned (.int .i64 18) ∧ w' = w := by
  obtain ⟨Ft, Fp, Fh, h, hF⟩ := h
  obtain ⟨lab, mb, mem, v, ht, hFh⟩ := h.tab
  have hf := tfind_none ht hx
  unfold ptrV at hf ⊢
  clear h ht hF hFh hx
  go_enter Tryz.func35, Tryz.ntmps35
  go_wp2_with fail
  refine hf.mono ?_
  rintro e w' ⟨rfl, hw⟩
  obtain rfl := hw.symm
  clear hf hw
  go_wp2
  go_ret
  exact ⟨rfl, rfl⟩
theorem sys_Read_none (h : Sys w F c s) (hx : look s.hs k = none) (j : Int) :
    Calls Tryz.prog 36 #[ptrV c.tb, .int .i64 k, .int .i64 j] w fun e w' => e = .returned (.tuple #[.string ⟨#[]⟩, .int .i64 18]) ∧ w' = w := by
  obtain ⟨Ft, Fp, Fh, h, hF⟩ := h
  obtain ⟨lab, mb, mem, v, ht, hFh⟩ := h.tab
  have hf := tfind_none ht hx
  unfold ptrV at hf ⊢
  clear h ht hF hFh hx
  go_enter Tryz.func36, Tryz.ntmps36
  go_wp2_with fail
  refine hf.mono ?_
  rintro e w' ⟨rfl, hw⟩
  obtain rfl := hw.symm
  clear hf hw
  go_wp2
  go_ret2
  exact ⟨rfl, rfl⟩
theorem sys_Write_none (h : Sys w F c s) (hx : look s.hs k = none) (t : ByteArray) :
    Calls Tryz.prog 39 #[ptrV c.tb, .int .i64 k, .string t] w fun e w' => e = .returned (.int .i64 18) ∧ w' = w := by
  obtain ⟨Ft, Fp, Fh, h, hF⟩ := h
  obtain ⟨lab, mb, mem, v, ht, hFh⟩ := h.tab
  have hf := tfind_none ht hx
  unfold ptrV at hf ⊢
  clear h ht hF hFh hx
  go_enter Tryz.func39, Tryz.ntmps39
  go_wp2_with fail
  refine hf.mono ?_
  rintro e w' ⟨rfl, hw⟩
  obtain rfl := hw.symm
  clear hf hw
  go_wp2
  go_ret
  exact ⟨rfl, rfl⟩
theorem sys_Read_file_no (h : Sys w F c s) (hx : look s.hs k = some x) {n : Int} {a : Nat} {r wr m : Bool} (hk : x.kd = .file n a false wr m) (j : Int) :
    Calls Tryz.prog 36 #[ptrV c.tb, .int .i64 k, .int .i64 j] w fun e w' => e = .returned (.tuple #[.string ⟨#[]⟩, .int .i64 19]) ∧ w.grownBy w' none := by
  obtain ⟨Ft, Fp, Fh, h, hF⟩ := h
  obtain ⟨lab, mb, mem, v, ht, hFh⟩ := h.tab
  have hf := tfind_some ht hx
  have hd := ht.hd k x hx
  have c0 := hd.blk.cell (i := 0) rfl
  rw [show doesV s.pp x.kd (mem k).ob = .iface 158 (ptrV (mem k).ob) by rw [hk]; rfl] at c0
  have hlt := hd.blk.lt
  have ho := hd.ob
  rw [hk] at ho
  have hobl : (mem k).ob < w.heap.size := ho.1.lt
  have hr := file_read_no ho.1 j
  generalize (mem k).ob = ob at *
  generalize (mem k).blk = kb at hf c0 hlt
  unfold ptrV at hf c0 hr ⊢
  replace hr := Lib.hid hr
  clear h hd ht hF hFh hx hk ho
  go_enter Tryz.func36, Tryz.ntmps36
  go_wp2_with fail
  refine hf.mono ?_
  rintro e w' ⟨rfl, hw⟩
  obtain rfl := hw.symm
  clear hf hw
  go_wp2_with fail
  refine hr.out.mono ?_
  rintro e w' ⟨rfl, hw⟩
  obtain rfl := hw.symm
  clear hr hw
  go_wp2
  go_ret2
  exact ⟨rfl, grownBy_re w⟩
theorem sys_Read_file_neg (h : Sys w F c s) (hx : look s.hs k = some x) {n : Int} {a : Nat} {r wr m : Bool} (hk : x.kd = .file n a true wr m) (j : Int) (hj : j < 0) :
    Calls Tryz.prog 36 #[ptrV c.tb, .int .i64 k, .int .i64 j] w fun e w' => e = .returned (.tuple #[.string ⟨#[]⟩, .int .i64 1]) ∧ w.grownBy w' none := by
  obtain ⟨Ft, Fp, Fh, h, hF⟩ := h
  obtain ⟨lab, mb, mem, v, ht, hFh⟩ := h.tab
  have hf := tfind_some ht hx
  have hd := ht.hd k x hx
  have c0 := hd.blk.cell (i := 0) rfl
  rw [show doesV s.pp x.kd (mem k).ob = .iface 158 (ptrV (mem k).ob) by rw [hk]; rfl] at c0
  have hlt := hd.blk.lt
  have ho := hd.ob
  rw [hk] at ho
  have hobl : (mem k).ob < w.heap.size := ho.1.lt
  have hr := file_read_neg ho.1 j hj
  generalize (mem k).ob = ob at *
  generalize (mem k).blk = kb at hf c0 hlt
  unfold ptrV at hf c0 hr ⊢
  replace hr := Lib.hid hr
  clear h hd ht hF hFh hx hk ho
  go_enter Tryz.func36, Tryz.ntmps36
  go_wp2_with fail
  refine hf.mono ?_
  rintro e w' ⟨rfl, hw⟩
  obtain rfl := hw.symm
  clear hf hw
  go_wp2_with fail
  refine hr.out.mono ?_
  rintro e w' ⟨rfl, hw⟩
  obtain rfl := hw.symm
  clear hr hw
  go_wp2
  go_ret2
  exact ⟨rfl, grownBy_re w⟩
theorem sys_Write_file_no (h : Sys w F c s) (hx : look s.hs k = some x) {n : Int} {a : Nat} {r wr m : Bool} (hk : x.kd = .file n a r false m) (t : ByteArray) :
    Calls Tryz.prog 39 #[ptrV c.tb, .int .i64 k, .string t] w fun e w' => e = .returned (.int .i64 19) ∧ w.grownBy w' none := by
  obtain ⟨Ft, Fp, Fh, h, hF⟩ := h
  obtain ⟨lab, mb, mem, v, ht, hFh⟩ := h.tab
  have hf := tfind_some ht hx
  have hd := ht.hd k x hx
  have c0 := hd.blk.cell (i := 0) rfl
  rw [show doesV s.pp x.kd (mem k).ob = .iface 158 (ptrV (mem k).ob) by rw [hk]; rfl] at c0
  have hlt := hd.blk.lt
  have ho := hd.ob
  rw [hk] at ho
  have hobl : (mem k).ob < w.heap.size := ho.1.lt
  have hr := file_write_no ho.1 t
  generalize (mem k).ob = ob at *
  generalize (mem k).blk = kb at hf c0 hlt
  unfold ptrV at hf c0 hr ⊢
  replace hr := Lib.hid hr
  clear h hd ht hF hFh hx hk ho
  go_enter Tryz.func39, Tryz.ntmps39
  go_wp2_with fail
  refine hf.mono ?_
  rintro e w' ⟨rfl, hw⟩
  obtain rfl := hw.symm
  clear hf hw
  go_wp2_with fail
  refine hr.out.mono ?_
  rintro e w' ⟨rfl, hw⟩
  obtain rfl := hw.symm
  clear hr hw
  go_wp2
  go_ret
  exact ⟨rfl, grownBy_re w⟩
theorem sys_Read_text_neg (h : Sys w F c s) (hx : look s.hs k = some x) {T : ByteArray} {a : Nat} (hk : x.kd = .text (tl T) a) (j : Int) (hj : j < 0) :
    Calls Tryz.prog 36 #[ptrV c.tb, .int .i64 k, .int .i64 j] w fun e w' => e = .returned (.tuple #[.string ⟨#[]⟩, .int .i64 1]) ∧ w.grownBy w' none := by
  obtain ⟨Ft, Fp, Fh, h, hF⟩ := h
  obtain ⟨lab, mb, mem, v, ht, hFh⟩ := h.tab
  have hf := tfind_some ht hx
  have hd := ht.hd k x hx
  have c0 := hd.blk.cell (i := 0) rfl
  rw [show doesV s.pp x.kd (mem k).ob = .iface 195 (ptrV (mem k).ob) by rw [hk]; rfl] at c0
  have hlt := hd.blk.lt
  have ho := hd.ob
  rw [hk] at ho
  have hobl : (mem k).ob < w.heap.size := ho.1.lt
  have hr := text_read_neg ho.1 j hj
  generalize (mem k).ob = ob at *
  generalize (mem k).blk = kb at hf c0 hlt
  unfold ptrV at hf c0 hr ⊢
  replace hr := Lib.hid hr
  clear h hd ht hF hFh hx hk ho
  go_enter Tryz.func36, Tryz.ntmps36
  go_wp2_with fail
  refine hf.mono ?_
  rintro e w' ⟨rfl, hw⟩
  obtain rfl := hw.symm
  clear hf hw
  go_wp2_with fail
  refine hr.out.mono ?_
  rintro e w' ⟨rfl, hw⟩
  obtain rfl := hw.symm
  clear hr hw
  go_wp2
  go_ret2
  exact ⟨rfl, grownBy_re w⟩
theorem sys_Write_text (h : Sys w F c s) (hx : look s.hs k = some x) {T : ByteArray} {a : Nat} (hk : x.kd = .text (tl T) a) (t : ByteArray) :
    Calls Tryz.prog 39 #[ptrV c.tb, .int .i64 k, .string t] w fun e w' => e = .returned (.int .i64 19) ∧ w.grownBy w' none := by
  obtain ⟨Ft, Fp, Fh, h, hF⟩ := h
  obtain ⟨lab, mb, mem, v, ht, hFh⟩ := h.tab
  have hf := tfind_some ht hx
  have hd := ht.hd k x hx
  have c0 := hd.blk.cell (i := 0) rfl
  rw [show doesV s.pp x.kd (mem k).ob = .iface 195 (ptrV (mem k).ob) by rw [hk]; rfl] at c0
  have hlt := hd.blk.lt
  have ho := hd.ob
  rw [hk] at ho
  have hobl : (mem k).ob < w.heap.size := ho.1.lt
  have hm := m_text_write ho.1
  generalize (mem k).ob = ob at *
  generalize (mem k).blk = kb at hf c0 hlt
  unfold ptrV at hf c0 ⊢
  clear h hd ht hF hFh hx hk ho
  go_enter Tryz.func39, Tryz.ntmps39
  go_wp2_with fail
  refine hf.mono ?_
  rintro e w' ⟨rfl, hw⟩
  obtain rfl := hw.symm
  clear hf hw
  go_wp2
  go_ret
  exact ⟨rfl, World.grownBy_alloc w _ _⟩
theorem sys_Read_sink (h : Sys w F c s) (hx : look s.hs k = some x) {l : List UInt8} {m : Nat} (hk : x.kd = .sink l m) (j : Int) :
    Calls Tryz.prog 36 #[ptrV c.tb, .int .i64 k, .int .i64 j] w fun e w' => e = .returned (.tuple #[.string ⟨#[]⟩, .int .i64 19]) ∧ w.grownBy w' none := by
  obtain ⟨Ft, Fp, Fh, h, hF⟩ := h
  obtain ⟨lab, mb, mem, v, ht, hFh⟩ := h.tab
  have hf := tfind_some ht hx
  have hd := ht.hd k x hx
  have c0 := hd.blk.cell (i := 0) rfl
  rw [show doesV s.pp x.kd (mem k).ob = .iface 198 (ptrV (mem k).ob) by rw [hk]; rfl] at c0
  have hlt := hd.blk.lt
  have ho := hd.ob
  rw [hk] at ho
  have hobl : (mem k).ob < w.heap.size := ho.1.lt
  have hm := m_sink_read ho.1
  generalize (mem k).ob = ob at *
  generalize (mem k).blk = kb at hf c0 hlt
  unfold ptrV at hf c0 ⊢
  clear h hd ht hF hFh hx hk ho
  go_enter Tryz.func36, Tryz.ntmps36
  go_wp2_with fail
  refine hf.mono ?_
  rintro e w' ⟨rfl, hw⟩
  obtain rfl := hw.symm
  clear hf hw
  go_wp2
  go_ret2
  exact ⟨rfl, World.grownBy_alloc w _ _⟩
theorem sys_Read_wr (h : Sys w F c s) (hx : look s.hs k = some x) {p pb bb ends : Nat} (hk : x.kd = .wr p) (hp : s.pp[p]? = some (pb, bb, ends)) (j : Int) :
    Calls Tryz.prog 36 #[ptrV c.tb, .int .i64 k, .int .i64 j] w fun e w' => e = .returned (.tuple #[.string ⟨#[]⟩, .int .i64 19]) ∧ w.grownBy w' none := by
  obtain ⟨Ft, Fp, Fh, h, hF⟩ := h
  obtain ⟨lab, mb, mem, v, ht, hFh⟩ := h.tab
  have hf := tfind_some ht hx
  have hd := ht.hd k x hx
  have c0 := hd.blk.cell (i := 0) rfl
  rw [show doesV s.pp x.kd (mem k).ob = .iface 170 (.agg #[ptrV pb]) by show doesV s.pp x.kd (mem k).ob = .iface _ (.agg #[ptrV pb]); rw [hk]; show Value.iface _ (.agg #[ptrV (pipeB s.pp p)]) = _; unfold pipeB; rw [List.getD_eq_getElem?_getD, hp]; rfl] at c0
  have hlt := hd.blk.lt
  have hpp := (ht.pi p pb bb ends hp).1
  have pc0 := hpp.cell (i := 0) rfl
  have hpl := hpp.lt
  have hm := m_wr_read hpp
  generalize (mem k).blk = kb at hf c0 hlt
  unfold ptrV at hf c0 pc0 ⊢
  clear h hd ht hF hFh hx hk hpp hp
  go_enter Tryz.func36, Tryz.ntmps36
  go_wp2_with fail
  refine hf.mono ?_
  rintro e w' ⟨rfl, hw⟩
  obtain rfl := hw.symm
  clear hf hw
  go_wp2
  go_ret2
  exact ⟨rfl, World.grownBy_alloc w _ _⟩
theorem sys_Write_rd (h : Sys w F c s) (hx : look s.hs k = some x) {p pb bb ends : Nat} (hk : x.kd = .rd p) (hp : s.pp[p]? = some (pb, bb, ends)) (t : ByteArray) :
    Calls Tryz.prog 39 #[ptrV c.tb, .int .i64 k, .string t] w fun e w' => e = .returned (.int .i64 19) ∧ w.grownBy w' none := by
  obtain ⟨Ft, Fp, Fh, h, hF⟩ := h
  obtain ⟨lab, mb, mem, v, ht, hFh⟩ := h.tab
  have hf := tfind_some ht hx
  have hd := ht.hd k x hx
  have c0 := hd.blk.cell (i := 0) rfl
  rw [show doesV s.pp x.kd (mem k).ob = .iface 169 (.agg #[ptrV pb]) by show doesV s.pp x.kd (mem k).ob = .iface _ (.agg #[ptrV pb]); rw [hk]; show Value.iface _ (.agg #[ptrV (pipeB s.pp p)]) = _; unfold pipeB; rw [List.getD_eq_getElem?_getD, hp]; rfl] at c0
  have hlt := hd.blk.lt
  have hpp := (ht.pi p pb bb ends hp).1
  have pc0 := hpp.cell (i := 0) rfl
  have hpl := hpp.lt
  have hm := m_rd_write hpp
  generalize (mem k).blk = kb at hf c0 hlt
  unfold ptrV at hf c0 pc0 ⊢
  clear h hd ht hF hFh hx hk hpp hp
  go_enter Tryz.func39, Tryz.ntmps39
  go_wp2_with fail
  refine hf.mono ?_
  rintro e w' ⟨rfl, hw⟩
  obtain rfl := hw.symm
  clear hf hw
  go_wp2
  go_ret
  exact ⟨rfl, World.grownBy_alloc w _ _⟩
theorem sys_Read_rd_neg (h : Sys w F c s) (hx : look s.hs k = some x) {p pb bb ends : Nat} (hk : x.kd = .rd p) (hp : s.pp[p]? = some (pb, bb, ends)) {q : Nat} {b : Bs} (he : s.es[q]? = some (bb, some b)) (j : Int) (hj : j < 0) :
    Calls Tryz.prog 36 #[ptrV c.tb, .int .i64 k, .int .i64 j] w fun e w' => e = .returned (.tuple #[.string ⟨#[]⟩, .int .i64 1]) ∧ w.grownBy w' none := by
  obtain ⟨Ft, Fp, Fh, h, hF⟩ := h
  obtain ⟨lab, mb, mem, v, ht, hFh⟩ := h.tab
  have hf := tfind_some ht hx
  have hd := ht.hd k x hx
  have c0 := hd.blk.cell (i := 0) rfl
  rw [show doesV s.pp x.kd (mem k).ob = .iface 169 (.agg #[ptrV pb]) by show doesV s.pp x.kd (mem k).ob = .iface _ (.agg #[ptrV pb]); rw [hk]; show Value.iface _ (.agg #[ptrV (pipeB s.pp p)]) = _; unfold pipeB; rw [List.getD_eq_getElem?_getD, hp]; rfl] at c0
  have hlt := hd.blk.lt
  have hpp := (ht.pi p pb bb ends hp).1
  have pc0 := hpp.cell (i := 0) rfl
  have hpl := hpp.lt
  have hr := rd_read_neg hpp h.pool he j hj
  generalize (mem k).blk = kb at hf c0 hlt
  unfold ptrV at hf c0 hr pc0 ⊢
  replace hr := Lib.hid hr
  clear h hd ht hF hFh hx hk hpp hp
  go_enter Tryz.func36, Tryz.ntmps36
  go_wp2_with fail
  refine hf.mono ?_
  rintro e w' ⟨rfl, hw⟩
  obtain rfl := hw.symm
  clear hf hw
  go_wp2_with fail
  refine hr.out.mono ?_
  rintro e w2 ⟨rfl, hg2⟩
  replace hg2 := Lib.hid hg2
  go_wp2
  go_ret2
  exact ⟨rfl, hg2.out⟩
end
section
variable {w : World} {F : Nat → Prop} {c : Sy} {s : St}
theorem file_bad (h : Sys w F c s) (n : Int) (a b m : Bool) (kd sz nd ho e0 er : Int) (hst : ∀ W, w.grownBy W none → Calls Tryz.prog 27 #[ptrV c.fb, .int .i64 n] W fun e w' => e = .returned (.tuple #[.agg #[.int .i64 kd, .int .i64 sz, .int .i64 nd, .int .i64 ho], .int .i64 e0]) ∧ W.grownBy w' none)
    (hc : e0 ≠ 0 ∧ er = e0 ∨ e0 = 0 ∧ kd = 1 ∧ er = 13 ∨ e0 = 0 ∧ kd ≠ 1 ∧ kd ≠ 2 ∧ er = 1 ∨ e0 = 0 ∧ kd = 2 ∧ a = false ∧ b = false ∧ er = 1) :
    Calls Tryz.prog 34 #[ptrV c.tb, .int .i64 n, .agg #[.bool a, .bool b, .bool m]] w fun e w' => e = .returned (.tuple #[.int .i64 0, .int .i64 er]) ∧ w.grownBy w' none := by
  obtain ⟨Ft, Fp, Fh, h, hF⟩ := h
  have g1 : w.grownBy (w.alloc (.cells #[.bool a, .bool b, .bool m] 38)) none := World.grownBy_alloc w _ _
  have b1 : Blk (w.alloc (.cells #[.bool a, .bool b, .bool m] 38)) w.heap.size [.bool a, .bool b, .bool m] 38 := Blk.new w _ _
  unfold ptrV at hst ⊢
  go_enter Tryz.func34, Tryz.ntmps34
  go_upto_region 1 with fail
  obtain ⟨z, hz⟩ : ∃ z, w.heap.size = z := ⟨_, rfl⟩
  generalize w.alloc (.cells #[.bool a, .bool b, .bool m] 38) = w1 at g1 b1 ⊢
  simp only [hz] at b1 ⊢
  replace hz := Lib.hid hz
  have h1 := h.grown g1
  obtain ⟨lab, mb, mem, v, ht1, hFh1⟩ := h1.tab
  have hi := isNil_no ht1
  have hst1 := hst w1 g1
  have t0 := ht1.num.at_.blk.cell (i := 0) rfl
  have tl1 := ht1.num.at_.blk.lt
  unfold ptrV at hi t0
  replace hst1 := Lib.hid hst1
  replace hc := Lib.hid hc
  clear h ht1 h1 hFh1 hF hst
  go_wp2_with fail
  refine hi.mono ?_
  rintro e w' ⟨rfl, hw⟩
  obtain rfl := hw.symm
  clear hi hw
  go_wp2_with fail
  refine hst1.out.mono ?_
  rintro e w2 ⟨rfl, g2⟩
  have g3 := grownBy_tr g1 g2
  have b2 : Blk w2 z [.bool a, .bool b, .bool m] 38 := (g2.block z b1.lt (by simp)).trans b1
  clear hst1 g2 t0 b1 g1
  go_upto_region 4 with fail
  have g4 := grownBy_tr (w'' := (w2.alloc (.cells #[.int .i64 kd, .int .i64 sz, .int .i64 nd, .int .i64 ho] 68))) g3 (World.grownBy_alloc w2 _ _)
  have i3 : Blk (w2.alloc (.cells #[.int .i64 kd, .int .i64 sz, .int .i64 nd, .int .i64 ho] 68)) w2.heap.size [.int .i64 kd, .int .i64 sz, .int .i64 nd, .int .i64 ho] 68 := Blk.new w2 _ _
  have b3 : Blk (w2.alloc (.cells #[.int .i64 kd, .int .i64 sz, .int .i64 nd, .int .i64 ho] 68)) z [.bool a, .bool b, .bool m] 38 := (Below.heap_alloc w2 _ z b2.lt).trans b2
  generalize w2.alloc (.cells #[.int .i64 kd, .int .i64 sz, .int .i64 nd, .int .i64 ho] 68) = w3 at g4 i3 b3 ⊢
  generalize w2.heap.size = zi at i3 ⊢
  have i30 := i3.cell (i := 0) rfl
  have m0 := Blk.cell (w := w3) (b := z) (i := 0) b3 rfl
  have m1 := Blk.cell (w := w3) (b := z) (i := 1) b3 rfl
  have il := i3.lt
  have ml := Blk.lt (w := w3) (b := z) b3
  replace g4 := Lib.hid g4
  clear g3 b2 i3 b3
  rcases hc.out with ⟨h1, rfl⟩ | ⟨rfl, rfl, rfl⟩ | ⟨rfl, h1, h2, rfl⟩ | ⟨rfl, rfl, rfl, rfl, rfl⟩
  · have e1 : (er != 0) = true := by simpa using h1
    clear hc h1
    go_wp2
    go_ret2
    exact ⟨rfl, g4.out⟩
  · clear hc
    go_wp2
    go_ret2
    exact ⟨rfl, g4.out⟩
  · have e1 : (kd == 1) = false := by simpa using h1
    have e2 : (kd != 2) = true := by simpa using h2
    clear hc h1 h2
    go_wp2
    go_ret2
    exact ⟨rfl, g4.out⟩
  · clear hc
    go_wp2
    go_ret2
    exact ⟨rfl, g4.out⟩
theorem sys_File_none (h : Sys w F c s) {n : Int} (hy : look s.nds n = none) (a b m : Bool) :
    Calls Tryz.prog 34 #[ptrV c.tb, .int .i64 n, .agg #[.bool a, .bool b, .bool m]] w fun e w' => e = .returned (.tuple #[.int .i64 0, .int .i64 10]) ∧ w.grownBy w' none :=
  file_bad h n a b m 0 0 0 0 10 10 (fun W hW => by
    obtain ⟨Ft, Fp, Fh, h, hF⟩ := h
    obtain ⟨labt, mbt, memt, hT, hFt⟩ := h.tree
    exact stat_none (hT.grown hW) hy) (.inl ⟨by decide, rfl⟩)
theorem sys_File_kind (h : Sys w F c s) {n : Int} {y : Pn} (hy : look s.nds n = some y) (hyl : nmsLen y ≤ 1000000) (a b m : Bool) (er : Int) (hc : y.kind = 1 ∧ er = 13 ∨ y.kind ≠ 1 ∧ y.kind ≠ 2 ∧ er = 1 ∨ y.kind = 2 ∧ a = false ∧ b = false ∧ er = 1) :
    Calls Tryz.prog 34 #[ptrV c.tb, .int .i64 n, .agg #[.bool a, .bool b, .bool m]] w fun e w' => e = .returned (.tuple #[.int .i64 0, .int .i64 er]) ∧ w.grownBy w' none :=
  file_bad h n a b m (y.kind : Int) ((y.data.length + nmsLen y : Nat) : Int) (y.named : Int) (y.holds : Int) 0 er (fun W hW => by
    obtain ⟨Ft, Fp, Fh, h, hF⟩ := h
    obtain ⟨labt, mbt, memt, hT, hFt⟩ := h.tree
    exact stat_some (hT.grown hW) hy hyl) (by
    rcases hc with ⟨h1, rfl⟩ | ⟨h1, h2, rfl⟩ | ⟨h1, rfl, rfl, rfl⟩
    · exact .inr (.inl ⟨rfl, by omega, rfl⟩)
    · exact .inr (.inr (.inl ⟨rfl, by omega, by omega, rfl⟩))
    · exact .inr (.inr (.inr ⟨rfl, by omega, rfl, rfl, rfl⟩)))
end
section
variable {w : World} {F : Nat → Prop} {fb most room : Nat} {nds : Nds} {ob a : Nat} {n : Int} {r wr m : Bool}
theorem file_endG (hb : Blk w ob (fileC fb n a r wr m) 162) (h : TreeF w F fb most room nds) {x : Pn} (hx : look nds n = some x) (hh : 0 < x.holds) (hm : x.holds ≤ 1000000) :
    Calls Tryz.prog 262 #[ptrV ob] w fun e w' => e = .returned (.tuple #[]) ∧ ∃ F', TreeF w' F' fb most room (droppedN nds n x) ∧ Chg F F' w w' := by
  have hd := fun k => drop_any (h.keep (w' := w.drewN k) (Nat.le_refl _) fun _ _ => rfl) hx hh hm
  have c0 := hb.cell (i := 0) rfl
  have c1 := hb.cell (i := 1) rfl
  have hlt := hb.lt
  unfold ptrV at c0 ⊢
  replace hd := Lib.hid hd
  clear h hx hh hm hb
  go_enter Tryz.func262, Tryz.ntmps262
  go_still_tail 8, (by kernel_rfl)
  change wpList _ _ _ _ _ (w.drewN 1)
  go_wp2_with fail
  refine (hd.out 1).mono ?_
  rintro e w' ⟨rfl, F', hT, hC⟩
  have hC' : Chg F F' w w' := (Chg.drewN F w 1).trans hC
  replace hT := Lib.hid hT
  replace hC' := Lib.hid hC'
  clear hd hC c0 c1
  go_wp2
  go_end0
  exact ⟨rfl, F', hT.out, hC'.out⟩
end
section
variable {w : World} {F : Nat → Prop} {c : Sy} {s : St} {k : Int} {x : Hd}
theorem sys_last_fileG (h : Sys w F c s) (hx : look s.hs k = some x) (hr : x.refs = 1) {n : Int} {a : Nat} {r wr m : Bool} (hk : x.kd = .file n a r wr m) {y : Pn} (hy : look s.nds n = some y) (hh : 0 < y.holds) (hm2 : y.holds ≤ 1000000) :
    Calls Tryz.prog 37 #[ptrV c.tb, .int .i64 k] w fun e w' => e = .returned (.int .i64 0) ∧ ∃ F' top' xs', top' ≤ s.top ∧ Sys w' F' c { s with nds := droppedN s.nds n y, hs := dropH s.hs k, top := top', xs := xs' } ∧ Chg F F' w w' := by
  obtain ⟨Ft, Fp, Fh, h, hF⟩ := h
  obtain ⟨lab, mb, mem, v, ht, hFh⟩ := h.tab
  have hf := tfind_some ht hx
  have hd := ht.hd k x hx
  have c1 := hd.blk.cell (i := 1) rfl
  rw [hr] at c1
  have f1 := hd.blk.frozen 1
  have hlt := hd.blk.lt
  have hlk := hd.lb
  have ho := hd.ob
  rw [hk] at ho
  have hdv : doesV s.pp x.kd (mem k).ob = .iface 158 (ptrV (mem k).ob) := by rw [hk]; rfl
  have hdb := hd.blk.set 1 (.int .i64 0)
  rw [hdv] at hdb
  have t2 := ht.num.at_.blk.cell (i := 2) rfl
  have tl := ht.num.at_.blk.lt
  have htk : c.tb ≠ (mem k).blk := fun e => by rw [← e, ht.ltb] at hlk; cases hlk
  have hmk : mb ≠ (mem k).blk := fun e => by rw [← e, ht.lmap] at hlk; cases hlk
  have hmt : mb ≠ c.tb := fun e => by have := ht.lmap; rw [e, ht.ltb] at this; cases this
  have hvk : ∀ g, v.ownBlock = some g → g ≠ (mem k).blk ∧ g ≠ mb := fun g hg => ⟨fun e => (by have := ht.lbk g hg; rw [e, hlk] at this; cases this), fun e => (by have := ht.lbk g hg; rw [e, ht.lmap] at this; cases this)⟩
  have hkm1 : KMap (w.setCell ⟨(mem k).blk, 1, none⟩ (.int .i64 0)) mb (.int .i64) encI (entH mem s.hs) := ht.map.keep (heap_setCell_other w _ mb _ hmk)
  have hn1 : NumR (w.setCell ⟨(mem k).blk, 1, none⟩ (.int .i64 0)) c.tb (ptrV c.fb) (ptrV c.plb) (.map (some mb)) (ids s.hs) s.top v s.xs := ht.num.keep (heap_setCell_other w _ c.tb _ htk) fun g hg => heap_setCell_other w _ g _ (hvk g hg).1
  have cc1 : Chg (fun g => g = (mem k).blk ∨ g = mb ∨ g = c.tb ∨ v.ownBlock = some g) (fun g => g = (mem k).blk ∨ g = mb ∨ g = c.tb ∨ v.ownBlock = some g) w (w.setCell ⟨(mem k).blk, 1, none⟩ (.int .i64 0)) := Chg.set (.inl rfl) 1 _
  have hnd := ht.nodup
  have hid : k ∈ ids s.hs := List.mem_map.2 ⟨(k, x), look_mem hx, rfl⟩
  have hlv := fun w3 top' v' ys => ht.leave (S := fun g => g = (mem k).blk ∨ g = mb ∨ g = c.tb ∨ v.ownBlock = some g) (S' := fun g => g = (mem k).blk ∨ g = mb ∨ g = c.tb ∨ v.ownBlock = some g ∨ v'.ownBlock = some g) (w2 := w3) (k := k) (top' := top') (v' := v') (ys := ys) hFh
  have hlab : ∀ g, g < w.heap.size → (g = (mem k).blk ∨ g = mb ∨ g = c.tb ∨ v.ownBlock = some g) → lab g = .tab ∨ lab g = .tmap ∨ lab g = .back ∨ OfH k (lab g) := fun g _ hg => by
    rcases hg with hg | hg | hg | hg
    · exact .inr (.inr (.inr (by rw [hg, hlk]; exact rfl)))
    · exact .inr (.inl (by rw [hg]; exact ht.lmap))
    · exact .inl (by rw [hg]; exact ht.ltb)
    · exact .inr (.inr (.inl (ht.lbk g hg)))
  have hbk := ht.lbk
  have hltb := ht.ltb
  have hlmb := ht.lmap
  replace ho : Blk w (mem k).ob (fileC c.fb n a r wr m) 162 ∧ lab (mem k).ob = .obj k := ho
  have hob : lab (mem k).ob = .obj k := ho.2
  have hob1 : (mem k).ob ≠ (mem k).blk ∧ (mem k).ob ≠ mb ∧ (mem k).ob ≠ c.tb ∧ v.ownBlock ≠ some (mem k).ob := ⟨fun e => (by rw [e, hlk] at hob; cases hob), fun e => (by rw [e, hlmb] at hob; cases hob), fun e => (by rw [e, hltb] at hob; cases hob), fun e => (by rw [hbk _ e] at hob; cases hob)⟩
  generalize (mem k).ob = ob at *
  generalize (mem k).blk = kb at *
  unfold ptrV at hf
  unfold ptrV
  replace hlv := Lib.hid hlv
  replace hlab := Lib.hid hlab
  replace hn1 := Lib.hid hn1
  replace cc1 := Lib.hid cc1
  replace hvk := Lib.hid hvk
  replace hdb := Lib.hid hdb
  replace ho := Lib.hid ho
  replace hbk := Lib.hid hbk
  clear ht hd hdv
  go_enter Tryz.func37, Tryz.ntmps37
  go_wp2_with fail
  refine hf.mono ?_
  rintro e w' ⟨rfl, hw⟩
  obtain rfl := hw.symm
  clear hf hw
  go_wp2_with (at_delete; go_loud (refine wpList_del_k rfl _ _ 134 3 rfl 135 keyI Tryz.underlying134 Tryz.underlying3 rfl hkm1 k rfl ?_); intro ob2 hkm2; refine Hid.out ?_)
  refine Lib.hid ?_
  have hsz1 : (w.setCell ⟨kb, 1, none⟩ (.int .i64 0)).heap.size = w.heap.size := by simp [World.setCell]
  have hn2 : NumR (setBlock (w.setCell ⟨kb, 1, none⟩ (.int .i64 0)) mb ob2) c.tb _ _ _ _ _ _ _ := hn1.out.keep (setB_other (Ne.symm hmt) ob2) fun g hg => setB_other (hvk.out g hg).2 ob2
  have cc2 := cc1.out.trans (Chg.setB (.inr (.inl rfl)) ob2)
  have hdb2 : Blk (setBlock (w.setCell ⟨kb, 1, none⟩ (.int .i64 0)) mb ob2) kb _ _ := hdb.out.setB (fun e => hmk e.symm) ob2
  have hsz2 : (setBlock (w.setCell ⟨kb, 1, none⟩ (.int .i64 0)) mb ob2).heap.size = w.heap.size := by simp [setBlock, World.setCell]
  generalize setBlock (w.setCell ⟨kb, 1, none⟩ (.int .i64 0)) mb ob2 = w2 at hn2 cc2 hdb2 hkm2 hsz2 ⊢
  have hle := nums_leaveT hn2 hnd hid
  replace hn2 := Lib.hid hn2
  replace cc2 := Lib.hid cc2
  replace hdb2 := Lib.hid hdb2
  replace hkm2 := Lib.hid hkm2
  clear hkm1 hn1 cc1 hdb t2 c1 f1
  have htl2 : c.tb < w2.heap.size := by omega
  go_wp2_with fail
  refine hle.mono ?_
  rintro e w3 ⟨rfl, top', v', ys, htp, hn3, cc3, how⟩
  replace htp := Lib.hid htp
  have cc4 : Chg (fun g => g = kb ∨ g = mb ∨ g = c.tb ∨ v.ownBlock = some g) (fun g => g = kb ∨ g = mb ∨ g = c.tb ∨ v.ownBlock = some g ∨ v'.ownBlock = some g) w w3 := cc2.out.trans (cc3.mono (fun b hb => hb.elim (fun hb => .inr (.inr (.inl hb))) fun hb => .inr (.inr (.inr hb))) fun b _ hb => by
    rcases hb with hb | hb | hb | hb | hb
    · exact .inr (.inl hb)
    · exact .inr (.inr (.inl hb))
    · exact .inl (.inl hb)
    · exact .inl (.inr (.inl hb))
    · exact .inl (.inr (.inr hb)))
  have hkm3 := hkm2.out.keep (cc3.block mb hkm2.out.lt fun hb => hb.elim hmt fun hb => (hvk.out mb hb).2 rfl)
  have hdb3 : Blk w3 kb _ _ := hdb2.out.chg cc3 fun hb => hb.elim (fun e => htk e.symm) fun hb => (hvk.out kb hb).1 rfl
  obtain ⟨Fh3, hT3, hC3⟩ := hlv.out w3 top' v' ys cc4 hlab.out hn3 (fun g hg => by
    rcases how with e | e | ⟨g', e, hge⟩
    · rw [e] at hg; cases hg
    · exact .inl (hbk.out g (by rw [← e]; exact hg))
    · rw [e] at hg
      cases hg
      exact .inr ⟨by omega, hn3.at_.row.lt e⟩) hkm3
  obtain ⟨h3, hc3⟩ := h.tabStep0 hT3 hC3
  have d0 := hdb3.cell (i := 0) rfl
  have dl := hdb3.lt
  have hob3 : Blk w3 ob (fileC c.fb n a r wr m) _ := ho.out.1.chg cc4 fun hb => by
    rcases hb with hb | hb | hb | hb
    · exact hob1.1 hb
    · exact hob1.2.1 hb
    · exact hob1.2.2.1 hb
    · exact hob1.2.2.2 hb
  have hend := file_endG hob3 h3.tree hy hh hm2
  have hfin := fun w4 Ft' (hT4 : TreeF w4 Ft' c.fb c.most c.room (droppedN s.nds n y)) (hC4 : Chg Ft Ft' w3 w4) => Sys.of hF (h3.treeStep hT4 hC4).1 (hc3.trans (h3.treeStep hT4 hC4).2)
  unfold ptrV at d0 hend
  replace hend := Lib.hid hend
  replace hfin := Lib.hid hfin
  clear hle hn3 cc3 cc4 hkm3 hdb3 hT3 hC3 h3 hc3 hn2 cc2 hdb2 hkm2
  go_wp2_with fail
  refine hend.out.mono ?_
  rintro e w4 ⟨rfl, Ft', hT4, hC4⟩
  obtain ⟨F', hR1, hR2⟩ := hfin.out w4 Ft' hT4 hC4
  replace hR1 := Lib.hid hR1
  replace hR2 := Lib.hid hR2
  clear hend hfin hT4 hC4
  go_wp2
  go_ret
  exact ⟨rfl, F', top', ys, htp.out, hR1.out, hR2.out⟩
theorem sys_last_text (h : Sys w F c s) (hx : look s.hs k = some x) (hr : x.refs = 1) {T : List UInt8} {a : Nat} (hk : x.kd = .text T a) :
    Calls Tryz.prog 37 #[ptrV c.tb, .int .i64 k] w fun e w' => e = .returned (.int .i64 0) ∧ ∃ F' top' xs', top' ≤ s.top ∧ Sys w' F' c { s with hs := dropH s.hs k, top := top', xs := xs' } ∧ Chg F F' w w' := by
  obtain ⟨Ft, Fp, Fh, h, hF⟩ := h
  obtain ⟨lab, mb, mem, v, ht, hFh⟩ := h.tab
  have hf := tfind_some ht hx
  have hd := ht.hd k x hx
  have c1 := hd.blk.cell (i := 1) rfl
  rw [hr] at c1
  have f1 := hd.blk.frozen 1
  have hlt := hd.blk.lt
  have hlk := hd.lb
  have ho := hd.ob
  rw [hk] at ho
  have hdv : doesV s.pp x.kd (mem k).ob = .iface 195 (ptrV (mem k).ob) := by rw [hk]; rfl
  have hdb := hd.blk.set 1 (.int .i64 0)
  rw [hdv] at hdb
  have t2 := ht.num.at_.blk.cell (i := 2) rfl
  have tl := ht.num.at_.blk.lt
  have htk : c.tb ≠ (mem k).blk := fun e => by rw [← e, ht.ltb] at hlk; cases hlk
  have hmk : mb ≠ (mem k).blk := fun e => by rw [← e, ht.lmap] at hlk; cases hlk
  have hmt : mb ≠ c.tb := fun e => by have := ht.lmap; rw [e, ht.ltb] at this; cases this
  have hvk : ∀ g, v.ownBlock = some g → g ≠ (mem k).blk ∧ g ≠ mb := fun g hg => ⟨fun e => (by have := ht.lbk g hg; rw [e, hlk] at this; cases this), fun e => (by have := ht.lbk g hg; rw [e, ht.lmap] at this; cases this)⟩
  have hkm1 : KMap (w.setCell ⟨(mem k).blk, 1, none⟩ (.int .i64 0)) mb (.int .i64) encI (entH mem s.hs) := ht.map.keep (heap_setCell_other w _ mb _ hmk)
  have hn1 : NumR (w.setCell ⟨(mem k).blk, 1, none⟩ (.int .i64 0)) c.tb (ptrV c.fb) (ptrV c.plb) (.map (some mb)) (ids s.hs) s.top v s.xs := ht.num.keep (heap_setCell_other w _ c.tb _ htk) fun g hg => heap_setCell_other w _ g _ (hvk g hg).1
  have cc1 : Chg (fun g => g = (mem k).blk ∨ g = mb ∨ g = c.tb ∨ v.ownBlock = some g) (fun g => g = (mem k).blk ∨ g = mb ∨ g = c.tb ∨ v.ownBlock = some g) w (w.setCell ⟨(mem k).blk, 1, none⟩ (.int .i64 0)) := Chg.set (.inl rfl) 1 _
  have hnd := ht.nodup
  have hid : k ∈ ids s.hs := List.mem_map.2 ⟨(k, x), look_mem hx, rfl⟩
  have hlv := fun w3 top' v' ys => ht.leave (S := fun g => g = (mem k).blk ∨ g = mb ∨ g = c.tb ∨ v.ownBlock = some g) (S' := fun g => g = (mem k).blk ∨ g = mb ∨ g = c.tb ∨ v.ownBlock = some g ∨ v'.ownBlock = some g) (w2 := w3) (k := k) (top' := top') (v' := v') (ys := ys) hFh
  have hlab : ∀ g, g < w.heap.size → (g = (mem k).blk ∨ g = mb ∨ g = c.tb ∨ v.ownBlock = some g) → lab g = .tab ∨ lab g = .tmap ∨ lab g = .back ∨ OfH k (lab g) := fun g _ hg => by
    rcases hg with hg | hg | hg | hg
    · exact .inr (.inr (.inr (by rw [hg, hlk]; exact rfl)))
    · exact .inr (.inl (by rw [hg]; exact ht.lmap))
    · exact .inl (by rw [hg]; exact ht.ltb)
    · exact .inr (.inr (.inl (ht.lbk g hg)))
  have hbk := ht.lbk
  have hltb := ht.ltb
  have hlmb := ht.lmap
  have hob : lab (mem k).ob = .obj k := ho.2.1
  have hob1 : (mem k).ob ≠ (mem k).blk ∧ (mem k).ob ≠ mb ∧ (mem k).ob ≠ c.tb ∧ v.ownBlock ≠ some (mem k).ob := ⟨fun e => (by rw [e, hlk] at hob; cases hob), fun e => (by rw [e, hlmb] at hob; cases hob), fun e => (by rw [e, hltb] at hob; cases hob), fun e => (by rw [hbk _ e] at hob; cases hob)⟩
  replace ho := ho.1
  generalize (mem k).ob = ob at *
  generalize (mem k).blk = kb at *
  unfold ptrV at hf
  unfold ptrV
  replace hlv := Lib.hid hlv
  replace hlab := Lib.hid hlab
  replace hn1 := Lib.hid hn1
  replace cc1 := Lib.hid cc1
  replace hvk := Lib.hid hvk
  replace hdb := Lib.hid hdb
  replace ho := Lib.hid ho
  replace hbk := Lib.hid hbk
  clear ht hd hdv
  go_enter Tryz.func37, Tryz.ntmps37
  go_wp2_with fail
  refine hf.mono ?_
  rintro e w' ⟨rfl, hw⟩
  obtain rfl := hw.symm
  clear hf hw
  go_wp2_with (at_delete; go_loud (refine wpList_del_k rfl _ _ 134 3 rfl 135 keyI Tryz.underlying134 Tryz.underlying3 rfl hkm1 k rfl ?_); intro ob2 hkm2; refine Hid.out ?_)
  refine Lib.hid ?_
  have hsz1 : (w.setCell ⟨kb, 1, none⟩ (.int .i64 0)).heap.size = w.heap.size := by simp [World.setCell]
  have hn2 : NumR (setBlock (w.setCell ⟨kb, 1, none⟩ (.int .i64 0)) mb ob2) c.tb _ _ _ _ _ _ _ := hn1.out.keep (setB_other (Ne.symm hmt) ob2) fun g hg => setB_other (hvk.out g hg).2 ob2
  have cc2 := cc1.out.trans (Chg.setB (.inr (.inl rfl)) ob2)
  have hdb2 : Blk (setBlock (w.setCell ⟨kb, 1, none⟩ (.int .i64 0)) mb ob2) kb _ _ := hdb.out.setB (fun e => hmk e.symm) ob2
  have hsz2 : (setBlock (w.setCell ⟨kb, 1, none⟩ (.int .i64 0)) mb ob2).heap.size = w.heap.size := by simp [setBlock, World.setCell]
  generalize setBlock (w.setCell ⟨kb, 1, none⟩ (.int .i64 0)) mb ob2 = w2 at hn2 cc2 hdb2 hkm2 hsz2 ⊢
  have hle := nums_leaveT hn2 hnd hid
  replace hn2 := Lib.hid hn2
  replace cc2 := Lib.hid cc2
  replace hdb2 := Lib.hid hdb2
  replace hkm2 := Lib.hid hkm2
  clear hkm1 hn1 cc1 hdb t2 c1 f1
  have htl2 : c.tb < w2.heap.size := by omega
  go_wp2_with fail
  refine hle.mono ?_
  rintro e w3 ⟨rfl, top', v', ys, htp, hn3, cc3, how⟩
  replace htp := Lib.hid htp
  have cc4 : Chg (fun g => g = kb ∨ g = mb ∨ g = c.tb ∨ v.ownBlock = some g) (fun g => g = kb ∨ g = mb ∨ g = c.tb ∨ v.ownBlock = some g ∨ v'.ownBlock = some g) w w3 := cc2.out.trans (cc3.mono (fun b hb => hb.elim (fun hb => .inr (.inr (.inl hb))) fun hb => .inr (.inr (.inr hb))) fun b _ hb => by
    rcases hb with hb | hb | hb | hb | hb
    · exact .inr (.inl hb)
    · exact .inr (.inr (.inl hb))
    · exact .inl (.inl hb)
    · exact .inl (.inr (.inl hb))
    · exact .inl (.inr (.inr hb)))
  have hkm3 := hkm2.out.keep (cc3.block mb hkm2.out.lt fun hb => hb.elim hmt fun hb => (hvk.out mb hb).2 rfl)
  have hdb3 : Blk w3 kb _ _ := hdb2.out.chg cc3 fun hb => hb.elim (fun e => htk e.symm) fun hb => (hvk.out kb hb).1 rfl
  obtain ⟨Fh3, hT3, hC3⟩ := hlv.out w3 top' v' ys cc4 hlab.out hn3 (fun g hg => by
    rcases how with e | e | ⟨g', e, hge⟩
    · rw [e] at hg; cases hg
    · exact .inl (hbk.out g (by rw [← e]; exact hg))
    · rw [e] at hg
      cases hg
      exact .inr ⟨by omega, hn3.at_.row.lt e⟩) hkm3
  obtain ⟨h3, hc3⟩ := h.tabStep0 hT3 hC3
  have d0 := hdb3.cell (i := 0) rfl
  have dl := hdb3.lt
  have hob3 := ho.out.chg cc4 fun hb => by
    rcases hb with hb | hb | hb | hb
    · exact hob1.1 hb
    · exact hob1.2.1 hb
    · exact hob1.2.2.1 hb
    · exact hob1.2.2.2 hb
  have hol := hob3.lt
  have hm := m_text_end hob3
  have hfin := Sys.of hF h3 hc3
  unfold ptrV at d0
  replace hfin := Lib.hid hfin
  clear hle hn3 cc3 cc4 hkm3 hdb3 hT3 hC3 h3 hc3 hn2 cc2 hdb2 hkm2 hob3
  go_wp2
  go_ret
  obtain ⟨F', hR1, hR2⟩ := hfin.out
  exact ⟨rfl, F', top', ys, htp.out, hR1.grown (World.grownBy_alloc w3 _ _), hR2.trans (Chg.alloc_other F' w3 _)⟩
theorem sys_last_sink (h : Sys w F c s) (hx : look s.hs k = some x) (hr : x.refs = 1) {l : List UInt8} {m : Nat} (hk : x.kd = .sink l m) :
    Calls Tryz.prog 37 #[ptrV c.tb, .int .i64 k] w fun e w' => e = .returned (.int .i64 0) ∧ ∃ F' top' xs', top' ≤ s.top ∧ Sys w' F' c { s with hs := dropH s.hs k, top := top', xs := xs' } ∧ Chg F F' w w' := by
  obtain ⟨Ft, Fp, Fh, h, hF⟩ := h
  obtain ⟨lab, mb, mem, v, ht, hFh⟩ := h.tab
  have hf := tfind_some ht hx
  have hd := ht.hd k x hx
  have c1 := hd.blk.cell (i := 1) rfl
  rw [hr] at c1
  have f1 := hd.blk.frozen 1
  have hlt := hd.blk.lt
  have hlk := hd.lb
  have ho := hd.ob
  rw [hk] at ho
  have hdv : doesV s.pp x.kd (mem k).ob = .iface 198 (ptrV (mem k).ob) := by rw [hk]; rfl
  have hdb := hd.blk.set 1 (.int .i64 0)
  rw [hdv] at hdb
  have t2 := ht.num.at_.blk.cell (i := 2) rfl
  have tl := ht.num.at_.blk.lt
  have htk : c.tb ≠ (mem k).blk := fun e => by rw [← e, ht.ltb] at hlk; cases hlk
  have hmk : mb ≠ (mem k).blk := fun e => by rw [← e, ht.lmap] at hlk; cases hlk
  have hmt : mb ≠ c.tb := fun e => by have := ht.lmap; rw [e, ht.ltb] at this; cases this
  have hvk : ∀ g, v.ownBlock = some g → g ≠ (mem k).blk ∧ g ≠ mb := fun g hg => ⟨fun e => (by have := ht.lbk g hg; rw [e, hlk] at this; cases this), fun e => (by have := ht.lbk g hg; rw [e, ht.lmap] at this; cases this)⟩
  have hkm1 : KMap (w.setCell ⟨(mem k).blk, 1, none⟩ (.int .i64 0)) mb (.int .i64) encI (entH mem s.hs) := ht.map.keep (heap_setCell_other w _ mb _ hmk)
  have hn1 : NumR (w.setCell ⟨(mem k).blk, 1, none⟩ (.int .i64 0)) c.tb (ptrV c.fb) (ptrV c.plb) (.map (some mb)) (ids s.hs) s.top v s.xs := ht.num.keep (heap_setCell_other w _ c.tb _ htk) fun g hg => heap_setCell_other w _ g _ (hvk g hg).1
  have cc1 : Chg (fun g => g = (mem k).blk ∨ g = mb ∨ g = c.tb ∨ v.ownBlock = some g) (fun g => g = (mem k).blk ∨ g = mb ∨ g = c.tb ∨ v.ownBlock = some g) w (w.setCell ⟨(mem k).blk, 1, none⟩ (.int .i64 0)) := Chg.set (.inl rfl) 1 _
  have hnd := ht.nodup
  have hid : k ∈ ids s.hs := List.mem_map.2 ⟨(k, x), look_mem hx, rfl⟩
  have hlv := fun w3 top' v' ys => ht.leave (S := fun g => g = (mem k).blk ∨ g = mb ∨ g = c.tb ∨ v.ownBlock = some g) (S' := fun g => g = (mem k).blk ∨ g = mb ∨ g = c.tb ∨ v.ownBlock = some g ∨ v'.ownBlock = some g) (w2 := w3) (k := k) (top' := top') (v' := v') (ys := ys) hFh
  have hlab : ∀ g, g < w.heap.size → (g = (mem k).blk ∨ g = mb ∨ g = c.tb ∨ v.ownBlock = some g) → lab g = .tab ∨ lab g = .tmap ∨ lab g = .back ∨ OfH k (lab g) := fun g _ hg => by
    rcases hg with hg | hg | hg | hg
    · exact .inr (.inr (.inr (by rw [hg, hlk]; exact rfl)))
    · exact .inr (.inl (by rw [hg]; exact ht.lmap))
    · exact .inl (by rw [hg]; exact ht.ltb)
    · exact .inr (.inr (.inl (ht.lbk g hg)))
  have hbk := ht.lbk
  have hltb := ht.ltb
  have hlmb := ht.lmap
  have hob : lab (mem k).ob = .obj k := ho.2.1
  have hob1 : (mem k).ob ≠ (mem k).blk ∧ (mem k).ob ≠ mb ∧ (mem k).ob ≠ c.tb ∧ v.ownBlock ≠ some (mem k).ob := ⟨fun e => (by rw [e, hlk] at hob; cases hob), fun e => (by rw [e, hlmb] at hob; cases hob), fun e => (by rw [e, hltb] at hob; cases hob), fun e => (by rw [hbk _ e] at hob; cases hob)⟩
  replace ho := ho.1
  generalize (mem k).cv = cv at *
  generalize (mem k).ob = ob at *
  generalize (mem k).blk = kb at *
  unfold ptrV at hf
  unfold ptrV
  replace hlv := Lib.hid hlv
  replace hlab := Lib.hid hlab
  replace hn1 := Lib.hid hn1
  replace cc1 := Lib.hid cc1
  replace hvk := Lib.hid hvk
  replace hdb := Lib.hid hdb
  replace ho := Lib.hid ho
  replace hbk := Lib.hid hbk
  clear ht hd hdv
  go_enter Tryz.func37, Tryz.ntmps37
  go_wp2_with fail
  refine hf.mono ?_
  rintro e w' ⟨rfl, hw⟩
  obtain rfl := hw.symm
  clear hf hw
  go_wp2_with (at_delete; go_loud (refine wpList_del_k rfl _ _ 134 3 rfl 135 keyI Tryz.underlying134 Tryz.underlying3 rfl hkm1 k rfl ?_); intro ob2 hkm2; refine Hid.out ?_)
  refine Lib.hid ?_
  have hsz1 : (w.setCell ⟨kb, 1, none⟩ (.int .i64 0)).heap.size = w.heap.size := by simp [World.setCell]
  have hn2 : NumR (setBlock (w.setCell ⟨kb, 1, none⟩ (.int .i64 0)) mb ob2) c.tb _ _ _ _ _ _ _ := hn1.out.keep (setB_other (Ne.symm hmt) ob2) fun g hg => setB_other (hvk.out g hg).2 ob2
  have cc2 := cc1.out.trans (Chg.setB (.inr (.inl rfl)) ob2)
  have hdb2 : Blk (setBlock (w.setCell ⟨kb, 1, none⟩ (.int .i64 0)) mb ob2) kb _ _ := hdb.out.setB (fun e => hmk e.symm) ob2
  have hsz2 : (setBlock (w.setCell ⟨kb, 1, none⟩ (.int .i64 0)) mb ob2).heap.size = w.heap.size := by simp [setBlock, World.setCell]
  generalize setBlock (w.setCell ⟨kb, 1, none⟩ (.int .i64 0)) mb ob2 = w2 at hn2 cc2 hdb2 hkm2 hsz2 ⊢
  have hle := nums_leaveT hn2 hnd hid
  replace hn2 := Lib.hid hn2
  replace cc2 := Lib.hid cc2
  replace hdb2 := Lib.hid hdb2
  replace hkm2 := Lib.hid hkm2
  clear hkm1 hn1 cc1 hdb t2 c1 f1
  have htl2 : c.tb < w2.heap.size := by omega
  go_wp2_with fail
  refine hle.mono ?_
  rintro e w3 ⟨rfl, top', v', ys, htp, hn3, cc3, how⟩
  replace htp := Lib.hid htp
  have cc4 : Chg (fun g => g = kb ∨ g = mb ∨ g = c.tb ∨ v.ownBlock = some g) (fun g => g = kb ∨ g = mb ∨ g = c.tb ∨ v.ownBlock = some g ∨ v'.ownBlock = some g) w w3 := cc2.out.trans (cc3.mono (fun b hb => hb.elim (fun hb => .inr (.inr (.inl hb))) fun hb => .inr (.inr (.inr hb))) fun b _ hb => by
    rcases hb with hb | hb | hb | hb | hb
    · exact .inr (.inl hb)
    · exact .inr (.inr (.inl hb))
    · exact .inl (.inl hb)
    · exact .inl (.inr (.inl hb))
    · exact .inl (.inr (.inr hb)))
  have hkm3 := hkm2.out.keep (cc3.block mb hkm2.out.lt fun hb => hb.elim hmt fun hb => (hvk.out mb hb).2 rfl)
  have hdb3 : Blk w3 kb _ _ := hdb2.out.chg cc3 fun hb => hb.elim (fun e => htk e.symm) fun hb => (hvk.out kb hb).1 rfl
  obtain ⟨Fh3, hT3, hC3⟩ := hlv.out w3 top' v' ys cc4 hlab.out hn3 (fun g hg => by
    rcases how with e | e | ⟨g', e, hge⟩
    · rw [e] at hg; cases hg
    · exact .inl (hbk.out g (by rw [← e]; exact hg))
    · rw [e] at hg
      cases hg
      exact .inr ⟨by omega, hn3.at_.row.lt e⟩) hkm3
  obtain ⟨h3, hc3⟩ := h.tabStep0 hT3 hC3
  have d0 := hdb3.cell (i := 0) rfl
  have dl := hdb3.lt
  have hob3 := ho.out.chg cc4 fun hb => by
    rcases hb with hb | hb | hb | hb
    · exact hob1.1 hb
    · exact hob1.2.1 hb
    · exact hob1.2.2.1 hb
    · exact hob1.2.2.2 hb
  have hol := hob3.lt
  have hm := m_sink_end hob3
  have hfin := Sys.of hF h3 hc3
  unfold ptrV at d0
  replace hfin := Lib.hid hfin
  clear hle hn3 cc3 cc4 hkm3 hdb3 hT3 hC3 h3 hc3 hn2 cc2 hdb2 hkm2 hob3
  go_wp2
  go_ret
  obtain ⟨F', hR1, hR2⟩ := hfin.out
  exact ⟨rfl, F', top', ys, htp.out, hR1.grown (World.grownBy_alloc w3 _ _), hR2.trans (Chg.alloc_other F' w3 _)⟩
theorem sys_last_rd1T (h : Sys w F c s) (hx : look s.hs k = some x) (hr : x.refs = 1) {p pb bb : Nat} (hk : x.kd = .rd p) (hp : s.pp[p]? = some (pb, bb, 2)) :
    Calls Tryz.prog 37 #[ptrV c.tb, .int .i64 k] w fun e w' => e = .returned (.int .i64 0) ∧ ∃ F' top' xs', top' ≤ s.top ∧ Sys w' F' c { s with pp := s.pp.set p (pb, bb, 1), hs := dropH s.hs k, top := top', xs := xs' } ∧ Chg F F' w w' := by
  obtain ⟨Ft, Fp, Fh, h, hF⟩ := h
  obtain ⟨lab, mb, mem, v, ht, hFh⟩ := h.tab
  have hf := tfind_some ht hx
  have hd := ht.hd k x hx
  have c1 := hd.blk.cell (i := 1) rfl
  rw [hr] at c1
  have f1 := hd.blk.frozen 1
  have hlt := hd.blk.lt
  have hlk := hd.lb
  have ho := hd.ob
  rw [hk] at ho
  have hdv : doesV s.pp x.kd (mem k).ob = .iface 169 (.agg #[ptrV pb]) := by show doesV s.pp x.kd (mem k).ob = .iface _ (.agg #[ptrV pb]); rw [hk]; show Value.iface _ (.agg #[ptrV (pipeB s.pp p)]) = _; unfold pipeB; rw [List.getD_eq_getElem?_getD, hp]; rfl
  have hdb := hd.blk.set 1 (.int .i64 0)
  rw [hdv] at hdb
  have t2 := ht.num.at_.blk.cell (i := 2) rfl
  have tl := ht.num.at_.blk.lt
  have htk : c.tb ≠ (mem k).blk := fun e => by rw [← e, ht.ltb] at hlk; cases hlk
  have hmk : mb ≠ (mem k).blk := fun e => by rw [← e, ht.lmap] at hlk; cases hlk
  have hmt : mb ≠ c.tb := fun e => by have := ht.lmap; rw [e, ht.ltb] at this; cases this
  have hvk : ∀ g, v.ownBlock = some g → g ≠ (mem k).blk ∧ g ≠ mb := fun g hg => ⟨fun e => (by have := ht.lbk g hg; rw [e, hlk] at this; cases this), fun e => (by have := ht.lbk g hg; rw [e, ht.lmap] at this; cases this)⟩
  have hkm1 : KMap (w.setCell ⟨(mem k).blk, 1, none⟩ (.int .i64 0)) mb (.int .i64) encI (entH mem s.hs) := ht.map.keep (heap_setCell_other w _ mb _ hmk)
  have hn1 : NumR (w.setCell ⟨(mem k).blk, 1, none⟩ (.int .i64 0)) c.tb (ptrV c.fb) (ptrV c.plb) (.map (some mb)) (ids s.hs) s.top v s.xs := ht.num.keep (heap_setCell_other w _ c.tb _ htk) fun g hg => heap_setCell_other w _ g _ (hvk g hg).1
  have cc1 : Chg (fun g => g = (mem k).blk ∨ g = mb ∨ g = c.tb ∨ v.ownBlock = some g) (fun g => g = (mem k).blk ∨ g = mb ∨ g = c.tb ∨ v.ownBlock = some g) w (w.setCell ⟨(mem k).blk, 1, none⟩ (.int .i64 0)) := Chg.set (.inl rfl) 1 _
  have hnd := ht.nodup
  have hid : k ∈ ids s.hs := List.mem_map.2 ⟨(k, x), look_mem hx, rfl⟩
  have hlv := fun w3 top' v' ys => ht.leave (S := fun g => g = (mem k).blk ∨ g = mb ∨ g = c.tb ∨ v.ownBlock = some g) (S' := fun g => g = (mem k).blk ∨ g = mb ∨ g = c.tb ∨ v.ownBlock = some g ∨ v'.ownBlock = some g) (w2 := w3) (k := k) (top' := top') (v' := v') (ys := ys) hFh
  have hlab : ∀ g, g < w.heap.size → (g = (mem k).blk ∨ g = mb ∨ g = c.tb ∨ v.ownBlock = some g) → lab g = .tab ∨ lab g = .tmap ∨ lab g = .back ∨ OfH k (lab g) := fun g _ hg => by
    rcases hg with hg | hg | hg | hg
    · exact .inr (.inr (.inr (by rw [hg, hlk]; exact rfl)))
    · exact .inr (.inl (by rw [hg]; exact ht.lmap))
    · exact .inl (by rw [hg]; exact ht.ltb)
    · exact .inr (.inr (.inl (ht.lbk g hg)))
  have hbk := ht.lbk
  have hltb := ht.ltb
  have hlmb := ht.lmap
  generalize (mem k).blk = kb at *
  unfold ptrV at hf
  unfold ptrV
  replace hlv := Lib.hid hlv
  replace hlab := Lib.hid hlab
  replace hn1 := Lib.hid hn1
  replace cc1 := Lib.hid cc1
  replace hvk := Lib.hid hvk
  replace hdb := Lib.hid hdb
  replace ho := Lib.hid ho
  replace hbk := Lib.hid hbk
  clear ht hd hdv
  go_enter Tryz.func37, Tryz.ntmps37
  go_wp2_with fail
  refine hf.mono ?_
  rintro e w' ⟨rfl, hw⟩
  obtain rfl := hw.symm
  clear hf hw
  go_wp2_with (at_delete; go_loud (refine wpList_del_k rfl _ _ 134 3 rfl 135 keyI Tryz.underlying134 Tryz.underlying3 rfl hkm1 k rfl ?_); intro ob2 hkm2; refine Hid.out ?_)
  refine Lib.hid ?_
  have hsz1 : (w.setCell ⟨kb, 1, none⟩ (.int .i64 0)).heap.size = w.heap.size := by simp [World.setCell]
  have hn2 : NumR (setBlock (w.setCell ⟨kb, 1, none⟩ (.int .i64 0)) mb ob2) c.tb _ _ _ _ _ _ _ := hn1.out.keep (setB_other (Ne.symm hmt) ob2) fun g hg => setB_other (hvk.out g hg).2 ob2
  have cc2 := cc1.out.trans (Chg.setB (.inr (.inl rfl)) ob2)
  have hdb2 : Blk (setBlock (w.setCell ⟨kb, 1, none⟩ (.int .i64 0)) mb ob2) kb _ _ := hdb.out.setB (fun e => hmk e.symm) ob2
  have hsz2 : (setBlock (w.setCell ⟨kb, 1, none⟩ (.int .i64 0)) mb ob2).heap.size = w.heap.size := by simp [setBlock, World.setCell]
  generalize setBlock (w.setCell ⟨kb, 1, none⟩ (.int .i64 0)) mb ob2 = w2 at hn2 cc2 hdb2 hkm2 hsz2 ⊢
  have hle := nums_leaveT hn2 hnd hid
  replace hn2 := Lib.hid hn2
  replace cc2 := Lib.hid cc2
  replace hdb2 := Lib.hid hdb2
  replace hkm2 := Lib.hid hkm2
  clear hkm1 hn1 cc1 hdb t2 c1 f1
  have htl2 : c.tb < w2.heap.size := by omega
  go_wp2_with fail
  refine hle.mono ?_
  rintro e w3 ⟨rfl, top', v', ys, htp, hn3, cc3, how⟩
  replace htp := Lib.hid htp
  have cc4 : Chg (fun g => g = kb ∨ g = mb ∨ g = c.tb ∨ v.ownBlock = some g) (fun g => g = kb ∨ g = mb ∨ g = c.tb ∨ v.ownBlock = some g ∨ v'.ownBlock = some g) w w3 := cc2.out.trans (cc3.mono (fun b hb => hb.elim (fun hb => .inr (.inr (.inl hb))) fun hb => .inr (.inr (.inr hb))) fun b _ hb => by
    rcases hb with hb | hb | hb | hb | hb
    · exact .inr (.inl hb)
    · exact .inr (.inr (.inl hb))
    · exact .inl (.inl hb)
    · exact .inl (.inr (.inl hb))
    · exact .inl (.inr (.inr hb)))
  have hkm3 := hkm2.out.keep (cc3.block mb hkm2.out.lt fun hb => hb.elim hmt fun hb => (hvk.out mb hb).2 rfl)
  have hdb3 : Blk w3 kb _ _ := hdb2.out.chg cc3 fun hb => hb.elim (fun e => htk e.symm) fun hb => (hvk.out kb hb).1 rfl
  obtain ⟨Fh3, hT3, hC3⟩ := hlv.out w3 top' v' ys cc4 hlab.out hn3 (fun g hg => by
    rcases how with e | e | ⟨g', e, hge⟩
    · rw [e] at hg; cases hg
    · exact .inl (hbk.out g (by rw [← e]; exact hg))
    · rw [e] at hg
      cases hg
      exact .inr ⟨by omega, hn3.at_.row.lt e⟩) hkm3
  obtain ⟨h3, hc3⟩ := h.tabStep0 hT3 hC3
  have d0 := hdb3.cell (i := 0) rfl
  have dl := hdb3.lt
  obtain ⟨lab3, mb3, mem3, v3, ht3, hFh3⟩ := hT3
  have hpi3 := (ht3.pi p pb bb _ hp).1
  obtain ⟨Fh4, hT4, hC4⟩ := ht3.ends hFh3 hp 1
  obtain ⟨h4, hc4⟩ := h3.tabStep0 hT4 hC4
  have hend := pipe_end1 hpi3
  have hfin := Sys.of hF h4 (hc3.trans hc4)
  unfold ptrV at d0 hend
  replace hend := Lib.hid hend
  replace hfin := Lib.hid hfin
  clear hpi3 ht3 hT4 hC4 h4 hc4
  clear hle hn3 cc3 cc4 hkm3 hdb3 hC3 h3 hc3 hn2 cc2 hdb2 hkm2
  go_wp2_with fail
  refine hend.out.mono ?_
  rintro e w4 ⟨rfl, rfl⟩
  obtain ⟨F', hR1, hR2⟩ := hfin.out
  replace hR1 := Lib.hid hR1
  replace hR2 := Lib.hid hR2
  clear hend hfin
  go_wp2
  go_ret
  exact ⟨rfl, F', top', ys, htp.out, hR1.out, hR2.out⟩
theorem sys_last_rd0T (h : Sys w F c s) (hx : look s.hs k = some x) (hr : x.refs = 1) {p pb bb : Nat} (hk : x.kd = .rd p) (hp : s.pp[p]? = some (pb, bb, 1)) {q : Nat} {b : Bs} (he : s.es[q]? = some (bb, some b)) (htot : s.tot ≤ 500000) (hn : s.es.length ≤ 1000000) :
    Calls Tryz.prog 37 #[ptrV c.tb, .int .i64 k] w fun e w' => e = .returned (.int .i64 0) ∧ ∃ F' top' xs', top' ≤ s.top ∧ Sys w' F' c { s with es := s.es.set q (bb, none), pp := s.pp.set p (pb, bb, 0), hs := dropH s.hs k, top := top', xs := xs' } ∧ Chg F F' w w' := by
  obtain ⟨Ft, Fp, Fh, h, hF⟩ := h
  obtain ⟨lab, mb, mem, v, ht, hFh⟩ := h.tab
  have hf := tfind_some ht hx
  have hd := ht.hd k x hx
  have c1 := hd.blk.cell (i := 1) rfl
  rw [hr] at c1
  have f1 := hd.blk.frozen 1
  have hlt := hd.blk.lt
  have hlk := hd.lb
  have ho := hd.ob
  rw [hk] at ho
  have hdv : doesV s.pp x.kd (mem k).ob = .iface 169 (.agg #[ptrV pb]) := by show doesV s.pp x.kd (mem k).ob = .iface _ (.agg #[ptrV pb]); rw [hk]; show Value.iface _ (.agg #[ptrV (pipeB s.pp p)]) = _; unfold pipeB; rw [List.getD_eq_getElem?_getD, hp]; rfl
  have hdb := hd.blk.set 1 (.int .i64 0)
  rw [hdv] at hdb
  have t2 := ht.num.at_.blk.cell (i := 2) rfl
  have tl := ht.num.at_.blk.lt
  have htk : c.tb ≠ (mem k).blk := fun e => by rw [← e, ht.ltb] at hlk; cases hlk
  have hmk : mb ≠ (mem k).blk := fun e => by rw [← e, ht.lmap] at hlk; cases hlk
  have hmt : mb ≠ c.tb := fun e => by have := ht.lmap; rw [e, ht.ltb] at this; cases this
  have hvk : ∀ g, v.ownBlock = some g → g ≠ (mem k).blk ∧ g ≠ mb := fun g hg => ⟨fun e => (by have := ht.lbk g hg; rw [e, hlk] at this; cases this), fun e => (by have := ht.lbk g hg; rw [e, ht.lmap] at this; cases this)⟩
  have hkm1 : KMap (w.setCell ⟨(mem k).blk, 1, none⟩ (.int .i64 0)) mb (.int .i64) encI (entH mem s.hs) := ht.map.keep (heap_setCell_other w _ mb _ hmk)
  have hn1 : NumR (w.setCell ⟨(mem k).blk, 1, none⟩ (.int .i64 0)) c.tb (ptrV c.fb) (ptrV c.plb) (.map (some mb)) (ids s.hs) s.top v s.xs := ht.num.keep (heap_setCell_other w _ c.tb _ htk) fun g hg => heap_setCell_other w _ g _ (hvk g hg).1
  have cc1 : Chg (fun g => g = (mem k).blk ∨ g = mb ∨ g = c.tb ∨ v.ownBlock = some g) (fun g => g = (mem k).blk ∨ g = mb ∨ g = c.tb ∨ v.ownBlock = some g) w (w.setCell ⟨(mem k).blk, 1, none⟩ (.int .i64 0)) := Chg.set (.inl rfl) 1 _
  have hnd := ht.nodup
  have hid : k ∈ ids s.hs := List.mem_map.2 ⟨(k, x), look_mem hx, rfl⟩
  have hlv := fun w3 top' v' ys => ht.leave (S := fun g => g = (mem k).blk ∨ g = mb ∨ g = c.tb ∨ v.ownBlock = some g) (S' := fun g => g = (mem k).blk ∨ g = mb ∨ g = c.tb ∨ v.ownBlock = some g ∨ v'.ownBlock = some g) (w2 := w3) (k := k) (top' := top') (v' := v') (ys := ys) hFh
  have hlab : ∀ g, g < w.heap.size → (g = (mem k).blk ∨ g = mb ∨ g = c.tb ∨ v.ownBlock = some g) → lab g = .tab ∨ lab g = .tmap ∨ lab g = .back ∨ OfH k (lab g) := fun g _ hg => by
    rcases hg with hg | hg | hg | hg
    · exact .inr (.inr (.inr (by rw [hg, hlk]; exact rfl)))
    · exact .inr (.inl (by rw [hg]; exact ht.lmap))
    · exact .inl (by rw [hg]; exact ht.ltb)
    · exact .inr (.inr (.inl (ht.lbk g hg)))
  have hbk := ht.lbk
  have hltb := ht.ltb
  have hlmb := ht.lmap
  generalize (mem k).blk = kb at *
  unfold ptrV at hf
  unfold ptrV
  replace hlv := Lib.hid hlv
  replace hlab := Lib.hid hlab
  replace hn1 := Lib.hid hn1
  replace cc1 := Lib.hid cc1
  replace hvk := Lib.hid hvk
  replace hdb := Lib.hid hdb
  replace ho := Lib.hid ho
  replace hbk := Lib.hid hbk
  clear ht hd hdv
  go_enter Tryz.func37, Tryz.ntmps37
  go_wp2_with fail
  refine hf.mono ?_
  rintro e w' ⟨rfl, hw⟩
  obtain rfl := hw.symm
  clear hf hw
  go_wp2_with (at_delete; go_loud (refine wpList_del_k rfl _ _ 134 3 rfl 135 keyI Tryz.underlying134 Tryz.underlying3 rfl hkm1 k rfl ?_); intro ob2 hkm2; refine Hid.out ?_)
  refine Lib.hid ?_
  have hsz1 : (w.setCell ⟨kb, 1, none⟩ (.int .i64 0)).heap.size = w.heap.size := by simp [World.setCell]
  have hn2 : NumR (setBlock (w.setCell ⟨kb, 1, none⟩ (.int .i64 0)) mb ob2) c.tb _ _ _ _ _ _ _ := hn1.out.keep (setB_other (Ne.symm hmt) ob2) fun g hg => setB_other (hvk.out g hg).2 ob2
  have cc2 := cc1.out.trans (Chg.setB (.inr (.inl rfl)) ob2)
  have hdb2 : Blk (setBlock (w.setCell ⟨kb, 1, none⟩ (.int .i64 0)) mb ob2) kb _ _ := hdb.out.setB (fun e => hmk e.symm) ob2
  have hsz2 : (setBlock (w.setCell ⟨kb, 1, none⟩ (.int .i64 0)) mb ob2).heap.size = w.heap.size := by simp [setBlock, World.setCell]
  generalize setBlock (w.setCell ⟨kb, 1, none⟩ (.int .i64 0)) mb ob2 = w2 at hn2 cc2 hdb2 hkm2 hsz2 ⊢
  have hle := nums_leaveT hn2 hnd hid
  replace hn2 := Lib.hid hn2
  replace cc2 := Lib.hid cc2
  replace hdb2 := Lib.hid hdb2
  replace hkm2 := Lib.hid hkm2
  clear hkm1 hn1 cc1 hdb t2 c1 f1
  have htl2 : c.tb < w2.heap.size := by omega
  go_wp2_with fail
  refine hle.mono ?_
  rintro e w3 ⟨rfl, top', v', ys, htp, hn3, cc3, how⟩
  replace htp := Lib.hid htp
  have cc4 : Chg (fun g => g = kb ∨ g = mb ∨ g = c.tb ∨ v.ownBlock = some g) (fun g => g = kb ∨ g = mb ∨ g = c.tb ∨ v.ownBlock = some g ∨ v'.ownBlock = some g) w w3 := cc2.out.trans (cc3.mono (fun b hb => hb.elim (fun hb => .inr (.inr (.inl hb))) fun hb => .inr (.inr (.inr hb))) fun b _ hb => by
    rcases hb with hb | hb | hb | hb | hb
    · exact .inr (.inl hb)
    · exact .inr (.inr (.inl hb))
    · exact .inl (.inl hb)
    · exact .inl (.inr (.inl hb))
    · exact .inl (.inr (.inr hb)))
  have hkm3 := hkm2.out.keep (cc3.block mb hkm2.out.lt fun hb => hb.elim hmt fun hb => (hvk.out mb hb).2 rfl)
  have hdb3 : Blk w3 kb _ _ := hdb2.out.chg cc3 fun hb => hb.elim (fun e => htk e.symm) fun hb => (hvk.out kb hb).1 rfl
  obtain ⟨Fh3, hT3, hC3⟩ := hlv.out w3 top' v' ys cc4 hlab.out hn3 (fun g hg => by
    rcases how with e | e | ⟨g', e, hge⟩
    · rw [e] at hg; cases hg
    · exact .inl (hbk.out g (by rw [← e]; exact hg))
    · rw [e] at hg
      cases hg
      exact .inr ⟨by omega, hn3.at_.row.lt e⟩) hkm3
  obtain ⟨h3, hc3⟩ := h.tabStep0 hT3 hC3
  have d0 := hdb3.cell (i := 0) rfl
  have dl := hdb3.lt
  obtain ⟨lab3, mb3, mem3, v3, ht3, hFh3⟩ := hT3
  have hpi3 := (ht3.pi p pb bb _ hp).1
  obtain ⟨Fh4, hT4, hC4⟩ := ht3.ends hFh3 hp 0
  obtain ⟨h4, hc4⟩ := h3.tabStep0 hT4 hC4
  have hpf : ¬ Fp pb := fun hf => h3.ph pb hf ((hFh3 pb).2 (by rw [(ht3.pi p pb bb _ hp).2]; exact nofun))
  have hend := pipe_end0 hpi3 h3.pool hpf he htot hn
  have hfin := fun w5 Fp' (hA : AllF w5 Fp' c.plb c.q c.M c.C (s.es.set q (bb, none)) s.tot) (hC : Chg Fp Fp' _ w5) => Sys.of hF (h4.poolStep hA hC).1 ((hc3.trans hc4).trans (h4.poolStep hA hC).2)
  unfold ptrV at d0 hend
  replace hend := Lib.hid hend
  replace hfin := Lib.hid hfin
  clear hpi3 ht3 hT4 hC4 h4 hc4
  clear hle hn3 cc3 cc4 hkm3 hdb3 hC3 h3 hc3 hn2 cc2 hdb2 hkm2
  go_wp2_with fail
  refine hend.out.mono ?_
  rintro e w4 ⟨rfl, w5, Fp', rfl, hA, hC⟩
  obtain ⟨F', hR1, hR2⟩ := hfin.out w4 Fp' hA hC
  replace hR1 := Lib.hid hR1
  replace hR2 := Lib.hid hR2
  clear hend hfin
  go_wp2
  go_ret
  exact ⟨rfl, F', top', ys, htp.out, hR1.out, hR2.out⟩
theorem sys_last_wr1T (h : Sys w F c s) (hx : look s.hs k = some x) (hr : x.refs = 1) {p pb bb : Nat} (hk : x.kd = .wr p) (hp : s.pp[p]? = some (pb, bb, 2)) :
    Calls Tryz.prog 37 #[ptrV c.tb, .int .i64 k] w fun e w' => e = .returned (.int .i64 0) ∧ ∃ F' top' xs', top' ≤ s.top ∧ Sys w' F' c { s with pp := s.pp.set p (pb, bb, 1), hs := dropH s.hs k, top := top', xs := xs' } ∧ Chg F F' w w' := by
  obtain ⟨Ft, Fp, Fh, h, hF⟩ := h
  obtain ⟨lab, mb, mem, v, ht, hFh⟩ := h.tab
  have hf := tfind_some ht hx
  have hd := ht.hd k x hx
  have c1 := hd.blk.cell (i := 1) rfl
  rw [hr] at c1
  have f1 := hd.blk.frozen 1
  have hlt := hd.blk.lt
  have hlk := hd.lb
  have ho := hd.ob
  rw [hk] at ho
  have hdv : doesV s.pp x.kd (mem k).ob = .iface 170 (.agg #[ptrV pb]) := by show doesV s.pp x.kd (mem k).ob = .iface _ (.agg #[ptrV pb]); rw [hk]; show Value.iface _ (.agg #[ptrV (pipeB s.pp p)]) = _; unfold pipeB; rw [List.getD_eq_getElem?_getD, hp]; rfl
  have hdb := hd.blk.set 1 (.int .i64 0)
  rw [hdv] at hdb
  have t2 := ht.num.at_.blk.cell (i := 2) rfl
  have tl := ht.num.at_.blk.lt
  have htk : c.tb ≠ (mem k).blk := fun e => by rw [← e, ht.ltb] at hlk; cases hlk
  have hmk : mb ≠ (mem k).blk := fun e => by rw [← e, ht.lmap] at hlk; cases hlk
  have hmt : mb ≠ c.tb := fun e => by have := ht.lmap; rw [e, ht.ltb] at this; cases this
  have hvk : ∀ g, v.ownBlock = some g → g ≠ (mem k).blk ∧ g ≠ mb := fun g hg => ⟨fun e => (by have := ht.lbk g hg; rw [e, hlk] at this; cases this), fun e => (by have := ht.lbk g hg; rw [e, ht.lmap] at this; cases this)⟩
  have hkm1 : KMap (w.setCell ⟨(mem k).blk, 1, none⟩ (.int .i64 0)) mb (.int .i64) encI (entH mem s.hs) := ht.map.keep (heap_setCell_other w _ mb _ hmk)
  have hn1 : NumR (w.setCell ⟨(mem k).blk, 1, none⟩ (.int .i64 0)) c.tb (ptrV c.fb) (ptrV c.plb) (.map (some mb)) (ids s.hs) s.top v s.xs := ht.num.keep (heap_setCell_other w _ c.tb _ htk) fun g hg => heap_setCell_other w _ g _ (hvk g hg).1
  have cc1 : Chg (fun g => g = (mem k).blk ∨ g = mb ∨ g = c.tb ∨ v.ownBlock = some g) (fun g => g = (mem k).blk ∨ g = mb ∨ g = c.tb ∨ v.ownBlock = some g) w (w.setCell ⟨(mem k).blk, 1, none⟩ (.int .i64 0)) := Chg.set (.inl rfl) 1 _
  have hnd := ht.nodup
  have hid : k ∈ ids s.hs := List.mem_map.2 ⟨(k, x), look_mem hx, rfl⟩
  have hlv := fun w3 top' v' ys => ht.leave (S := fun g => g = (mem k).blk ∨ g = mb ∨ g = c.tb ∨ v.ownBlock = some g) (S' := fun g => g = (mem k).blk ∨ g = mb ∨ g = c.tb ∨ v.ownBlock = some g ∨ v'.ownBlock = some g) (w2 := w3) (k := k) (top' := top') (v' := v') (ys := ys) hFh
  have hlab : ∀ g, g < w.heap.size → (g = (mem k).blk ∨ g = mb ∨ g = c.tb ∨ v.ownBlock = some g) → lab g = .tab ∨ lab g = .tmap ∨ lab g = .back ∨ OfH k (lab g) := fun g _ hg => by
    rcases hg with hg | hg | hg | hg
    · exact .inr (.inr (.inr (by rw [hg, hlk]; exact rfl)))
    · exact .inr (.inl (by rw [hg]; exact ht.lmap))
    · exact .inl (by rw [hg]; exact ht.ltb)
    · exact .inr (.inr (.inl (ht.lbk g hg)))
  have hbk := ht.lbk
  have hltb := ht.ltb
  have hlmb := ht.lmap
  generalize (mem k).blk = kb at *
  unfold ptrV at hf
  unfold ptrV
  replace hlv := Lib.hid hlv
  replace hlab := Lib.hid hlab
  replace hn1 := Lib.hid hn1
  replace cc1 := Lib.hid cc1
  replace hvk := Lib.hid hvk
  replace hdb := Lib.hid hdb
  replace ho := Lib.hid ho
  replace hbk := Lib.hid hbk
  clear ht hd hdv
  go_enter Tryz.func37, Tryz.ntmps37
  go_wp2_with fail
  refine hf.mono ?_
  rintro e w' ⟨rfl, hw⟩
  obtain rfl := hw.symm
  clear hf hw
  go_wp2_with (at_delete; go_loud (refine wpList_del_k rfl _ _ 134 3 rfl 135 keyI Tryz.underlying134 Tryz.underlying3 rfl hkm1 k rfl ?_); intro ob2 hkm2; refine Hid.out ?_)
  refine Lib.hid ?_
  have hsz1 : (w.setCell ⟨kb, 1, none⟩ (.int .i64 0)).heap.size = w.heap.size := by simp [World.setCell]
  have hn2 : NumR (setBlock (w.setCell ⟨kb, 1, none⟩ (.int .i64 0)) mb ob2) c.tb _ _ _ _ _ _ _ := hn1.out.keep (setB_other (Ne.symm hmt) ob2) fun g hg => setB_other (hvk.out g hg).2 ob2
  have cc2 := cc1.out.trans (Chg.setB (.inr (.inl rfl)) ob2)
  have hdb2 : Blk (setBlock (w.setCell ⟨kb, 1, none⟩ (.int .i64 0)) mb ob2) kb _ _ := hdb.out.setB (fun e => hmk e.symm) ob2
  have hsz2 : (setBlock (w.setCell ⟨kb, 1, none⟩ (.int .i64 0)) mb ob2).heap.size = w.heap.size := by simp [setBlock, World.setCell]
  generalize setBlock (w.setCell ⟨kb, 1, none⟩ (.int .i64 0)) mb ob2 = w2 at hn2 cc2 hdb2 hkm2 hsz2 ⊢
  have hle := nums_leaveT hn2 hnd hid
  replace hn2 := Lib.hid hn2
  replace cc2 := Lib.hid cc2
  replace hdb2 := Lib.hid hdb2
  replace hkm2 := Lib.hid hkm2
  clear hkm1 hn1 cc1 hdb t2 c1 f1
  have htl2 : c.tb < w2.heap.size := by omega
  go_wp2_with fail
  refine hle.mono ?_
  rintro e w3 ⟨rfl, top', v', ys, htp, hn3, cc3, how⟩
  replace htp := Lib.hid htp
  have cc4 : Chg (fun g => g = kb ∨ g = mb ∨ g = c.tb ∨ v.ownBlock = some g) (fun g => g = kb ∨ g = mb ∨ g = c.tb ∨ v.ownBlock = some g ∨ v'.ownBlock = some g) w w3 := cc2.out.trans (cc3.mono (fun b hb => hb.elim (fun hb => .inr (.inr (.inl hb))) fun hb => .inr (.inr (.inr hb))) fun b _ hb => by
    rcases hb with hb | hb | hb | hb | hb
    · exact .inr (.inl hb)
    · exact .inr (.inr (.inl hb))
    · exact .inl (.inl hb)
    · exact .inl (.inr (.inl hb))
    · exact .inl (.inr (.inr hb)))
  have hkm3 := hkm2.out.keep (cc3.block mb hkm2.out.lt fun hb => hb.elim hmt fun hb => (hvk.out mb hb).2 rfl)
  have hdb3 : Blk w3 kb _ _ := hdb2.out.chg cc3 fun hb => hb.elim (fun e => htk e.symm) fun hb => (hvk.out kb hb).1 rfl
  obtain ⟨Fh3, hT3, hC3⟩ := hlv.out w3 top' v' ys cc4 hlab.out hn3 (fun g hg => by
    rcases how with e | e | ⟨g', e, hge⟩
    · rw [e] at hg; cases hg
    · exact .inl (hbk.out g (by rw [← e]; exact hg))
    · rw [e] at hg
      cases hg
      exact .inr ⟨by omega, hn3.at_.row.lt e⟩) hkm3
  obtain ⟨h3, hc3⟩ := h.tabStep0 hT3 hC3
  have d0 := hdb3.cell (i := 0) rfl
  have dl := hdb3.lt
  obtain ⟨lab3, mb3, mem3, v3, ht3, hFh3⟩ := hT3
  have hpi3 := (ht3.pi p pb bb _ hp).1
  obtain ⟨Fh4, hT4, hC4⟩ := ht3.ends hFh3 hp 1
  obtain ⟨h4, hc4⟩ := h3.tabStep0 hT4 hC4
  have hend := pipe_end1 hpi3
  have hfin := Sys.of hF h4 (hc3.trans hc4)
  unfold ptrV at d0 hend
  replace hend := Lib.hid hend
  replace hfin := Lib.hid hfin
  clear hpi3 ht3 hT4 hC4 h4 hc4
  clear hle hn3 cc3 cc4 hkm3 hdb3 hC3 h3 hc3 hn2 cc2 hdb2 hkm2
  go_wp2_with fail
  refine hend.out.mono ?_
  rintro e w4 ⟨rfl, rfl⟩
  obtain ⟨F', hR1, hR2⟩ := hfin.out
  replace hR1 := Lib.hid hR1
  replace hR2 := Lib.hid hR2
  clear hend hfin
  go_wp2
  go_ret
  exact ⟨rfl, F', top', ys, htp.out, hR1.out, hR2.out⟩
theorem sys_last_wr0T (h : Sys w F c s) (hx : look s.hs k = some x) (hr : x.refs = 1) {p pb bb : Nat} (hk : x.kd = .wr p) (hp : s.pp[p]? = some (pb, bb, 1)) {q : Nat} {b : Bs} (he : s.es[q]? = some (bb, some b)) (htot : s.tot ≤ 500000) (hn : s.es.length ≤ 1000000) :
    Calls Tryz.prog 37 #[ptrV c.tb, .int .i64 k] w fun e w' => e = .returned (.int .i64 0) ∧ ∃ F' top' xs', top' ≤ s.top ∧ Sys w' F' c { s with es := s.es.set q (bb, none), pp := s.pp.set p (pb, bb, 0), hs := dropH s.hs k, top := top', xs := xs' } ∧ Chg F F' w w' := by
  obtain ⟨Ft, Fp, Fh, h, hF⟩ := h
  obtain ⟨lab, mb, mem, v, ht, hFh⟩ := h.tab
  have hf := tfind_some ht hx
  have hd := ht.hd k x hx
  have c1 := hd.blk.cell (i := 1) rfl
  rw [hr] at c1
  have f1 := hd.blk.frozen 1
  have hlt := hd.blk.lt
  have hlk := hd.lb
  have ho := hd.ob
  rw [hk] at ho
  have hdv : doesV s.pp x.kd (mem k).ob = .iface 170 (.agg #[ptrV pb]) := by show doesV s.pp x.kd (mem k).ob = .iface _ (.agg #[ptrV pb]); rw [hk]; show Value.iface _ (.agg #[ptrV (pipeB s.pp p)]) = _; unfold pipeB; rw [List.getD_eq_getElem?_getD, hp]; rfl
  have hdb := hd.blk.set 1 (.int .i64 0)
  rw [hdv] at hdb
  have t2 := ht.num.at_.blk.cell (i := 2) rfl
  have tl := ht.num.at_.blk.lt
  have htk : c.tb ≠ (mem k).blk := fun e => by rw [← e, ht.ltb] at hlk; cases hlk
  have hmk : mb ≠ (mem k).blk := fun e => by rw [← e, ht.lmap] at hlk; cases hlk
  have hmt : mb ≠ c.tb := fun e => by have := ht.lmap; rw [e, ht.ltb] at this; cases this
  have hvk : ∀ g, v.ownBlock = some g → g ≠ (mem k).blk ∧ g ≠ mb := fun g hg => ⟨fun e => (by have := ht.lbk g hg; rw [e, hlk] at this; cases this), fun e => (by have := ht.lbk g hg; rw [e, ht.lmap] at this; cases this)⟩
  have hkm1 : KMap (w.setCell ⟨(mem k).blk, 1, none⟩ (.int .i64 0)) mb (.int .i64) encI (entH mem s.hs) := ht.map.keep (heap_setCell_other w _ mb _ hmk)
  have hn1 : NumR (w.setCell ⟨(mem k).blk, 1, none⟩ (.int .i64 0)) c.tb (ptrV c.fb) (ptrV c.plb) (.map (some mb)) (ids s.hs) s.top v s.xs := ht.num.keep (heap_setCell_other w _ c.tb _ htk) fun g hg => heap_setCell_other w _ g _ (hvk g hg).1
  have cc1 : Chg (fun g => g = (mem k).blk ∨ g = mb ∨ g = c.tb ∨ v.ownBlock = some g) (fun g => g = (mem k).blk ∨ g = mb ∨ g = c.tb ∨ v.ownBlock = some g) w (w.setCell ⟨(mem k).blk, 1, none⟩ (.int .i64 0)) := Chg.set (.inl rfl) 1 _
  have hnd := ht.nodup
  have hid : k ∈ ids s.hs := List.mem_map.2 ⟨(k, x), look_mem hx, rfl⟩
  have hlv := fun w3 top' v' ys => ht.leave (S := fun g => g = (mem k).blk ∨ g = mb ∨ g = c.tb ∨ v.ownBlock = some g) (S' := fun g => g = (mem k).blk ∨ g = mb ∨ g = c.tb ∨ v.ownBlock = some g ∨ v'.ownBlock = some g) (w2 := w3) (k := k) (top' := top') (v' := v') (ys := ys) hFh
  have hlab : ∀ g, g < w.heap.size → (g = (mem k).blk ∨ g = mb ∨ g = c.tb ∨ v.ownBlock = some g) → lab g = .tab ∨ lab g = .tmap ∨ lab g = .back ∨ OfH k (lab g) := fun g _ hg => by
    rcases hg with hg | hg | hg | hg
    · exact .inr (.inr (.inr (by rw [hg, hlk]; exact rfl)))
    · exact .inr (.inl (by rw [hg]; exact ht.lmap))
    · exact .inl (by rw [hg]; exact ht.ltb)
    · exact .inr (.inr (.inl (ht.lbk g hg)))
  have hbk := ht.lbk
  have hltb := ht.ltb
  have hlmb := ht.lmap
  generalize (mem k).blk = kb at *
  unfold ptrV at hf
  unfold ptrV
  replace hlv := Lib.hid hlv
  replace hlab := Lib.hid hlab
  replace hn1 := Lib.hid hn1
  replace cc1 := Lib.hid cc1
  replace hvk := Lib.hid hvk
  replace hdb := Lib.hid hdb
  replace ho := Lib.hid ho
  replace hbk := Lib.hid hbk
  clear ht hd hdv
  go_enter Tryz.func37, Tryz.ntmps37
  go_wp2_with fail
  refine hf.mono ?_
  rintro e w' ⟨rfl, hw⟩
  obtain rfl := hw.symm
  clear hf hw
  go_wp2_with (at_delete; go_loud (refine wpList_del_k rfl _ _ 134 3 rfl 135 keyI Tryz.underlying134 Tryz.underlying3 rfl hkm1 k rfl ?_); intro ob2 hkm2; refine Hid.out ?_)
  refine Lib.hid ?_
  have hsz1 : (w.setCell ⟨kb, 1, none⟩ (.int .i64 0)).heap.size = w.heap.size := by simp [World.setCell]
  have hn2 : NumR (setBlock (w.setCell ⟨kb, 1, none⟩ (.int .i64 0)) mb ob2) c.tb _ _ _ _ _ _ _ := hn1.out.keep (setB_other (Ne.symm hmt) ob2) fun g hg => setB_other (hvk.out g hg).2 ob2
  have cc2 := cc1.out.trans (Chg.setB (.inr (.inl rfl)) ob2)
  have hdb2 : Blk (setBlock (w.setCell ⟨kb, 1, none⟩ (.int .i64 0)) mb ob2) kb _ _ := hdb.out.setB (fun e => hmk e.symm) ob2
  have hsz2 : (setBlock (w.setCell ⟨kb, 1, none⟩ (.int .i64 0)) mb ob2).heap.size = w.heap.size := by simp [setBlock, World.setCell]
  generalize setBlock (w.setCell ⟨kb, 1, none⟩ (.int .i64 0)) mb ob2 = w2 at hn2 cc2 hdb2 hkm2 hsz2 ⊢
  have hle := nums_leaveT hn2 hnd hid
  replace hn2 := Lib.hid hn2
  replace cc2 := Lib.hid cc2
  replace hdb2 := Lib.hid hdb2
  replace hkm2 := Lib.hid hkm2
  clear hkm1 hn1 cc1 hdb t2 c1 f1
  have htl2 : c.tb < w2.heap.size := by omega
  go_wp2_with fail
  refine hle.mono ?_
  rintro e w3 ⟨rfl, top', v', ys, htp, hn3, cc3, how⟩
  replace htp := Lib.hid htp
  have cc4 : Chg (fun g => g = kb ∨ g = mb ∨ g = c.tb ∨ v.ownBlock = some g) (fun g => g = kb ∨ g = mb ∨ g = c.tb ∨ v.ownBlock = some g ∨ v'.ownBlock = some g) w w3 := cc2.out.trans (cc3.mono (fun b hb => hb.elim (fun hb => .inr (.inr (.inl hb))) fun hb => .inr (.inr (.inr hb))) fun b _ hb => by
    rcases hb with hb | hb | hb | hb | hb
    · exact .inr (.inl hb)
    · exact .inr (.inr (.inl hb))
    · exact .inl (.inl hb)
    · exact .inl (.inr (.inl hb))
    · exact .inl (.inr (.inr hb)))
  have hkm3 := hkm2.out.keep (cc3.block mb hkm2.out.lt fun hb => hb.elim hmt fun hb => (hvk.out mb hb).2 rfl)
  have hdb3 : Blk w3 kb _ _ := hdb2.out.chg cc3 fun hb => hb.elim (fun e => htk e.symm) fun hb => (hvk.out kb hb).1 rfl
  obtain ⟨Fh3, hT3, hC3⟩ := hlv.out w3 top' v' ys cc4 hlab.out hn3 (fun g hg => by
    rcases how with e | e | ⟨g', e, hge⟩
    · rw [e] at hg; cases hg
    · exact .inl (hbk.out g (by rw [← e]; exact hg))
    · rw [e] at hg
      cases hg
      exact .inr ⟨by omega, hn3.at_.row.lt e⟩) hkm3
  obtain ⟨h3, hc3⟩ := h.tabStep0 hT3 hC3
  have d0 := hdb3.cell (i := 0) rfl
  have dl := hdb3.lt
  obtain ⟨lab3, mb3, mem3, v3, ht3, hFh3⟩ := hT3
  have hpi3 := (ht3.pi p pb bb _ hp).1
  obtain ⟨Fh4, hT4, hC4⟩ := ht3.ends hFh3 hp 0
  obtain ⟨h4, hc4⟩ := h3.tabStep0 hT4 hC4
  have hpf : ¬ Fp pb := fun hf => h3.ph pb hf ((hFh3 pb).2 (by rw [(ht3.pi p pb bb _ hp).2]; exact nofun))
  have hend := pipe_end0 hpi3 h3.pool hpf he htot hn
  have hfin := fun w5 Fp' (hA : AllF w5 Fp' c.plb c.q c.M c.C (s.es.set q (bb, none)) s.tot) (hC : Chg Fp Fp' _ w5) => Sys.of hF (h4.poolStep hA hC).1 ((hc3.trans hc4).trans (h4.poolStep hA hC).2)
  unfold ptrV at d0 hend
  replace hend := Lib.hid hend
  replace hfin := Lib.hid hfin
  clear hpi3 ht3 hT4 hC4 h4 hc4
  clear hle hn3 cc3 cc4 hkm3 hdb3 hC3 h3 hc3 hn2 cc2 hdb2 hkm2
  go_wp2_with fail
  refine hend.out.mono ?_
  rintro e w4 ⟨rfl, w5, Fp', rfl, hA, hC⟩
  obtain ⟨F', hR1, hR2⟩ := hfin.out w4 Fp' hA hC
  replace hR1 := Lib.hid hR1
  replace hR2 := Lib.hid hR2
  clear hend hfin
  go_wp2
  go_ret
  exact ⟨rfl, F', top', ys, htp.out, hR1.out, hR2.out⟩
end
end Go.Proofs.YtfofpphnglhopaaGreatDoor
