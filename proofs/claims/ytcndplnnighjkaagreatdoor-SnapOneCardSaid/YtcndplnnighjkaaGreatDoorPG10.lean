/-
  A check: what is asked, and the error that stands for no.
-/
import Derived.Test.YtcndplnnighjkaaGreatDoorPG09
namespace Go.Proofs.YtcndplnnighjkaaGreatDoor
open Go.ChangeShapes Go.WideShapes Go.ChangeAt Go.RowKit
set_option linter.unusedVariables false
set_option linter.unusedSimpArgs false
def ChkAt (w : World) (kq ke : Nat) (v : Value) (e : Int) : Prop := w.heap[kq]? = some (.cells #[v] 121 (0, 0)) /\ w.heap[ke]? = some (.cells #[.int .i64 e] 29 (0, 0))
theorem ChkAt.below {w w' : World} {kq ke : Nat} {v : Value} {e : Int} (h : ChkAt w kq ke v e) (hb : Below w.heap.size w w') : ChkAt w' kq ke v e := ⟨(hb.block kq (lt_of_block h.1)).trans h.1, (hb.block ke (lt_of_block h.2)).trans h.2⟩
def chkE (b : Bool) (e : Int) : Int := if b = true then 0 else e
set_option maxHeartbeats 1000000 in
theorem u_nameIsOne (kq ke : Nat) (err : Int) (A : Option Addr) (F : List Mn) (c : Nat) (o : Ops.Po) (w : World) (hc : ChkAt w kq ke (.func (.func 79) #[] #[]) err) (hs : o.name.size <= 100000) :
 Calls Tryz.prog 120 #[.slice A F.length c, Ops.opv o, .pointer (some ⟨kq, 0, none⟩), .pointer (some ⟨ke, 0, none⟩)] w (GivesV (.int .i64 (chkE (nm o.name) err)) w) := by
 have HQ := Lib.hid (fun (V : World) (hb : Below w.heap.size w V) => q_nameIsOne A F c o V hs)
 have HC := Lib.hid hc
 obtain ⟨b, hbq⟩ : ∃ b, (nm o.name) = b := ⟨_, rfl⟩
 rw [hbq] at HQ ⊢
 clear hbq hc hs
 obtain ⟨kd, id, dst, ps, nm0, tx⟩ := o
 unfold Ops.opv at *
 obtain ⟨W, hW⟩ : ∃ W, W = w.alloc (.cells #[.int .i64 kd, .int .i64 id, .int .i64 dst, .int .i64 ps, .string nm0, .string tx] 40) := ⟨_, rfl⟩
 have HWb : Hid (Below w.heap.size w W) := Lib.hid (by rw [hW]; exact (Below.refl _ _).alloc (Nat.le_refl _) _)
 have HWk : Hid (W.heap[w.heap.size]? = some (.cells #[.int .i64 kd, .int .i64 id, .int .i64 dst, .int .i64 ps, .string nm0, .string tx] 40 (0, 0))) := Lib.hid (by rw [hW]; exact heap_alloc_new _ _)
 obtain ⟨x0, x1, x2, x3, x4, x5⟩ := block6 HWk.out
 have y0 := block1 (HC.out.below HWb.out).1
 generalize F.length = n at *
 go_enter Tryz.func120, Tryz.ntmps120
 go_upto_region 1 with fail
 rw [<- hW]
 clear hW
 go_wp2_with fail
 refine (HQ.out W HWb.out).mono ?_
 rintro e' w' ⟨rfl, hb⟩
 have HB := Lib.hid (HWb.out.trans (hb.mono HWb.out.size))
 clear hb x0 x1 x2 x3 x4 x5 y0
 have y1 := block1 (HC.out.below HB.out).2
 cases b
 · go_wp2
   go_ret
   exact ⟨rfl, HB.out⟩
 · go_wp2
   go_ret
   exact ⟨rfl, HB.out⟩
set_option maxHeartbeats 1000000 in
theorem u_textIsOne (kq ke : Nat) (err : Int) (A : Option Addr) (F : List Mn) (c : Nat) (o : Ops.Po) (w : World) (hc : ChkAt w kq ke (.func (.func 81) #[] #[]) err) (hs : o.text.size <= 100000) :
 Calls Tryz.prog 120 #[.slice A F.length c, Ops.opv o, .pointer (some ⟨kq, 0, none⟩), .pointer (some ⟨ke, 0, none⟩)] w (GivesV (.int .i64 (chkE (decide (o.text.size <= 60)) err)) w) := by
 have HQ := Lib.hid (fun (V : World) (hb : Below w.heap.size w V) => q_textIsOne A F c o V hs)
 have HC := Lib.hid hc
 obtain ⟨b, hbq⟩ : ∃ b, (decide (o.text.size <= 60)) = b := ⟨_, rfl⟩
 rw [hbq] at HQ ⊢
 clear hbq hc hs
 obtain ⟨kd, id, dst, ps, nm0, tx⟩ := o
 unfold Ops.opv at *
 obtain ⟨W, hW⟩ : ∃ W, W = w.alloc (.cells #[.int .i64 kd, .int .i64 id, .int .i64 dst, .int .i64 ps, .string nm0, .string tx] 40) := ⟨_, rfl⟩
 have HWb : Hid (Below w.heap.size w W) := Lib.hid (by rw [hW]; exact (Below.refl _ _).alloc (Nat.le_refl _) _)
 have HWk : Hid (W.heap[w.heap.size]? = some (.cells #[.int .i64 kd, .int .i64 id, .int .i64 dst, .int .i64 ps, .string nm0, .string tx] 40 (0, 0))) := Lib.hid (by rw [hW]; exact heap_alloc_new _ _)
 obtain ⟨x0, x1, x2, x3, x4, x5⟩ := block6 HWk.out
 have y0 := block1 (HC.out.below HWb.out).1
 generalize F.length = n at *
 go_enter Tryz.func120, Tryz.ntmps120
 go_upto_region 1 with fail
 rw [<- hW]
 clear hW
 go_wp2_with fail
 refine (HQ.out W HWb.out).mono ?_
 rintro e' w' ⟨rfl, hb⟩
 have HB := Lib.hid (HWb.out.trans (hb.mono HWb.out.size))
 clear hb x0 x1 x2 x3 x4 x5 y0
 have y1 := block1 (HC.out.below HB.out).2
 cases b
 · go_wp2
   go_ret
   exact ⟨rfl, HB.out⟩
 · go_wp2
   go_ret
   exact ⟨rfl, HB.out⟩
set_option maxHeartbeats 1000000 in
theorem u_hasRoom (kq ke : Nat) (err : Int) (A : Option Addr) (F : List Mn) (c : Nat) (o : Ops.Po) (w : World) (hc : ChkAt w kq ke (.func (.func 80) #[] #[]) err) (hn : F.length <= 1000) :
 Calls Tryz.prog 120 #[.slice A F.length c, Ops.opv o, .pointer (some ⟨kq, 0, none⟩), .pointer (some ⟨ke, 0, none⟩)] w (GivesV (.int .i64 (chkE (decide (F.length < 60)) err)) w) := by
 have HQ := Lib.hid (fun (V : World) (hb : Below w.heap.size w V) => q_hasRoom A F c o V hn)
 have HC := Lib.hid hc
 obtain ⟨b, hbq⟩ : ∃ b, (decide (F.length < 60)) = b := ⟨_, rfl⟩
 rw [hbq] at HQ ⊢
 clear hbq hc hn
 obtain ⟨kd, id, dst, ps, nm0, tx⟩ := o
 unfold Ops.opv at *
 obtain ⟨W, hW⟩ : ∃ W, W = w.alloc (.cells #[.int .i64 kd, .int .i64 id, .int .i64 dst, .int .i64 ps, .string nm0, .string tx] 40) := ⟨_, rfl⟩
 have HWb : Hid (Below w.heap.size w W) := Lib.hid (by rw [hW]; exact (Below.refl _ _).alloc (Nat.le_refl _) _)
 have HWk : Hid (W.heap[w.heap.size]? = some (.cells #[.int .i64 kd, .int .i64 id, .int .i64 dst, .int .i64 ps, .string nm0, .string tx] 40 (0, 0))) := Lib.hid (by rw [hW]; exact heap_alloc_new _ _)
 obtain ⟨x0, x1, x2, x3, x4, x5⟩ := block6 HWk.out
 have y0 := block1 (HC.out.below HWb.out).1
 generalize F.length = n at *
 go_enter Tryz.func120, Tryz.ntmps120
 go_upto_region 1 with fail
 rw [<- hW]
 clear hW
 go_wp2_with fail
 refine (HQ.out W HWb.out).mono ?_
 rintro e' w' ⟨rfl, hb⟩
 have HB := Lib.hid (HWb.out.trans (hb.mono HWb.out.size))
 clear hb x0 x1 x2 x3 x4 x5 y0
 have y1 := block1 (HC.out.below HB.out).2
 cases b
 · go_wp2
   go_ret
   exact ⟨rfl, HB.out⟩
 · go_wp2
   go_ret
   exact ⟨rfl, HB.out⟩
set_option maxHeartbeats 1000000 in
theorem u_idIsNode (kq ke : Nat) (err : Int) (A : Option Addr) (F : List Mn) (c : Nat) (o : Ops.Po) (w : World) (hc : ChkAt w kq ke (.func (.func 83) #[] #[]) err) (hn : F.length <= 1000) :
 Calls Tryz.prog 120 #[.slice A F.length c, Ops.opv o, .pointer (some ⟨kq, 0, none⟩), .pointer (some ⟨ke, 0, none⟩)] w (GivesV (.int .i64 (chkE (isB F o.id) err)) w) := by
 have HQ := Lib.hid (fun (V : World) (hb : Below w.heap.size w V) => q_idIsNode A F c o V hn)
 have HC := Lib.hid hc
 obtain ⟨b, hbq⟩ : ∃ b, (isB F o.id) = b := ⟨_, rfl⟩
 rw [hbq] at HQ ⊢
 clear hbq hc hn
 obtain ⟨kd, id, dst, ps, nm0, tx⟩ := o
 unfold Ops.opv at *
 obtain ⟨W, hW⟩ : ∃ W, W = w.alloc (.cells #[.int .i64 kd, .int .i64 id, .int .i64 dst, .int .i64 ps, .string nm0, .string tx] 40) := ⟨_, rfl⟩
 have HWb : Hid (Below w.heap.size w W) := Lib.hid (by rw [hW]; exact (Below.refl _ _).alloc (Nat.le_refl _) _)
 have HWk : Hid (W.heap[w.heap.size]? = some (.cells #[.int .i64 kd, .int .i64 id, .int .i64 dst, .int .i64 ps, .string nm0, .string tx] 40 (0, 0))) := Lib.hid (by rw [hW]; exact heap_alloc_new _ _)
 obtain ⟨x0, x1, x2, x3, x4, x5⟩ := block6 HWk.out
 have y0 := block1 (HC.out.below HWb.out).1
 generalize F.length = n at *
 go_enter Tryz.func120, Tryz.ntmps120
 go_upto_region 1 with fail
 rw [<- hW]
 clear hW
 go_wp2_with fail
 refine (HQ.out W HWb.out).mono ?_
 rintro e' w' ⟨rfl, hb⟩
 have HB := Lib.hid (HWb.out.trans (hb.mono HWb.out.size))
 clear hb x0 x1 x2 x3 x4 x5 y0
 have y1 := block1 (HC.out.below HB.out).2
 cases b
 · go_wp2
   go_ret
   exact ⟨rfl, HB.out⟩
 · go_wp2
   go_ret
   exact ⟨rfl, HB.out⟩
set_option maxHeartbeats 1000000 in
theorem u_toIsNode (kq ke : Nat) (err : Int) (A : Option Addr) (F : List Mn) (c : Nat) (o : Ops.Po) (w : World) (hc : ChkAt w kq ke (.func (.func 84) #[] #[]) err) (hn : F.length <= 1000) :
 Calls Tryz.prog 120 #[.slice A F.length c, Ops.opv o, .pointer (some ⟨kq, 0, none⟩), .pointer (some ⟨ke, 0, none⟩)] w (GivesV (.int .i64 (chkE (isB F o.dst) err)) w) := by
 have HQ := Lib.hid (fun (V : World) (hb : Below w.heap.size w V) => q_toIsNode A F c o V hn)
 have HC := Lib.hid hc
 obtain ⟨b, hbq⟩ : ∃ b, (isB F o.dst) = b := ⟨_, rfl⟩
 rw [hbq] at HQ ⊢
 clear hbq hc hn
 obtain ⟨kd, id, dst, ps, nm0, tx⟩ := o
 unfold Ops.opv at *
 obtain ⟨W, hW⟩ : ∃ W, W = w.alloc (.cells #[.int .i64 kd, .int .i64 id, .int .i64 dst, .int .i64 ps, .string nm0, .string tx] 40) := ⟨_, rfl⟩
 have HWb : Hid (Below w.heap.size w W) := Lib.hid (by rw [hW]; exact (Below.refl _ _).alloc (Nat.le_refl _) _)
 have HWk : Hid (W.heap[w.heap.size]? = some (.cells #[.int .i64 kd, .int .i64 id, .int .i64 dst, .int .i64 ps, .string nm0, .string tx] 40 (0, 0))) := Lib.hid (by rw [hW]; exact heap_alloc_new _ _)
 obtain ⟨x0, x1, x2, x3, x4, x5⟩ := block6 HWk.out
 have y0 := block1 (HC.out.below HWb.out).1
 generalize F.length = n at *
 go_enter Tryz.func120, Tryz.ntmps120
 go_upto_region 1 with fail
 rw [<- hW]
 clear hW
 go_wp2_with fail
 refine (HQ.out W HWb.out).mono ?_
 rintro e' w' ⟨rfl, hb⟩
 have HB := Lib.hid (HWb.out.trans (hb.mono HWb.out.size))
 clear hb x0 x1 x2 x3 x4 x5 y0
 have y1 := block1 (HC.out.below HB.out).2
 cases b
 · go_wp2
   go_ret
   exact ⟨rfl, HB.out⟩
 · go_wp2
   go_ret
   exact ⟨rfl, HB.out⟩
set_option maxHeartbeats 1000000 in
theorem u_idMayMove (kq ke : Nat) (err : Int) (A : Option Addr) (F : List Mn) (c : Nat) (o : Ops.Po) (w : World) (hc : ChkAt w kq ke (.func (.func 85) #[] #[]) err)  :
 Calls Tryz.prog 120 #[.slice A F.length c, Ops.opv o, .pointer (some ⟨kq, 0, none⟩), .pointer (some ⟨ke, 0, none⟩)] w (GivesV (.int .i64 (chkE (o.id != 0) err)) w) := by
 have HQ := Lib.hid (fun (V : World) (hb : Below w.heap.size w V) => q_idMayMove A F c o V )
 have HC := Lib.hid hc
 obtain ⟨b, hbq⟩ : ∃ b, (o.id != 0) = b := ⟨_, rfl⟩
 rw [hbq] at HQ ⊢
 clear hbq hc
 obtain ⟨kd, id, dst, ps, nm0, tx⟩ := o
 unfold Ops.opv at *
 obtain ⟨W, hW⟩ : ∃ W, W = w.alloc (.cells #[.int .i64 kd, .int .i64 id, .int .i64 dst, .int .i64 ps, .string nm0, .string tx] 40) := ⟨_, rfl⟩
 have HWb : Hid (Below w.heap.size w W) := Lib.hid (by rw [hW]; exact (Below.refl _ _).alloc (Nat.le_refl _) _)
 have HWk : Hid (W.heap[w.heap.size]? = some (.cells #[.int .i64 kd, .int .i64 id, .int .i64 dst, .int .i64 ps, .string nm0, .string tx] 40 (0, 0))) := Lib.hid (by rw [hW]; exact heap_alloc_new _ _)
 obtain ⟨x0, x1, x2, x3, x4, x5⟩ := block6 HWk.out
 have y0 := block1 (HC.out.below HWb.out).1
 generalize F.length = n at *
 go_enter Tryz.func120, Tryz.ntmps120
 go_upto_region 1 with fail
 rw [<- hW]
 clear hW
 go_wp2_with fail
 refine (HQ.out W HWb.out).mono ?_
 rintro e' w' ⟨rfl, hb⟩
 have HB := Lib.hid (HWb.out.trans (hb.mono HWb.out.size))
 clear hb x0 x1 x2 x3 x4 x5 y0
 have y1 := block1 (HC.out.below HB.out).2
 cases b
 · go_wp2
   go_ret
   exact ⟨rfl, HB.out⟩
 · go_wp2
   go_ret
   exact ⟨rfl, HB.out⟩
set_option maxHeartbeats 1000000 in
theorem u_hasParent (kq ke : Nat) (err : Int) (A : Option Addr) (F : List Mn) (c : Nat) (o : Ops.Po) (w : World) (hc : ChkAt w kq ke (.func (.func 91) #[] #[]) err) (hF : FR w A F) (hn : F.length <= 1000) (i : Nat) (hi : o.id = i) (hil : i < F.length) :
 Calls Tryz.prog 120 #[.slice A F.length c, Ops.opv o, .pointer (some ⟨kq, 0, none⟩), .pointer (some ⟨ke, 0, none⟩)] w (GivesV (.int .i64 (chkE (par F i != -1) err)) w) := by
 have HQ := Lib.hid (fun (V : World) (hb : Below w.heap.size w V) => q_hasParent A F c o V (hF.below hb) hn i hi hil)
 have HC := Lib.hid hc
 obtain ⟨b, hbq⟩ : ∃ b, (par F i != -1) = b := ⟨_, rfl⟩
 rw [hbq] at HQ ⊢
 clear hbq hc hF hn hi hil
 obtain ⟨kd, id, dst, ps, nm0, tx⟩ := o
 unfold Ops.opv at *
 obtain ⟨W, hW⟩ : ∃ W, W = w.alloc (.cells #[.int .i64 kd, .int .i64 id, .int .i64 dst, .int .i64 ps, .string nm0, .string tx] 40) := ⟨_, rfl⟩
 have HWb : Hid (Below w.heap.size w W) := Lib.hid (by rw [hW]; exact (Below.refl _ _).alloc (Nat.le_refl _) _)
 have HWk : Hid (W.heap[w.heap.size]? = some (.cells #[.int .i64 kd, .int .i64 id, .int .i64 dst, .int .i64 ps, .string nm0, .string tx] 40 (0, 0))) := Lib.hid (by rw [hW]; exact heap_alloc_new _ _)
 obtain ⟨x0, x1, x2, x3, x4, x5⟩ := block6 HWk.out
 have y0 := block1 (HC.out.below HWb.out).1
 generalize F.length = n at *
 go_enter Tryz.func120, Tryz.ntmps120
 go_upto_region 1 with fail
 rw [<- hW]
 clear hW
 go_wp2_with fail
 refine (HQ.out W HWb.out).mono ?_
 rintro e' w' ⟨rfl, hb⟩
 have HB := Lib.hid (HWb.out.trans (hb.mono HWb.out.size))
 clear hb x0 x1 x2 x3 x4 x5 y0
 have y1 := block1 (HC.out.below HB.out).2
 cases b
 · go_wp2
   go_ret
   exact ⟨rfl, HB.out⟩
 · go_wp2
   go_ret
   exact ⟨rfl, HB.out⟩
set_option maxHeartbeats 1000000 in
theorem u_toMayHaveKids (kq ke : Nat) (err : Int) (A : Option Addr) (F : List Mn) (c : Nat) (o : Ops.Po) (w : World) (hc : ChkAt w kq ke (.func (.func 86) #[] #[]) err) (hF : FR w A F) (hn : F.length <= 1000) (i : Nat) (hi : o.dst = i) (hil : i < F.length) :
 Calls Tryz.prog 120 #[.slice A F.length c, Ops.opv o, .pointer (some ⟨kq, 0, none⟩), .pointer (some ⟨ke, 0, none⟩)] w (GivesV (.int .i64 (chkE (decide (o.dst = 0 \/ kindOf F i = 1)) err)) w) := by
 have HQ := Lib.hid (fun (V : World) (hb : Below w.heap.size w V) => q_toMayHaveKids A F c o V (hF.below hb) hn i hi hil)
 have HC := Lib.hid hc
 obtain ⟨b, hbq⟩ : ∃ b, (decide (o.dst = 0 \/ kindOf F i = 1)) = b := ⟨_, rfl⟩
 rw [hbq] at HQ ⊢
 clear hbq hc hF hn hi hil
 obtain ⟨kd, id, dst, ps, nm0, tx⟩ := o
 unfold Ops.opv at *
 obtain ⟨W, hW⟩ : ∃ W, W = w.alloc (.cells #[.int .i64 kd, .int .i64 id, .int .i64 dst, .int .i64 ps, .string nm0, .string tx] 40) := ⟨_, rfl⟩
 have HWb : Hid (Below w.heap.size w W) := Lib.hid (by rw [hW]; exact (Below.refl _ _).alloc (Nat.le_refl _) _)
 have HWk : Hid (W.heap[w.heap.size]? = some (.cells #[.int .i64 kd, .int .i64 id, .int .i64 dst, .int .i64 ps, .string nm0, .string tx] 40 (0, 0))) := Lib.hid (by rw [hW]; exact heap_alloc_new _ _)
 obtain ⟨x0, x1, x2, x3, x4, x5⟩ := block6 HWk.out
 have y0 := block1 (HC.out.below HWb.out).1
 generalize F.length = n at *
 go_enter Tryz.func120, Tryz.ntmps120
 go_upto_region 1 with fail
 rw [<- hW]
 clear hW
 go_wp2_with fail
 refine (HQ.out W HWb.out).mono ?_
 rintro e' w' ⟨rfl, hb⟩
 have HB := Lib.hid (HWb.out.trans (hb.mono HWb.out.size))
 clear hb x0 x1 x2 x3 x4 x5 y0
 have y1 := block1 (HC.out.below HB.out).2
 cases b
 · go_wp2
   go_ret
   exact ⟨rfl, HB.out⟩
 · go_wp2
   go_ret
   exact ⟨rfl, HB.out⟩
set_option maxHeartbeats 1000000 in
theorem u_staysAbove (kq ke : Nat) (err : Int) (A : Option Addr) (F : List Mn) (c : Nat) (o : Ops.Po) (w : World) (hc : ChkAt w kq ke (.func (.func 88) #[] #[]) err) (hF : FR w A F) (hz : Sz F) :
 Calls Tryz.prog 120 #[.slice A F.length c, Ops.opv o, .pointer (some ⟨kq, 0, none⟩), .pointer (some ⟨ke, 0, none⟩)] w (GivesV (.int .i64 (chkE (!belowB F o.id o.dst) err)) w) := by
 have HQ := Lib.hid (fun (V : World) (hb : Below w.heap.size w V) => q_staysAbove A F c o V (hF.below hb) hz)
 have HC := Lib.hid hc
 obtain ⟨b, hbq⟩ : ∃ b, (!belowB F o.id o.dst) = b := ⟨_, rfl⟩
 rw [hbq] at HQ ⊢
 clear hbq hc hF hz
 obtain ⟨kd, id, dst, ps, nm0, tx⟩ := o
 unfold Ops.opv at *
 obtain ⟨W, hW⟩ : ∃ W, W = w.alloc (.cells #[.int .i64 kd, .int .i64 id, .int .i64 dst, .int .i64 ps, .string nm0, .string tx] 40) := ⟨_, rfl⟩
 have HWb : Hid (Below w.heap.size w W) := Lib.hid (by rw [hW]; exact (Below.refl _ _).alloc (Nat.le_refl _) _)
 have HWk : Hid (W.heap[w.heap.size]? = some (.cells #[.int .i64 kd, .int .i64 id, .int .i64 dst, .int .i64 ps, .string nm0, .string tx] 40 (0, 0))) := Lib.hid (by rw [hW]; exact heap_alloc_new _ _)
 obtain ⟨x0, x1, x2, x3, x4, x5⟩ := block6 HWk.out
 have y0 := block1 (HC.out.below HWb.out).1
 generalize F.length = n at *
 go_enter Tryz.func120, Tryz.ntmps120
 go_upto_region 1 with fail
 rw [<- hW]
 clear hW
 go_wp2_with fail
 refine (HQ.out W HWb.out).mono ?_
 rintro e' w' ⟨rfl, hb⟩
 have HB := Lib.hid (HWb.out.trans (hb.mono HWb.out.size))
 clear hb x0 x1 x2 x3 x4 x5 y0
 have y1 := block1 (HC.out.below HB.out).2
 cases b
 · go_wp2
   go_ret
   exact ⟨rfl, HB.out⟩
 · go_wp2
   go_ret
   exact ⟨rfl, HB.out⟩
set_option maxHeartbeats 1000000 in
theorem u_atIsPlace (kq ke : Nat) (err : Int) (A : Option Addr) (F : List Mn) (c : Nat) (o : Ops.Po) (w : World) (hc : ChkAt w kq ke (.func (.func 89) #[] #[]) err) (hF : FR w A F) (hn : F.length <= 1000) (hk : ∀ m ∈ F, m.kids.length <= 1000) (i d : Nat) (hi : o.id = i) (hil : i < F.length) (hd : o.dst = d) (hdl : d < F.length) :
 Calls Tryz.prog 120 #[.slice A F.length c, Ops.opv o, .pointer (some ⟨kq, 0, none⟩), .pointer (some ⟨ke, 0, none⟩)] w (GivesV (.int .i64 (chkE (decide (0 <= o.pos /\ o.pos <= others F i d)) err)) w) := by
 have HQ := Lib.hid (fun (V : World) (hb : Below w.heap.size w V) => q_atIsPlace A F c o V (hF.below hb) hn hk i d hi hil hd hdl)
 have HC := Lib.hid hc
 obtain ⟨b, hbq⟩ : ∃ b, (decide (0 <= o.pos /\ o.pos <= others F i d)) = b := ⟨_, rfl⟩
 rw [hbq] at HQ ⊢
 clear hbq hc hF hn hk hi hil hd hdl
 obtain ⟨kd, id, dst, ps, nm0, tx⟩ := o
 unfold Ops.opv at *
 obtain ⟨W, hW⟩ : ∃ W, W = w.alloc (.cells #[.int .i64 kd, .int .i64 id, .int .i64 dst, .int .i64 ps, .string nm0, .string tx] 40) := ⟨_, rfl⟩
 have HWb : Hid (Below w.heap.size w W) := Lib.hid (by rw [hW]; exact (Below.refl _ _).alloc (Nat.le_refl _) _)
 have HWk : Hid (W.heap[w.heap.size]? = some (.cells #[.int .i64 kd, .int .i64 id, .int .i64 dst, .int .i64 ps, .string nm0, .string tx] 40 (0, 0))) := Lib.hid (by rw [hW]; exact heap_alloc_new _ _)
 obtain ⟨x0, x1, x2, x3, x4, x5⟩ := block6 HWk.out
 have y0 := block1 (HC.out.below HWb.out).1
 generalize F.length = n at *
 go_enter Tryz.func120, Tryz.ntmps120
 go_upto_region 1 with fail
 rw [<- hW]
 clear hW
 go_wp2_with fail
 refine (HQ.out W HWb.out).mono ?_
 rintro e' w' ⟨rfl, hb⟩
 have HB := Lib.hid (HWb.out.trans (hb.mono HWb.out.size))
 clear hb x0 x1 x2 x3 x4 x5 y0
 have y1 := block1 (HC.out.below HB.out).2
 cases b
 · go_wp2
   go_ret
   exact ⟨rfl, HB.out⟩
 · go_wp2
   go_ret
   exact ⟨rfl, HB.out⟩
set_option maxHeartbeats 1000000 in
theorem u_hasAttr (kq ke : Nat) (err : Int) (A : Option Addr) (F : List Mn) (c : Nat) (o : Ops.Po) (w : World) (hc : ChkAt w kq ke (.func (.func 96) #[] #[]) err) (hF : FR w A F) (hn : F.length <= 1000) (ha : ∀ m ∈ F, m.attrs.length <= 1000) (i : Nat) (hi : o.id = i) (hil : i < F.length) :
 Calls Tryz.prog 120 #[.slice A F.length c, Ops.opv o, .pointer (some ⟨kq, 0, none⟩), .pointer (some ⟨ke, 0, none⟩)] w (GivesV (.int .i64 (chkE (hasA (attrsOf F i) o.name) err)) w) := by
 have HQ := Lib.hid (fun (V : World) (hb : Below w.heap.size w V) => q_hasAttr A F c o V (hF.below hb) hn ha i hi hil)
 have HC := Lib.hid hc
 obtain ⟨b, hbq⟩ : ∃ b, (hasA (attrsOf F i) o.name) = b := ⟨_, rfl⟩
 rw [hbq] at HQ ⊢
 clear hbq hc hF hn ha hi hil
 obtain ⟨kd, id, dst, ps, nm0, tx⟩ := o
 unfold Ops.opv at *
 obtain ⟨W, hW⟩ : ∃ W, W = w.alloc (.cells #[.int .i64 kd, .int .i64 id, .int .i64 dst, .int .i64 ps, .string nm0, .string tx] 40) := ⟨_, rfl⟩
 have HWb : Hid (Below w.heap.size w W) := Lib.hid (by rw [hW]; exact (Below.refl _ _).alloc (Nat.le_refl _) _)
 have HWk : Hid (W.heap[w.heap.size]? = some (.cells #[.int .i64 kd, .int .i64 id, .int .i64 dst, .int .i64 ps, .string nm0, .string tx] 40 (0, 0))) := Lib.hid (by rw [hW]; exact heap_alloc_new _ _)
 obtain ⟨x0, x1, x2, x3, x4, x5⟩ := block6 HWk.out
 have y0 := block1 (HC.out.below HWb.out).1
 generalize F.length = n at *
 go_enter Tryz.func120, Tryz.ntmps120
 go_upto_region 1 with fail
 rw [<- hW]
 clear hW
 go_wp2_with fail
 refine (HQ.out W HWb.out).mono ?_
 rintro e' w' ⟨rfl, hb⟩
 have HB := Lib.hid (HWb.out.trans (hb.mono HWb.out.size))
 clear hb x0 x1 x2 x3 x4 x5 y0
 have y1 := block1 (HC.out.below HB.out).2
 cases b
 · go_wp2
   go_ret
   exact ⟨rfl, HB.out⟩
 · go_wp2
   go_ret
   exact ⟨rfl, HB.out⟩
set_option maxHeartbeats 1000000 in
theorem u_hasAttrOrRoom (kq ke : Nat) (err : Int) (A : Option Addr) (F : List Mn) (c : Nat) (o : Ops.Po) (w : World) (hc : ChkAt w kq ke (.func (.func 94) #[] #[]) err) (hF : FR w A F) (hn : F.length <= 1000) (ha : ∀ m ∈ F, m.attrs.length <= 1000) (i : Nat) (hi : o.id = i) (hil : i < F.length) :
 Calls Tryz.prog 120 #[.slice A F.length c, Ops.opv o, .pointer (some ⟨kq, 0, none⟩), .pointer (some ⟨ke, 0, none⟩)] w (GivesV (.int .i64 (chkE (hasA (attrsOf F i) o.name || decide ((attrsOf F i).length < 8)) err)) w) := by
 have HQ := Lib.hid (fun (V : World) (hb : Below w.heap.size w V) => q_hasAttrOrRoom A F c o V (hF.below hb) hn ha i hi hil)
 have HC := Lib.hid hc
 obtain ⟨b, hbq⟩ : ∃ b, (hasA (attrsOf F i) o.name || decide ((attrsOf F i).length < 8)) = b := ⟨_, rfl⟩
 rw [hbq] at HQ ⊢
 clear hbq hc hF hn ha hi hil
 obtain ⟨kd, id, dst, ps, nm0, tx⟩ := o
 unfold Ops.opv at *
 obtain ⟨W, hW⟩ : ∃ W, W = w.alloc (.cells #[.int .i64 kd, .int .i64 id, .int .i64 dst, .int .i64 ps, .string nm0, .string tx] 40) := ⟨_, rfl⟩
 have HWb : Hid (Below w.heap.size w W) := Lib.hid (by rw [hW]; exact (Below.refl _ _).alloc (Nat.le_refl _) _)
 have HWk : Hid (W.heap[w.heap.size]? = some (.cells #[.int .i64 kd, .int .i64 id, .int .i64 dst, .int .i64 ps, .string nm0, .string tx] 40 (0, 0))) := Lib.hid (by rw [hW]; exact heap_alloc_new _ _)
 obtain ⟨x0, x1, x2, x3, x4, x5⟩ := block6 HWk.out
 have y0 := block1 (HC.out.below HWb.out).1
 generalize F.length = n at *
 go_enter Tryz.func120, Tryz.ntmps120
 go_upto_region 1 with fail
 rw [<- hW]
 clear hW
 go_wp2_with fail
 refine (HQ.out W HWb.out).mono ?_
 rintro e' w' ⟨rfl, hb⟩
 have HB := Lib.hid (HWb.out.trans (hb.mono HWb.out.size))
 clear hb x0 x1 x2 x3 x4 x5 y0
 have y1 := block1 (HC.out.below HB.out).2
 cases b
 · go_wp2
   go_ret
   exact ⟨rfl, HB.out⟩
 · go_wp2
   go_ret
   exact ⟨rfl, HB.out⟩
set_option maxHeartbeats 1000000 in
theorem u_documentMayHaveIt (kq ke : Nat) (err : Int) (A : Option Addr) (F : List Mn) (c : Nat) (o : Ops.Po) (w : World) (hc : ChkAt w kq ke (.func (.func 87) #[] #[]) err) (hF : FR w A F) (hn : F.length <= 1000) (hks : ∀ m ∈ F, m.kids.length <= 1000) (hN : ∀ k ∈ kidsOf F 0, ∃ j : Nat, k = j /\ j < F.length) (i : Nat) (hi : o.id = i) (hil : i < F.length) :
 Calls Tryz.prog 120 #[.slice A F.length c, Ops.opv o, .pointer (some ⟨kq, 0, none⟩), .pointer (some ⟨ke, 0, none⟩)] w (GivesV (.int .i64 (chkE (decide (o.dst ≠ 0) || docMay F i) err)) w) := by
 have HQ := Lib.hid (fun (V : World) (hb : Below w.heap.size w V) => q_documentMayHaveIt A F c o V (hF.below hb) hn hks hN i hi hil)
 have HC := Lib.hid hc
 obtain ⟨b, hbq⟩ : ∃ b, (decide (o.dst ≠ 0) || docMay F i) = b := ⟨_, rfl⟩
 rw [hbq] at HQ ⊢
 clear hbq hc hF hn hks hN hi hil
 obtain ⟨kd, id, dst, ps, nm0, tx⟩ := o
 unfold Ops.opv at *
 obtain ⟨W, hW⟩ : ∃ W, W = w.alloc (.cells #[.int .i64 kd, .int .i64 id, .int .i64 dst, .int .i64 ps, .string nm0, .string tx] 40) := ⟨_, rfl⟩
 have HWb : Hid (Below w.heap.size w W) := Lib.hid (by rw [hW]; exact (Below.refl _ _).alloc (Nat.le_refl _) _)
 have HWk : Hid (W.heap[w.heap.size]? = some (.cells #[.int .i64 kd, .int .i64 id, .int .i64 dst, .int .i64 ps, .string nm0, .string tx] 40 (0, 0))) := Lib.hid (by rw [hW]; exact heap_alloc_new _ _)
 obtain ⟨x0, x1, x2, x3, x4, x5⟩ := block6 HWk.out
 have y0 := block1 (HC.out.below HWb.out).1
 generalize F.length = n at *
 go_enter Tryz.func120, Tryz.ntmps120
 go_upto_region 1 with fail
 rw [<- hW]
 clear hW
 go_wp2_with fail
 refine (HQ.out W HWb.out).mono ?_
 rintro e' w' ⟨rfl, hb⟩
 have HB := Lib.hid (HWb.out.trans (hb.mono HWb.out.size))
 clear hb x0 x1 x2 x3 x4 x5 y0
 have y1 := block1 (HC.out.below HB.out).2
 cases b
 · go_wp2
   go_ret
   exact ⟨rfl, HB.out⟩
 · go_wp2
   go_ret
   exact ⟨rfl, HB.out⟩
set_option maxHeartbeats 1000000 in
theorem u_idIs (kq ke : Nat) (err : Int) (A : Option Addr) (F : List Mn) (c : Nat) (o : Ops.Po) (w : World) (kk : Nat) (hc : ChkAt w kq ke (.func (.func 126) #[] #[.pointer (some ⟨kk, 0, none⟩)]) err) (Ak : Option Addr) (l : List Int) (ck : Nat) (hk : w.heap[kk]? = some (.cells #[.slice Ak l.length ck] 28 (0, 0))) (hI : IR w Ak l) (hl : l.length <= 1000) (hF : FR w A F) (hn : F.length <= 1000) (i : Nat) (hi : o.id = i) (hil : i < F.length) :
 Calls Tryz.prog 120 #[.slice A F.length c, Ops.opv o, .pointer (some ⟨kq, 0, none⟩), .pointer (some ⟨ke, 0, none⟩)] w (GivesV (.int .i64 (chkE (l.any (fun y => decide (y = kindOf F i))) err)) w) := by
 have HQ := Lib.hid (fun (V : World) (hb : Below w.heap.size w V) => q_idIs kk Ak l ck A F c o V ((hb.block _ (lt_of_block hk)).trans hk) (hI.below hb) hl (hF.below hb) hn i hi hil)
 have HC := Lib.hid hc
 obtain ⟨b, hbq⟩ : ∃ b, (l.any (fun y => decide (y = kindOf F i))) = b := ⟨_, rfl⟩
 rw [hbq] at HQ ⊢
 clear hbq hc hk hI hl hF hn hi hil
 obtain ⟨kd, id, dst, ps, nm0, tx⟩ := o
 unfold Ops.opv at *
 obtain ⟨W, hW⟩ : ∃ W, W = w.alloc (.cells #[.int .i64 kd, .int .i64 id, .int .i64 dst, .int .i64 ps, .string nm0, .string tx] 40) := ⟨_, rfl⟩
 have HWb : Hid (Below w.heap.size w W) := Lib.hid (by rw [hW]; exact (Below.refl _ _).alloc (Nat.le_refl _) _)
 have HWk : Hid (W.heap[w.heap.size]? = some (.cells #[.int .i64 kd, .int .i64 id, .int .i64 dst, .int .i64 ps, .string nm0, .string tx] 40 (0, 0))) := Lib.hid (by rw [hW]; exact heap_alloc_new _ _)
 obtain ⟨x0, x1, x2, x3, x4, x5⟩ := block6 HWk.out
 have y0 := block1 (HC.out.below HWb.out).1
 generalize F.length = n at *
 go_enter Tryz.func120, Tryz.ntmps120
 go_upto_region 1 with fail
 rw [<- hW]
 clear hW
 go_wp2_with fail
 refine (HQ.out W HWb.out).mono ?_
 rintro e' w' ⟨rfl, hb⟩
 have HB := Lib.hid (HWb.out.trans (hb.mono HWb.out.size))
 clear hb x0 x1 x2 x3 x4 x5 y0
 have y1 := block1 (HC.out.below HB.out).2
 cases b
 · go_wp2
   go_ret
   exact ⟨rfl, HB.out⟩
 · go_wp2
   go_ret
   exact ⟨rfl, HB.out⟩
end Go.Proofs.YtcndplnnighjkaaGreatDoor
