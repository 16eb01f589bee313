/-
  What an operation's kind has, handed on: op.through at one pair of closures.
-/
import Derived.Test.YtcndplnnighjkaaGreatDoorPG06
namespace Go.Proofs.YtcndplnnighjkaaGreatDoor.Ops
open Go.ChangeShapes Go.WideShapes Go.ChangeAt Go.RowKit
set_option linter.unusedVariables false
set_option linter.unusedSimpArgs false
set_option maxRecDepth 100000 in
set_option maxHeartbeats 4000000 in
theorem thrId1 {σ : Type} (Inv : σ -> World -> Prop) (gN : σ -> Int -> Int × σ) (gT : σ -> ByteArray -> ByteArray × σ)
 (rk : σ -> Nat) (PN : Int -> Prop) (PT : ByteArray -> Prop) (rN : ∀ s n, rk (gN s n).2 <= rk s + 1) (rT : ∀ s n, rk (gT s n).2 <= rk s + 1)
 (hN : ∀ s n V, rk s <= 2 -> PN n -> Inv s V -> Calls Tryz.prog 100 #[.int .i64 n] V fun e V' => e = .returned (.int .i64 (gN s n).1) /\ Inv (gN s n).2 V' /\ KeepO V V')
 (hT : ∀ s n V, rk s <= 2 -> PT n -> Inv s V -> Calls Tryz.prog 101 #[.string n] V fun e V' => e = .returned (.string (gT s n).1) /\ Inv (gT s n).2 V' /\ KeepO V V')
 (w : World) (hS : ∀ s V V', Inv s V -> Stab w.heap.size V V' -> Inv s V') (s : σ) (hr : rk s = 0) (hI : Inv s w) (hK : KT w) (i t a : Int) (n x : ByteArray) (pi : PN i) (pt : PN t) (pa : PN a) (pn : PT n) (px : PT x) :
 Calls Tryz.prog 99 #[opv ⟨1, i, t, a, n, x⟩, .func (.func 100) #[] #[], .func (.func 101) #[] #[]] w fun e w' => e = .returned (opv ⟨1, 0, 0, 0, (gT s n).1, ⟨#[]⟩⟩) /\ Inv (gT s n).2 w' := by
 have HN := Lib.hid hN
 have HT := Lib.hid hT
 have HS := Lib.hid hS
 have HI := Lib.hid hI
 have HRN := Lib.hid rN
 have HRT := Lib.hid rT
 have RK0 : Hid (rk s <= 0) := Lib.hid (Nat.le_of_eq hr)
 have hpi := Lib.hid pi
 have hpt := Lib.hid pt
 have hpa := Lib.hid pa
 have hpn := Lib.hid pn
 have hpx := Lib.hid px
 have hg := hK.1
 obtain ⟨t0, t1, t2, t3, t4, t5⟩ := hK.2 1 (by decide) (by decide)
 simp only [Nat.reduceMul, Nat.reduceAdd] at t0 t1 t2 t3 t4 t5
 rw [show hasI (1 : Nat) = false from rfl] at t1
 rw [show hasT (1 : Nat) = false from rfl] at t2 t3
 rw [show hasN (1 : Nat) = true from rfl] at t4
 rw [show hasX (1 : Nat) = false from rfl] at t5
 generalize kword (1 : Nat) = wd at *
 clear hN hT hS hI hK rN rT hr pi pt pa pn px
 unfold opv
 go_enter Tryz.func99, Tryz.ntmps99
 go_wp2_with fail
 obtain ⟨W, hW⟩ : ∃ W, W = (((w.alloc (.cells #[.int .i64 1, .int .i64 i, .int .i64 t, .int .i64 a, .string n, .string x] 40)).alloc (.cells #[.int .i64 0, .int .i64 0, .int .i64 0, .int .i64 0, .string ⟨#[]⟩, .string ⟨#[]⟩] 40)).alloc (.cells #[.string wd, .bool false, .bool false, .bool false, .bool true, .bool false] 143)).alloc (.cells #[.int .i64 1, .int .i64 0, .int .i64 0, .int .i64 0, .string ⟨#[]⟩, .string ⟨#[]⟩] 40) := ⟨_, rfl⟩
 rw [<- hW]
 obtain ⟨hSt, b0, b1, b2, b3⟩ := four_blocks hW
 have HI0 := Lib.hid (HS.out s w W HI.out hSt)
 have B0 := Lib.hid b0
 have B1 := Lib.hid b1
 have B2 := Lib.hid b2
 have B3 := Lib.hid b3
 clear hW hSt b0 b1 b2 b3 t0 t1 t2 t3 t4 t5
 refine (HT.out s n W (Nat.le_trans RK0.out (by omega)) hpn.out HI0.out).mono ?_
 rintro e V0 ⟨rfl, hI, hK⟩
 obtain ⟨r0, hr0⟩ : ∃ r, r = (gT s n).1 := ⟨_, rfl⟩
 obtain ⟨s1, hs1⟩ : ∃ r, r = (gT s n).2 := ⟨_, rfl⟩
 rw [<- hs1] at hI
 rw [<- hr0]
 have R0 := Lib.hid hr0
 have S1 := Lib.hid hs1
 have RK1 : Hid (rk s1 <= 1) := Lib.hid (by rw [S1.out]; exact Nat.le_trans (HRT.out _ _) (Nat.succ_le_succ RK0.out))
 clear hr0 hs1
 obtain ⟨b0, b1, b2, hSt, d0, d1, d2⟩ := keep_blocks 4 (.string r0) B0.out B1.out B2.out hK
 have d3 := keep_res (q := w.heap.size + 1 + 1 + 1) 4 (.string r0) B3.out hK
 obtain ⟨x0, x1, x2, x3, x4, x5⟩ := block6 b0
 obtain ⟨y0, y1, y2, y3, y4, y5⟩ := block6 b1
 obtain ⟨z0, z1, z2, z3, z4, z5⟩ := block6 b2
 have fz : V0.frozen? ⟨w.heap.size + 1 + 1 + 1, 4, none⟩ = false := by simp [World.frozen?, b2]
 obtain ⟨W1, hW⟩ : ∃ W, W = V0.setCell ⟨w.heap.size + 1 + 1 + 1, 4, none⟩ (.string r0) := ⟨_, rfl⟩
 rw [<- hW] at hSt d0 d1 d2 d3
 obtain ⟨e0, e1, e2, e3, e4, e5⟩ := block6 d0
 obtain ⟨f0, f1, f2, f3, f4, f5⟩ := block6 d1
 obtain ⟨g0, g1, g2, g3, g4, g5⟩ := block6 d2
 have HI1 := Lib.hid (HS.out _ _ _ hI hSt)
 have D0 := Lib.hid d0
 have D1 := Lib.hid d1
 have D2 := Lib.hid d2
 have D3 := Lib.hid d3
 have HW := Lib.hid hW
 clear hI hK hSt d0 d1 d2 d3 b0 b1 b2 B0 B1 B2 B3 hW
 obtain ⟨p0, p1, p2, p3, p4, p5⟩ := block6 D3.out
 have q0 := froz D3.out 0
 have q1 := froz D3.out 1
 have q2 := froz D3.out 2
 have q3 := froz D3.out 3
 have q4 := froz D3.out 4
 have q5 := froz D3.out 5
 go_wp2_with (rw [<- HW.out])
 clear fz HW x0 x1 x2 x3 x4 x5 y0 y1 y2 y3 y4 y5 z0 z1 z2 z3 z4 z5
 obtain rfl := R0.out
 obtain rfl := S1.out
 refine bodyPost_ret (v := opv ⟨1, 0, 0, 0, (gT s n).1, ⟨#[]⟩⟩) (by simp [results, Tryz.results99, go_sem, opv, p0, p1, p2, p3, p4, p5]) rfl ⟨rfl, HS.out _ _ _ HI1.out (stab_res D3.out (by omega) _ _ _ _ _ _)⟩
set_option maxRecDepth 100000 in
set_option maxHeartbeats 4000000 in
theorem thrId2 {σ : Type} (Inv : σ -> World -> Prop) (gN : σ -> Int -> Int × σ) (gT : σ -> ByteArray -> ByteArray × σ)
 (rk : σ -> Nat) (PN : Int -> Prop) (PT : ByteArray -> Prop) (rN : ∀ s n, rk (gN s n).2 <= rk s + 1) (rT : ∀ s n, rk (gT s n).2 <= rk s + 1)
 (hN : ∀ s n V, rk s <= 2 -> PN n -> Inv s V -> Calls Tryz.prog 100 #[.int .i64 n] V fun e V' => e = .returned (.int .i64 (gN s n).1) /\ Inv (gN s n).2 V' /\ KeepO V V')
 (hT : ∀ s n V, rk s <= 2 -> PT n -> Inv s V -> Calls Tryz.prog 101 #[.string n] V fun e V' => e = .returned (.string (gT s n).1) /\ Inv (gT s n).2 V' /\ KeepO V V')
 (w : World) (hS : ∀ s V V', Inv s V -> Stab w.heap.size V V' -> Inv s V') (s : σ) (hr : rk s = 0) (hI : Inv s w) (hK : KT w) (i t a : Int) (n x : ByteArray) (pi : PN i) (pt : PN t) (pa : PN a) (pn : PT n) (px : PT x) :
 Calls Tryz.prog 99 #[opv ⟨2, i, t, a, n, x⟩, .func (.func 100) #[] #[], .func (.func 101) #[] #[]] w fun e w' => e = .returned (opv ⟨2, 0, 0, 0, ⟨#[]⟩, (gT s x).1⟩) /\ Inv (gT s x).2 w' := by
 have HN := Lib.hid hN
 have HT := Lib.hid hT
 have HS := Lib.hid hS
 have HI := Lib.hid hI
 have HRN := Lib.hid rN
 have HRT := Lib.hid rT
 have RK0 : Hid (rk s <= 0) := Lib.hid (Nat.le_of_eq hr)
 have hpi := Lib.hid pi
 have hpt := Lib.hid pt
 have hpa := Lib.hid pa
 have hpn := Lib.hid pn
 have hpx := Lib.hid px
 have hg := hK.1
 obtain ⟨t0, t1, t2, t3, t4, t5⟩ := hK.2 2 (by decide) (by decide)
 simp only [Nat.reduceMul, Nat.reduceAdd] at t0 t1 t2 t3 t4 t5
 rw [show hasI (2 : Nat) = false from rfl] at t1
 rw [show hasT (2 : Nat) = false from rfl] at t2 t3
 rw [show hasN (2 : Nat) = false from rfl] at t4
 rw [show hasX (2 : Nat) = true from rfl] at t5
 generalize kword (2 : Nat) = wd at *
 clear hN hT hS hI hK rN rT hr pi pt pa pn px
 unfold opv
 go_enter Tryz.func99, Tryz.ntmps99
 go_wp2_with fail
 obtain ⟨W, hW⟩ : ∃ W, W = (((w.alloc (.cells #[.int .i64 2, .int .i64 i, .int .i64 t, .int .i64 a, .string n, .string x] 40)).alloc (.cells #[.int .i64 0, .int .i64 0, .int .i64 0, .int .i64 0, .string ⟨#[]⟩, .string ⟨#[]⟩] 40)).alloc (.cells #[.string wd, .bool false, .bool false, .bool false, .bool false, .bool true] 143)).alloc (.cells #[.int .i64 2, .int .i64 0, .int .i64 0, .int .i64 0, .string ⟨#[]⟩, .string ⟨#[]⟩] 40) := ⟨_, rfl⟩
 rw [<- hW]
 obtain ⟨hSt, b0, b1, b2, b3⟩ := four_blocks hW
 have HI0 := Lib.hid (HS.out s w W HI.out hSt)
 have B0 := Lib.hid b0
 have B1 := Lib.hid b1
 have B2 := Lib.hid b2
 have B3 := Lib.hid b3
 clear hW hSt b0 b1 b2 b3 t0 t1 t2 t3 t4 t5
 refine (HT.out s x W (Nat.le_trans RK0.out (by omega)) hpx.out HI0.out).mono ?_
 rintro e V0 ⟨rfl, hI, hK⟩
 obtain ⟨r0, hr0⟩ : ∃ r, r = (gT s x).1 := ⟨_, rfl⟩
 obtain ⟨s1, hs1⟩ : ∃ r, r = (gT s x).2 := ⟨_, rfl⟩
 rw [<- hs1] at hI
 rw [<- hr0]
 have R0 := Lib.hid hr0
 have S1 := Lib.hid hs1
 have RK1 : Hid (rk s1 <= 1) := Lib.hid (by rw [S1.out]; exact Nat.le_trans (HRT.out _ _) (Nat.succ_le_succ RK0.out))
 clear hr0 hs1
 obtain ⟨b0, b1, b2, hSt, d0, d1, d2⟩ := keep_blocks 5 (.string r0) B0.out B1.out B2.out hK
 have d3 := keep_res (q := w.heap.size + 1 + 1 + 1) 5 (.string r0) B3.out hK
 obtain ⟨x0, x1, x2, x3, x4, x5⟩ := block6 b0
 obtain ⟨y0, y1, y2, y3, y4, y5⟩ := block6 b1
 obtain ⟨z0, z1, z2, z3, z4, z5⟩ := block6 b2
 have fz : V0.frozen? ⟨w.heap.size + 1 + 1 + 1, 5, none⟩ = false := by simp [World.frozen?, b2]
 obtain ⟨W1, hW⟩ : ∃ W, W = V0.setCell ⟨w.heap.size + 1 + 1 + 1, 5, none⟩ (.string r0) := ⟨_, rfl⟩
 rw [<- hW] at hSt d0 d1 d2 d3
 obtain ⟨e0, e1, e2, e3, e4, e5⟩ := block6 d0
 obtain ⟨f0, f1, f2, f3, f4, f5⟩ := block6 d1
 obtain ⟨g0, g1, g2, g3, g4, g5⟩ := block6 d2
 have HI1 := Lib.hid (HS.out _ _ _ hI hSt)
 have D0 := Lib.hid d0
 have D1 := Lib.hid d1
 have D2 := Lib.hid d2
 have D3 := Lib.hid d3
 have HW := Lib.hid hW
 clear hI hK hSt d0 d1 d2 d3 b0 b1 b2 B0 B1 B2 B3 hW
 obtain ⟨p0, p1, p2, p3, p4, p5⟩ := block6 D3.out
 have q0 := froz D3.out 0
 have q1 := froz D3.out 1
 have q2 := froz D3.out 2
 have q3 := froz D3.out 3
 have q4 := froz D3.out 4
 have q5 := froz D3.out 5
 go_wp2_with (rw [<- HW.out])
 clear fz HW x0 x1 x2 x3 x4 x5 y0 y1 y2 y3 y4 y5 z0 z1 z2 z3 z4 z5
 obtain rfl := R0.out
 obtain rfl := S1.out
 refine bodyPost_ret (v := opv ⟨2, 0, 0, 0, ⟨#[]⟩, (gT s x).1⟩) (by simp [results, Tryz.results99, go_sem, opv, p0, p1, p2, p3, p4, p5]) rfl ⟨rfl, HS.out _ _ _ HI1.out (stab_res D3.out (by omega) _ _ _ _ _ _)⟩
set_option maxRecDepth 100000 in
set_option maxHeartbeats 4000000 in
theorem thrId3 {σ : Type} (Inv : σ -> World -> Prop) (gN : σ -> Int -> Int × σ) (gT : σ -> ByteArray -> ByteArray × σ)
 (rk : σ -> Nat) (PN : Int -> Prop) (PT : ByteArray -> Prop) (rN : ∀ s n, rk (gN s n).2 <= rk s + 1) (rT : ∀ s n, rk (gT s n).2 <= rk s + 1)
 (hN : ∀ s n V, rk s <= 2 -> PN n -> Inv s V -> Calls Tryz.prog 100 #[.int .i64 n] V fun e V' => e = .returned (.int .i64 (gN s n).1) /\ Inv (gN s n).2 V' /\ KeepO V V')
 (hT : ∀ s n V, rk s <= 2 -> PT n -> Inv s V -> Calls Tryz.prog 101 #[.string n] V fun e V' => e = .returned (.string (gT s n).1) /\ Inv (gT s n).2 V' /\ KeepO V V')
 (w : World) (hS : ∀ s V V', Inv s V -> Stab w.heap.size V V' -> Inv s V') (s : σ) (hr : rk s = 0) (hI : Inv s w) (hK : KT w) (i t a : Int) (n x : ByteArray) (pi : PN i) (pt : PN t) (pa : PN a) (pn : PT n) (px : PT x) :
 Calls Tryz.prog 99 #[opv ⟨3, i, t, a, n, x⟩, .func (.func 100) #[] #[], .func (.func 101) #[] #[]] w fun e w' => e = .returned (opv ⟨3, 0, 0, 0, ⟨#[]⟩, (gT s x).1⟩) /\ Inv (gT s x).2 w' := by
 have HN := Lib.hid hN
 have HT := Lib.hid hT
 have HS := Lib.hid hS
 have HI := Lib.hid hI
 have HRN := Lib.hid rN
 have HRT := Lib.hid rT
 have RK0 : Hid (rk s <= 0) := Lib.hid (Nat.le_of_eq hr)
 have hpi := Lib.hid pi
 have hpt := Lib.hid pt
 have hpa := Lib.hid pa
 have hpn := Lib.hid pn
 have hpx := Lib.hid px
 have hg := hK.1
 obtain ⟨t0, t1, t2, t3, t4, t5⟩ := hK.2 3 (by decide) (by decide)
 simp only [Nat.reduceMul, Nat.reduceAdd] at t0 t1 t2 t3 t4 t5
 rw [show hasI (3 : Nat) = false from rfl] at t1
 rw [show hasT (3 : Nat) = false from rfl] at t2 t3
 rw [show hasN (3 : Nat) = false from rfl] at t4
 rw [show hasX (3 : Nat) = true from rfl] at t5
 generalize kword (3 : Nat) = wd at *
 clear hN hT hS hI hK rN rT hr pi pt pa pn px
 unfold opv
 go_enter Tryz.func99, Tryz.ntmps99
 go_wp2_with fail
 obtain ⟨W, hW⟩ : ∃ W, W = (((w.alloc (.cells #[.int .i64 3, .int .i64 i, .int .i64 t, .int .i64 a, .string n, .string x] 40)).alloc (.cells #[.int .i64 0, .int .i64 0, .int .i64 0, .int .i64 0, .string ⟨#[]⟩, .string ⟨#[]⟩] 40)).alloc (.cells #[.string wd, .bool false, .bool false, .bool false, .bool false, .bool true] 143)).alloc (.cells #[.int .i64 3, .int .i64 0, .int .i64 0, .int .i64 0, .string ⟨#[]⟩, .string ⟨#[]⟩] 40) := ⟨_, rfl⟩
 rw [<- hW]
 obtain ⟨hSt, b0, b1, b2, b3⟩ := four_blocks hW
 have HI0 := Lib.hid (HS.out s w W HI.out hSt)
 have B0 := Lib.hid b0
 have B1 := Lib.hid b1
 have B2 := Lib.hid b2
 have B3 := Lib.hid b3
 clear hW hSt b0 b1 b2 b3 t0 t1 t2 t3 t4 t5
 refine (HT.out s x W (Nat.le_trans RK0.out (by omega)) hpx.out HI0.out).mono ?_
 rintro e V0 ⟨rfl, hI, hK⟩
 obtain ⟨r0, hr0⟩ : ∃ r, r = (gT s x).1 := ⟨_, rfl⟩
 obtain ⟨s1, hs1⟩ : ∃ r, r = (gT s x).2 := ⟨_, rfl⟩
 rw [<- hs1] at hI
 rw [<- hr0]
 have R0 := Lib.hid hr0
 have S1 := Lib.hid hs1
 have RK1 : Hid (rk s1 <= 1) := Lib.hid (by rw [S1.out]; exact Nat.le_trans (HRT.out _ _) (Nat.succ_le_succ RK0.out))
 clear hr0 hs1
 obtain ⟨b0, b1, b2, hSt, d0, d1, d2⟩ := keep_blocks 5 (.string r0) B0.out B1.out B2.out hK
 have d3 := keep_res (q := w.heap.size + 1 + 1 + 1) 5 (.string r0) B3.out hK
 obtain ⟨x0, x1, x2, x3, x4, x5⟩ := block6 b0
 obtain ⟨y0, y1, y2, y3, y4, y5⟩ := block6 b1
 obtain ⟨z0, z1, z2, z3, z4, z5⟩ := block6 b2
 have fz : V0.frozen? ⟨w.heap.size + 1 + 1 + 1, 5, none⟩ = false := by simp [World.frozen?, b2]
 obtain ⟨W1, hW⟩ : ∃ W, W = V0.setCell ⟨w.heap.size + 1 + 1 + 1, 5, none⟩ (.string r0) := ⟨_, rfl⟩
 rw [<- hW] at hSt d0 d1 d2 d3
 obtain ⟨e0, e1, e2, e3, e4, e5⟩ := block6 d0
 obtain ⟨f0, f1, f2, f3, f4, f5⟩ := block6 d1
 obtain ⟨g0, g1, g2, g3, g4, g5⟩ := block6 d2
 have HI1 := Lib.hid (HS.out _ _ _ hI hSt)
 have D0 := Lib.hid d0
 have D1 := Lib.hid d1
 have D2 := Lib.hid d2
 have D3 := Lib.hid d3
 have HW := Lib.hid hW
 clear hI hK hSt d0 d1 d2 d3 b0 b1 b2 B0 B1 B2 B3 hW
 obtain ⟨p0, p1, p2, p3, p4, p5⟩ := block6 D3.out
 have q0 := froz D3.out 0
 have q1 := froz D3.out 1
 have q2 := froz D3.out 2
 have q3 := froz D3.out 3
 have q4 := froz D3.out 4
 have q5 := froz D3.out 5
 go_wp2_with (rw [<- HW.out])
 clear fz HW x0 x1 x2 x3 x4 x5 y0 y1 y2 y3 y4 y5 z0 z1 z2 z3 z4 z5
 obtain rfl := R0.out
 obtain rfl := S1.out
 refine bodyPost_ret (v := opv ⟨3, 0, 0, 0, ⟨#[]⟩, (gT s x).1⟩) (by simp [results, Tryz.results99, go_sem, opv, p0, p1, p2, p3, p4, p5]) rfl ⟨rfl, HS.out _ _ _ HI1.out (stab_res D3.out (by omega) _ _ _ _ _ _)⟩
set_option maxRecDepth 100000 in
set_option maxHeartbeats 4000000 in
theorem thrId4 {σ : Type} (Inv : σ -> World -> Prop) (gN : σ -> Int -> Int × σ) (gT : σ -> ByteArray -> ByteArray × σ)
 (rk : σ -> Nat) (PN : Int -> Prop) (PT : ByteArray -> Prop) (rN : ∀ s n, rk (gN s n).2 <= rk s + 1) (rT : ∀ s n, rk (gT s n).2 <= rk s + 1)
 (hN : ∀ s n V, rk s <= 2 -> PN n -> Inv s V -> Calls Tryz.prog 100 #[.int .i64 n] V fun e V' => e = .returned (.int .i64 (gN s n).1) /\ Inv (gN s n).2 V' /\ KeepO V V')
 (hT : ∀ s n V, rk s <= 2 -> PT n -> Inv s V -> Calls Tryz.prog 101 #[.string n] V fun e V' => e = .returned (.string (gT s n).1) /\ Inv (gT s n).2 V' /\ KeepO V V')
 (w : World) (hS : ∀ s V V', Inv s V -> Stab w.heap.size V V' -> Inv s V') (s : σ) (hr : rk s = 0) (hI : Inv s w) (hK : KT w) (i t a : Int) (n x : ByteArray) (pi : PN i) (pt : PN t) (pa : PN a) (pn : PT n) (px : PT x) :
 Calls Tryz.prog 99 #[opv ⟨4, i, t, a, n, x⟩, .func (.func 100) #[] #[], .func (.func 101) #[] #[]] w fun e w' => e = .returned (opv ⟨4, (gN s i).1, (gN (gN s i).2 t).1, (gN (gN (gN s i).2 t).2 a).1, ⟨#[]⟩, ⟨#[]⟩⟩) /\ Inv (gN (gN (gN s i).2 t).2 a).2 w' := by
 have HN := Lib.hid hN
 have HT := Lib.hid hT
 have HS := Lib.hid hS
 have HI := Lib.hid hI
 have HRN := Lib.hid rN
 have HRT := Lib.hid rT
 have RK0 : Hid (rk s <= 0) := Lib.hid (Nat.le_of_eq hr)
 have hpi := Lib.hid pi
 have hpt := Lib.hid pt
 have hpa := Lib.hid pa
 have hpn := Lib.hid pn
 have hpx := Lib.hid px
 have hg := hK.1
 obtain ⟨t0, t1, t2, t3, t4, t5⟩ := hK.2 4 (by decide) (by decide)
 simp only [Nat.reduceMul, Nat.reduceAdd] at t0 t1 t2 t3 t4 t5
 rw [show hasI (4 : Nat) = true from rfl] at t1
 rw [show hasT (4 : Nat) = true from rfl] at t2 t3
 rw [show hasN (4 : Nat) = false from rfl] at t4
 rw [show hasX (4 : Nat) = false from rfl] at t5
 generalize kword (4 : Nat) = wd at *
 clear hN hT hS hI hK rN rT hr pi pt pa pn px
 unfold opv
 go_enter Tryz.func99, Tryz.ntmps99
 go_wp2_with fail
 obtain ⟨W, hW⟩ : ∃ W, W = (((w.alloc (.cells #[.int .i64 4, .int .i64 i, .int .i64 t, .int .i64 a, .string n, .string x] 40)).alloc (.cells #[.int .i64 0, .int .i64 0, .int .i64 0, .int .i64 0, .string ⟨#[]⟩, .string ⟨#[]⟩] 40)).alloc (.cells #[.string wd, .bool true, .bool true, .bool true, .bool false, .bool false] 143)).alloc (.cells #[.int .i64 4, .int .i64 0, .int .i64 0, .int .i64 0, .string ⟨#[]⟩, .string ⟨#[]⟩] 40) := ⟨_, rfl⟩
 rw [<- hW]
 obtain ⟨hSt, b0, b1, b2, b3⟩ := four_blocks hW
 have HI0 := Lib.hid (HS.out s w W HI.out hSt)
 have B0 := Lib.hid b0
 have B1 := Lib.hid b1
 have B2 := Lib.hid b2
 have B3 := Lib.hid b3
 clear hW hSt b0 b1 b2 b3 t0 t1 t2 t3 t4 t5
 refine (HN.out s i W (Nat.le_trans RK0.out (by omega)) hpi.out HI0.out).mono ?_
 rintro e V0 ⟨rfl, hI, hK⟩
 obtain ⟨r0, hr0⟩ : ∃ r, r = (gN s i).1 := ⟨_, rfl⟩
 obtain ⟨s1, hs1⟩ : ∃ r, r = (gN s i).2 := ⟨_, rfl⟩
 rw [<- hs1] at hI
 rw [<- hr0]
 have R0 := Lib.hid hr0
 have S1 := Lib.hid hs1
 have RK1 : Hid (rk s1 <= 1) := Lib.hid (by rw [S1.out]; exact Nat.le_trans (HRN.out _ _) (Nat.succ_le_succ RK0.out))
 clear hr0 hs1
 obtain ⟨b0, b1, b2, hSt, d0, d1, d2⟩ := keep_blocks 1 (.int .i64 r0) B0.out B1.out B2.out hK
 have d3 := keep_res (q := w.heap.size + 1 + 1 + 1) 1 (.int .i64 r0) B3.out hK
 obtain ⟨x0, x1, x2, x3, x4, x5⟩ := block6 b0
 obtain ⟨y0, y1, y2, y3, y4, y5⟩ := block6 b1
 obtain ⟨z0, z1, z2, z3, z4, z5⟩ := block6 b2
 have fz : V0.frozen? ⟨w.heap.size + 1 + 1 + 1, 1, none⟩ = false := by simp [World.frozen?, b2]
 obtain ⟨W1, hW⟩ : ∃ W, W = V0.setCell ⟨w.heap.size + 1 + 1 + 1, 1, none⟩ (.int .i64 r0) := ⟨_, rfl⟩
 rw [<- hW] at hSt d0 d1 d2 d3
 obtain ⟨e0, e1, e2, e3, e4, e5⟩ := block6 d0
 obtain ⟨f0, f1, f2, f3, f4, f5⟩ := block6 d1
 obtain ⟨g0, g1, g2, g3, g4, g5⟩ := block6 d2
 have HI1 := Lib.hid (HS.out _ _ _ hI hSt)
 have D0 := Lib.hid d0
 have D1 := Lib.hid d1
 have D2 := Lib.hid d2
 have D3 := Lib.hid d3
 have HW := Lib.hid hW
 clear hI hK hSt d0 d1 d2 d3 b0 b1 b2 B0 B1 B2 B3 hW
 go_wp2_with (rw [<- HW.out])
 clear fz HW x0 x1 x2 x3 x4 x5 y0 y1 y2 y3 y4 y5 z0 z1 z2 z3 z4 z5
 clear e0 e1 e2 e3 e4 e5 f0 f1 f2 f3 f4 f5 g0 g1 g2 g3 g4 g5
 have B0 := Lib.hid D0.out
 have B1 := Lib.hid D1.out
 have B2 := Lib.hid D2.out
 have B3 := Lib.hid D3.out
 clear D0 D1 D2 D3
 refine (HN.out s1 t W1 (Nat.le_trans RK1.out (by omega)) hpt.out HI1.out).mono ?_
 rintro e V1 ⟨rfl, hI, hK⟩
 obtain ⟨r1, hr1⟩ : ∃ r, r = (gN s1 t).1 := ⟨_, rfl⟩
 obtain ⟨s2, hs2⟩ : ∃ r, r = (gN s1 t).2 := ⟨_, rfl⟩
 rw [<- hs2] at hI
 rw [<- hr1]
 have R1 := Lib.hid hr1
 have S2 := Lib.hid hs2
 have RK2 : Hid (rk s2 <= 2) := Lib.hid (by rw [S2.out]; exact Nat.le_trans (HRN.out _ _) (Nat.succ_le_succ RK1.out))
 clear hr1 hs2
 obtain ⟨b0, b1, b2, hSt, d0, d1, d2⟩ := keep_blocks 2 (.int .i64 r1) B0.out B1.out B2.out hK
 have d3 := keep_res (q := w.heap.size + 1 + 1 + 1) 2 (.int .i64 r1) B3.out hK
 obtain ⟨x0, x1, x2, x3, x4, x5⟩ := block6 b0
 obtain ⟨y0, y1, y2, y3, y4, y5⟩ := block6 b1
 obtain ⟨z0, z1, z2, z3, z4, z5⟩ := block6 b2
 have fz : V1.frozen? ⟨w.heap.size + 1 + 1 + 1, 2, none⟩ = false := by simp [World.frozen?, b2]
 obtain ⟨W2, hW⟩ : ∃ W, W = V1.setCell ⟨w.heap.size + 1 + 1 + 1, 2, none⟩ (.int .i64 r1) := ⟨_, rfl⟩
 rw [<- hW] at hSt d0 d1 d2 d3
 obtain ⟨e0, e1, e2, e3, e4, e5⟩ := block6 d0
 obtain ⟨f0, f1, f2, f3, f4, f5⟩ := block6 d1
 obtain ⟨g0, g1, g2, g3, g4, g5⟩ := block6 d2
 have HI2 := Lib.hid (HS.out _ _ _ hI hSt)
 have D0 := Lib.hid d0
 have D1 := Lib.hid d1
 have D2 := Lib.hid d2
 have D3 := Lib.hid d3
 have HW := Lib.hid hW
 clear hI hK hSt d0 d1 d2 d3 b0 b1 b2 B0 B1 B2 B3 hW
 go_wp2_with (rw [<- HW.out])
 clear fz HW x0 x1 x2 x3 x4 x5 y0 y1 y2 y3 y4 y5 z0 z1 z2 z3 z4 z5
 clear e0 e1 e2 e3 e4 e5 f0 f1 f2 f3 f4 f5 g0 g1 g2 g3 g4 g5
 have B0 := Lib.hid D0.out
 have B1 := Lib.hid D1.out
 have B2 := Lib.hid D2.out
 have B3 := Lib.hid D3.out
 clear D0 D1 D2 D3
 refine (HN.out s2 a W2 (Nat.le_trans RK2.out (by omega)) hpa.out HI2.out).mono ?_
 rintro e V2 ⟨rfl, hI, hK⟩
 obtain ⟨r2, hr2⟩ : ∃ r, r = (gN s2 a).1 := ⟨_, rfl⟩
 obtain ⟨s3, hs3⟩ : ∃ r, r = (gN s2 a).2 := ⟨_, rfl⟩
 rw [<- hs3] at hI
 rw [<- hr2]
 have R2 := Lib.hid hr2
 have S3 := Lib.hid hs3
 have RK3 : Hid (rk s3 <= 3) := Lib.hid (by rw [S3.out]; exact Nat.le_trans (HRN.out _ _) (Nat.succ_le_succ RK2.out))
 clear hr2 hs3
 obtain ⟨b0, b1, b2, hSt, d0, d1, d2⟩ := keep_blocks 3 (.int .i64 r2) B0.out B1.out B2.out hK
 have d3 := keep_res (q := w.heap.size + 1 + 1 + 1) 3 (.int .i64 r2) B3.out hK
 obtain ⟨x0, x1, x2, x3, x4, x5⟩ := block6 b0
 obtain ⟨y0, y1, y2, y3, y4, y5⟩ := block6 b1
 obtain ⟨z0, z1, z2, z3, z4, z5⟩ := block6 b2
 have fz : V2.frozen? ⟨w.heap.size + 1 + 1 + 1, 3, none⟩ = false := by simp [World.frozen?, b2]
 obtain ⟨W3, hW⟩ : ∃ W, W = V2.setCell ⟨w.heap.size + 1 + 1 + 1, 3, none⟩ (.int .i64 r2) := ⟨_, rfl⟩
 rw [<- hW] at hSt d0 d1 d2 d3
 obtain ⟨e0, e1, e2, e3, e4, e5⟩ := block6 d0
 obtain ⟨f0, f1, f2, f3, f4, f5⟩ := block6 d1
 obtain ⟨g0, g1, g2, g3, g4, g5⟩ := block6 d2
 have HI3 := Lib.hid (HS.out _ _ _ hI hSt)
 have D0 := Lib.hid d0
 have D1 := Lib.hid d1
 have D2 := Lib.hid d2
 have D3 := Lib.hid d3
 have HW := Lib.hid hW
 clear hI hK hSt d0 d1 d2 d3 b0 b1 b2 B0 B1 B2 B3 hW
 obtain ⟨p0, p1, p2, p3, p4, p5⟩ := block6 D3.out
 have q0 := froz D3.out 0
 have q1 := froz D3.out 1
 have q2 := froz D3.out 2
 have q3 := froz D3.out 3
 have q4 := froz D3.out 4
 have q5 := froz D3.out 5
 go_wp2_with (rw [<- HW.out])
 clear fz HW x0 x1 x2 x3 x4 x5 y0 y1 y2 y3 y4 y5 z0 z1 z2 z3 z4 z5
 obtain rfl := R0.out
 obtain rfl := S1.out
 obtain rfl := R1.out
 obtain rfl := S2.out
 obtain rfl := R2.out
 obtain rfl := S3.out
 refine bodyPost_ret (v := opv ⟨4, (gN s i).1, (gN (gN s i).2 t).1, (gN (gN (gN s i).2 t).2 a).1, ⟨#[]⟩, ⟨#[]⟩⟩) (by simp [results, Tryz.results99, go_sem, opv, p0, p1, p2, p3, p4, p5]) rfl ⟨rfl, HS.out _ _ _ HI3.out (stab_res D3.out (by omega) _ _ _ _ _ _)⟩
set_option maxRecDepth 100000 in
set_option maxHeartbeats 4000000 in
theorem thrId5 {σ : Type} (Inv : σ -> World -> Prop) (gN : σ -> Int -> Int × σ) (gT : σ -> ByteArray -> ByteArray × σ)
 (rk : σ -> Nat) (PN : Int -> Prop) (PT : ByteArray -> Prop) (rN : ∀ s n, rk (gN s n).2 <= rk s + 1) (rT : ∀ s n, rk (gT s n).2 <= rk s + 1)
 (hN : ∀ s n V, rk s <= 2 -> PN n -> Inv s V -> Calls Tryz.prog 100 #[.int .i64 n] V fun e V' => e = .returned (.int .i64 (gN s n).1) /\ Inv (gN s n).2 V' /\ KeepO V V')
 (hT : ∀ s n V, rk s <= 2 -> PT n -> Inv s V -> Calls Tryz.prog 101 #[.string n] V fun e V' => e = .returned (.string (gT s n).1) /\ Inv (gT s n).2 V' /\ KeepO V V')
 (w : World) (hS : ∀ s V V', Inv s V -> Stab w.heap.size V V' -> Inv s V') (s : σ) (hr : rk s = 0) (hI : Inv s w) (hK : KT w) (i t a : Int) (n x : ByteArray) (pi : PN i) (pt : PN t) (pa : PN a) (pn : PT n) (px : PT x) :
 Calls Tryz.prog 99 #[opv ⟨5, i, t, a, n, x⟩, .func (.func 100) #[] #[], .func (.func 101) #[] #[]] w fun e w' => e = .returned (opv ⟨5, (gN s i).1, 0, 0, ⟨#[]⟩, ⟨#[]⟩⟩) /\ Inv (gN s i).2 w' := by
 have HN := Lib.hid hN
 have HT := Lib.hid hT
 have HS := Lib.hid hS
 have HI := Lib.hid hI
 have HRN := Lib.hid rN
 have HRT := Lib.hid rT
 have RK0 : Hid (rk s <= 0) := Lib.hid (Nat.le_of_eq hr)
 have hpi := Lib.hid pi
 have hpt := Lib.hid pt
 have hpa := Lib.hid pa
 have hpn := Lib.hid pn
 have hpx := Lib.hid px
 have hg := hK.1
 obtain ⟨t0, t1, t2, t3, t4, t5⟩ := hK.2 5 (by decide) (by decide)
 simp only [Nat.reduceMul, Nat.reduceAdd] at t0 t1 t2 t3 t4 t5
 rw [show hasI (5 : Nat) = true from rfl] at t1
 rw [show hasT (5 : Nat) = false from rfl] at t2 t3
 rw [show hasN (5 : Nat) = false from rfl] at t4
 rw [show hasX (5 : Nat) = false from rfl] at t5
 generalize kword (5 : Nat) = wd at *
 clear hN hT hS hI hK rN rT hr pi pt pa pn px
 unfold opv
 go_enter Tryz.func99, Tryz.ntmps99
 go_wp2_with fail
 obtain ⟨W, hW⟩ : ∃ W, W = (((w.alloc (.cells #[.int .i64 5, .int .i64 i, .int .i64 t, .int .i64 a, .string n, .string x] 40)).alloc (.cells #[.int .i64 0, .int .i64 0, .int .i64 0, .int .i64 0, .string ⟨#[]⟩, .string ⟨#[]⟩] 40)).alloc (.cells #[.string wd, .bool true, .bool false, .bool false, .bool false, .bool false] 143)).alloc (.cells #[.int .i64 5, .int .i64 0, .int .i64 0, .int .i64 0, .string ⟨#[]⟩, .string ⟨#[]⟩] 40) := ⟨_, rfl⟩
 rw [<- hW]
 obtain ⟨hSt, b0, b1, b2, b3⟩ := four_blocks hW
 have HI0 := Lib.hid (HS.out s w W HI.out hSt)
 have B0 := Lib.hid b0
 have B1 := Lib.hid b1
 have B2 := Lib.hid b2
 have B3 := Lib.hid b3
 clear hW hSt b0 b1 b2 b3 t0 t1 t2 t3 t4 t5
 refine (HN.out s i W (Nat.le_trans RK0.out (by omega)) hpi.out HI0.out).mono ?_
 rintro e V0 ⟨rfl, hI, hK⟩
 obtain ⟨r0, hr0⟩ : ∃ r, r = (gN s i).1 := ⟨_, rfl⟩
 obtain ⟨s1, hs1⟩ : ∃ r, r = (gN s i).2 := ⟨_, rfl⟩
 rw [<- hs1] at hI
 rw [<- hr0]
 have R0 := Lib.hid hr0
 have S1 := Lib.hid hs1
 have RK1 : Hid (rk s1 <= 1) := Lib.hid (by rw [S1.out]; exact Nat.le_trans (HRN.out _ _) (Nat.succ_le_succ RK0.out))
 clear hr0 hs1
 obtain ⟨b0, b1, b2, hSt, d0, d1, d2⟩ := keep_blocks 1 (.int .i64 r0) B0.out B1.out B2.out hK
 have d3 := keep_res (q := w.heap.size + 1 + 1 + 1) 1 (.int .i64 r0) B3.out hK
 obtain ⟨x0, x1, x2, x3, x4, x5⟩ := block6 b0
 obtain ⟨y0, y1, y2, y3, y4, y5⟩ := block6 b1
 obtain ⟨z0, z1, z2, z3, z4, z5⟩ := block6 b2
 have fz : V0.frozen? ⟨w.heap.size + 1 + 1 + 1, 1, none⟩ = false := by simp [World.frozen?, b2]
 obtain ⟨W1, hW⟩ : ∃ W, W = V0.setCell ⟨w.heap.size + 1 + 1 + 1, 1, none⟩ (.int .i64 r0) := ⟨_, rfl⟩
 rw [<- hW] at hSt d0 d1 d2 d3
 obtain ⟨e0, e1, e2, e3, e4, e5⟩ := block6 d0
 obtain ⟨f0, f1, f2, f3, f4, f5⟩ := block6 d1
 obtain ⟨g0, g1, g2, g3, g4, g5⟩ := block6 d2
 have HI1 := Lib.hid (HS.out _ _ _ hI hSt)
 have D0 := Lib.hid d0
 have D1 := Lib.hid d1
 have D2 := Lib.hid d2
 have D3 := Lib.hid d3
 have HW := Lib.hid hW
 clear hI hK hSt d0 d1 d2 d3 b0 b1 b2 B0 B1 B2 B3 hW
 obtain ⟨p0, p1, p2, p3, p4, p5⟩ := block6 D3.out
 have q0 := froz D3.out 0
 have q1 := froz D3.out 1
 have q2 := froz D3.out 2
 have q3 := froz D3.out 3
 have q4 := froz D3.out 4
 have q5 := froz D3.out 5
 go_wp2_with (rw [<- HW.out])
 clear fz HW x0 x1 x2 x3 x4 x5 y0 y1 y2 y3 y4 y5 z0 z1 z2 z3 z4 z5
 obtain rfl := R0.out
 obtain rfl := S1.out
 refine bodyPost_ret (v := opv ⟨5, (gN s i).1, 0, 0, ⟨#[]⟩, ⟨#[]⟩⟩) (by simp [results, Tryz.results99, go_sem, opv, p0, p1, p2, p3, p4, p5]) rfl ⟨rfl, HS.out _ _ _ HI1.out (stab_res D3.out (by omega) _ _ _ _ _ _)⟩
set_option maxRecDepth 100000 in
set_option maxHeartbeats 4000000 in
theorem thrId6 {σ : Type} (Inv : σ -> World -> Prop) (gN : σ -> Int -> Int × σ) (gT : σ -> ByteArray -> ByteArray × σ)
 (rk : σ -> Nat) (PN : Int -> Prop) (PT : ByteArray -> Prop) (rN : ∀ s n, rk (gN s n).2 <= rk s + 1) (rT : ∀ s n, rk (gT s n).2 <= rk s + 1)
 (hN : ∀ s n V, rk s <= 2 -> PN n -> Inv s V -> Calls Tryz.prog 100 #[.int .i64 n] V fun e V' => e = .returned (.int .i64 (gN s n).1) /\ Inv (gN s n).2 V' /\ KeepO V V')
 (hT : ∀ s n V, rk s <= 2 -> PT n -> Inv s V -> Calls Tryz.prog 101 #[.string n] V fun e V' => e = .returned (.string (gT s n).1) /\ Inv (gT s n).2 V' /\ KeepO V V')
 (w : World) (hS : ∀ s V V', Inv s V -> Stab w.heap.size V V' -> Inv s V') (s : σ) (hr : rk s = 0) (hI : Inv s w) (hK : KT w) (i t a : Int) (n x : ByteArray) (pi : PN i) (pt : PN t) (pa : PN a) (pn : PT n) (px : PT x) :
 Calls Tryz.prog 99 #[opv ⟨6, i, t, a, n, x⟩, .func (.func 100) #[] #[], .func (.func 101) #[] #[]] w fun e w' => e = .returned (opv ⟨6, (gN s i).1, 0, 0, (gT (gN s i).2 n).1, (gT (gT (gN s i).2 n).2 x).1⟩) /\ Inv (gT (gT (gN s i).2 n).2 x).2 w' := by
 have HN := Lib.hid hN
 have HT := Lib.hid hT
 have HS := Lib.hid hS
 have HI := Lib.hid hI
 have HRN := Lib.hid rN
 have HRT := Lib.hid rT
 have RK0 : Hid (rk s <= 0) := Lib.hid (Nat.le_of_eq hr)
 have hpi := Lib.hid pi
 have hpt := Lib.hid pt
 have hpa := Lib.hid pa
 have hpn := Lib.hid pn
 have hpx := Lib.hid px
 have hg := hK.1
 obtain ⟨t0, t1, t2, t3, t4, t5⟩ := hK.2 6 (by decide) (by decide)
 simp only [Nat.reduceMul, Nat.reduceAdd] at t0 t1 t2 t3 t4 t5
 rw [show hasI (6 : Nat) = true from rfl] at t1
 rw [show hasT (6 : Nat) = false from rfl] at t2 t3
 rw [show hasN (6 : Nat) = true from rfl] at t4
 rw [show hasX (6 : Nat) = true from rfl] at t5
 generalize kword (6 : Nat) = wd at *
 clear hN hT hS hI hK rN rT hr pi pt pa pn px
 unfold opv
 go_enter Tryz.func99, Tryz.ntmps99
 go_wp2_with fail
 obtain ⟨W, hW⟩ : ∃ W, W = (((w.alloc (.cells #[.int .i64 6, .int .i64 i, .int .i64 t, .int .i64 a, .string n, .string x] 40)).alloc (.cells #[.int .i64 0, .int .i64 0, .int .i64 0, .int .i64 0, .string ⟨#[]⟩, .string ⟨#[]⟩] 40)).alloc (.cells #[.string wd, .bool true, .bool false, .bool false, .bool true, .bool true] 143)).alloc (.cells #[.int .i64 6, .int .i64 0, .int .i64 0, .int .i64 0, .string ⟨#[]⟩, .string ⟨#[]⟩] 40) := ⟨_, rfl⟩
 rw [<- hW]
 obtain ⟨hSt, b0, b1, b2, b3⟩ := four_blocks hW
 have HI0 := Lib.hid (HS.out s w W HI.out hSt)
 have B0 := Lib.hid b0
 have B1 := Lib.hid b1
 have B2 := Lib.hid b2
 have B3 := Lib.hid b3
 clear hW hSt b0 b1 b2 b3 t0 t1 t2 t3 t4 t5
 refine (HN.out s i W (Nat.le_trans RK0.out (by omega)) hpi.out HI0.out).mono ?_
 rintro e V0 ⟨rfl, hI, hK⟩
 obtain ⟨r0, hr0⟩ : ∃ r, r = (gN s i).1 := ⟨_, rfl⟩
 obtain ⟨s1, hs1⟩ : ∃ r, r = (gN s i).2 := ⟨_, rfl⟩
 rw [<- hs1] at hI
 rw [<- hr0]
 have R0 := Lib.hid hr0
 have S1 := Lib.hid hs1
 have RK1 : Hid (rk s1 <= 1) := Lib.hid (by rw [S1.out]; exact Nat.le_trans (HRN.out _ _) (Nat.succ_le_succ RK0.out))
 clear hr0 hs1
 obtain ⟨b0, b1, b2, hSt, d0, d1, d2⟩ := keep_blocks 1 (.int .i64 r0) B0.out B1.out B2.out hK
 have d3 := keep_res (q := w.heap.size + 1 + 1 + 1) 1 (.int .i64 r0) B3.out hK
 obtain ⟨x0, x1, x2, x3, x4, x5⟩ := block6 b0
 obtain ⟨y0, y1, y2, y3, y4, y5⟩ := block6 b1
 obtain ⟨z0, z1, z2, z3, z4, z5⟩ := block6 b2
 have fz : V0.frozen? ⟨w.heap.size + 1 + 1 + 1, 1, none⟩ = false := by simp [World.frozen?, b2]
 obtain ⟨W1, hW⟩ : ∃ W, W = V0.setCell ⟨w.heap.size + 1 + 1 + 1, 1, none⟩ (.int .i64 r0) := ⟨_, rfl⟩
 rw [<- hW] at hSt d0 d1 d2 d3
 obtain ⟨e0, e1, e2, e3, e4, e5⟩ := block6 d0
 obtain ⟨f0, f1, f2, f3, f4, f5⟩ := block6 d1
 obtain ⟨g0, g1, g2, g3, g4, g5⟩ := block6 d2
 have HI1 := Lib.hid (HS.out _ _ _ hI hSt)
 have D0 := Lib.hid d0
 have D1 := Lib.hid d1
 have D2 := Lib.hid d2
 have D3 := Lib.hid d3
 have HW := Lib.hid hW
 clear hI hK hSt d0 d1 d2 d3 b0 b1 b2 B0 B1 B2 B3 hW
 go_wp2_with (rw [<- HW.out])
 clear fz HW x0 x1 x2 x3 x4 x5 y0 y1 y2 y3 y4 y5 z0 z1 z2 z3 z4 z5
 clear e0 e1 e2 e3 e4 e5 f0 f1 f2 f3 f4 f5 g0 g1 g2 g3 g4 g5
 have B0 := Lib.hid D0.out
 have B1 := Lib.hid D1.out
 have B2 := Lib.hid D2.out
 have B3 := Lib.hid D3.out
 clear D0 D1 D2 D3
 refine (HT.out s1 n W1 (Nat.le_trans RK1.out (by omega)) hpn.out HI1.out).mono ?_
 rintro e V1 ⟨rfl, hI, hK⟩
 obtain ⟨r1, hr1⟩ : ∃ r, r = (gT s1 n).1 := ⟨_, rfl⟩
 obtain ⟨s2, hs2⟩ : ∃ r, r = (gT s1 n).2 := ⟨_, rfl⟩
 rw [<- hs2] at hI
 rw [<- hr1]
 have R1 := Lib.hid hr1
 have S2 := Lib.hid hs2
 have RK2 : Hid (rk s2 <= 2) := Lib.hid (by rw [S2.out]; exact Nat.le_trans (HRT.out _ _) (Nat.succ_le_succ RK1.out))
 clear hr1 hs2
 obtain ⟨b0, b1, b2, hSt, d0, d1, d2⟩ := keep_blocks 4 (.string r1) B0.out B1.out B2.out hK
 have d3 := keep_res (q := w.heap.size + 1 + 1 + 1) 4 (.string r1) B3.out hK
 obtain ⟨x0, x1, x2, x3, x4, x5⟩ := block6 b0
 obtain ⟨y0, y1, y2, y3, y4, y5⟩ := block6 b1
 obtain ⟨z0, z1, z2, z3, z4, z5⟩ := block6 b2
 have fz : V1.frozen? ⟨w.heap.size + 1 + 1 + 1, 4, none⟩ = false := by simp [World.frozen?, b2]
 obtain ⟨W2, hW⟩ : ∃ W, W = V1.setCell ⟨w.heap.size + 1 + 1 + 1, 4, none⟩ (.string r1) := ⟨_, rfl⟩
 rw [<- hW] at hSt d0 d1 d2 d3
 obtain ⟨e0, e1, e2, e3, e4, e5⟩ := block6 d0
 obtain ⟨f0, f1, f2, f3, f4, f5⟩ := block6 d1
 obtain ⟨g0, g1, g2, g3, g4, g5⟩ := block6 d2
 have HI2 := Lib.hid (HS.out _ _ _ hI hSt)
 have D0 := Lib.hid d0
 have D1 := Lib.hid d1
 have D2 := Lib.hid d2
 have D3 := Lib.hid d3
 have HW := Lib.hid hW
 clear hI hK hSt d0 d1 d2 d3 b0 b1 b2 B0 B1 B2 B3 hW
 go_wp2_with (rw [<- HW.out])
 clear fz HW x0 x1 x2 x3 x4 x5 y0 y1 y2 y3 y4 y5 z0 z1 z2 z3 z4 z5
 clear e0 e1 e2 e3 e4 e5 f0 f1 f2 f3 f4 f5 g0 g1 g2 g3 g4 g5
 have B0 := Lib.hid D0.out
 have B1 := Lib.hid D1.out
 have B2 := Lib.hid D2.out
 have B3 := Lib.hid D3.out
 clear D0 D1 D2 D3
 refine (HT.out s2 x W2 (Nat.le_trans RK2.out (by omega)) hpx.out HI2.out).mono ?_
 rintro e V2 ⟨rfl, hI, hK⟩
 obtain ⟨r2, hr2⟩ : ∃ r, r = (gT s2 x).1 := ⟨_, rfl⟩
 obtain ⟨s3, hs3⟩ : ∃ r, r = (gT s2 x).2 := ⟨_, rfl⟩
 rw [<- hs3] at hI
 rw [<- hr2]
 have R2 := Lib.hid hr2
 have S3 := Lib.hid hs3
 have RK3 : Hid (rk s3 <= 3) := Lib.hid (by rw [S3.out]; exact Nat.le_trans (HRT.out _ _) (Nat.succ_le_succ RK2.out))
 clear hr2 hs3
 obtain ⟨b0, b1, b2, hSt, d0, d1, d2⟩ := keep_blocks 5 (.string r2) B0.out B1.out B2.out hK
 have d3 := keep_res (q := w.heap.size + 1 + 1 + 1) 5 (.string r2) B3.out hK
 obtain ⟨x0, x1, x2, x3, x4, x5⟩ := block6 b0
 obtain ⟨y0, y1, y2, y3, y4, y5⟩ := block6 b1
 obtain ⟨z0, z1, z2, z3, z4, z5⟩ := block6 b2
 have fz : V2.frozen? ⟨w.heap.size + 1 + 1 + 1, 5, none⟩ = false := by simp [World.frozen?, b2]
 obtain ⟨W3, hW⟩ : ∃ W, W = V2.setCell ⟨w.heap.size + 1 + 1 + 1, 5, none⟩ (.string r2) := ⟨_, rfl⟩
 rw [<- hW] at hSt d0 d1 d2 d3
 obtain ⟨e0, e1, e2, e3, e4, e5⟩ := block6 d0
 obtain ⟨f0, f1, f2, f3, f4, f5⟩ := block6 d1
 obtain ⟨g0, g1, g2, g3, g4, g5⟩ := block6 d2
 have HI3 := Lib.hid (HS.out _ _ _ hI hSt)
 have D0 := Lib.hid d0
 have D1 := Lib.hid d1
 have D2 := Lib.hid d2
 have D3 := Lib.hid d3
 have HW := Lib.hid hW
 clear hI hK hSt d0 d1 d2 d3 b0 b1 b2 B0 B1 B2 B3 hW
 obtain ⟨p0, p1, p2, p3, p4, p5⟩ := block6 D3.out
 have q0 := froz D3.out 0
 have q1 := froz D3.out 1
 have q2 := froz D3.out 2
 have q3 := froz D3.out 3
 have q4 := froz D3.out 4
 have q5 := froz D3.out 5
 go_wp2_with (rw [<- HW.out])
 clear fz HW x0 x1 x2 x3 x4 x5 y0 y1 y2 y3 y4 y5 z0 z1 z2 z3 z4 z5
 obtain rfl := R0.out
 obtain rfl := S1.out
 obtain rfl := R1.out
 obtain rfl := S2.out
 obtain rfl := R2.out
 obtain rfl := S3.out
 refine bodyPost_ret (v := opv ⟨6, (gN s i).1, 0, 0, (gT (gN s i).2 n).1, (gT (gT (gN s i).2 n).2 x).1⟩) (by simp [results, Tryz.results99, go_sem, opv, p0, p1, p2, p3, p4, p5]) rfl ⟨rfl, HS.out _ _ _ HI3.out (stab_res D3.out (by omega) _ _ _ _ _ _)⟩
set_option maxRecDepth 100000 in
set_option maxHeartbeats 4000000 in
theorem thrId7 {σ : Type} (Inv : σ -> World -> Prop) (gN : σ -> Int -> Int × σ) (gT : σ -> ByteArray -> ByteArray × σ)
 (rk : σ -> Nat) (PN : Int -> Prop) (PT : ByteArray -> Prop) (rN : ∀ s n, rk (gN s n).2 <= rk s + 1) (rT : ∀ s n, rk (gT s n).2 <= rk s + 1)
 (hN : ∀ s n V, rk s <= 2 -> PN n -> Inv s V -> Calls Tryz.prog 100 #[.int .i64 n] V fun e V' => e = .returned (.int .i64 (gN s n).1) /\ Inv (gN s n).2 V' /\ KeepO V V')
 (hT : ∀ s n V, rk s <= 2 -> PT n -> Inv s V -> Calls Tryz.prog 101 #[.string n] V fun e V' => e = .returned (.string (gT s n).1) /\ Inv (gT s n).2 V' /\ KeepO V V')
 (w : World) (hS : ∀ s V V', Inv s V -> Stab w.heap.size V V' -> Inv s V') (s : σ) (hr : rk s = 0) (hI : Inv s w) (hK : KT w) (i t a : Int) (n x : ByteArray) (pi : PN i) (pt : PN t) (pa : PN a) (pn : PT n) (px : PT x) :
 Calls Tryz.prog 99 #[opv ⟨7, i, t, a, n, x⟩, .func (.func 100) #[] #[], .func (.func 101) #[] #[]] w fun e w' => e = .returned (opv ⟨7, (gN s i).1, 0, 0, (gT (gN s i).2 n).1, ⟨#[]⟩⟩) /\ Inv (gT (gN s i).2 n).2 w' := by
 have HN := Lib.hid hN
 have HT := Lib.hid hT
 have HS := Lib.hid hS
 have HI := Lib.hid hI
 have HRN := Lib.hid rN
 have HRT := Lib.hid rT
 have RK0 : Hid (rk s <= 0) := Lib.hid (Nat.le_of_eq hr)
 have hpi := Lib.hid pi
 have hpt := Lib.hid pt
 have hpa := Lib.hid pa
 have hpn := Lib.hid pn
 have hpx := Lib.hid px
 have hg := hK.1
 obtain ⟨t0, t1, t2, t3, t4, t5⟩ := hK.2 7 (by decide) (by decide)
 simp only [Nat.reduceMul, Nat.reduceAdd] at t0 t1 t2 t3 t4 t5
 rw [show hasI (7 : Nat) = true from rfl] at t1
 rw [show hasT (7 : Nat) = false from rfl] at t2 t3
 rw [show hasN (7 : Nat) = true from rfl] at t4
 rw [show hasX (7 : Nat) = false from rfl] at t5
 generalize kword (7 : Nat) = wd at *
 clear hN hT hS hI hK rN rT hr pi pt pa pn px
 unfold opv
 go_enter Tryz.func99, Tryz.ntmps99
 go_wp2_with fail
 obtain ⟨W, hW⟩ : ∃ W, W = (((w.alloc (.cells #[.int .i64 7, .int .i64 i, .int .i64 t, .int .i64 a, .string n, .string x] 40)).alloc (.cells #[.int .i64 0, .int .i64 0, .int .i64 0, .int .i64 0, .string ⟨#[]⟩, .string ⟨#[]⟩] 40)).alloc (.cells #[.string wd, .bool true, .bool false, .bool false, .bool true, .bool false] 143)).alloc (.cells #[.int .i64 7, .int .i64 0, .int .i64 0, .int .i64 0, .string ⟨#[]⟩, .string ⟨#[]⟩] 40) := ⟨_, rfl⟩
 rw [<- hW]
 obtain ⟨hSt, b0, b1, b2, b3⟩ := four_blocks hW
 have HI0 := Lib.hid (HS.out s w W HI.out hSt)
 have B0 := Lib.hid b0
 have B1 := Lib.hid b1
 have B2 := Lib.hid b2
 have B3 := Lib.hid b3
 clear hW hSt b0 b1 b2 b3 t0 t1 t2 t3 t4 t5
 refine (HN.out s i W (Nat.le_trans RK0.out (by omega)) hpi.out HI0.out).mono ?_
 rintro e V0 ⟨rfl, hI, hK⟩
 obtain ⟨r0, hr0⟩ : ∃ r, r = (gN s i).1 := ⟨_, rfl⟩
 obtain ⟨s1, hs1⟩ : ∃ r, r = (gN s i).2 := ⟨_, rfl⟩
 rw [<- hs1] at hI
 rw [<- hr0]
 have R0 := Lib.hid hr0
 have S1 := Lib.hid hs1
 have RK1 : Hid (rk s1 <= 1) := Lib.hid (by rw [S1.out]; exact Nat.le_trans (HRN.out _ _) (Nat.succ_le_succ RK0.out))
 clear hr0 hs1
 obtain ⟨b0, b1, b2, hSt, d0, d1, d2⟩ := keep_blocks 1 (.int .i64 r0) B0.out B1.out B2.out hK
 have d3 := keep_res (q := w.heap.size + 1 + 1 + 1) 1 (.int .i64 r0) B3.out hK
 obtain ⟨x0, x1, x2, x3, x4, x5⟩ := block6 b0
 obtain ⟨y0, y1, y2, y3, y4, y5⟩ := block6 b1
 obtain ⟨z0, z1, z2, z3, z4, z5⟩ := block6 b2
 have fz : V0.frozen? ⟨w.heap.size + 1 + 1 + 1, 1, none⟩ = false := by simp [World.frozen?, b2]
 obtain ⟨W1, hW⟩ : ∃ W, W = V0.setCell ⟨w.heap.size + 1 + 1 + 1, 1, none⟩ (.int .i64 r0) := ⟨_, rfl⟩
 rw [<- hW] at hSt d0 d1 d2 d3
 obtain ⟨e0, e1, e2, e3, e4, e5⟩ := block6 d0
 obtain ⟨f0, f1, f2, f3, f4, f5⟩ := block6 d1
 obtain ⟨g0, g1, g2, g3, g4, g5⟩ := block6 d2
 have HI1 := Lib.hid (HS.out _ _ _ hI hSt)
 have D0 := Lib.hid d0
 have D1 := Lib.hid d1
 have D2 := Lib.hid d2
 have D3 := Lib.hid d3
 have HW := Lib.hid hW
 clear hI hK hSt d0 d1 d2 d3 b0 b1 b2 B0 B1 B2 B3 hW
 go_wp2_with (rw [<- HW.out])
 clear fz HW x0 x1 x2 x3 x4 x5 y0 y1 y2 y3 y4 y5 z0 z1 z2 z3 z4 z5
 clear e0 e1 e2 e3 e4 e5 f0 f1 f2 f3 f4 f5 g0 g1 g2 g3 g4 g5
 have B0 := Lib.hid D0.out
 have B1 := Lib.hid D1.out
 have B2 := Lib.hid D2.out
 have B3 := Lib.hid D3.out
 clear D0 D1 D2 D3
 refine (HT.out s1 n W1 (Nat.le_trans RK1.out (by omega)) hpn.out HI1.out).mono ?_
 rintro e V1 ⟨rfl, hI, hK⟩
 obtain ⟨r1, hr1⟩ : ∃ r, r = (gT s1 n).1 := ⟨_, rfl⟩
 obtain ⟨s2, hs2⟩ : ∃ r, r = (gT s1 n).2 := ⟨_, rfl⟩
 rw [<- hs2] at hI
 rw [<- hr1]
 have R1 := Lib.hid hr1
 have S2 := Lib.hid hs2
 have RK2 : Hid (rk s2 <= 2) := Lib.hid (by rw [S2.out]; exact Nat.le_trans (HRT.out _ _) (Nat.succ_le_succ RK1.out))
 clear hr1 hs2
 obtain ⟨b0, b1, b2, hSt, d0, d1, d2⟩ := keep_blocks 4 (.string r1) B0.out B1.out B2.out hK
 have d3 := keep_res (q := w.heap.size + 1 + 1 + 1) 4 (.string r1) B3.out hK
 obtain ⟨x0, x1, x2, x3, x4, x5⟩ := block6 b0
 obtain ⟨y0, y1, y2, y3, y4, y5⟩ := block6 b1
 obtain ⟨z0, z1, z2, z3, z4, z5⟩ := block6 b2
 have fz : V1.frozen? ⟨w.heap.size + 1 + 1 + 1, 4, none⟩ = false := by simp [World.frozen?, b2]
 obtain ⟨W2, hW⟩ : ∃ W, W = V1.setCell ⟨w.heap.size + 1 + 1 + 1, 4, none⟩ (.string r1) := ⟨_, rfl⟩
 rw [<- hW] at hSt d0 d1 d2 d3
 obtain ⟨e0, e1, e2, e3, e4, e5⟩ := block6 d0
 obtain ⟨f0, f1, f2, f3, f4, f5⟩ := block6 d1
 obtain ⟨g0, g1, g2, g3, g4, g5⟩ := block6 d2
 have HI2 := Lib.hid (HS.out _ _ _ hI hSt)
 have D0 := Lib.hid d0
 have D1 := Lib.hid d1
 have D2 := Lib.hid d2
 have D3 := Lib.hid d3
 have HW := Lib.hid hW
 clear hI hK hSt d0 d1 d2 d3 b0 b1 b2 B0 B1 B2 B3 hW
 obtain ⟨p0, p1, p2, p3, p4, p5⟩ := block6 D3.out
 have q0 := froz D3.out 0
 have q1 := froz D3.out 1
 have q2 := froz D3.out 2
 have q3 := froz D3.out 3
 have q4 := froz D3.out 4
 have q5 := froz D3.out 5
 go_wp2_with (rw [<- HW.out])
 clear fz HW x0 x1 x2 x3 x4 x5 y0 y1 y2 y3 y4 y5 z0 z1 z2 z3 z4 z5
 obtain rfl := R0.out
 obtain rfl := S1.out
 obtain rfl := R1.out
 obtain rfl := S2.out
 refine bodyPost_ret (v := opv ⟨7, (gN s i).1, 0, 0, (gT (gN s i).2 n).1, ⟨#[]⟩⟩) (by simp [results, Tryz.results99, go_sem, opv, p0, p1, p2, p3, p4, p5]) rfl ⟨rfl, HS.out _ _ _ HI2.out (stab_res D3.out (by omega) _ _ _ _ _ _)⟩
set_option maxRecDepth 100000 in
set_option maxHeartbeats 4000000 in
theorem thrId8 {σ : Type} (Inv : σ -> World -> Prop) (gN : σ -> Int -> Int × σ) (gT : σ -> ByteArray -> ByteArray × σ)
 (rk : σ -> Nat) (PN : Int -> Prop) (PT : ByteArray -> Prop) (rN : ∀ s n, rk (gN s n).2 <= rk s + 1) (rT : ∀ s n, rk (gT s n).2 <= rk s + 1)
 (hN : ∀ s n V, rk s <= 2 -> PN n -> Inv s V -> Calls Tryz.prog 100 #[.int .i64 n] V fun e V' => e = .returned (.int .i64 (gN s n).1) /\ Inv (gN s n).2 V' /\ KeepO V V')
 (hT : ∀ s n V, rk s <= 2 -> PT n -> Inv s V -> Calls Tryz.prog 101 #[.string n] V fun e V' => e = .returned (.string (gT s n).1) /\ Inv (gT s n).2 V' /\ KeepO V V')
 (w : World) (hS : ∀ s V V', Inv s V -> Stab w.heap.size V V' -> Inv s V') (s : σ) (hr : rk s = 0) (hI : Inv s w) (hK : KT w) (i t a : Int) (n x : ByteArray) (pi : PN i) (pt : PN t) (pa : PN a) (pn : PT n) (px : PT x) :
 Calls Tryz.prog 99 #[opv ⟨8, i, t, a, n, x⟩, .func (.func 100) #[] #[], .func (.func 101) #[] #[]] w fun e w' => e = .returned (opv ⟨8, (gN s i).1, 0, 0, ⟨#[]⟩, (gT (gN s i).2 x).1⟩) /\ Inv (gT (gN s i).2 x).2 w' := by
 have HN := Lib.hid hN
 have HT := Lib.hid hT
 have HS := Lib.hid hS
 have HI := Lib.hid hI
 have HRN := Lib.hid rN
 have HRT := Lib.hid rT
 have RK0 : Hid (rk s <= 0) := Lib.hid (Nat.le_of_eq hr)
 have hpi := Lib.hid pi
 have hpt := Lib.hid pt
 have hpa := Lib.hid pa
 have hpn := Lib.hid pn
 have hpx := Lib.hid px
 have hg := hK.1
 obtain ⟨t0, t1, t2, t3, t4, t5⟩ := hK.2 8 (by decide) (by decide)
 simp only [Nat.reduceMul, Nat.reduceAdd] at t0 t1 t2 t3 t4 t5
 rw [show hasI (8 : Nat) = true from rfl] at t1
 rw [show hasT (8 : Nat) = false from rfl] at t2 t3
 rw [show hasN (8 : Nat) = false from rfl] at t4
 rw [show hasX (8 : Nat) = true from rfl] at t5
 generalize kword (8 : Nat) = wd at *
 clear hN hT hS hI hK rN rT hr pi pt pa pn px
 unfold opv
 go_enter Tryz.func99, Tryz.ntmps99
 go_wp2_with fail
 obtain ⟨W, hW⟩ : ∃ W, W = (((w.alloc (.cells #[.int .i64 8, .int .i64 i, .int .i64 t, .int .i64 a, .string n, .string x] 40)).alloc (.cells #[.int .i64 0, .int .i64 0, .int .i64 0, .int .i64 0, .string ⟨#[]⟩, .string ⟨#[]⟩] 40)).alloc (.cells #[.string wd, .bool true, .bool false, .bool false, .bool false, .bool true] 143)).alloc (.cells #[.int .i64 8, .int .i64 0, .int .i64 0, .int .i64 0, .string ⟨#[]⟩, .string ⟨#[]⟩] 40) := ⟨_, rfl⟩
 rw [<- hW]
 obtain ⟨hSt, b0, b1, b2, b3⟩ := four_blocks hW
 have HI0 := Lib.hid (HS.out s w W HI.out hSt)
 have B0 := Lib.hid b0
 have B1 := Lib.hid b1
 have B2 := Lib.hid b2
 have B3 := Lib.hid b3
 clear hW hSt b0 b1 b2 b3 t0 t1 t2 t3 t4 t5
 refine (HN.out s i W (Nat.le_trans RK0.out (by omega)) hpi.out HI0.out).mono ?_
 rintro e V0 ⟨rfl, hI, hK⟩
 obtain ⟨r0, hr0⟩ : ∃ r, r = (gN s i).1 := ⟨_, rfl⟩
 obtain ⟨s1, hs1⟩ : ∃ r, r = (gN s i).2 := ⟨_, rfl⟩
 rw [<- hs1] at hI
 rw [<- hr0]
 have R0 := Lib.hid hr0
 have S1 := Lib.hid hs1
 have RK1 : Hid (rk s1 <= 1) := Lib.hid (by rw [S1.out]; exact Nat.le_trans (HRN.out _ _) (Nat.succ_le_succ RK0.out))
 clear hr0 hs1
 obtain ⟨b0, b1, b2, hSt, d0, d1, d2⟩ := keep_blocks 1 (.int .i64 r0) B0.out B1.out B2.out hK
 have d3 := keep_res (q := w.heap.size + 1 + 1 + 1) 1 (.int .i64 r0) B3.out hK
 obtain ⟨x0, x1, x2, x3, x4, x5⟩ := block6 b0
 obtain ⟨y0, y1, y2, y3, y4, y5⟩ := block6 b1
 obtain ⟨z0, z1, z2, z3, z4, z5⟩ := block6 b2
 have fz : V0.frozen? ⟨w.heap.size + 1 + 1 + 1, 1, none⟩ = false := by simp [World.frozen?, b2]
 obtain ⟨W1, hW⟩ : ∃ W, W = V0.setCell ⟨w.heap.size + 1 + 1 + 1, 1, none⟩ (.int .i64 r0) := ⟨_, rfl⟩
 rw [<- hW] at hSt d0 d1 d2 d3
 obtain ⟨e0, e1, e2, e3, e4, e5⟩ := block6 d0
 obtain ⟨f0, f1, f2, f3, f4, f5⟩ := block6 d1
 obtain ⟨g0, g1, g2, g3, g4, g5⟩ := block6 d2
 have HI1 := Lib.hid (HS.out _ _ _ hI hSt)
 have D0 := Lib.hid d0
 have D1 := Lib.hid d1
 have D2 := Lib.hid d2
 have D3 := Lib.hid d3
 have HW := Lib.hid hW
 clear hI hK hSt d0 d1 d2 d3 b0 b1 b2 B0 B1 B2 B3 hW
 go_wp2_with (rw [<- HW.out])
 clear fz HW x0 x1 x2 x3 x4 x5 y0 y1 y2 y3 y4 y5 z0 z1 z2 z3 z4 z5
 clear e0 e1 e2 e3 e4 e5 f0 f1 f2 f3 f4 f5 g0 g1 g2 g3 g4 g5
 have B0 := Lib.hid D0.out
 have B1 := Lib.hid D1.out
 have B2 := Lib.hid D2.out
 have B3 := Lib.hid D3.out
 clear D0 D1 D2 D3
 refine (HT.out s1 x W1 (Nat.le_trans RK1.out (by omega)) hpx.out HI1.out).mono ?_
 rintro e V1 ⟨rfl, hI, hK⟩
 obtain ⟨r1, hr1⟩ : ∃ r, r = (gT s1 x).1 := ⟨_, rfl⟩
 obtain ⟨s2, hs2⟩ : ∃ r, r = (gT s1 x).2 := ⟨_, rfl⟩
 rw [<- hs2] at hI
 rw [<- hr1]
 have R1 := Lib.hid hr1
 have S2 := Lib.hid hs2
 have RK2 : Hid (rk s2 <= 2) := Lib.hid (by rw [S2.out]; exact Nat.le_trans (HRT.out _ _) (Nat.succ_le_succ RK1.out))
 clear hr1 hs2
 obtain ⟨b0, b1, b2, hSt, d0, d1, d2⟩ := keep_blocks 5 (.string r1) B0.out B1.out B2.out hK
 have d3 := keep_res (q := w.heap.size + 1 + 1 + 1) 5 (.string r1) B3.out hK
 obtain ⟨x0, x1, x2, x3, x4, x5⟩ := block6 b0
 obtain ⟨y0, y1, y2, y3, y4, y5⟩ := block6 b1
 obtain ⟨z0, z1, z2, z3, z4, z5⟩ := block6 b2
 have fz : V1.frozen? ⟨w.heap.size + 1 + 1 + 1, 5, none⟩ = false := by simp [World.frozen?, b2]
 obtain ⟨W2, hW⟩ : ∃ W, W = V1.setCell ⟨w.heap.size + 1 + 1 + 1, 5, none⟩ (.string r1) := ⟨_, rfl⟩
 rw [<- hW] at hSt d0 d1 d2 d3
 obtain ⟨e0, e1, e2, e3, e4, e5⟩ := block6 d0
 obtain ⟨f0, f1, f2, f3, f4, f5⟩ := block6 d1
 obtain ⟨g0, g1, g2, g3, g4, g5⟩ := block6 d2
 have HI2 := Lib.hid (HS.out _ _ _ hI hSt)
 have D0 := Lib.hid d0
 have D1 := Lib.hid d1
 have D2 := Lib.hid d2
 have D3 := Lib.hid d3
 have HW := Lib.hid hW
 clear hI hK hSt d0 d1 d2 d3 b0 b1 b2 B0 B1 B2 B3 hW
 obtain ⟨p0, p1, p2, p3, p4, p5⟩ := block6 D3.out
 have q0 := froz D3.out 0
 have q1 := froz D3.out 1
 have q2 := froz D3.out 2
 have q3 := froz D3.out 3
 have q4 := froz D3.out 4
 have q5 := froz D3.out 5
 go_wp2_with (rw [<- HW.out])
 clear fz HW x0 x1 x2 x3 x4 x5 y0 y1 y2 y3 y4 y5 z0 z1 z2 z3 z4 z5
 obtain rfl := R0.out
 obtain rfl := S1.out
 obtain rfl := R1.out
 obtain rfl := S2.out
 refine bodyPost_ret (v := opv ⟨8, (gN s i).1, 0, 0, ⟨#[]⟩, (gT (gN s i).2 x).1⟩) (by simp [results, Tryz.results99, go_sem, opv, p0, p1, p2, p3, p4, p5]) rfl ⟨rfl, HS.out _ _ _ HI2.out (stab_res D3.out (by omega) _ _ _ _ _ _)⟩
theorem thrId_any {σ : Type} (Inv : σ -> World -> Prop) (gN : σ -> Int -> Int × σ) (gT : σ -> ByteArray -> ByteArray × σ)
 (rk : σ -> Nat) (PN : Int -> Prop) (PT : ByteArray -> Prop) (rN : ∀ s n, rk (gN s n).2 <= rk s + 1) (rT : ∀ s n, rk (gT s n).2 <= rk s + 1)
 (hN : ∀ s n V, rk s <= 2 -> PN n -> Inv s V -> Calls Tryz.prog 100 #[.int .i64 n] V fun e V' => e = .returned (.int .i64 (gN s n).1) /\ Inv (gN s n).2 V' /\ KeepO V V')
 (hT : ∀ s n V, rk s <= 2 -> PT n -> Inv s V -> Calls Tryz.prog 101 #[.string n] V fun e V' => e = .returned (.string (gT s n).1) /\ Inv (gT s n).2 V' /\ KeepO V V')
 (w : World) (hS : ∀ s V V', Inv s V -> Stab w.heap.size V V' -> Inv s V') (s : σ) (hr : rk s = 0) (hI : Inv s w) (hK : KT w) (o : Po) (hk : isK o.kind = true) (pi : PN o.id) (pt : PN o.dst) (pa : PN o.pos) (pn : PT o.name) (px : PT o.text) :
 Calls Tryz.prog 99 #[opv o, .func (.func 100) #[] #[], .func (.func 101) #[] #[]] w fun e w' => e = .returned (opv (thrM gN gT o s).1) /\ Inv (thrM gN gT o s).2 w' := by
 obtain ⟨k, i, t, a, n, x⟩ := o
 have : k = 1 \/ k = 2 \/ k = 3 \/ k = 4 \/ k = 5 \/ k = 6 \/ k = 7 \/ k = 8 := by
  have := isK_iff.1 hk
  simp only [] at this
  omega
 rcases this with rfl | rfl | rfl | rfl | rfl | rfl | rfl | rfl
 · exact thrId1  Inv gN gT rk PN PT rN rT hN hT w hS s hr hI hK i t a n x pi pt pa pn px
 · exact thrId2  Inv gN gT rk PN PT rN rT hN hT w hS s hr hI hK i t a n x pi pt pa pn px
 · exact thrId3  Inv gN gT rk PN PT rN rT hN hT w hS s hr hI hK i t a n x pi pt pa pn px
 · exact thrId4  Inv gN gT rk PN PT rN rT hN hT w hS s hr hI hK i t a n x pi pt pa pn px
 · exact thrId5  Inv gN gT rk PN PT rN rT hN hT w hS s hr hI hK i t a n x pi pt pa pn px
 · exact thrId6  Inv gN gT rk PN PT rN rT hN hT w hS s hr hI hK i t a n x pi pt pa pn px
 · exact thrId7  Inv gN gT rk PN PT rN rT hN hT w hS s hr hI hK i t a n x pi pt pa pn px
 · exact thrId8  Inv gN gT rk PN PT rN rT hN hT w hS s hr hI hK i t a n x pi pt pa pn px
end Go.Proofs.YtcndplnnighjkaaGreatDoor.Ops
