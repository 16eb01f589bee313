/-
  walk.Attr.
-/
import Derived.Test.YtcndplnnighjkaaGreatDoorPG25
namespace Go.Proofs.YtcndplnnighjkaaGreatDoor
open Go.ChangeShapes Go.WideShapes Go.ChangeAt Go.RowKit
set_option linter.unusedVariables false
set_option linter.unusedSimpArgs false
def attrR (m : Mn) (name : ByteArray) : ByteArray × Int := if m.kind = 1 then (match valP m.attrs name with | some v => (v, 0) | none => (⟨#[]⟩, 75)) else (⟨#[]⟩, 71)
set_option maxRecDepth 100000 in
set_option maxHeartbeats 2000000 in
theorem wattr_any (A : Option Addr) (F : List Mn) (c i : Nat) (name : ByteArray) (w : World) (hF : FR w A F) (hm : mayB F = true) (hi : i < F.length) :
 Calls Tryz.prog 41 #[.slice A F.length c, .int .i64 i, .string name] w fun e w' => e = .returned (.tuple #[.string (attrR F[i] name).1, .int .i64 (attrR F[i] name).2]) /\ Below w.heap.size w w' := by
 have HN := Lib.hid (wnode_any A F c (i : Int) w hF hm)
 rw [show isB F (i : Int) = true by rw [isB, decide_eq_true_eq]; omega] at HN
 have hal := (may_sz hm).2 F[i] (List.getElem_mem hi)
 obtain ⟨-, g, off, rfl, hg, hnd⟩ := hF i F[i] (List.getElem?_eq_getElem hi)
 have HND := Lib.hid hnd
 have HR : Hid (attrR F[i] name = if F[i].kind = 1 then (match valP F[i].attrs name with | some v => (v, (0 : Int)) | none => (⟨#[]⟩, (75 : Int))) else (⟨#[]⟩, (71 : Int))) := Lib.hid rfl
 obtain ⟨n, hn⟩ : ∃ n, F.length = n := ⟨_, rfl⟩
 rw [hn] at HN hi ⊢
 have k0 : (0 : Int) <= (i : Int) := by omega
 have k1 : (i : Int) < (n : Int) := by omega
 clear hF hm hn hnd
 generalize attrR F[i] name = R at *
 generalize F[i] = m at *
 go_enter Tryz.func41, Tryz.ntmps41
 go_wp2_with fail
 refine HN.out.mono ?_
 rintro e w1 ⟨rfl, hb⟩
 have hnd := HND.out.below hg hb
 have HB := Lib.hid hb
 have x0 := hnd.c0
 have x1 := hnd.c1
 have x2 := hnd.c2
 have x3 := hnd.c3
 have x4 := hnd.c4
 have x5 := hnd.c5
 have HV := Lib.hid (value_any m name w1 hnd.ar (by omega))
 unfold nval valR at HV
 clear hnd hb HND
 by_cases hk : m.kind = 1
 · have hq : (m.kind != 1) = false := by simp [hk]
   rw [if_pos hk] at HR
   clear hk
   generalize valP m.attrs name = vp at *
   go_wp2_with fail
   refine HV.out.mono ?_
   rintro e w2 ⟨rfl, hb⟩
   have HB2 := Lib.hid (HB.out.trans (hb.mono HB.out.size))
   clear hb
   cases vp with
   | none =>
     simp only [Option.getD_none, Option.isSome_none]
     go_wp2
     go_ret2
     exact ⟨by rw [HR.out]; rfl, HB2.out⟩
   | some v =>
     simp only [Option.getD_some, Option.isSome_some]
     go_wp2
     go_ret2
     exact ⟨by rw [HR.out]; rfl, HB2.out⟩
 · have hq : (m.kind != 1) = true := by simpa using hk
   rw [if_neg hk] at HR
   clear hk
   go_wp2
   go_ret2
   exact ⟨by rw [HR.out]; rfl, HB.out⟩
def attrP (F : List Mn) (i : Nat) (name : ByteArray) : ByteArray × Int := ((F[i]?).map fun m => attrR m name).getD (⟨#[]⟩, 70)
theorem attrP_at {F : List Mn} {i : Nat} (hi : i < F.length) {name : ByteArray} : attrP F i name = attrR F[i] name := by
 unfold attrP
 rw [List.getElem?_eq_getElem hi]
 rfl
end Go.Proofs.YtcndplnnighjkaaGreatDoor
