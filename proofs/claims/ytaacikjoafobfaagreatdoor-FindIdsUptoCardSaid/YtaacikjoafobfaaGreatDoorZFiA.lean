/-
  What a test asks of a node, as plain mathematics; how two attributes are compared.
-/
import Derived.Test.YtaacikjoafobfaaGreatDoorZFiM
import Derived.Test.YtaacikjoafobfaaGreatDoorG34
import Derived.Test.YtaacikjoafobfaaGreatDoorG35
import Derived.Test.YtaacikjoafobfaaGreatDoorG25
import Derived.Test.YtaacikjoafobfaaGreatDoorG09
namespace Go.Proofs.YtaacikjoafobfaaGreatDoor.Fi
open Go.ChangeShapes Go.WideShapes Go.ChangeAt Go.RowKit
open Sx (Tr Ms Mr TR MR XR tV r1)
set_option linter.unusedVariables false
set_option linter.unusedSimpArgs false

def clS : ByteArray := ⟨#[99, 108, 97, 115, 115]⟩
/-- Whether an attribute is a class that has a word. -/
def clB (t : ByteArray) (a : At2) : Bool := (a.1.toList == clS.toList) && decide (t.data.toList ∈ ws a.2)
def nmB (t : ByteArray) (a : At2) : Bool := a.1.toList == t.toList
/-- Whether an element is as a test wants it. -/
def soB (m : Mn) (t : Tr) : Bool :=
  if t.1 = 1 then (Wx.fd m.name).toList == (Wx.fd t.2.1).toList
  else if t.1 = 2 then m.attrs.any (fun a => decide (a = (idS, t.2.1)))
  else if t.1 = 3 then m.attrs.any (clB t.2.1)
  else if t.1 = 4 then m.attrs.any (nmB t.2.1)
  else if t.1 = 5 then m.attrs.any (fun a => decide (a = (t.2.1, t.2.2)))
  else false
def fitsB (m : Mn) (T : List Tr) : Bool := (m.kind == 1) && T.all (soB m)
/-- A node none of whose texts is too long. -/
structure NB (m : Mn) : Prop where
  name : m.name.size ≤ 100000
  attrs : m.attrs.length ≤ 1000
  vals : ∀ a ∈ m.attrs, a.2.size ≤ 100000
theorem under_at : Tryz.prog.underlying 99 = some (.struct (Tryz.prog.fieldsOf 99)) := by kernel_rfl
theorem fields_at : (Tryz.prog.fieldsOf 99).toList.map (fun f => (f.type, f.offset, decide (f.name ≠ "_"))) = [(9, 0, true), (9, 1, true)] := by kernel_rfl
theorem below_drewF {B : Nat} {w w' : World} (h : Below B w w') (n : Nat) : Below B w (w'.drewN n) := h.trans ⟨rfl, rfl, rfl, Nat.le_refl _, fun _ _ => rfl⟩
theorem toList_injA {a b : ByteArray} : a.toList = b.toList ↔ a = b := by
  rw [Lib.toList_data, Lib.toList_data]
  exact ⟨fun h => ByteArray.ext (Array.toList_inj.1 h), fun h => by rw [h]⟩
set_option maxHeartbeats 1000000 in
theorem eq_at (a4 a5 b4 b5 : ByteArray) (W : World) : (Op.equalIn 10000 99 (.agg #[.string a4, .string a5]) (.agg #[.string b4, .string b5])).run Tryz.prog W = .ok (decide ((a4, a5) = (b4, b5))) W := by
  have hd : decide ((a4, a5) = (b4, b5)) = ((a4.toList == b4.toList) && (a5.toList == b5.toList)) := by
    rw [Bool.eq_iff_iff]
    simp only [decide_eq_true_eq, Bool.and_eq_true, beq_iff_eq, toList_injA, Prod.mk.injEq]
  rw [hd, show (10000 : Nat) = 9999 + 1 from rfl, run_equalIn_struct W 9999 _ _ _ under_at (by kernel_rfl)]
  have hf := fields_at
  generalize (Tryz.prog.fieldsOf 99).toList = fs at *
  have hl := congrArg List.length hf
  simp only [List.length_map, List.length_cons, List.length_nil] at hl
  match fs, hl, hf with
  | [f4, f5], _, hf =>
    simp only [List.map_cons, List.map_nil, List.cons.injEq, Prod.mk.injEq, decide_eq_true_eq, and_true] at hf
    obtain ⟨⟨t4, o4, n4⟩, t5, o5, n5⟩ := hf
    have hG : Tryz.prog.plainKey 9 = true := by kernel_rfl
    simp only [Op.eqFields, n4, n5, t4, t5, o4, o5, ne_eq, not_true, not_false_eq_true, if_true, Sem.run_bind]
    rw [run_part_plain W hG (v := .string a4) rfl]
    simp only [Result.andThen_ok]
    rw [run_part_plain W hG (v := .string b4) rfl]
    simp only [Result.andThen_ok]
    rw [run_equalIn_string W 9998 _ a4 b4 (by kernel_rfl)]
    simp only [Result.andThen_ok]
    cases h4 : (a4.toList == b4.toList)
    · rfl
    simp only [Bool.not_true, Bool.false_eq_true, if_false, Sem.run_bind, Bool.true_and]
    rw [run_part_plain W hG (v := .string a5) rfl]
    simp only [Result.andThen_ok]
    rw [run_part_plain W hG (v := .string b5) rfl]
    simp only [Result.andThen_ok]
    rw [run_equalIn_string W 9998 _ a5 b5 (by kernel_rfl)]
    simp only [Result.andThen_ok, Bool.true_and]
    cases h5 : (a5.toList == b5.toList)
    · rfl
    · rfl
end Go.Proofs.YtaacikjoafobfaaGreatDoor.Fi
