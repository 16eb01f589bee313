/-
  The document's own Pack.
-/
import Derived.Test.YthfeonmaajiajaaDoorRecSb
import Derived.Test.YthfeonmaajiajaaDoorRecSc
namespace Go.Proofs.YthfeonmaajiajaaDoor
open Go.ChangeShapes Go.WideShapes Go.ChangeAt Go.RowKit
open Rm
set_option linter.unusedVariables false
set_option linter.unusedSimpArgs false

def hps (r : Rc) : List Int := [r.kind, r.par + 1, (r.name.length : Int), (r.text.length : Int), (r.attrs.length : Int) / 2, r.size]
def hvs : List Int := [4, 256, 32, 64, 16, 256]
theorem nmb_head (r : Rc) : nmb (hps r) hvs = headR r := by
  unfold hps hvs headR
  simp only [nmb]
  omega
theorem hps_u64 {r : Rc} (h : MayR r) : U64 (hps r) := by
  obtain ⟨h1, h2, h3, h4, h5, h6, h7, h8, h9, h10, h11⟩ := h
  intro x hx
  simp only [hps, List.mem_cons, List.not_mem_nil, or_false] at hx
  rcases hx with rfl | rfl | rfl | rfl | rfl | rfl <;> omega
theorem hps_nmb {r : Rc} (h : MayR r) (k : Nat) : 0 ≤ nmb ((hps r).drop k) (hvs.drop k) ∧ nmb ((hps r).drop k) (hvs.drop k) ≤ 18446744073709551615 := by
  obtain ⟨h1, h2, h3, h4, h5, h6, h7, h8, h9, h10, h11⟩ := h
  unfold hps hvs
  rcases k with _ | _ | _ | _ | _ | _ | k
  all_goals (simp only [List.drop_zero, List.drop_succ_cons, List.drop_nil, nmb]; omega)
theorem LV.of_block {X : World} {g : Nat} {vs : List Value} {t : TypeId} (h : X.heap[g]? = some (.cells vs.toArray t (0, 0))) : LV X (some ⟨g, 0, none⟩) vs := fun _ =>
  ⟨g, 0, rfl, lt_of_block h, fun j u hu => by rw [Nat.zero_add]; exact block_cell h (by simpa using hu)⟩
theorem hnumber {r : Rc} (hm : MayR r) (X : World) (g1 g2 : Nat) (h1 : X.heap[g1]? = some (.cells #[.int .u64 r.kind, .int .u64 (r.par + 1), .int .u64 (r.name.length : Int), .int .u64 (r.text.length : Int), .int .u64 ((r.attrs.length : Int) / 2), .int .u64 r.size] 23 (0, 0))) (h2 : X.heap[g2]? = some (.cells #[.int .u64 4, .int .u64 256, .int .u64 32, .int .u64 64, .int .u64 16, .int .u64 256] 23 (0, 0))) :
    Calls Tryd.prog 19 #[.slice (some ⟨g1, 0, none⟩) 6 6, .slice (some ⟨g2, 0, none⟩) 6 6] X fun e w' => e = .returned (.int .u64 (headR r)) ∧ Below X.heap.size X w' := by
  have := number_any (some ⟨g1, 0, none⟩) (some ⟨g2, 0, none⟩) 6 6 6 (hps r) hvs X (LV.of_block (vs := gvs (hps r)) (t := 23) h1) (LV.of_block (vs := gvs hvs) (t := 23) h2) rfl rfl (by omega) (hps_u64 hm) (by unfold U64 hvs; decide) (hps_nmb hm)
  rwa [nmb_head] at this
theorem u64w {x : Int} (h0 : 0 ≤ x) (h1 : x ≤ 1000000) : IntKind.u64.wrap x = x := by rw [IntKind.wrap_u64]; omega
theorem i64w {x : Int} (h0 : 0 ≤ x) (h1 : x ≤ 1000000) : IntKind.i64.wrap x = x := by rw [IntKind.wrap_i64]; omega
theorem hnumberA {r : Rc} (hm : MayR r) (w1 : World) :
    Calls Tryd.prog 19 #[.slice (some ⟨w1.heap.size, 0, none⟩) 6 6, .slice (some ⟨w1.heap.size + 1, 0, none⟩) 6 6] ((w1.alloc (.cells #[.int .u64 (IntKind.u64.wrap r.kind), .int .u64 (IntKind.u64.wrap (IntKind.i64.wrap (r.par + 1))), .int .u64 (IntKind.u64.wrap (r.name.length : Int)), .int .u64 (IntKind.u64.wrap (r.text.length : Int)), .int .u64 (IntKind.u64.wrap (IntKind.i64.wrap ((r.attrs.length : Int) / 2))), .int .u64 (IntKind.u64.wrap r.size)] 23)).alloc (.cells #[.int .u64 4, .int .u64 256, .int .u64 32, .int .u64 64, .int .u64 16, .int .u64 256] 23)).drew fun e w' => e = .returned (.int .u64 (headR r)) ∧ Below w1.heap.size w1 w' := by
  have hb : Below w1.heap.size w1 ((w1.alloc (.cells #[.int .u64 (IntKind.u64.wrap r.kind), .int .u64 (IntKind.u64.wrap (IntKind.i64.wrap (r.par + 1))), .int .u64 (IntKind.u64.wrap (r.name.length : Int)), .int .u64 (IntKind.u64.wrap (r.text.length : Int)), .int .u64 (IntKind.u64.wrap (IntKind.i64.wrap ((r.attrs.length : Int) / 2))), .int .u64 (IntKind.u64.wrap r.size)] 23)).alloc (.cells #[.int .u64 4, .int .u64 256, .int .u64 32, .int .u64 64, .int .u64 16, .int .u64 256] 23)).drew := (((Below.refl _ w1).alloc (Nat.le_refl _) _).alloc (by simp) _).drew
  refine (hnumber hm _ w1.heap.size (w1.heap.size + 1) ?_ ?_).mono (fun e w' h => ⟨h.1, hb.trans (h.2.mono hb.size)⟩)
  · obtain ⟨h1, h2, h3, h4, h5, h6, h7, h8, h9, h10, h11⟩ := hm
    have q1 : IntKind.u64.wrap r.kind = r.kind := u64w (by omega) (by omega)
    have q2 : IntKind.u64.wrap (IntKind.i64.wrap (r.par + 1)) = r.par + 1 := by rw [i64w (by omega) (by omega)]; exact u64w (by omega) (by omega)
    have q3 : IntKind.u64.wrap (r.name.length : Int) = (r.name.length : Int) := u64w (by omega) (by omega)
    have q4 : IntKind.u64.wrap (r.text.length : Int) = (r.text.length : Int) := u64w (by omega) (by omega)
    have q5 : IntKind.u64.wrap (IntKind.i64.wrap ((r.attrs.length : Int) / 2)) = (r.attrs.length : Int) / 2 := by rw [i64w (by omega) (by omega)]; exact u64w (by omega) (by omega)
    have q6 : IntKind.u64.wrap r.size = r.size := u64w (by omega) (by omega)
    rw [q1, q2, q3, q4, q5, q6]
    show ((w1.alloc _).alloc _).heap[w1.heap.size]? = _
    rw [heap_old _ _ (by simp)]
    exact heap_new _ _
  · show ((w1.alloc _).alloc _).heap[w1.heap.size + 1]? = _
    have := heap_new (w1.alloc (.cells #[.int .u64 (IntKind.u64.wrap r.kind), .int .u64 (IntKind.u64.wrap (IntKind.i64.wrap (r.par + 1))), .int .u64 (IntKind.u64.wrap (r.name.length : Int)), .int .u64 (IntKind.u64.wrap (r.text.length : Int)), .int .u64 (IntKind.u64.wrap (IntKind.i64.wrap ((r.attrs.length : Int) / 2))), .int .u64 (IntKind.u64.wrap r.size)] 23)) (.cells #[.int .u64 4, .int .u64 256, .int .u64 32, .int .u64 64, .int .u64 16, .int .u64 256] 23)
    simpa using this
theorem hnumberB {r : Rc} (hm : MayR r) (w1 : World) :
    Calls Tryd.prog 19 #[.slice (some ⟨w1.heap.size + 1, 0, none⟩) 6 6, .slice (some ⟨w1.heap.size, 0, none⟩) 6 6] ((w1.alloc (.cells #[.int .u64 4, .int .u64 256, .int .u64 32, .int .u64 64, .int .u64 16, .int .u64 256] 23)).alloc (.cells #[.int .u64 (IntKind.u64.wrap r.kind), .int .u64 (IntKind.u64.wrap (IntKind.i64.wrap (r.par + 1))), .int .u64 (IntKind.u64.wrap (r.name.length : Int)), .int .u64 (IntKind.u64.wrap (r.text.length : Int)), .int .u64 (IntKind.u64.wrap (IntKind.i64.wrap ((r.attrs.length : Int) / 2))), .int .u64 (IntKind.u64.wrap r.size)] 23)).drew fun e w' => e = .returned (.int .u64 (headR r)) ∧ Below w1.heap.size w1 w' := by
  have hb : Below w1.heap.size w1 ((w1.alloc (.cells #[.int .u64 4, .int .u64 256, .int .u64 32, .int .u64 64, .int .u64 16, .int .u64 256] 23)).alloc (.cells #[.int .u64 (IntKind.u64.wrap r.kind), .int .u64 (IntKind.u64.wrap (IntKind.i64.wrap (r.par + 1))), .int .u64 (IntKind.u64.wrap (r.name.length : Int)), .int .u64 (IntKind.u64.wrap (r.text.length : Int)), .int .u64 (IntKind.u64.wrap (IntKind.i64.wrap ((r.attrs.length : Int) / 2))), .int .u64 (IntKind.u64.wrap r.size)] 23)).drew := (((Below.refl _ w1).alloc (Nat.le_refl _) _).alloc (by simp) _).drew
  refine (hnumber hm _ (w1.heap.size + 1) w1.heap.size ?_ ?_).mono (fun e w' h => ⟨h.1, hb.trans (h.2.mono hb.size)⟩)
  · obtain ⟨h1, h2, h3, h4, h5, h6, h7, h8, h9, h10, h11⟩ := hm
    have q1 : IntKind.u64.wrap r.kind = r.kind := u64w (by omega) (by omega)
    have q2 : IntKind.u64.wrap (IntKind.i64.wrap (r.par + 1)) = r.par + 1 := by rw [i64w (by omega) (by omega)]; exact u64w (by omega) (by omega)
    have q3 : IntKind.u64.wrap (r.name.length : Int) = (r.name.length : Int) := u64w (by omega) (by omega)
    have q4 : IntKind.u64.wrap (r.text.length : Int) = (r.text.length : Int) := u64w (by omega) (by omega)
    have q5 : IntKind.u64.wrap (IntKind.i64.wrap ((r.attrs.length : Int) / 2)) = (r.attrs.length : Int) / 2 := by rw [i64w (by omega) (by omega)]; exact u64w (by omega) (by omega)
    have q6 : IntKind.u64.wrap r.size = r.size := u64w (by omega) (by omega)
    rw [q1, q2, q3, q4, q5, q6]
    show ((w1.alloc _).alloc _).heap[w1.heap.size + 1]? = _
    have := heap_new (w1.alloc (.cells #[.int .u64 4, .int .u64 256, .int .u64 32, .int .u64 64, .int .u64 16, .int .u64 256] 23)) (.cells #[.int .u64 r.kind, .int .u64 (r.par + 1), .int .u64 (r.name.length : Int), .int .u64 (r.text.length : Int), .int .u64 ((r.attrs.length : Int) / 2), .int .u64 r.size] 23)
    simpa using this
  · show ((w1.alloc _).alloc _).heap[w1.heap.size]? = _
    rw [heap_old _ _ (by simp)]
    exact heap_new _ _
end Go.Proofs.YthfeonmaajiajaaDoor
