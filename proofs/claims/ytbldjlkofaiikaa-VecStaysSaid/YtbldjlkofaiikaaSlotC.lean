/-
  Arenas in memory; a copy of one.
-/
import Derived.Test.YtbldjlkofaiikaaSlotB
import Derived.Test.YtbldjlkofaiikaaSlotM
import Derived.Deep.RegionHeld3
namespace Go.Proofs.Ytbldjlkofaiikaa
open Go.ChangeShapes Go.WideShapes Go.ChangeAt Go.RowKit
set_option linter.unusedVariables false

def gvs (l : List Int) : List Value := l.map (Value.int .u64)
def bvs (l : List Bool) : List Value := l.map Value.bool
def ivs (l : List Int) : List Value := l.map (Value.int .i64)
theorem gvs_one (l : List Int) : ∀ u ∈ gvs l, u.oneCell' = true := by
  intro u hu; simp only [gvs, List.mem_map] at hu; obtain ⟨x, _, rfl⟩ := hu; rfl
theorem bvs_one (l : List Bool) : ∀ u ∈ bvs l, u.oneCell' = true := by
  intro u hu; simp only [bvs, List.mem_map] at hu; obtain ⟨x, _, rfl⟩ := hu; rfl
theorem ivs_one (l : List Int) : ∀ u ∈ ivs l, u.oneCell' = true := by
  intro u hu; simp only [ivs, List.mem_map] at hu; obtain ⟨x, _, rfl⟩ := hu; rfl
theorem gvs_length (l : List Int) : (gvs l).length = l.length := by simp [gvs]
theorem bvs_length (l : List Bool) : (bvs l).length = l.length := by simp [bvs]
theorem ivs_length (l : List Int) : (ivs l).length = l.length := by simp [ivs]

/-- The three lists hold the arena s, each in a block from b on. -/
structure Ar (w : World) (b : Nat) (vg vu vf : Value) (s : St) : Prop where
  g : w.ownsRow b 41 1 vg s.gens.length (gvs s.gens)
  u : w.ownsRow b 4 1 vu s.used.length (bvs s.used)
  f : w.ownsRow b 3 1 vf s.free.length (ivs s.free)
theorem Ar.below {w w' : World} {b : Nat} {vg vu vf : Value} {s : St} (h : Ar w b vg vu vf s) (hb : Below w.heap.size w w') : Ar w' b vg vu vf s :=
  ⟨own_below h.g hb, own_below h.u hb, own_below h.f hb⟩
theorem Ar.drew {w : World} {b : Nat} {vg vu vf : Value} {s : St} (h : Ar w b vg vu vf s) : Ar w.drew b vg vu vf s := ⟨h.g.drew, h.u.drew, h.f.drew⟩
theorem Ar.drewN {w : World} {b : Nat} {vg vu vf : Value} {s : St} (h : Ar w b vg vu vf s) (n : Nat) : Ar (w.drewN n) b vg vu vf s := h.below (below_drewN (Below.refl _ _) n)
theorem Ar.drop {w : World} {b b' : Nat} {vg vu vf : Value} {s : St} (h : Ar w b vg vu vf s) (hb : b' ≤ b) : Ar w b' vg vu vf s :=
  ⟨own_drop h.g hb, own_drop h.u hb, own_drop h.f hb⟩
/-- An arena s is handed back in new memory. -/
def GivesSt (s : St) (w : World) (en : Ending) (w' : World) : Prop :=
  ∃ vg vu vf, en = .returned (.agg #[vg, vu, vf]) ∧ Ar w' w.heap.size vg vu vf s ∧ Below w.heap.size w w'

/-- Three cells of a block lie as they lay. -/
theorem keep3 {W w' : World} {B k : Nat} {a b c : Value} (h0 : W.cell? ⟨k, 0, none⟩ = some a) (h1 : W.cell? ⟨k, 1, none⟩ = some b) (h2 : W.cell? ⟨k, 2, none⟩ = some c) (hk : k < B) (hb : Below B W w') :
    w'.cell? ⟨k, 0, none⟩ = some a ∧ w'.cell? ⟨k, 1, none⟩ = some b ∧ w'.cell? ⟨k, 2, none⟩ = some c ∧ Hid (Below B W w') :=
  ⟨(hb.cell (p := ⟨k, 0, none⟩) hk).trans h0, (hb.cell (p := ⟨k, 1, none⟩) hk).trans h1, (hb.cell (p := ⟨k, 2, none⟩) hk).trans h2, Lib.hid hb⟩
theorem block3 {w : World} {k : Nat} {a b c : Value} {t : TypeId} (h : w.heap[k]? = some (.cells #[a, b, c] t (0, 0))) :
    w.cell? ⟨k, 0, none⟩ = some a ∧ w.cell? ⟨k, 1, none⟩ = some b ∧ w.cell? ⟨k, 2, none⟩ = some c ∧ w.frozen? ⟨k, 0, none⟩ = false ∧ w.frozen? ⟨k, 1, none⟩ = false ∧ w.frozen? ⟨k, 2, none⟩ = false := by
  simp [World.cell?, World.frozen?, h]
theorem own_at {w w' : World} {B base : Nat} {e : TypeId} {size n : Nat} {v : Value} {xs : List Value} (h : w.ownsRow base e size v n xs) (hB : w.heap.size ≤ B) (hb : Below B w w') : w'.ownsRow base e size v n xs :=
  own_below h (hb.mono hB)

set_option maxHeartbeats 1000000 in
theorem copyOf_any (vg vu vf : Value) (s : St) (b : Nat) (w : World) (h : Ar w b vg vu vf s) (hg : s.gens.length ≤ 1000) (hu : s.used.length ≤ 1000) (hf : s.free.length ≤ 1000) :
    Calls Try.prog 76 #[.agg #[vg, vu, vf]] w (GivesSt s w) := by
  obtain ⟨pg, cg, rfl, _, _, _⟩ := own_form h.g
  obtain ⟨pu, cu, rfl, _, _, _⟩ := own_form h.u
  obtain ⟨pf, cf, rfl, _, _, _⟩ := own_form h.f
  have HA := Lib.hid h
  clear h
  go_enter Try.func76, Try.ntmps76
  go_wp2_with fail
  obtain ⟨W, hW⟩ : ∃ W, W = (w.alloc (.cells #[.slice pg s.gens.length cg, .slice pu s.used.length cu, .slice pf s.free.length cf] 28)).alloc (.cells #[.slice none 0 0, .slice none 0 0, .slice none 0 0] 28) := ⟨_, rfl⟩
  have HW : Hid (Below w.heap.size w W ∧ W.heap.size = w.heap.size + 2 ∧ W.heap[w.heap.size]? = some (.cells #[.slice pg s.gens.length cg, .slice pu s.used.length cu, .slice pf s.free.length cf] 28 (0, 0)) ∧ W.heap[w.heap.size + 1]? = some (.cells #[.slice none 0 0, .slice none 0 0, .slice none 0 0] 28 (0, 0))) := Lib.hid (by
    subst hW
    refine ⟨((Below.refl _ w).alloc (Nat.le_refl _) _).alloc (by simp) _, by simp, ?_, ?_⟩
    · rw [heap_alloc_old _ _ (by simp)]; exact heap_alloc_new w _
    · exact (show (w.alloc (.cells #[.slice pg s.gens.length cg, .slice pu s.used.length cu, .slice pf s.free.length cf] 28)).heap.size = w.heap.size + 1 by simp) ▸ heap_alloc_new _ _)
  rw [← hW]
  clear hW
  obtain ⟨c0, c1, c2, _, _, _⟩ := block3 HW.out.2.2.1
  have hBW : Below (w.heap.size + 1) W W.drew := (Below.refl _ _).drew
  have HBW := Lib.hid hBW
  have HC := Lib.hid (And.intro c0 (And.intro c1 c2))
  clear hBW c0 c1 c2
  have HS := Lib.hid HW.out.2.1
  have HT0 := Lib.hid HW.out.2.2.2
  go_region_held3 (fun w' => w'.cell? ⟨w.heap.size, 0, none⟩ = some (.slice pg s.gens.length cg) ∧ w'.cell? ⟨w.heap.size, 1, none⟩ = some (.slice pu s.used.length cu) ∧ w'.cell? ⟨w.heap.size, 2, none⟩ = some (.slice pf s.free.length cf) ∧ Hid (Below (w.heap.size + 1) W w'))
    (first
      | exact keep3 HC.out.1 HC.out.2.1 HC.out.2.2 (by omega) HBW.out
      | exact keep3 HC.out.1 HC.out.2.1 HC.out.2.2 (by omega) HB1.out
      | exact keep3 HC.out.1 HC.out.2.1 HC.out.2.2 (by omega) HB2.out
      | exact keep3 HC.out.1 HC.out.2.1 HC.out.2.2 (by omega) HB3.out
      | exact keep3 HC.out.1 HC.out.2.1 HC.out.2.2 (by omega) (((HB3.out.setCell (by simp) _).setCell (by simp) _).setCell (by simp) _))
    (first
      | (go_at_call 89
         refine (copyG_any _ _ _ b _ (own_below HA.out.g (HW.out.1.trans (HBW.out.mono (by omega)))) (gvs_one _) (by omega)).mono ?_
         rintro e w1 ⟨v1, rfl, ho1, hb1⟩
         obtain ⟨p1, k1, rfl, -, -, -⟩ := own_form ho1
         have HO1 := Lib.hid ho1
         have HB1 : Hid (Below (w.heap.size + 1) W w1) := Lib.hid (HBW.out.trans (hb1.mono (by have := HS.out; simp; omega)))
         have HT1 : Hid (w1.heap[w.heap.size + 1]? = some (.cells #[.slice none 0 0, .slice none 0 0, .slice none 0 0] 28 (0, 0))) := Lib.hid ((hb1.block _ (by have := HS.out; simp; omega)).trans HT0.out)
         clear hb1 ho1)
      | (go_at_call 90
         refine (copyU_any _ _ _ b _ (own_below HA.out.u (HW.out.1.trans (HB1.out.mono (by omega)))) (bvs_one _) (by omega)).mono ?_
         rintro e w2 ⟨v2, rfl, ho2, hb2⟩
         obtain ⟨p2, k2, rfl, -, -, -⟩ := own_form ho2
         have HO2 := Lib.hid ho2
         have HO12 := Lib.hid (own_below HO1.out hb2)
         have HB2 : Hid (Below (w.heap.size + 1) W w2) := Lib.hid (HB1.out.trans (hb2.mono (by have := HS.out; have := HB1.out.size; omega)))
         have HT2 : Hid (w2.heap[w.heap.size + 1]? = some (.cells #[.slice none 0 0, .slice none 0 0, .slice none 0 0] 28 (0, 0))) := Lib.hid ((hb2.block _ (by have := HS.out; have := HB1.out.size; omega)).trans HT1.out)
         clear hb2 ho2)
      | (go_at_call 91
         refine (copyF_any _ _ _ b _ (own_below HA.out.f (HW.out.1.trans (HB2.out.mono (by omega)))) (ivs_one _) (by omega)).mono ?_
         rintro e w3 ⟨v3, rfl, ho3, hb3⟩
         obtain ⟨p3, k3, rfl, -, -, -⟩ := own_form ho3
         have HO3 := Lib.hid ho3
         have HO13 := Lib.hid (own_below HO12.out hb3)
         have HO23 := Lib.hid (own_below HO2.out hb3)
         have HB3 : Hid (Below (w.heap.size + 1) W w3) := Lib.hid (HB2.out.trans (hb3.mono (by have := HS.out; have := HB2.out.size; omega)))
         have HT3 : Hid (w3.heap[w.heap.size + 1]? = some (.cells #[.slice none 0 0, .slice none 0 0, .slice none 0 0] 28 (0, 0))) := Lib.hid ((hb3.block _ (by have := HS.out; have := HB2.out.size; omega)).trans HT2.out)
         obtain ⟨d0, d1, d2, z0, z1, z2⟩ := block3 HT3.out
         clear hb3 ho3))
  go_wp2
  have hs := HS.out
  have h1 := HB1.out.size
  have h2 := HB2.out.size
  refine bodyPost_ret (v := .agg #[.slice p1 s.gens.length k1, .slice p2 s.used.length k2, .slice p3 s.free.length k3]) (by simp [results, Try.results76, go_sem, d0, d1, d2]) rfl ⟨_, _, _, rfl, ⟨?_, ?_, ?_⟩, ?_⟩
  · have := HO13.out
    rw [gvs_length] at this
    exact own_drop (ownsRow_setCell_below (ownsRow_setCell_below (ownsRow_setCell_below this (by simp; omega) _) (by simp; omega) _) (by simp; omega) _) (by simp; omega)
  · have := HO23.out
    rw [bvs_length] at this
    exact own_drop (ownsRow_setCell_below (ownsRow_setCell_below (ownsRow_setCell_below this (by simp; omega) _) (by simp; omega) _) (by simp; omega) _) (by omega)
  · have := HO3.out
    rw [ivs_length] at this
    exact own_drop (ownsRow_setCell_below (ownsRow_setCell_below (ownsRow_setCell_below this (by simp; omega) _) (by simp; omega) _) (by simp; omega) _) (by omega)
  · exact (((HW.out.1.trans (HB3.out.mono (by omega))).setCell (by simp) _).setCell (by simp) _).setCell (by simp) _
end Go.Proofs.Ytbldjlkofaiikaa
