/-
  The law ForestSame: whether any two are the same is the document's.
-/
import Derived.Test.YtkcfpglmlhoiaaaDoorFoIu
import Derived.Test.YtkcfpglmlhoiaaaDoorFoIr
import Derived.Test.YtkcfpglmlhoiaaaDoorFoAc
import Derived.Test.YtkcfpglmlhoiaaaDoorFoP
namespace Go.Proofs.YtkcfpglmlhoiaaaDoor
open Go.ChangeShapes Go.WideShapes Go.ChangeAt Go.RowKit
set_option linter.unusedVariables false
set_option linter.unusedSimpArgs false

theorem sameN2_core (m n : Mn) : sameN2 (core m) (core n) = sameN2 m n := rfl
theorem pairB_core (F G : List Mn) (i : Nat) : pairB (F.map core) (G.map core) i = pairB F G i := by
  unfold pairB
  rw [List.getElem?_map, List.getElem?_map]
  cases F[i]? with
  | none => rfl
  | some m =>
    cases G[i]? with
    | none => rfl
    | some n => rfl
theorem sameF_core (F G : List Mn) : sameF (F.map core) (G.map core) = sameF F G := by
  unfold sameF
  rw [List.length_map, List.length_map, show pairB (F.map core) (G.map core) = pairB F G from funext (pairB_core F G)]
theorem sameF_like {F F' G G' : List Mn} (h : F'.map core = F.map core) (h' : G'.map core = G.map core) : sameF F' G' = sameF F G := by
  rw [← sameF_core F' G', h, h', sameF_core]
theorem core_len {F F' : List Mn} (h : F'.map core = F.map core) : F'.length = F.length := by
  have := congrArg List.length h
  simpa using this
theorem core_mem {F F' : List Mn} (h : F'.map core = F.map core) {m : Mn} (hm : m ∈ F') : ∃ m' ∈ F, core m' = core m := by
  have : core m ∈ F.map core := h ▸ List.mem_map.2 ⟨m, hm, rfl⟩
  obtain ⟨m', h1, h2⟩ := List.mem_map.1 this
  exact ⟨m', h1, h2⟩
theorem core_eq {m m' : Mn} (h : core m' = core m) : m'.kind = m.kind ∧ m'.name = m.name ∧ m'.text = m.text ∧ m'.attrs = m.attrs ∧ m'.parent = m.parent ∧ m'.kids = m.kids :=
  have a := congrArg Mn.kind h
  have b := congrArg Mn.name h
  have c := congrArg Mn.text h
  have d := congrArg Mn.attrs h
  have e := congrArg Mn.parent h
  have f := congrArg Mn.kids h
  ⟨a, b, c, d, e, f⟩
theorem sz2_core {F F' : List Mn} (h : F'.map core = F.map core) (hz : Sz2 F) : Sz2 F' :=
  ⟨by rw [core_len h]; exact hz.len, fun m hm => by
    obtain ⟨m', h1, h2⟩ := core_mem h hm
    rw [← (core_eq h2).2.2.2.2.2]
    exact hz.kids m' h1, fun m hm => by
    obtain ⟨m', h1, h2⟩ := core_mem h hm
    rw [← (core_eq h2).2.2.2.1]
    exact hz.attrs m' h1, fun m hm => by
    obtain ⟨m', h1, h2⟩ := core_mem h hm
    rw [← (core_eq h2).2.1, ← (core_eq h2).2.2.1, ← (core_eq h2).2.2.2.1]
    exact hz.str m' h1⟩
theorem sameF_refl (F : List Mn) : sameF F F = true := by
  unfold sameF
  rw [decide_eq_true rfl, Bool.true_and, List.all_eq_true]
  intro i hi
  have hi' := List.mem_range.1 hi
  simp [pairB, List.getElem?_eq_getElem hi', sameN2, eqA, eqI]
set_option maxRecDepth 100000 in
set_option maxHeartbeats 8000000 in
theorem same_law (A B : Option Addr) (F G : List Mn) (c d : Nat) (mx : Int) (w : World) (hF : FR w A F) (hG : FR w B G) (hn : F.length ≤ 9223372036854775807) (hn' : G.length ≤ 9223372036854775807) (hm : w.cell? ⟨0, 0, none⟩ = some (.int .i64 mx)) :
    Calls Tryd.prog 3 #[.slice A F.length c, .slice B G.length d] w (GivesV (.bool true) w) := by
  have hg0 : 0 < w.heap.size := World.block_lt_of_cell? _ _ hm
  have HBa := Lib.hid (bounded_any A F c w hF hn)
  have HBb := Lib.hid (bounded_any B G d w hG hn')
  have HS := Lib.hid (fun (V : World) (hb : Below w.heap.size w V) => shown_true mx V ((hb.cell (p := ⟨0, 0, none⟩) hg0).trans hm))
  have H1 := Lib.hid (fun (V : World) (hb : Below w.heap.size w V) (h1 : bdB F = true) (h2 : bdB G = true) => same_any A B F G c d V (hF.below hb) (hG.below hb) (bd_sz2 h1) (bd_sz2 h2))
  have H2 := Lib.hid (fun (V : World) (hb : Below w.heap.size w V) (h1 : bdB F = true) => its_any A F c V (hF.below hb) (bd_sz2 h1))
  have H3 := Lib.hid (fun (V : World) (hb : Below w.heap.size w V) (h1 : bdB G = true) => its_any B G d V (hG.below hb) (bd_sz2 h1))
  have H4 := Lib.hid (fun (V : World) (A' B' : Option Addr) (c' d' : Nat) (F' G' : List Mn) (h1 : bdB F = true) (h2 : bdB G = true) (e1 : F'.map core = F.map core) (e2 : G'.map core = G.map core) (f1 : FR V A' F') (f2 : FR V B' G') => show Calls Tryd.prog 7 #[.slice A' F.length c', .slice B' G.length d'] V (GivesV (.bool (sameF F G)) V) from by
    have := rsame_any A' B' F' G' c' d' V f1 f2 (sz2_core e1 (bd_sz2 h1)) (sz2_core e2 (bd_sz2 h2))
    rwa [core_len e1, core_len e2, sameF_like e1 e2] at this)
  have H5 := Lib.hid (fun (V : World) (hb : Below w.heap.size w V) (h1 : bdB F = true) => show Calls Tryd.prog 6 #[.slice A F.length c, .slice A F.length c] V (GivesV (.bool true) V) from by
    have := same_any A A F F c c V (hF.below hb) (hF.below hb) (bd_sz2 h1) (bd_sz2 h1)
    rwa [sameF_refl] at this)
  clear hF hG hm
  generalize sameF F G = R at *
  generalize bdB F = BF at *
  generalize bdB G = BG at *
  generalize F.length = n at *
  generalize G.length = n' at *
  go_enter Tryd.func3, Tryd.ntmps3
  go_wp2_with fail
  refine HBa.out.mono ?_
  rintro e w' ⟨rfl, hw⟩
  obtain rfl := hw.symm
  cases BF with
  | false =>
    go_wp2_with fail
    refine (HS.out w (Below.refl _ _)).mono ?_
    rintro e w1 ⟨rfl, hb⟩
    have HB1 := Lib.hid hb
    clear hb
    go_wp2
    go_ret
    exact ⟨rfl, HB1.out⟩
  | true =>
  go_wp2_with fail
  refine HBb.out.mono ?_
  rintro e w' ⟨rfl, hw⟩
  obtain rfl := hw.symm
  cases BG with
  | false =>
    go_wp2_with fail
    refine (HS.out w (Below.refl _ _)).mono ?_
    rintro e w1 ⟨rfl, hb⟩
    have HB1 := Lib.hid hb
    clear hb
    go_wp2
    go_ret
    exact ⟨rfl, HB1.out⟩
  | true =>
  go_wp2_with fail
  refine (HS.out w (Below.refl _ _)).mono ?_
  rintro e w1 ⟨rfl, hb⟩
  have HB1 := Lib.hid hb
  clear hb
  go_wp2_with fail
  refine (H1.out w1 HB1.out (by first | rfl | trivial) (by first | rfl | trivial)).mono ?_
  rintro e w2 ⟨rfl, hb⟩
  have HB2 := Lib.hid (HB1.out.trans (hb.mono HB1.out.size))
  clear hb
  go_wp2_with fail
  refine (H2.out w2 HB2.out (by first | rfl | trivial)).mono ?_
  rintro e w3 ⟨A', c', F', rfl, e1, f1, hb⟩
  have HB3 := Lib.hid (HB2.out.trans (hb.mono HB2.out.size))
  have HE1 := Lib.hid e1
  have HF1 := Lib.hid f1
  clear hb e1 f1
  go_wp2_with fail
  refine (H3.out w3 HB3.out (by first | rfl | trivial)).mono ?_
  rintro e w4 ⟨B', d', G', rfl, e2, f2, hb⟩
  have HB4 := Lib.hid (HB3.out.trans (hb.mono HB3.out.size))
  have H44 := Lib.hid (H4.out w4 A' B' c' d' F' G' (by first | rfl | trivial) (by first | rfl | trivial) HE1.out e2 (HF1.out.below hb) f2)
  clear hb e2 f2
  go_wp2_with fail
  refine H44.out.mono ?_
  rintro e w5 ⟨rfl, hb⟩
  have HB5 := Lib.hid (HB4.out.trans (hb.mono HB4.out.size))
  have hq : (R == R) = true := by cases R <;> rfl
  clear hb
  cases R
  all_goals
    go_wp2_with fail
    refine (H5.out w5 HB5.out (by first | rfl | trivial)).mono ?_
    rintro e w6 ⟨rfl, hb⟩
    have HB6 := Lib.hid (HB5.out.trans (hb.mono HB5.out.size))
    clear hb
    go_wp2
    go_ret
    exact ⟨rfl, HB6.out⟩
/-- The law, of what came in. -/
theorem same_true {H : Type} {enc : TypeId × Value → H} {W : World} {base : Nat} {v0 v1 : Value} {d0 d1 : DataW H} {p0 p1 : List MemPlace} (hm : ∃ mx, W.cell? ⟨0, 0, none⟩ = some (.int .i64 mx)) (o0 : Value.okWide Tryd.prog W .any base 23 v0) (o1 : Value.okWide Tryd.prog W .any base 23 v1)
    (h0 : DataW.Trod enc Tryd.prog W 0 (fun _ => true) true 23 v0 d0 p0) (h1 : DataW.Trod enc Tryd.prog W 0 (fun _ => true) true 23 v1 d1 p1) (l0 : ∀ x ∈ p0, x.block < W.heap.size) (l1 : ∀ x ∈ p1, x.block < W.heap.size) :
    Calls Tryd.prog 3 #[v0, v1] W fun e w' => e = .returned (.bool true) ∧ Below W.heap.size W w' := by
  obtain ⟨mx, hm⟩ := hm
  obtain ⟨A, cap, F, rfl, e1, e2, hF⟩ := forest_open o0 h0 l0
  obtain ⟨B, cap', G, rfl, e3, e4, hG⟩ := forest_open o1 h1 l1
  exact same_law A B F G cap cap' mx W hF hG (Nat.le_trans e1 e2) (Nat.le_trans e3 e4) hm
end Go.Proofs.YtkcfpglmlhoiaaaDoor
