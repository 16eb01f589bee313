/-
  Whether some row of a selector ends at a node: Is, and First.
-/
import Derived.Test.YtaacikjoafobfaaGreatDoorZFiG
import Derived.Test.YtaacikjoafobfaaGreatDoorG26
import Derived.Test.YtaacikjoafobfaaGreatDoorG16
namespace Go.Proofs.YtaacikjoafobfaaGreatDoor.Fi
open Go.ChangeShapes Go.WideShapes Go.ChangeAt Go.RowKit
open Sx (Tr Ms Mr TR MR XR tV r1)
set_option linter.unusedVariables false
set_option linter.unusedSimpArgs false

/-- A selector that can be asked. -/
structure Xs (w : World) (B : Option Addr) (x : List Mr) : Prop where
  xr : XR w B x
  len : x.length ≤ 9223372036854775807
  row : ∀ m ∈ x, TB m.2 ∧ m.2.length ≤ m.1.2 ∧ m.1.2 ≤ 9223372036854775807
theorem Xs.below {w w' : World} {B : Option Addr} {x : List Mr} (h : Xs w B x) (hb : Below w.heap.size w w') : Xs w' B x := ⟨h.xr.below hb, h.len, h.row⟩
theorem Xs.rw {w : World} {B : Option Addr} {x : List Mr} (h : Xs w B x) {k : Nat} (hk : k < x.length) : Rw w x[k].1.1 x[k].2 x[k].1.2 := by
  obtain ⟨g, off, -, -, -, hm⟩ := h.xr k x[k] (List.getElem?_eq_getElem hk)
  obtain ⟨h1, h2, h3⟩ := h.row _ (List.getElem_mem hk)
  exact ⟨hm, h1, h2, h3⟩
/-- Whether a row of x ends at a node. -/
def isP (F : List Mn) (x : List Mr) (i : Nat) : Bool := x.any (fun m => eD fitsB (rowB m.2).reverse (wayU F i))
theorem may_nb {F : List Mn} (h : mayB F = true) : ∀ m ∈ F, NB m := fun m hm => by
  obtain ⟨a, b, c⟩ := may_str h m hm
  have := (may_sz h).2 m hm
  exact ⟨by omega, by omega, fun x hx => by have := c x hx; omega⟩
theorem wayL_mem {F : List Mn} : ∀ {g : Nat} {x : Int} {m : Mn}, m ∈ wayL F g x → m ∈ F
  | 0, x, m, h => by simp [wayL] at h
  | g + 1, x, m, h => by
    unfold wayL at h
    split at h
    · simp at h
    · rw [List.mem_append] at h
      rcases h with h | h
      · rw [Option.mem_toList] at h
        exact List.mem_of_getElem? h
      · exact wayL_mem h
set_option maxHeartbeats 1000000 in
theorem row1 (k0 : Nat) (A : Option Addr) (L : List Mn) (c : Nat) (m : Mr) (w : World) (hk : w.heap[k0]? = some (.cells #[.slice A L.length c] 28 (0, 0))) (hW : Wy w A L c) (hR : Rw w m.1.1 m.2 m.1.2) :
    Calls Tryz.prog 84 #[r1 m, .pointer (some ⟨k0, 0, none⟩)] w (GivesV (.bool (eD fitsB (rowB m.2).reverse L)) w) := by
  have HX := Lib.hid (ends_any A L c m.1.1 m.2 m.1.2 w hW hR)
  have x0 := block1 hk
  unfold r1
  generalize eD fitsB (rowB m.2).reverse L = R at *
  generalize L.length = n at *
  generalize m.2.length = k at *
  clear hk hW hR
  go_enter Tryz.func84, Tryz.ntmps84
  go_wp2_with fail
  refine HX.out.mono ?_
  rintro e w1 ⟨rfl, hb⟩
  have HB := Lib.hid hb
  clear hb
  go_wp2
  go_ret
  exact ⟨rfl, HB.out⟩
set_option maxRecDepth 100000 in
set_option maxHeartbeats 1000000 in
theorem some_any (A : Option Addr) (F : List Mn) (c i : Nat) (B : Option Addr) (x : List Mr) (d : Nat) (w : World) (hF : FR w A F) (hm : mayB F = true) (hi : i < F.length) (hX : Xs w B x) :
    Calls Tryz.prog 51 #[.slice A F.length c, .int .i64 i, .slice B x.length d] w (GivesV (.bool (isP F x i)) w) := by
  have HW := Lib.hid (way_any A F c i w hF hm hi)
  have hl : (wayU F i).length ≤ 1000 := by
    have := wayL_len F F.length i
    have := (may_sz hm).1
    unfold wayU
    omega
  have HH := Lib.hid (fun (V : World) (p : Option Addr) (cap k0 : Nat) (hb : Below w.heap.size w V) (hk : V.heap[k0]? = some (.cells #[.slice p (wayU F i).length cap] 28 (0, 0))) (hf : FR V p (wayU F i)) (h1 : (wayU F i).length ≤ cap) (h2 : cap ≤ 9223372036854775807) =>
    has_row (fun m => eD fitsB (rowB m.2).reverse (wayU F i)) k0 B x d V (hX.below hb).xr hX.len (fun k hk' U hU => row1 k0 p (wayU F i) cap x[k] U ((hU.block _ (lt_of_block hk)).trans hk) ⟨hf.below hU, fun m hm' => may_nb hm m (wayL_mem hm'), h1, h2, hl⟩ ((hX.below (hb.trans (hU.mono hb.size))).rw hk')))
  have HE : Hid (isP F x i = x.any (fun m => eD fitsB (rowB m.2).reverse (wayU F i))) := Lib.hid rfl
  rw [← HE.out] at HH
  generalize isP F x i = R at *
  generalize wayU F i = W at *
  generalize F.length = n at *
  generalize x.length = nx at *
  clear hF hm hi hX hl HE
  go_enter Tryz.func51, Tryz.ntmps51
  go_wp2_with fail
  refine HW.out.mono ?_
  rintro e w1 ⟨p, cap, rfl, h1, h2, hf, hb⟩
  have HB1 := Lib.hid hb
  have hb2 : Below w1.heap.size w1 (w1.alloc (.cells #[.slice p W.length cap] 28)) := (Below.refl _ _).alloc (Nat.le_refl _) _
  have HB2 := Lib.hid (hb.trans (hb2.mono hb.size))
  have HH2 := Lib.hid (HH.out _ p cap w1.heap.size HB2.out (heap_alloc_new w1 (.cells #[.slice p W.length cap] 28)) (hf.below hb2) h1 h2)
  generalize W.length = nw at *
  clear h1 h2 hf hb hb2
  go_wp2_with fail
  refine HH2.out.mono ?_
  rintro e w2 ⟨rfl, hb⟩
  have HB3 := Lib.hid (HB2.out.trans (hb.mono HB2.out.size))
  clear hb
  go_wp2
  go_ret
  exact ⟨rfl, HB3.out⟩
theorem below_self {F : List Mn} (h : mayB F = true) {i : Nat} (hi : i < F.length) : belowB F i i = true := by
  have e : onWay F i F.length i = true := by
    obtain ⟨n, hn⟩ : ∃ n, F.length = n + 1 := ⟨F.length - 1, by omega⟩
    rw [hn, onWay, if_neg (by omega)]
    simp
  rw [belowB, h, e, isB, decide_eq_true (by omega)]
  rfl
set_option maxHeartbeats 1000000 in
theorem is_any (A : Option Addr) (F : List Mn) (c i : Nat) (B : Option Addr) (x : List Mr) (d : Nat) (w : World) (hF : FR w A F) (hm : mayB F = true) (hi : i < F.length) (hX : Xs w B x) :
    Calls Tryz.prog 22 #[.slice A F.length c, .int .i64 i, .slice B x.length d] w (GivesV (.bool (isP F x i)) w) := by
  have HBe : Hid (Calls Tryz.prog 28 #[.slice A F.length c, .int .i64 i, .int .i64 i] w (GivesV (.bool true) w)) := Lib.hid (by
    have := below_any A F c i i w hF (may_sz1 hm)
    rwa [below_self hm hi] at this)
  have HS := Lib.hid (fun (V : World) (hb : Below w.heap.size w V) => some_any A F c i B x d V (hF.below hb) hm hi (hX.below hb))
  generalize isP F x i = R at *
  generalize F.length = n at *
  generalize x.length = nx at *
  clear hF hm hi hX
  go_enter Tryz.func22, Tryz.ntmps22
  go_wp2_with fail
  refine HBe.out.mono ?_
  rintro e w1 ⟨rfl, hb⟩
  have HB := Lib.hid hb
  have HS1 := Lib.hid (HS.out w1 hb)
  clear hb
  go_wp2_with fail
  refine HS1.out.mono ?_
  rintro e w2 ⟨rfl, hb⟩
  have HB2 := Lib.hid (HB.out.trans (hb.mono HB.out.size))
  clear hb
  go_wp2
  go_ret
  exact ⟨rfl, HB2.out⟩
/-- A forest in the variable k0, a selector in the variable k1. -/
structure Two (w : World) (k0 k1 : Nat) (A : Option Addr) (F : List Mn) (c : Nat) (B : Option Addr) (x : List Mr) (d : Nat) : Prop where
  f : w.heap[k0]? = some (.cells #[.slice A F.length c] 29 (0, 0))
  s : w.heap[k1]? = some (.cells #[.slice B x.length d] 24 (0, 0))
  fr : FR w A F
  xs : Xs w B x
theorem Two.below {w w' : World} {k0 k1 : Nat} {A : Option Addr} {F : List Mn} {c : Nat} {B : Option Addr} {x : List Mr} {d : Nat} (h : Two w k0 k1 A F c B x d) (hb : Below w.heap.size w w') : Two w' k0 k1 A F c B x d :=
  ⟨(hb.block _ (lt_of_block h.f)).trans h.f, (hb.block _ (lt_of_block h.s)).trans h.s, h.fr.below hb, h.xs.below hb⟩
set_option maxHeartbeats 1000000 in
theorem first1 (k0 k1 : Nat) (A : Option Addr) (F : List Mn) (c i : Nat) (B : Option Addr) (x : List Mr) (d : Nat) (w : World) (hT : Two w k0 k1 A F c B x d) (hm : mayB F = true) (hi : i < F.length) :
    Calls Tryz.prog 53 #[.int .i64 i, .pointer (some ⟨k0, 0, none⟩), .pointer (some ⟨k1, 0, none⟩)] w (GivesV (.bool (isP F x i)) w) := by
  have HS := Lib.hid (some_any A F c i B x d w hT.fr hm hi hT.xs)
  have x0 := block1 hT.f
  have x1 := block1 hT.s
  generalize isP F x i = R at *
  generalize F.length = n at *
  generalize x.length = nx at *
  clear hT hm hi
  go_enter Tryz.func53, Tryz.ntmps53
  go_wp2_with fail
  refine HS.out.mono ?_
  rintro e w2 ⟨rfl, hb⟩
  have HB2 := Lib.hid hb
  clear hb
  go_wp2
  go_ret
  exact ⟨rfl, HB2.out⟩
set_option maxHeartbeats 1000000 in
theorem all1 (k0 k1 : Nat) (A : Option Addr) (F : List Mn) (c i : Nat) (B : Option Addr) (x : List Mr) (d : Nat) (w : World) (hT : Two w k0 k1 A F c B x d) (hm : mayB F = true) (hi : i < F.length) :
    Calls Tryz.prog 50 #[.int .i64 i, .pointer (some ⟨k0, 0, none⟩), .pointer (some ⟨k1, 0, none⟩)] w (GivesV (.bool (!isP F x i)) w) := by
  have HS := Lib.hid (some_any A F c i B x d w hT.fr hm hi hT.xs)
  have x0 := block1 hT.f
  have x1 := block1 hT.s
  generalize isP F x i = R at *
  generalize F.length = n at *
  generalize x.length = nx at *
  clear hT hm hi
  go_enter Tryz.func50, Tryz.ntmps50
  go_wp2_with fail
  refine HS.out.mono ?_
  rintro e w2 ⟨rfl, hb⟩
  have HB2 := Lib.hid hb
  clear hb
  go_wp2
  go_ret
  exact ⟨rfl, HB2.out⟩
/-- What First tells, of nodes in an order. -/
def firstP (F : List Mn) (x : List Mr) (i : Nat) : Value := match (ord F i).find? (isP F x) with
  | some k => .tuple #[.int .i64 k, .bool true]
  | none => .tuple #[.int .i64 0, .bool false]
def lay2b (w : World) (A : Option Addr) (n c : Nat) (B : Option Addr) (m d : Nat) : World := (w.alloc (.cells #[.slice A n c] 29)).alloc (.cells #[.slice B m d] 24)
theorem lay2b_below (w : World) (A : Option Addr) (n c : Nat) (B : Option Addr) (m d : Nat) : Below w.heap.size w (lay2b w A n c B m d) := ((Below.refl _ _).alloc (Nat.le_refl _) _).alloc (by simp) _
theorem lay2b_two {w : World} {A : Option Addr} {F : List Mn} {c : Nat} {B : Option Addr} {x : List Mr} {d : Nat} (hF : FR w A F) (hX : Xs w B x) : Two (lay2b w A F.length c B x.length d) w.heap.size (w.heap.size + 1) A F c B x d := by
  refine ⟨(Below.heap_alloc _ _ _ (by simp)).trans (heap_alloc_new w _), ?_, hF.below (lay2b_below ..), hX.below (lay2b_below ..)⟩
  have := heap_alloc_new (w.alloc (.cells #[.slice A F.length c] 29)) (.cells #[.slice B x.length d] 24)
  rwa [World.size_alloc] at this
theorem own_irN {w : World} {base : Nat} {v : Value} {l : List Nat} (h : w.ownsRow base 3 1 v l.length (ivN l)) : ∃ p cap, v = .slice p l.length cap ∧ IR w p (l.map Int.ofNat) := by
  obtain ⟨p, cap, rfl, -⟩ := own_form2 h
  exact ⟨p, cap, rfl, own_ir2 (l := l.map Int.ofNat) (n := l.length) (c := cap) (by rw [List.length_map]; exact h)⟩
end Go.Proofs.YtaacikjoafobfaaGreatDoor.Fi
