/-
  The document's layer 8: node, and Order.
  The document's layer 10, as plain mathematics: what it asks of a node, and the steps of a row, node by node.
  The document's layer 10: what it asks of a node (attr, so, Fits).
  The document's Fits, and its ends: of each node, whether a row ends at it.
  The document's ends: the walk.
-/
import Derived.Test.YtaacikjoafobfaaGreatDoorP26
import Derived.Test.YtaacikjoafobfaaGreatDoorP28
import Derived.Test.YtaacikjoafobfaaGreatDoorP44
import Derived.Test.YtaacikjoafobfaaGreatDoorP41
import Derived.Test.YtaacikjoafobfaaGreatDoorP35
import Derived.StillTailTactics
import Derived.Deep.OwnRows
import Derived.Laws.OwnMore
namespace Go.Proofs.YtaacikjoafobfaaGreatDoor.R8
open Go.ChangeShapes Go.WideShapes Go.ChangeAt Go.RowKit
set_option linter.unusedVariables false
set_option linter.unusedSimpArgs false

theorem info_int : (Tryz.prog.info? 3).map (fun i => (i.zero, i.size, i.bytes)) = some (some (.int .i64 0), 1, 8) := by kernel_rfl
theorem rnode_any (A : Option Addr) (n c : Nat) (x : Int) (w : World) :
    Calls Tryz.prog 68 #[.slice A n c, .int .i64 x] w fun e w' => e = .returned (.bool (decide (0 ≤ x ∧ x < n))) ∧ w = w' := by
  by_cases h0 : 0 ≤ x
  · by_cases h1 : x < n
    all_goals
      go_enter Tryz.func68, Tryz.ntmps68
      go_wp2
      go_ret
      exact ⟨ret_bool (by simp [h0, h1]), rfl⟩
  · go_enter Tryz.func68, Tryz.ntmps68
    go_wp2
    go_ret
    exact ⟨ret_bool (by simp; intro h; omega), rfl⟩
theorem own_some {w : World} {base : Nat} {v : Value} {l : List Nat} (h : w.ownsRow base 3 1 v l.length (ivN l)) (hl : l ≠ []) : ∃ g cap, v = .slice (some ⟨g, 0, none⟩) l.length cap ∧ l.length ≤ cap ∧ cap ≤ maxLen ∧ base ≤ g ∧ g < w.heap.size ∧ ∀ j u, (ivN l)[j]? = some u → w.cell? ((⟨g, 0, none⟩ : Addr).add j) = some u := by
  have h0 := h
  rcases h.2 with ⟨-, h'⟩ | ⟨g, cap, cur, rfl, hb, hg, h1, h2, -⟩
  · exact absurd (List.eq_nil_of_length_eq_zero h') hl
  · exact ⟨g, cap, rfl, h1, h2, hb, (Array.getElem?_eq_some_iff.1 hg).1, fun j u hu => h0.cells rfl j u hu⟩
theorem ivN_len (l : List Nat) : (ivN l).length = l.length := by simp [ivN, ivs]
theorem ivN_app (l m : List Nat) : ivN (l ++ m) = ivN l ++ ivN m := by simp [ivN, ivs]
theorem ivN_one (l : List Nat) : ∀ u ∈ ivN l, u.oneCell' = true := by
  intro u hu
  simp only [ivN, ivs, List.map_map, List.mem_map] at hu
  obtain ⟨a, -, rfl⟩ := hu
  rfl
theorem cell_int (w : World) (g : Nat) (x : Value) (t : TypeId) (h : w.heap[g]? = some (.cells #[x] t (0, 0))) : ∀ j u, [x][j]? = some u → w.cell? ((⟨g, 0, none⟩ : Addr).add j) = some u := by
  intro j u hu
  rw [add_plain, Nat.zero_add]
  match j, hu with
  | 0, hu => cases hu; simp [World.cell?, h]
  | j + 1, hu => simp at hu
set_option maxRecDepth 100000 in
set_option maxHeartbeats 4000000 in
theorem rorder_fuel (A : Option Addr) (F : List Mn) (c : Nat) (hm : mayB F = true) : ∀ (f i : Nat) (w : World), FR w A F → Dp F f i →
    Calls Tryz.prog 71 #[.slice A F.length c, .int .i64 i] w fun e w' => ∃ v, e = .returned v ∧ w'.ownsRow w.heap.size 3 1 v (ord F i).length (ivN (ord F i)) ∧ Below w.heap.size w w' := by
  intro f
  induction f with
  | zero => intro i w _ hd; exact absurd hd (by simp [Dp])
  | succ f ih =>
    rintro i w hF ⟨hi, hks⟩
    have HF := Lib.hid hF
    have HK : Hid (∀ k ∈ kidsOf F i, ∃ j : Nat, k = j ∧ j < F.length ∧ Dp F f j) := Lib.hid (fun k hk => by
      obtain ⟨j, rfl, hj, -⟩ := kid_node hm hi hk
      exact ⟨j, rfl, hj, by simpa using (hks _ hk).2⟩)
    have HO := Lib.hid (ord_open hm hi)
    have hlen := Nat.le_trans (ord_len hm hi) (mayB_parts hm).2.1
    have HL : Hid (∀ j, (i :: ((kidsOf F i).take j).flatMap (fun k => ord F k.toNat)).length ≤ 60) := Lib.hid (fun j => by
      have h1 := (flatN_take (fun k => ord F k.toNat) (kidsOf F i) j).length_le
      rw [ord_open hm hi] at hlen
      simp only [List.length_cons] at hlen ⊢
      omega)
    have HNE : Hid (∀ j, j < F.length → ord F j ≠ []) := Lib.hid (fun j hj => by rw [ord_open hm hj]; simp)
    have HN : Hid (∀ V, Below w.heap.size w V → ∃ g off, A = some ⟨g, off, none⟩ ∧ g < w.heap.size ∧ V.cell? ⟨g, off + i * 6 + 5, none⟩ = some (.slice F[i].kA (kidsOf F i).length F[i].kC) ∧ IR V F[i].kA (kidsOf F i)) := Lib.hid (fun V hb => by
      obtain ⟨-, g, off, hA, hg, hnd⟩ := hF i F[i] (List.getElem?_eq_getElem hi)
      have h5 := hnd.c5
      have hr := hnd.ir
      rw [← kidsOf_at hi] at h5 hr
      exact ⟨g, off, hA, hg, (hb.cell (p := ⟨g, off + i * 6 + 5, none⟩) hg).trans h5, hr.below hb⟩)
    have HIH := Lib.hid (fun (j : Nat) (V : World) (hb : Below w.heap.size w V) (hd : Dp F f j) => ih j V (hF.below hb) hd)
    have hkb : (kidsOf F i).length ≤ 1000 := by
      have := may_kids hm _ (List.getElem_mem hi)
      rw [kidsOf_at hi]
      omega
    generalize F[i].kA = kA at *
    generalize F[i].kC = kC at *
    generalize kidsOf F i = ks at *
    obtain ⟨kn, hkn⟩ : ∃ kn, ks.length = kn := ⟨_, rfl⟩
    have HKN := Lib.hid hkn
    rw [hkn] at HN hkb
    obtain ⟨n, hn⟩ : ∃ n, F.length = n := ⟨_, rfl⟩
    have HNN := Lib.hid hn
    rw [hn] at HIH ⊢
    have hin : i < n := by omega
    have i0 : (0 : Int) ≤ (i : Int) := by omega
    have i1 : (i : Int) < (n : Int) := by omega
    obtain ⟨z0, hI1, hI2, hI3, hI4⟩ := info_parts info_int
    have HI := Lib.hid (And.intro hI1 (And.intro hI2 (And.intro hI3 hI4)))
    have HB0 : Hid (Below w.heap.size w (w.alloc (.cells #[.int .i64 i] 3))) := Lib.hid ((Below.refl _ _).alloc (Nat.le_refl _) _)
    have HO0 : Hid ((w.alloc (.cells #[.int .i64 i] 3)).ownsRow w.heap.size 3 1 (.slice (some ⟨w.heap.size, 0, none⟩) 1 1) 1 (ivN [i])) := Lib.hid ⟨rfl, .inr ⟨w.heap.size, 1, #[.int .i64 i], rfl, Nat.le_refl _, heap_alloc_new _ _, Nat.le_refl _, by simp [maxLen], rfl, rfl⟩⟩
    clear hF hks hlen ih hkn hn hI1 hI2 hI3 hI4 hi
    go_enter Tryz.func71, Tryz.ntmps71
    go_wp2_with fail
    go_loopw [5, 6] (fun q5 q6 wr => ∃ (V : World) (j nl cap : Nat) (p : Option Addr) (L : List Nat), V = wr ∧ j ≤ kn ∧ q5 = .slice p nl cap ∧ q6 = .int .i64 j ∧ nl ≤ 60 ∧ Hid (L.length = nl ∧ L = i :: (ks.take j).flatMap (fun k => ord F k.toNat)) ∧ Hid (V.ownsRow w.heap.size 3 1 (.slice p nl cap) nl (ivN L)) ∧ Hid (Below w.heap.size w V)) (fun _ q6 _ => kn - (intOf q6).toNat)
    case atStart => exact ⟨_, 0, 1, 1, _, [i], rfl, Nat.zero_le _, rfl, rfl, by omega, Lib.hid ⟨rfl, by simp⟩, HO0, HB0⟩
    case round =>
      clear HO0 HB0
      obtain ⟨V, j, nl, cap, p, L, rfl, hj, rfl, rfl, hnl, HLL, HOw, HB⟩ := hrel
      obtain ⟨g, off, rfl, hg, c5, hIR⟩ := HN.out V HB.out
      by_cases hlt : j < kn
      · have k0 : (0 : Int) ≤ (j : Int) := by omega
        have k1 : (j : Int) < (kn : Int) := by omega
        have hjl : j < ks.length := by rw [HKN.out]; exact hlt
        obtain ⟨gk, ok, rfl, hgk, ck⟩ := hIR j hjl
        rw [getD_at 0 hjl] at ck
        obtain ⟨a, ha, haF, haD⟩ := HK.out ks[j] (List.getElem_mem hjl)
        have HTk : Hid (i :: (ks.take (j + 1)).flatMap (fun k => ord F k.toNat) = (i :: (ks.take j).flatMap (fun k => ord F k.toNat)) ++ ord F a) := Lib.hid (by
          rw [take_more hjl, List.flatMap_append, ha]
          simp)
        rw [ha] at ck
        have HC := Lib.hid (HIH.out a V HB.out haD)
        have HNa := Lib.hid (HNE.out a haF)
        have HLa := HL.out (j + 1)
        have HLb : Hid ((ord F a).length + nl ≤ 60) := Lib.hid (by
          rw [HTk.out, ← HLL.out.2, List.length_append, HLL.out.1] at HLa
          omega)
        clear ha hIR HLa
        generalize ord F a = oa at *
        go_wp2_with fail
        refine HC.out.mono ?_
        rintro e w1 ⟨v1, rfl, hv1, hb⟩
        obtain ⟨g1, cap1, rfl, m1, m2, m3, m4, m5⟩ := own_some hv1 HNa.out
        obtain ⟨na, hna⟩ : ∃ na, oa.length = na := ⟨_, rfl⟩
        have HNA := Lib.hid hna
        have HCe := Lib.hid m5
        have HOx := Lib.hid (own_below HOw.out hb)
        have HB1 := Lib.hid (HB.out.trans (hb.mono HB.out.size))
        have hs1 := HB1.out.size
        have hab := HLb.out
        rw [hna] at m1 hab ⊢
        clear hna m5 hv1 hb
        go_wp2_with (at_builtin; refine wpList_append_own_at _ rfl _ _ 34 rfl w.heap.size 3 z0 (.int .i64 0) 1 8 Tryz.underlying34 HI.out.1 HI.out.2.1 HI.out.2.2.1 HI.out.2.2.2 rfl (by decide) _ _ _ rfl HOx.out ⟨g1, 0, none⟩ na cap1 (ivN oa) rfl (by rw [ivN_len, HNA.out, Nat.mul_one]) HCe.out (ivN_one oa) (by unfold maxLen; omega) (by omega) hs1 ?_; intro v' w2 hown' hgrow _ hat; have HO' := Lib.hid hown'; have HGR := Lib.hid hgrow; clear hown' hgrow hat)
        obtain ⟨p', cap', rfl, -⟩ := own_form2 HO'.out
        have HB2 : Hid (Below w.heap.size w w2) := Lib.hid (HB1.out.grown HGR.out hs1 (fun q e => (HOx.out.lt q e).1))
        have HL2 : Hid ((L ++ oa).length = nl + na ∧ L ++ oa = i :: (ks.take (j + 1)).flatMap (fun k => ord F k.toNat)) := Lib.hid ⟨by rw [List.length_append, HLL.out.1, HNA.out], by rw [HTk.out, HLL.out.2]⟩
        have HO2 : Hid (w2.ownsRow w.heap.size 3 1 (.slice p' (nl + na) cap') (nl + na) (ivN (L ++ oa))) := Lib.hid (by rw [ivN_app]; exact HO'.out)
        go_roundw
        case rel => exact ⟨_, j + 1, nl + na, cap', p', L ++ oa, rfl, by omega, rfl, by go_num, by omega, HL2, HO2, HB2⟩
        case measure => simp [intOf] <;> omega
      · obtain rfl : j = kn := by omega
        have HE : Hid (L = ord F i ∧ nl = (ord F i).length) := Lib.hid (by
          have h1 := HLL.out.2
          rw [List.take_of_length_le (by rw [HKN.out]; exact Nat.le_refl _), ← HO.out] at h1
          exact ⟨h1, by rw [← h1, HLL.out.1]⟩)
        go_wp2
        go_ret
        exact ⟨_, rfl, by rw [← HE.out.1, HLL.out.1]; exact HOw.out, HB.out⟩
/-- What Order tells of a node. -/
theorem rOrder_node (A : Option Addr) (F : List Mn) (c i : Nat) (w : World) (hF : FR w A F) (hm : mayB F = true) (hi : i < F.length) :
    Calls Tryz.prog 40 #[.slice A F.length c, .int .i64 i] w fun e w' => ∃ v, e = .returned (.tuple #[v, .int .i64 0]) ∧ w'.ownsRow w.heap.size 3 1 v (ord F i).length (ivN (ord F i)) ∧ Below w.heap.size w w' := by
  have HN := Lib.hid (rnode_any A F.length c i w)
  have HO := Lib.hid (rorder_fuel A F c hm F.length i w hF (dp_all hm hi))
  have e : decide (0 ≤ (i : Int) ∧ (i : Int) < (F.length : Int)) = true := by simp; omega
  rw [e] at HN
  generalize F.length = n at *
  clear hF hm hi e
  go_enter Tryz.func40, Tryz.ntmps40
  go_wp2_with fail
  refine HN.out.mono ?_
  rintro e w1 ⟨rfl, rfl⟩
  go_wp2_with fail
  refine HO.out.mono ?_
  rintro e w2 ⟨v, rfl, hv, hb⟩
  have HV := Lib.hid hv
  have HB := Lib.hid hb
  clear hv hb
  go_wp2
  go_ret2
  exact ⟨v, rfl, HV.out, HB.out⟩
theorem rOrder_none (A : Option Addr) (n c : Nat) (x : Int) (w : World) (hx : ¬ (0 ≤ x ∧ x < n)) :
    Calls Tryz.prog 40 #[.slice A n c, .int .i64 x] w fun e w' => e = .returned (.tuple #[.slice none 0 0, .int .i64 70]) ∧ Below w.heap.size w w' := by
  have HN := Lib.hid (rnode_any A n c x w)
  have e : decide (0 ≤ x ∧ x < (n : Int)) = false := by simpa using hx
  rw [e] at HN
  clear e hx
  go_enter Tryz.func40, Tryz.ntmps40
  go_wp2_with fail
  refine HN.out.mono ?_
  rintro e w1 ⟨rfl, rfl⟩
  go_wp2
  go_ret2
  exact ⟨rfl, Below.refl _ _⟩
end Go.Proofs.YtaacikjoafobfaaGreatDoor.R8
namespace Go.Proofs.YtaacikjoafobfaaGreatDoor.Fi
open Go.ChangeShapes Go.WideShapes Go.ChangeAt Go.RowKit
open Sx (Tr Ms Mr TR MR XR tV r1 ls te stp rws cx cl)
set_option linter.unusedVariables false
set_option linter.unusedSimpArgs false

theorem wayL_more {F : List Mn} : ∀ (g g' : Nat) (x : Int), endsB F g x = true → g ≤ g' → wayL F g' x = wayL F g x
  | 0, g', x, h, _ => by
    have hx : x = -1 := by simpa [endsB] using h
    rw [hx, wayL_none, wayL_none]
  | g + 1, g', x, h, hg => by
    obtain ⟨k, rfl⟩ : ∃ k, g' = k + 1 := ⟨g' - 1, by omega⟩
    by_cases hx : x = -1
    · rw [hx, wayL_none, wayL_none]
    · rw [endsB] at h
      have h2 : endsB F g (par F x.toNat) = true := by simpa [hx] using h
      rw [wayL, wayL, if_neg hx, if_neg hx, wayL_more g k _ h2 (by omega)]
/-- Whether the first steps of a row end at a node. -/
def nowB (F : List Mn) (row : List (List Tr × Bool)) (n u : Nat) : Bool := eD fitsB (row.take n).reverse (wayU F u)
theorem now_zero (F : List Mn) (row : List (List Tr × Bool)) (u : Nat) : nowB F row 0 u = false := by
  unfold nowB
  cases wayU F u <;> rfl
/-- What a node asks of those above it. -/
def aboveB (F : List Mn) (row : List (List Tr × Bool)) (n : Nat) (ch : Bool) (x : Int) : Bool := decide (n = 0) || (if ch then eD fitsB (row.take n).reverse (wayL F (F.length - 1) x) else aD fitsB (row.take n).reverse (wayL F (F.length - 1) x))
theorem now_step {F : List Mn} {row : List (List Tr × Bool)} {n i : Nat} (hi : i < F.length) (hn : n < row.length) : nowB F row (n + 1) i = (aboveB F row n row[n].2 F[i].parent && fitsB F[i] row[n].1) := by
  have e : wayU F i = F[i] :: wayL F (F.length - 1) F[i].parent := by
    unfold wayU
    obtain ⟨m, hm⟩ : ∃ m, F.length = m + 1 := ⟨F.length - 1, by omega⟩
    rw [hm, wayL_at hi]
    rfl
  unfold nowB aboveB
  rw [e, eD_step hn, Bool.and_comm]
theorem up_end (F : List Mn) (g : Nat) (rr : List (List Tr × Bool)) : eD fitsB rr (wayL F g (-1)) = false ∧ aD fitsB rr (wayL F g (-1)) = false := by
  rw [wayL_none]
  exact ⟨eD_nil _ _, by rw [aD_nil, eD_nil]⟩
theorem up_hit {F : List Mn} {row : List (List Tr × Bool)} {n g j : Nat} (he : endsB F g (j : Int) = true) (hg : g ≤ F.length) : eD fitsB (row.take n).reverse (wayL F g (j : Int)) = nowB F row n j := by
  unfold nowB wayU
  rw [wayL_more _ _ _ he hg]
theorem up_more {F : List Mn} {row : List (List Tr × Bool)} {n g j : Nat} (hj : j < F.length) (he : endsB F (g + 1) (j : Int) = true) (hg : g + 1 ≤ F.length) : aD fitsB (row.take n).reverse (wayL F (g + 1) (j : Int)) = (nowB F row n j || aD fitsB (row.take n).reverse (wayL F g F[j].parent)) := by
  rw [← up_hit (row := row) (n := n) he hg, wayL_at hj, aD_cons]
/-! ### what a test asks, by the document -/
theorem may_attrs {F : List Mn} (h : mayB F = true) : ∀ m ∈ F, attrsB m.attrs = true := fun m hm => by
  obtain ⟨-, h2, -⟩ := may_iff.1 h
  obtain ⟨i, hi, rfl⟩ := List.mem_iff_getElem.1 hm
  have ho := (h2 i hi).2
  have none : F[i].attrs.length = 0 → attrsB F[i].attrs = true := fun h0 => by
    rw [List.eq_nil_of_length_eq_zero h0]
    rfl
  unfold ownB at ho
  split at ho
  · simp only [Bool.and_eq_true, decide_eq_true_eq] at ho
    exact none ho.2.2.2
  split at ho
  · simp only [Bool.and_eq_true, decide_eq_true_eq] at ho
    exact none ho.2.2
  split at ho
  · simp only [Bool.and_eq_true] at ho
    exact ho.2.2
  · cases ho
theorem val_mem {l : List (ByteArray × ByteArray)} (h : attrsB l = true) {n v : ByteArray} : valP l n = some v ↔ (n, v) ∈ l := by
  have e := val_iff h n v
  rw [Bool.eq_iff_iff, decide_eq_true_eq, List.any_eq_true] at e
  rw [e]
  constructor
  · rintro ⟨a, ha, hd⟩
    rw [← of_decide_eq_true hd]
    exact ha
  · exact fun hm => ⟨_, hm, by simp⟩
/-- A text out of a pair. -/
def vD (o : Option ByteArray) : ByteArray := o.getD ⟨#[]⟩
/-- Whether a node is as a test wants it, as the document asks it. -/
def soD (m : Mn) (t : Tr) : Bool :=
  if t.1 = 1 then (Wx.fd m.name).toList == (Wx.fd t.2.1).toList
  else if t.1 = 2 then (valP m.attrs idS).isSome && (vD (valP m.attrs idS)).toList == t.2.1.toList
  else if t.1 = 3 then (valP m.attrs clS).isSome && decide (t.2.1.data.toList ∈ ws (vD (valP m.attrs clS)))
  else if t.1 = 4 then (valP m.attrs t.2.1).isSome
  else if t.1 = 5 then (valP m.attrs t.2.1).isSome && (vD (valP m.attrs t.2.1)).toList == t.2.2.toList
  else false
theorem val_eq {l : List (ByteArray × ByteArray)} (h : attrsB l = true) (n v : ByteArray) : l.any (fun a => decide (a = (n, v))) = ((valP l n).isSome && (vD (valP l n)).toList == v.toList) := by
  rw [← val_iff h]
  cases hv : valP l n with
  | none => simp
  | some u =>
    rw [Bool.eq_iff_iff]
    simp [vD, toList_injA]
theorem val_nm {l : List (ByteArray × ByteArray)} (h : attrsB l = true) (t : ByteArray) : l.any (nmB t) = (valP l t).isSome := by
  rw [Bool.eq_iff_iff, List.any_eq_true, Option.isSome_iff_exists]
  constructor
  · rintro ⟨a, ha, hn⟩
    have e : a.1 = t := by simpa [nmB, toList_injA] using hn
    exact ⟨a.2, (val_mem h).2 (by rw [← e]; exact ha)⟩
  · rintro ⟨v, hv⟩
    exact ⟨_, (val_mem h).1 hv, by simp [nmB]⟩
theorem val_cl {l : List (ByteArray × ByteArray)} (h : attrsB l = true) (t : ByteArray) : l.any (clB t) = ((valP l clS).isSome && decide (t.data.toList ∈ ws (vD (valP l clS)))) := by
  rw [Bool.eq_iff_iff, List.any_eq_true, Bool.and_eq_true, Option.isSome_iff_exists]
  constructor
  · rintro ⟨a, ha, hn⟩
    unfold clB at hn
    rw [Bool.and_eq_true] at hn
    have e : a.1 = clS := by simpa [toList_injA] using hn.1
    have hv := (val_mem h).2 (show (clS, a.2) ∈ l by rw [← e]; exact ha)
    exact ⟨⟨_, hv⟩, by rw [hv]; exact hn.2⟩
  · rintro ⟨⟨v, hv⟩, hw⟩
    rw [hv] at hw
    exact ⟨_, (val_mem h).1 hv, by unfold clB; rw [Bool.and_eq_true]; exact ⟨by simp, hw⟩⟩
theorem so_same {m : Mn} (h : attrsB m.attrs = true) (t : Tr) : soD m t = soB m t := by
  unfold soD soB
  rw [val_eq h, val_eq h, val_cl h, val_nm h]
def fitsD (m : Mn) (T : List Tr) : Bool := T.all (soD m) && (m.kind == 1)
theorem fits_same {m : Mn} (h : attrsB m.attrs = true) (T : List Tr) : fitsD m T = fitsB m T := by
  unfold fitsD fitsB
  rw [Bool.and_comm]
  congr 2
  exact funext fun t => so_same h t
end Go.Proofs.YtaacikjoafobfaaGreatDoor.Fi
namespace Go.Proofs.YtaacikjoafobfaaGreatDoor.Fi
open Go.ChangeShapes Go.WideShapes Go.ChangeAt Go.RowKit
open Sx (Tr Ms Mr TR MR XR tV r1 ls te stp rws cx cl)
set_option linter.unusedVariables false
set_option linter.unusedSimpArgs false

set_option maxRecDepth 100000 in
set_option maxHeartbeats 2000000 in
theorem rattr_any (m : Mn) (name : ByteArray) (w : World) (hA : AR w m.aA m.attrs) (hl : m.attrs.length ≤ 1000) :
    Calls Tryz.prog 98 #[nval m, .string name] w fun e w' => e = .returned (.tuple #[.string (vD (valP m.attrs name)), .bool (valP m.attrs name).isSome]) ∧ Below w.heap.size w w' := by
  obtain ⟨R, hR⟩ : ∃ R, (.tuple #[.string (vD (valP m.attrs name)), .bool (valP m.attrs name).isSome] : Value) = R := ⟨_, rfl⟩
  have HY : Hid (∀ k (hk : k < m.attrs.length), (∀ a ∈ m.attrs.take k, a.1 ≠ name) → m.attrs[k].1 = name → R = .tuple #[.string m.attrs[k].2, .bool true]) := Lib.hid (fun k hk h hx => by rw [← hR, find_hit hk h hx]; rfl)
  have HN : Hid ((∀ a ∈ m.attrs, a.1 ≠ name) → R = .tuple #[.string ⟨#[]⟩, .bool false]) := Lib.hid (fun h => by rw [← hR, find_no h]; rfl)
  rw [hR]
  obtain ⟨W, hW⟩ : ∃ W, W = w.alloc (.cells #[.int .i64 m.kind, .string m.name, .string m.text, .slice m.aA m.attrs.length m.aC, .int .i64 m.parent, .slice m.kA m.kids.length m.kC] 58) := ⟨_, rfl⟩
  have HWb : Hid (Below w.heap.size w W) := Lib.hid (by rw [hW]; exact (Below.refl _ _).alloc (Nat.le_refl _) _)
  have HWk : Hid (W.heap[w.heap.size]? = some (.cells #[.int .i64 m.kind, .string m.name, .string m.text, .slice m.aA m.attrs.length m.aC, .int .i64 m.parent, .slice m.kA m.kids.length m.kC] 58 (0, 0))) := Lib.hid (by rw [hW]; exact heap_alloc_new _ _)
  have HA := Lib.hid (hA.below HWb.out)
  obtain ⟨kd, nm0, tx, attrs, pa, kids, aA, aC, kA, kC⟩ := m
  unfold nval at *
  simp only [] at *
  obtain ⟨n, hnn⟩ : ∃ n, attrs.length = n := ⟨_, rfl⟩
  have HNN := Lib.hid hnn
  rw [hnn] at hl hW HWk ⊢
  clear hA hnn hR
  generalize kids.length = kl at *
  obtain ⟨x0, x1, x2, x3, x4, x5⟩ := block6 HWk.out
  clear x0 x1 x2 x4 x5
  go_enter Tryz.func98, Tryz.ntmps98
  go_wp2_with fail
  rw [← hW]
  clear hW
  go_loopw [6] (fun q wr => ∃ k : Nat, W = wr ∧ k ≤ n ∧ q = .int .i64 k ∧ Hid (∀ a ∈ attrs.take k, a.1 ≠ name)) (fun q _ => n - (intOf q).toNat)
  case atStart => exact ⟨0, rfl, Nat.zero_le _, rfl, Lib.hid (by simp)⟩
  case round =>
    obtain ⟨k, rfl, hk, rfl, HT⟩ := hrel
    by_cases hlt : k < n
    · have k0 : (0 : Int) ≤ (k : Int) := by omega
      have k1 : (k : Int) < (n : Int) := by omega
      have hkl : k < attrs.length := by rw [HNN.out]; exact hlt
      obtain ⟨ga, oa, rfl, hga, d0, d1⟩ := HA.out k hkl
      rw [getD_at default hkl] at d0 d1
      have HY1 := Lib.hid (HY.out k hkl HT.out)
      have HT2 : Hid (attrs[k].1 ≠ name → ∀ a ∈ attrs.take (k + 1), a.1 ≠ name) := Lib.hid (fun h a ha => by
        rw [take_more hkl, List.mem_append, List.mem_singleton] at ha
        rcases ha with ha | rfl
        · exact HT.out a ha
        · exact h)
      generalize attrs[k] = at_ at *
      obtain ⟨an, av⟩ := at_
      simp only [] at d0 d1 HY1 HT2
      by_cases hx : an = name
      · have hq : (an.toList == name.toList) = true := by simpa using congrArg ByteArray.toList hx
        have HR := Lib.hid (HY1.out hx)
        clear hx
        go_wp2
        go_ret2
        exact ⟨by rw [HR.out]; rfl, HWb.out⟩
      · have hq : (an.toList == name.toList) = false := by simpa [toList_inj] using hx
        have HT3 := Lib.hid (HT2.out hx)
        clear hx
        go_wp2
        go_roundw
        case rel => exact ⟨k + 1, by first | trivial | rfl, by omega, by go_num, HT3⟩
        case measure => simp [intOf] <;> omega
    · obtain rfl : k = n := by omega
      have et : attrs.take k = attrs := List.take_of_length_le (by rw [HNN.out]; exact Nat.le_refl _)
      rw [et] at HT
      have HR := Lib.hid (HN.out HT.out)
      go_wp2
      go_ret2
      exact ⟨by rw [HR.out]; rfl, HWb.out⟩
/-! ### so -/
theorem soD_1 {m : Mn} {t : Tr} (h : t.1 = 1) : soD m t = ((Wx.fd m.name).toList == (Wx.fd t.2.1).toList) := by unfold soD; rw [if_pos h]
theorem soD_2 {m : Mn} {t : Tr} (h : t.1 = 2) : soD m t = ((valP m.attrs idS).isSome && (vD (valP m.attrs idS)).toList == t.2.1.toList) := by unfold soD; rw [if_neg (by omega), if_pos h]
theorem soD_3 {m : Mn} {t : Tr} (h : t.1 = 3) : soD m t = ((valP m.attrs clS).isSome && decide (t.2.1.data.toList ∈ ws (vD (valP m.attrs clS)))) := by unfold soD; rw [if_neg (by omega), if_neg (by omega), if_pos h]
theorem soD_4 {m : Mn} {t : Tr} (h : t.1 = 4) : soD m t = (valP m.attrs t.2.1).isSome := by unfold soD; rw [if_neg (by omega), if_neg (by omega), if_neg (by omega), if_pos h]
theorem soD_5 {m : Mn} {t : Tr} (h : t.1 = 5) : soD m t = ((valP m.attrs t.2.1).isSome && (vD (valP m.attrs t.2.1)).toList == t.2.2.toList) := by unfold soD; rw [if_neg (by omega), if_neg (by omega), if_neg (by omega), if_neg (by omega), if_pos h]
theorem soD_6 {m : Mn} {t : Tr} (h1 : t.1 ≠ 1) (h2 : t.1 ≠ 2) (h3 : t.1 ≠ 3) (h4 : t.1 ≠ 4) (h5 : t.1 ≠ 5) : soD m t = false := by unfold soD; rw [if_neg h1, if_neg h2, if_neg h3, if_neg h4, if_neg h5]
def ncelR (m : Mn) : Obj := .cells #[.int .i64 m.kind, .string m.name, .string m.text, .slice m.aA m.attrs.length m.aC, .int .i64 m.parent, .slice m.kA m.kids.length m.kC] 58
def tcelR (t : Tr) : Obj := .cells #[.int .i64 t.1, .string t.2.1, .string t.2.2] 103
def lay2R (w : World) (m : Mn) (t : Tr) : World := (w.alloc (ncelR m)).alloc (tcelR t)
theorem lay2R_below (w : World) (m : Mn) (t : Tr) : Below w.heap.size w (lay2R w m t) := ((Below.refl _ _).alloc (Nat.le_refl _) _).alloc (by simp) _
theorem lay2R_n (w : World) (m : Mn) (t : Tr) : (lay2R w m t).heap[w.heap.size]? = some (.cells #[.int .i64 m.kind, .string m.name, .string m.text, .slice m.aA m.attrs.length m.aC, .int .i64 m.parent, .slice m.kA m.kids.length m.kC] 58 (0, 0)) :=
  (Below.heap_alloc _ _ _ (by simp)).trans (heap_alloc_new w _)
theorem lay2R_t (w : World) (m : Mn) (t : Tr) : (lay2R w m t).heap[w.heap.size + 1]? = some (.cells #[.int .i64 t.1, .string t.2.1, .string t.2.2] 103 (0, 0)) := by
  have := heap_alloc_new (w.alloc (ncelR m)) (tcelR t)
  rwa [World.size_alloc] at this
set_option maxRecDepth 100000 in
set_option maxHeartbeats 4000000 in
theorem so_any (m : Mn) (t : Tr) (w : World) (hA : AR w m.aA m.attrs) (hm : NB m) (ht : t.2.1.size ≤ 100000) :
    Calls Tryz.prog 58 #[nval m, tV t] w (GivesV (.bool (soD m t)) w) := by
  have HW := Lib.hid (lay2R_below w m t)
  obtain ⟨W, hW⟩ : ∃ W, W = lay2R w m t := ⟨_, rfl⟩
  have HN : Hid (W.heap[w.heap.size]? = some (.cells #[.int .i64 m.kind, .string m.name, .string m.text, .slice m.aA m.attrs.length m.aC, .int .i64 m.parent, .slice m.kA m.kids.length m.kC] 58 (0, 0))) := Lib.hid (by rw [hW]; exact lay2R_n ..)
  have HT : Hid (W.heap[w.heap.size + 1]? = some (.cells #[.int .i64 t.1, .string t.2.1, .string t.2.2] 103 (0, 0))) := Lib.hid (by rw [hW]; exact lay2R_t ..)
  rw [← hW] at HW
  have HAt := Lib.hid (fun (name : ByteArray) (V : World) (hV : Below W.heap.size W V) => rattr_any m name V (hA.below (HW.out.trans (hV.mono HW.out.size))) hm.attrs)
  have HA1 := Lib.hid (HAt.out idS)
  have HA2 := Lib.hid (HAt.out clS)
  have HA3 := Lib.hid (HAt.out t.2.1)
  have HF1 := Lib.hid (fun (V : World) => Wx.rfold_any m.name V hm.name)
  have HF2 := Lib.hid (fun (V : World) => Wx.rfold_any t.2.1 V ht)
  have HCl := Lib.hid (fun (V : World) => Wx.rhas_any (vD (valP m.attrs clS)) t.2.1 V (by
    unfold vD
    cases hv : valP m.attrs clS with
    | none => exact Nat.zero_le _
    | some v =>
      unfold valP at hv
      obtain ⟨a, ha, rfl⟩ := Option.map_eq_some_iff.1 hv
      exact hm.vals a (List.mem_of_find?_eq_some ha)))
  have HR1 := Lib.hid (soD_1 (m := m) (t := t))
  have HR2 := Lib.hid (soD_2 (m := m) (t := t))
  have HR3 := Lib.hid (soD_3 (m := m) (t := t))
  have HR4 := Lib.hid (soD_4 (m := m) (t := t))
  have HR5 := Lib.hid (soD_5 (m := m) (t := t))
  have HR6 := Lib.hid (soD_6 (m := m) (t := t))
  clear HAt
  generalize soD m t = R at *
  unfold lay2R ncelR tcelR at hW
  obtain ⟨kd, nm0, tx, attrs, pa, kids, aA, aC, kA, kC⟩ := m
  obtain ⟨tk, tn, tv⟩ := t
  unfold nval tV at *
  simp only [] at *
  unfold idS at HA1 HR2
  unfold clS at HA2 HR3 HCl
  generalize vD (valP attrs ⟨#[105, 100]⟩) = a1 at *
  generalize (valP attrs ⟨#[105, 100]⟩).isSome = b1 at *
  generalize vD (valP attrs ⟨#[99, 108, 97, 115, 115]⟩) = a2 at *
  generalize (valP attrs ⟨#[99, 108, 97, 115, 115]⟩).isSome = b2 at *
  generalize vD (valP attrs tn) = a3 at *
  generalize (valP attrs tn).isSome = b3 at *
  generalize decide (tn.data.toList ∈ ws a2) = h2 at *
  generalize Wx.fd nm0 = fa at *
  generalize Wx.fd tn = fb at *
  generalize attrs.length = n at *
  generalize kids.length = kl at *
  clear hA hm ht
  obtain ⟨x0, x1, x2, x3, x4, x5⟩ := block6 HN.out
  obtain ⟨y0, y1, y2⟩ := block3f HT.out
  go_enter Tryz.func58, Tryz.ntmps58
  go_upto_region 1 with fail
  rw [← hW]
  clear hW
  go_wp2_with fail
  refine (HA1.out W (Below.refl _ _)).mono ?_
  rintro e w1 ⟨rfl, hb⟩
  have HB1 := Lib.hid hb
  clear hb x0 x1 x2 x3 x4 x5 y0 y1 y2
  obtain ⟨x0, x1, x2, x3, x4, x5⟩ := block6 ((HB1.out.block _ (lt_of_block HN.out)).trans HN.out)
  go_wp2_with fail
  refine (HA2.out w1 HB1.out).mono ?_
  rintro e w2 ⟨rfl, hb⟩
  have HB2 := Lib.hid (HB1.out.trans (hb.mono HB1.out.size))
  clear hb x0 x1 x2 x3 x4 x5
  obtain ⟨x0, x1, x2, x3, x4, x5⟩ := block6 ((HB2.out.block _ (lt_of_block HN.out)).trans HN.out)
  obtain ⟨y0, y1, y2⟩ := block3f ((HB2.out.block _ (lt_of_block HT.out)).trans HT.out)
  go_wp2_with fail
  refine (HA3.out w2 HB2.out).mono ?_
  rintro e w3 ⟨rfl, hb⟩
  have HB3 := Lib.hid (HB2.out.trans (hb.mono HB2.out.size))
  clear hb x0 x1 x2 x3 x4 x5 y0 y1 y2
  have HC : Hid (∀ V, Below w3.heap.size w3 V → V.cell? ⟨w.heap.size, 1, none⟩ = some (.string nm0) ∧ V.cell? ⟨w.heap.size + 1, 1, none⟩ = some (.string tn)) := Lib.hid (fun V hb => by
    have hb2 := HB3.out.trans (hb.mono HB3.out.size)
    obtain ⟨-, a1, -⟩ := block6 ((hb2.block _ (lt_of_block HN.out)).trans HN.out)
    obtain ⟨-, b1, -⟩ := block3f ((hb2.block _ (lt_of_block HT.out)).trans HT.out)
    exact ⟨a1, b1⟩)
  obtain ⟨y0, y1, y2⟩ := block3f ((HB3.out.block _ (lt_of_block HT.out)).trans HT.out)
  by_cases k1 : tk = 1
  · have HRR := Lib.hid (HR1.out k1)
    clear HR1 HR2 HR3 HR4 HR5 HR6
    subst k1
    go_upto_region 6 with fail
    clear y0 y1 y2
    go_region_held3 (fun V => V.cell? ⟨w.heap.size, 1, none⟩ = some (.string nm0) ∧ V.cell? ⟨w.heap.size + 1, 1, none⟩ = some (.string tn))
      (first | with_reducible exact HC.out _ (Below.refl _ _) | with_reducible exact HC.out _ (Below.refl _ _).drew | with_reducible exact HC.out _ HB4.out | with_reducible exact HC.out _ HB5.out)
      (first
        | (have hx := HB4.out; clear hx; go_at_call 99; refine (HF2.out _).mono ?_; rintro e w5 ⟨rfl, hb⟩; have HB5 := Lib.hid (HB4.out.trans (hb.mono HB4.out.size)); clear hb)
        | (go_at_call 99; refine (HF1.out _).mono ?_; rintro e w4 ⟨rfl, hb⟩; have HB4 := Lib.hid ((Below.refl w3.heap.size w3).drew.trans (hb.mono (by simp))); clear hb))
    all_goals
      go_wp2
      go_ret
      exact ⟨ret_bool HRR.out.symm, HW.out.trans ((HB3.out.trans (HB5.out.mono HB3.out.size)).mono HW.out.size)⟩
  have n1 : (tk == 1) = false := by simpa using k1
  by_cases k2 : tk = 2
  · have HRR := Lib.hid (HR2.out k2)
    clear HR1 HR2 HR3 HR4 HR5 HR6 k1 n1
    subst k2
    cases b1
    all_goals
      go_wp2
      go_ret
      exact ⟨ret_bool (by rw [HRR.out]; try rfl), HW.out.trans (HB3.out.mono HW.out.size)⟩
  have n2 : (tk == 2) = false := by simpa using k2
  by_cases k3 : tk = 3
  · have HRR := Lib.hid (HR3.out k3)
    clear HR1 HR2 HR3 HR4 HR5 HR6 k1 n1 k2 n2
    subst k3
    cases b2
    · go_wp2
      go_ret
      exact ⟨ret_bool (by rw [HRR.out]; rfl), HW.out.trans (HB3.out.mono HW.out.size)⟩
    · go_wp2_with fail
      refine (HCl.out w3).mono ?_
      rintro e w4 ⟨rfl, hb⟩
      have HB4 := Lib.hid (HB3.out.trans (hb.mono HB3.out.size))
      clear hb
      go_wp2
      go_ret
      exact ⟨ret_bool (by rw [HRR.out]; rfl), HW.out.trans (HB4.out.mono HW.out.size)⟩
  have n3 : (tk == 3) = false := by simpa using k3
  by_cases k4 : tk = 4
  · have HRR := Lib.hid (HR4.out k4)
    clear HR1 HR2 HR3 HR4 HR5 HR6 k1 n1 k2 n2 k3 n3
    subst k4
    go_wp2
    go_ret
    exact ⟨ret_bool HRR.out.symm, HW.out.trans (HB3.out.mono HW.out.size)⟩
  have n4 : (tk == 4) = false := by simpa using k4
  by_cases k5 : tk = 5
  · have HRR := Lib.hid (HR5.out k5)
    clear HR1 HR2 HR3 HR4 HR5 HR6 k1 n1 k2 n2 k3 n3 k4 n4
    subst k5
    cases b3
    all_goals
      go_wp2
      go_ret
      exact ⟨ret_bool (by rw [HRR.out]; try rfl), HW.out.trans (HB3.out.mono HW.out.size)⟩
  have n5 : (tk == 5) = false := by simpa using k5
  have HRR := Lib.hid (HR6.out k1 k2 k3 k4 k5)
  clear HR1 HR2 HR3 HR4 HR5 HR6 k1 k2 k3 k4 k5
  go_wp2
  go_ret
  exact ⟨ret_bool HRR.out.symm, HW.out.trans (HB3.out.mono HW.out.size)⟩
end Go.Proofs.YtaacikjoafobfaaGreatDoor.Fi
namespace Go.Proofs.YtaacikjoafobfaaGreatDoor.Fi
open Go.ChangeShapes Go.WideShapes Go.ChangeAt Go.RowKit
open Sx (Tr Ms Mr TR MR XR tV r1 ls te stp rws cx cl)
set_option linter.unusedVariables false
set_option linter.unusedSimpArgs false

set_option maxRecDepth 100000 in
set_option maxHeartbeats 4000000 in
theorem rfits_any (m : Mn) (A : Option Addr) (T : List Tr) (c : Nat) (w : World) (hA : AR w m.aA m.attrs) (hm : NB m) (hT : TR w A T) (ht : ∀ t ∈ T, t.2.1.size ≤ 100000) (hl : T.length ≤ 9223372036854775807) :
    Calls Tryz.prog 25 #[nval m, .slice A T.length c] w (GivesV (.bool (fitsD m T)) w) := by
  obtain ⟨W, hW⟩ : ∃ W, W = w.alloc (ncelR m) := ⟨_, rfl⟩
  have HWb : Hid (Below w.heap.size w W) := Lib.hid (by rw [hW]; exact (Below.refl _ _).alloc (Nat.le_refl _) _)
  have HN : Hid (W.heap[w.heap.size]? = some (.cells #[.int .i64 m.kind, .string m.name, .string m.text, .slice m.aA m.attrs.length m.aC, .int .i64 m.parent, .slice m.kA m.kids.length m.kC] 58 (0, 0))) := Lib.hid (by rw [hW]; exact heap_alloc_new _ _)
  have HSo := Lib.hid (fun (t : Tr) (ht' : t ∈ T) (V : World) (hV : Below W.heap.size W V) => so_any m t V (hA.below (HWb.out.trans (hV.mono HWb.out.size))) hm (ht t ht'))
  have HTr := Lib.hid (hT.below HWb.out)
  have HE : Hid (fitsD m T = (T.all (soD m) && (m.kind == 1))) := Lib.hid rfl
  generalize fitsD m T = R at *
  generalize soD m = sd at *
  unfold ncelR at hW
  obtain ⟨n, hn⟩ : ∃ n, T.length = n := ⟨_, rfl⟩
  have HNN := Lib.hid hn
  rw [hn] at hl ⊢
  obtain ⟨kd, nm0, tx, attrs, pa, kids, aA, aC, kA, kC⟩ := m
  unfold nval at *
  simp only [] at *
  generalize attrs.length = al at *
  generalize kids.length = kl at *
  clear hA hm hT ht hn
  go_enter Tryz.func25, Tryz.ntmps25
  go_wp2_with fail
  rw [← hW]
  clear hW
  go_loopw [5] (fun q wr => ∃ (V : World) (k : Nat), V = wr ∧ k ≤ n ∧ q = .int .i64 k ∧ Hid ((T.take k).all sd = true) ∧ Hid (Below W.heap.size W V)) (fun q _ => n - (intOf q).toNat)
  case atStart => exact ⟨_, 0, rfl, Nat.zero_le _, rfl, Lib.hid rfl, Lib.hid (Below.refl _ _)⟩
  case round =>
    obtain ⟨V, k, rfl, hk, rfl, HT, HB⟩ := hrel
    obtain ⟨x0, x1, x2, x3, x4, x5⟩ := block6 ((HB.out.block _ (lt_of_block HN.out)).trans HN.out)
    by_cases hlt : k < n
    · have k0 : (0 : Int) ≤ (k : Int) := by omega
      have k1 : (k : Int) < (n : Int) := by omega
      have hkl : k < T.length := by rw [HNN.out]; exact hlt
      obtain ⟨g, off, rfl, hg, d0, d1, d2⟩ := (HTr.out.below HB.out) k T[k] (List.getElem?_eq_getElem hkl)
      have HC := Lib.hid (fun (U : World) (hU : Below W.heap.size W U) => HSo.out T[k] (List.getElem_mem hkl) U hU)
      have HT2 : Hid ((T.take (k + 1)).all sd = sd T[k]) := Lib.hid (by rw [List.take_succ_eq_append_getElem hkl, List.all_append, HT.out]; simp)
      have HF : Hid (sd T[k] = false → T.all sd = false) := Lib.hid (fun h => by
        rw [List.all_eq_false]
        exact ⟨_, List.getElem_mem hkl, by rw [h]; simp⟩)
      generalize T[k] = t at *
      generalize sd t = b at *
      obtain ⟨tk, tn, tv⟩ := t
      unfold tV at HC
      simp only [] at d0 d1 d2 HC
      go_upto_region 4 with fail
      go_still_tail 5, (by kernel_rfl)
      change wpList _ _ _ _ _ V.drew
      go_wp2_with fail
      refine (HC.out _ HB.out.drew).mono ?_
      rintro e w1 ⟨rfl, hb⟩
      have HB1 := Lib.hid (HB.out.trans (Below.trans (Below.refl _ _).drew (hb.mono (by simp)) |>.mono HB.out.size))
      clear hb x0 x1 x2 x3 x4 x5 d0 d1 d2
      cases b with
      | true =>
        go_wp2
        go_roundw
        case rel => exact ⟨_, k + 1, rfl, by omega, by go_num, HT2, HB1⟩
        case measure => simp [intOf] <;> omega
      | false =>
        go_wp2
        go_ret
        exact ⟨ret_bool (by rw [HE.out, HF.out (by first | trivial | rfl)]; rfl), HWb.out.trans (HB1.out.mono HWb.out.size)⟩
    · obtain rfl : k = n := by omega
      have e : T.take k = T := List.take_of_length_le (by rw [HNN.out]; exact Nat.le_refl _)
      rw [e] at HT
      clear e
      obtain ⟨b, hb⟩ : ∃ b, (kd == 1) = b := ⟨_, rfl⟩
      have HR : Hid (R = b) := Lib.hid (by rw [HE.out, HT.out, hb]; rfl)
      go_wp2
      go_ret
      exact ⟨ret_bool HR.out.symm, HWb.out.trans (HB.out.mono HWb.out.size)⟩
/-! ### ends -/
def bvB (l : List Bool) : List Value := l.map Value.bool
theorem info_bo : (Tryz.prog.info? 4).map (fun i => (i.zero, i.size, i.bytes)) = some (some (.bool false), 1, 1) := by kernel_rfl
/-- The first k of all nodes are told. -/
def halfL (N : Nat) (f : Nat → Bool) (k : Nat) : List Bool := (List.range N).map (fun u => decide (u < k) && f u)
theorem half_zero (N : Nat) (f : Nat → Bool) : halfL N f 0 = List.replicate N false := by
  unfold halfL
  apply List.ext_getElem
  · simp
  · intro i h1 h2
    simp
theorem half_set {N k : Nat} (f : Nat → Bool) (hk : k < N) : (halfL N f k).set k (f k) = halfL N f (k + 1) := by
  unfold halfL
  apply List.ext_getElem
  · simp
  · intro i h1 h2
    rw [List.getElem_set]
    simp only [List.getElem_map, List.getElem_range]
    split
    · rename_i e
      subst e
      simp
    · rename_i e
      have : decide (i < k) = decide (i < k + 1) := by rw [decide_eq_decide]; omega
      rw [this]
theorem half_all (N : Nat) (f : Nat → Bool) : halfL N f N = (List.range N).map f := by
  unfold halfL
  apply List.ext_getElem
  · simp
  · intro i h1 h2
    simp only [List.length_map, List.length_range] at h1
    simp [h1]
def allL (N : Nat) (f : Nat → Bool) : List Bool := (List.range N).map f
theorem own_made {w : World} {base g n : Nat} {e : TypeId} {z : Value} (h : w.heap[g]? = some (.cells (madeCells #[z] n) e (0, 0))) (hb : base ≤ g) (hn : n ≤ 1000) : w.ownsRow base e 1 (.slice (some ⟨g, 0, none⟩) n n) n (List.replicate n z) := by
  refine ⟨by simp, .inr ⟨g, n, _, rfl, hb, h, Nat.le_refl _, by unfold maxLen; omega, by rw [size_madeCells, Nat.mul_one], ?_⟩⟩
  rw [toList_madeCells_one, Nat.mul_one, List.take_of_length_le (by simp)]
theorem own_bool {w : World} {base g n cap i : Nat} {f : Nat → Bool} (h : w.ownsRow base 4 1 (.slice (some ⟨g, 0, none⟩) n cap) n (bvB (allL n f))) (hi : i < n) : w.cell? ⟨g, i, none⟩ = some (.bool (f i)) := by
  rw [h.cellAt i (by simp [bvB, allL]; omega)]
  simp [bvB, allL, hi]
/-- Where the way up stands: what is known already, and what is above. -/
def ClimbAt (F : List Mn) (row : List (List Tr × Bool)) (n : Nat) (ch T a : Bool) (g : Nat) (y : Int) : Prop :=
  (y = -1 ∨ isB F y = true) ∧ endsB F g y = true ∧ g ≤ F.length ∧
    if ch then a = false ∧ eD fitsB (row.take n).reverse (wayL F g y) = T else (a || aD fitsB (row.take n).reverse (wayL F g y)) = T
theorem climb_end {F : List Mn} {row : List (List Tr × Bool)} {n : Nat} {ch T a : Bool} {g : Nat} (h : ClimbAt F row n ch T a g (-1)) : a = T := by
  obtain ⟨-, -, -, h⟩ := h
  obtain ⟨e1, e2⟩ := up_end F g (row.take n).reverse
  cases ch with
  | true =>
    simp only [if_true] at h
    rw [h.1, ← h.2, e1]
  | false =>
    simp only [Bool.false_eq_true, if_false] at h
    rw [← h, e2, Bool.or_false]
/-- One node up: a step that is a Child asks the parent alone. -/
theorem climb_up {F : List Mn} {row : List (List Tr × Bool)} {n : Nat} {ch T a : Bool} {g j : Nat} (hU : Up F) (h : ClimbAt F row n ch T a g (j : Int)) (hj : j < F.length) :
    (ch = true → (a || nowB F row n j) = T) ∧ ∃ g', g = g' + 1 ∧ (ch = false → ClimbAt F row n false T (a || nowB F row n j) g' F[j].parent) := by
  obtain ⟨hy, he, hg, h⟩ := h
  cases g with
  | zero => simp [endsB] at he
  | succ g =>
    refine ⟨?_, g, rfl, ?_⟩
    · rintro rfl
      simp only [if_true] at h
      rw [up_hit he hg] at h
      rw [h.1, h.2]
      rfl
    · rintro rfl
      simp only [Bool.false_eq_true, if_false] at h
      rw [up_more hj he hg] at h
      refine ⟨?_, ?_, by omega, ?_⟩
      · have := hU j hj
        rwa [par_at hj] at this
      · rw [endsB, Int.toNat_natCast, par_at hj] at he
        have hne : ¬ (j : Int) = -1 := by omega
        simpa [hne] using he
      · simp only [Bool.false_eq_true, if_false]
        rw [Bool.or_assoc]
        exact h
/-- Where the way up begins. -/
theorem climb_start {F : List Mn} (h : mayB F = true) {row : List (List Tr × Bool)} {n i : Nat} (hi : i < F.length) (hn : 0 < n) (ch : Bool) :
    ClimbAt F row n ch (aboveB F row n ch F[i].parent) false (F.length - 1) F[i].parent := by
  obtain ⟨p1, p2, p3, p4, p5⟩ := mayB_parts h
  refine ⟨?_, ?_, by omega, ?_⟩
  · have := up_of p3 i hi
    rwa [par_at hi] at this
  · have he := p5 i hi
    obtain ⟨m, hm⟩ : ∃ m, F.length = m + 1 := ⟨F.length - 1, by omega⟩
    have e : F.length - 1 = m := by omega
    rw [e]
    rw [hm, endsB, Int.toNat_natCast, par_at hi] at he
    have hne : ¬ (i : Int) = -1 := by omega
    simpa [hne] using he
  · have hz : decide (n = 0) = false := by simp; omega
    unfold aboveB
    rw [hz]
    cases ch
    · simp
    · simp
end Go.Proofs.YtaacikjoafobfaaGreatDoor.Fi
namespace Go.Proofs.YtaacikjoafobfaaGreatDoor.Fi
open Go.ChangeShapes Go.WideShapes Go.ChangeAt Go.RowKit
open Sx (Tr Ms Mr TR MR XR tV r1 ls te stp rws cx cl)
set_option linter.unusedVariables false
set_option linter.unusedSimpArgs false

theorem half_own {w : World} {base g n k : Nat} {f : Nat → Bool} {b : Bool} (h : w.ownsRow base 4 1 (.slice (some ⟨g, 0, none⟩) n n) n (bvB (halfL n f k))) (hk : k < n) (hb : f k = b) : (w.setCell ⟨g, k, none⟩ (.bool b)).ownsRow base 4 1 (.slice (some ⟨g, 0, none⟩) n n) n (bvB (halfL n f (k + 1))) := by
  have h1 := (h.stored k (.bool b)).1
  rw [← half_set f hk, hb]
  unfold bvB at h1 ⊢
  rw [List.map_set]
  exact h1
theorem half_cell {w : World} {base g n k : Nat} {f : Nat → Bool} (h : w.ownsRow base 4 1 (.slice (some ⟨g, 0, none⟩) n n) n (bvB (halfL n f k))) (hk : k < n) : w.cell? ⟨g, k, none⟩ = some (.bool false) := by
  rw [h.cellAt k (by simp [bvB, halfL]; omega)]
  simp [bvB, halfL, hk]
set_option maxRecDepth 100000 in
set_option maxHeartbeats 16000000 in
theorem rends_any (A : Option Addr) (F : List Mn) (c : Nat) (B : Option Addr) (l : List Ms) (d : Nat) (w : World) (hF : FR w A F) (hm : mayB F = true) (hM : MR w B l) (hT : TB l) (hl : l.length ≤ 9223372036854775807) :
    Calls Tryz.prog 54 #[.slice A F.length c, .slice B l.length d] w fun e w' => ∃ g : Nat, e = .returned (.slice (some ⟨g, 0, none⟩) F.length F.length) ∧ w'.ownsRow w.heap.size 4 1 (.slice (some ⟨g, 0, none⟩) F.length F.length) F.length (bvB (allL F.length (nowB F (rowB l) l.length))) ∧ Below w.heap.size w w' := by
  obtain ⟨hN0, hN60, p3, -, -⟩ := mayB_parts hm
  have mk := fun W : World => run_make_row' (P := Tryz.prog) 104 4 (.bool false) 1 Tryz.underlying104 info_bo rfl .i64 .i64 F.length (by omega) (by omega) W
  have HUp := Lib.hid (up_of p3)
  have HNd := Lib.hid (fun (V : World) (i : Nat) (hb : Below w.heap.size w V) (hi : i < F.length) => (hF.below hb i F[i] (List.getElem?_eq_getElem hi)).2)
  have HSt := Lib.hid (fun (V : World) (k : Nat) (hb : Below w.heap.size w V) (hk : k < l.length) => hM.below hb k l[k] (List.getElem?_eq_getElem hk))
  have HFi := Lib.hid (fun (V : World) (i k : Nat) (hb : Below w.heap.size w V) (hi : i < F.length) (hk : k < l.length) => show Calls Tryz.prog 25 #[nval F[i], .slice l[k].1.1 l[k].2.1.length l[k].1.2] V (GivesV (.bool (fitsB F[i] l[k].2.1)) V) from by
    obtain ⟨-, g', off', -, hg', hnd⟩ := hF.below hb i F[i] (List.getElem?_eq_getElem hi)
    obtain ⟨gs, os, -, hgs, -, -, ht⟩ := hM.below hb k l[k] (List.getElem?_eq_getElem hk)
    obtain ⟨t1, t2⟩ := hT l[k] (List.getElem_mem hk)
    have := rfits_any F[i] l[k].1.1 l[k].2.1 l[k].1.2 V hnd.ar (may_nb hm _ (List.getElem_mem hi)) ht t2 t1
    rwa [fits_same (may_attrs hm _ (List.getElem_mem hi))] at this)
  have HNow := Lib.hid (fun (i k : Nat) (hi : i < F.length) (hk : k < l.length) => show nowB F (rowB l) (k + 1) i = (aboveB F (rowB l) k l[k].2.2 F[i].parent && fitsB F[i] l[k].2.1) from by
    have hk' : k < (rowB l).length := by rw [rowB_len]; exact hk
    have := now_step (F := F) (row := rowB l) hi hk'
    have e : (rowB l)[k] = l[k].2 := by simp [rowB]
    rwa [e] at this)
  have HClS := Lib.hid (fun (i k : Nat) (hi : i < F.length) (hk : 0 < k) (ch : Bool) => climb_start hm (row := rowB l) (n := k) hi hk ch)
  have HClU := Lib.hid (fun (k j g : Nat) (ch T a : Bool) (hj : j < F.length) (h : ClimbAt F (rowB l) k ch T a g (j : Int)) => climb_up HUp.out h hj)
  obtain ⟨N, hN⟩ : ∃ N, F.length = N := ⟨_, rfl⟩
  have HNN := Lib.hid hN
  obtain ⟨L, hL⟩ : ∃ L, l.length = L := ⟨_, rfl⟩
  have HLL := Lib.hid hL
  rw [hN] at mk hN0 hN60 ⊢
  rw [hL] at hl ⊢
  clear hF hm hM hT p3 hN hL
  generalize rowB l = R at *
  have HO0 : Hid ((w.alloc (.cells (madeCells #[.bool false] N) 4)).ownsRow w.heap.size 4 1 (.slice (some ⟨w.heap.size, 0, none⟩) N N) N (bvB (allL N (nowB F R 0)))) := Lib.hid (by
    have h := own_made (heap_alloc_new w (.cells (madeCells #[.bool false] N) 4)) (Nat.le_refl _) (by omega)
    have e : bvB (allL N (nowB F R 0)) = List.replicate N (.bool false) := by
      have e2 : allL N (nowB F R 0) = List.replicate N false := by
        rw [← half_zero N (nowB F R 0), halfL, allL]
        refine List.map_congr_left (fun u _ => ?_)
        rw [now_zero]
        simp
      rw [e2, bvB, List.map_replicate]
    rw [e]
    exact h)
  have HB0 : Hid (Below w.heap.size w (w.alloc (.cells (madeCells #[.bool false] N) 4))) := Lib.hid ((Below.refl _ _).alloc (Nat.le_refl _) _)
  go_enter Tryz.func54, Tryz.ntmps54
  go_wp2_with fail
  go_loopw [5, 6] (fun q5 q6 wr => ∃ (V : World) (g n : Nat), V = wr ∧ n ≤ L ∧ q5 = .slice (some ⟨g, 0, none⟩) N N ∧ q6 = .int .i64 n ∧ Hid (V.ownsRow w.heap.size 4 1 (.slice (some ⟨g, 0, none⟩) N N) N (bvB (allL N (nowB F R n)))) ∧ Hid (Below w.heap.size w V)) (fun _ q6 _ => L - (intOf q6).toNat)
  case atStart => exact ⟨_, _, 0, rfl, Nat.zero_le _, rfl, rfl, HO0, HB0⟩
  case round =>
    clear HO0 HB0
    obtain ⟨V, g, n, rfl, hn, rfl, rfl, HO, HB⟩ := hrel
    by_cases hlt : n < L
    · have k0 : (0 : Int) ≤ (n : Int) := by omega
      have k1 : (n : Int) < (L : Int) := by omega
      have hnl : n < l.length := by rw [HLL.out]; exact hlt
      have HFn := Lib.hid (fun (U : World) (i : Nat) (hb : Below w.heap.size w U) (hi : i < F.length) => HFi.out U i n hb hi hnl)
      have HNn := Lib.hid (fun (i : Nat) (hi : i < F.length) => HNow.out i n hi hnl)
      have HSn := Lib.hid (fun (U : World) (hb : Below w.heap.size w U) => HSt.out U n hb hnl)
      generalize l[n] = st at *
      obtain ⟨⟨sA, sc⟩, sl, ch⟩ := st
      simp only [] at HFn HNn HSn
      obtain ⟨ns, hns⟩ : ∃ ns, sl.length = ns := ⟨_, rfl⟩
      rw [hns] at HFn HSn
      clear hns
      obtain ⟨g1, hg1⟩ : ∃ g1, V.heap.size = g1 := ⟨_, rfl⟩
      have HG1 := Lib.hid hg1
      obtain ⟨V1, hV1⟩ : ∃ V1, V1 = V.alloc (.cells (madeCells #[.bool false] N) 4) := ⟨_, rfl⟩
      have HO1 : Hid (V1.ownsRow g1 4 1 (.slice (some ⟨g1, 0, none⟩) N N) N (bvB (halfL N (nowB F R (n + 1)) 0))) := Lib.hid (by
        have h := own_made (heap_alloc_new V (.cells (madeCells #[.bool false] N) 4)) (Nat.le_refl _) (show N ≤ 1000 by omega)
        rw [half_zero, bvB, List.map_replicate, hV1, ← hg1]
        exact h)
      have HB1 : Hid (Below g1 V V1) := Lib.hid (by rw [hV1, ← hg1]; exact (Below.refl _ _).alloc (Nat.le_refl _) _)
      have HBg : Hid (w.heap.size ≤ g1) := Lib.hid (by rw [← hg1]; exact HB.out.size)
      go_upto_region 6 with fail
      rw [← hV1]
      try rw [hg1]
      clear hV1 hg1
      go_wp2_with fail
      go_loopw [8] (fun q8 wr => ∃ (U : World) (k : Nat), U = wr ∧ k ≤ N ∧ q8 = .int .i64 k ∧ Hid (U.ownsRow g1 4 1 (.slice (some ⟨g1, 0, none⟩) N N) N (bvB (halfL N (nowB F R (n + 1)) k))) ∧ Hid (Below g1 V U)) (fun q8 _ => N - (intOf q8).toNat)
      case atStart => exact ⟨_, 0, rfl, Nat.zero_le _, rfl, HO1, HB1⟩
      case round =>
        clear HO1 HB1
        obtain ⟨U, k, rfl, hk, rfl, HH, HU⟩ := hrel
        have HWU : Hid (Below w.heap.size w U) := Lib.hid (HB.out.trans (HU.out.mono HBg.out))
        by_cases hkl : k < N
        · have j0 : (0 : Int) ≤ (k : Int) := by omega
          have j1 : (k : Int) < (N : Int) := by omega
          have hkF : k < F.length := by rw [HNN.out]; exact hkl
          have hUg : g1 ≤ U.drew.heap.size := by
            have := HU.out.size
            rw [HG1.out] at this
            exact this
          have HF1 := Lib.hid (fun (X : World) (hX : Below g1 V X) => HFn.out X k (HB.out.trans (hX.mono HBg.out)) hkF)
          have HNk := Lib.hid (HNn.out k hkF)
          have HCS := Lib.hid (fun (h : 0 < n) => HClS.out k n hkF h ch)
          obtain ⟨gf, of, rfl, hgf, hnd⟩ := HNd.out U k HWU.out hkF
          obtain ⟨gs, os, rfl, hgs, s0, s1, -⟩ := HSn.out U HWU.out
          have HN4 := Lib.hid (fun (j : Nat) (hj : j < F.length) => show U.cell? ⟨gf, of + j * 6 + 4, none⟩ = some (.int .i64 F[j].parent) from by
            obtain ⟨g', o', hA, -, h⟩ := HNd.out U j HWU.out hj
            cases hA
            exact h.c4)
          have HOn := Lib.hid (own_below HO.out (show Below V.heap.size V U from by rw [HG1.out]; exact HU.out))
          have HOb := Lib.hid (fun (j : Nat) (hj : j < N) => own_bool HOn.out hj)
          have HT0 : Hid (n = 0 → aboveB F R n ch F[k].parent = true) := Lib.hid (fun h => by rw [h]; rfl)
          have c4 := hnd.c4
          have HCk := Lib.hid (fun (X : World) (hX : Below w.heap.size w X) => show X.cell? ⟨gf, of + k * 6, none⟩ = some (.int .i64 F[k].kind) ∧ X.cell? ⟨gf, of + k * 6 + 1, none⟩ = some (.string F[k].name) ∧ X.cell? ⟨gf, of + k * 6 + 2, none⟩ = some (.string F[k].text) ∧ X.cell? ⟨gf, of + k * 6 + 3, none⟩ = some (.slice F[k].aA F[k].attrs.length F[k].aC) ∧ X.cell? ⟨gf, of + k * 6 + 4, none⟩ = some (.int .i64 F[k].parent) ∧ X.cell? ⟨gf, of + k * 6 + 5, none⟩ = some (.slice F[k].kA F[k].kids.length F[k].kC) ∧ X.cell? ⟨gs, os + n * 2, none⟩ = some (.slice sA ns sc) from by
            obtain ⟨g', o', hA, -, h⟩ := HNd.out X k hX hkF
            cases hA
            obtain ⟨g2, o2, hB2, -, h2, -⟩ := HSn.out X hX
            cases hB2
            exact ⟨h.c0, h.c1, h.c2, h.c3, h.c4, h.c5, h2⟩)
          clear hnd s0
          generalize aboveB F R n ch F[k].parent = T at *
          generalize fitsB F[k] sl = fb at *
          generalize F[k] = m at *
          obtain ⟨kd, nm0, tx, al, pa, kl, aA, aC, kA, kC⟩ := m
          unfold nval at HF1
          simp only [] at c4 HCk HF1 HCS
          by_cases hn0 : n = 0
          · have q0 : ((n : Int) == 0) = true := by simp; exact hn0
            have q1 : decide ((0 : Int) < (n : Int)) = false := by simp; omega
            have q2 : decide (0 < n) = false := by simp; omega
            obtain rfl := HT0.out hn0
            have HNt : Hid (nowB F R (n + 1) k = fb) := Lib.hid (by rw [HNk.out, Bool.true_and])
            clear hn0
            go_wp2_with fail
            go_loopw [9, 10] (fun q9 q10 wr => q9 = .bool true ∧ q10 = .int .i64 pa ∧ U = wr) (fun _ _ _ => 0)
            case atStart => exact ⟨rfl, rfl, rfl⟩
            case round =>
              obtain ⟨rfl, rfl, rfl⟩ := hrel
              by_cases hp : 0 ≤ pa
              · have q3 : decide (0 ≤ pa) = true := by simpa using hp
                go_upto_region 15 with fail
                go_region_held3 (fun X => X.cell? ⟨gf, of + k * 6, none⟩ = some (.int .i64 kd) ∧ X.cell? ⟨gf, of + k * 6 + 1, none⟩ = some (.string nm0) ∧ X.cell? ⟨gf, of + k * 6 + 2, none⟩ = some (.string tx) ∧ X.cell? ⟨gf, of + k * 6 + 3, none⟩ = some (.slice aA al.length aC) ∧ X.cell? ⟨gf, of + k * 6 + 4, none⟩ = some (.int .i64 pa) ∧ X.cell? ⟨gf, of + k * 6 + 5, none⟩ = some (.slice kA kl.length kC) ∧ X.cell? ⟨gs, os + n * 2, none⟩ = some (.slice sA ns sc))
                  (first | with_reducible exact HCk.out _ HWU.out.drew | with_reducible exact HCk.out _ HWU1.out | with_reducible exact HCk.out _ (HWU1.out.setCell HBg.out _) | with_reducible exact HCk.out _ (HWU.out.drew.setCell HBg.out _))
                  (first | (go_at_call 25; refine (HF1.out _ HU.out.drew).mono ?_; rintro e w1 ⟨rfl, hb⟩; have HU1 := Lib.hid (HU.out.drew.trans (hb.mono hUg)); have HWU1 := Lib.hid (HB.out.trans (HU1.out.mono HBg.out)); have HH1 := Lib.hid (own_below HH.out ((Below.refl U.heap.size U).drew.trans (hb.mono (by simp)))); clear hb; have zf := HH1.out.frozenAt k; have zc := half_cell HH1.out hkl))
                go_wp2
                go_roundw
                case rel => exact ⟨_, k + 1, rfl, by omega, by go_num, Lib.hid (half_own HH1.out hkl HNt.out), Lib.hid (HU1.out.setCell (Nat.le_refl _) _)⟩
                case measure => simp [intOf] <;> omega
              · have q3 : decide (0 ≤ pa) = false := by simpa using hp
                go_upto_region 15 with fail
                go_region_held3 (fun X => X.cell? ⟨gf, of + k * 6, none⟩ = some (.int .i64 kd) ∧ X.cell? ⟨gf, of + k * 6 + 1, none⟩ = some (.string nm0) ∧ X.cell? ⟨gf, of + k * 6 + 2, none⟩ = some (.string tx) ∧ X.cell? ⟨gf, of + k * 6 + 3, none⟩ = some (.slice aA al.length aC) ∧ X.cell? ⟨gf, of + k * 6 + 4, none⟩ = some (.int .i64 pa) ∧ X.cell? ⟨gf, of + k * 6 + 5, none⟩ = some (.slice kA kl.length kC) ∧ X.cell? ⟨gs, os + n * 2, none⟩ = some (.slice sA ns sc))
                  (first | with_reducible exact HCk.out _ HWU.out.drew | with_reducible exact HCk.out _ HWU1.out | with_reducible exact HCk.out _ (HWU1.out.setCell HBg.out _) | with_reducible exact HCk.out _ (HWU.out.drew.setCell HBg.out _))
                  (first | (go_at_call 25; refine (HF1.out _ HU.out.drew).mono ?_; rintro e w1 ⟨rfl, hb⟩; have HU1 := Lib.hid (HU.out.drew.trans (hb.mono hUg)); have HWU1 := Lib.hid (HB.out.trans (HU1.out.mono HBg.out)); have HH1 := Lib.hid (own_below HH.out ((Below.refl U.heap.size U).drew.trans (hb.mono (by simp)))); clear hb; have zf := HH1.out.frozenAt k; have zc := half_cell HH1.out hkl))
                go_wp2
                go_roundw
                case rel => exact ⟨_, k + 1, rfl, by omega, by go_num, Lib.hid (half_own HH1.out hkl HNt.out), Lib.hid (HU1.out.setCell (Nat.le_refl _) _)⟩
                case measure => simp [intOf] <;> omega
          · have q0 : ((n : Int) == 0) = false := by simp; exact hn0
            have q1 : decide ((0 : Int) < (n : Int)) = true := by simp; omega
            have q2 : decide (0 < n) = true := by simp; omega
            have HC0 := Lib.hid (HCS.out (by omega))
            clear hn0
            obtain ⟨f0, hf0⟩ : ∃ f0, F.length - 1 = f0 := ⟨_, rfl⟩
            rw [hf0] at HC0
            clear hf0
            go_wp2_with fail
            go_loopg [9, 10] f0 (fun gk q9 q10 wr => ∃ (a : Bool) (y : Int), U = wr ∧ q9 = .bool a ∧ q10 = .int .i64 y ∧ Hid (ClimbAt F R n ch T a gk y))
            case atStart => exact ⟨false, pa, rfl, rfl, rfl, HC0⟩
            case round =>
              clear HC0 HCS HT0
              obtain ⟨a, y, rfl, rfl, rfl, HC⟩ := hrel
              by_cases hy : y = -1
              · have HaT : Hid (a = T) := Lib.hid (climb_end (by rw [← hy]; exact HC.out))
                obtain rfl := HaT.out
                have q3 : decide (0 ≤ y) = false := by simp; omega
                have hy0 : y < 0 := by omega
                clear hy HaT HC
                cases a with
                | true =>
                  have HNt : Hid (nowB F R (n + 1) k = fb) := Lib.hid (by rw [HNk.out, Bool.true_and])
                  go_upto_region 15 with fail
                  go_region_held3 (fun X => X.cell? ⟨gf, of + k * 6, none⟩ = some (.int .i64 kd) ∧ X.cell? ⟨gf, of + k * 6 + 1, none⟩ = some (.string nm0) ∧ X.cell? ⟨gf, of + k * 6 + 2, none⟩ = some (.string tx) ∧ X.cell? ⟨gf, of + k * 6 + 3, none⟩ = some (.slice aA al.length aC) ∧ X.cell? ⟨gf, of + k * 6 + 4, none⟩ = some (.int .i64 pa) ∧ X.cell? ⟨gf, of + k * 6 + 5, none⟩ = some (.slice kA kl.length kC) ∧ X.cell? ⟨gs, os + n * 2, none⟩ = some (.slice sA ns sc))
                    (first | with_reducible exact HCk.out _ HWU.out.drew | with_reducible exact HCk.out _ HWU1.out | with_reducible exact HCk.out _ (HWU1.out.setCell HBg.out _) | with_reducible exact HCk.out _ (HWU.out.drew.setCell HBg.out _))
                    (first | (go_at_call 25; refine (HF1.out _ HU.out.drew).mono ?_; rintro e w1 ⟨rfl, hb⟩; have HU1 := Lib.hid (HU.out.drew.trans (hb.mono hUg)); have HWU1 := Lib.hid (HB.out.trans (HU1.out.mono HBg.out)); have HH1 := Lib.hid (own_below HH.out ((Below.refl U.heap.size U).drew.trans (hb.mono (by simp)))); clear hb; have zf := HH1.out.frozenAt k; have zc := half_cell HH1.out hkl))
                  go_wp2
                  go_roundw
                  case rel => exact ⟨_, k + 1, rfl, by omega, by go_num, Lib.hid (half_own HH1.out hkl HNt.out), Lib.hid (HU1.out.setCell (Nat.le_refl _) _)⟩
                  case measure => simp [intOf] <;> omega
                | false =>
                  have HNt : Hid (∀ u : Unit, nowB F R (n + 1) k = false) := Lib.hid (fun _ => by rw [HNk.out, Bool.false_and])
                  clear HNk
                  go_upto_region 15 with fail
                  have HHd := Lib.hid (own_below HH.out (Below.refl U.heap.size U).drew)
                  refine wp_region_still_tail 16 (by kernel_rfl) (by kernel_rfl) ?_
                  simp only [List.take_succ_cons, List.take_zero, List.drop_succ_cons, List.drop_zero]
                  iterate 16 (with_reducible refine wpStill_step (fun K hK => ?_); go_simp; with_reducible refine hK _ ?_; clear hK K)
                  with_reducible refine wpStill_nil ?_
                  change wpList _ _ _ _ _ U.drew
                  have zf := HHd.out.frozenAt k
                  have zc := half_cell HHd.out hkl
                  go_wp2
                  go_roundw
                  case rel => exact ⟨_, k + 1, rfl, by omega, by go_num, Lib.hid (half_own HHd.out hkl (HNt.out ())), Lib.hid (HU.out.drew.setCell (Nat.le_refl _) _)⟩
                  case measure => simp [intOf] <;> omega
              · have hisB : isB F y = true := HC.out.1.resolve_left hy
                rw [isB, decide_eq_true_eq] at hisB
                obtain ⟨j, rfl⟩ := Int.eq_ofNat_of_zero_le hisB.1
                have hjF : j < F.length := by omega
                have y0 : (0 : Int) ≤ (j : Int) := by omega
                have y1 : (j : Int) < (N : Int) := by rw [← HNN.out]; omega
                have hjN : j < N := by omega
                have q3 : decide (0 ≤ (j : Int)) = true := by simp
                obtain ⟨h1, gp, hgp, h2⟩ := HClU.out n j gk ch T a hjF HC.out
                subst hgp
                have b0 := HOb.out j hjN
                have d4 := HN4.out j hjF
                have Ha : Hid (ch = true → a = false) := Lib.hid (fun h => by have h3 := HC.out.2.2.2; rw [h, if_pos rfl] at h3; exact h3.1)
                generalize nowB F R n j = b at *
                generalize F[j].parent = pj at *
                clear hisB hy HC
                cases ch with
                | true =>
                  obtain rfl := Ha.out rfl
                  obtain rfl : b = T := by simpa using h1 rfl
                  clear h1 h2 Ha
                  cases b with
                  | true =>
                    have HNt : Hid (nowB F R (n + 1) k = fb) := Lib.hid (by rw [HNk.out, Bool.true_and])
                    go_upto_region 15 with fail
                    go_region_held3 (fun X => X.cell? ⟨gf, of + k * 6, none⟩ = some (.int .i64 kd) ∧ X.cell? ⟨gf, of + k * 6 + 1, none⟩ = some (.string nm0) ∧ X.cell? ⟨gf, of + k * 6 + 2, none⟩ = some (.string tx) ∧ X.cell? ⟨gf, of + k * 6 + 3, none⟩ = some (.slice aA al.length aC) ∧ X.cell? ⟨gf, of + k * 6 + 4, none⟩ = some (.int .i64 pa) ∧ X.cell? ⟨gf, of + k * 6 + 5, none⟩ = some (.slice kA kl.length kC) ∧ X.cell? ⟨gs, os + n * 2, none⟩ = some (.slice sA ns sc))
                      (first | with_reducible exact HCk.out _ HWU.out.drew | with_reducible exact HCk.out _ HWU1.out | with_reducible exact HCk.out _ (HWU1.out.setCell HBg.out _) | with_reducible exact HCk.out _ (HWU.out.drew.setCell HBg.out _))
                      (first | (go_at_call 25; refine (HF1.out _ HU.out.drew).mono ?_; rintro e w1 ⟨rfl, hb⟩; have HU1 := Lib.hid (HU.out.drew.trans (hb.mono hUg)); have HWU1 := Lib.hid (HB.out.trans (HU1.out.mono HBg.out)); have HH1 := Lib.hid (own_below HH.out ((Below.refl U.heap.size U).drew.trans (hb.mono (by simp)))); clear hb; have zf := HH1.out.frozenAt k; have zc := half_cell HH1.out hkl))
                    go_wp2
                    go_roundw
                    case rel => exact ⟨_, k + 1, rfl, by omega, by go_num, Lib.hid (half_own HH1.out hkl HNt.out), Lib.hid (HU1.out.setCell (Nat.le_refl _) _)⟩
                    case measure => simp [intOf] <;> omega
                  | false =>
                    have HNt : Hid (∀ u : Unit, nowB F R (n + 1) k = false) := Lib.hid (fun _ => by rw [HNk.out, Bool.false_and])
                    clear HNk
                    go_upto_region 15 with fail
                    have HHd := Lib.hid (own_below HH.out (Below.refl U.heap.size U).drew)
                    refine wp_region_still_tail 16 (by kernel_rfl) (by kernel_rfl) ?_
                    simp only [List.take_succ_cons, List.take_zero, List.drop_succ_cons, List.drop_zero]
                    iterate 16 (with_reducible refine wpStill_step (fun K hK => ?_); go_simp; with_reducible refine hK _ ?_; clear hK K)
                    with_reducible refine wpStill_nil ?_
                    change wpList _ _ _ _ _ U.drew
                    have zf := HHd.out.frozenAt k
                    have zc := half_cell HHd.out hkl
                    go_wp2
                    go_roundw
                    case rel => exact ⟨_, k + 1, rfl, by omega, by go_num, Lib.hid (half_own HHd.out hkl (HNt.out ())), Lib.hid (HU.out.drew.setCell (Nat.le_refl _) _)⟩
                    case measure => simp [intOf] <;> omega
                | false =>
                  have H2 := Lib.hid (h2 rfl)
                  clear h1 h2 Ha
                  cases a with
                  | true =>
                    go_wp2
                    go_roundg gp
                    case measure => omega
                    case rel => exact ⟨true, pj, rfl, rfl, rfl, H2⟩
                  | false =>
                    have H3 : Hid (ClimbAt F R n false T b gp pj) := Lib.hid (by simpa using H2.out)
                    clear H2
                    go_wp2
                    go_roundg gp
                    case measure => omega
                    case rel => exact ⟨b, pj, rfl, rfl, rfl, H3⟩
        · obtain rfl : k = N := by omega
          have HO2 : Hid (U.ownsRow w.heap.size 4 1 (.slice (some ⟨g1, 0, none⟩) k k) k (bvB (allL k (nowB F R (n + 1))))) := Lib.hid (by
            have := HH.out
            rw [half_all] at this
            exact own_mono this HBg.out)
          go_wp2
          go_roundw
          case rel => exact ⟨_, _, n + 1, rfl, by omega, rfl, by go_num, HO2, HWU⟩
          case measure => simp [intOf] <;> omega
    · obtain rfl : n = L := by omega
      go_wp2
      go_ret
      exact ⟨_, rfl, HO.out, HB.out⟩
end Go.Proofs.YtaacikjoafobfaaGreatDoor.Fi
