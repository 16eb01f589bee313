/-
  The document's Is, All and First.
  The law FindBoth: what a selector of two finds is what both find, in the order of the document.
  What a bound on the bulk gives; the law FindBoth, of what came in.
  A selector that came in, counted: it has no more rows, steps and tests than its bulk.
  What find tells of what is no node; a selector's copy in the document's types.
  What find, and the document, tell from any number on.
-/
import Derived.Test.YtaacikjoafobfaaGreatDoorP45
import Derived.Test.YtaacikjoafobfaaGreatDoorP44
import Derived.Test.YtaacikjoafobfaaGreatDoorP18
import Derived.Test.YtaacikjoafobfaaGreatDoorP13
import Derived.Test.YtaacikjoafobfaaGreatDoorRows
import Derived.Test.YtaacikjoafobfaaGreatDoorP41
import Derived.Test.YtaacikjoafobfaaGreatDoorP43
import Derived.Laws.AppendOwnNone
namespace Go.Proofs.YtaacikjoafobfaaGreatDoor.Fi
open Go.ChangeShapes Go.WideShapes Go.ChangeAt Go.RowKit
open Sx (Tr Ms Mr TR MR XR tV r1 ls te stp rws cx cl)
set_option linter.unusedVariables false
set_option linter.unusedSimpArgs false

theorem now_isP {F : List Mn} {l : List Ms} {i : Nat} : nowB F (rowB l) l.length i = eD fitsB (rowB l).reverse (wayU F i) := by
  unfold nowB
  rw [List.take_of_length_le (by rw [rowB_len]; exact Nat.le_refl _)]
theorem any_take {α : Type} {p : α → Bool} {l : List α} {k : Nat} (h : k < l.length) : (l.take (k + 1)).any p = ((l.take k).any p || p l[k]) := by
  rw [List.take_succ_eq_append_getElem h, List.any_append]
  simp
theorem any_hit {α : Type} {p : α → Bool} {l : List α} {k : Nat} (h : k < l.length) (hp : p l[k] = true) : l.any p = true := List.any_eq_true.2 ⟨_, List.getElem_mem h, hp⟩
set_option maxRecDepth 100000 in
set_option maxHeartbeats 4000000 in
theorem ris_any (A : Option Addr) (F : List Mn) (c i : Nat) (B : Option Addr) (x : List Mr) (d : Nat) (w : World) (hF : FR w A F) (hm : mayB F = true) (hi : i < F.length) (hX : Xs w B x) :
    Calls Tryz.prog 23 #[.slice A F.length c, .int .i64 i, .slice B x.length d] w (GivesV (.bool (isP F x i)) w) := by
  have HX := Lib.hid hX
  have HE := Lib.hid (fun (V : World) (k : Nat) (hb : Below w.heap.size w V) (hk : k < x.length) => show Calls Tryz.prog 54 #[.slice A F.length c, .slice x[k].1.1 x[k].2.length x[k].1.2] V (fun e w' => ∃ g : Nat, e = .returned (.slice (some ⟨g, 0, none⟩) F.length F.length) ∧ w'.cell? ⟨g, i, none⟩ = some (.bool (eD fitsB (rowB x[k].2).reverse (wayU F i))) ∧ Below V.heap.size V w') from by
    have hr := (hX.below hb).rw hk
    refine (rends_any A F c x[k].1.1 x[k].2 x[k].1.2 V (hF.below hb) hm hr.mr hr.tb (Nat.le_trans hr.cap hr.big)).mono ?_
    rintro e w' ⟨g, he, ho, hb'⟩
    refine ⟨g, he, ?_, hb'⟩
    have := own_bool ho hi
    rwa [now_isP] at this)
  have HR : Hid (isP F x i = x.any (fun m => eD fitsB (rowB m.2).reverse (wayU F i))) := Lib.hid rfl
  have hxl := hX.len
  generalize isP F x i = R at *
  obtain ⟨q, hq⟩ : ∃ q, (fun m : Mr => eD fitsB (rowB m.2).reverse (wayU F i)) = q := ⟨_, rfl⟩
  have HE2 := Lib.hid (fun (V : World) (k : Nat) (hb : Below w.heap.size w V) (hk : k < x.length) => show Calls Tryz.prog 54 #[.slice A F.length c, .slice x[k].1.1 x[k].2.length x[k].1.2] V (fun e w' => ∃ g : Nat, e = .returned (.slice (some ⟨g, 0, none⟩) F.length F.length) ∧ w'.cell? ⟨g, i, none⟩ = some (.bool (q x[k])) ∧ Below V.heap.size V w') from by rw [← hq]; exact HE.out V k hb hk)
  rw [hq] at HR
  have hi60 := (mayB_parts hm).2.1
  obtain ⟨N, hN⟩ : ∃ N, F.length = N := ⟨_, rfl⟩
  obtain ⟨n, hn⟩ : ∃ n, x.length = n := ⟨_, rfl⟩
  have HNN := Lib.hid hn
  rw [hN] at HE2 hi hi60 ⊢
  rw [hn] at hxl ⊢
  have i0 : (0 : Int) ≤ (i : Int) := by omega
  have i1 : (i : Int) < (N : Int) := by omega
  have i2 : i < N := hi
  clear hF hm hX HE hq hn hN
  go_enter Tryz.func23, Tryz.ntmps23
  go_wp2_with fail
  go_loopw [7] (fun q7 wr => ∃ (V : World) (k : Nat), V = wr ∧ k ≤ n ∧ q7 = .int .i64 k ∧ Hid ((x.take k).any q = false) ∧ Hid (Below w.heap.size w V)) (fun q7 _ => n - (intOf q7).toNat)
  case atStart => exact ⟨_, 0, rfl, Nat.zero_le _, rfl, Lib.hid rfl, Lib.hid (Below.refl _ _)⟩
  case round =>
    obtain ⟨V, k, rfl, hk, rfl, HT, HB⟩ := hrel
    by_cases hlt : k < n
    · have k0 : (0 : Int) ≤ (k : Int) := by omega
      have k1 : (k : Int) < (n : Int) := by omega
      have hkl : k < x.length := by rw [HNN.out]; exact hlt
      obtain ⟨g, off, rfl, hg, c0, -⟩ := (HX.out.xr.below HB.out) k x[k] (List.getElem?_eq_getElem hkl)
      have HC := Lib.hid (HE2.out V k HB.out hkl)
      have HT2 := Lib.hid (any_take (p := q) hkl)
      have HH := Lib.hid (any_hit (p := q) hkl)
      unfold r1 at c0
      generalize q x[k] = b at *
      generalize x[k] = m at *
      obtain ⟨⟨mA, mc⟩, l⟩ := m
      simp only [] at c0 HC
      generalize l.length = nl at *
      go_wp2_with fail
      refine HC.out.mono ?_
      rintro e w1 ⟨g2, rfl, hc, hb⟩
      have HB1 := Lib.hid (HB.out.trans (hb.mono HB.out.size))
      clear hb c0
      cases b with
      | true =>
        have HRR := Lib.hid (HH.out rfl)
        go_wp2
        go_ret
        exact ⟨ret_bool (by rw [HR.out, HRR.out]), HB1.out⟩
      | false =>
        have HT3 : Hid ((x.take (k + 1)).any q = false) := Lib.hid (by rw [HT2.out, HT.out]; rfl)
        go_wp2
        go_roundw
        case rel => exact ⟨_, k + 1, rfl, by omega, by go_num, HT3, HB1⟩
        case measure => simp [intOf] <;> omega
    · obtain rfl : k = n := by omega
      have e : x.take k = x := List.take_of_length_le (by rw [HNN.out]; exact Nat.le_refl _)
      rw [e] at HT
      clear e
      go_wp2
      go_ret
      exact ⟨ret_bool (by rw [HR.out, HT.out]), HB.out⟩
set_option maxRecDepth 100000 in
set_option maxHeartbeats 4000000 in
/-- What All tells of a node. -/
theorem rall_node (A : Option Addr) (F : List Mn) (c i : Nat) (B : Option Addr) (x : List Mr) (d : Nat) (w : World) (hF : FR w A F) (hm : mayB F = true) (hi : i < F.length) (hX : Xs w B x) :
    Calls Tryz.prog 21 #[.slice A F.length c, .int .i64 i, .slice B x.length d] w fun e w' => ∃ v, e = .returned v ∧ w'.ownsRow w.heap.size 3 1 v ((ord F i).filter (isP F x)).length (ivN ((ord F i).filter (isP F x))) ∧ Below w.heap.size w w' := by
  have HO := Lib.hid (R8.rOrder_node A F c i w hF hm hi)
  have HI := Lib.hid (fun (V : World) (j : Nat) (hb : Below w.heap.size w V) (hj : j < F.length) => ris_any A F c j B x d V (hF.below hb) hm hj (hX.below hb))
  have HL := Lib.hid (fun (j : Nat) (hj : j ∈ ord F i) => ord_lt hm hi hj)
  have hlen := Nat.le_trans (ord_len hm hi) (mayB_parts hm).2.1
  obtain ⟨N, hN⟩ : ∃ N, F.length = N := ⟨_, rfl⟩
  obtain ⟨n, hn⟩ : ∃ n, x.length = n := ⟨_, rfl⟩
  rw [hN] at HO HI ⊢
  rw [hn] at HI ⊢
  clear hF hm hX hn
  generalize isP F x = q at *
  generalize ord F i = o at *
  obtain ⟨m, hmm⟩ : ∃ m, o.length = m := ⟨_, rfl⟩
  have HM := Lib.hid hmm
  rw [hmm] at HO hlen
  clear hmm hi
  obtain ⟨z0, hI1, hI2, hI3, hI4⟩ := info_parts R8.info_int
  have HJ := Lib.hid (And.intro hI1 (And.intro hI2 (And.intro hI3 hI4)))
  clear hI1 hI2 hI3 hI4
  go_enter Tryz.func21, Tryz.ntmps21
  go_wp2_with fail
  refine HO.out.mono ?_
  rintro e w1 ⟨v, rfl, hv, hb⟩
  have HB1 := Lib.hid hb
  obtain ⟨p1, c1, rfl, -⟩ := own_form2 hv
  have HIR : Hid (IR w1 p1 (o.map Int.ofNat)) := Lib.hid (own_ir2 (l := o.map Int.ofNat) (n := m) (c := c1) (by rw [List.length_map, HM.out]; exact hv))
  clear hv hb
  have HO0 : Hid ((w1.alloc (.cells #[] 3)).ownsRow w1.heap.size 3 1 (.slice (some ⟨w1.heap.size, 0, none⟩) 0 0) 0 []) := Lib.hid (World.ownsRow_made w1 #[] 0 (Nat.le_refl _) (by simp [maxLen]) rfl)
  have HBa : Hid (Below w1.heap.size w1 (w1.alloc (.cells #[] 3))) := Lib.hid ((Below.refl _ _).alloc (Nat.le_refl _) _)
  go_wp2_with fail
  go_loopw [9, 10] (fun q9 q10 wr => ∃ (V : World) (k nl cap : Nat) (p : Option Addr), V = wr ∧ k ≤ m ∧ q9 = .slice p nl cap ∧ q10 = .int .i64 k ∧ nl ≤ k ∧ Hid (((o.take k).filter q).length = nl) ∧ Hid (V.ownsRow w1.heap.size 3 1 (.slice p nl cap) nl (ivN ((o.take k).filter q))) ∧ Hid (Below w1.heap.size w1 V)) (fun _ q10 _ => m - (intOf q10).toNat)
  case atStart => exact ⟨_, 0, 0, 0, _, rfl, Nat.zero_le _, rfl, rfl, by omega, Lib.hid rfl, HO0, HBa⟩
  case round =>
    clear HO0 HBa
    obtain ⟨V, k, nl, cap, p, rfl, hk, rfl, rfl, hnl, HLn, HOw, HB⟩ := hrel
    by_cases hlt : k < m
    · have k0 : (0 : Int) ≤ (k : Int) := by omega
      have k1 : (k : Int) < (m : Int) := by omega
      have hkl : k < o.length := by rw [HM.out]; exact hlt
      obtain ⟨gk, ok, rfl, hgk, ck⟩ := (HIR.out.below HB.out) k (by rw [List.length_map]; exact hkl)
      rw [getD_at 0 (by rw [List.length_map]; exact hkl), List.getElem_map] at ck
      have ck : V.cell? ⟨gk, ok + k, none⟩ = some (.int .i64 ((o[k] : Nat) : Int)) := ck
      have HC := Lib.hid (fun (U : World) (hU : Below w.heap.size w U) => HI.out U o[k] hU (by have := HL.out _ (List.getElem_mem hkl); omega))
      have HTk : Hid ((o.take (k + 1)).filter q = (o.take k).filter q ++ (if q o[k] then [o[k]] else [])) := Lib.hid (by
        rw [List.take_succ_eq_append_getElem hkl, List.filter_append]
        congr 1
        simp [List.filter_cons])
      generalize q o[k] = b at *
      generalize o[k] = a at *
      go_wp2_with fail
      refine (HC.out V (HB1.out.trans (HB.out.mono HB1.out.size))).mono ?_
      rintro e w2 ⟨rfl, hb⟩
      have HB3 := Lib.hid (HB.out.trans (hb.mono HB.out.size))
      have HOx := Lib.hid (own_below HOw.out hb)
      have ck2 := (hb.cell (p := ⟨gk, ok + k, none⟩) hgk).trans ck
      clear hb ck
      cases b with
      | true =>
        have HOy : Hid ((w2.alloc (.cells #[.int .i64 (a : Nat)] 3)).ownsRow w1.heap.size 3 1 (.slice p nl cap) nl (ivN ((o.take k).filter q))) := Lib.hid (HOx.out.alloc _)
        have HCe := Lib.hid (R8.cell_int _ _ _ _ (heap_alloc_new w2 (.cells #[.int .i64 (a : Nat)] 3)))
        have HBy : Hid (Below w1.heap.size w1 (w2.alloc (.cells #[.int .i64 (a : Nat)] 3))) := Lib.hid (HB3.out.alloc HB3.out.size _)
        have hsy := HBy.out.size
        have HT2 : Hid ((o.take (k + 1)).filter q = (o.take k).filter q ++ [a]) := Lib.hid (by rw [HTk.out]; rfl)
        go_wp2_with (at_builtin; refine wpList_append_own_at _ rfl _ _ 34 rfl w1.heap.size 3 z0 (.int .i64 0) 1 8 Tryz.underlying34 HJ.out.1 HJ.out.2.1 HJ.out.2.2.1 HJ.out.2.2.2 rfl (by decide) _ _ _ rfl HOy.out ⟨w2.heap.size, 0, none⟩ 1 1 [.int .i64 (a : Nat)] rfl rfl HCe.out (by intro u hu; simp only [List.mem_cons, List.not_mem_nil, or_false] at hu; subst hu; rfl) (by unfold maxLen; omega) (by omega) hsy ?_; intro v' w3 hown' hgrow _ hat; have HO' := Lib.hid hown'; have HGR := Lib.hid hgrow; clear hown' hgrow hat)
        obtain ⟨p', cap', rfl, -⟩ := own_form2 HO'.out
        have HB4 : Hid (Below w1.heap.size w1 w3) := Lib.hid (HBy.out.grown HGR.out hsy (fun r e => (HOy.out.lt r e).1))
        have HO2 : Hid (w3.ownsRow w1.heap.size 3 1 (.slice p' (nl + 1) cap') (nl + 1) (ivN ((o.take (k + 1)).filter q))) := Lib.hid (by rw [HT2.out, R8.ivN_app]; exact HO'.out)
        have HL2 : Hid (((o.take (k + 1)).filter q).length = nl + 1) := Lib.hid (by rw [HT2.out, List.length_append, HLn.out]; rfl)
        go_roundw
        case rel => exact ⟨_, k + 1, nl + 1, cap', p', rfl, by omega, rfl, by go_num, by omega, HL2, HO2, HB4⟩
        case measure => simp [intOf] <;> omega
      | false =>
        have HT2 : Hid ((o.take (k + 1)).filter q = (o.take k).filter q) := Lib.hid (by rw [HTk.out]; simp)
        have HO2 : Hid (w2.ownsRow w1.heap.size 3 1 (.slice p nl cap) nl (ivN ((o.take (k + 1)).filter q))) := Lib.hid (by rw [HT2.out]; exact HOx.out)
        have HL2 : Hid (((o.take (k + 1)).filter q).length = nl) := Lib.hid (by rw [HT2.out]; exact HLn.out)
        go_wp2
        go_roundw
        case rel => exact ⟨_, k + 1, nl, cap, p, rfl, by omega, rfl, by go_num, by omega, HL2, HO2, HB3⟩
        case measure => simp [intOf] <;> omega
    · obtain rfl : k = m := by omega
      have e : o.take k = o := List.take_of_length_le (by rw [HM.out]; exact Nat.le_refl _)
      rw [e] at HOw HLn
      clear e
      go_wp2
      go_ret
      exact ⟨_, rfl, by rw [HLn.out]; exact own_mono HOw.out HB1.out.size, HB1.out.trans (HB.out.mono HB1.out.size)⟩
set_option maxRecDepth 100000 in
set_option maxHeartbeats 4000000 in
/-- What All tells of what is no node. -/
theorem rall_none (A : Option Addr) (n c : Nat) (t : Int) (B : Option Addr) (nx d : Nat) (w : World) (hx : ¬ (0 ≤ t ∧ t < n)) :
    Calls Tryz.prog 21 #[.slice A n c, .int .i64 t, .slice B nx d] w fun e w' => (∃ p cap, e = .returned (.slice p 0 cap)) ∧ Below w.heap.size w w' := by
  have HO := Lib.hid (R8.rOrder_none A n c t w hx)
  clear hx
  go_enter Tryz.func21, Tryz.ntmps21
  go_wp2_with fail
  refine HO.out.mono ?_
  rintro e w1 ⟨rfl, hb⟩
  have HB1 := Lib.hid hb
  clear hb
  have HB2 : Hid (Below w.heap.size w (w1.alloc (.cells #[] 3))) := Lib.hid (HB1.out.alloc HB1.out.size _)
  obtain ⟨W, hW⟩ : ∃ W, W = w1.alloc (.cells #[] 3) := ⟨_, rfl⟩
  rw [← hW] at HB2
  go_upto_region 3 with fail
  rw [← hW]
  clear hW
  go_wp2_with fail
  go_loopw [9, 10] (fun q9 q10 wr => q9 = .slice (some ⟨w1.heap.size, 0, none⟩) 0 0 ∧ q10 = .int .i64 0 ∧ W = wr) (fun _ _ _ => 0)
  case atStart => exact ⟨rfl, rfl, rfl⟩
  case round =>
    obtain ⟨rfl, rfl, rfl⟩ := hrel
    go_wp2
    go_ret
    exact ⟨⟨_, _, rfl⟩, HB2.out⟩
/-- What First tells of a node. -/
theorem rfirst_node (A : Option Addr) (F : List Mn) (c i : Nat) (B : Option Addr) (x : List Mr) (d : Nat) (w : World) (hF : FR w A F) (hm : mayB F = true) (hi : i < F.length) (hX : Xs w B x) :
    Calls Tryz.prog 18 #[.slice A F.length c, .int .i64 i, .slice B x.length d] w fun e w' => e = .returned (firstP F x i) ∧ Below w.heap.size w w' := by
  have HA := Lib.hid (rall_node A F c i B x d w hF hm hi hX)
  have HFi : Hid (firstP F x i = match (ord F i).filter (isP F x) with | [] => .tuple #[.int .i64 0, .bool false] | k :: _ => .tuple #[.int .i64 k, .bool true]) := Lib.hid (by
    unfold firstP
    rw [← List.head?_filter]
    cases (ord F i).filter (isP F x) <;> rfl)
  generalize firstP F x i = R at *
  generalize (ord F i).filter (isP F x) = l at *
  generalize F.length = N at *
  generalize x.length = n at *
  clear hF hm hi hX
  go_enter Tryz.func18, Tryz.ntmps18
  go_wp2_with fail
  refine HA.out.mono ?_
  rintro e w1 ⟨v, rfl, hv, hb⟩
  have HB := Lib.hid hb
  clear hb
  cases l with
  | nil =>
    obtain ⟨p, cap, rfl, -⟩ := own_form2 hv
    clear hv
    go_wp2
    go_ret2
    exact ⟨by rw [HFi.out]; rfl, HB.out⟩
  | cons k l =>
    obtain ⟨g, cap, rfl, h1, h2, h3, h4, h5⟩ := R8.own_some hv (by simp)
    have c0 := h5 0 (.int .i64 k) rfl
    rw [add_plain, Nat.zero_add] at c0
    clear h5 hv h1 h2 h3 h4
    obtain ⟨n2, hn2⟩ : ∃ n2, (k :: l).length = n2 := ⟨_, rfl⟩
    have hp : 0 < n2 := by rw [← hn2]; simp
    have hz : ((n2 : Int) == 0) = false := by rw [beq_eq_false_iff_ne]; omega
    rw [hn2]
    clear hn2
    go_wp2
    go_ret2
    exact ⟨by rw [HFi.out]; rfl, HB.out⟩
theorem rfirst_none (A : Option Addr) (n c : Nat) (t : Int) (B : Option Addr) (nx d : Nat) (w : World) (hx : ¬ (0 ≤ t ∧ t < n)) :
    Calls Tryz.prog 18 #[.slice A n c, .int .i64 t, .slice B nx d] w fun e w' => e = .returned (.tuple #[.int .i64 0, .bool false]) ∧ Below w.heap.size w w' := by
  have HO := Lib.hid (rall_none A n c t B nx d w hx)
  clear hx
  go_enter Tryz.func18, Tryz.ntmps18
  go_wp2_with fail
  refine HO.out.mono ?_
  rintro e w1 ⟨⟨p, cap, rfl⟩, hb⟩
  have HB := Lib.hid hb
  clear hb
  go_wp2
  go_ret2
  exact ⟨rfl, HB.out⟩
/-- What Is tells of what is no node. -/
theorem ris_none (A : Option Addr) (n c : Nat) (t : Int) (B : Option Addr) (nx d : Nat) (w : World) (hx : ¬ (0 ≤ t ∧ t < n)) :
    Calls Tryz.prog 23 #[.slice A n c, .int .i64 t, .slice B nx d] w (GivesV (.bool false) w) := by
  by_cases h0 : 0 ≤ t
  all_goals
    have h1 : 0 ≤ t → ¬ t < (n : Int) := by omega
    go_enter Tryz.func23, Tryz.ntmps23
    go_wp2_with fail
    go_loopw [7] (fun q7 wr => q7 = .int .i64 0 ∧ w = wr) (fun _ _ => 0)
    case atStart => exact ⟨rfl, rfl⟩
    case round =>
      obtain ⟨rfl, rfl⟩ := hrel
      by_cases hn : 0 < nx
      all_goals
        go_wp2
        go_ret
        exact ⟨rfl, Below.refl _ _⟩
end Go.Proofs.YtaacikjoafobfaaGreatDoor.Fi
namespace Go.Proofs.YtaacikjoafobfaaGreatDoor.Fi
open Go.ChangeShapes Go.WideShapes Go.ChangeAt Go.RowKit
open Sx (Tr Ms Mr TR MR XR tV r1 ls te stp rws cx cl cx_iff rcells)
set_option linter.unusedVariables false
set_option linter.unusedSimpArgs false

/-- A selector that came in. -/
structure Xb (w : World) (P : Option Addr) (a : List Mr) (c : Nat) : Prop where
  xr : XR w P a
  fit : Sx.So.SelFit a
  cap : a.length ≤ c
  big : a.length ≤ 1048576
  no : P = none → c = 0
theorem Xb.below {w w' : World} {P : Option Addr} {a : List Mr} {c : Nat} (h : Xb w P a c) (hb : Below w.heap.size w w') : Xb w' P a c := ⟨h.xr.below hb, h.fit, h.cap, h.big, h.no⟩
theorem Xb.xs {w : World} {P : Option Addr} {a : List Mr} {c : Nat} (h : Xb w P a c) (hs : smallS a) : Xs w P a :=
  ⟨h.xr, h.fit.1, fun m hm => ⟨fun s hs' => ⟨((h.fit.2 m hm).1.2 s hs').1, fun t ht => Nat.le_trans (hs m hm s hs' t ht).1 (by decide)⟩, (h.fit.2 m hm).2⟩⟩
theorem add_plainC (g i j : Nat) : (⟨g, i, none⟩ : Addr).add j = ⟨g, i + j, none⟩ := by unfold Addr.add; split <;> simp_all
theorem Xb.cells {w : World} {g off c : Nat} {a : List Mr} (h : Xb w (some ⟨g, off, none⟩) a c) : ∀ j u, (rcells a)[j]? = some u → w.cell? ((⟨g, off, none⟩ : Addr).add j) = some u := by
  intro j u hu
  rw [add_plainC]
  unfold rcells at hu
  rw [List.getElem?_map] at hu
  obtain ⟨m, hm, rfl⟩ := Option.map_eq_some_iff.1 hu
  obtain ⟨g', off', hA, hg, h1, -⟩ := h.xr j m hm
  cases hA
  exact h1
theorem Xb.addr {w : World} {P : Option Addr} {a : List Mr} {c : Nat} (h : Xb w P a c) : (P = none ∧ a = [] ∧ c = 0) ∨ (a = []) ∨ ∃ g off, P = some ⟨g, off, none⟩ := by
  cases a with
  | nil => exact .inr (.inl rfl)
  | cons m a =>
    obtain ⟨g, off, hA, -⟩ := h.xr 0 m rfl
    exact .inr (.inr ⟨g, off, hA⟩)
theorem XR.mr {V : World} {A : Option Addr} {x : List Mr} (h : XR V A x) {k : Nat} (hk : k < x.length) : MR V x[k].1.1 x[k].2 := by
  obtain ⟨g, off, -, -, -, hm⟩ := h k x[k] (List.getElem?_eq_getElem hk)
  exact hm
end Go.Proofs.YtaacikjoafobfaaGreatDoor.Fi
namespace Go.Proofs.YtaacikjoafobfaaGreatDoor.Fi
open Go.ChangeShapes Go.WideShapes Go.ChangeAt Go.RowKit
open Sx (Tr Ms Mr TR MR XR tV r1)
set_option linter.unusedVariables false

theorem bulk_pos {H : Type} (d : DataW H) : 1 ≤ Rows.uptoBulk d := by
  cases d with
  | lit l => cases l <;> simp [Rows.uptoBulk]
  | nil => simp [Rows.uptoBulk]
  | ptr d => simp [Rows.uptoBulk]
  | slice elems spare => simp [Rows.uptoBulk]
  | agg parts => simp [Rows.uptoBulk]
  | iface t d => simp [Rows.uptoBulk]
  | map entries => simp [Rows.uptoBulk]
  | held h => simp [Rows.uptoBulk]
theorem bulk_len {H : Type} (l : List (DataW H)) : l.length ≤ Rows.uptoBulkAll l := by
  induction l with
  | nil => exact Nat.le_refl _
  | cons x r ih =>
    have := bulk_pos x
    simp only [Rows.uptoBulkAll, List.length_cons]
    omega
end Go.Proofs.YtaacikjoafobfaaGreatDoor.Fi
namespace Go.Proofs.YtaacikjoafobfaaGreatDoor.Fi
open Go.ChangeShapes Go.WideShapes Go.ChangeAt Go.RowKit
open Sx (Tr Ms Mr TR MR XR tV r1 ls te stp rws)
open Sx.So
set_option linter.unusedVariables false
set_option linter.unusedSimpArgs false

theorem bulk_mem {H : Type} {d : DataW H} : ∀ {l : List (DataW H)}, d ∈ l → Rows.uptoBulk d ≤ Rows.uptoBulkAll l
  | x :: r, h => by
    simp only [Rows.uptoBulkAll]
    rcases List.mem_cons.1 h with rfl | h
    · omega
    · have := bulk_mem h
      omega
theorem bulk_sum {H : Type} {D : Nat → DataW H} {g : Nat → Nat} : ∀ (L : List Nat), (∀ i ∈ L, g i ≤ Rows.uptoBulk (D i)) → (L.map g).sum ≤ Rows.uptoBulkAll (L.map D)
  | [], _ => by simp
  | a :: L, h => by
    have h1 := h a (List.mem_cons_self ..)
    have h2 := bulk_sum (D := D) (g := g) L (fun i hi => h i (List.mem_cons_of_mem _ hi))
    simp only [List.map_cons, List.sum_cons, Rows.uptoBulkAll]
    omega
/-- A field of a struct that can be read, and how much of its bulk it has. -/
theorem struct_fieldc {H : Type} {enc : TypeId × Value → H} {P : Program} {w : World} {base : Nat} {sp : Nat → Bool} {held : Bool} {fuel : Nat} {t : TypeId} {cs : List Value} {x : DataW H × List MemPlace} {fs : Array Field}
    (ht : P.underlying t = some (.struct fs)) (h : DataW.trod enc P w base sp held fuel t cs = some x) (i : Nat) {ft : TypeId} {off : Nat} (hi : (fs[i]?).map (fun f => (f.type, f.offset)) = some (ft, off)) (hc : P.cellsOf ft = 1) {v : Value} (hv : cs[off]? = some v) :
    ∃ n d ps, DataW.trod enc P w base sp held n ft [v] = some (d, ps) ∧ (∀ y ∈ ps, y ∈ x.2) ∧ Rows.uptoBulk d + 1 ≤ Rows.uptoBulk x.1 := by
  obtain ⟨xs, n, _, hx, _, hxl, hf⟩ := DataW.trod_struct ht h
  obtain ⟨f, hfi, he⟩ := Option.map_eq_some_iff.1 hi
  have e1 : f.type = ft := congrArg Prod.fst he
  have e2 : f.offset = off := congrArg Prod.snd he
  have hlt : i < xs.length := by
    rw [hxl]
    exact (Array.getElem?_eq_some_iff.1 hfi).1
  have := hf i f hfi
  rw [e1, e2, hc, List.getElem?_eq_getElem hlt] at this
  obtain ⟨hl, hg⟩ := List.getElem?_eq_some_iff.1 hv
  have h1 : (cs.drop off).take 1 = [v] := by
    rw [List.drop_eq_getElem_cons hl, hg]
    rfl
  rw [h1] at this
  refine ⟨n, (xs[i]).1, (xs[i]).2, this, fun y hy => ?_, ?_⟩
  · rw [hx]
    exact List.mem_flatMap.2 ⟨xs[i], List.getElem_mem _, hy⟩
  · rw [hx]
    have := bulk_mem (List.mem_map_of_mem (f := (·.1)) (List.getElem_mem hlt))
    simp only [Rows.uptoBulk]
    omega
set_option maxRecDepth 100000 in
theorem tests_cellc {H : Type} {enc : TypeId × Value → H} {W : World} {n : Nat} {v : Value} {d : DataW H} {ps : List MemPlace} (hf : DataW.trod enc Tryz.prog W 0 (fun _ => true) true n 52 [v] = some (d, ps)) (hlt : ∀ x ∈ ps, x.block < W.heap.size) :
    ∃ (A : Option Addr) (cap : Nat) (T : List Tr), v = .slice A T.length cap ∧ T.length ≤ cap ∧ cap ≤ M63 ∧ TR W A T ∧ T.length + 1 ≤ Rows.uptoBulk d := by
  rcases Deep.open_slice Tryz.underlying52 hf with ⟨hcs, hx⟩ | ⟨a, len, cap, m, fu, D, Pl, hcs, hb, hl, hm, hmm, hx, hel⟩
  · cases hcs
    cases hx
    exact ⟨none, 0, [], rfl, by simp, by simp, fun i t hi => by simp at hi, by simp [Rows.uptoBulk]⟩
  · cases hcs
    simp only [Prod.mk.injEq] at hx
    obtain ⟨rfl, rfl⟩ := hx
    simp only [if_true] at hmm
    subst hmm
    rw [cells_Te] at hel hlt
    by_cases h0 : len = 0
    · subst h0
      exact ⟨some a, m, [], rfl, by simp, hm, fun i t hi => by simp at hi, by simp [Rows.uptoBulk]⟩
    obtain ⟨cs0, z1, -⟩ := hel 0 (by omega)
    have hspot := spot_of z1 (by omega)
    obtain ⟨b, off, spot⟩ := a
    have hs : spot = none := by simpa [Addr.add] using hspot
    subst hs
    have hbl : b < W.heap.size := hlt (.cell b off) (List.mem_append.2 (.inl (MemPlace.mem_row.2 ⟨0, by omega, by simp⟩)))
    have each : ∀ i, i < len → ∃ z : Tr, W.cell? ⟨b, off + i * 3, none⟩ = some (.int .i64 z.1) ∧ W.cell? ⟨b, off + i * 3 + 1, none⟩ = some (.string z.2.1) ∧ W.cell? ⟨b, off + i * 3 + 2, none⟩ = some (.string z.2.2) := fun i hi => by
      obtain ⟨cs', h1, h2⟩ := hel i (by omega)
      obtain ⟨_, hlen, hcell⟩ := World.cells?_some h1
      match cs', hlen with
      | [y0, y1, y2], _ =>
        obtain ⟨n0, d0, p0, t0, s0⟩ := struct_field under_Te h2 0 fTe0 cells_int (v := y0) rfl
        obtain ⟨n1, d1, p1, t1, s1⟩ := struct_field under_Te h2 1 fTe1 cells_str (v := y1) rfl
        obtain ⟨n2, d2, p2, t2, s2⟩ := struct_field under_Te h2 2 fTe2 cells_str (v := y2) rfl
        obtain ⟨z0, e0, -, -⟩ := DataW.trod_int Tryz.underlying3 t0
        obtain ⟨z1, e1, -, -⟩ := DataW.trod_string Tryz.underlying9 t1
        obtain ⟨z2, e2, -, -⟩ := DataW.trod_string Tryz.underlying9 t2
        cases e0
        cases e1
        cases e2
        have g0 := hcell 0 (by omega)
        have g1 := hcell 1 (by omega)
        have g2 := hcell 2 (by omega)
        simp only [add_plainS, Nat.add_zero] at g0 g1 g2
        exact ⟨(z0, z1, z2), g0, g1, g2⟩
    obtain ⟨f, hf⟩ := Deep.choose_lt each
    refine ⟨some ⟨b, off, none⟩, m, (List.range len).map f, by simp, by simpa using hl, hm, fun i t hi => ?_, by
      have := bulk_len ((List.range len).map D)
      simp only [List.length_map, List.length_range, Rows.uptoBulk] at this ⊢
      omega⟩
    obtain ⟨hi2, e⟩ := List.getElem?_eq_some_iff.1 hi
    have hi' : i < len := by simpa using hi2
    have e' : f i = t := by simpa using e
    rw [← e']
    exact ⟨b, off, rfl, hbl, hf i hi'⟩
set_option maxRecDepth 100000 in
theorem steps_cellc {H : Type} {enc : TypeId × Value → H} {W : World} {n : Nat} {v : Value} {d : DataW H} {ps : List MemPlace} (hf : DataW.trod enc Tryz.prog W 0 (fun _ => true) true n 46 [v] = some (d, ps)) (hlt : ∀ x ∈ ps, x.block < W.heap.size) :
    ∃ (A : Option Addr) (cap : Nat) (l : List Ms), v = .slice A l.length cap ∧ l.length ≤ cap ∧ cap ≤ M63 ∧ MR W A l ∧ RowFit l ∧ cL l + 1 ≤ Rows.uptoBulk d := by
  rcases Deep.open_slice Tryz.underlying46 hf with ⟨hcs, hx⟩ | ⟨a, len, cap, m, fu, D, Pl, hcs, hb, hl, hm, hmm, hx, hel⟩
  · cases hcs
    cases hx
    exact ⟨none, 0, [], rfl, by simp, by simp, fun i t hi => by simp at hi, ⟨by simp, by simp⟩, by simp [Rows.uptoBulk, cL]⟩
  · cases hcs
    simp only [Prod.mk.injEq] at hx
    obtain ⟨rfl, rfl⟩ := hx
    simp only [if_true] at hmm
    subst hmm
    rw [cells_St] at hel hlt
    by_cases h0 : len = 0
    · subst h0
      exact ⟨some a, m, [], rfl, by simp, hm, fun i t hi => by simp at hi, ⟨by simp, by simp⟩, by simp [Rows.uptoBulk, cL]⟩
    obtain ⟨cs0, z1, -⟩ := hel 0 (by omega)
    have hspot := spot_of z1 (by omega)
    obtain ⟨b, off, spot⟩ := a
    have hs : spot = none := by simpa [Addr.add] using hspot
    subst hs
    have hbl : b < W.heap.size := hlt (.cell b off) (List.mem_append.2 (.inl (MemPlace.mem_row.2 ⟨0, by omega, by simp⟩)))
    have each : ∀ i, i < len → ∃ z : Ms, (cS z ≤ Rows.uptoBulk (D i) ∧ z.2.1.length ≤ M63 ∧ z.2.1.length ≤ z.1.2 ∧ z.1.2 ≤ M63) ∧ W.cell? ⟨b, off + i * 2, none⟩ = some (.slice z.1.1 z.2.1.length z.1.2) ∧ W.cell? ⟨b, off + i * 2 + 1, none⟩ = some (.bool z.2.2) ∧ TR W z.1.1 z.2.1 := fun i hi => by
      obtain ⟨cs', h1, h2⟩ := hel i (by omega)
      have hsub : ∀ y ∈ Pl i, y.block < W.heap.size := fun y hy => hlt y (List.mem_append.2 (.inr (List.mem_flatMap.2 ⟨i, List.mem_range.2 (by omega), hy⟩)))
      obtain ⟨_, hlen, hcell⟩ := World.cells?_some h1
      match cs', hlen with
      | [y0, y1], _ =>
        obtain ⟨n0, d0, p0, t0, s0, u0⟩ := struct_fieldc under_St h2 0 fSt0 cells_Co (v := y0) rfl
        obtain ⟨n1, d1, p1, t1, s1⟩ := struct_field under_St h2 1 fSt1 cells_bool (v := y1) rfl
        obtain ⟨A, cap, T, rfl, q1, q2, q3, q4⟩ := tests_cellc t0 (fun y hy => hsub y (s0 y hy))
        obtain ⟨z1, e1, -⟩ := DataW.trod_bool Tryz.underlying4 t1
        cases e1
        have g0 := hcell 0 (by omega)
        have g1 := hcell 1 (by omega)
        simp only [add_plainS, Nat.add_zero] at g0 g1
        exact ⟨((A, cap), (T, z1)), ⟨by simp only [cS]; simp only [] at u0; omega, Nat.le_trans q1 q2, q1, q2⟩, g0, g1, q3⟩
    obtain ⟨f, hf⟩ := Deep.choose_lt each
    refine ⟨some ⟨b, off, none⟩, m, (List.range len).map f, by simp, by simpa using hl, hm, fun i t hi => ?_, ⟨by rw [List.length_map, List.length_range]; exact Nat.le_trans hl hm, fun s hs => ?_⟩, ?_⟩
    · obtain ⟨hi2, e⟩ := List.getElem?_eq_some_iff.1 hi
      have hi' : i < len := by simpa using hi2
      have e' : f i = t := by simpa using e
      rw [← e']
      exact ⟨b, off, rfl, hbl, (hf i hi').2⟩
    · obtain ⟨i, hi, rfl⟩ := List.mem_map.1 hs
      exact (hf i (by simpa using hi)).1.2
    · have := bulk_sum (D := D) (g := fun i => cS (f i)) (List.range len) (fun i hi => (hf i (by simpa using hi)).1.1)
      have e : cL ((List.range len).map f) = ((List.range len).map (fun i => cS (f i))).sum := by unfold cL; rw [List.map_map]; rfl
      rw [e]
      simp only [Rows.uptoBulk]
      omega
set_option maxRecDepth 100000 in
/-- A selector that came in. -/
theorem sel_openc {H : Type} {enc : TypeId × Value → H} {W : World} {base : Nat} {v : Value} {d : DataW H} {ps : List MemPlace} (hv : Value.okWide Tryz.prog W .any base 24 v)
    (h : DataW.Trod enc Tryz.prog W 0 (fun _ => true) true 24 v d ps) (hlt : ∀ x ∈ ps, x.block < W.heap.size) :
    ∃ (A : Option Addr) (cap : Nat) (x : List Mr), v = .slice A x.length cap ∧ x.length ≤ cap ∧ cap ≤ M63 ∧ XR W A x ∧ SelFit x ∧ cX x ≤ Rows.uptoBulk d := by
  obtain ⟨a0, len0, cap0, rfl⟩ := okWide_slice Tryz.underlying24 hv
  obtain ⟨fuel, hf⟩ := h
  rcases Deep.open_slice Tryz.underlying24 hf with ⟨hcs, hx⟩ | ⟨a, len, cap, m, fu, D, Pl, hcs, hb, hl, hm, hmm, hx, hel⟩
  · simp [Value.cells] at hcs
    obtain ⟨rfl, rfl, rfl⟩ := hcs
    exact ⟨none, 0, [], rfl, by simp, by simp, fun i m hm => by simp at hm, ⟨by simp, by simp⟩, by simp [cX]⟩
  · simp [Value.cells] at hcs
    obtain ⟨rfl, rfl, rfl⟩ := hcs
    simp only [Prod.mk.injEq] at hx
    obtain ⟨rfl, rfl⟩ := hx
    simp only [if_true] at hmm
    subst hmm
    rw [cells_Ss] at hel hlt
    by_cases h0 : len0 = 0
    · subst h0
      exact ⟨some a, m, [], rfl, by simp, hm, fun i m hm => by simp at hm, ⟨by simp, by simp⟩, by simp [cX]⟩
    obtain ⟨cs0, z1, -⟩ := hel 0 (by omega)
    have hspot := spot_of z1 (by omega)
    obtain ⟨b, off, spot⟩ := a
    have hs : spot = none := by simpa [Addr.add] using hspot
    subst hs
    have hbl : b < W.heap.size := hlt (.cell b off) (List.mem_append.2 (.inl (MemPlace.mem_row.2 ⟨0, by omega, by simp⟩)))
    have each : ∀ i, i < len0 → ∃ z : Mr, (cM z ≤ Rows.uptoBulk (D i) ∧ RowFit z.2 ∧ z.2.length ≤ z.1.2 ∧ z.1.2 ≤ M63) ∧ W.cell? ⟨b, off + i, none⟩ = some (r1 z) ∧ MR W z.1.1 z.2 := fun i hi => by
      obtain ⟨cs', h1, h2⟩ := hel i (by omega)
      have hsub : ∀ y ∈ Pl i, y.block < W.heap.size := fun y hy => hlt y (List.mem_append.2 (.inr (List.mem_flatMap.2 ⟨i, List.mem_range.2 (by omega), hy⟩)))
      obtain ⟨_, hlen, hcell⟩ := World.cells?_some h1
      match cs', hlen with
      | [y0], _ =>
        obtain ⟨A, cap, l, rfl, q1, q2, q3, q4, q5⟩ := steps_cellc h2 hsub
        have g0 := hcell 0 (by omega)
        simp only [add_plainS, Nat.add_zero, Nat.mul_one] at g0
        exact ⟨((A, cap), l), ⟨q5, q4, q1, q2⟩, g0, q3⟩
    obtain ⟨f, hf⟩ := Deep.choose_lt each
    refine ⟨some ⟨b, off, none⟩, m, (List.range len0).map f, by simp, by simpa using hl, hm, fun i z hz => ?_, ⟨by rw [List.length_map, List.length_range]; exact Nat.le_trans hl hm, fun s hs => ?_⟩, ?_⟩
    · obtain ⟨hi, e⟩ := List.getElem?_eq_some_iff.1 hz
      have hi' : i < len0 := by simpa using hi
      have e' : f i = z := by simpa using e
      rw [← e']
      exact ⟨b, off, rfl, hbl, (hf i hi').2⟩
    · obtain ⟨i, hi, rfl⟩ := List.mem_map.1 hs
      exact (hf i (by simpa using hi)).1.2
    · have := bulk_sum (D := D) (g := fun i => cM (f i)) (List.range len0) (fun i hi => (hf i (by simpa using hi)).1.1)
      have e : cX ((List.range len0).map f) = ((List.range len0).map (fun i => cM (f i))).sum := by unfold cX; rw [List.map_map]; rfl
      rw [e]
      simp only [Rows.uptoBulk]
      omega
end Go.Proofs.YtaacikjoafobfaaGreatDoor.Fi
namespace Go.Proofs.YtaacikjoafobfaaGreatDoor.Fi
open Go.ChangeShapes Go.WideShapes Go.ChangeAt Go.RowKit
open Sx (Tr Ms Mr TR MR XR tV r1 ls te stp rws cx cl cx_iff)
set_option linter.unusedVariables false
set_option linter.unusedSimpArgs false

theorem worder_none (A : Option Addr) (F : List Mn) (c : Nat) (t : Int) (w : World) (hF : FR w A F) (hm : mayB F = true) (ht : ¬ (0 ≤ t ∧ t < F.length)) :
    Calls Tryz.prog 27 #[.slice A F.length c, .int .i64 t] w fun e w' => e = .returned (.tuple #[.slice none 0 0, .int .i64 70]) ∧ Below w.heap.size w w' := by
  have HN := Lib.hid (wnode_any A F c t w hF hm)
  rw [show isB F t = false by rw [isB, decide_eq_false_iff_not]; exact ht] at HN
  generalize F.length = n at *
  clear hF hm ht
  go_enter Tryz.func27, Tryz.ntmps27
  go_wp2_with fail
  refine HN.out.mono ?_
  rintro e w1 ⟨rfl, hb⟩
  have HB := Lib.hid hb
  clear hb
  go_wp2
  go_ret2
  exact ⟨rfl, HB.out⟩
theorem all_none (A : Option Addr) (F : List Mn) (c : Nat) (t : Int) (B : Option Addr) (nx d : Nat) (w : World) (hF : FR w A F) (hm : mayB F = true) (ht : ¬ (0 ≤ t ∧ t < F.length)) :
    Calls Tryz.prog 16 #[.slice A F.length c, .int .i64 t, .slice B nx d] w fun e w' => e = .returned (.slice none 0 0) ∧ Below w.heap.size w w' := by
  obtain ⟨W, hW⟩ : ∃ W, W = lay2b w A F.length c B nx d := ⟨_, rfl⟩
  have HWb : Hid (Below w.heap.size w W) := Lib.hid (by rw [hW]; exact lay2b_below ..)
  have HO := Lib.hid (worder_none A F c t W (hF.below HWb.out) hm ht)
  have HK : Hid (W.heap[w.heap.size]? = some (.cells #[.slice A F.length c] 29 (0, 0))) := Lib.hid (by rw [hW]; exact (Below.heap_alloc _ _ _ (by simp)).trans (heap_alloc_new w _))
  unfold lay2b at hW
  generalize F.length = n at *
  clear hF hm ht
  have x0 := block1 HK.out
  go_enter Tryz.func16, Tryz.ntmps16
  go_upto_region 1 with fail
  rw [← hW]
  clear hW
  go_wp2_with fail
  refine HO.out.mono ?_
  rintro e w1 ⟨rfl, hb⟩
  have HB := Lib.hid (HWb.out.trans (hb.mono HWb.out.size))
  clear hb x0
  go_wp2
  go_ret
  exact ⟨rfl, HB.out⟩
theorem first_none (A : Option Addr) (F : List Mn) (c : Nat) (t : Int) (B : Option Addr) (nx d : Nat) (w : World) (hF : FR w A F) (hm : mayB F = true) (ht : ¬ (0 ≤ t ∧ t < F.length)) :
    Calls Tryz.prog 17 #[.slice A F.length c, .int .i64 t, .slice B nx d] w fun e w' => e = .returned (.tuple #[.int .i64 0, .bool false]) ∧ Below w.heap.size w w' := by
  obtain ⟨W, hW⟩ : ∃ W, W = lay2b w A F.length c B nx d := ⟨_, rfl⟩
  have HWb : Hid (Below w.heap.size w W) := Lib.hid (by rw [hW]; exact lay2b_below ..)
  have HO := Lib.hid (worder_none A F c t W (hF.below HWb.out) hm ht)
  have HK : Hid (W.heap[w.heap.size]? = some (.cells #[.slice A F.length c] 29 (0, 0))) := Lib.hid (by rw [hW]; exact (Below.heap_alloc _ _ _ (by simp)).trans (heap_alloc_new w _))
  unfold lay2b at hW
  generalize F.length = n at *
  clear hF hm ht
  have x0 := block1 HK.out
  go_enter Tryz.func17, Tryz.ntmps17
  go_upto_region 1 with fail
  rw [← hW]
  clear hW
  go_wp2_with fail
  refine HO.out.mono ?_
  rintro e w1 ⟨rfl, hb⟩
  have HB := Lib.hid (HWb.out.trans (hb.mono HWb.out.size))
  clear hb x0
  go_wp2
  go_ret2
  exact ⟨rfl, HB.out⟩
theorem is_none (A : Option Addr) (F : List Mn) (c : Nat) (t : Int) (B : Option Addr) (nx d : Nat) (w : World) (hF : FR w A F) (hm : mayB F = true) (ht : ¬ (0 ≤ t ∧ t < F.length)) :
    Calls Tryz.prog 22 #[.slice A F.length c, .int .i64 t, .slice B nx d] w (GivesV (.bool false) w) := by
  have HB := Lib.hid (below_any A F c t t w hF (may_sz1 hm))
  have e : belowB F t t = false := by
    unfold belowB
    rw [show isB F t = false by rw [isB, decide_eq_false_iff_not]; exact ht]
    simp
  rw [e] at HB
  generalize F.length = n at *
  clear hF hm ht e
  go_enter Tryz.func22, Tryz.ntmps22
  go_wp2_with fail
  refine HB.out.mono ?_
  rintro e w1 ⟨rfl, hb⟩
  have HB1 := Lib.hid hb
  clear hb
  go_wp2
  go_ret
  exact ⟨rfl, HB1.out⟩
/-! ### a selector's copy -/
theorem small_cx {x y : List Mr} (h : cx y = cx x) (hs : smallS x) : smallS y := by
  have key : ∀ z : List Mr, smallS z ↔ ∀ l ∈ cx z, ∀ p ∈ l, ∀ t ∈ p.1, small1 t := fun z => by
    unfold smallS cx cl
    simp only [List.mem_map, forall_exists_index, and_imp, forall_apply_eq_imp_iff₂]
  rw [key] at hs ⊢
  rw [h]
  exact hs
/-- A copy that can be read, and where its i-th row's n-th step has its tests. -/
theorem rows_copy {w : World} {base : Nat} {v : Value} {x y : List Mr} (h : Sx.SrR w base v y) (e : cx y = cx x) (hs : smallS x) :
    ∃ p cap, v = .slice p x.length cap ∧ y.length = x.length ∧ Xs w p y := by
  obtain ⟨p, cap, rfl, hX⟩ := Sx.xr_ofR h
  have hl : y.length = x.length := by
    have := congrArg List.length e
    simpa [cx] using this
  refine ⟨p, cap, by rw [hl], hl, hX, ?_, fun m hm => ?_⟩
  · have := own_caps h.row
    omega
  · have hr := h.sub m hm
    have hc := own_caps hr.row
    refine ⟨fun s hs' => ⟨?_, fun t ht => Nat.le_trans ((small_cx e hs) m hm s hs' t ht).1 (by decide)⟩, hc.1, hc.2⟩
    have := own_caps (hr.sub s hs')
    omega
theorem cx_row {x y : List Mr} (e : cx y = cx x) {i : Nat} (hi : i < x.length) (hy : i < y.length) : cl y[i].2 = cl x[i].2 := by
  have := congrArg (fun l => l[i]?) e
  simpa [cx, List.getElem?_map, List.getElem?_eq_getElem hi, List.getElem?_eq_getElem hy] using this
theorem cl_step {l m : List Ms} (e : cl m = cl l) {n : Nat} (hl : n < l.length) (hm : n < m.length) : m[n].2 = l[n].2 := by
  have := congrArg (fun l => l[n]?) e
  simpa [cl, List.getElem?_map, List.getElem?_eq_getElem hl, List.getElem?_eq_getElem hm] using this
/-- Where a step of a selector that can be read has its tests. -/
def StepAt (V : World) (p : Option Addr) (i nl n nt : Nat) (T : List Tr) : Prop :=
  ∃ (gy oy gz oz cz : Nat) (tA : Option Addr) (tc : Nat), p = some ⟨gy, oy, none⟩ ∧ gy < V.heap.size ∧ gz < V.heap.size ∧ V.cell? ⟨gy, oy + i, none⟩ = some (.slice (some ⟨gz, oz, none⟩) nl cz) ∧ V.cell? ⟨gz, oz + n * 2, none⟩ = some (.slice tA nt tc) ∧ TR V tA T
theorem step_at {V : World} {p : Option Addr} {x y : List Mr} (hX : XR V p y) (e : cx y = cx x) {i n : Nat} (hi : i < x.length) (hn : n < x[i].2.length) : StepAt V p i x[i].2.length n x[i].2[n].2.1.length x[i].2[n].2.1 := by
  have hl : y.length = x.length := by
    have := congrArg List.length e
    simpa [cx] using this
  have hy : i < y.length := by omega
  have e1 := cx_row e hi hy
  have hl2 : y[i].2.length = x[i].2.length := by
    have := congrArg List.length e1
    simpa [cl] using this
  have hn2 : n < y[i].2.length := by omega
  have e2 := cl_step e1 hn hn2
  obtain ⟨gy, oy, rfl, hgy, c0, hM⟩ := hX i y[i] (List.getElem?_eq_getElem hy)
  obtain ⟨gz, oz, hz, hgz, d0, -, hT⟩ := hM n y[i].2[n] (List.getElem?_eq_getElem hn2)
  unfold r1 at c0
  rw [hz, hl2] at c0
  rw [e2] at d0 hT
  exact ⟨gy, oy, gz, oz, _, _, _, rfl, hgy, hgz, c0, d0, hT⟩
/-- law10's rows, of a selector that is not too long. -/
theorem rows10 (B : Option Addr) (x : List Mr) (d : Nat) (w : World) (hX : XR w B x) (hs : smallS x) (hc : cX x ≤ 4000) :
    Calls Tryz.prog 19 #[.slice B x.length d] w fun e w' => ∃ (y : List Mr) (p : Option Addr) (cap : Nat), e = .returned (.slice p x.length cap) ∧ y.length = x.length ∧ cx y = cx x ∧ Xs w' p y ∧ Below w.heap.size w w' :=
  (Sx.rows_any B x d w hX (by have := small_wx hs; omega)).mono fun e w' ⟨y, v, he, hS, hcx, hb⟩ => by
    obtain ⟨p, cap, rfl, hl, hXs⟩ := rows_copy hS hcx hs
    exact ⟨y, p, cap, he, hl, hcx, hXs, hb⟩
end Go.Proofs.YtaacikjoafobfaaGreatDoor.Fi
namespace Go.Proofs.YtaacikjoafobfaaGreatDoor.Fi
open Go.ChangeShapes Go.WideShapes Go.ChangeAt Go.RowKit
open Sx (Tr Ms Mr TR MR XR tV r1 ls te stp rws cx cl cx_iff)
set_option linter.unusedVariables false
set_option linter.unusedSimpArgs false

theorem xs_fit {w : World} {B : Option Addr} {x : List Mr} (hX : XR w B x) (hf : Sx.So.SelFit x) (hs : smallS x) : Xs w B x := by
  refine ⟨hX, hf.1, fun m hm => ?_⟩
  obtain ⟨f1, f2, f3⟩ := hf.2 m hm
  exact ⟨fun s hs' => ⟨(f1.2 s hs').1, fun t ht => Nat.le_trans (hs m hm s hs' t ht).1 (by decide)⟩, f2, f3⟩
/-- A list of numbers is told. -/
def GivesL (L : List Int) (w : World) (e : Ending) (w' : World) : Prop := ∃ p cap, e = .returned (.slice p L.length cap) ∧ IR w' p L ∧ Below w.heap.size w w'
/-- What is told of a number, by find and by the document. -/
structure TopOf (w : World) (A : Option Addr) (n c : Nat) (A' : Option Addr) (c' : Nat) (B : Option Addr) (x : List Mr) (d : Nat) (t : Int) (L : List Int) (k : Int) (b b2 : Bool) : Prop where
  len : L.length ≤ 1000
  all : ∀ V, Below w.heap.size w V → Calls Tryz.prog 16 #[.slice A n c, .int .i64 t, .slice B x.length d] V (GivesL L V)
  first : ∀ V, Below w.heap.size w V → Calls Tryz.prog 17 #[.slice A n c, .int .i64 t, .slice B x.length d] V (GivesV (.tuple #[.int .i64 k, .bool b]) V)
  is : ∀ V, Below w.heap.size w V → Calls Tryz.prog 22 #[.slice A n c, .int .i64 t, .slice B x.length d] V (GivesV (.bool b2) V)
  rall : ∀ V p y cap, Below w.heap.size w V → Xs V p y → cx y = cx x → Calls Tryz.prog 21 #[.slice A' n c', .int .i64 t, .slice p x.length cap] V (GivesL L V)
  rfirst : ∀ V p y cap, Below w.heap.size w V → Xs V p y → cx y = cx x → Calls Tryz.prog 18 #[.slice A' n c', .int .i64 t, .slice p x.length cap] V (GivesV (.tuple #[.int .i64 k, .bool b]) V)
  ris : ∀ V p y cap, Below w.heap.size w V → Xs V p y → cx y = cx x → Calls Tryz.prog 23 #[.slice A' n c', .int .i64 t, .slice p x.length cap] V (GivesV (.bool b2) V)
theorem cx_len {x y : List Mr} (e : cx y = cx x) : y.length = x.length := by
  have := congrArg List.length e
  simpa [cx] using this
theorem givesL_own {l : List Nat} {w w' : World} {e : Ending} (h : ∃ v, e = .returned v ∧ w'.ownsRow w.heap.size 3 1 v l.length (ivN l) ∧ Below w.heap.size w w') : GivesL (l.map Int.ofNat) w e w' := by
  obtain ⟨v, rfl, hv, hb⟩ := h
  obtain ⟨p, cap, rfl, hI⟩ := own_irN hv
  exact ⟨p, cap, by rw [List.length_map], hI, hb⟩
theorem like_may {F G : List Mn} (h : G.map core = F.map core) (hm : mayB F = true) : mayB G = true := by rw [mayB_like h]; exact hm
theorem top_of {w : World} {A A' : Option Addr} {G G' : List Mn} (c c' : Nat) {B : Option Addr} {x : List Mr} (d : Nat) (t : Int) (hF : FR w A G) (hm : mayB G = true) (hF' : FR w A' G') (hl : G'.map core = G.map core) (hX : Xs w B x) :
    ∃ L k b b2, TopOf w A G.length c A' c' B x d t L k b b2 := by
  have hm' := like_may hl hm
  have hn : G'.length = G.length := len_like hl
  by_cases ht : 0 ≤ t ∧ t < G.length
  · obtain ⟨i, rfl⟩ := Int.eq_ofNat_of_zero_le ht.1
    have hi : i < G.length := by omega
    have hi' : i < G'.length := by omega
    obtain ⟨k, b, hkb⟩ : ∃ (k : Int) (b : Bool), firstP G x i = .tuple #[.int .i64 k, .bool b] := by
      unfold firstP
      cases (ord G i).find? (isP G x) with
      | none => exact ⟨_, _, rfl⟩
      | some j => exact ⟨_, _, rfl⟩
    have e1 : ∀ y : List Mr, cx y = cx x → isP G' y = isP G x := fun y hy => by rw [isP_like hl]; exact funext (isP_cx hy)
    refine ⟨((ord G i).filter (isP G x)).map Int.ofNat, k, b, isP G x i, ?_, ?_, ?_, ?_, ?_, ?_, ?_⟩
    · rw [List.length_map]
      have h1 := List.length_filter_le (isP G x) (ord G i)
      have h2 := ord_len hm hi
      have h3 := (may_sz hm).1
      omega
    · exact fun V hV => (all_any A G c i B x d V (hF.below hV) hm hi (hX.below hV)).mono fun e w' h => givesL_own h
    · intro V hV
      rw [← hkb]
      exact first_any A G c i B x d V (hF.below hV) hm hi (hX.below hV)
    · exact fun V hV => is_any A G c i B x d V (hF.below hV) hm hi (hX.below hV)
    · intro V p y cap hV hY hy
      have := rall_node A' G' c' i p y cap V (hF'.below hV) hm' hi' hY
      rw [e1 y hy, ord_like hl, cx_len hy, hn] at this
      exact this.mono fun e w' h => givesL_own h
    · intro V p y cap hV hY hy
      have := rfirst_node A' G' c' i p y cap V (hF'.below hV) hm' hi' hY
      rw [firstP_like hl, firstP_cx hy, hkb, cx_len hy, hn] at this
      exact this
    · intro V p y cap hV hY hy
      have := ris_any A' G' c' i p y cap V (hF'.below hV) hm' hi' hY
      rw [e1 y hy, cx_len hy, hn] at this
      exact this
  · have ht' : ¬ (0 ≤ t ∧ t < (G'.length : Int)) := by rw [hn]; exact ht
    refine ⟨[], 0, false, false, by simp, ?_, ?_, ?_, ?_, ?_, ?_⟩
    · exact fun V hV => (all_none A G c t B x.length d V (hF.below hV) hm ht).mono fun e w' h => ⟨none, 0, h.1, fun j hj => absurd hj (by simp), h.2⟩
    · exact fun V hV => first_none A G c t B x.length d V (hF.below hV) hm ht
    · exact fun V hV => is_none A G c t B x.length d V (hF.below hV) hm ht
    · intro V p y cap hV hY hy
      rw [← hn]
      exact (rall_none A' G'.length c' t p x.length cap V ht').mono fun e w' h => by
        obtain ⟨⟨q, cq, he⟩, hb⟩ := h
        exact ⟨q, cq, he, fun j hj => absurd hj (by simp), hb⟩
    · intro V p y cap hV hY hy
      rw [← hn]
      exact rfirst_none A' G'.length c' t p x.length cap V ht'
    · intro V p y cap hV hY hy
      rw [← hn]
      exact ris_none A' G'.length c' t p x.length cap V ht'
end Go.Proofs.YtaacikjoafobfaaGreatDoor.Fi
