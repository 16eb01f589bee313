/-
  Mathematics of snap's laws: errors, kids, ids.
-/
import Derived.Test.YtcndplnnighjkaaGreatDoorPG50
import Derived.Test.YtcndplnnighjkaaGreatDoorPG44
import Derived.Test.YtcndplnnighjkaaGreatDoorPG16
import Derived.Test.YtcndplnnighjkaaGreatDoorPG25
import Derived.Test.YtcndplnnighjkaaGreatDoorPG28
import Derived.Test.YtcndplnnighjkaaGreatDoorPG51
import Derived.Test.YtcndplnnighjkaaGreatDoorPG22
import Derived.Test.YtcndplnnighjkaaGreatDoorPG18
import Derived.Test.YtcndplnnighjkaaGreatDoorPG34
import Derived.Test.YtcndplnnighjkaaGreatDoorPG33
namespace Go.Proofs.YtcndplnnighjkaaGreatDoor.Sn
open Go.ChangeShapes Go.WideShapes Go.ChangeAt Go.RowKit
open Sx (Tr Ms Mr TR MR XR tV r1 ls te stp rws cx cl cx_iff)
open Fi (isP isP_cx isP_like)
set_option linter.unusedVariables false
set_option linter.unusedSimpArgs false
def GoodA (a : An) : Prop := a.e ≠ 1 /\ (a.e = 0 \/ (a.s = ⟨#[]⟩ /\ a.l = [] /\ a.e ≠ 90))
theorem good_one {p : Int × Int} (h1 : p.2 ≠ 1) (h2 : p.2 ≠ 90) : GoodA (oneA p) := by
 unfold oneA GoodA
 split
 · exact ⟨by simp [numsA], Or.inl rfl⟩
 · exact ⟨h1, Or.inr ⟨rfl, rfl, h2⟩⟩
theorem good_txt {p : ByteArray × Int} (h1 : p.2 ≠ 1) (h2 : p.2 ≠ 90) : GoodA (txtA p) := by
 unfold txtA GoodA
 split
 · exact ⟨by simp [textA], Or.inl rfl⟩
 · exact ⟨h1, Or.inr ⟨rfl, rfl, h2⟩⟩
theorem good_nums (l : List Int) : GoodA (numsA l) := ⟨by simp [numsA], Or.inl rfl⟩
theorem good_text (s : ByteArray) : GoodA (textA s) := ⟨by simp [textA], Or.inl rfl⟩
theorem good_err {e : Int} (h1 : e ≠ 1) (h2 : e ≠ 90) : GoodA (errA e) := ⟨h1, Or.inr ⟨rfl, rfl, h2⟩⟩
theorem up_err (G : List Mn) (x : Int) : (upP G x).2 = 0 \/ (upP G x).2 = 70 \/ (upP G x).2 = 3 := by
 unfold upP
 split
 · exact Or.inr (Or.inl rfl)
 · split
   · exact Or.inr (Or.inr rfl)
   · exact Or.inl rfl
theorem near_err (l : List Int) (i : Nat) (b : Int) : (nearP l i b).2 = 0 \/ (nearP l i b).2 = 3 := by
 unfold nearP
 split
 · exact Or.inr rfl
 · exact Or.inl rfl
theorem bes_err (G : List Mn) (x b : Int) : (besP G x b).2 = 0 \/ (besP G x b).2 = 70 \/ (besP G x b).2 = 3 := by
 unfold besP
 split
 · exact up_err G x
 · rcases near_err (kidsOf G (upP G x).1.toNat) ((kidsOf G (upP G x).1.toNat).findIdx fun y => decide (y = x)) b with h | h
   · exact Or.inl h
   · exact Or.inr (Or.inr h)
theorem by_err (G : List Mn) (t : ByteArray) : (byP G t).2 = 0 \/ (byP G t).2 = 3 := by
 unfold byP
 split
 · exact Or.inr rfl
 · split
   · exact Or.inl rfl
   · exact Or.inr rfl
theorem attr_err (G : List Mn) (i : Nat) (t : ByteArray) : (attrP G i t).2 = 0 \/ (attrP G i t).2 = 75 \/ (attrP G i t).2 = 71 \/ (attrP G i t).2 = 70 := by
 unfold attrP
 cases G[i]? with
 | none => exact Or.inr (Or.inr (Or.inr rfl))
 | some m =>
   show (attrR m t).2 = 0 \/ (attrR m t).2 = 75 \/ (attrR m t).2 = 71 \/ (attrR m t).2 = 70
   unfold attrR
   split
   · split
     · exact Or.inl rfl
     · exact Or.inr (Or.inl rfl)
   · exact Or.inr (Or.inr (Or.inl rfl))
theorem ans_err (G : List Mn) (k x b : Int) (t : ByteArray) : ((ansP G k x b t).e = 1 ↔ ¬ (1 <= k /\ k <= 9)) /\
 ((ansP G k x b t).e = 0 \/ ((ansP G k x b t).s = ⟨#[]⟩ /\ (((ansP G k x b t).l = [] /\ (ansP G k x b t).e ≠ 90) \/ ((ansP G k x b t).l.length = 1 /\ (ansP G k x b t).e = 90 /\ k = 8)))) := by
 have good : ∀ {a : An}, (1 <= k /\ k <= 9) -> GoodA a -> (a.e = 1 ↔ ¬ (1 <= k /\ k <= 9)) /\ (a.e = 0 \/ (a.s = ⟨#[]⟩ /\ ((a.l = [] /\ a.e ≠ 90) \/ (a.l.length = 1 /\ a.e = 90 /\ k = 8)))) := fun {a} hk h => by
  obtain ⟨h1, h2⟩ := h
  refine ⟨⟨fun h => absurd h h1, fun h => absurd hk h⟩, ?_⟩
  rcases h2 with h2 | ⟨h2, h3, h4⟩
  · exact Or.inl h2
  · exact Or.inr ⟨h2, Or.inl ⟨h3, h4⟩⟩
 unfold ansP
 by_cases k1 : k = 1
 · rw [if_pos k1]
   have := up_err G x
   exact good (by omega) (good_one (by omega) (by omega))
 rw [if_neg k1]
 by_cases k2 : k = 2
 · rw [if_pos k2]
   refine good (by omega) ?_
   split
   · exact good_nums _
   · exact good_err (by decide) (by decide)
 rw [if_neg k2]
 by_cases k3 : k = 3
 · rw [if_pos k3]
   have := bes_err G x b
   exact good (by omega) (good_one (by omega) (by omega))
 rw [if_neg k3]
 by_cases k4 : k = 4
 · rw [if_pos k4]
   refine good (by omega) ?_
   split
   · exact good_nums _
   · exact good_err (by decide) (by decide)
 rw [if_neg k4]
 by_cases k5 : k = 5
 · rw [if_pos k5]
   refine good (by omega) ?_
   split
   · exact good_text _
   · exact good_err (by decide) (by decide)
 rw [if_neg k5]
 by_cases k6 : k = 6
 · rw [if_pos k6]
   refine good (by omega) ?_
   split
   · have := attr_err G x.toNat t
     exact good_txt (by omega) (by omega)
   · exact good_err (by decide) (by decide)
 rw [if_neg k6]
 by_cases k7 : k = 7
 · rw [if_pos k7]
   have := by_err G t
   exact good (by omega) (good_one (by omega) (by omega))
 rw [if_neg k7]
 by_cases k8 : k = 8
 · rw [if_pos k8]
   cases Sl.parse (ls t) with
   | error i =>
     refine ⟨⟨fun h => absurd h (by simp [selA]), fun h => absurd (show 1 <= k /\ k <= 9 by omega) h⟩, Or.inr ⟨rfl, Or.inr ⟨rfl, rfl, k8⟩⟩⟩
   | ok X =>
     refine good (by omega) ?_
     simp only [selA]
     split
     · exact good_nums _
     · exact good_err (by decide) (by decide)
 rw [if_neg k8]
 by_cases k9 : k = 9
 · rw [if_pos k9]
   refine good (by omega) ?_
   split
   · exact good_text _
   · exact good_err (by decide) (by decide)
 rw [if_neg k9]
 exact ⟨⟨fun _ => by omega, fun _ => rfl⟩, Or.inr ⟨rfl, Or.inl ⟨rfl, by simp [errA]⟩⟩⟩
theorem kid_up {G : List Mn} (h : mayB G = true) {i : Nat} (hi : i < G.length) {k : Int} (hk : k ∈ kidsOf G i) : upP G k = ((i : Int), 0) := by
 obtain ⟨j, rfl, hj, hp⟩ := kid_node h hi hk
 have hB : isB G (j : Int) = true := by rw [isB, decide_eq_true_eq]; omega
 unfold upP
 rw [hB, Int.toNat_natCast, hp, if_neg (by simp), if_neg (by omega)]
theorem kid_bes {G : List Mn} (h : mayB G = true) {i : Nat} (hi : i < G.length) {j : Nat} (hj : j < (kidsOf G i).length) : besP G ((kidsOf G i).getD 0 0) j = ((kidsOf G i).getD j 0, 0) := by
 have h0 : 0 < (kidsOf G i).length := by omega
 have hm : (kidsOf G i).getD 0 0 ∈ kidsOf G i := by
  rw [List.getD_eq_getElem?_getD, List.getElem?_eq_getElem h0]
  exact List.getElem_mem h0
 unfold besP
 rw [kid_up h hi hm]
 simp only [ne_eq, not_true_eq_false, if_false, Int.toNat_natCast]
 have hf : (kidsOf G i).findIdx (fun y => decide (y = (kidsOf G i).getD 0 0)) = 0 := by
  cases hK : kidsOf G i with
  | nil => rfl
  | cons a l => simp [List.findIdx_cons]
 rw [hf]
 unfold nearP
 rw [if_neg (by simp only [Int.natCast_zero]; omega)]
 simp
theorem ans_kids (G : List Mn) {i : Nat} (hi : i < G.length) : ansP G 2 i 0 ⟨#[]⟩ = numsA (kidsOf G i) := by
 have hB : isB G (i : Int) = true := by rw [isB, decide_eq_true_eq]; omega
 unfold ansP
 rw [if_neg (by decide), if_pos rfl, hB, if_pos rfl, Int.toNat_natCast]
theorem ans_up {G : List Mn} (h : mayB G = true) {i : Nat} (hi : i < G.length) {k : Int} (hk : k ∈ kidsOf G i) : ansP G 1 k 0 ⟨#[]⟩ = numsA [(i : Int)] := by
 unfold ansP
 rw [if_pos rfl, kid_up h hi hk]
 rfl
theorem ans_bes {G : List Mn} (h : mayB G = true) {i : Nat} (hi : i < G.length) {j : Nat} (hj : j < (kidsOf G i).length) : ansP G 3 ((kidsOf G i).getD 0 0) j ⟨#[]⟩ = numsA [(kidsOf G i).getD j 0] := by
 unfold ansP
 rw [if_neg (by decide), if_neg (by decide), if_pos rfl, kid_bes h hi hj]
 rfl
theorem ans_id {G : List Mn} (h : mayB G = true) {t : ByteArray} (hn : Sl.nameOk (ls t) = true) : ∃ L : List Int, ansP G 8 0 0 (⟨#[35]⟩ ++ t) = numsA L /\ ((L = [] /\ ansP G 7 0 0 t = errA 3) \/ ∃ k r, L = k :: r /\ ansP G 7 0 0 t = numsA [k]) /\ L.length <= 1000 := by
 have h0 : 0 < G.length := (mayB_parts h).1
 have hB : isB G 0 = true := by rw [isB, decide_eq_true_eq]; omega
 have hl : ls (⟨#[35]⟩ ++ t) = 35 :: ls t := by simp [ls, ByteArray.data_append]
 obtain ⟨-, p1, -⟩ := Sl.parse_name hn
 have hsz : ¬ t.size = 0 := by
  intro e
  have : (ls t).length = 0 := by rw [Sx.ls_len]; exact e
  rw [List.length_eq_zero_iff] at this
  rw [this] at hn
  cases hn
 have e8 : ansP G 8 0 0 (⟨#[35]⟩ ++ t) = selA G 0 (.ok [[⟨[⟨2, ls t, []⟩], false⟩]]) := by
  unfold ansP
  rw [if_neg (by decide), if_neg (by decide), if_neg (by decide), if_neg (by decide), if_neg (by decide), if_neg (by decide), if_neg (by decide), if_pos rfl, hl, p1]
 have e7 : ansP G 7 0 0 t = oneA (byP G t) := by
  unfold ansP
  rw [if_neg (by decide), if_neg (by decide), if_neg (by decide), if_neg (by decide), if_neg (by decide), if_neg (by decide), if_pos rfl]
 have ht : (⟨(ls t).toArray⟩ : ByteArray) = t := ByteArray.ext (by simp [ls])
 have hf : (ord G 0).filter (isP G (unr [[⟨[⟨2, ls t, []⟩], false⟩]])) = (ord G 0).filter (hasId G t) := List.filter_congr fun i hi => by
  have hil : i < G.length := ord_lt h h0 hi
  show isP G [((none, 0), [((none, 0), ([(2, (⟨(ls t).toArray⟩ : ByteArray), (⟨[].toArray⟩ : ByteArray))], false))])] i = hasId G t i
  rw [ht]
  exact Fi.isP_id h hil _ _ _ _ _
 have hs : selA G 0 (.ok [[⟨[⟨2, ls t, []⟩], false⟩]]) = numsA (((ord G 0).filter (hasId G t)).map Int.ofNat) := by
  simp only [selA]
  rw [hB, if_pos rfl]
  show numsA (((ord G 0).filter (isP G (unr [[⟨[⟨2, ls t, []⟩], false⟩]]))).map Int.ofNat) = _
  rw [hf]
 have hby : byP G t = match (ord G 0).find? (hasId G t) with | some j => (((j : Nat) : Int), 0) | none => (0, 3) := by
  unfold byP
  rw [if_neg hsz]
  rfl
 refine ⟨((ord G 0).filter (hasId G t)).map Int.ofNat, e8.trans hs, ?_, ?_⟩
 · rw [e7, hby]
   rw [<- List.head?_filter]
   cases (ord G 0).filter (hasId G t) with
   | nil => exact Or.inl ⟨rfl, rfl⟩
   | cons a l => exact Or.inr ⟨(a : Int), l.map Int.ofNat, rfl, rfl⟩
 · rw [List.length_map]
   have h1 := List.length_filter_le (hasId G t) (ord G 0)
   have h2 := ord_len h h0
   have h3 := (may_sz h).1
   omega
end Go.Proofs.YtcndplnnighjkaaGreatDoor.Sn
namespace Go.Proofs.YtcndplnnighjkaaGreatDoor.Sn
open Go.ChangeShapes Go.WideShapes Go.ChangeAt Go.RowKit
set_option linter.unusedVariables false
set_option linter.unusedSimpArgs false
set_option maxRecDepth 100000 in
set_option maxHeartbeats 4000000 in
theorem bounded13 (A : Option Addr) (l : List Ops.Po) (c : Nat) (w : World) (hL : Ops.OL w A l) (hn : l.length <= 9223372036854775807) :
 Calls Tryz.prog 6 #[.slice A l.length c] w fun e w' => e = .returned (.bool (bdO l)) /\ w' = w := by
 have HL := Lib.hid hL
 have HE : Hid (bdO l = (l.all opBd && decide (l.length <= 150))) := Lib.hid rfl
 generalize bdO l = R at *
 obtain ⟨n, hnn⟩ : ∃ n, l.length = n := ⟨_, rfl⟩
 have HNN := Lib.hid hnn
 rw [hnn] at hn HE ⊢
 clear hL hnn
 go_enter Tryz.func6, Tryz.ntmps6
 go_wp2
 go_loopw [3] (fun q wr => ∃ k : Nat, k <= n /\ q = .int .i64 k /\ Hid ((l.take k).all opBd = true) /\ w = wr) (fun q _ => n - (intOf q).toNat)
 case atStart => exact ⟨0, Nat.zero_le _, rfl, Lib.hid rfl, rfl⟩
 case round =>
  obtain ⟨k, hk, rfl, HT, rfl⟩ := hrel
  by_cases hlt : k < n
  · have k0 : (0 : Int) <= (k : Int) := by omega
    have k1 : (k : Int) < (n : Int) := by omega
    have hkl : k < l.length := by rw [HNN.out]; exact hlt
    obtain ⟨-, gl, off, rfl, hgl, a0, a1, a2, a3, a4, a5⟩ := HL.out k l[k] (List.getElem?_eq_getElem hkl)
    have HT2 : Hid (opBd l[k] = true -> (l.take (k + 1)).all opBd = true) := Lib.hid (fun h => by rw [all_more hkl HT.out, h])
    have HT3 : Hid (opBd l[k] = false -> l.all opBd = false) := Lib.hid (fun h => all_no7 (List.getElem_mem hkl) h)
    generalize l[k] = o at *
    obtain ⟨kd, id, dst, ps, nm0, tx⟩ := o
    simp only [] at a4 a5
    clear a0 a1 a2 a3 hkl
    by_cases h1 : nm0.size <= 300
    · by_cases h2 : tx.size <= 300
      · have HT4 := Lib.hid (HT2.out (by simp [opBd, h1, h2]))
        have b1 : decide ((300 : Int) < (nm0.size : Int)) = false := by simp; omega
        have b2 : decide ((300 : Int) < (tx.size : Int)) = false := by simp; omega
        go_wp2
        go_roundw
        case rel => exact ⟨k + 1, by omega, by go_num, HT4, by first | trivial | rfl⟩
        case measure => simp [intOf] <;> omega
      · have HR : Hid (R = false) := Lib.hid (by rw [HE.out, HT3.out (by simp [opBd, h1, h2])]; rfl)
        have b1 : decide ((300 : Int) < (nm0.size : Int)) = false := by simp; omega
        have b2 : decide ((300 : Int) < (tx.size : Int)) = true := by simp; omega
        go_wp2
        go_ret
        exact ⟨by rw [HR.out]; rfl, rfl⟩
    · have HR : Hid (R = false) := Lib.hid (by rw [HE.out, HT3.out (by simp [opBd, h1])]; rfl)
      have b1 : decide ((300 : Int) < (nm0.size : Int)) = true := by simp; omega
      go_wp2
      go_ret
      exact ⟨by rw [HR.out]; rfl, rfl⟩
  · obtain rfl : k = n := by omega
    have e : l.take k = l := List.take_of_length_le (by rw [HNN.out]; exact Nat.le_refl _)
    rw [e] at HT
    clear e
    go_wp2
    go_ret
    refine ⟨?_, rfl⟩
    rw [HE.out, HT.out, Bool.true_and]
    exact ret_bool (by rw [decide_eq_decide]; omega)
set_option maxRecDepth 100000 in
set_option maxHeartbeats 4000000 in
theorem grown13 (A : Option Addr) (l : List Ops.Po) (c : Nat) (w : World) (hL : Ops.OL w A l) (hn : l.length <= 1000000) (hK : Ops.KT w) :
 Calls Tryz.prog 8 #[.slice A l.length c] w (GrownRes l w) := by
 have HL := Lib.hid hL
 have HK := Lib.hid hK
 have HON := Lib.hid (fun (V : World) (k : Nat) (A' : Option Addr) (G : List Mn) (c' : Nat) (o' : Ops.Po) (hb : Below w.heap.size w V) (h : OneAt V l k A' G) (hf : Ops.Fit o') => one_at h c' o' hf (hK.below hb))
 have HM := Lib.hid (fun (V : World) (A' : Option Addr) (G : List Mn) (c' : Nat) (h : OneAt V l l.length A' G) => may_any A' G c' V h.fr (may_sz1 h.may))
 obtain ⟨n, hnn⟩ : ∃ n, l.length = n := ⟨_, rfl⟩
 have HNN := Lib.hid hnn
 rw [hnn] at hn HM ⊢
 clear hL hK hnn
 go_enter Tryz.func8, Tryz.ntmps8
 go_wp2_with fail
 refine (new_any w).mono ?_
 rintro e w1 ⟨A0, rfl, hA, hb⟩
 have HST := Lib.hid (OneAt.start l hA)
 have HB1 := Lib.hid hb
 clear hA hb
 go_wp2_with fail
 go_loopw [3, 4] (fun q2 q3 wr => ∃ (k : Nat) (Af : Option Addr) (G : List Mn) (cf : Nat), q2 = .slice Af G.length cf /\ q3 = .int .i64 k /\ k <= n /\ Hid (OneAt wr l k Af G) /\ Hid (Below w.heap.size w wr)) (fun _ q3 _ => n - (intOf q3).toNat)
 case atStart => exact ⟨0, A0, [newM], 1, rfl, rfl, Nat.zero_le _, HST, HB1⟩
 case round =>
  obtain ⟨k, Af, G, cf, rfl, rfl, hk, HG, HBr⟩ := hrel
  by_cases hlt : k < n
  · have k0 : (0 : Int) <= (k : Int) := by omega
    have k1 : (k : Int) < (n : Int) := by omega
    have hkl : k < l.length := by rw [HNN.out]; exact hlt
    obtain ⟨hfk, gl, off, rfl, hgl, a0, a1, a2, a3, a4, a5⟩ := (HL.out.below HBr.out) k l[k] (List.getElem?_eq_getElem hkl)
    have HOK := Lib.hid (HON.out wr k Af G cf l[k] HBr.out HG.out hfk)
    have HNX := Lib.hid (fun (w' : World) (base g cap : Nat) (G' : List Mn) (h : OF w' base (.slice (some ⟨g, 0, none⟩) G'.length cap) G') (hc : G'.map core = (oneP G l[k]).1.map core) => HG.out.step hkl h hc)
    generalize l[k] = p at *
    go_wp2_with fail
    refine HOK.out.mono ?_
    rintro e w3 ⟨g, cap, G', rfl, hO, hc, hb⟩
    have HG2 := Lib.hid (HNX.out w3 _ g cap G' hO hc)
    have HB3 := Lib.hid (HBr.out.trans (hb.mono HBr.out.size))
    clear hO hc hb a0 a1 a2 a3 a4 a5 hfk hkl
    generalize errP G p = er at *
    go_wp2
    go_roundw
    case rel => exact ⟨k + 1, _, G', cap, rfl, by go_num, by omega, HG2, HB3⟩
    case measure => simp [intOf] <;> omega
  · obtain rfl : k = n := by omega
    have HM2 := Lib.hid (HM.out wr Af G cf HG.out)
    have HGm := Lib.hid HG.out.may
    have HGl : Hid (G.map core = (onesP [newM] l).map core) := Lib.hid (by have := HG.out.like; rwa [List.take_of_length_le (by rw [HNN.out]; exact Nat.le_refl _)] at this)
    rw [HGm.out] at HM2
    have HGf := Lib.hid HG.out.fr
    clear HG HNN HL HON HM
    go_wp2_with fail
    refine HM2.out.mono ?_
    rintro e w4 ⟨rfl, hb⟩
    have HB4 := Lib.hid (HBr.out.trans (hb.mono HBr.out.size))
    have HF4 := Lib.hid (HGf.out.below hb)
    clear hb
    go_wp2
    go_ret
    exact ⟨Af, G, cf, rfl, HF4.out, HGm.out, HGl.out, HB4.out⟩
end Go.Proofs.YtcndplnnighjkaaGreatDoor.Sn
namespace Go.Proofs.YtcndplnnighjkaaGreatDoor.Sn
open Go.ChangeShapes Go.WideShapes Go.ChangeAt Go.RowKit
open Sx (ls)
set_option linter.unusedVariables false
set_option linter.unusedSimpArgs false
def AR1 (b : Nat) (w wx : World) (k B : Nat) (v : Value) (l : List Int) (s : ByteArray) (x : Int) : Prop :=
 Hid (wx.heap[k]? = some (.cells #[v, .string s, .int .i64 x] 31 (0, 0))) /\ Hid (NR wx B v l) /\ Hid (Below b w wx)
theorem anA {b B : Nat} {w wt : World} {v : Value} {l : List Int} (s : ByteArray) (x : Int) (h : NR wt B v l) (hb : Below b w wt) (hz : b <= wt.heap.size) : AR1 b w (wt.alloc (.cells #[v, .string s, .int .i64 x] 31)) wt.heap.size B v l s x :=
 ⟨Lib.hid (heap_alloc_new _ _), Lib.hid (own_below h ((Below.refl _ _).alloc (Nat.le_refl _) _)), Lib.hid (hb.alloc hz _)⟩
theorem anB {b B k : Nat} {w wt : World} {v : Value} {l : List Int} {x0 x1 x2 : Value} (s : ByteArray) (x : Int) (h : NR wt B v l) (hb : Below b w wt) (hk : wt.heap[k]? = some (.cells #[x0, x1, x2] 31 (0, 0))) (hw : b <= k) : AR1 b w (sA wt k v (.string s) (.int .i64 x)) k B v l s x := by
 obtain ⟨h1, h2⟩ := sA_all h hk hw hb v (.string s) (.int .i64 x)
 refine ⟨Lib.hid ?_, Lib.hid h1, Lib.hid h2⟩
 have := bset (bset (bset hk 0 v) 1 (.string s)) 2 (.int .i64 x)
 simpa using this
theorem AR1.below {b B k : Nat} {w wt V : World} {v : Value} {l : List Int} {s : ByteArray} {x : Int} (h : AR1 b w wt k B v l s x) (hb : Below wt.heap.size wt V) (hz : b <= wt.heap.size) : AR1 b w V k B v l s x := by
 obtain ⟨h1, h2, h3⟩ := h
 exact ⟨Lib.hid ((hb.block _ (lt_of_block h1.out)).trans h1.out), Lib.hid (own_below h2.out hb), Lib.hid (h3.out.trans (hb.mono hz))⟩
theorem alloc' {w V : World} (h : Below w.heap.size w V) (o : Obj) : Below w.heap.size w (V.alloc o) := h.alloc h.size o
def s13 : List Ops.Po := [⟨1, 0, 0, 0, ⟨#[97]⟩, ⟨#[]⟩⟩, ⟨4, 1, 0, 0, ⟨#[]⟩, ⟨#[]⟩⟩, ⟨2, 0, 0, 0, ⟨#[]⟩, ⟨#[120]⟩⟩, ⟨4, 2, 1, 0, ⟨#[]⟩, ⟨#[]⟩⟩]
def s13F : List Mn := [⟨0, ⟨#[]⟩, ⟨#[]⟩, [], -1, [1], none, 0, none, 0⟩, ⟨1, ⟨#[97]⟩, ⟨#[]⟩, [], 0, [2], none, 0, none, 0⟩, ⟨2, ⟨#[]⟩, ⟨#[120]⟩, [], 1, [], none, 0, none, 0⟩]
theorem s13_grown : (onesP [newM] s13).map core = s13F.map core := by kernel_rfl
theorem s13_print : ansP s13F 9 0 0 ⟨#[]⟩ = ⟨[], ⟨#[60, 97, 62, 120, 60, 47, 97, 62]⟩, 0⟩ := by kernel_rfl
theorem s13_sel : ansP s13F 8 0 0 ⟨#[97, 44, 44]⟩ = ⟨[2], ⟨#[]⟩, 90⟩ := by kernel_rfl
theorem s13_fit : ∀ o ∈ s13, Ops.Fit o := by
 intro o ho
 simp only [s13, List.mem_cons, List.not_mem_nil, or_false] at ho
 rcases ho with rfl | rfl | rfl | rfl <;> exact ⟨by unfold Ops.I64; simp only []; omega, by unfold Ops.I64; simp only []; omega, by unfold Ops.I64; simp only []; omega, by unfold Ops.I64; simp only []; omega⟩
set_option maxRecDepth 100000 in
set_option maxHeartbeats 8000000 in
theorem shown13 (mx : Int) (w : World) (hK : Ops.KT w) (hmx : w.cell? ⟨1, 0, none⟩ = some (.int .i64 mx)) : Calls Tryz.prog 7 #[] w (GivesV (.bool true) w) := by
 have hg0 : 1 < w.heap.size := World.block_lt_of_cell? _ _ hmx
 have HK := Lib.hid hK
 obtain ⟨X, hX⟩ : ∃ X, X = w.alloc (.cells (ocells s13).toArray 40) := ⟨_, rfl⟩
 have HXb : Hid (Below w.heap.size w X) := Lib.hid (by rw [hX]; exact (Below.refl _ _).alloc (Nat.le_refl _) _)
 have HG := Lib.hid (grown13 (some ⟨w.heap.size, 0, none⟩) s13 4 X (by rw [hX]; exact ol_new w s13_fit) (by decide) (HK.out.below HXb.out))
 have e5 : s13.length = 4 := rfl
 rw [e5] at HG
 clear e5 hK
 have HMX := Lib.hid (fun (V : World) (hb : Below w.heap.size w V) => (hb.cell (p := ⟨1, 0, none⟩) hg0).trans hmx)
 clear hmx hg0
 unfold ocells s13 opc at hX
 simp only [List.flatMap_cons, List.flatMap_nil, List.cons_append, List.nil_append, List.append_nil] at hX
 go_enter Tryz.func7, Tryz.ntmps7
 go_wp2_with fail
 rw [<- hX]
 clear hX
 refine HG.out.mono ?_
 rintro e w1 ⟨A, G, c, rfl, hF, hm, hl, hb⟩
 have hl2 := hl.trans s13_grown
 have HB1 := Lib.hid (HXb.out.trans (hb.mono HXb.out.size))
 have h3 : G.length = 3 := len_like hl2
 have HO1 : Hid (∀ V, Below w1.heap.size w1 V -> Calls Tryz.prog 9 #[.slice A 3 c, .agg #[.int .i64 9, .int .i64 0, .int .i64 0, .string ⟨#[]⟩]] V fun e w' => ∃ v, e = .returned (.agg #[v, .string ⟨#[60, 97, 62, 120, 60, 47, 97, 62]⟩, .int .i64 0]) /\ NR w' V.heap.size v [] /\ Below V.heap.size V w') := Lib.hid (fun V hb => by
  have := of_any A G c 9 0 0 mx ⟨#[]⟩ V (hF.below hb) hm (by unfold I64; omega) (by decide) (HMX.out V (HB1.out.trans (hb.mono HB1.out.size)))
  rw [ansP_like hl2, s13_print, h3] at this
  exact this)
 have HO2 : Hid (∀ V, Below w1.heap.size w1 V -> Calls Tryz.prog 9 #[.slice A 3 c, .agg #[.int .i64 8, .int .i64 0, .int .i64 0, .string ⟨#[97, 44, 44]⟩]] V fun e w' => ∃ v, e = .returned (.agg #[v, .string ⟨#[]⟩, .int .i64 90]) /\ NR w' V.heap.size v [2] /\ Below V.heap.size V w') := Lib.hid (fun V hb => by
  have := of_any A G c 8 0 0 mx ⟨#[97, 44, 44]⟩ V (hF.below hb) hm (by unfold I64; omega) (by decide) (HMX.out V (HB1.out.trans (hb.mono HB1.out.size)))
  rw [ansP_like hl2, s13_sel, h3] at this
  exact this)
 rw [h3]
 clear hF hm hl hl2 hb h3
 go_wp2_with fail
 refine (HO1.out w1 (Below.refl _ _)).mono ?_
 rintro e w2 ⟨v2, rfl, hi, hb⟩
 have HA2 := Lib.hid (anA (b := w1.heap.size) (w := w1) ⟨#[60, 97, 62, 120, 60, 47, 97, 62]⟩ 0 hi hb hb.size)
 obtain ⟨p2, c2, rfl, -⟩ := own_form2 hi
 obtain ⟨W2, hW2⟩ : ∃ W2, W2 = w2.alloc (.cells #[.slice p2 ([] : List Int).length c2, .string ⟨#[60, 97, 62, 120, 60, 47, 97, 62]⟩, .int .i64 0] 31) := ⟨_, rfl⟩
 rw [<- hW2] at HA2
 obtain ⟨k2, hk2⟩ : ∃ k, w2.heap.size = k := ⟨_, rfl⟩
 rw [hk2] at HA2
 have HK2 := Lib.hid hk2
 have HB2 := Lib.hid HA2.out.2.2.out
 clear hi hb hk2
 simp only [List.length_nil] at hW2 ⊢
 go_upto_region 3 with fail
 rw [<- hW2, HK2.out]
 clear hW2 HK2
 go_wp2_with fail
 refine (HO2.out W2 HB2.out).mono ?_
 rintro e w3 ⟨v3, rfl, hi, hb⟩
 have HA3 := Lib.hid (anA (b := w1.heap.size) (w := w1) ⟨#[]⟩ 90 hi (HB2.out.trans (hb.mono HB2.out.size)) (Nat.le_trans HB2.out.size hb.size))
 have HA23 := Lib.hid (HA2.out.below (hb.alloc hb.size (.cells #[v3, .string ⟨#[]⟩, .int .i64 90] 31)) HB2.out.size)
 obtain ⟨p3, c3, rfl, -⟩ := own_form2 hi
 obtain ⟨W3, hW3⟩ : ∃ W3, W3 = w3.alloc (.cells #[.slice p3 ([2] : List Int).length c3, .string ⟨#[]⟩, .int .i64 90] 31) := ⟨_, rfl⟩
 rw [<- hW3] at HA3 HA23
 obtain ⟨k3, hk3⟩ : ∃ k, w3.heap.size = k := ⟨_, rfl⟩
 rw [hk3] at HA3
 have HK3 := Lib.hid hk3
 clear hi hb hk3
 simp only [List.length_cons, List.length_nil] at hW3 ⊢
 go_upto_region 4 with fail
 rw [<- hW3, HK3.out]
 clear hW3 HK3
 obtain ⟨x0, x1, x2⟩ := b3 HA23.out.1.out
 obtain ⟨y0, y1, y2⟩ := b3 HA3.out.1.out
 obtain ⟨g3, o3, e3, hg3, q3⟩ := own_ir2 HA3.out.2.1.out 0 (by decide)
 subst e3
 have q3 : W3.cell? ⟨g3, o3, none⟩ = some (.int .i64 2) := q3
 have HZ1 := Lib.hid (own_ir2 HA23.out.2.1.out)
 have HZ2 := Lib.hid (own_ir2 HA3.out.2.1.out)
 have HBF := Lib.hid (HB1.out.trans (HA3.out.2.2.out.mono HB1.out.size))
 have HS1 : Hid (Calls Tryz.prog 11 #[.agg #[.slice p2 0 c2, .string ⟨#[60, 97, 62, 120, 60, 47, 97, 62]⟩, .int .i64 0], .agg #[.slice (some ⟨g3, o3, none⟩) 1 c3, .string ⟨#[]⟩, .int .i64 90]] W3 (GivesV (.bool false) W3)) := Lib.hid (by
  have := sameS_any ⟨[], ⟨#[60, 97, 62, 120, 60, 47, 97, 62]⟩, 0⟩ ⟨[2], ⟨#[]⟩, 90⟩ p2 (some ⟨g3, o3, none⟩) c2 c3 W3 HZ1.out HZ2.out (by decide) (by decide)
  exact this)
 have HS2 : Hid (∀ V, Below W3.heap.size W3 V -> Calls Tryz.prog 11 #[.agg #[.slice p2 0 c2, .string ⟨#[60, 97, 62, 120, 60, 47, 97, 62]⟩, .int .i64 0], .agg #[.slice p2 0 c2, .string ⟨#[60, 97, 62, 120, 60, 47, 97, 62]⟩, .int .i64 0]] V (GivesV (.bool true) V)) := Lib.hid (fun V hb => by
  have := sameS_any ⟨[], ⟨#[60, 97, 62, 120, 60, 47, 97, 62]⟩, 0⟩ ⟨[], ⟨#[60, 97, 62, 120, 60, 47, 97, 62]⟩, 0⟩ p2 p2 c2 c2 V (HZ1.out.below hb) (HZ1.out.below hb) (by decide) (by decide)
  rw [sameA_self] at this
  exact this)
 have HQ3 : Hid (∀ V, Below W3.heap.size W3 V -> V.heap[k2]? = some (.cells #[.slice p2 0 c2, .string ⟨#[60, 97, 62, 120, 60, 47, 97, 62]⟩, .int .i64 0] 31 (0, 0))) := Lib.hid (fun V hb => (hb.block _ (lt_of_block HA23.out.1.out)).trans HA23.out.1.out)
 clear HA2 HA23 HA3 HB2
 go_wp2_with fail
 refine HS1.out.mono ?_
 rintro e w5 ⟨rfl, hb⟩
 have HB5 := Lib.hid hb
 clear hb x0 x1 x2 y0 y1 y2 q3
 obtain ⟨x0, x1, x2⟩ := b3 (HQ3.out w5 HB5.out)
 go_wp2_with fail
 refine (HS2.out w5 HB5.out).mono ?_
 rintro e w6 ⟨rfl, hb⟩
 have HB6 := Lib.hid (HBF.out.trans ((HB5.out.trans (hb.mono HB5.out.size)).mono HBF.out.size))
 clear hb x0 x1 x2
 go_wp2
 go_ret
 exact ⟨rfl, HB6.out⟩
end Go.Proofs.YtcndplnnighjkaaGreatDoor.Sn
namespace Go.Proofs.YtcndplnnighjkaaGreatDoor.Sn
open Go.ChangeShapes Go.WideShapes Go.ChangeAt Go.RowKit
open Ops (struct_field spot_of add_plain cells_int)
set_option linter.unusedVariables false
set_option linter.unusedSimpArgs false
structure Qy where
 k : Int
 x : Int
 b : Int
 t : ByteArray
instance : Inhabited Qy := ⟨⟨0, 0, 0, ⟨#[]⟩⟩⟩
theorem under_Q : Tryz.prog.underlying 34 = some (.struct (Tryz.prog.fieldsOf 34)) := by kernel_rfl
theorem cells_Q : Tryz.prog.cellsOf 34 = 4 := by kernel_rfl
theorem cells_strQ : Tryz.prog.cellsOf 9 = 1 := by kernel_rfl
theorem fQ0 : ((Tryz.prog.fieldsOf 34)[0]?).map (fun f => (f.type, f.offset)) = some (3, 0) := by kernel_rfl
theorem fQ1 : ((Tryz.prog.fieldsOf 34)[1]?).map (fun f => (f.type, f.offset)) = some (3, 1) := by kernel_rfl
theorem fQ2 : ((Tryz.prog.fieldsOf 34)[2]?).map (fun f => (f.type, f.offset)) = some (3, 2) := by kernel_rfl
theorem fQ3 : ((Tryz.prog.fieldsOf 34)[3]?).map (fun f => (f.type, f.offset)) = some (9, 3) := by kernel_rfl
set_option maxRecDepth 100000 in
theorem q_open {H : Type} {enc : TypeId × Value -> H} {W : World} {base : Nat} {v : Value} {d : DataW H} {ps : List MemPlace} (hv : Value.okWide Tryz.prog W .any base 34 v)
 (h : DataW.Trod enc Tryz.prog W 0 (fun _ => true) true 34 v d ps) : ∃ q : Qy, v = .agg #[.int .i64 q.k, .int .i64 q.x, .int .i64 q.b, .string q.t] /\ I64 q.b := by
 obtain ⟨cs, rfl, hs⟩ := okWide_struct under_Q hv
 rw [cells_Q] at hs
 obtain ⟨fuel, h2⟩ := h
 obtain ⟨l⟩ := cs
 match l, hs with
 | [y0, y1, y2, y3], _ =>
    obtain ⟨n0, d0, p0, t0, s0⟩ := struct_field under_Q h2 0 fQ0 cells_int (v := y0) rfl
    obtain ⟨n1, d1, p1, t1, s1⟩ := struct_field under_Q h2 1 fQ1 cells_int (v := y1) rfl
    obtain ⟨n2, d2, p2, t2, s2⟩ := struct_field under_Q h2 2 fQ2 cells_int (v := y2) rfl
    obtain ⟨n3, d3, p3, t3, s3⟩ := struct_field under_Q h2 3 fQ3 cells_strQ (v := y3) rfl
    obtain ⟨x0, e0, -, w0⟩ := DataW.trod_int Tryz.underlying3 t0
    obtain ⟨x1, e1, -, w1⟩ := DataW.trod_int Tryz.underlying3 t1
    obtain ⟨x2, e2, -, w2⟩ := DataW.trod_int Tryz.underlying3 t2
    obtain ⟨x3, e3, -, -⟩ := DataW.trod_string Tryz.underlying9 t3
    cases e0
    cases e1
    cases e2
    cases e3
    exact ⟨⟨x0, x1, x2, x3⟩, rfl, i64_wf w2⟩
def QL (w : World) (A : Option Addr) (l : List Qy) : Prop := ∀ i o, l[i]? = some o -> I64 o.b /\ ∃ g off, A = some ⟨g, off, none⟩ /\ g < w.heap.size /\ w.cell? ⟨g, off + i * 4, none⟩ = some (.int .i64 o.k) /\ w.cell? ⟨g, off + i * 4 + 1, none⟩ = some (.int .i64 o.x) /\ w.cell? ⟨g, off + i * 4 + 2, none⟩ = some (.int .i64 o.b) /\ w.cell? ⟨g, off + i * 4 + 3, none⟩ = some (.string o.t)
theorem QL.below {w w' : World} {A : Option Addr} {l : List Qy} (h : QL w A l) (hb : Below w.heap.size w w') : QL w' A l := fun i o ho => by
 obtain ⟨hf, g, off, hA, hg, a, b, c, d⟩ := h i o ho
 have key : ∀ j v, w.cell? ⟨g, j, none⟩ = some v -> w'.cell? ⟨g, j, none⟩ = some v := fun j v hv => (hb.cell (p := ⟨g, j, none⟩) hg).trans hv
 exact ⟨hf, g, off, hA, Nat.lt_of_lt_of_le hg hb.size, key _ _ a, key _ _ b, key _ _ c, key _ _ d⟩
end Go.Proofs.YtcndplnnighjkaaGreatDoor.Sn
namespace Go.Proofs.YtcndplnnighjkaaGreatDoor.Sx
open Go.ChangeShapes Go.WideShapes Go.ChangeAt Go.RowKit
open Go.PlainAid (bt)
set_option linter.unusedVariables false
set_option linter.unusedSimpArgs false
def Nm (s : ByteArray) : Prop := 1 <= s.size /\ s.size <= 20 /\ bL (bt s 0) = true /\ ∀ k, k < s.size -> bN (bt s k) = true
instance (s : ByteArray) : Decidable (Nm s) := by unfold Nm; infer_instance
def nm (s : ByteArray) : Bool := decide (Nm s)
theorem nm_no {s : ByteArray} (h : ¬ Nm s) : nm s = false := by unfold nm; simpa using h
set_option maxHeartbeats 400000 in
theorem letter_any (c : Int) (w : World) (h0 : 0 <= c) (h1 : c <= 255) :
 Calls Tryz.prog 17 #[.int .u8 c] w fun e w' => e = .returned (.bool (bL c)) /\ w = w' := by
 go_enter Tryz.func17, Tryz.ntmps17
 go_wp2
 all_goals
  go_ret
  exact ⟨ret_bool (by rw [Bool.eq_iff_iff]; simp [bL] <;> omega), rfl⟩
theorem bN_let {c : Int} (h : bL c = true) : bN c = true := by
 simp [bL] at h
 simp [bN]
 omega
set_option maxHeartbeats 1000000 in
theorem rname_any (s : ByteArray) (w : World) (hs : s.size <= 9223372036854775807) :
 Calls Tryz.prog 10 #[.string s] w fun e w' => e = .returned (.bool (nm s)) /\ w = w' := by
 have hbt := PlainAid.get_bt s
 go_enter Tryz.func10, Tryz.ntmps10
 go_wp2
 go_loop [3] (fun i => ∃ k : Nat, k <= s.size /\ i = .int .i64 k /\ Hid ((0 < k -> bL (bt s 0) = true) /\ ∀ j, j < k -> bN (bt s j) = true)) (fun i => s.size - (intOf i).toNat)
 case atStart => exact ⟨0, Nat.zero_le _, rfl, Lib.hid ⟨fun h => by omega, fun j h => by omega⟩⟩
 case round =>
  obtain ⟨k, hk, rfl, hne⟩ := hrel
  have g1 := PlainAid.bt_nonneg s k
  have g2 := PlainAid.bt_le s k
  by_cases hlt : k < s.size
  · rcases Bool.eq_false_or_eq_true (bL (bt s k)) with hb | hb
    · go_wp2_with fail
      refine (letter_any _ _ g1 g2).mono ?_
      rintro e w' ⟨rfl, rfl⟩
      go_wp2
      go_round
      case rel =>
       refine ⟨k + 1, by omega, by go_num, Lib.hid ⟨fun _ => ?_, fun j h => ?_⟩⟩
       · rcases Nat.eq_zero_or_pos k with h | h
         · subst h; exact hb
         · exact hne.out.1 h
       · rcases Nat.lt_or_ge j k with hj | hj
         · exact hne.out.2 j hj
         · obtain rfl : j = k := by omega
           exact bN_let hb
      case measure => simp [intOf]; omega
    · have hd := hb
      simp [bL] at hd
      by_cases hk0 : k = 0
      · subst hk0
        go_wp2_with fail
        refine (letter_any _ _ g1 g2).mono ?_
        rintro e w' ⟨rfl, rfl⟩
        go_wp2
        go_ret
        exact ⟨ret_bool (nm_no (fun h => by have := h.2.2.1; rw [hb] at this; cases this)).symm, rfl⟩
      · have hk1 : ((k : Int) == 0) = false := by simp; omega
        have hk2 : 0 < k := by omega
        clear hk0
        have HD := Lib.hid hd
        clear hd
        go_wp2_with fail
        refine (letter_any _ _ g1 g2).mono ?_
        rintro e w' ⟨rfl, rfl⟩
        go_wp2
        all_goals first
         | (have hh : bN (bt s k) = false := by
             have hd := HD.out
             (try simp only [bne_iff_ne, ne_eq, bne_eq_false_iff_eq] at *)
             simp [bN]
             omega
            go_ret
            exact ⟨ret_bool (nm_no (fun h => by have := h.2.2.2 k hlt; rw [hh] at this; cases this)).symm, rfl⟩)
         | (have hh : bN (bt s k) = true := by
             have hd := HD.out
             (try simp only [bne_iff_ne, ne_eq, bne_eq_false_iff_eq] at *)
             simp [bN]
             omega
            go_round
            case rel =>
             refine ⟨k + 1, by omega, by go_num, Lib.hid ⟨fun _ => hne.out.1 hk2, fun j h => ?_⟩⟩
             rcases Nat.lt_or_ge j k with hj | hj
             · exact hne.out.2 j hj
             · obtain rfl : j = k := by omega
               exact hh
            case measure => simp [intOf]; omega)
  · obtain rfl : k = s.size := by omega
    have hn : nm s = decide (1 <= s.size /\ s.size <= 20) := by
     unfold nm
     refine decide_eq_decide.2 ?_
     exact ⟨fun h => ⟨h.1, h.2.1⟩, fun h => ⟨h.1, h.2, hne.out.1 (by omega), fun j hj => hne.out.2 j hj⟩⟩
    have HN := Lib.hid hn
    clear hn
    go_wp2
    all_goals
     go_ret
     refine ⟨ret_bool ?_, rfl⟩
     rw [HN.out, Bool.eq_iff_iff]
     simp
     omega
theorem lk_bt {s : ByteArray} {i : Nat} (h : i < s.size) : ∃ c, (ls s)[i]? = some c /\ bt s i = (c.toNat : Int) := by
 obtain ⟨c, h1, h2⟩ := lk_get h
 exact ⟨c, h1, by rw [<- h2, lk_in h]⟩
theorem nm_ok (s : ByteArray) : nm s = Sl.nameOk (ls s) := by
 rw [Bool.eq_iff_iff, nm, decide_eq_true_eq]
 cases hs : ls s with
 | nil =>
   constructor
   · rintro ⟨h1, -⟩
     have := ls_len s
     rw [hs] at this
     simp at this
     omega
   · intro h; cases h
 | cons a l =>
   have hl := ls_len s
   rw [hs, List.length_cons] at hl
   have h0 : bt s 0 = (a.toNat : Int) := by
    obtain ⟨c, h1, h2⟩ := lk_bt (s := s) (i := 0) (by omega)
    rw [hs] at h1
    simp at h1
    rw [h2, h1]
   simp only [Sl.nameOk, Bool.and_eq_true, decide_eq_true_eq, List.all_eq_true]
   constructor
   · rintro ⟨h1, h2, h3, h4⟩
     rw [h0, <- isL_bL] at h3
     refine ⟨⟨h3, fun x hx => ?_⟩, by omega⟩
     obtain ⟨k, hk, rfl⟩ := List.getElem_of_mem hx
     obtain ⟨c, g1, g2⟩ := lk_bt (s := s) (i := k + 1) (by omega)
     have := h4 (k + 1) (by omega)
     rw [hs, List.getElem?_cons_succ, List.getElem?_eq_getElem hk] at g1
     rw [g2, <- isN_bN, <- Option.some.inj g1] at this
     exact this
   · rintro ⟨⟨h1, h2⟩, h3⟩
     refine ⟨by omega, by omega, by rw [h0, <- isL_bL]; exact h1, fun k hk => ?_⟩
     cases k with
     | zero => rw [h0, <- isN_bN]; exact Sl.isL_N h1
     | succ k =>
       obtain ⟨c, g1, g2⟩ := lk_bt (s := s) (i := k + 1) hk
       rw [hs, List.getElem?_cons_succ] at g1
       rw [g2, <- isN_bN]
       exact h2 c (List.mem_of_getElem? g1)
end Go.Proofs.YtcndplnnighjkaaGreatDoor.Sx
