/-
  Whether a row ends where a way begins.
-/
import Derived.Test.YtaacikjoafobfaaGreatDoorZFiF
import Derived.Deep.LoopGhost
import Derived.WalkMore
namespace Go.Proofs.YtaacikjoafobfaaGreatDoor.Fi
open Go.ChangeShapes Go.WideShapes Go.ChangeAt Go.RowKit
open Sx (Tr Ms Mr TR MR XR tV r1)
set_option linter.unusedVariables false
set_option linter.unusedSimpArgs false

/-- A row that can be asked: none of its lists, or names, is too long. -/
def TB (l : List Ms) : Prop := ∀ s ∈ l, s.2.1.length ≤ 9223372036854775807 ∧ ∀ t ∈ s.2.1, t.2.1.size ≤ 100000
theorem TB.take {l : List Ms} (h : TB l) (k : Nat) : TB (l.take k) := fun s hs => h s (List.mem_of_mem_take hs)
theorem TB.drop {l : List Ms} (h : TB l) (k : Nat) : TB (l.drop k) := fun s hs => h s (List.mem_of_mem_drop hs)
/-- A way, as a slice. -/
structure Wy (w : World) (A : Option Addr) (L : List Mn) (c : Nat) : Prop where
  fr : FR w A L
  nb : ∀ m ∈ L, NB m
  cap : L.length ≤ c
  big : c ≤ 9223372036854775807
  len : L.length ≤ 1000
/-- A row, as a slice. -/
structure Rw (w : World) (B : Option Addr) (l : List Ms) (d : Nat) : Prop where
  mr : MR w B l
  tb : TB l
  cap : l.length ≤ d
  big : d ≤ 9223372036854775807
theorem Wy.none {w : World} {A : Option Addr} {c : Nat} (hc : c ≤ 9223372036854775807) : Wy w A [] c := ⟨fun i m hi => by simp at hi, by simp, by simp, hc, by simp⟩
theorem Wy.drop {w : World} {g off : Nat} {L : List Mn} {c : Nat} (h : Wy w (some ⟨g, off, Option.none⟩) L c) {k : Nat} (hk : k ≤ L.length) : Wy w (some ⟨g, off + k * 6, Option.none⟩) (L.drop k) (c - k) :=
  ⟨FR.drop h.fr k, fun m hm => h.nb m (List.mem_of_mem_drop hm), by have := h.cap; rw [List.length_drop]; omega, by have := h.big; omega, by have := h.len; rw [List.length_drop]; omega⟩
theorem Wy.addr {w : World} {A : Option Addr} {L : List Mn} {c : Nat} (h : Wy w A L c) (hp : 0 < L.length) : ∃ g off, A = some ⟨g, off, Option.none⟩ := by
  obtain ⟨-, g, off, e, -⟩ := h.fr 0 L[0] (List.getElem?_eq_getElem hp)
  exact ⟨g, off, e⟩
theorem Rw.take {w : World} {B : Option Addr} {l : List Ms} {d : Nat} (h : Rw w B l d) (k : Nat) : Rw w B (l.take k) d :=
  ⟨MR.take h.mr k, h.tb.take k, by have := h.cap; rw [List.length_take]; omega, h.big⟩
theorem Wy.below {w w' : World} {A : Option Addr} {L : List Mn} {c : Nat} (h : Wy w A L c) (hb : Below w.heap.size w w') : Wy w' A L c := ⟨h.fr.below hb, h.nb, h.cap, h.big, h.len⟩
theorem Rw.below {w w' : World} {B : Option Addr} {l : List Ms} {d : Nat} (h : Rw w B l d) (hb : Below w.heap.size w w') : Rw w' B l d := ⟨h.mr.below hb, h.tb, h.cap, h.big⟩
/-- What split tells. -/
theorem split_rw {w : World} {B : Option Addr} {l : List Ms} {d : Nat} (h : Rw w B l d) (hne : l ≠ []) (V : World) (hb : Below w.heap.size w V) :
    Calls Tryz.prog 119 #[.slice B l.length d] V fun e w' => (∃ A2 c2, e = .returned (.tuple #[.slice B (cutAt (rowB l)) d, .slice A2 (l.length - cutAt (rowB l)) c2]) ∧ Rw V A2 (l.drop (cutAt (rowB l))) c2) ∧ Below V.heap.size V w' :=
  (split_any B l d V (h.mr.below hb) hne h.cap h.big).mono (fun e w' hc => by
    obtain ⟨⟨A2, c2, he, hm, h1, h2⟩, hb⟩ := hc
    exact ⟨⟨A2, c2, he, hm, h.tb.drop _, by rw [List.length_drop]; exact h1, h2⟩, hb⟩)
theorem run_wy {w : World} {A : Option Addr} {L : List Mn} {c : Nat} {B : Option Addr} {l : List Ms} {d : Nat} (h : Wy w A L c) (k : Rw w B l d) : Calls Tryz.prog 120 #[.slice A L.length c, .slice B l.length d] w (GivesV (.bool (runB fitsB L (rowB l))) w) :=
  run_any A L c B l d w h.fr h.nb k.mr k.tb h.len (Nat.le_trans k.cap k.big)
theorem rowB_ne {l : List Ms} (h : l ≠ []) : rowB l ≠ [] := fun e => h (List.map_eq_nil_iff.1 e)
set_option maxRecDepth 100000 in
set_option maxHeartbeats 4000000 in
theorem ends_any (A : Option Addr) (L : List Mn) (c : Nat) (B : Option Addr) (l : List Ms) (d : Nat) (w : World) (hW : Wy w A L c) (hR : Rw w B l d) :
    Calls Tryz.prog 85 #[.slice A L.length c, .slice B l.length d] w (GivesV (.bool (eD fitsB (rowB l).reverse L)) w) := by
  obtain ⟨R, hRe⟩ : ∃ R, eD fitsB (rowB l).reverse L = R := ⟨_, rfl⟩
  rw [hRe]
  by_cases hne : l = []
  · subst hne
    have HR : Hid (R = false) := Lib.hid (by rw [← hRe]; cases L <;> rfl)
    clear hRe hW hR
    generalize L.length = n at *
    go_enter Tryz.func85, Tryz.ntmps85
    go_wp2_with fail
    go_step3
    go_wp2
    rw [Exit.noGoto_ret]
    go_ret
    exact ⟨ret_bool (by rw [HR.out]), Below.refl _ _⟩
  have hlp : 0 < l.length := List.length_pos_iff.2 hne
  have hcut : cutAt (rowB l) < l.length := by
    have := cut_lt (rowB_ne hne)
    rwa [rowB_len] at this
  have HSp := Lib.hid (split_rw hR hne)
  have HRu := Lib.hid (fun (A2 : Option Addr) (c2 : Nat) (V : World) (hb : Below w.heap.size w V) (h : Rw V A2 (l.drop (cutAt (rowB l))) c2) => show Calls Tryz.prog 120 #[.slice A L.length c, .slice A2 (l.length - cutAt (rowB l)) c2] V (GivesV (.bool (runB fitsB L ((rowB l).drop (cutAt (rowB l))))) V) from by
    have := run_wy (hW.below hb) h
    rwa [List.length_drop, rowB_drop] at this)
  have HE : Hid (R = (runB fitsB L ((rowB l).drop (cutAt (rowB l))) && ((rowB (l.take (cutAt (rowB l)))).isEmpty || aD fitsB (rowB (l.take (cutAt (rowB l)))).reverse (L.drop (l.length - cutAt (rowB l)))))) := Lib.hid (by
    rw [← hRe, eD_cut (rowB_ne hne), ← rowB_take, List.length_drop, rowB_len])
  have HTk := Lib.hid (hR.take (cutAt (rowB l)))
  have htl : (l.take (cutAt (rowB l))).length = cutAt (rowB l) := by rw [List.length_take]; omega
  have HRl : Hid (runB fitsB L ((rowB l).drop (cutAt (rowB l))) = true → l.length - cutAt (rowB l) ≤ L.length) := Lib.hid (fun h => by
    have := (runB_iff.1 h).1
    rwa [List.length_drop, rowB_len] at this)
  have HW := Lib.hid hW
  have hcL := hW.cap
  have hcb := hW.big
  have q0 : ((l.length : Int) == 0) = false := by simp; omega
  obtain ⟨ah, hah⟩ : ∃ ah, l.take (cutAt (rowB l)) = ah := ⟨_, rfl⟩
  rw [hah] at HE HTk htl
  generalize runB fitsB L ((rowB l).drop (cutAt (rowB l))) = Y at *
  generalize cutAt (rowB l) = ct at *
  generalize l.length = n at *
  clear hne hRe hah hW hR
  obtain ⟨pl, hpl⟩ : ∃ pl, n - ct = pl := ⟨_, rfl⟩
  rw [hpl] at HSp HRu HE HRl
  have hpp : 0 < pl := by omega
  clear hcut
  go_enter Tryz.func85, Tryz.ntmps85
  go_wp2_with fail
  go_step3
  go_wp2_with fail
  refine (HSp.out w (Below.refl _ _)).mono ?_
  rintro e w1 ⟨⟨A2, c2, rfl, hr⟩, hb⟩
  have HB1 := Lib.hid hb
  have HRu1 := Lib.hid (HRu.out A2 c2 w1 hb (hr.below hb))
  clear hr hb
  go_wp2_with fail
  refine HRu1.out.mono ?_
  rintro e w2 ⟨rfl, hb⟩
  have HB2 := Lib.hid (HB1.out.trans (hb.mono HB1.out.size))
  clear hb
  cases Y with
  | false =>
    have HR : Hid (R = false) := Lib.hid (by rw [HE.out]; rfl)
    go_wp2
    rw [Exit.noGoto_ret]
    go_ret
    exact ⟨ret_bool (by rw [HR.out]), HB2.out⟩
  | true =>
    have hple := HRl.out rfl
    obtain ⟨gA, oA, rfl⟩ := HW.out.addr (by omega)
    have HN1 := Lib.hid (HW.out.drop hple)
    have HL : Hid ((L.drop pl).length = L.length - pl) := Lib.hid (by rw [List.length_drop])
    have HE2 : Hid (R = ((rowB ah).isEmpty || aD fitsB (rowB ah).reverse (L.drop pl))) := Lib.hid (by rw [HE.out]; rfl)
    clear HE HRl HRu HSp HRu1
    go_wp2_with fail
    all_goals
      go_step3
      go_wp2_with fail
      go_loopg [0, 5] ct (fun g q0 q5 wr => ∃ (V : World) (A' : Option Addr) (c' : Nat) (way : List Mn) (B' : Option Addr) (d' : Nat) (ah : List Ms), V = wr ∧ q0 = .slice A' way.length c' ∧ q5 = .slice B' ah.length d' ∧ ah.length ≤ g ∧ Hid (Wy w A' way c') ∧ Hid (Rw w B' ah d') ∧ Hid (R = ((rowB ah).isEmpty || aD fitsB (rowB ah).reverse way)) ∧ Hid (Below w.heap.size w V))
      case atStart => exact ⟨_, _, _, L.drop pl, B, d, ah, rfl, by rw [HL.out], by rw [htl], by omega, Lib.hid (by first | exact HN1.out | exact (by rw [List.drop_of_length_le (by omega)]; exact Wy.none (by omega))), HTk, HE2, HB2⟩
      case round =>
        clear HB2 HB1 HE2 HTk HN1 HL HW
        obtain ⟨V, A', c', way, B', d', ah', rfl, rfl, rfl, hag, HWy, HRw, HRe, HB⟩ := hrel
        by_cases hne : ah' = []
        · subst hne
          have HR : Hid (R = true) := Lib.hid (by rw [HRe.out]; rfl)
          clear HRe
          go_wp2
          rw [Exit.noGoto_ret]
          go_ret
          exact ⟨ret_bool (by rw [HR.out]), HB.out⟩
        · have hcut : cutAt (rowB ah') < ah'.length := by
            have := cut_lt (rowB_ne hne)
            rwa [rowB_len] at this
          have HSp := Lib.hid (split_rw HRw.out hne V HB.out)
          have HRu := Lib.hid (fun (A4 : Option Addr) (c4 : Nat) (wy : List Mn) (A3 : Option Addr) (c3 : Nat) (U : World) (hy : Wy U A4 wy c4) (h : Rw U A3 (ah'.drop (cutAt (rowB ah'))) c3) => show Calls Tryz.prog 120 #[.slice A4 wy.length c4, .slice A3 (ah'.length - cutAt (rowB ah')) c3] U (GivesV (.bool (runB fitsB wy ((rowB ah').drop (cutAt (rowB ah'))))) U) from by
            have := run_wy hy h
            rwa [List.length_drop, rowB_drop] at this)
          have HR2 : Hid (R = aD fitsB (rowB ah').reverse way) := Lib.hid (by
            have e : (rowB ah').isEmpty = false := by rw [List.isEmpty_eq_false_iff]; exact rowB_ne hne
            rw [HRe.out, e, Bool.false_or])
          have HHit := Lib.hid (fun (wy : List Mn) (hr : runB fitsB wy ((rowB ah').drop (cutAt (rowB ah'))) = true) => show aD fitsB (rowB ah').reverse wy = ((rowB (ah'.take (cutAt (rowB ah')))).isEmpty || aD fitsB (rowB (ah'.take (cutAt (rowB ah')))).reverse (wy.drop (ah'.length - cutAt (rowB ah')))) ∧ ah'.length - cutAt (rowB ah') ≤ wy.length from by
            refine ⟨?_, ?_⟩
            · rw [aD_hit (rowB_ne hne) hr, ← rowB_take, List.length_drop, rowB_len]
            · have := (runB_iff.1 hr).1
              rwa [List.length_drop, rowB_len] at this)
          have HMiss := Lib.hid (fun (m : Mn) (wy : List Mn) (hr : runB fitsB (m :: wy) ((rowB ah').drop (cutAt (rowB ah'))) = false) => aD_miss (fit := fitsB) (rowB_ne hne) hr)
          have HTk2 := Lib.hid (HRw.out.take (cutAt (rowB ah')))
          have htl2 : (ah'.take (cutAt (rowB ah'))).length = cutAt (rowB ah') := by rw [List.length_take]; omega
          have hpos : 0 < ah'.length := by omega
          obtain ⟨ah2, hah2⟩ : ∃ ah2, ah'.take (cutAt (rowB ah')) = ah2 := ⟨_, rfl⟩
          rw [hah2] at HTk2 htl2 HHit
          obtain ⟨prow, hprow⟩ : ∃ prow, (rowB ah').drop (cutAt (rowB ah')) = prow := ⟨_, rfl⟩
          rw [hprow] at HHit HMiss HRu
          obtain ⟨part, hpart⟩ : ∃ part, ah'.drop (cutAt (rowB ah')) = part := ⟨_, rfl⟩
          rw [hpart] at HSp HRu
          generalize (rowB ah').reverse = rr at *
          generalize cutAt (rowB ah') = ct2 at *
          generalize ah'.length = n2 at *
          clear hne hah2 hprow hpart HRe HRw
          obtain ⟨pl2, hpl2⟩ : ∃ pl2, n2 - ct2 = pl2 := ⟨_, rfl⟩
          rw [hpl2] at HSp HRu HHit
          have hpp2 : 0 < pl2 := by omega
          cases gk with
          | zero => exact absurd hag (by omega)
          | succ gp =>
            have hgp : ct2 ≤ gp := by omega
            have n0 : (0 : Int) < (n2 : Int) := by omega
            clear hcut hpl2 hag
            go_wp2_with fail
            refine HSp.out.mono ?_
            rintro e w3 ⟨⟨A3, c3, rfl, hr⟩, hb⟩
            have HB3 := Lib.hid (HB.out.trans (hb.mono HB.out.size))
            have HR3 : Hid (∀ U, Below w3.heap.size w3 U → Rw U A3 part c3) := Lib.hid (fun U hU => hr.below (hb.trans (hU.mono hb.size)))
            clear hr hb
            go_wp2_with fail
            go_loopg [0] way.length (fun g q0 wr => ∃ (U : World) (A4 : Option Addr) (c4 : Nat) (wy : List Mn), U = wr ∧ q0 = .slice A4 wy.length c4 ∧ wy.length ≤ g ∧ Hid (Wy w A4 wy c4) ∧ Hid (R = aD fitsB rr wy) ∧ Hid (Below w3.heap.size w3 U))
            case atStart => exact ⟨_, A', c', way, rfl, rfl, Nat.le_refl _, HWy, HR2, Lib.hid (Below.refl _ _)⟩
            case round =>
              clear HR2 HWy
              obtain ⟨U, A4, c4, wy, rfl, rfl, hwg, HWy, HR2, HU⟩ := hrel
              have HBU := Lib.hid (HB3.out.trans (HU.out.mono HB3.out.size))
              by_cases h0 : wy.length = 0
              · obtain rfl : wy = [] := List.eq_nil_of_length_eq_zero h0
                have HR : Hid (R = false) := Lib.hid (by rw [HR2.out, aD_nil, eD_nil])
                clear h0
                go_wp2
                rw [Exit.noGoto_ret]
                go_ret
                exact ⟨ret_bool (by rw [HR.out]), HBU.out⟩
              · obtain ⟨g4, o4, rfl⟩ := HWy.out.addr (by omega)
                have HRun := Lib.hid (HRu.out _ c4 wy A3 c3 U (HWy.out.below HBU.out) (HR3.out U HU.out))
                have HHt := Lib.hid (HHit.out wy)
                have HMs : Hid (runB fitsB wy prow = false → R = aD fitsB rr (wy.drop 1)) := Lib.hid (fun h => by
                  cases wy with
                  | nil => exact absurd rfl h0
                  | cons m up => rw [HR2.out, HMiss.out m up h]; rfl)
                generalize runB fitsB wy prow = Y at *
                have hwc := HWy.out.cap
                have hwb := HWy.out.big
                have HL1 : Hid (∀ k, (wy.drop k).length = wy.length - k) := Lib.hid (fun k => by rw [List.length_drop])
                have HDr := Lib.hid (fun (k : Nat) (hk : k ≤ wy.length) => HWy.out.drop hk)
                have HD0 : Hid (∀ k, wy.length ≤ k → Wy w (some ⟨g4, o4, none⟩) (wy.drop k) 0) := Lib.hid (fun k hk => by rw [List.drop_of_length_le hk]; exact Wy.none (by omega))
                obtain ⟨nw, hnw⟩ : ∃ nw, wy.length = nw := ⟨_, rfl⟩
                rw [hnw] at h0 hwc hwg HRun HL1 HDr HD0 HHt ⊢
                have w0 : (0 : Int) < (nw : Int) := by omega
                clear hnw
                cases gk with
                | zero => exact absurd hwg (by omega)
                | succ gq =>
                  go_wp2_with fail
                  refine HRun.out.mono ?_
                  rintro e w5 ⟨rfl, hb⟩
                  have HB5 := Lib.hid (HBU.out.trans (hb.mono HBU.out.size))
                  have HU5 := Lib.hid (HU.out.trans (hb.mono HU.out.size))
                  clear hb
                  cases Y with
                  | true =>
                    obtain ⟨hh1, hh2⟩ := HHt.out rfl
                    have HRn : Hid (R = ((rowB ah2).isEmpty || aD fitsB (rowB ah2).reverse (wy.drop pl2))) := Lib.hid (by rw [HR2.out, hh1])
                    have HDp := Lib.hid (HDr.out pl2 hh2)
                    have HLp := Lib.hid (HL1.out pl2)
                    clear hh1
                    go_wp2_with fail
                    all_goals
                      go_roundg gp
                      case measure => omega
                      case rel => exact ⟨_, _, _, wy.drop pl2, B', d', ah2, rfl, by rw [HLp.out], by rw [htl2], by omega, Lib.hid (by first | exact HDp.out | exact HD0.out pl2 (by omega)), HTk2, HRn, HB5⟩
                  | false =>
                    have HRn := Lib.hid (HMs.out rfl)
                    have HDp := Lib.hid (HDr.out 1 (by omega))
                    have HLp := Lib.hid (HL1.out 1)
                    go_wp2_with fail
                    all_goals
                      go_roundg gq
                      case measure => omega
                      case rel => exact ⟨_, _, _, wy.drop 1, rfl, by rw [HLp.out], by rw [HLp.out]; omega, Lib.hid (by first | exact HDp.out | exact HD0.out 1 (by omega)), HRn, HU5⟩
end Go.Proofs.YtaacikjoafobfaaGreatDoor.Fi
