/-
  A list raised, level by level: the walk.
-/
import Derived.Test.YtbldjlkofaiikaaVecK
namespace Go.Proofs.Ytbldjlkofaiikaa
open Go.ChangeShapes Go.WideShapes Go.ChangeAt Go.RowKit
set_option linter.unusedVariables false
set_option linter.unusedSimpArgs false

/-- What the rows of the old list are. -/
structure OldOk (n : Nat) (old : List (List Int)) : Prop where
  len : old.length ≤ 4
  row : ∀ r ∈ old, r.length ≤ 256
  u64 : ∀ r ∈ old, U64 r
  ix : ∀ r ∈ old, ∀ h ∈ r, ix h < n
theorem OldOk.at {n : Nat} {old : List (List Int)} (h : OldOk n old) (l m : Nat) (hne : atR old l m ≠ 0) : 0 ≤ atR old l m ∧ atR old l m ≤ 18446744073709551615 ∧ Go.Proofs.Ytbldjlkofaiikaa.ix (atR old l m) < n := by
  unfold atR at hne ⊢
  rcases Nat.lt_or_ge l old.length with h1 | h1
  · rw [getD_at [] h1] at hne ⊢
    rcases Nat.lt_or_ge m (old[l]).length with h2 | h2
    · rw [getD_at 0 h2]
      have a := h.u64 _ (List.getElem_mem h1) _ (List.getElem_mem h2)
      exact ⟨a.1, a.2, h.ix _ (List.getElem_mem h1) _ (List.getElem_mem h2)⟩
    · exact absurd (by rw [List.getD, List.getElem?_eq_none h2]; rfl) hne
  · exact absurd (by rw [show old.getD l [] = [] by rw [List.getD, List.getElem?_eq_none h1]; rfl]; rfl) hne
theorem lays_cons {p : Pl} {old : List Int} {c : List Int} {cs : List (List Int)} : p.lays old (c :: cs) = match p.place (old.headD 0) c with | none => none | some (q, h) => (q.lays old.tail cs).map fun r => (r.1, h :: r.2) := by
  rw [Pl.lays]
  cases p.place (old.headD 0) c <;> rfl
theorem raise_succ {p : Pl} {old : List (List Int)} {L : Nat} {below : List Int} : p.raise old (L + 1) below = match p.lays (old.headD []) (fours (qs below.length) below) with | none => none | some (q, row) => (q.raise old.tail L row).map fun r => (r.1, row :: r.2) := by
  rw [Pl.raise]
  cases p.lays (old.headD []) (fours (qs below.length) below) <;> rfl

set_option maxRecDepth 100000 in
set_option maxHeartbeats 8000000 in
theorem raise_pl (items : List Int) (pi : Option Addr) (ci ko k g B cc b : Nat) (old : List (List Int)) (vo vg vu vf : Value) (p : Pl) (n : Nat) (G : Int) (w : World) (hI : ∀ w', But k g w w' → RL w' pi items) (hci : items.length ≤ ci) (hcm : ci ≤ 9223372036854775807) (hil : items.length ≤ 200) (hiU : U64 items)
    (ho : w.heap[ko]? = some (.cells #[vo] 77 (0, 0))) (hR : RR w b vo old) (hO : OldOk n old) (hP : PB w k g B cc vg vu vf p) (hK : PK n G p) (hG : G ≤ 1099511627775) (hBk : B ≤ k) :
    Calls Try.prog 37 #[.slice pi items.length ci, placeF ko k] w (GivesR k g B cc (p.raise old (lvs items.length) items) w) := by
  have HI := Lib.hid hI
  have HIU := Lib.hid hiU
  have HKO := Lib.hid ho
  have HRO := Lib.hid hR
  have HOO := Lib.hid hO
  have HP := Lib.hid hP
  have HK := Lib.hid hK
  have hnk := (hP.apart ho (by decide) (by decide))
  have hkol := lt_of_block ho
  clear hI hiU ho hR hO hP hK
  have HL := Lib.hid (fun w => levels_any items.length w (by omega))
  have hL4 := lvs_le items.length
  generalize lvs items.length = L at *
  unfold placeF
  have mk := fun W : World => run_make_row' (P := Try.prog) 77 24 (.slice none 0 0) 24 Try.underlying77 info_R rfl .i64 .i64 L (by omega) (by omega) W
  go_enter Try.func37, Try.ntmps37
  go_wp2_with (go_at_call 57; refine (HL.out _).mono ?_; rintro e w' ⟨rfl, rfl⟩)
  clear mk
  obtain ⟨W, hW⟩ : ∃ W, W = w.alloc (.cells (madeCells #[.slice none 0 0] L) 24) := ⟨_, rfl⟩
  rw [← hW]
  have HW : Hid (Below w.heap.size w W ∧ W.heap.size = w.heap.size + 1 ∧ W.heap[w.heap.size]? = some (.cells (madeCells #[.slice none 0 0] L) 24 (0, 0))) := Lib.hid (by
    subst hW
    exact ⟨(Below.refl _ w).alloc (Nat.le_refl _) _, by simp, heap_alloc_new _ _⟩)
  clear hW
  have HR0 : Hid (RP W w.heap.size w.heap.size L 0 []) := Lib.hid ⟨_, own_block HW.out.2.2 (by omega) (by omega), fun j hj => by simp at hj⟩
  have HS := Lib.hid HW.out.2.1
  go_loopw [7, 20] (fun v i wr => ∃ (l : Nat) (below : List Int) (done : List (List Int)) (q : Pl) (vg vu vf : Value) (bp : Option Addr) (bc : Nat), i = .int .i64 l ∧ v = .slice bp below.length bc ∧ l ≤ L ∧ done.length = l ∧ below.length ≤ 200 ∧ bc ≤ 9223372036854775807 ∧ below.length ≤ bc ∧
      Hid (∀ w', But k g wr w' → RL w' bp below) ∧ Hid (RP wr w.heap.size w.heap.size L 0 done) ∧ Hid (U64 below) ∧ Hid (PB wr k g B cc vg vu vf q) ∧ Hid (PK n G q) ∧ Hid (p.raise old L items = (q.raise (old.drop l) (L - l) below).map (fun r => (r.1, done ++ r.2))) ∧ Hid (But k g w wr)) (fun _ i _ => L - (intOf i).toNat)
  case atStart =>
    refine ⟨0, items, [], p, vg, vu, vf, pi, ci, rfl, rfl, Nat.zero_le _, rfl, hil, by omega, by omega, Lib.hid (fun w' hb => HI.out w' ((But.of_below HW.out.1).trans hb)), HR0, HIU, Lib.hid (HP.out.below HW.out.1), HK, Lib.hid (by simp), Lib.hid (But.of_below HW.out.1)⟩
  case round =>
    obtain ⟨l, below, done, q, vg, vu, vf, bp, bc, rfl, rfl, hlL, hdl, hbl, hbc, hbc2, HB0, HR, HU, HPr, HKr, HE, HBU⟩ := hrel
    obtain ⟨wo, hwo⟩ : ∃ wo, wo = wr := ⟨_, rfl⟩
    subst hwo
    have hsz : w.heap.size + 1 ≤ wo.heap.size := by
      obtain ⟨vs, hvs, -⟩ := HR.out
      obtain ⟨cur, hcur, -⟩ := own_blk hvs
      have := lt_of_block hcur
      omega
    by_cases hlt : l < L
    · obtain ⟨s, hs⟩ : ∃ s, L - l = s + 1 := ⟨L - l - 1, by omega⟩
      have hq1 : (0 : Int) ≤ (below.length : Int) + 3 := by omega
      have hM : ((below.length : Int) + 4 - 1) / 4 = (qs below.length : Int) := by unfold qs; omega
      have hMl : qs below.length ≤ 200 := by unfold qs; omega
      have HMq : Hid (∀ m, m < qs below.length → 4 * m < below.length) := Lib.hid (fun m hm => by unfold qs at hm; omega)
      obtain ⟨M, hMM⟩ : ∃ M, qs below.length = M := ⟨_, rfl⟩
      rw [hMM] at hM hMl HMq
      have HMM := Lib.hid hMM
      have HS1 := Lib.hid hs
      clear hMM hs
      have mk := fun W : World => run_make_row' (P := Try.prog) 24 41 (.int .u64 0) 8 Try.underlying24 info_G rfl .i64 .i64 M (by omega) (by omega) W
      go_wp2_with fail
      clear mk
      obtain ⟨V, hV⟩ : ∃ V, V = wo.alloc (.cells (madeCells #[.int .u64 0] M) 41) := ⟨_, rfl⟩
      rw [← hV]
      have HV : Hid (Below wo.heap.size wo V ∧ V.heap.size = wo.heap.size + 1 ∧ V.heap[wo.heap.size]? = some (.cells (madeCells #[.int .u64 0] M) 41 (0, 0))) := Lib.hid (by
        subst hV
        exact ⟨(Below.refl _ _).alloc (Nat.le_refl _) _, by simp, heap_alloc_new _ _⟩)
      clear hV
      have HVS := Lib.hid HV.out.2.1
      have HG0 : Hid (vg.ownBlock ≠ some wo.heap.size) := Lib.hid (fun e => by have := (HPr.out.pa.ar.g.lt _ e).2; omega)
      have hkol' : ko < wo.heap.size := by have := HBU.out.size; omega
      have HKOr := Lib.hid ((HBU.out.block ko hkol hnk.1 hnk.2).trans HKO.out)
      have HROr := Lib.hid (RR.keeps HP.out HBU.out HRO.out)
      go_loopw [31] (fun i wr => ∃ (m : Nat) (hs : List Int) (q' : Pl) (vg' vu' vf' : Value), i = .int .i64 m ∧ m ≤ M ∧ hs.length = m ∧ Hid (vg'.ownBlock ≠ some wo.heap.size) ∧
          Hid (wr.ownsRow wo.heap.size 41 1 (.slice (some ⟨wo.heap.size, 0, none⟩) M M) M (gvs (hs ++ List.replicate (M - m) 0))) ∧ Hid (PB wr k g B cc vg' vu' vf' q') ∧ Hid (PK n G q') ∧ Hid (U64 hs) ∧
          Hid (q.lays ((old.drop l).headD []) (fours M below) = (q'.lays (((old.drop l).headD []).drop m) (fours (M - m) (below.drop (4 * m)))).map (fun r => (r.1, hs ++ r.2))) ∧ Hid (But k g wo wr)) (fun i _ => M - (intOf i).toNat)
      case atStart =>
        refine ⟨0, [], q, vg, vu, vf, rfl, Nat.zero_le _, rfl, HG0, Lib.hid ?_, Lib.hid (HPr.out.below HV.out.1), HKr, Lib.hid (fun x hx => by simp at hx), Lib.hid (by simp), Lib.hid (But.of_below HV.out.1)⟩
        have := own_block HV.out.2.2 (Nat.le_refl _) (by omega)
        simpa [gvs] using this
      case round =>
        obtain ⟨m, hs, q', vg', vu', vf', rfl, hmM, hhl, HGm, HOm, HPm, HKm, HUm, HEm, HBm⟩ := hrel
        have hsm : wo.heap.size + 1 ≤ wr.heap.size := by
          obtain ⟨cur, hcur, -⟩ := own_blk HOm.out
          have := lt_of_block hcur
          omega
        have HKOm := Lib.hid ((HBm.out.block ko hkol' hnk.1 hnk.2).trans HKOr.out)
        have HROm := Lib.hid (RR.keeps HPr.out HBm.out HROr.out)
        have HBb := Lib.hid (HB0.out wr HBm.out)
        have HRm := Lib.hid (RP.keeps HPr.out HBm.out HR.out)
        by_cases hlm : m < M
        · have h4m := HMq.out m hlm
          obtain ⟨gb, off, hbp, hgb, hcb⟩ := HBb.out (by omega)
          subst hbp
          have HCB := Lib.hid hcb
          clear hcb
          have m0 : (0 : Int) ≤ (m : Int) := by omega
          have m1 : (m : Int) < (M : Int) := by omega
          have m4 : (m : Int) * 4 = ((4 * m : Nat) : Int) := by omega
          have m5 : (0 : Int) ≤ (m : Int) * 4 := by omega
          have m6 : (m : Int) * 4 ≤ (below.length : Int) := by omega
          have m7 : (m : Int) * 4 ≤ (bc : Int) := by omega
          have HDL : Hid ((below.drop (4 * m)).length = below.length - 4 * m) := Lib.hid (by simp)
          have HFL : Hid (Calls Try.prog 70 #[.slice (some ⟨gb, off + 4 * m, none⟩) (below.length - 4 * m) (bc - 4 * m)] wr (GivesV (cval ((below.drop (4 * m)).take 4)) wr)) := Lib.hid (by
            have := filled_any gb (off + 4 * m) (bc - 4 * m) (below.drop (4 * m)) wr hgb (RL.drop HCB.out (4 * m)) (by simp; omega) (by simp; omega)
            rwa [HDL.out] at this)
          obtain ⟨t, ht⟩ : ∃ t, M - m = t + 1 := ⟨M - m - 1, by omega⟩
          have HC4 : Hid (((below.drop (4 * m)).take 4).length ≤ 4 ∧ U64 ((below.drop (4 * m)).take 4)) := Lib.hid ⟨by simp; omega, (HU.out.drop _).take _⟩
          have HF4 : Hid (fours (M - m) (below.drop (4 * m)) = (below.drop (4 * m)).take 4 :: fours t (below.drop (4 * (m + 1)))) := Lib.hid (by rw [ht, fours_step, List.drop_drop, Nat.mul_add])
          have HT := Lib.hid ht
          clear ht
          generalize (below.drop (4 * m)).take 4 = c at *
          unfold cval at HFL
          go_wp2_with fail
          refine HFL.out.mono ?_
          rintro e w1 ⟨rfl, hb1⟩
          have HB1 := Lib.hid hb1
          have hs1 := hb1.size
          have HPL : Hid (Calls Try.prog 38 #[.int .i64 l, .int .i64 m, cval c, .pointer (some ⟨ko, 0, none⟩), .pointer (some ⟨k, 0, none⟩)] w1 (GivesP k g B cc vg' q' (q'.place (atR old l m) c) w1)) := Lib.hid
            (place_any l m ko k g B cc b c old vo vg' vu' vf' q' n G w1 ((hb1.block ko (by omega)).trans HKOm.out) (HROm.out.below hb1) (by have := HOO.out.len; omega) (by omega) (by omega) (fun r hr => by have := HOO.out.row r hr; omega) (HPm.out.below hb1) HKm.out hG hBk (HOO.out.at l m))
          unfold cval at HPL
          have HP1 := Lib.hid (HPm.out.below hb1)
          clear hb1
          go_wp2_with fail
          refine HPL.out.mono ?_
          rintro e w2 (⟨ho, rfl, hpb, hbut⟩ | ⟨q2, x, ho, rfl, hpb, hbut⟩)
          · have HQ := Lib.hid (And.intro ho hbut)
            clear ho hpb hbut
            go_wp2
            go_ret2
            refine ⟨.inl ⟨?_, rfl⟩, ((HBU.out.trans HBm.out).trans (But.of_below HB1.out)).trans HQ.out.2⟩
            rw [HE.out, HS1.out, raise_succ, HMM.out, HEm.out, HF4.out, lays_cons, atR_head, HQ.out.1]
            rfl
          · obtain ⟨vg2, vu2, vf2, hpb, hfr⟩ := hpb
            have HQ := Lib.hid ho
            have HPB2 := Lib.hid hpb
            have HBT := Lib.hid hbut
            have hG2 := hfr wo.heap.size (by omega) HGm.out
            have HPS := Lib.hid (place_some HKm.out hG HC4.out.1 HC4.out.2 (fun hne => ⟨(HOO.out.at l m hne).1, (HOO.out.at l m hne).2.1⟩) ho)
            have HO2 := Lib.hid (HP1.out.keeps hbut (own_below HOm.out HB1.out) (by decide) (by decide))
            clear ho hpb hbut hfr
            obtain ⟨cur, hcur, -⟩ := own_blk HO2.out
            have hsz2 := lt_of_block hcur
            have hlen : (hs ++ List.replicate (M - m) 0).length = M := by simp; omega
            have cR : w2.cell? ⟨wo.heap.size, m, none⟩ = some (.int .u64 ((hs ++ List.replicate (M - m) 0).getD m 0)) := own_at_gen HO2.out hlm
            have zR : w2.frozen? ⟨wo.heap.size, m, none⟩ = false := HO2.out.frozenAt m
            have HPB3 := Lib.hid (HPB2.out.set hcur (by decide) (by decide) (by decide) (by decide) hG2 m (.int .u64 x))
            have HO3 : Hid ((w2.setCell ⟨wo.heap.size, m, none⟩ (.int .u64 x)).ownsRow wo.heap.size 41 1 (.slice (some ⟨wo.heap.size, 0, none⟩) M M) M (gvs ((hs ++ [x]) ++ List.replicate (M - (m + 1)) 0))) := Lib.hid (by
              have := (HO2.out.stored m (.int .u64 x)).1
              rw [← set_map_gen, HT.out, ← hhl, set_zeros] at this
              rw [show M - (m + 1) = t by have := HT.out; omega]
              rw [hhl] at this
              exact this)
            clear hcur
            generalize (hs ++ List.replicate (M - m) 0).getD m 0 = y at *
            go_wp2
            go_roundw
            case rel =>
              refine ⟨m + 1, hs ++ [x], q2, vg2, vu2, vf2, by go_num, by omega, by simp [hhl], Lib.hid hG2, HO3, HPB3, Lib.hid HPS.out.1, Lib.hid ?_, Lib.hid ?_, Lib.hid ?_⟩
              · intro y hy
                rcases List.mem_append.1 hy with hy | hy
                · exact HUm.out y hy
                · have : y = x := by simpa using hy
                  subst this
                  exact HPS.out.2
              · rw [HEm.out, HF4.out, lays_cons, atR_head, HQ.out, show M - (m + 1) = t by have := HT.out; omega, tail_drop]
                simp only [Option.map_map]
                congr 1
                funext r
                simp
              · exact ((HBm.out.trans (But.of_below HB1.out)).trans HBT.out).set (by simp) _
            case measure => simp [intOf] <;> omega
        · obtain rfl : m = M := by omega
          have HOe : Hid (wr.ownsRow wo.heap.size 41 1 (.slice (some ⟨wo.heap.size, 0, none⟩) m m) hs.length (gvs hs)) := Lib.hid (by have := HOm.out; rw [Nat.sub_self, List.replicate_zero, List.append_nil] at this; rw [hhl]; exact this)
          have HR2 := Lib.hid (HRm.out.push (by omega) (l := hs) (own_drop HOe.out (by omega)))
          obtain ⟨vs, hvs, -⟩ := HRm.out
          obtain ⟨curb, hgb, -⟩ := own_blk hvs
          have cR : ∃ u, wr.cell? ⟨w.heap.size, l, none⟩ = some u := by
            have hl : vs.length = L := by have := hvs.1; omega
            exact ⟨vs[l]'(by omega), by rw [hvs.cellAt l (by omega), List.getElem?_eq_getElem (by omega)]⟩
          obtain ⟨u, hu⟩ := cR
          have zR : wr.frozen? ⟨w.heap.size, l, none⟩ = false := hvs.frozenAt l
          have HPB3 := Lib.hid (HPm.out.set hgb (by decide) (by decide) (by decide) (by decide) (own_apart5 HPm.out.pa.ar.g hgb (by decide)) l (.slice (some ⟨wo.heap.size, 0, none⟩) m m))
          have HO3 : Hid ((wr.setCell ⟨w.heap.size, l, none⟩ (.slice (some ⟨wo.heap.size, 0, none⟩) m m)).ownsRow 0 41 1 (.slice (some ⟨wo.heap.size, 0, none⟩) m m) hs.length (gvs hs)) := Lib.hid (own_drop (ownsRow_setCell_other HOe.out (own_apart5 HOe.out hgb (by decide)) _) (Nat.zero_le _))
          have HO3' : (wr.setCell ⟨w.heap.size, l, none⟩ (.slice (some ⟨wo.heap.size, 0, none⟩) m m)).ownsRow 0 41 1 (.slice (some ⟨wo.heap.size, 0, none⟩) hs.length m) hs.length (gvs hs) := by
            have := HO3.out
            rw [hhl] at this ⊢
            exact this
          have l0 : (0 : Int) ≤ (l : Int) := by omega
          have l1 : (l : Int) < (L : Int) := by omega
          clear hvs hgb
          go_wp2
          go_roundw
          case rel =>
            refine ⟨l + 1, hs, done ++ [hs], q', vg', vu', vf', some ⟨wo.heap.size, 0, none⟩, m, by go_num, by rw [hhl], by omega, by simp [hdl], by omega, by omega, by omega, Lib.hid (fun w' hb => RL.of_own (HPB3.out.keeps hb HO3' (by decide) (by decide))), ?_, HUm, HPB3, HKm, Lib.hid ?_, Lib.hid ?_⟩
            · rw [hdl] at HR2; exact HR2
            · rw [HE.out, HS1.out, raise_succ, HMM.out, HEm.out, Nat.sub_self, fours, Pl.lays, show L - (l + 1) = s by have := HS1.out; omega, List.tail_drop]
              simp only [Option.map_some, List.append_nil, Option.map_map]
              congr 1
              funext r
              simp
            · exact (HBU.out.trans HBm.out).set (by simp) _
          case measure => simp [intOf] <;> omega
    · obtain rfl : l = L := by omega
      go_wp2
      go_ret2
      refine ⟨.inr ⟨q, done, _, vg, vu, vf, ?_, rfl, HR.out.end hdl, HPr.out⟩, HBU.out⟩
      rw [HE.out, Nat.sub_self, Pl.raise]
      simp
end Go.Proofs.Ytbldjlkofaiikaa
