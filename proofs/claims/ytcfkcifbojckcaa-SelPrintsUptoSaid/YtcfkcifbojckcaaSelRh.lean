/-
  The document's own Parse.
-/
import Derived.Test.YtcfkcifbojckcaaSelRg
namespace Go.Proofs.Ytcfkcifbojckcaa
open Go.ChangeShapes Go.WideShapes Go.ChangeAt Go.RowKit
open Go.PlainAid (bt)
open Sl (St Te Stp Mo tstep cstep fin isB isL isN)
set_option linter.unusedVariables false
set_option linter.unusedSimpArgs false

/-- What the document's Parse tells. -/
def ZRes (s : ByteArray) (w : World) (e : Ending) (w' : World) : Prop :=
  ((∃ (x : List Mr) (v : Value), e = .returned (.tuple #[v, .int .i64 0, .int .i64 0]) ∧ SrR w' w.heap.size v x ∧ Sl.parse (ls s) = .ok (rws x)) ∨ (∃ k : Nat, e = .returned (.tuple #[.slice none 0 0, .int .i64 k, .int .i64 90]) ∧ Sl.parse (ls s) = .error k)) ∧ Below w.heap.size w w'
set_option maxRecDepth 100000 in
set_option maxHeartbeats 8000000 in
theorem rparse_any (s : ByteArray) (w : World) (hs : s.size ≤ 4000000) :
    Calls Try.prog 14 #[.string s] w (ZRes s w) := by
  have HRW := Lib.hid (fun (k : Nat) (V : World) (R : List (List Stp)) (hA : At s k ⟨R, [], [], false, .comp⟩) => rrow_any s k V R hs hA)
  obtain ⟨i0, hi0, hz0, hz1, hz2⟩ := info_parts info_rrow
  have HJ := Lib.hid (And.intro hi0 (And.intro hz0 (And.intro hz1 hz2)))
  obtain ⟨W0, hW0⟩ : ∃ W0, W0 = w.alloc (.cells #[] 46) := ⟨_, rfl⟩
  have HB0 : Hid (Below w.heap.size w W0) := Lib.hid (by rw [hW0]; exact (Below.refl _ _).alloc (Nat.le_refl _) _)
  have HS0 : Hid (SrR W0 w.heap.size (.slice (some ⟨w.heap.size, 0, none⟩) 0 0) []) := Lib.hid ⟨by rw [hW0]; exact own_empty (Nat.le_refl _), fun m hm => absurd hm (by simp)⟩
  clear hi0 hz0 hz1 hz2
  have HA0 := Lib.hid (At.zero s)
  go_enter Try.func14, Try.ntmps14
  go_wp2_with fail
  rw [← hW0]
  clear hW0
  go_loopw [5, 6] (fun q4 q5 wr => ∃ (V : World) (x : List Mr) (j : Nat) (p : Option Addr) (cap : Nat), V = wr ∧ q4 = .slice p x.length cap ∧ q5 = .int .i64 j ∧ j ≤ s.size ∧ x.length ≤ j ∧ Hid (SrR V w.heap.size (.slice p x.length cap) x) ∧ Hid (At s j ⟨rws x, [], [], false, .comp⟩) ∧ Hid (Below w.heap.size w V)) (fun _ q5 _ => s.size - (intOf q5).toNat)
  case atStart => exact ⟨_, [], 0, some ⟨w.heap.size, 0, none⟩, 0, rfl, rfl, rfl, Nat.zero_le _, Nat.zero_le _, HS0, HA0, HB0⟩
  case round =>
    clear HB0 HS0 HA0
    obtain ⟨V, x, j, p, cap, rfl, rfl, rfl, hjs, hxj, HS, HA, HB⟩ := hrel
    have HR1 := Lib.hid (HRW.out j V (rws x) HA.out)
    go_wp2_with fail
    refine HR1.out.mono ?_
    rintro e w2 ⟨hcs, hg⟩
    have HB2 := Lib.hid (HB.out.trans (hg.mono HB.out.size))
    have HS2 := Lib.hid (HS.out.below hg)
    have HV2 := Lib.hid HB.out.size
    clear hg
    rcases hcs with ⟨l, k, v, rfl, hw, hd, hjk, hks, hend⟩ | ⟨k, v, rfl, hpe⟩
    · obtain ⟨p2, cap2, rfl, -⟩ := own_form2 hw.row
      have HW2 := Lib.hid (hw.mono HV2.out)
      have HD2 := Lib.hid hd
      clear hw hd
      obtain ⟨n2, hn2⟩ : ∃ n2, l.length = n2 := ⟨_, rfl⟩
      have HN2 := Lib.hid hn2
      rw [hn2] at HW2 ⊢
      clear hn2
      have HXB : Hid (Below w2.heap.size w2 (w2.alloc (.cells #[.slice p2 n2 cap2] 46))) := Lib.hid ((Below.refl _ _).alloc (Nat.le_refl _) _)
      have HX := Lib.hid (own_below HS2.out.row HXB.out)
      have HXC := Lib.hid (cells1 _ _ _ _ (heap_alloc_new w2 (.cells #[.slice p2 n2 cap2] 46)))
      have HXS := Lib.hid (Nat.le_trans HB2.out.size HXB.out.size)
      obtain ⟨nl, hnl⟩ : ∃ nl, x.length = nl := ⟨_, rfl⟩
      have HNL := Lib.hid hnl
      rw [hnl] at HX hxj ⊢
      clear hnl
      have hcase : ((((k : Nat) : Int) == (s.size : Int)) = true ∧ k = s.size) ∨ ((((k : Nat) : Int) == (s.size : Int)) = false ∧ k < s.size) := by
        by_cases he : k = s.size
        · exact .inl ⟨by simp; omega, he⟩
        · exact .inr ⟨by simp; omega, by omega⟩
      have HM9 : Hid (rws (x ++ [((p2, cap2), l)]) = rws x ++ [l.map stp]) := Lib.hid (by rw [rws, List.map_append]; rfl)
      have hlen : (x ++ [((p2, cap2), l)]).length = nl + 1 := by rw [List.length_append, HNL.out]; rfl
      have HPE : Hid (k = s.size → Sl.parse (ls s) = .ok (rws (x ++ [((p2, cap2), l)]))) := Lib.hid (fun he => by
        rw [HM9.out]
        exact rdr_end HD2.out (lk_end (by omega)))
      have HA9 : Hid (k < s.size → At s (k + 1) ⟨rws (x ++ [((p2, cap2), l)]), [], [], false, .comp⟩) := Lib.hid (fun hlt => by
        rw [HM9.out]
        exact rdr_comma HD2.out (by rcases hend with h | h; exact absurd h (lk_ne hlt); exact h))
      have HS9 : Hid (∀ (V' : World) (v' : Value), V'.ownsRow w.heap.size 46 1 v' (nl + 1) (rcells x ++ [.slice p2 n2 cap2]) → (w2.alloc (.cells #[.slice p2 n2 cap2] 46)).grownBy V' (Value.slice p nl cap).ownBlock → SrR V' w.heap.size v' (x ++ [((p2, cap2), l)])) := Lib.hid (fun V' v' ho hg => by
        have hX := HS2.out.below HXB.out
        rw [HNL.out] at hX
        refine hX.more (m := ((p2, cap2), l)) ?_ ?_ hg
        · show RwR _ _ (.slice p2 l.length cap2) l
          rw [HN2.out]
          exact HW2.out.below HXB.out
        · rw [HNL.out]
          show World.ownsRow _ _ _ _ _ _ (_ ++ [.slice p2 l.length cap2])
          rw [HN2.out]
          exact ho)
      clear HM9 hend
      generalize x ++ [((p2, cap2), l)] = x' at *
      rcases hcase with ⟨q1, he⟩ | ⟨q1, hlt⟩
      · have HPE2 := Lib.hid (HPE.out he)
        clear he HPE HA9
        go_wp2_with (at_builtin; refine wpList_append_own_at _ rfl _ _ 31 rfl w.heap.size 46 i0 (.slice none 0 0) 1 24 Try.underlying31 HJ.out.1 HJ.out.2.1 HJ.out.2.2.1 HJ.out.2.2.2 rfl (by decide) _ _ _ rfl HX.out ⟨w2.heap.size, 0, none⟩ 1 1 [.slice p2 n2 cap2] rfl rfl HXC.out (by intro u hu; simp only [List.mem_cons, List.not_mem_nil, or_false] at hu; subst hu; rfl) (by unfold maxLen; omega) (by omega) HXS.out ?_; intro v' V' hown' hgrow hnz hat; have HO' := Lib.hid hown'; have HGR := Lib.hid hgrow; clear hown' hgrow hnz hat)
        have HB9 : Hid (Below w.heap.size w V') := Lib.hid ((HB2.out.trans (HXB.out.mono HB2.out.size)).grown HGR.out HXS.out (fun q e => (HX.out.lt q e).1))
        have HSx := HS9.out V' v' HO'.out HGR.out
        go_ret3
        exact ⟨.inl ⟨x', v', rfl, HSx, HPE2.out⟩, HB9.out⟩
      · have HA2 := Lib.hid (HA9.out hlt)
        clear HPE HA9
        go_wp2_with (at_builtin; refine wpList_append_own_at _ rfl _ _ 31 rfl w.heap.size 46 i0 (.slice none 0 0) 1 24 Try.underlying31 HJ.out.1 HJ.out.2.1 HJ.out.2.2.1 HJ.out.2.2.2 rfl (by decide) _ _ _ rfl HX.out ⟨w2.heap.size, 0, none⟩ 1 1 [.slice p2 n2 cap2] rfl rfl HXC.out (by intro u hu; simp only [List.mem_cons, List.not_mem_nil, or_false] at hu; subst hu; rfl) (by unfold maxLen; omega) (by omega) HXS.out ?_; intro v' V' hown' hgrow hnz hat; have HO' := Lib.hid hown'; have HGR := Lib.hid hgrow; clear hown' hgrow hnz hat)
        have HB9 : Hid (Below w.heap.size w V') := Lib.hid ((HB2.out.trans (HXB.out.mono HB2.out.size)).grown HGR.out HXS.out (fun q e => (HX.out.lt q e).1))
        have HSx := Lib.hid (HS9.out V' v' HO'.out HGR.out)
        obtain ⟨p', cap', rfl, -⟩ := own_form2 HO'.out
        refine ⟨⟨V', x', k + 1, p', cap', rfl, by rw [hlen], by go_num, by omega, by omega, Lib.hid (by rw [hlen]; exact HSx.out), HA2, HB9⟩, ?_⟩
        simp [intOf]
        omega
    · have HPE := Lib.hid hpe
      clear hpe
      go_wp2
      go_ret3
      exact ⟨.inr ⟨k, rfl, HPE.out⟩, HB2.out⟩
end Go.Proofs.Ytcfkcifbojckcaa
