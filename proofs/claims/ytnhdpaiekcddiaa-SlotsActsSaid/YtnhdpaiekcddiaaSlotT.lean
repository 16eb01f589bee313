/-
  The law SlotsAll, at any input.
-/
import Derived.Test.YtnhdpaiekcddiaaSlotS
import Derived.SliceStrings
import Derived.Deep.RegionWith
import Derived.ChangeSlices
namespace Go.Proofs.Ytnhdpaiekcddiaa
open Go.ChangeShapes Go.WideShapes Go.ChangeAt Go.RowKit
set_option linter.unusedVariables false

/-- The list A, n that came in holds the numbers zs of 16 bits. -/
def UU (w : World) (A : Option Addr) (n : Nat) (zs : List Int) : Prop :=
  zs.length = n ∧ (∀ z ∈ zs, 0 ≤ z ∧ z ≤ 65535) ∧ (0 < n → ∃ b off, A = some ⟨b, off, none⟩ ∧ b < w.heap.size ∧ ∀ j x, zs[j]? = some x → w.cell? ⟨b, off + j, none⟩ = some (.int .u16 x))
theorem UU.at_ {w w' : World} {A : Option Addr} {n j : Nat} {zs : List Int} (h : UU w A n zs) (hb : Below w.heap.size w w') (hj : j < n) : ∃ b off, A = some ⟨b, off, none⟩ ∧ b < w.heap.size ∧ w'.cell? ⟨b, off + j, none⟩ = some (.int .u16 (zs.getD j 0)) ∧ 0 ≤ zs.getD j 0 ∧ zs.getD j 0 ≤ 65535 := by
  obtain ⟨b, off, e, hlt, hc⟩ := h.2.2 (by omega)
  have hjl : j < zs.length := by rw [h.1]; exact hj
  have e1 : zs.getD j 0 = zs[j] := getD_at 0 hjl
  refine ⟨b, off, e, hlt, ?_, ?_⟩
  · rw [hb.cell (p := ⟨b, off + j, none⟩) hlt, hc j zs[j] (List.getElem?_eq_getElem hjl), e1]
  · rw [e1]; exact h.2.1 _ (List.getElem_mem hjl)
theorem cells_u16 : Try.prog.cellsOf 38 = 1 := by kernel_rfl
theorem uu_open {H : Type} {enc : TypeId × Value → H} {W : World} {base : Nat} {v : Value} {d : DataW H} {ps : List MemPlace} (hv : Value.okWide Try.prog W .any base 22 v)
    (h : DataW.Trod enc Try.prog W 0 (fun _ => true) true 22 v d ps) (hlt : ∀ x ∈ ps, x.block < W.heap.size) :
    ∃ (A : Option Addr) (n cap : Nat) (zs : List Int), v = .slice A n cap ∧ n ≤ maxLen ∧ UU W A n zs := by
  obtain ⟨a0, len, cap, rfl⟩ := okWide_slice Try.underlying22 hv
  obtain ⟨fuel, hf⟩ := h
  rcases open_ints Try.underlying22 Try.underlying38 cells_u16 hf with ⟨hcs, hx⟩ | ⟨a, len', cap', ss, hcs, _, hl, hm, hz, hx, hcell, hws⟩
  · simp [Value.cells] at hcs
    obtain ⟨rfl, rfl, rfl⟩ := hcs
    exact ⟨none, 0, 0, [], rfl, by simp [maxLen], ⟨rfl, by simp, fun h => by omega⟩⟩
  · simp [Value.cells] at hcs
    obtain ⟨rfl, rfl, rfl⟩ := hcs
    simp only [Prod.mk.injEq] at hx
    obtain ⟨rfl, rfl⟩ := hx
    simp only [if_true] at hz
    refine ⟨some a, len, cap, ss.take len, rfl, by omega, ⟨by rw [List.length_take]; omega, fun z hz => ?_, fun h0 => ?_⟩⟩
    · have h : IntKind.u16.min ≤ z ∧ z ≤ IntKind.u16.max := by simpa [Lit.wf] using hws z (List.mem_of_mem_take hz)
      exact h
    · obtain ⟨b, off, spot⟩ := a
      have hspot : spot = none := by simpa [Addr.add] using World.cell?_spot (hcell 0 (by omega))
      subst hspot
      refine ⟨b, off, rfl, hlt (.cell b off) (MemPlace.mem_row.2 ⟨0, by omega, by simp⟩), fun j x hx => ?_⟩
      obtain ⟨hj, e⟩ := List.getElem?_eq_some_iff.1 hx
      rw [List.length_take] at hj
      rw [← add_plain, hcell j (by omega)]
      rw [List.getElem_take] at e
      simp [List.getD, List.getElem?_eq_getElem (show j < ss.length by omega), e]

theorem quo16 {x c : Int} (h0 : 0 ≤ x) (h1 : x ≤ 65535) (hc : 0 < c) : ∃ y : Nat, IntKind.u16.wrap (x.tdiv c) = (y : Int) := by
  have e : x.tdiv c = x / c := Int.tdiv_eq_ediv_of_nonneg h0
  have h2 : 0 ≤ x / c := Int.ediv_nonneg h0 (Int.le_of_lt hc)
  have h3 : x / c ≤ x := Int.ediv_le_self _ h0
  refine ⟨(x / c).toNat, ?_⟩
  rw [e, IntKind.wrap_u16]
  omega
theorem quo16_le {x c : Int} {y : Nat} (h0 : 0 ≤ x) (h1 : x ≤ 65535) (hc : 0 < c) (h : IntKind.u16.wrap (x.tdiv c) = (y : Int)) : y ≤ 65535 := by
  rw [IntKind.wrap_u16] at h
  omega
section
variable {P : Program} {ops : Array Oper} {Q : Exit → Act → World → Prop} {md : Region.Mode} {S : World → Prop}
/-- An operation of a region that draws its order, taken first: it yields v into slot d in every world that meets S. -/
theorem held_take {i : Nat} {oi : Oper} {v : Value} {d : Option Tmp} {fuel : Nat} {listed : Array Bool} {a : Act} {w : World} (hi : ops[i]? = some oi) (hd : oi.dst = d)
    (hs : Region.noSelect ops = true) (hf : Region.free md ops listed i = true) (hr : (Region.ready md ops listed).contains i = true)
    (hQ : ∀ c a w, Q (.panic c) (a.put d v) w → Q (.panic c) a w) (hw : Region.wanted oi (yielded ops a.tmps) = true) (hy : ∀ w, S w → (execOp a.eval oi).run P w = .ok (.value v) w) (hS : S w)
    (h : wpAnyH P md ops Q S fuel (listed.setIfInBounds i true) (a.put d v) w) : wpAnyH P md ops Q S (fuel + 1) listed a w := by
  subst hd
  exact wpAnyH_take hi hs hf hr hQ (Or.inl ⟨hw, hy⟩) hS h
/-- One whose guard says no. -/
theorem held_none {i : Nat} {oi : Oper} {d : Option Tmp} {fuel : Nat} {listed : Array Bool} {a : Act} {w : World} (hi : ops[i]? = some oi) (hd : oi.dst = d)
    (hs : Region.noSelect ops = true) (hf : Region.free md ops listed i = true) (hr : (Region.ready md ops listed).contains i = true)
    (hQ : ∀ c a w, Q (.panic c) (a.put d undef) w → Q (.panic c) a w) (hw : Region.wanted oi (yielded ops a.tmps) = false) (hS : S w)
    (h : wpAnyH P md ops Q S fuel (listed.setIfInBounds i true) (a.put d undef) w) : wpAnyH P md ops Q S (fuel + 1) listed a w := by
  subst hd
  exact wpAnyH_take hi hs hf hr hQ (Or.inr ⟨hw, rfl⟩) hS h
end

theorem pair_at {L : List Int} (h : L.Pairwise (fun a b => a % 16777216 < b % 16777216)) {i : Nat} (hi : i + 1 < L.length) : L.getD i 0 % 16777216 < L.getD (i + 1) 0 % 16777216 := by
  rw [getD_at 0 (by omega), getD_at 0 hi]
  exact List.pairwise_iff_getElem.1 h i (i + 1) (by omega) hi (by omega)

set_option maxHeartbeats 8000000 in
set_option maxRecDepth 100000 in
theorem all_law (m : Nat) (hm : m ≤ 255) (A : Option Addr) (N ca : Nat) (zs : List Int) (w : World) (hZ : UU w A N zs) (hN : N ≤ maxLen) :
    Calls Try.prog 6 #[.int .u8 m, .slice A N ca] w (GivesV (.bool true) w) := by
  unfold maxLen at hN
  by_cases hlong : 150 < N
  · have HZ := Lib.hid hZ
    clear hZ
    go_enter Try.func6, Try.ntmps6
    go_wp2_with fail
    refine (shown_any _).mono ?_
    rintro e w1 ⟨rfl, hb⟩
    have HB := Lib.hid hb
    clear hb
    go_wp2
    go_ret
    exact ⟨rfl, HB.out⟩
  · have HZ := Lib.hid hZ
    clear hZ
    obtain ⟨n, hn⟩ : ∃ n : Nat, m % 30 = n := ⟨_, rfl⟩
    have hn' : (m : Int) % 30 = (n : Int) := by omega
    have hn1 : n ≤ 30 := by omega
    have HNn := Lib.hid hn'
    clear hn hn'
    go_enter Try.func6, Try.ntmps6
    go_wp2_with fail
    refine (shown_any _).mono ?_
    rintro e w1 ⟨rfl, hb⟩
    have HB1 := Lib.hid hb
    clear hb
    go_wp2_with fail
    rw [HNn.out]
    refine (new_ok n _ (by omega)).mono ?_
    rintro e w2 ⟨v1, v2, v3, rfl, hA, hb⟩
    obtain ⟨pg, cg, pu, cu, pf, cf, rfl, rfl, rfl⟩ := hA.form
    have HX := Lib.hid (Box.new 29 hA)
    have HB2 : Hid (Below w.heap.size w w2) := Lib.hid (HB1.out.trans (hb.mono HB1.out.size))
    have hsz : w.heap.size ≤ w2.heap.size := HB2.out.size
    have HOK : Hid (Ok n (1 + ((0 : Nat) : Int)) (fresh n)) := Lib.hid (fresh_ok (by omega))
    clear hA hb HB1
    obtain ⟨F, hF⟩ : ∃ F, fresh n = F := ⟨_, rfl⟩
    rw [hF] at HX HOK ⊢
    clear hF
    go_wp2_with fail
    obtain ⟨V, hV⟩ : ∃ V, V = w2.alloc (.cells #[.slice pg F.gens.length cg, .slice pu F.used.length cu, .slice pf F.free.length cf] 29) := ⟨_, rfl⟩
    have HBV : Hid (Below w.heap.size w V) := Lib.hid (by subst hV; exact HB2.out.alloc HB2.out.size _)
    rw [← hV] at HX ⊢
    clear hV
    obtain ⟨k, hk⟩ : ∃ k, k = w2.heap.size := ⟨_, rfl⟩
    rw [← hk] at HX hsz ⊢
    clear hk HB2
    go_loopw [7] (fun i wr => ∃ (q : Nat) (F : St) (pg : Option Addr) (cg : Nat) (pu : Option Addr) (cu : Nat) (pf : Option Addr) (cf : Nat), q ≤ N ∧ i = .int .i64 q ∧ Hid (Ok n (1 + (q : Int)) F) ∧ Hid (Box 29 wr k pg cg pu cu pf cf F) ∧ Hid (Below w.heap.size w wr)) (fun i _ => N - (intOf i).toNat)
    case atStart => exact ⟨0, F, pg, cg, pu, cu, pf, cf, Nat.zero_le _, rfl, HOK, HX, HBV⟩
    case round =>
      clear HX HBV HOK
      obtain ⟨q, F, pg, cg, pu, cu, pf, cf, hq, rfl, HOK, HX, HB⟩ := hrel
      obtain ⟨c0, c1, c2, z0, z1, z2⟩ := block3 HX.out.blk
      by_cases hlt : q < N
      · go_wp2_with fail
        refine (allO HOK.out (by omega) HX.out.ar).mono ?_
        rintro e w3 ⟨v3, rfl, ho3, hb⟩
        rw [gvs_length] at ho3
        obtain ⟨p3, c3, rfl, _, _, _⟩ := own_form ho3
        have HX3 := Lib.hid (HX.out.below hb)
        have HO3 := Lib.hid ho3
        have HB3 : Hid (Below w.heap.size w w3) := Lib.hid (HB.out.trans (hb.mono HB.out.size))
        clear ho3 hb c0 c1 c2 z0 z1 z2
        obtain ⟨b, off, rfl, hbw, ca0, a0, a1⟩ := HZ.out.at_ HB3.out hlt
        obtain ⟨x, hx⟩ : ∃ x, zs.getD q 0 = x := ⟨_, rfl⟩
        rw [hx] at ca0 a0 a1
        clear hx
        have q0 : (0 : Int) ≤ (q : Int) := by omega
        have q1 : (q : Int) < (N : Int) := by omega
        obtain ⟨c0, c1, c2, z0, z1, z2⟩ := block3 HX3.out.blk
        obtain ⟨ℓ, hℓ⟩ : ∃ ℓ, (F.al n).length = ℓ := ⟨_, rfl⟩
        have hℓb : ℓ ≤ n := by rw [← hℓ]; exact al_length F n
        rw [hℓ] at HO3
        rw [hℓ]
        have HL := Lib.hid hℓ
        clear hℓ
        by_cases h4 : 0 < x % 4
        · go_wp2_with fail
          refine (take_on HOK.out (by omega) HX3.out.ar).mono ?_
          rintro e w5 ⟨T', h', e', ⟨v1, v2, v3, rfl, hA, hb⟩, hO', hg'⟩
          obtain ⟨pg5, cg5, pu5, cu5, pf5, cf5, rfl, rfl, rfl⟩ := hA.form
          have HO5 : Hid (Ok n (1 + ((q + 1 : Nat) : Int)) T') := Lib.hid (hO'.mono (by omega))
          have HX5 := Lib.hid (HX3.out.below hb)
          have HB5 : Hid (Below w.heap.size w w5) := Lib.hid (HB3.out.trans (hb.mono HB3.out.size))
          have HA5 := Lib.hid hA
          clear hA hb hO' hg' c0 c1 c2 z0 z1 z2
          obtain ⟨c0, c1, c2, z0, z1, z2⟩ := block3 HX5.out.blk
          go_wp2
          go_roundw
          case rel => exact ⟨q + 1, T', pg5, cg5, pu5, cu5, pf5, cf5, by omega, by go_num, HO5, Lib.hid (Box.set HX5.out.blk HA5.out (by decide) (by decide) (by decide)), Lib.hid (below_set3 HB5.out hsz _ _ _)⟩
          case measure => simp [intOf] <;> omega
        · by_cases h5 : ℓ = 0
          · subst h5
            go_wp2_with fail
            refine (take_on HOK.out (by omega) HX3.out.ar).mono ?_
            rintro e w5 ⟨T', h', e', ⟨v1, v2, v3, rfl, hA, hb⟩, hO', hg'⟩
            obtain ⟨pg5, cg5, pu5, cu5, pf5, cf5, rfl, rfl, rfl⟩ := hA.form
            have HO5 : Hid (Ok n (1 + ((q + 1 : Nat) : Int)) T') := Lib.hid (hO'.mono (by omega))
            have HX5 := Lib.hid (HX3.out.below hb)
            have HB5 : Hid (Below w.heap.size w w5) := Lib.hid (HB3.out.trans (hb.mono HB3.out.size))
            have HA5 := Lib.hid hA
            clear hA hb hO' hg' c0 c1 c2 z0 z1 z2
            obtain ⟨c0, c1, c2, z0, z1, z2⟩ := block3 HX5.out.blk
            go_wp2
            go_roundw
            case rel => exact ⟨q + 1, T', pg5, cg5, pu5, cu5, pf5, cf5, by omega, by go_num, HO5, Lib.hid (Box.set HX5.out.blk HA5.out (by decide) (by decide) (by decide)), Lib.hid (below_set3 HB5.out hsz _ _ _)⟩
            case measure => simp [intOf] <;> omega
          · have hℓ0 : 0 < ℓ := by omega
            have hℓd : (((ℓ : Nat) : Int) == 0) = false := by simp; omega
            obtain ⟨y, hy⟩ : ∃ y : Nat, IntKind.u16.wrap (x.tdiv 4) = (y : Int) := quo16 a0 a1 (by decide)
            have hyb : y ≤ 65535 := quo16_le a0 a1 (by decide) hy
            obtain ⟨j, hj⟩ : ∃ j : Nat, (y : Int) % (ℓ : Int) = j := ⟨y % ℓ, by omega⟩
            have hjt : (y : Int).tmod (ℓ : Int) = j := by rw [Int.tmod_eq_emod_of_nonneg (by omega)]; exact hj
            have hjl : (j : Int) < (ℓ : Int) := by rw [← hj]; exact Int.emod_lt_of_pos _ (by omega)
            have hjl' : j < ℓ := by omega
            have j0 : (0 : Int) ≤ (j : Int) := by omega
            obtain ⟨g, rfl, _, hg3⟩ := own_some HO3.out hℓ0
            have ch := own_at_gen HO3.out hjl'
            obtain ⟨h, hh⟩ : ∃ h, (F.al n).getD j 0 = h := ⟨_, rfl⟩
            have hmem : h ∈ F.al n := by
              have hjL : j < (F.al n).length := by rw [HL.out]; exact hjl'
              rw [← hh, getD_at 0 hjL]
              exact List.getElem_mem hjL
            rw [hh] at ch
            have hO := HOK.out
            obtain ⟨h0, h1⟩ := al_bound hO (by omega) hmem
            obtain ⟨hlv, i, hi, hin⟩ := al_live (by omega) hmem
            obtain ⟨i', hi', _, hus, hgen⟩ := hO.live hlv
            obtain rfl : i = i' := by omega
            have hgb := hO.gen hin
            have HOG : Hid (Ok n (1 + ((q + 1 : Nat) : Int)) (F.gb i (h / 16777216 + 1))) := Lib.hid (hO.gb hin hus (by omega) (by omega) (by omega))
            have HLV := Lib.hid hlv
            have HI := Lib.hid hi
            have HLN : Hid ((F.gb i (h / 16777216 + 1)).lv h = false) := Lib.hid (lv_gb hi)
            clear hh hmem hO hlv hi hi' hus hgen hgb
            go_upto_region 13 with fail
            clear hj hjt hy
            go_wp2_with fail
            refine (giveO HOK.out (by omega) HX3.out.ar h0 h1 HLV.out HI.out).mono ?_
            obtain ⟨T, hT⟩ : ∃ T, F.gb i (h / 16777216 + 1) = T := ⟨_, rfl⟩
            rw [hT] at HOG HLN ⊢
            clear hT
            rintro e w5 ⟨v1, v2, v3, rfl, hA, hb⟩
            obtain ⟨pg5, cg5, pu5, cu5, pf5, cf5, rfl, rfl, rfl⟩ := hA.form
            have HX5 := Lib.hid (HX3.out.below hb)
            have HN5 := Lib.hid (Box.new 29 hA)
            have HB5 : Hid (Below w.heap.size w w5) := Lib.hid (HB3.out.trans (hb.mono HB3.out.size))
            clear hA hb c0 c1 c2 z0 z1 z2
            go_wp2_with fail
            obtain ⟨V5, hV⟩ : ∃ V, V = w5.alloc (.cells #[.slice pg5 T.gens.length cg5, .slice pu5 T.used.length cu5, .slice pf5 T.free.length cf5] 29) := ⟨_, rfl⟩
            have HBV5 : Hid (Below w.heap.size w V5) := Lib.hid (by subst hV; exact HB5.out.alloc HB5.out.size _)
            have HXV5 : Hid (Box 29 V5 k pg cg pu cu pf cf F) := Lib.hid (by subst hV; exact HX5.out.below ((Below.refl _ _).alloc (Nat.le_refl _) _))
            rw [← hV] at HN5 ⊢
            clear hV
            refine (giveN HOG.out HN5.out.ar h0 h1 HLN.out).mono ?_
            rintro e w6 ⟨v1, v2, v3, rfl, hA, hb⟩
            obtain ⟨pg6, cg6, pu6, cu6, pf6, cf6, rfl, rfl, rfl⟩ := hA.form
            have HX6 := Lib.hid (HXV5.out.below hb)
            have HN6 := Lib.hid (HN5.out.below hb)
            have HB6 : Hid (Below w.heap.size w w6) := Lib.hid (HBV5.out.trans (hb.mono HBV5.out.size))
            clear hA hb
            go_upto_region 15 with fail
            obtain ⟨V6, hV⟩ : ∃ V, V = w6.alloc (.cells #[.slice pg6 T.gens.length cg6, .slice pu6 T.used.length cu6, .slice pf6 T.free.length cf6] 29) := ⟨_, rfl⟩
            have HBV6 : Hid (Below w.heap.size w V6) := Lib.hid (by subst hV; exact HB6.out.alloc HB6.out.size _)
            have HXV6 : Hid (Box 29 V6 k pg cg pu cu pf cf F) := Lib.hid (by subst hV; exact HX6.out.below ((Below.refl _ _).alloc (Nat.le_refl _) _))
            have HNV6 : Hid (Box 29 V6 w5.heap.size pg5 cg5 pu5 cu5 pf5 cf5 T) := Lib.hid (by subst hV; exact HN6.out.below ((Below.refl _ _).alloc (Nat.le_refl _) _))
            rw [← hV]
            clear hV
            obtain ⟨c0, c1, c2, z0, z1, z2⟩ := block3 HXV6.out.blk
            obtain ⟨d0, d1, d2, y0, y1, y2⟩ := block3 HNV6.out.blk
            go_wp2
            go_roundw
            case rel => exact ⟨q + 1, T, pg5, cg5, pu5, cu5, pf5, cf5, by omega, by go_num, HOG, Lib.hid (Box.set HXV6.out.blk HNV6.out.ar (by decide) (by decide) (by decide)), Lib.hid (below_set3 HBV6.out hsz _ _ _)⟩
            case measure => simp [intOf] <;> omega
      · have hqN : 1 + (q : Int) ≤ 200 := by omega
        go_wp2_with fail
        refine (allO HOK.out (by omega) HX.out.ar).mono ?_
        rintro e w3 ⟨v3, rfl, ho3, hb⟩
        rw [gvs_length] at ho3
        obtain ⟨p3, c3, rfl, _, _, _⟩ := own_form ho3
        have HX3 := Lib.hid (HX.out.below hb)
        have HO3 := Lib.hid ho3
        have HB3 : Hid (Below w.heap.size w w3) := Lib.hid (HB.out.trans (hb.mono HB.out.size))
        clear ho3 hb c0 c1 c2 z0 z1 z2
        obtain ⟨ℓ, hℓ⟩ : ∃ ℓ, (F.al n).length = ℓ := ⟨_, rfl⟩
        have hℓb : ℓ ≤ n := by rw [← hℓ]; exact al_length F n
        rw [hℓ] at HO3
        rw [hℓ]
        have HL := Lib.hid hℓ
        clear hℓ
        go_wp2
        go_loopw [15] (fun i wr => ∃ q : Nat, q ≤ ℓ ∧ i = .int .i64 q ∧ Hid (Below w3.heap.size w3 wr)) (fun i _ => ℓ - (intOf i).toNat)
        case atStart => exact ⟨0, Nat.zero_le _, rfl, Lib.hid (Below.refl _ _)⟩
        case round =>
          clear hq hlt
          obtain ⟨j, hj, rfl, HBr⟩ := hrel
          have HXr := Lib.hid (HX3.out.below HBr.out)
          have HOr := Lib.hid (own_below HO3.out HBr.out)
          have hO := HOK.out
          by_cases hlt : j < ℓ
          · obtain ⟨g, rfl, _, hgr⟩ := own_some HOr.out (by omega)
            have ch := own_at_gen HOr.out hlt
            have hjL : j < (F.al n).length := by rw [HL.out]; exact hlt
            obtain ⟨h, hh⟩ : ∃ h, (F.al n).getD j 0 = h := ⟨_, rfl⟩
            have hmem : h ∈ F.al n := by rw [← hh, getD_at 0 hjL]; exact List.getElem_mem hjL
            rw [hh] at ch
            obtain ⟨h0, h1⟩ := al_bound hO (by omega) hmem
            obtain ⟨hlv, _⟩ := al_live (by omega) hmem
            have HLV := Lib.hid hlv
            have HHH := Lib.hid hh
            clear hlv hmem hO hh
            have j0 : (0 : Int) ≤ (j : Int) := by omega
            have j1 : (j : Int) < (ℓ : Int) := by omega
            by_cases hz : j = 0
            · have hdz : decide ((0 : Int) < (j : Int)) = false := by rw [hz]; rfl
              have hdn : decide (0 < j) = false := by rw [hz]; rfl
              have HZ0 := Lib.hid hz
              clear hz
              have HCV : Hid (∀ w', Below wr.heap.size wr w' → w'.cell? ⟨k, 0, none⟩ = some (.slice pg F.gens.length cg) ∧ w'.cell? ⟨k, 1, none⟩ = some (.slice pu F.used.length cu) ∧ w'.cell? ⟨k, 2, none⟩ = some (.slice pf F.free.length cf) ∧ w'.cell? ⟨g, j, none⟩ = some (.int .u64 h)) := Lib.hid (fun w' hb => by
                obtain ⟨c0, c1, c2, _, _, _⟩ := block3 (HXr.out.below hb).blk
                exact ⟨c0, c1, c2, (hb.cell (p := ⟨g, j, none⟩) hgr).trans ch⟩)
              go_wp2_with fail
              refine wp_region_held_drew (S := fun w' => w'.cell? ⟨k, 0, none⟩ = some (.slice pg F.gens.length cg) ∧ w'.cell? ⟨k, 1, none⟩ = some (.slice pu F.used.length cu) ∧ w'.cell? ⟨k, 2, none⟩ = some (.slice pf F.free.length cf) ∧ w'.cell? ⟨g, j, none⟩ = some (.int .u64 h)) (by kernel_rfl) (HCV.out _ (Below.refl _ _).drew) (fun hHeld => ?_)
              refine held_take (i := 0) (d := some 97) (v := ?_) rfl rfl (by kernel_rfl) (by kernel_rfl) (by kernel_rfl) (fun _ _ _ h => h) (by rfl) ?_ (by assumption) ?_
              rotate_left
              · intro w hSw
                try dsimp only at hSw
                first | (go_simp; done) | (go_simp; with_reducible rfl)
              simp only [Act.put, List.setIfInBounds_toArray, List.set_cons_zero, List.set_cons_succ]
              refine held_take (i := 1) (d := some 98) (v := ?_) rfl rfl (by kernel_rfl) (by kernel_rfl) (by kernel_rfl) (fun _ _ _ h => h) (by rfl) ?_ (by assumption) ?_
              rotate_left
              · intro w hSw
                try dsimp only at hSw
                first | (go_simp; done) | (go_simp; with_reducible rfl)
              simp only [Act.put, List.setIfInBounds_toArray, List.set_cons_zero, List.set_cons_succ]
              refine held_take (i := 2) (d := some 99) (v := ?_) rfl rfl (by kernel_rfl) (by kernel_rfl) (by kernel_rfl) (fun _ _ _ h => h) (by rfl) ?_ (by assumption) ?_
              rotate_left
              · intro w hSw
                try dsimp only at hSw
                first | (go_simp; done) | (go_simp; with_reducible rfl)
              simp only [Act.put, List.setIfInBounds_toArray, List.set_cons_zero, List.set_cons_succ]
              refine held_take (i := 3) (d := some 100) (v := ?_) rfl rfl (by kernel_rfl) (by kernel_rfl) (by kernel_rfl) (fun _ _ _ h => h) (by rfl) ?_ (by assumption) ?_
              rotate_left
              · intro w hSw
                try dsimp only at hSw
                first | (go_simp; done) | (go_simp; with_reducible rfl)
              simp only [Act.put, List.setIfInBounds_toArray, List.set_cons_zero, List.set_cons_succ]
              refine held_take (i := 4) (d := some 101) (v := ?_) rfl rfl (by kernel_rfl) (by kernel_rfl) (by kernel_rfl) (fun _ _ _ h => h) (by rfl) ?_ (by assumption) ?_
              rotate_left
              · intro w hSw
                try dsimp only at hSw
                first | (go_simp; done) | (go_simp; with_reducible rfl)
              simp only [Act.put, List.setIfInBounds_toArray, List.set_cons_zero, List.set_cons_succ]
              refine wpAnyH_ready (rs := [5]) (by kernel_rfl) (by simp) ?_
              refine AllReadyH.cons rfl (fun K hK => ?_) AllReadyH.nil
              go_simp
              refine (liveO HOK.out HXr.out.ar.drew h0 h1).mono ?_
              rw [HLV.out]
              rintro e w6 ⟨rfl, hb6⟩
              have HB6 : Hid (Below wr.heap.size wr w6) := Lib.hid ((Below.refl _ _).drew.trans hb6)
              clear hb6
              refine hK.out _ _ (HCV.out _ HB6.out) (fun hHeld2 => ?_)
              clear hK K hHeld
              refine held_take (i := 6) (d := some 103) (v := ?_) rfl rfl (by kernel_rfl) (by kernel_rfl) (by kernel_rfl) (fun _ _ _ h => h) (by rfl) ?_ (by assumption) ?_
              rotate_left
              · intro w hSw
                try dsimp only at hSw
                first | (go_simp; done) | (go_simp; with_reducible rfl)
              simp only [Act.put, List.setIfInBounds_toArray, List.set_cons_zero, List.set_cons_succ]
              refine held_take (i := 7) (d := some 104) (v := ?_) rfl rfl (by kernel_rfl) (by kernel_rfl) (by kernel_rfl) (fun _ _ _ h => h) (by rfl) ?_ (by assumption) ?_
              rotate_left
              · intro w hSw
                try dsimp only at hSw
                first | (go_simp; done) | (go_simp; with_reducible rfl)
              simp only [Act.put, List.setIfInBounds_toArray, List.set_cons_zero, List.set_cons_succ]
              refine held_take (i := 8) (d := some 105) (v := ?_) rfl rfl (by kernel_rfl) (by kernel_rfl) (by kernel_rfl) (fun _ _ _ h => h) (by rfl) ?_ (by assumption) ?_
              rotate_left
              · intro w hSw
                try dsimp only at hSw
                first | (go_simp; done) | (go_simp; with_reducible rfl)
              simp only [Act.put, List.setIfInBounds_toArray, List.set_cons_zero, List.set_cons_succ]
              refine held_take (i := 9) (d := some 106) (v := ?_) rfl rfl (by kernel_rfl) (by kernel_rfl) (by kernel_rfl) (fun _ _ _ h => h) (by rfl) ?_ (by assumption) ?_
              rotate_left
              · intro w hSw
                try dsimp only at hSw
                first | (go_simp; done) | (go_simp; with_reducible rfl)
              simp only [Act.put, List.setIfInBounds_toArray, List.set_cons_zero, List.set_cons_succ]
              refine held_take (i := 10) (d := some 107) (v := ?_) rfl rfl (by kernel_rfl) (by kernel_rfl) (by kernel_rfl) (fun _ _ _ h => h) (by rfl) ?_ (by assumption) ?_
              rotate_left
              · intro w hSw
                try dsimp only at hSw
                first | (go_simp; done) | (go_simp; with_reducible rfl)
              simp only [Act.put, List.setIfInBounds_toArray, List.set_cons_zero, List.set_cons_succ]
              refine held_none (i := 11) (d := some 108) rfl rfl (by kernel_rfl) (by kernel_rfl) (by kernel_rfl) (fun _ _ _ h => h) (by rfl) (by assumption) ?_
              simp only [Act.put, List.setIfInBounds_toArray, List.set_cons_zero, List.set_cons_succ]
              refine held_none (i := 12) (d := some 109) rfl rfl (by kernel_rfl) (by kernel_rfl) (by kernel_rfl) (fun _ _ _ h => h) (by rfl) (by assumption) ?_
              simp only [Act.put, List.setIfInBounds_toArray, List.set_cons_zero, List.set_cons_succ]
              refine held_none (i := 13) (d := some 110) rfl rfl (by kernel_rfl) (by kernel_rfl) (by kernel_rfl) (fun _ _ _ h => h) (by rfl) (by assumption) ?_
              simp only [Act.put, List.setIfInBounds_toArray, List.set_cons_zero, List.set_cons_succ]
              refine held_none (i := 14) (d := some 111) rfl rfl (by kernel_rfl) (by kernel_rfl) (by kernel_rfl) (fun _ _ _ h => h) (by rfl) (by assumption) ?_
              simp only [Act.put, List.setIfInBounds_toArray, List.set_cons_zero, List.set_cons_succ]
              refine held_none (i := 15) (d := some 112) rfl rfl (by kernel_rfl) (by kernel_rfl) (by kernel_rfl) (fun _ _ _ h => h) (by rfl) (by assumption) ?_
              simp only [Act.put, List.setIfInBounds_toArray, List.set_cons_zero, List.set_cons_succ]
              refine held_none (i := 16) (d := some 113) rfl rfl (by kernel_rfl) (by kernel_rfl) (by kernel_rfl) (fun _ _ _ h => h) (by rfl) (by assumption) ?_
              simp only [Act.put, List.setIfInBounds_toArray, List.set_cons_zero, List.set_cons_succ]
              refine held_none (i := 17) (d := some 114) rfl rfl (by kernel_rfl) (by kernel_rfl) (by kernel_rfl) (fun _ _ _ h => h) (by rfl) (by assumption) ?_
              simp only [Act.put, List.setIfInBounds_toArray, List.set_cons_zero, List.set_cons_succ]
              refine held_none (i := 18) (d := some 115) rfl rfl (by kernel_rfl) (by kernel_rfl) (by kernel_rfl) (fun _ _ _ h => h) (by rfl) (by assumption) ?_
              simp only [Act.put, List.setIfInBounds_toArray, List.set_cons_zero, List.set_cons_succ]
              refine held_none (i := 19) (d := some 116) rfl rfl (by kernel_rfl) (by kernel_rfl) (by kernel_rfl) (fun _ _ _ h => h) (by rfl) (by assumption) ?_
              simp only [Act.put, List.setIfInBounds_toArray, List.set_cons_zero, List.set_cons_succ]
              refine held_none (i := 20) (d := some 117) rfl rfl (by kernel_rfl) (by kernel_rfl) (by kernel_rfl) (fun _ _ _ h => h) (by rfl) (by assumption) ?_
              simp only [Act.put, List.setIfInBounds_toArray, List.set_cons_zero, List.set_cons_succ]
              refine held_none (i := 21) (d := some 118) rfl rfl (by kernel_rfl) (by kernel_rfl) (by kernel_rfl) (fun _ _ _ h => h) (by rfl) (by assumption) ?_
              simp only [Act.put, List.setIfInBounds_toArray, List.set_cons_zero, List.set_cons_succ]
              refine held_none (i := 22) (d := some 119) rfl rfl (by kernel_rfl) (by kernel_rfl) (by kernel_rfl) (fun _ _ _ h => h) (by rfl) (by assumption) ?_
              simp only [Act.put, List.setIfInBounds_toArray, List.set_cons_zero, List.set_cons_succ]
              refine held_take (i := 23) (d := some 120) (v := ?_) rfl rfl (by kernel_rfl) (by kernel_rfl) (by kernel_rfl) (fun _ _ _ h => h) (by rfl) ?_ (by assumption) ?_
              rotate_left
              · intro w hSw
                try dsimp only at hSw
                first | (go_simp; done) | (go_simp; with_reducible rfl)
              simp only [Act.put, List.setIfInBounds_toArray, List.set_cons_zero, List.set_cons_succ]
              refine held_take (i := 24) (d := some 121) (v := ?_) rfl rfl (by kernel_rfl) (by kernel_rfl) (by kernel_rfl) (fun _ _ _ h => h) (by rfl) ?_ (by assumption) ?_
              rotate_left
              · intro w hSw
                try dsimp only at hSw
                first | (go_simp; done) | (go_simp; with_reducible rfl)
              simp only [Act.put, List.setIfInBounds_toArray, List.set_cons_zero, List.set_cons_succ]
              refine wpAnyH_done (by kernel_rfl) ?_ _
              go_wp2
              go_roundw
              case rel => exact ⟨j + 1, by omega, by go_num, Lib.hid (HBr.out.trans (HB6.out.mono HBr.out.size))⟩
              case measure => simp [intOf] <;> omega
            · obtain ⟨i, hi⟩ : ∃ i : Nat, j = i + 1 := ⟨j - 1, by omega⟩
              have hiz : (j : Int) - 1 = (i : Int) := by omega
              have hiw : IntKind.i64.wrap (i : Int) = (i : Int) := IntWalk.i64_in _ (by omega)
              have i0 : (0 : Int) ≤ (i : Int) := by omega
              have i1 : (i : Int) < (ℓ : Int) := by omega
              have ci := own_at_gen (i := i) HOr.out (by omega)
              have hpr := pair_at (al_rises (s := F) (k := n) (by omega)) (i := i) (by rw [← hi]; exact hjL)
              rw [← hi, HHH.out] at hpr
              have hb0 := al_bound (h := (F.al n).getD i 0) HOK.out (by omega) (by rw [getD_at 0 (show i < (F.al n).length by omega)]; exact List.getElem_mem _)
              generalize (F.al n).getD i 0 = h' at *
              obtain ⟨b0, b1⟩ := hb0
              have hpt : ¬ h.tmod 16777216 ≤ h'.tmod 16777216 := by rw [Int.tmod_eq_emod_of_nonneg h0, Int.tmod_eq_emod_of_nonneg b0]; omega
              have hpd : decide (h.tmod 16777216 ≤ h'.tmod 16777216) = false := decide_eq_false hpt
              have HIJ := Lib.hid hi
              have hdz : decide ((0 : Int) < (j : Int)) = true := by rw [decide_eq_true_eq]; omega
              have hdn : decide (0 < j) = true := by rw [decide_eq_true_eq]; omega
              clear hi
              have HCV : Hid (∀ w', Below wr.heap.size wr w' → w'.cell? ⟨k, 0, none⟩ = some (.slice pg F.gens.length cg) ∧ w'.cell? ⟨k, 1, none⟩ = some (.slice pu F.used.length cu) ∧ w'.cell? ⟨k, 2, none⟩ = some (.slice pf F.free.length cf) ∧ w'.cell? ⟨g, j, none⟩ = some (.int .u64 h) ∧ w'.cell? ⟨g, i, none⟩ = some (.int .u64 h')) := Lib.hid (fun w' hb => by
                obtain ⟨c0, c1, c2, _, _, _⟩ := block3 (HXr.out.below hb).blk
                exact ⟨c0, c1, c2, (hb.cell (p := ⟨g, j, none⟩) hgr).trans ch, (hb.cell (p := ⟨g, i, none⟩) hgr).trans ci⟩)
              go_wp2_with fail
              go_region_held3 (fun w' => w'.cell? ⟨k, 0, none⟩ = some (.slice pg F.gens.length cg) ∧ w'.cell? ⟨k, 1, none⟩ = some (.slice pu F.used.length cu) ∧ w'.cell? ⟨k, 2, none⟩ = some (.slice pf F.free.length cf) ∧ w'.cell? ⟨g, j, none⟩ = some (.int .u64 h) ∧ w'.cell? ⟨g, i, none⟩ = some (.int .u64 h'))
                (first
                  | exact HCV.out _ (Below.refl _ _).drew
                  | exact HCV.out _ HB6.out)
                (first
                  | (go_at_call 17
                     refine (liveO HOK.out HXr.out.ar.drew h0 h1).mono ?_
                     rw [HLV.out]
                     rintro e w6 ⟨rfl, hb6⟩
                     have HB6 : Hid (Below wr.heap.size wr w6) := Lib.hid ((Below.refl _ _).drew.trans hb6)
                     clear hb6))
              clear hiz hiw hdz hdn
              go_wp2
              go_roundw
              case rel => exact ⟨j + 1, by omega, by go_num, Lib.hid (HBr.out.trans (HB6.out.mono HBr.out.size))⟩
              case measure => simp [intOf] <;> omega
          · have hm30 := HNn.out
            go_wp2
            go_ret
            exact ⟨rfl, HB3.out.trans (HBr.out.mono HB3.out.size)⟩
end Go.Proofs.Ytnhdpaiekcddiaa
