/-
  The document's types of a forest: words.
  law08's its: the document's forest out of ours.
-/
import Derived.Test.YtaacikjoafobfaaGreatDoorG04
import Derived.Shelf.RegionOpenPlain
namespace Go.Proofs.YtaacikjoafobfaaGreatDoor.Dt
open Go.ChangeShapes Go.WideShapes Go.ChangeAt Go.RowKit
set_option linter.unusedVariables false
set_option linter.unusedSimpArgs false

theorem info_rn : (Tryz.prog.info? 58).map (fun i => (i.zero, i.size, i.bytes)) = some (some (.agg #[.int .i64 0, .string ⟨#[]⟩, .string ⟨#[]⟩, .slice none 0 0, .int .i64 0, .slice none 0 0]), 6, 96) := by kernel_rfl
theorem info_ra : (Tryz.prog.info? 98).map (fun i => (i.zero, i.size, i.bytes)) = some (some (.agg #[.string ⟨#[]⟩, .string ⟨#[]⟩]), 2, 32) := by kernel_rfl
/-- A node of the copy: its kids lie where they lay, its attributes in a row of the call's own. -/
structure Cop (w V : World) (base : Nat) (m : Mn) : Prop where
  fit : Fit m
  ir : IR w m.kA m.kids
  ar : V.ownsRow base 98 2 (.slice m.aA m.attrs.length m.aC) m.attrs.length (acells m.attrs)
theorem Cop.kept {w V W : World} {base : Nat} {m : Mn} {row : Option Nat} (h : Cop w V base m) (hg : V.grownBy W row) (hr : (Value.slice m.aA m.attrs.length m.aC).ownBlock = none ∨ (Value.slice m.aA m.attrs.length m.aC).ownBlock ≠ row) : Cop w W base m :=
  ⟨h.fit, h.ir, h.ar.kept hg hr⟩
theorem Cop.below {w V W : World} {base : Nat} {m : Mn} (h : Cop w V base m) (hb : Below V.heap.size V W) : Cop w W base m := ⟨h.fit, h.ir, own_below h.ar hb⟩
theorem cop_fr {w V : World} {base j cap : Nat} {p : Option Addr} {G : List Mn} (h : V.ownsRow base 58 6 (.slice p j cap) j (fcells G)) (hC : ∀ m ∈ G, Cop w V base m) (hb : Below w.heap.size w V) : FR V p G := by
  have hl := h.1
  rw [fcells_length] at hl
  intro i m hm
  obtain ⟨hi, -⟩ := List.getElem?_eq_some_iff.1 hm
  rcases h.2 with ⟨-, h'⟩ | ⟨g, cap', cur, hv, hbg, hg, h1, h2, h3, h4⟩
  · omega
  · cases hv
    have hr : RowAt V g 0 G := cells_row (fun j u hu => by
      have := h.cells rfl j u hu
      rw [← this, show (⟨g, 0, none⟩ : Addr).add j = ⟨g, 0 + j, none⟩ by unfold Addr.add; split <;> simp_all])
    have hc := hr i m hm
    have hm' := hC m (List.mem_of_getElem? hm)
    obtain ⟨q, c, hv, -, -, ha⟩ := own_ar hm'.ar
    cases hv
    exact ⟨hm'.fit, g, 0, rfl, (Array.getElem?_eq_some_iff.1 hg).1, ⟨hc.c0, hc.c1, hc.c2, hc.c3, hc.c4, hc.c5, ha, hm'.ir.below hb⟩⟩
end Go.Proofs.YtaacikjoafobfaaGreatDoor.Dt
namespace Go.Proofs.YtaacikjoafobfaaGreatDoor.R8
open Dt
open Go.ChangeShapes Go.WideShapes Go.ChangeAt Go.RowKit
set_option linter.unusedVariables false
set_option linter.unusedSimpArgs false

theorem cell6 (w : World) (g : Nat) (a b c d e f : Value) (t : TypeId) (h : w.heap[g]? = some (.cells #[a, b, c, d, e, f] t (0, 0))) : ∀ j u, [a, b, c, d, e, f][j]? = some u → w.cell? ((⟨g, 0, none⟩ : Addr).add j) = some u := by
  intro j u hu
  rw [add_plain, Nat.zero_add]
  obtain ⟨x0, x1, x2, x3, x4, x5⟩ := block6 h
  match j, hu with
  | 0, hu => cases hu; exact x0
  | 1, hu => cases hu; exact x1
  | 2, hu => cases hu; exact x2
  | 3, hu => cases hu; exact x3
  | 4, hu => cases hu; exact x4
  | 5, hu => cases hu; exact x5
  | j + 6, hu => simp at hu
set_option maxRecDepth 100000 in
set_option maxHeartbeats 8000000 in
theorem its_any (A : Option Addr) (F : List Mn) (c : Nat) (w : World) (hF : FR w A F) (hz : Sz2 F) :
    Calls Tryz.prog 33 #[.slice A F.length c] w fun e w' => ∃ A' c' G, e = .returned (.slice A' F.length c') ∧ G.map core = F.map core ∧ FR w' A' G ∧ Below w.heap.size w w' := by
  have HF := Lib.hid hF
  have HFit := Lib.hid (fun (i : Nat) (m : Mn) (h : F[i]? = some m) => (hF i m h).1)
  have hl := hz.len
  have HZa := Lib.hid (fun (m : Mn) (h : m ∈ F) => hz.attrs m h)
  obtain ⟨i0, hI1, hI2, hI3, hI4⟩ := info_parts info_rn
  obtain ⟨i1, hJ1, hJ2, hJ3, hJ4⟩ := info_parts info_ra
  have HI := Lib.hid (And.intro hI1 (And.intro hI2 (And.intro hI3 hI4)))
  have HJ := Lib.hid (And.intro hJ1 (And.intro hJ2 (And.intro hJ3 hJ4)))
  obtain ⟨n, hnn⟩ : ∃ n, F.length = n := ⟨_, rfl⟩
  have HNN := Lib.hid hnn
  rw [hnn] at hl ⊢
  clear hF hz hnn hI1 hI2 hI3 hI4 hJ1 hJ2 hJ3 hJ4
  have hO : (w.alloc (.cells #[] 58)).ownsRow w.heap.size 58 6 (.slice (some ⟨w.heap.size, 0, none⟩) 0 0) 0 [] := World.ownsRow_made w #[] 0 (Nat.le_refl _) (by simp [maxLen]) rfl
  have HO := Lib.hid hO
  have HB0 : Hid (Below w.heap.size w (w.alloc (.cells #[] 58))) := Lib.hid ((Below.refl _ _).alloc (Nat.le_refl _) _)
  clear hO
  go_enter Tryz.func33, Tryz.ntmps33
  go_wp2_with fail
  go_loopw [3, 4] (fun q3 q4 wv => ∃ (V : World) (j : Nat) (G : List Mn), V = wv ∧ j ≤ n ∧ q4 = .int .i64 j ∧ (∃ p cap, q3 = .slice p j cap ∧ Hid (V.ownsRow w.heap.size 58 6 (.slice p j cap) j (fcells G))) ∧ Hid (G.map core = (F.take j).map core) ∧ Hid (∀ m ∈ G, Cop w V w.heap.size m) ∧ Hid (Below w.heap.size w V)) (fun _ q4 _ => n - (intOf q4).toNat)
  case atStart => exact ⟨_, 0, [], rfl, Nat.zero_le _, rfl, ⟨_, _, rfl, HO⟩, Lib.hid rfl, Lib.hid (fun m hm => absurd hm (by simp)), HB0⟩
  case round =>
    obtain ⟨V, j, G, rfl, hj, rfl, ⟨p, cap, rfl, HOw⟩, HG, HC, HB⟩ := hrel
    by_cases hlt : j < n
    · have k0 : (0 : Int) ≤ (j : Int) := by omega
      have k1 : (j : Int) < (n : Int) := by omega
      have hjl : j < F.length := by rw [HNN.out]; exact hlt
      obtain ⟨hfo, g, off, rfl, hg, hnd⟩ := HF.out.below HB.out j F[j] (List.getElem?_eq_getElem hjl)
      have HT : Hid (F.take (j + 1) = F.take j ++ [F[j]]) := Lib.hid (take_more hjl)
      have hal := HZa.out F[j] (List.getElem_mem hjl)
      have HNd := Lib.hid (fun (W : World) (hb : Below w.heap.size w W) => show NodeAt W g (off + j * 6) F[j] from by
        obtain ⟨-, g', o', hA, -, h⟩ := HF.out.below hb j F[j] (List.getElem?_eq_getElem hjl)
        cases hA
        exact h)
      have HFj := Lib.hid hfo
      have HIr : Hid (IR w F[j].kA F[j].kids) := Lib.hid (by
        obtain ⟨-, g', o', hA, -, h⟩ := HF.out j F[j] (List.getElem?_eq_getElem hjl)
        exact h.ir)
      have c0 := hnd.c0
      have c1 := hnd.c1
      have c2 := hnd.c2
      have c4 := hnd.c4
      have c5 := hnd.c5
      clear hfo hnd
      generalize F[j] = m at *
      go_upto_region 5 with fail
      go_cut [5] from 14 to 39 (fun q5 wx => q5 = .pointer (some ⟨V.heap.size, 0, none⟩) ∧ Hid (wx.heap[V.heap.size]? = some (.cells #[.int .i64 m.kind, .string m.name, .string m.text, .slice none 0 0, .int .i64 m.parent, .slice m.kA m.kids.length m.kC] 58 (0, 0))) ∧ Hid (Below V.heap.size V wx) ∧ Hid (wx.heap.size = V.heap.size + 1))
      case first =>
        go_region
        all_goals
          go_wp2
          go_meet
          exact ⟨rfl, Lib.hid (heap_alloc_new V _), Lib.hid ((Below.refl _ _).alloc (Nat.le_refl _) _).drew, Lib.hid (by simp [World.drew])⟩
      case rest =>
      obtain ⟨rfl, HK0, HV0, HS0⟩ := hcut
      clear c0 c1 c2 c4 c5
      obtain ⟨al, hal'⟩ : ∃ al, m.attrs.length = al := ⟨_, rfl⟩
      have HAl := Lib.hid hal'
      rw [hal'] at hal
      obtain ⟨kl, hkl⟩ : ∃ kl, m.kids.length = kl := ⟨_, rfl⟩
      have HKl := Lib.hid hkl
      rw [hkl] at HK0
      have hbs := HB.out.size
      have HBS := Lib.hid hbs
      clear hal' hbs
      go_upto_region 7 with fail
      go_loopw [6] (fun q6 wv => ∃ (X : World) (k : Nat), X = wv ∧ k ≤ al ∧ q6 = .int .i64 k ∧ (∃ q cap', Hid (X.heap[V.heap.size]? = some (.cells #[.int .i64 m.kind, .string m.name, .string m.text, .slice q k cap', .int .i64 m.parent, .slice m.kA kl m.kC] 58 (0, 0))) ∧ Hid (X.ownsRow (V.heap.size + 1) 98 2 (.slice q k cap') k (acells (m.attrs.take k)))) ∧ Hid (Below V.heap.size V X)) (fun q6 _ => al - (intOf q6).toNat)
      case atStart => exact ⟨_, 0, rfl, Nat.zero_le _, rfl, ⟨none, 0, HK0, Lib.hid (World.ownsRow_nil _ _ _ _)⟩, HV0⟩
      case round =>
        obtain ⟨X, k, rfl, hk, rfl, ⟨q, cap', HKX, HOX⟩, HVX⟩ := hrel
        have HBX : Hid (Below w.heap.size w X) := Lib.hid (HB.out.trans (HVX.out.mono HB.out.size))
        have hnd := HNd.out X HBX.out
        have c3 := hnd.c3
        rw [HAl.out] at c3
        obtain ⟨x0, x1, x2, x3, x4, x5⟩ := block6 HKX.out
        have fz : X.frozen? ⟨V.heap.size, 3, none⟩ = false := by simp [World.frozen?, HKX.out]
        by_cases hka : k < al
        · have y0 : (0 : Int) ≤ (k : Int) := by omega
          have y1 : (k : Int) < (al : Int) := by omega
          have hkl2 : k < m.attrs.length := by rw [HAl.out]; exact hka
          obtain ⟨ga, oa, hAa, hga, d0, d1⟩ := hnd.ar k hkl2
          have HTk : Hid (acells (m.attrs.take (k + 1)) = acells (m.attrs.take k) ++ at2 (m.attrs.getD k default)) := Lib.hid (by rw [acells_take hkl2, getD_at default hkl2])
          rw [hAa] at c3
          generalize m.attrs.getD k default = y at *
          obtain ⟨ya, yb⟩ := y
          have hsz : V.heap.size + 1 ≤ X.heap.size := lt_of_block HKX.out
          have hltg : g < X.heap.size := Nat.lt_of_lt_of_le hg HVX.out.size
          have hlt5 : V.heap.size < X.heap.size := hsz
          have hltga : ga < X.heap.size := hga
          have hne1 : g ≠ X.heap.size := by omega
          have hne2 : X.heap.size ≠ g := by omega
          have hne3 : ga ≠ X.heap.size := by omega
          have hne4 : X.heap.size ≠ ga := by omega
          have hne5 : V.heap.size ≠ X.heap.size := by omega
          have hne6 : X.heap.size ≠ V.heap.size := by omega
          have hrow : (Value.slice q k cap').ownBlock ≠ some V.heap.size := own_apart HOX.out HKX.out (by decide)
          have mixed : Tryz.prog.follows Departure.mixedOrders = true := by kernel_rfl
          clear hnd hAa
          go_upto_region 9 with fail
          go_region_law_o (refine step_own rfl (.tmp 51) (.tmp 60) 56 rfl (V.heap.size + 1) 98 i1 (.agg #[.string ⟨#[]⟩, .string ⟨#[]⟩]) 2 32 Tryz.underlying56 HJ.out.1 HJ.out.2.1 HJ.out.2.2.1 HJ.out.2.2.2 rfl (by decide) (.slice q k cap') k (acells (m.attrs.take k)) (by simp [Act.eval, Act.put]) (HOX.out.alloc _) ⟨X.heap.size, 0, none⟩ 1 1 (at2 (ya, yb)) (by simp [Act.eval, Act.put]) rfl (two_new _ _ _) (fun u hu => acells_one [(ya, yb)] u (by simpa [acells] using hu)) (by unfold maxLen; omega) (by omega) (by first | (simp; done) | (simp; omega)) ?_; intro v' w5 hown' hgrow hat; obtain ⟨q', cap2, rfl, -, -⟩ := own_form2 hown'; have HO' := Lib.hid hown'; have HGR := Lib.hid hgrow; have HK5 : Hid (w5.heap[V.heap.size]? = some (.cells #[.int .i64 m.kind, .string m.name, .string m.text, .slice q k cap', .int .i64 m.parent, .slice m.kA kl m.kC] 58 (0, 0))) := Lib.hid (by rw [hgrow.block _ (by first | (simp; done) | (simp; omega)) (Ne.symm hrow)]; exact (heap_alloc_old X _ (by omega)).trans HKX.out); obtain ⟨e0, e1, e2, e3, e4, e5⟩ := block6 HK5.out; have g3 : w5.frozen? ⟨V.heap.size, 3, none⟩ = false := (by simp [World.frozen?, HK5.out]); clear hown' hgrow hat)
          all_goals
            go_wp2
            have hne7 : (Value.slice q' (k + 1) cap2).ownBlock ≠ some V.heap.size := own_apart HO'.out HK5.out (by decide)
            go_roundw
            case rel =>
              refine ⟨_, k + 1, rfl, by omega, by go_num, ⟨q', cap2, Lib.hid ?_, Lib.hid ?_⟩, Lib.hid ?_⟩
              · have := HK5.out
                simp [World.setCell, Array.getElem?_modify, this]
              · rw [HTk.out]
                have := ownsRow_setCell_other HO'.out (a := ⟨V.heap.size, 3, none⟩) hne7 (.slice q' (k + 1) cap2)
                simpa using this
              · exact ((HVX.out.drew.alloc (show V.heap.size ≤ X.heap.size by omega) _).grown HGR.out (by first | (simp; done) | (simp; omega)) (fun r e => by have := (HOX.out.lt r e).1; omega)).setCell (by simp) _
            case measure => simp [intOf] <;> omega
        · obtain rfl : k = al := by omega
          have e : m.attrs.take k = m.attrs := List.take_of_length_le (by rw [HAl.out]; exact Nat.le_refl _)
          rw [e] at HOX
          have HNc : Hid (ncells ⟨m.kind, m.name, m.text, m.attrs, m.parent, m.kids, q, cap', m.kA, m.kC⟩ = [.int .i64 m.kind, .string m.name, .string m.text, .slice q k cap', .int .i64 m.parent, .slice m.kA kl m.kC]) := Lib.hid (by simp [ncells, HAl.out, HKl.out])
          have HCp : Hid (Cop w X w.heap.size ⟨m.kind, m.name, m.text, m.attrs, m.parent, m.kids, q, cap', m.kA, m.kC⟩) := Lib.hid (by
            obtain ⟨p2, c2, hq, h1, h2⟩ := own_form2 HOX.out
            cases hq
            refine ⟨⟨HFj.out.k64, HFj.out.p64, HFj.out.ks64, ⟨by rw [HAl.out]; exact h1, Nat.le_trans h2 (by unfold maxLen; omega)⟩, HFj.out.kc⟩, HIr.out, ?_⟩
            have := own_mono HOX.out (show w.heap.size ≤ V.heap.size + 1 by have := HBS.out; omega)
            rw [HAl.out]
            exact this)
          have HOw2 := Lib.hid (own_below HOw.out HVX.out)
          have HC2 : Hid (∀ m ∈ G, Cop w X w.heap.size m) := Lib.hid (fun m hm => (HC.out m hm).below HVX.out)
          clear hnd e
          go_wp2_with (at_builtin; refine wpList_append_own_at _ rfl _ _ 32 rfl w.heap.size 58 i0 _ 6 96 Tryz.underlying32 HI.out.1 HI.out.2.1 HI.out.2.2.1 HI.out.2.2.2 rfl (by decide) _ _ _ rfl (HOw2.out.alloc _) ⟨X.heap.size, 0, none⟩ 1 1 [.int .i64 m.kind, .string m.name, .string m.text, .slice q k cap', .int .i64 m.parent, .slice m.kA kl m.kC] rfl rfl (cell6 _ _ _ _ _ _ _ _ _ (heap_alloc_new X _)) (fun u hu => fcells_one [⟨m.kind, m.name, m.text, m.attrs, m.parent, m.kids, q, cap', m.kA, m.kC⟩] u (by rw [fcells, List.flatMap_cons, HNc.out]; simpa using hu)) (by unfold maxLen; omega) (by omega) (by have := HBX.out.size; first | (simp; done) | (simp; omega)) ?_; intro v' w4 hown' hgrow _ hat; have HOx := Lib.hid hown'; have HGr := Lib.hid hgrow; clear hown' hgrow hat)
          obtain ⟨p', cap2, rfl, -, -⟩ := own_form2 HOx.out
          have hOx := HOx.out
          rw [← HNc.out, ← fcells_take] at hOx
          refine ⟨⟨w4, j + 1, _, rfl, by omega, by go_num, ⟨p', cap2, rfl, Lib.hid hOx⟩, Lib.hid ?_, Lib.hid ?_, Lib.hid ?_⟩, ?_⟩
          · rw [List.map_append, HG.out, HT.out, List.map_append]
            rfl
          · intro m1 hm1
            have ap : ∀ m2, Cop w X w.heap.size m2 → Cop w w4 w.heap.size m2 := fun m2 h2 => ⟨h2.fit, h2.ir, (h2.ar.alloc _).kept HGr.out (own_apart2 (h2.ar.alloc _) (HOw2.out.alloc (.cells #[.int .i64 m.kind, .string m.name, .string m.text, .slice q k cap', .int .i64 m.parent, .slice m.kA kl m.kC] 58)) (by decide))⟩
            rcases List.mem_append.1 hm1 with h | h
            · exact ap _ (HC2.out m1 h)
            · rw [List.mem_singleton] at h
              subst h
              exact ap _ HCp.out
          · exact (HBX.out.alloc HBX.out.size _).grown HGr.out (by have := HBX.out.size; first | (simp; done) | (simp; omega)) (fun r e => (HOw2.out.lt r e).1)
          · simp [intOf] <;> omega
    · obtain rfl : j = n := by omega
      have e : F.take j = F := List.take_of_length_le (by rw [HNN.out]; exact Nat.le_refl _)
      rw [e] at HG
      go_wp2
      go_ret
      exact ⟨_, _, G, rfl, HG.out, cop_fr HOw.out HC.out HB.out, HB.out⟩
end Go.Proofs.YtaacikjoafobfaaGreatDoor.R8
