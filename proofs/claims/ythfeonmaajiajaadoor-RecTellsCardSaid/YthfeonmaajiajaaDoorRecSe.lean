/-
  The document's own Pack: the walk.
-/
import Derived.Test.YthfeonmaajiajaaDoorRecSd
import Derived.Test.YthfeonmaajiajaaDoorRecSs
import Derived.Test.YthfeonmaajiajaaDoorRecO
import Derived.Test.YthfeonmaajiajaaDoorRecRa
namespace Go.Proofs.YthfeonmaajiajaaDoor
open Go.ChangeShapes Go.WideShapes Go.ChangeAt Go.RowKit
open Rm
set_option linter.unusedVariables false
set_option linter.unusedSimpArgs false

set_option maxRecDepth 100000 in
set_option maxHeartbeats 1000000 in
theorem rpack_any (r : Rc) (A : Option Addr) (c : Nat) (w : World) (hA : LV w A (svs r.attrs)) (hr : RcB r) (hcp : r.attrs.length ≤ c) :
    Calls Tryd.prog 7 #[.agg (rcs r A c)] w (GivesP r w) := by
  obtain ⟨W, hW⟩ : ∃ W, W = w.alloc (.cells (rcs r A c) 37) := ⟨_, rfl⟩
  have HW : Hid (Below w.heap.size w W ∧ W.heap[w.heap.size]? = some (.cells (rcs r A c) 37 (0, 0))) := Lib.hid (by subst hW; exact ⟨(Below.refl _ w).alloc (Nat.le_refl _) _, heap_new _ _⟩)
  have HA : Hid (∀ X, Below w.heap.size w X → LV X A (svs r.attrs)) := Lib.hid (fun X h => hA.below h)
  have HCp := Lib.hid hcp
  have HM := Lib.hid (rmay_any r A c W (hA.below HW.out.1) hr)
  have hkW : w.heap.size < W.heap.size := lt_of_block HW.out.2
  have HC : Hid (∀ X, Below W.heap.size W X → X.heap[w.heap.size]? = some (.cells (rcs r A c) 37 (0, 0))) := Lib.hid (fun X h => (h.block _ hkW).trans HW.out.2)
  unfold rcs at *
  obtain ⟨x0, x1, x2, x3, x4, x5, x6⟩ := block7 (HC.out W (Below.refl _ _))
  rcases Bool.eq_false_or_eq_true (mayB r) with hm | hm
  · have hM : MayR r := of_decide_eq_true hm
    have HMm := Lib.hid hm
    rw [hm] at HM
    have HNa := Lib.hid (fun X => hnumberA hM X)
    have HNb := Lib.hid (fun X => hnumberB hM X)
    obtain ⟨h1, h2, h3, h4, h5, h6, h7, h8, h9, h10, h11⟩ := hM
    have HWn := Lib.hid (fun X => rwords_any r.name X (by omega))
    have HWt := Lib.hid (fun X => rwords_any r.text X (by omega))
    have H9 := Lib.hid h9
    have H7 := Lib.hid h7
    obtain ⟨i0, hi, hz0, hz1, hz2⟩ := info_parts info_G
    have HI := Lib.hid (And.intro hi (And.intro hz0 (And.intro hz1 hz2)))
    have hl1 := lens_le r.attrs
    have hl2 : (wds r.name).length ≤ 8 := by rw [wds_length]; exact nw8 (by omega)
    have hl3 : (wds r.text).length ≤ 8 := by rw [wds_length]; exact nw8 (by omega)
    have hsn : (str r.name).size = r.name.length := str_size _
    have hst : (str r.text).size = r.text.length := str_size _
    clear hcp hm hA hr h9 h7 hi hz0 hz1 hz2
    go_enter Tryd.func7, Tryd.ntmps7
    go_upto_region 1 with fail
    rw [← hW]
    clear hW
    go_wp2_with fail
    unfold rcs at *
    refine HM.out.mono ?_
    rintro e w1 ⟨rfl, hb1⟩
    have HB1 := Lib.hid hb1
    clear hb1 x0 x1 x2 x3 x4 x5 x6
    have hs1 := HB1.out.size
    obtain ⟨x0, x1, x2, x3, x4, x5, x6⟩ := block7 (HC.out _ HB1.out)
    go_wp2_with fail
    by_cases hat : 0 < r.attrs.length
    · have hat' : (0 : Int) < (r.attrs.length : Int) := by omega
      go_cut [5] from 13 to 41 (fun v X => ∃ g : Nat, v = .slice (some ⟨g, 0, none⟩) 2 2 ∧ Hid (X.ownsRow W.heap.size 23 1 (.slice (some ⟨g, 0, none⟩) 2 2) 2 (gvs [headR r, r.root])) ∧ Hid (Below W.heap.size W X))
      case first =>
        go_region_held3 (fun X => X.cell? ⟨w.heap.size, 0, none⟩ = some (.int .i64 r.kind) ∧ X.cell? ⟨w.heap.size, 1, none⟩ = some (.int .i64 r.par) ∧ X.cell? ⟨w.heap.size, 2, none⟩ = some (.string (str r.name)) ∧ X.cell? ⟨w.heap.size, 3, none⟩ = some (.string (str r.text)) ∧ X.cell? ⟨w.heap.size, 4, none⟩ = some (.slice A r.attrs.length c) ∧ X.cell? ⟨w.heap.size, 5, none⟩ = some (.int .u64 r.root) ∧ X.cell? ⟨w.heap.size, 6, none⟩ = some (.int .i64 r.size))
          (first
            | with_reducible exact block7 (HC.out _ HB1.out)
            | with_reducible exact block7 (HC.out _ HB1.out.drew)
            | with_reducible exact block7 (HC.out _ (HB1.out.alloc HB1.out.size _))
            | with_reducible exact block7 (HC.out _ (HB1.out.alloc HB1.out.size _).drew)
            | with_reducible exact block7 (HC.out _ ((HB1.out.alloc HB1.out.size _).alloc (HB1.out.alloc HB1.out.size _).size _))
            | with_reducible exact block7 (HC.out _ ((HB1.out.alloc HB1.out.size _).alloc (HB1.out.alloc HB1.out.size _).size _).drew)
            | with_reducible exact block7 (HC.out _ HB2.out)
            | with_reducible exact block7 (HC.out _ HB2.out.drew)
            | with_reducible exact block7 (HC.out _ (HB2.out.alloc HB2.out.size _)))
          (first
            | (go_at_call 19
               with_reducible refine (HNa.out w1).mono ?_
               rintro e w2 ⟨rfl, hb2⟩
               have HB2 : Hid (Below W.heap.size W w2) := Lib.hid (HB1.out.trans (hb2.mono HB1.out.size))
               clear hb2)
            | (go_at_call 19
               with_reducible refine (HNb.out w1).mono ?_
               rintro e w2 ⟨rfl, hb2⟩
               have HB2 : Hid (Below W.heap.size W w2) := Lib.hid (HB1.out.trans (hb2.mono HB1.out.size))
               clear hb2))
        all_goals
          have hs2 := HB2.out.size
          go_wp2
          go_meet
          exact ⟨w2.heap.size, rfl, Lib.hid (own_drop own_two HB2.out.size), Lib.hid (HB2.out.alloc HB2.out.size _)⟩
      case rest =>
        obtain ⟨g3, rfl, HO3, HB3⟩ := hcut
        have hs3 := HB3.out.size
        clear x0 x1 x2 x3 x4 x5 x6 HNa HNb
        obtain ⟨x0, x1, x2, x3, x4, x5, x6⟩ := block7 (HC.out _ HB3.out)
        go_wp2_with fail
        go_cut [5] from 44 to 58 (fun v X => ∃ (p : Option Addr) (cp : Nat), v = .slice p (2 + (lens r.attrs).length) cp ∧ Hid (X.ownsRow W.heap.size 23 1 (.slice p (2 + (lens r.attrs).length) cp) (2 + (lens r.attrs).length) (gvs [headR r, r.root] ++ gvs (lens r.attrs))) ∧ Hid (Below W.heap.size W X))
        case first =>
          -- REGION6
          have HLA : Hid (∀ X, Below W.heap.size W X → LV X A (svs r.attrs)) := Lib.hid (fun X h => HA.out X (HW.out.1.trans (h.mono HW.out.1.size)))
          have hne : r.attrs ≠ [] := fun e => by rw [e] at hat; simp at hat
          have HLn : Hid (2 + (lens r.attrs).length = 4) := Lib.hid (by rw [lens_some hne]; rfl)
          have HLs0 : Hid (gvs (lens r.attrs) = [.int .u64 (six (la (r.attrs.take 8))), .int .u64 (six (la (r.attrs.drop 8)))]) := Lib.hid (by rw [lens_some hne]; rfl)
          clear hne
          by_cases h8 : 8 < r.attrs.length
          · have i8 : (8 : Int) < (r.attrs.length : Int) := by omega
            have HLs := HLs0
            obtain ⟨p1, p2, c1, m2, c2, hs1, hs2, hlv, hl1, hl2⟩ := parts_S A r.attrs.length c 8 r.attrs rfl (by omega) HCp.out
            have HX1 : Hid (∀ X, Below W.heap.size W X → Calls Tryd.prog 20 #[.slice p1 8 c1] X fun e w' => e = .returned (.int .u64 (six (la (r.attrs.take 8)))) ∧ Below X.heap.size X w') := Lib.hid (fun X h => by
              have := sixes_any p1 8 c1 (r.attrs.take 8) X (hlv X (HLA.out X h)).1 hl1 (by omega) (fun a ha => H9.out a (List.mem_of_mem_take ha))
              rwa [show r.attrs.take 8 = r.attrs.take 8 from rfl] at this)
            have HX2 : Hid (∀ X, Below W.heap.size W X → Calls Tryd.prog 20 #[.slice p2 m2 c2] X fun e w' => e = .returned (.int .u64 (six (la (r.attrs.drop 8)))) ∧ Below X.heap.size X w') := Lib.hid (fun X h => by
              have := sixes_any p2 m2 c2 (r.attrs.drop 8) X (hlv X (HLA.out X h)).2 hl2 (by rw [List.length_drop] at hl2; omega) (fun a ha => H9.out a (List.mem_of_mem_drop ha))
              rwa [show r.attrs.drop 8 = r.attrs.drop 8 from rfl] at this)
            clear hlv hl1 hl2
            have hs1 : ∀ W, Sem.run Tryd.prog (Instr.slice 22 (.slice A r.attrs.length c) none (some (.int .i64 8)) none) W = .ok (.slice p1 8 c1) W := hs1
            have hs2 : ∀ W, Sem.run Tryd.prog (Instr.slice 22 (.slice A r.attrs.length c) (some (.int .i64 8)) none none) W = .ok (.slice p2 m2 c2) W := hs2
            generalize Value.slice A r.attrs.length c = V at *
            generalize Value.slice p1 8 c1 = R1 at *
            generalize Value.slice p2 m2 c2 = R2 at *
            generalize six (la (r.attrs.take 8)) = s1 at *
            generalize six (la (r.attrs.drop 8)) = s2 at *
            go_region_held3 (fun X => X.cell? ⟨w.heap.size, 0, none⟩ = some (.int .i64 r.kind) ∧ X.cell? ⟨w.heap.size, 1, none⟩ = some (.int .i64 r.par) ∧ X.cell? ⟨w.heap.size, 2, none⟩ = some (.string (str r.name)) ∧ X.cell? ⟨w.heap.size, 3, none⟩ = some (.string (str r.text)) ∧ X.cell? ⟨w.heap.size, 4, none⟩ = some V ∧ X.cell? ⟨w.heap.size, 5, none⟩ = some (.int .u64 r.root) ∧ X.cell? ⟨w.heap.size, 6, none⟩ = some (.int .i64 r.size))
              (first
                | with_reducible exact block7 (HC.out _ HB3.out)
                | with_reducible exact block7 (HC.out _ HB3.out.drew)
                | with_reducible exact block7 (HC.out _ HBa.out)
                | with_reducible exact block7 (HC.out _ HBa.out.drew)
                | with_reducible exact block7 (HC.out _ HBb.out)
                | with_reducible exact block7 (HC.out _ HBb.out.drew)
                | with_reducible exact block7 (HC.out _ (HBb.out.alloc HBb.out.size _))
                | with_reducible exact block7 (HC.out _ (HBb.out.alloc HBb.out.size _).drew)
                | with_reducible exact block7 (HC.out _ HBd.out)
                | with_reducible exact block7 (HC.out _ HBd.out.drew))
              (first
                | (go_at_call 20
                   first
                     | with_reducible refine (HX1.out _ HB3.out).mono ?_
                     | with_reducible refine (HX1.out _ HB3.out.drew).mono ?_
                   rintro e va ⟨rfl, hb⟩
                   have HBa : Hid (Below W.heap.size W va) := Lib.hid (by first | with_reducible exact HB3.out.trans (hb.mono HB3.out.size) | with_reducible exact HB3.out.drew.trans (hb.mono HB3.out.drew.size))
                   have HR1 : Hid (va.ownsRow W.heap.size 23 1 (.slice (some ⟨g3, 0, none⟩) 2 2) 2 (gvs [headR r, r.root])) := Lib.hid (by first | with_reducible exact own_below HO3.out hb | with_reducible exact own_below HO3.out.drew hb)
                   clear hb)
                | (go_at_call 20
                   first
                     | with_reducible refine (HX2.out _ HBa.out).mono ?_
                     | with_reducible refine (HX2.out _ HBa.out.drew).mono ?_
                   rintro e vb ⟨rfl, hb⟩
                   have HBb : Hid (Below W.heap.size W vb) := Lib.hid (by first | with_reducible exact HBa.out.trans (hb.mono HBa.out.size) | with_reducible exact HBa.out.drew.trans (hb.mono HBa.out.drew.size))
                   have HR2 : Hid (vb.ownsRow W.heap.size 23 1 (.slice (some ⟨g3, 0, none⟩) 2 2) 2 (gvs [headR r, r.root])) := Lib.hid (by first | with_reducible exact own_below HR1.out hb | with_reducible exact own_below HR1.out.drew hb)
                   have hsb := HBb.out.size
                   clear hb)
                | (refine step_own rfl (.tmp 44) (.tmp 57) 28 rfl W.heap.size 23 i0 (.int .u64 0) 1 8 Tryd.underlying28 HI.out.1 HI.out.2.1 HI.out.2.2.1 HI.out.2.2.2 rfl (by decide) _ 2 (gvs [headR r, r.root]) (by rfl) (HR2.out.alloc _) ⟨vb.heap.size, 0, none⟩ 2 2 [.int .u64 s1, .int .u64 s2] (by rfl) (by rfl) (own_two.cells rfl) (by simp [Value.oneCell']) (by unfold maxLen; omega) (by omega) (by simp; omega) ?_
                   intro v9 vd ho9 hg9 hat9
                   obtain ⟨p9, c9, rfl, -, -, -⟩ := own_form ho9
                   have HO9 : Hid (vd.ownsRow W.heap.size 23 1 (.slice p9 4 c9) 4 (gvs [headR r, r.root] ++ [.int .u64 s1, .int .u64 s2])) := Lib.hid ho9
                   have HBd : Hid (Below W.heap.size W vd) := Lib.hid ((HBb.out.alloc HBb.out.size _).grown hg9 (HBb.out.alloc HBb.out.size _).size (fun r e => (HR2.out.lt r e).1))
                   clear ho9 hg9 hat9))
            all_goals
              go_wp2
              go_meet
              exact ⟨p9, c9, by rw [HLn.out], Lib.hid (by rw [HLn.out, HLs.out]; exact HO9.out), HBd⟩
          · have i8 : ¬ (8 : Int) < (r.attrs.length : Int) := by omega
            have hni : (0 : Int) ≤ (r.attrs.length : Int) := by omega
            have hnj : (r.attrs.length : Int) ≤ 8 := by omega
            have ht8 : r.attrs.take r.attrs.length = r.attrs.take 8 := by rw [List.take_length, List.take_of_length_le (by omega)]
            have hd8 : r.attrs.drop r.attrs.length = r.attrs.drop 8 := by rw [List.drop_length, List.drop_of_length_le (by omega)]
            have HLs := HLs0
            obtain ⟨p1, p2, c1, m2, c2, hs1, hs2, hlv, hl1, hl2⟩ := parts_S A r.attrs.length c r.attrs.length r.attrs rfl (by omega) HCp.out
            have HX1 : Hid (∀ X, Below W.heap.size W X → Calls Tryd.prog 20 #[.slice p1 r.attrs.length c1] X fun e w' => e = .returned (.int .u64 (six (la (r.attrs.take 8)))) ∧ Below X.heap.size X w') := Lib.hid (fun X h => by
              have := sixes_any p1 r.attrs.length c1 (r.attrs.take r.attrs.length) X (hlv X (HLA.out X h)).1 hl1 (by omega) (fun a ha => H9.out a (List.mem_of_mem_take ha))
              rwa [ht8] at this)
            have HX2 : Hid (∀ X, Below W.heap.size W X → Calls Tryd.prog 20 #[.slice p2 m2 c2] X fun e w' => e = .returned (.int .u64 (six (la (r.attrs.drop 8)))) ∧ Below X.heap.size X w') := Lib.hid (fun X h => by
              have := sixes_any p2 m2 c2 (r.attrs.drop r.attrs.length) X (hlv X (HLA.out X h)).2 hl2 (by rw [List.length_drop] at hl2; omega) (fun a ha => H9.out a (List.mem_of_mem_drop ha))
              rwa [hd8] at this)
            clear hlv hl1 hl2
            generalize Value.slice A r.attrs.length c = V at *
            generalize Value.slice p1 r.attrs.length c1 = R1 at *
            generalize Value.slice p2 m2 c2 = R2 at *
            generalize ((r.attrs.length : Nat) : Int) = ni at *
            have hmin : (if (8 : Int) < ni then (8 : Int) else ni) = ni := if_neg i8
            have hminv : Value.int .i64 (if (8 : Int) < ni then (8 : Int) else ni) = Value.int .i64 ni := by rw [hmin]
            generalize six (la (r.attrs.take 8)) = s1 at *
            generalize six (la (r.attrs.drop 8)) = s2 at *
            go_region_held3 (fun X => X.cell? ⟨w.heap.size, 0, none⟩ = some (.int .i64 r.kind) ∧ X.cell? ⟨w.heap.size, 1, none⟩ = some (.int .i64 r.par) ∧ X.cell? ⟨w.heap.size, 2, none⟩ = some (.string (str r.name)) ∧ X.cell? ⟨w.heap.size, 3, none⟩ = some (.string (str r.text)) ∧ X.cell? ⟨w.heap.size, 4, none⟩ = some V ∧ X.cell? ⟨w.heap.size, 5, none⟩ = some (.int .u64 r.root) ∧ X.cell? ⟨w.heap.size, 6, none⟩ = some (.int .i64 r.size))
              (first
                | with_reducible exact block7 (HC.out _ HB3.out)
                | with_reducible exact block7 (HC.out _ HB3.out.drew)
                | with_reducible exact block7 (HC.out _ HBa.out)
                | with_reducible exact block7 (HC.out _ HBa.out.drew)
                | with_reducible exact block7 (HC.out _ HBb.out)
                | with_reducible exact block7 (HC.out _ HBb.out.drew)
                | with_reducible exact block7 (HC.out _ (HBb.out.alloc HBb.out.size _))
                | with_reducible exact block7 (HC.out _ (HBb.out.alloc HBb.out.size _).drew)
                | with_reducible exact block7 (HC.out _ HBd.out)
                | with_reducible exact block7 (HC.out _ HBd.out.drew))
              (first
                | (go_at_call 20
                   first
                     | with_reducible refine (HX1.out _ HB3.out).mono ?_
                     | with_reducible refine (HX1.out _ HB3.out.drew).mono ?_
                   rintro e va ⟨rfl, hb⟩
                   have HBa : Hid (Below W.heap.size W va) := Lib.hid (by first | with_reducible exact HB3.out.trans (hb.mono HB3.out.size) | with_reducible exact HB3.out.drew.trans (hb.mono HB3.out.drew.size))
                   have HR1 : Hid (va.ownsRow W.heap.size 23 1 (.slice (some ⟨g3, 0, none⟩) 2 2) 2 (gvs [headR r, r.root])) := Lib.hid (by first | with_reducible exact own_below HO3.out hb | with_reducible exact own_below HO3.out.drew hb)
                   clear hb)
                | (go_at_call 20
                   first
                     | with_reducible refine (HX2.out _ HBa.out).mono ?_
                     | with_reducible refine (HX2.out _ HBa.out.drew).mono ?_
                   rintro e vb ⟨rfl, hb⟩
                   have HBb : Hid (Below W.heap.size W vb) := Lib.hid (by first | with_reducible exact HBa.out.trans (hb.mono HBa.out.size) | with_reducible exact HBa.out.drew.trans (hb.mono HBa.out.drew.size))
                   have HR2 : Hid (vb.ownsRow W.heap.size 23 1 (.slice (some ⟨g3, 0, none⟩) 2 2) 2 (gvs [headR r, r.root])) := Lib.hid (by first | with_reducible exact own_below HR1.out hb | with_reducible exact own_below HR1.out.drew hb)
                   have hsb := HBb.out.size
                   clear hb)
                | (refine step_own rfl (.tmp 44) (.tmp 57) 28 rfl W.heap.size 23 i0 (.int .u64 0) 1 8 Tryd.underlying28 HI.out.1 HI.out.2.1 HI.out.2.2.1 HI.out.2.2.2 rfl (by decide) _ 2 (gvs [headR r, r.root]) (by rfl) (HR2.out.alloc _) ⟨vb.heap.size, 0, none⟩ 2 2 [.int .u64 s1, .int .u64 s2] (by rfl) (by rfl) (own_two.cells rfl) (by simp [Value.oneCell']) (by unfold maxLen; omega) (by omega) (by simp; omega) ?_
                   intro v9 vd ho9 hg9 hat9
                   obtain ⟨p9, c9, rfl, -, -, -⟩ := own_form ho9
                   have HO9 : Hid (vd.ownsRow W.heap.size 23 1 (.slice p9 4 c9) 4 (gvs [headR r, r.root] ++ [.int .u64 s1, .int .u64 s2])) := Lib.hid ho9
                   have HBd : Hid (Below W.heap.size W vd) := Lib.hid ((HBb.out.alloc HBb.out.size _).grown hg9 (HBb.out.alloc HBb.out.size _).size (fun r e => (HR2.out.lt r e).1))
                   clear ho9 hg9 hat9))
            all_goals
              go_wp2
              go_meet
              exact ⟨p9, c9, by rw [HLn.out], Lib.hid (by rw [HLn.out, HLs.out]; exact HO9.out), HBd⟩
          -- END6
        case rest =>
          obtain ⟨p4, c4, rfl, HO4, HB4⟩ := hcut
          clear x0 x1 x2 x3 x4 x5 x6
          obtain ⟨x0, x1, x2, x3, x4, x5, x6⟩ := block7 (HC.out _ HB4.out)
          have hs4 := HB4.out.size
          go_wp2_with fail
          clear x0 x1 x2 x3 x4 x5 x6
          refine (HWn.out _).mono ?_
          rintro e v5 ⟨u5, rfl, ho5, hb5⟩
          obtain ⟨q5, d5, rfl, -, -, -⟩ := own_form ho5
          have HV5 : Hid (Below W.heap.size W v5) := Lib.hid (HB4.out.trans (hb5.mono HB4.out.size))
          have HS5 := Lib.hid (srow_own ho5 (gvs_one _))
          have HR5 := Lib.hid (own_below HO4.out hb5)
          have hsv5 := HV5.out.size
          clear ho5 hb5
          go_wp2_with (at_builtin; refine wpList_row rfl _ _ rfl rfl Tryd.underlying28 HI.out.1 HI.out.2.1 HI.out.2.2.1 HI.out.2.2.2 rfl (by decide) rfl HR5.out _ rfl HS5.out (by unfold maxLen; omega) (by omega) (by omega) ?_; intro v' w5 hown' hgrow _; obtain ⟨p5, c5, rfl, -, -, -⟩ := own_form hown'; have HO5 := Lib.hid hown'; have HB5 : Hid (Below W.heap.size W w5) := Lib.hid (HV5.out.grown hgrow HV5.out.size (fun q e => (HR5.out.lt q e).1)); clear hown' hgrow; obtain ⟨x0, x1, x2, x3, x4, x5, x6⟩ := block7 (HC.out w5 HB5.out))
          have hs5 := HB5.out.size
          go_wp2_with fail
          clear x0 x1 x2 x3 x4 x5 x6
          refine (HWt.out _).mono ?_
          rintro e v6 ⟨u6, rfl, ho6, hb6⟩
          obtain ⟨q6, d6, rfl, -, -, -⟩ := own_form ho6
          have HV6 : Hid (Below W.heap.size W v6) := Lib.hid (HB5.out.trans (hb6.mono HB5.out.size))
          have HS6 := Lib.hid (srow_own ho6 (gvs_one _))
          have HR6 := Lib.hid (own_below HO5.out hb6)
          have hsv6 := HV6.out.size
          clear ho6 hb6
          go_wp2_with (at_builtin; refine wpList_row rfl _ _ rfl rfl Tryd.underlying28 HI.out.1 HI.out.2.1 HI.out.2.2.1 HI.out.2.2.2 rfl (by decide) rfl HR6.out _ rfl HS6.out (by unfold maxLen; omega) (by omega) (by omega) ?_; intro v' w6 hown' hgrow _; obtain ⟨p6, c6, rfl, -, -, -⟩ := own_form hown'; have HO6 := Lib.hid hown'; have HB6 : Hid (Below W.heap.size W w6) := Lib.hid (HV6.out.grown hgrow HV6.out.size (fun q e => (HR6.out.lt q e).1)); clear hown' hgrow; obtain ⟨x0, x1, x2, x3, x4, x5, x6⟩ := block7 (HC.out w6 HB6.out))
          have hs6 := HB6.out.size
          clear x0 x1 x2 x3 x4 x5 x6
          have HP0 : Hid (2 + (lens r.attrs).length + (wds r.name).length + (wds r.text).length = (P r 0).length ∧ gvs [headR r, r.root] ++ gvs (lens r.attrs) ++ gvs (wds r.name) ++ gvs (wds r.text) = gvs (P r 0)) := Lib.hid ⟨by rw [P_zero]; simp; omega, by rw [P_zero]; simp [gvs]⟩
          have hm20 : 2 + (lens r.attrs).length + (wds r.name).length + (wds r.text).length ≤ 20 := by omega
          have HOP := HO6
          rw [HP0.out.2] at HOP
          have HP00 := Lib.hid HP0.out.1
          generalize 2 + (lens r.attrs).length + (wds r.name).length + (wds r.text).length = m0 at *
          go_loopw [5, 6] (fun b i wr => ∃ (k m : Nat) (p : Option Addr) (cp : Nat), k ≤ r.attrs.length ∧ i = .int .i64 k ∧ b = .slice p m cp ∧ m ≤ 20 + 8 * k ∧ Hid (m = (P r k).length) ∧ Hid (wr.ownsRow W.heap.size 23 1 (.slice p m cp) m (gvs (P r k))) ∧ Hid (Below W.heap.size W wr)) (fun _ i _ => r.attrs.length - (intOf i).toNat)
          case atStart => exact ⟨0, m0, p6, c6, Nat.zero_le _, rfl, rfl, by omega, HP00, HOP, HB6⟩
          case round =>
            obtain ⟨k, m, p, cp, hk, rfl, rfl, hm8, HMm2, HO, HB⟩ := hrel
            have hBs := HB.out.size
            by_cases hlt : k < r.attrs.length
            · obtain ⟨g, o, rfl, hg, hc⟩ := sat (HA.out _ (HW.out.1.trans (HB.out.mono HW.out.1.size))) hlt
              have h60 : r.attrs[k].length ≤ 60 := H9.out _ (List.getElem_mem hlt)
              have HWk := Lib.hid (rwords_any r.attrs[k] wr (by omega))
              have hl8 : (wds r.attrs[k]).length ≤ 8 := by rw [wds_length]; exact nw8 (by omega)
              have HPs := Lib.hid (P_succ r hlt)
              generalize r.attrs[k] = x at *
              obtain ⟨x0, x1, x2, x3, x4, x5, x6⟩ := block7 (HC.out _ HB.out)
              go_wp2_with fail
              clear x0 x1 x2 x3 x4 x5 x6
              refine HWk.out.mono ?_
              rintro e v7 ⟨u7, rfl, ho7, hb7⟩
              obtain ⟨q7, d7, rfl, -, -, -⟩ := own_form ho7
              have HV7 : Hid (Below W.heap.size W v7) := Lib.hid (HB.out.trans (hb7.mono hBs))
              have HS7 := Lib.hid (srow_own ho7 (gvs_one _))
              have HR7 := Lib.hid (own_below HO.out hb7)
              have hsv7 := HV7.out.size
              clear ho7 hb7 hc
              go_wp2_with (at_builtin; refine wpList_row rfl _ _ rfl rfl Tryd.underlying28 HI.out.1 HI.out.2.1 HI.out.2.2.1 HI.out.2.2.2 rfl (by decide) rfl HR7.out _ rfl HS7.out (by unfold maxLen; omega) (by omega) (by omega) ?_; intro v' w7 hown' hgrow _; obtain ⟨p7, c7, rfl, -, -, -⟩ := own_form hown'; have HO7 := Lib.hid hown'; have HB7 : Hid (Below W.heap.size W w7) := Lib.hid (HV7.out.grown hgrow HV7.out.size (fun q e => (HR7.out.lt q e).1)); clear hown' hgrow)
              go_roundw
              case rel =>
                refine ⟨k + 1, m + (wds x).length, p7, c7, by omega, by go_num, rfl, by omega, Lib.hid (by rw [HPs.out, List.length_append, HMm2.out]), Lib.hid ?_, HB7⟩
                rw [HPs.out, gvs_append]
                exact HO7.out
              case measure => simp [intOf]; omega
            · obtain rfl : k = r.attrs.length := by omega
              go_wp2
              go_ret2
              refine .inr ⟨HMm.out, p, cp, ?_, ?_, HW.out.1.trans (HB.out.mono HW.out.1.size)⟩
              · have := HMm2.out
                unfold pk
                rw [← this]
                rfl
              · have := HMm2.out
                have h2 := HO.out
                unfold pk
                rw [← this]
                exact own_drop h2 (by omega)
    · have hat' : ¬ (0 : Int) < (r.attrs.length : Int) := by omega
      have HLe : Hid (lens r.attrs = []) := Lib.hid (lens_none (List.eq_nil_of_length_eq_zero (by omega)))
      go_cut [5] from 13 to 41 (fun v X => ∃ (p : Option Addr) (cp : Nat), v = .slice p (2 + (lens r.attrs).length) cp ∧ Hid (X.ownsRow W.heap.size 23 1 (.slice p (2 + (lens r.attrs).length) cp) (2 + (lens r.attrs).length) (gvs [headR r, r.root] ++ gvs (lens r.attrs))) ∧ Hid (Below W.heap.size W X))
      case first =>
        go_region_held3 (fun X => X.cell? ⟨w.heap.size, 0, none⟩ = some (.int .i64 r.kind) ∧ X.cell? ⟨w.heap.size, 1, none⟩ = some (.int .i64 r.par) ∧ X.cell? ⟨w.heap.size, 2, none⟩ = some (.string (str r.name)) ∧ X.cell? ⟨w.heap.size, 3, none⟩ = some (.string (str r.text)) ∧ X.cell? ⟨w.heap.size, 4, none⟩ = some (.slice A r.attrs.length c) ∧ X.cell? ⟨w.heap.size, 5, none⟩ = some (.int .u64 r.root) ∧ X.cell? ⟨w.heap.size, 6, none⟩ = some (.int .i64 r.size))
          (first
            | with_reducible exact block7 (HC.out _ HB1.out)
            | with_reducible exact block7 (HC.out _ HB1.out.drew)
            | with_reducible exact block7 (HC.out _ (HB1.out.alloc HB1.out.size _))
            | with_reducible exact block7 (HC.out _ (HB1.out.alloc HB1.out.size _).drew)
            | with_reducible exact block7 (HC.out _ ((HB1.out.alloc HB1.out.size _).alloc (HB1.out.alloc HB1.out.size _).size _))
            | with_reducible exact block7 (HC.out _ ((HB1.out.alloc HB1.out.size _).alloc (HB1.out.alloc HB1.out.size _).size _).drew)
            | with_reducible exact block7 (HC.out _ HB2.out)
            | with_reducible exact block7 (HC.out _ HB2.out.drew)
            | with_reducible exact block7 (HC.out _ (HB2.out.alloc HB2.out.size _)))
          (first
            | (go_at_call 19
               with_reducible refine (HNa.out w1).mono ?_
               rintro e w2 ⟨rfl, hb2⟩
               have HB2 : Hid (Below W.heap.size W w2) := Lib.hid (HB1.out.trans (hb2.mono HB1.out.size))
               clear hb2)
            | (go_at_call 19
               with_reducible refine (HNb.out w1).mono ?_
               rintro e w2 ⟨rfl, hb2⟩
               have HB2 : Hid (Below W.heap.size W w2) := Lib.hid (HB1.out.trans (hb2.mono HB1.out.size))
               clear hb2))
        all_goals
          have hs2 := HB2.out.size
          go_wp2
          go_meet
          refine ⟨some ⟨w2.heap.size, 0, none⟩, 2, by rw [HLe.out]; rfl, ?_, Lib.hid (HB2.out.alloc HB2.out.size _)⟩
          rw [HLe.out]
          exact Lib.hid (own_drop own_two HB2.out.size)
      case rest =>
        obtain ⟨p4, c4, rfl, HO4, HB4⟩ := hcut
        clear x0 x1 x2 x3 x4 x5 x6 HNa HNb
        obtain ⟨x0, x1, x2, x3, x4, x5, x6⟩ := block7 (HC.out _ HB4.out)
        have hs4 := HB4.out.size
        go_wp2_with fail
        clear x0 x1 x2 x3 x4 x5 x6
        refine (HWn.out _).mono ?_
        rintro e v5 ⟨u5, rfl, ho5, hb5⟩
        obtain ⟨q5, d5, rfl, -, -, -⟩ := own_form ho5
        have HV5 : Hid (Below W.heap.size W v5) := Lib.hid (HB4.out.trans (hb5.mono HB4.out.size))
        have HS5 := Lib.hid (srow_own ho5 (gvs_one _))
        have HR5 := Lib.hid (own_below HO4.out hb5)
        have hsv5 := HV5.out.size
        clear ho5 hb5
        go_wp2_with (at_builtin; refine wpList_row rfl _ _ rfl rfl Tryd.underlying28 HI.out.1 HI.out.2.1 HI.out.2.2.1 HI.out.2.2.2 rfl (by decide) rfl HR5.out _ rfl HS5.out (by unfold maxLen; omega) (by omega) (by omega) ?_; intro v' w5 hown' hgrow _; obtain ⟨p5, c5, rfl, -, -, -⟩ := own_form hown'; have HO5 := Lib.hid hown'; have HB5 : Hid (Below W.heap.size W w5) := Lib.hid (HV5.out.grown hgrow HV5.out.size (fun q e => (HR5.out.lt q e).1)); clear hown' hgrow; obtain ⟨x0, x1, x2, x3, x4, x5, x6⟩ := block7 (HC.out w5 HB5.out))
        have hs5 := HB5.out.size
        go_wp2_with fail
        clear x0 x1 x2 x3 x4 x5 x6
        refine (HWt.out _).mono ?_
        rintro e v6 ⟨u6, rfl, ho6, hb6⟩
        obtain ⟨q6, d6, rfl, -, -, -⟩ := own_form ho6
        have HV6 : Hid (Below W.heap.size W v6) := Lib.hid (HB5.out.trans (hb6.mono HB5.out.size))
        have HS6 := Lib.hid (srow_own ho6 (gvs_one _))
        have HR6 := Lib.hid (own_below HO5.out hb6)
        have hsv6 := HV6.out.size
        clear ho6 hb6
        go_wp2_with (at_builtin; refine wpList_row rfl _ _ rfl rfl Tryd.underlying28 HI.out.1 HI.out.2.1 HI.out.2.2.1 HI.out.2.2.2 rfl (by decide) rfl HR6.out _ rfl HS6.out (by unfold maxLen; omega) (by omega) (by omega) ?_; intro v' w6 hown' hgrow _; obtain ⟨p6, c6, rfl, -, -, -⟩ := own_form hown'; have HO6 := Lib.hid hown'; have HB6 : Hid (Below W.heap.size W w6) := Lib.hid (HV6.out.grown hgrow HV6.out.size (fun q e => (HR6.out.lt q e).1)); clear hown' hgrow; obtain ⟨x0, x1, x2, x3, x4, x5, x6⟩ := block7 (HC.out w6 HB6.out))
        have hs6 := HB6.out.size
        clear x0 x1 x2 x3 x4 x5 x6
        have HP0 : Hid (2 + (lens r.attrs).length + (wds r.name).length + (wds r.text).length = (P r 0).length ∧ gvs [headR r, r.root] ++ gvs (lens r.attrs) ++ gvs (wds r.name) ++ gvs (wds r.text) = gvs (P r 0)) := Lib.hid ⟨by rw [P_zero]; simp; omega, by rw [P_zero]; simp [gvs]⟩
        have hm20 : 2 + (lens r.attrs).length + (wds r.name).length + (wds r.text).length ≤ 20 := by omega
        have HOP := HO6
        rw [HP0.out.2] at HOP
        have HP00 := Lib.hid HP0.out.1
        generalize 2 + (lens r.attrs).length + (wds r.name).length + (wds r.text).length = m0 at *
        go_loopw [5, 6] (fun b i wr => ∃ (k m : Nat) (p : Option Addr) (cp : Nat), k ≤ r.attrs.length ∧ i = .int .i64 k ∧ b = .slice p m cp ∧ m ≤ 20 + 8 * k ∧ Hid (m = (P r k).length) ∧ Hid (wr.ownsRow W.heap.size 23 1 (.slice p m cp) m (gvs (P r k))) ∧ Hid (Below W.heap.size W wr)) (fun _ i _ => r.attrs.length - (intOf i).toNat)
        case atStart => exact ⟨0, m0, p6, c6, Nat.zero_le _, rfl, rfl, by omega, HP00, HOP, HB6⟩
        case round =>
          obtain ⟨k, m, p, cp, hk, rfl, rfl, hm8, HMm2, HO, HB⟩ := hrel
          have hBs := HB.out.size
          by_cases hlt : k < r.attrs.length
          · omega
          · obtain rfl : k = r.attrs.length := by omega
            go_wp2
            go_ret2
            refine .inr ⟨HMm.out, p, cp, ?_, ?_, HW.out.1.trans (HB.out.mono HW.out.1.size)⟩
            · have := HMm2.out
              unfold pk
              rw [← this]
              rfl
            · have := HMm2.out
              have h2 := HO.out
              unfold pk
              rw [← this]
              exact own_drop h2 (by omega)
  · have HMm := Lib.hid hm
    rw [hm] at HM
    clear hcp hm hA hr
    go_enter Tryd.func7, Tryd.ntmps7
    go_upto_region 1 with fail
    rw [← hW]
    clear hW
    go_wp2_with fail
    unfold rcs at *
    refine HM.out.mono ?_
    rintro e w1 ⟨rfl, hb1⟩
    have HB1 := Lib.hid (HW.out.1.trans (hb1.mono HW.out.1.size))
    clear hb1 x0 x1 x2 x3 x4 x5 x6
    go_wp2
    go_ret2
    exact .inl ⟨HMm.out, rfl, HB1.out⟩
end Go.Proofs.YthfeonmaajiajaaDoor
