/-
  The law ApplyUnknown: an operation on a number that is no node has ErrNode, whatever else is wrong.
-/
import Derived.Test.YtfmciefodohdgaaGreatDoorG16
import Derived.Test.YtfmciefodohdgaaGreatDoorG18
namespace Go.Proofs.YtfmciefodohdgaaGreatDoor
open Go.ChangeShapes Go.WideShapes Go.ChangeAt Go.RowKit
set_option linter.unusedVariables false
set_option linter.unusedSimpArgs false

theorem err_far {G : List Mn} {o : Ops.Po} (hm : Ops.mayO o = true) (hk : 4 ≤ o.kind) (hB : isB G o.id = false) : errP G o = 70 := by
  unfold errP
  rw [if_neg (by simp [hm]), if_neg (by omega), if_neg (by omega)]
  split
  · unfold insE; rw [if_pos hB]
  split
  · unfold remE; rw [if_pos hB]
  split
  · unfold setE; rw [if_pos hB]
  split
  · unfold delE; rw [if_pos hB]
  · unfold txE; rw [if_pos hB]
theorem u8_wf {n : Int} (h : (Lit.int .u8 n).wf = true) : 0 ≤ n ∧ n ≤ 255 := by
  simp [Lit.wf, IntKind.min, IntKind.max, IntKind.signed, IntKind.bits] at h
  omega
theorem own_agr {w w' : World} {base lo : Nat} {e : TypeId} {size n : Nat} {v : Value} {xs : List Value} (h : w.ownsRow base e size v n xs) (ha : Agr lo w w') (hl : lo ≤ base) : w'.ownsRow base e size v n xs := by
  refine ⟨h.1, ?_⟩
  rcases h.2 with h' | ⟨g, cap, cur, h1, h2, h3, h4⟩
  · exact .inl h'
  · exact .inr ⟨g, cap, cur, h1, h2, (ha.2 g (Nat.le_trans hl h2) (Array.getElem?_eq_some_iff.1 h3).1).trans h3, h4⟩
theorem OF.agr {w V : World} {base lo : Nat} {v : Value} {G : List Mn} (h : OF w base v G) (ha : Agr lo w V) (hl : lo ≤ base) : OF V base v G :=
  ⟨own_agr h.row ha hl, h.fit, fun m hm => ⟨own_agr (h.lst m hm).at_ ha hl, own_agr (h.lst m hm).ki ha hl⟩, h.apA, h.apK⟩
set_option maxRecDepth 100000 in
set_option maxHeartbeats 2000000 in
theorem new_far (w : World) :
    Calls Tryz.prog 14 #[] w fun e w' => ∃ A, e = .returned (.slice A 1 1) ∧ FR w' A [newM] ∧ (∀ V, Agr w.heap.size w' V → FR V A [newM]) ∧ Below w.heap.size w w' := by
  go_enter Tryz.func14, Tryz.ntmps14
  go_wp2_with fail
  go_ret
  exact ⟨_, rfl, node1_fr (heap_alloc_new _ _), fun V ha => node1_fr ((ha.2 _ (Nat.le_refl _) (by simp)).trans (heap_alloc_new _ _)), (Below.refl _ _).alloc (Nat.le_refl _) _⟩
set_option maxRecDepth 100000 in
set_option maxHeartbeats 8000000 in
theorem unknown_law (A : Option Addr) (l : List Ops.Po) (c : Nat) (o : Ops.Po) (far mx : Int) (w : World) (hL : Ops.OL w A l) (hl : l.length ≤ 9223372036854775807) (hf : Ops.Fit o) (h0 : 0 ≤ far) (h1 : far ≤ 255) (hK : Ops.KT w) (hm : w.cell? ⟨1, 0, none⟩ = some (.int .i64 mx)) :
    Calls Tryz.prog 8 #[.slice A l.length c, Ops.opv o, .int .u8 far] w (GivesV (.bool true) w) := by
  have hg0 : 1 < w.heap.size := World.block_lt_of_cell? _ _ hm
  have HL := Lib.hid hL
  have HK := Lib.hid hK
  have HBD := Lib.hid (fun (V : World) (hb : Below w.heap.size w V) => bounded7 A l c V (hL.below hb) hl)
  have HB1 := Lib.hid (fun (V : World) (A' : Option Addr) (h : Ops.OL V A' [o]) => bounded7 A' [o] 1 V h (by simp))
  have HS := Lib.hid (fun (V : World) (hb : Below w.heap.size w V) => shown7 mx V (hK.below hb) ((hb.cell (p := ⟨1, 0, none⟩) hg0).trans hm))
  have HFO := Lib.hid hf
  have HR1 := Lib.hid (fun (V : World) (A' : Option Addr) (h : Ops.OL V A' [o]) => h)
  have HLE : Hid (bdO l = true → l.length ≤ 150) := Lib.hid (fun h => by
    unfold bdO at h
    rw [Bool.and_eq_true, decide_eq_true_eq] at h
    exact h.2)
  have HMA := Lib.hid (fun (V : World) (o' : Ops.Po) (hb : Below w.heap.size w V) => Ops.may_any o' V (hK.below hb))
  have HON := Lib.hid (fun (V : World) (k : Nat) (A' : Option Addr) (G : List Mn) (c' : Nat) (o' : Ops.Po) (hb : Below w.heap.size w V) (h : OneAt V l k A' G) (hf : Ops.Fit o') => one_at h c' o' hf (hK.below hb))
  obtain ⟨kd, id, dst, ps, nm0, tx⟩ := o
  unfold Ops.opv at *
  simp only [] at *
  obtain ⟨W, hW⟩ : ∃ W, W = w.alloc (.cells #[.int .i64 kd, .int .i64 id, .int .i64 dst, .int .i64 ps, .string nm0, .string tx] 35) := ⟨_, rfl⟩
  have HWb : Hid (Below w.heap.size w W) := Lib.hid (by rw [hW]; exact (Below.refl _ _).alloc (Nat.le_refl _) _)
  have HOp : Hid (OpAt W w.heap.size ⟨kd, id, dst, ps, nm0, tx⟩) := Lib.hid (by rw [hW]; exact heap_alloc_new _ _)
  have HBW := Lib.hid (HBD.out W HWb.out)
  obtain ⟨n, hnn⟩ : ∃ n, l.length = n := ⟨_, rfl⟩
  have HNN := Lib.hid hnn
  rw [hnn] at HBW HLE hl ⊢
  clear hL hK hm hf hnn HBD
  generalize bdO l = BL at *
  go_enter Tryz.func8, Tryz.ntmps8
  go_upto_region 1 with fail
  rw [← hW]
  clear hW
  obtain ⟨x0, x1, x2, x3, x4, x5⟩ := block6 HOp.out
  go_wp2_with fail
  refine HBW.out.mono ?_
  rintro e w' ⟨rfl, hw⟩
  obtain rfl := hw.symm
  cases BL with
  | false =>
    go_wp2_with fail
    refine (HS.out W HWb.out).mono ?_
    rintro e w1 ⟨rfl, hb⟩
    have HB := Lib.hid (HWb.out.trans (hb.mono HWb.out.size))
    clear hb
    go_wp2
    go_ret
    exact ⟨rfl, HB.out⟩
  | true =>
  have hln := HLE.out rfl
  obtain ⟨X, hX⟩ : ∃ X, X = W.alloc (.cells #[.int .i64 kd, .int .i64 id, .int .i64 dst, .int .i64 ps, .string nm0, .string tx] 35) := ⟨_, rfl⟩
  have HXW : Hid (Below W.heap.size W X) := Lib.hid (by rw [hX]; exact (Below.refl _ _).alloc (Nat.le_refl _) _)
  have HXb := Lib.hid (HWb.out.trans (HXW.out.mono HWb.out.size))
  have HXO := Lib.hid (HOp.out.below HXW.out)
  have HBX := Lib.hid (HB1.out X (some ⟨W.heap.size, 0, none⟩) (ol_one HFO.out (by rw [hX]; exact heap_alloc_new _ _)))
  go_wp2_with fail
  rw [← hX]
  clear hX
  refine HBX.out.mono ?_
  rintro e w' ⟨rfl, hw⟩
  obtain rfl := hw.symm
  clear x0 x1 x2 x3 x4 x5
  rcases Bool.eq_false_or_eq_true (bdO [⟨kd, id, dst, ps, nm0, tx⟩]) with hbo | hbo
  · rw [hbo]
    clear hbo
    go_wp2_with fail
    refine (HS.out X HXb.out).mono ?_
    rintro e w1 ⟨rfl, hb⟩
    have HB := Lib.hid (HXb.out.trans (hb.mono HXb.out.size))
    have HO1 := Lib.hid (HXO.out.below hb)
    clear hb
    go_wp2_with fail
    refine (new_far w1).mono ?_
    rintro e w2 ⟨A0, rfl, hA, hfar, hb⟩
    have HF0 : Hid (∀ V, Agr (w.heap.size + 1) w2 V → FR V A0 [newM]) := Lib.hid (fun V ha => hfar V (ha.mono (lt_of_block HO1.out)))
    have HST := Lib.hid (OneAt.start l hA)
    have HB2 := Lib.hid (HB.out.trans (hb.mono HB.out.size))
    have HO2 := Lib.hid (HO1.out.below hb)
    clear hA hb hfar
    go_wp2_with fail
    go_loopw [7, 8] (fun q7 q8 wr => ∃ (k : Nat) (Af : Option Addr) (G : List Mn) (cf : Nat), q7 = .slice Af G.length cf ∧ q8 = .int .i64 k ∧ k ≤ n ∧ Hid (OneAt wr l k Af G) ∧ Hid (Below w.heap.size w wr) ∧ Hid (OpAt wr w.heap.size ⟨kd, id, dst, ps, nm0, tx⟩) ∧ Hid (∀ V, Agr (w.heap.size + 1) wr V → FR V Af G)) (fun _ q8 _ => n - (intOf q8).toNat)
    case atStart => exact ⟨0, A0, [newM], 1, rfl, rfl, Nat.zero_le _, HST, HB2, HO2, HF0⟩
    case round =>
      obtain ⟨k, Af, G, cf, rfl, rfl, hk, HG, HBr, HOr, HFar⟩ := hrel
      by_cases hlt : k < n
      · have k0 : (0 : Int) ≤ (k : Int) := by omega
        have k1 : (k : Int) < (n : Int) := by omega
        have hkl : k < l.length := by rw [HNN.out]; exact hlt
        obtain ⟨hfk, gl, off, rfl, hgl, a0, a1, a2, a3, a4, a5⟩ := (HL.out.below HBr.out) k l[k] (List.getElem?_eq_getElem hkl)
        have HOK := Lib.hid (HON.out wr k Af G cf l[k] HBr.out HG.out hfk)
        have HNX := Lib.hid (fun (w' : World) (base g cap : Nat) (G' : List Mn) (h : OF w' base (.slice (some ⟨g, 0, none⟩) G'.length cap) G') (hc : G'.map core = (oneP G l[k]).1.map core) => HG.out.step hkl h hc)
        generalize l[k] = p at *
        go_wp2_with fail
        refine HOK.out.mono ?_
        rintro e w3 ⟨g, cap, G', rfl, hO, hc, hb⟩
        have HG2 := Lib.hid (HNX.out w3 _ g cap G' hO hc)
        have HB3 := Lib.hid (HBr.out.trans (hb.mono HBr.out.size))
        have HO3 := Lib.hid (HOr.out.below hb)
        have HF3 : Hid (∀ V, Agr (w.heap.size + 1) w3 V → FR V (some ⟨g, 0, none⟩) G') := Lib.hid (fun V ha => (hO.agr ha (lt_of_block HOr.out)).fr)
        clear hO hc hb a0 a1 a2 a3 a4 a5 hfk hkl
        generalize errP G p = er at *
        go_wp2
        go_roundw
        case rel => exact ⟨k + 1, _, G', cap, rfl, by go_num, by omega, HG2, HB3, HO3, HF3⟩
        case measure => simp [intOf] <;> omega
      · obtain rfl : k = n := by omega
        have hsz := (may_sz HG.out.may).1
        obtain ⟨gn, hgn⟩ : ∃ gn, G.length = gn := ⟨_, rfl⟩
        have HGN := Lib.hid hgn
        rw [hgn] at hsz ⊢
        clear hgn
        have hsum : IntKind.i64.wrap ((gn : Int) + far) = (gn : Int) + far := by rw [IntKind.wrap_i64]; omega
        have hfar : IntKind.i64.wrap far = far := by rw [IntKind.wrap_i64]; omega
        obtain ⟨x0, x1, x2, x3, x4, x5⟩ := block6 HOr.out
        have fz : wr.frozen? ⟨w.heap.size, 1, none⟩ = false := by have := HOr.out; simp [World.frozen?, OpAt] at this ⊢; rw [this]; rfl
        obtain ⟨Z, hZ⟩ : ∃ Z, Z = wr.setCell ⟨w.heap.size, 1, none⟩ (.int .i64 ((gn : Int) + far)) := ⟨_, rfl⟩
        have HZb : Hid (Below w.heap.size w Z) := Lib.hid (by rw [hZ]; exact HBr.out.setCell (Nat.le_refl _) _)
        have HZO : Hid (OpAt Z w.heap.size ⟨kd, (gn : Int) + far, dst, ps, nm0, tx⟩) := Lib.hid (by
          rw [hZ]
          have := HOr.out
          unfold OpAt at this ⊢
          simp [World.setCell, Array.getElem?_modify, this])
        have HFZ : Hid (Ops.Fit ⟨kd, (gn : Int) + far, dst, ps, nm0, tx⟩) := Lib.hid ⟨HFO.out.k, by unfold Ops.I64; simp only []; omega, HFO.out.t, HFO.out.a⟩
        have HOZ := Lib.hid (HON.out Z k Af G cf ⟨kd, (gn : Int) + far, dst, ps, nm0, tx⟩ HZb.out (by
          rw [hZ]
          exact ⟨HFar.out _ ⟨by simp [World.setCell], fun x h1 _ => Below.heap_setCell _ _ _ _ (by show x ≠ w.heap.size; omega)⟩, HG.out.like⟩) HFZ.out)
        simp only [] at HOZ
        rw [HGN.out] at HOZ
        have HBF : Hid (isB G ((gn : Int) + far) = false) := Lib.hid (by rw [isB, HGN.out, decide_eq_false_iff_not]; omega)
        go_upto_region 9 with fail
        rw [← hZ]
        clear hZ x0 x1 x2 x3 x4 x5 fz
        obtain ⟨x0, x1, x2, x3, x4, x5⟩ := block6 HZO.out
        go_wp2_with fail
        refine HOZ.out.mono ?_
        rintro e w3 ⟨g, cap, G', rfl, -, -, hb⟩
        have HB3 := Lib.hid (HZb.out.trans (hb.mono HZb.out.size))
        have HO3 := Lib.hid (HZO.out.below hb)
        have HMY := Lib.hid (HMA.out w3 ⟨kd, (gn : Int) + far, dst, ps, nm0, tx⟩ HB3.out)
        simp only [] at HMY
        clear hb x0 x1 x2 x3 x4 x5
        obtain ⟨x0, x1, x2, x3, x4, x5⟩ := block6 HO3.out
        obtain ⟨er, her⟩ : ∃ er, errP G ⟨kd, (gn : Int) + far, dst, ps, nm0, tx⟩ = er := ⟨_, rfl⟩
        rw [her]
        rcases Bool.eq_false_or_eq_true (Ops.mayO ⟨kd, (gn : Int) + far, dst, ps, nm0, tx⟩) with hmo | hmo
        · have HEK : Hid (4 ≤ kd → er = 70) := Lib.hid (fun hk4 => by rw [← her]; exact err_far hmo hk4 HBF.out)
          rw [hmo] at HMY
          clear her hmo hsum hfar
          by_cases hk4 : 4 ≤ kd
          · have he := HEK.out hk4
            subst he
            go_wp2_with fail
            refine HMY.out.mono ?_
            rintro e w4 ⟨rfl, hb⟩
            have HB4 := Lib.hid (HB3.out.trans (hb.mono HB3.out.size))
            have HO4 := Lib.hid (HO3.out.below hb)
            clear hb x0 x1 x2 x3 x4 x5
            obtain ⟨x0, x1, x2, x3, x4, x5⟩ := block6 HO4.out
            go_wp2
            go_ret
            exact ⟨rfl, HB4.out⟩
          · go_wp2_with fail
            refine HMY.out.mono ?_
            rintro e w4 ⟨rfl, hb⟩
            have HB4 := Lib.hid (HB3.out.trans (hb.mono HB3.out.size))
            have HO4 := Lib.hid (HO3.out.below hb)
            clear hb x0 x1 x2 x3 x4 x5
            obtain ⟨x0, x1, x2, x3, x4, x5⟩ := block6 HO4.out
            go_wp2
            go_ret
            exact ⟨rfl, HB4.out⟩
        · have he : er = 1 := by rw [← her]; unfold errP; rw [if_pos hmo]
          rw [hmo] at HMY
          clear her hmo hsum hfar
          subst he
          go_wp2_with fail
          refine HMY.out.mono ?_
          rintro e w4 ⟨rfl, hb⟩
          have HB4 := Lib.hid (HB3.out.trans (hb.mono HB3.out.size))
          clear hb
          go_wp2
          go_ret
          exact ⟨rfl, HB4.out⟩
  · rw [hbo]
    clear hbo
    go_wp2_with fail
    refine (HS.out X HXb.out).mono ?_
    rintro e w1 ⟨rfl, hb⟩
    have HB := Lib.hid (HXb.out.trans (hb.mono HXb.out.size))
    clear hb
    go_wp2
    go_ret
    exact ⟨rfl, HB.out⟩
set_option maxRecDepth 100000 in
/-- The law, of what came in. -/
theorem unknown_true {H : Type} {enc : TypeId × Value → H} {W : World} {base : Nat} {v0 v1 v2 : Value} {d0 d1 d2 : DataW H} {p0 p1 p2 : List MemPlace} (hm : ∃ mx, W.cell? ⟨1, 0, none⟩ = some (.int .i64 mx)) (hK : Ops.KT W) (o0 : Value.okWide Tryz.prog W .any base 22 v0) (o1 : Value.okWide Tryz.prog W .any base 35 v1) (o2 : Value.okWide Tryz.prog W .any base 5 v2)
    (h0 : DataW.Trod enc Tryz.prog W 0 (fun _ => true) true 22 v0 d0 p0) (h1 : DataW.Trod enc Tryz.prog W 0 (fun _ => true) true 35 v1 d1 p1) (h2 : DataW.Trod enc Tryz.prog W 0 (fun _ => true) true 5 v2 d2 p2) (l0 : ∀ x ∈ p0, x.block < W.heap.size) (l1 : ∀ x ∈ p1, x.block < W.heap.size) (l2 : ∀ x ∈ p2, x.block < W.heap.size) :
    Calls Tryz.prog 8 #[v0, v1, v2] W fun e W' => e = .returned (.bool true) ∧ Below W.heap.size W W' := by
  obtain ⟨mx, hm⟩ := hm
  obtain ⟨A, cap, l, rfl, e1, e2, hL, -⟩ := Ops.ol_open o0 h0 l0
  obtain ⟨o, rfl, hf⟩ := Ops.op_open o1 h1
  obtain ⟨far, rfl, rfl, rfl, w0⟩ := open_int Tryz.underlying5 o2 h2
  obtain ⟨f0, f1⟩ := u8_wf w0
  exact unknown_law A l cap o far mx W hL (Nat.le_trans e1 e2) hf f0 f1 hK hm
end Go.Proofs.YtfmciefodohdgaaGreatDoor
