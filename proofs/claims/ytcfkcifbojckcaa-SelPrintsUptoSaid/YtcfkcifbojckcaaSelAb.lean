/-
  The document's selector out of ours: its.
-/
import Derived.Test.YtcfkcifbojckcaaSelZ
import Derived.Test.YtcfkcifbojckcaaSelAa
import Derived.Deep.RegionLaw
namespace Go.Proofs.Ytcfkcifbojckcaa
open Go.ChangeShapes Go.WideShapes Go.ChangeAt Go.RowKit
open Go.PlainAid (bt)
set_option linter.unusedVariables false
set_option linter.unusedSimpArgs false

/-- append onto a row of the call's own: one step of a region that draws its order. -/
theorem step_own {P : Program} {ops : Array Oper} {o : Oper} {a : Act} {w : World} {K : Act → World → Prop} {Q : Exit → Act → World → Prop} {E : Prop}
    (hgd : o.guard = none) (s x : Operand) (t : TypeId) (ho : o.op = .call { callee := .builtin .append, args := #[s, x], argTypes := #[t, t] })
    (base : Nat) (e : TypeId) (i : TypeInfo) (z : Value) (size bytes : Nat) (ht : P.underlying t = some (.slice e)) (hi : P.info? e = some i) (hz : i.zero = some z)
    (hsize : i.size = size) (hby : i.bytes = bytes) (hzs : z.cells.size = size) (hsz : 0 < size)
    (v : Value) (n : Nat) (xs : List Value) (hs : a.eval s = v) (hown : w.ownsRow base e size v n xs)
    (ad : Addr) (m c : Nat) (news : List Value) (hx : a.eval x = .slice (some ad) m c) (hl : news.length = m * size) (hnews : ∀ j u, news[j]? = some u → w.cell? (ad.add j) = some u) (h1 : ∀ u ∈ news, u.oneCell' = true)
    (h63 : n + m ≤ maxLen) (hbytes : (n + m) * bytes ≤ 140737488355328) (hbase : base ≤ w.heap.size)
    (h : ∀ v' w', w'.ownsRow base e size v' (n + m) (xs ++ news) → w.grownBy w' v.ownBlock → (v'.ownBlock = v.ownBlock ∨ v'.ownBlock = some w.heap.size) → K (a.put o.dst v') w') :
    if Region.wanted o (yielded ops a.tmps) = true then Oper.wp P o a w K Q else E := by
  have hw : Region.wanted o (yielded ops a.tmps) = true := by simp [Region.wanted, hgd]
  rw [if_pos hw]
  obtain ⟨v', w', hr, h2, h3, _, h5⟩ := run_append_own_at (P := P) w base t o.type e i z size bytes ht hi hz hsize hby hzs hsz v n xs hown ad m c news hl hnews h1 h63 hbytes hbase
  unfold Oper.wp execOp
  simp only [ho, resolve, invoke, builtin, Sem.run_bind, Sem.run_pure, Result.andThen_ok, List.map_toArray, List.map_cons, List.map_nil, hs, hx, hr]
  exact h v' w' h2 h3 h5
theorem own_put {w : World} {base size k : Nat} {e t : TypeId} {v : Value} {n : Nat} {xs : List Value} {cs : Array Value} (h : w.ownsRow base e size v n xs) (hk : w.heap[k]? = some (.cells cs t (0, 0))) (hne : e ≠ t) (o : Nat) (u : Value) : (w.setCell ⟨k, o, none⟩ u).ownsRow base e size v n xs := by
  have hq := own_apart h hk hne
  refine ⟨h.1, ?_⟩
  rcases h.2 with h' | ⟨g, cap, cur, h1, h2, h3, h4⟩
  · exact .inl h'
  · refine .inr ⟨g, cap, cur, h1, h2, ?_, h4⟩
    subst h1
    exact (Below.heap_setCell _ _ _ _ (fun e => hq (by simp only [Value.ownBlock]; exact congrArg some e))).trans h3
theorem wx_small {x : List Mr} (h : Sl.wx (rws x) ≤ 1000000) : x.length ≤ 1000000 ∧ ∀ m ∈ x, m.2.length ≤ 1000000 ∧ ∀ s ∈ m.2, s.2.1.length ≤ 1000000 := by
  have h1 := Sl.wx_len (rws x)
  rw [rws, List.length_map] at h1
  refine ⟨by rw [rws] at h; omega, fun m hm => ?_⟩
  have h2 := Sl.wx_row (List.mem_map_of_mem (f := fun m : Mr => m.2.map stp) hm)
  have h3 := Sl.wss_len (m.2.map stp)
  rw [List.length_map] at h3
  unfold Sl.wr at h2
  rw [rws] at h
  refine ⟨by omega, fun s hs => ?_⟩
  have h4 := Sl.wr_step (List.mem_map_of_mem (f := stp) hs)
  have h5 := Sl.wc_len (s.2.1.map te)
  rw [List.length_map] at h5
  have e : Sl.ws (stp s) = 4 + Sl.wc (s.2.1.map te) := rfl
  omega
set_option maxRecDepth 100000 in
set_option maxHeartbeats 8000000 in
theorem its_any (A : Option Addr) (x : List Mr) (c : Nat) (w : World) (hX : XR w A x) (hz : Sl.wx (rws x) ≤ 1000000) :
    Calls Try.prog 8 #[.slice A x.length c] w fun e w' => ∃ (y : List Mr) (v : Value), e = .returned v ∧ SrR w' w.heap.size v y ∧ cx y = cx x ∧ Below w.heap.size w w' := by
  have HX := Lib.hid hX
  obtain ⟨hz1, hz2⟩ := wx_small hz
  have HZ := Lib.hid hz2
  obtain ⟨i0, hI1, hI2, hI3, hI4⟩ := info_parts info_rtest
  obtain ⟨i1, hJ1, hJ2, hJ3, hJ4⟩ := info_parts info_rstep
  obtain ⟨i2, hK1, hK2, hK3, hK4⟩ := info_parts info_rrow
  have HI := Lib.hid (And.intro hI1 (And.intro hI2 (And.intro hI3 hI4)))
  have HJ := Lib.hid (And.intro hJ1 (And.intro hJ2 (And.intro hJ3 hJ4)))
  have HK := Lib.hid (And.intro hK1 (And.intro hK2 (And.intro hK3 hK4)))
  obtain ⟨n, hn⟩ : ∃ n, x.length = n := ⟨_, rfl⟩
  have HN := Lib.hid hn
  rw [hn] at hz1 ⊢
  clear hX hn hz hz2 hI1 hI2 hI3 hI4 hJ1 hJ2 hJ3 hJ4 hK1 hK2 hK3 hK4
  have HO := Lib.hid (World.ownsRow_made (e := 46) (size := 1) (base := w.heap.size) w #[] 0 (Nat.le_refl _) (by simp [maxLen]) rfl)
  have HB0 : Hid (Below w.heap.size w (w.alloc (.cells #[] 46))) := Lib.hid ((Below.refl _ _).alloc (Nat.le_refl _) _)
  go_enter Try.func8, Try.ntmps8
  go_wp2_with fail
  go_loopw [3, 4] (fun q3 q4 wr => ∃ (V : World) (i : Nat) (p : Option Addr) (cap : Nat) (Y : List Mr), V = wr ∧ i ≤ n ∧ q3 = .slice p i cap ∧ q4 = .int .i64 i ∧ Y.length = i ∧ Hid (SrR V w.heap.size (.slice p i cap) Y) ∧ Hid (cx Y = (cx x).take i) ∧ Hid (Below w.heap.size w V)) (fun _ q4 _ => n - (intOf q4).toNat)
  case atStart => exact ⟨_, 0, _, _, [], rfl, Nat.zero_le _, rfl, rfl, rfl, Lib.hid ⟨HO.out, fun m hm => absurd hm (by simp)⟩, Lib.hid rfl, HB0⟩
  case round =>
    clear HO HB0
    obtain ⟨V, i, p, cap, Y, rfl, hi, rfl, rfl, hYl, HS, HY, HB⟩ := hrel
    by_cases hlt : i < n
    · have k0 : (0 : Int) ≤ (i : Int) := by omega
      have k1 : (i : Int) < (n : Int) := by omega
      have hix : i < x.length := by rw [HN.out]; exact hlt
      obtain ⟨g, off, rfl, hg, c0, hM⟩ := (HX.out.below HB.out) i x[i] (List.getElem?_eq_getElem hix)
      have HM := Lib.hid hM
      unfold r1 at c0
      have HCx : Hid ((cx x).take (i + 1) = (cx x).take i ++ [cl x[i].2]) := Lib.hid (by rw [take_more (by simpa [cx] using hix)]; simp [cx])
      obtain ⟨hl1, hl2⟩ := HZ.out x[i] (List.getElem_mem hix)
      have HL2 := Lib.hid hl2
      have HC0 := Lib.hid (fun (X : World) (hX : Below V.heap.size V X) => And.intro ((hX.cell (p := ⟨g, off + i, none⟩) hg).trans c0) (Nat.lt_of_lt_of_le hg hX.size))
      generalize x[i] = m at *
      obtain ⟨⟨mA, mc⟩, l⟩ := m
      simp only [] at c0 HC0 HM HCx hl1 HL2
      obtain ⟨nl, hnl⟩ : ∃ nl, l.length = nl := ⟨_, rfl⟩
      have HNL := Lib.hid hnl
      rw [hnl] at c0 HC0 hl1
      clear hnl hM hl2 c0
      have HO1 := Lib.hid (World.ownsRow_made (e := 49) (size := 2) (base := V.heap.size) V #[] 0 (Nat.le_refl _) (by simp [maxLen]) rfl)
      have HB1 : Hid (Below V.heap.size V (V.alloc (.cells #[] 49))) := Lib.hid ((Below.refl _ _).alloc (Nat.le_refl _) _)
      go_wp2_with fail
      go_loopw [5, 6] (fun q5 q6 wr => ∃ (U : World) (k : Nat) (p5 : Option Addr) (c5 : Nat) (L : List Ms), U = wr ∧ k ≤ nl ∧ q5 = .slice p5 k c5 ∧ q6 = .int .i64 k ∧ L.length = k ∧ Hid (RwR U V.heap.size (.slice p5 k c5) L) ∧ Hid (cl L = (cl l).take k) ∧ Hid (Below V.heap.size V U)) (fun _ q6 _ => nl - (intOf q6).toNat)
      case atStart => exact ⟨_, 0, _, _, [], rfl, Nat.zero_le _, rfl, rfl, rfl, Lib.hid ⟨HO1.out, fun m hm => absurd hm (by simp)⟩, Lib.hid rfl, HB1⟩
      case round =>
        clear HO1 HB1
        obtain ⟨U, k, p5, c5, L, rfl, hk, rfl, rfl, hLl, HW, HLc, HU⟩ := hrel
        obtain ⟨c0, hgU⟩ := HC0.out U HU.out
        by_cases hkl : k < nl
        · have j0 : (0 : Int) ≤ (k : Int) := by omega
          have j1 : (k : Int) < (nl : Int) := by omega
          have hkx : k < l.length := by rw [HNL.out]; exact hkl
          obtain ⟨gs, os, rfl, hgs, s0, s1, hT⟩ := (HM.out.below HU.out) k l[k] (List.getElem?_eq_getElem hkx)
          have HT := Lib.hid hT
          have hts := HL2.out l[k] (List.getElem_mem hkx)
          have HCl : Hid ((cl l).take (k + 1) = (cl l).take k ++ [l[k].2]) := Lib.hid (by rw [take_more (by simpa [cl] using hkx)]; simp [cl])
          have HCS := Lib.hid (fun (X : World) (hX : Below U.heap.size U X) => And.intro ((hX.cell (p := ⟨gs, os + k * 2, none⟩) hgs).trans s0) (Nat.lt_of_lt_of_le hgs hX.size))
          have HC1 := Lib.hid (fun (X : World) (hX : Below U.heap.size U X) => HC0.out X (HU.out.trans (hX.mono HU.out.size)))
          generalize l[k] = q1 at *
          obtain ⟨⟨tA, tc⟩, T, ch⟩ := q1
          simp only [] at s0 s1 HCS HT HCl hts
          obtain ⟨nt, hnt⟩ : ∃ nt, T.length = nt := ⟨_, rfl⟩
          have HNT := Lib.hid hnt
          rw [hnt] at s0 HCS hts
          clear hnt hT
          obtain ⟨P0, hP0⟩ : ∃ P0, P0 = U.alloc (.cells #[.slice none 0 0, .bool ch] 49) := ⟨_, rfl⟩
          have HX0 : Hid (P0.heap[U.heap.size]? = some (.cells #[.slice none 0 0, .bool ch] 49 (0, 0))) := Lib.hid (by rw [hP0]; exact heap_alloc_new _ _)
          have HPB : Hid (Below U.heap.size U P0) := Lib.hid (by rw [hP0]; exact (Below.refl _ _).alloc (Nat.le_refl _) _)
          have HPS : Hid (P0.heap.size = U.heap.size + 1) := Lib.hid (by rw [hP0]; simp)
          go_wp2_with fail
          rw [← hP0]
          clear hP0 c0 s0 s1
          obtain ⟨xb, hxb⟩ : ∃ xb, xb = U.heap.size := ⟨_, rfl⟩
          have HXB := Lib.hid hxb
          rw [← hxb] at HX0 ⊢
          clear hxb
          go_loopw [8] (fun q8 wr => ∃ (P : World) (j : Nat) (pt : Option Addr) (ct : Nat), P = wr ∧ j ≤ nt ∧ q8 = .int .i64 j ∧ Hid (P.heap[xb]? = some (.cells #[.slice pt j ct, .bool ch] 49 (0, 0))) ∧ Hid (P.ownsRow (xb + 1) 51 3 (.slice pt j ct) j (tcells (T.take j))) ∧ Hid (Below U.heap.size U P)) (fun q8 _ => nt - (intOf q8).toNat)
          case atStart => exact ⟨_, 0, none, 0, rfl, Nat.zero_le _, rfl, HX0, Lib.hid (World.ownsRow_nil _ _ _ _), HPB⟩
          case round =>
            clear HX0 HPB HPS
            obtain ⟨P, j, pt, ct, rfl, hj, rfl, HXj, HOj, HP⟩ := hrel
            obtain ⟨c0, hgP⟩ := HC1.out P HP.out
            obtain ⟨s0, hgsP⟩ := HCS.out P HP.out
            have hxl := lt_block HXj.out
            by_cases hjl : j < nt
            · have y0 : (0 : Int) ≤ (j : Int) := by omega
              have y1 : (j : Int) < (nt : Int) := by omega
              have hjx : j < T.length := by rw [HNT.out]; exact hjl
              obtain ⟨gt, ot, rfl, hgt, d0, d1, d2⟩ := (HT.out.below HP.out) j T[j] (List.getElem?_eq_getElem hjx)
              have HTk : Hid (tcells (T.take (j + 1)) = tcells (T.take j) ++ t3 T[j]) := Lib.hid (by rw [take_more hjx, tcells_snoc])
              generalize T[j] = y at *
              obtain ⟨ya, yb, yc⟩ := y
              simp only [] at d0 d1 d2
              have b0 : P.cell? ⟨xb, 0, none⟩ = some (.slice pt j ct) := by simp [World.cell?, HXj.out]
              have f0 : P.frozen? ⟨xb, 0, none⟩ = false := by simp [World.frozen?, HXj.out]
              have hne1 : g ≠ P.heap.size := by omega
              have hne2 : P.heap.size ≠ g := by omega
              have hne3 : gs ≠ P.heap.size := by omega
              have hne4 : P.heap.size ≠ gs := by omega
              have hne5 : gt ≠ P.heap.size := by omega
              have hne6 : P.heap.size ≠ gt := by omega
              have hne7 : xb ≠ P.heap.size := by omega
              have hne8 : P.heap.size ≠ xb := by omega
              have hrow : (Value.slice pt j ct).ownBlock ≠ some xb := own_apart HOj.out HXj.out (by decide)
              have mixed : Try.prog.follows Departure.mixedOrders = true := by kernel_rfl
              go_upto_region 13 with fail
              go_region_law_o (refine step_own rfl (.tmp 49) (.tmp 61) 47 rfl (xb + 1) 51 i0 (.agg #[.int .i64 0, .string ⟨#[]⟩, .string ⟨#[]⟩]) 3 40 Try.underlying47 HI.out.1 HI.out.2.1 HI.out.2.2.1 HI.out.2.2.2 rfl (by decide) (.slice pt j ct) j (tcells (T.take j)) (by simp [Act.eval, Act.put]) (HOj.out.alloc _) ⟨P.heap.size, 0, none⟩ 1 1 (t3 (ya, yb, yc)) (by simp [Act.eval, Act.put]) rfl (cells3 _ _ _ _ _ _ (heap_alloc_new _ _)) (t3_one (ya, yb, yc)) (by unfold maxLen; omega) (by omega) (by first | (simp; done) | (simp; omega)) ?_; intro v' w5 hown' hgrow hat; obtain ⟨q', cap2, rfl, -, -⟩ := own_form2 hown'; have HO' := Lib.hid hown'; have HGR := Lib.hid hgrow; have HK5 : Hid (w5.heap[xb]? = some (.cells #[.slice pt j ct, .bool ch] 49 (0, 0))) := Lib.hid (by rw [hgrow.block _ (by first | (simp; done) | (simp; omega)) (Ne.symm hrow)]; exact (Below.heap_alloc _ _ _ (by first | exact hxl | simpa using hxl)).trans HXj.out); have g3 : w5.frozen? ⟨xb, 0, none⟩ = false := (by simp [World.frozen?, HK5.out]); have g4 : w5.cell? ⟨xb, 0, none⟩ = some (.slice pt j ct) := (by simp [World.cell?, HK5.out]); clear hown' hgrow hat)
              all_goals
                go_wp2
                go_roundw
                case rel =>
                  refine ⟨_, j + 1, q', cap2, rfl, by omega, by go_num, Lib.hid ?_, Lib.hid ?_, Lib.hid ?_⟩
                  · have := HK5.out
                    simp [World.setCell, Array.getElem?_modify, this]
                  · rw [HTk.out]
                    exact own_put HO'.out HK5.out (by decide) 0 _
                  · exact ((HP.out.drew.alloc (show U.heap.size ≤ P.heap.size from HP.out.size) _).grown HGR.out (by have := HP.out.size; first | (simp; done) | (simp; omega)) (fun r e => by have := (HOj.out.lt r e).1; have := HXB.out; omega)).setCell (by have := HXB.out; simp; omega) _
                case measure => simp [intOf] <;> omega
            · obtain rfl : j = nt := by omega
              have e : T.take j = T := List.take_of_length_le (by rw [HNT.out]; exact Nat.le_refl _)
              rw [e] at HOj
              have b0 : P.cell? ⟨xb, 0, none⟩ = some (.slice pt j ct) := by simp [World.cell?, HXj.out]
              have b1 : P.cell? ⟨xb, 1, none⟩ = some (.bool ch) := by simp [World.cell?, HXj.out]
              have HWP := Lib.hid (HW.out.below HP.out)
              have HXA : Hid (Below P.heap.size P (P.alloc (.cells #[.slice pt j ct, .bool ch] 49))) := Lib.hid ((Below.refl _ _).alloc (Nat.le_refl _) _)
              have HXo := Lib.hid (own_below HWP.out.row HXA.out)
              have HXC := Lib.hid (cells2 _ _ _ _ _ (heap_alloc_new P (.cells #[.slice pt j ct, .bool ch] 49)))
              have HVP := Lib.hid (HU.out.trans (HP.out.mono HU.out.size))
              have HXS := Lib.hid (Nat.le_trans HVP.out.size HXA.out.size)
              have HLL := Lib.hid hLl
              rw [hLl] at HXo
              clear e
              go_wp2_with (at_builtin; refine wpList_append_own_at _ rfl _ _ 46 rfl V.heap.size 49 i1 (.agg #[.slice none 0 0, .bool false]) 2 32 Try.underlying46 HJ.out.1 HJ.out.2.1 HJ.out.2.2.1 HJ.out.2.2.2 rfl (by decide) _ _ _ rfl HXo.out ⟨P.heap.size, 0, none⟩ 1 1 [.slice pt j ct, .bool ch] rfl rfl HXC.out (by intro u hu; simp only [List.mem_cons, List.not_mem_nil, or_false] at hu; rcases hu with rfl | rfl <;> rfl) (by unfold maxLen; omega) (by omega) HXS.out ?_; intro v' V' hown' hgrow _ hat; have HO' := Lib.hid hown'; have HGR := Lib.hid hgrow; clear hown' hgrow hat)
              obtain ⟨p', cap', rfl, -⟩ := own_form2 HO'.out
              have HVV : Hid (Below V.heap.size V V') := Lib.hid ((HVP.out.trans (HXA.out.mono HVP.out.size)).grown HGR.out HXS.out (fun q e => (HXo.out.lt q e).1))
              have hlen : (L ++ [((pt, ct), (T, ch))]).length = k + 1 := by rw [List.length_append, HLL.out]; rfl
              have HW9 : Hid (RwR V' V.heap.size (.slice p' (k + 1) cap') (L ++ [((pt, ct), (T, ch))])) := Lib.hid (by
                have hX := HWP.out.below HXA.out
                refine hX.more (m := ((pt, ct), (T, ch))) ?_ ?_ HGR.out
                · show World.ownsRow _ _ _ _ (.slice pt T.length ct) T.length _
                  rw [HNT.out]
                  exact own_mono (own_below HOj.out HXA.out) (by have := HXB.out; have := HU.out.size; omega)
                · rw [HLL.out]
                  have := HO'.out
                  show World.ownsRow _ _ _ _ _ _ (_ ++ [.slice pt T.length ct, .bool ch])
                  rw [HNT.out]
                  exact this)
              have HC9 : Hid (cl (L ++ [((pt, ct), (T, ch))]) = (cl l).take (k + 1)) := Lib.hid (by rw [HCl.out, ← HLc.out]; simp [cl])
              go_roundw
              case rel => exact ⟨V', k + 1, p', cap', L ++ [((pt, ct), (T, ch))], rfl, by omega, rfl, by go_num, hlen, HW9, HC9, HVV⟩
              case measure => simp [intOf] <;> omega
        · obtain rfl : k = nl := by omega
          have HLf : Hid (cl L = cl l) := Lib.hid (by
            have := HLc.out
            rwa [List.take_of_length_le (l := cl l) (by simp [cl, HNL.out])] at this)
          have HSU := Lib.hid (HS.out.below HU.out)
          have HXA : Hid (Below U.heap.size U (U.alloc (.cells #[.slice p5 k c5] 46))) := Lib.hid ((Below.refl _ _).alloc (Nat.le_refl _) _)
          have HXo := Lib.hid (own_below HSU.out.row HXA.out)
          have HXC := Lib.hid (cells1 _ _ _ _ (heap_alloc_new U (.cells #[.slice p5 k c5] 46)))
          have HVP := Lib.hid (HB.out.trans (HU.out.mono HB.out.size))
          have HXS := Lib.hid (Nat.le_trans HVP.out.size HXA.out.size)
          have HLL := Lib.hid hLl
          have HYL := Lib.hid hYl
          rw [hYl] at HXo
          go_wp2_with (at_builtin; refine wpList_append_own_at _ rfl _ _ 31 rfl w.heap.size 46 i2 (.slice none 0 0) 1 24 Try.underlying31 HK.out.1 HK.out.2.1 HK.out.2.2.1 HK.out.2.2.2 rfl (by decide) _ _ _ rfl HXo.out ⟨U.heap.size, 0, none⟩ 1 1 [.slice p5 k c5] rfl rfl HXC.out (by intro u hu; simp only [List.mem_cons, List.not_mem_nil, or_false] at hu; subst hu; rfl) (by unfold maxLen; omega) (by omega) HXS.out ?_; intro v' V' hown' hgrow _ hat; have HO' := Lib.hid hown'; have HGR := Lib.hid hgrow; clear hown' hgrow hat)
          obtain ⟨p', cap', rfl, -⟩ := own_form2 HO'.out
          have HVV : Hid (Below w.heap.size w V') := Lib.hid ((HVP.out.trans (HXA.out.mono HVP.out.size)).grown HGR.out HXS.out (fun q e => (HXo.out.lt q e).1))
          have hlen : (Y ++ [((p5, c5), L)]).length = i + 1 := by rw [List.length_append, HYL.out]; rfl
          have HS9 : Hid (SrR V' w.heap.size (.slice p' (i + 1) cap') (Y ++ [((p5, c5), L)])) := Lib.hid (by
            have hX := HSU.out.below HXA.out
            refine hX.more (m := ((p5, c5), L)) ?_ ?_ HGR.out
            · show RwR _ _ (.slice p5 L.length c5) L
              rw [HLL.out]
              exact (HW.out.below HXA.out).mono HB.out.size
            · rw [HYL.out]
              have := HO'.out
              show World.ownsRow _ _ _ _ _ _ (_ ++ [.slice p5 L.length c5])
              rw [HLL.out]
              exact this)
          have HC9 : Hid (cx (Y ++ [((p5, c5), L)]) = (cx x).take (i + 1)) := Lib.hid (by rw [HCx.out, ← HY.out, ← HLf.out]; simp [cx])
          go_roundw
          case rel => exact ⟨V', i + 1, p', cap', Y ++ [((p5, c5), L)], rfl, by omega, rfl, by go_num, hlen, HS9, HC9, HVV⟩
          case measure => simp [intOf] <;> omega
    · obtain rfl : i = n := by omega
      have HYf : Hid (cx Y = cx x) := Lib.hid (by
        have := HY.out
        rwa [List.take_of_length_le (l := cx x) (by simp [cx, HN.out])] at this)
      go_wp2
      go_ret
      exact ⟨Y, _, rfl, HS.out, HYf.out, HB.out⟩
end Go.Proofs.Ytcfkcifbojckcaa
