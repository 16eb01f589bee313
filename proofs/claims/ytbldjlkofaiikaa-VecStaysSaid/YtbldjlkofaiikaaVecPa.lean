/-
  A pool, as the laws turn it to the document's.
-/
import Derived.Test.YtbldjlkofaiikaaVecZ
import Derived.Deep.RegionLaw
import Derived.Shelf.RegionOpenPlain
namespace Go.Proofs.Ytbldjlkofaiikaa
open Go.ChangeShapes Go.WideShapes Go.ChangeAt Go.RowKit
set_option linter.unusedVariables false
set_option linter.unusedSimpArgs false

/-- append onto a row of the call's own, as one step of a region that draws its order. -/
theorem step_own {P : Program} {ops : Array Oper} {o : Oper} {a : Act} {w : World} {K : Act → World → Prop} {Q : Exit → Act → World → Prop} {E : Prop}
    (hgd : o.guard = none) (s x : Operand) (t : TypeId) (ho : o.op = .call { callee := .builtin .append, args := #[s, x], argTypes := #[t, t] })
    (base : Nat) (e : TypeId) (i : TypeInfo) (z : Value) (size bytes : Nat) (ht : P.underlying t = some (.slice e)) (hi : P.info? e = some i) (hz : i.zero = some z)
    (hsize : i.size = size) (hby : i.bytes = bytes) (hzs : z.cells.size = size) (hsz : 0 < size)
    (v : Value) (n : Nat) (xs : List Value) (hs : a.eval s = v) (hown : w.ownsRow base e size v n xs)
    (ad : Addr) (m c : Nat) (news : List Value) (hx : a.eval x = .slice (some ad) m c) (hl : news.length = m * size) (hnews : ∀ j u, news[j]? = some u → w.cell? (ad.add j) = some u) (h1 : ∀ u ∈ news, u.oneCell' = true)
    (h63 : n + m ≤ maxLen) (hbytes : (n + m) * bytes ≤ 140737488355328) (hbase : base ≤ w.heap.size)
    (h : ∀ v' w', w'.ownsRow base e size v' (n + m) (xs ++ news) → w.grownBy w' v.ownBlock → (v'.ownBlock = v.ownBlock ∨ v'.ownBlock = some w.heap.size) → K (a.put o.dst v') w') :
    if Region.wanted o (yielded ops a.tmps) = true then Oper.wp P o a w K Q else E := by
  have hw : Region.wanted o (yielded ops a.tmps) = true := by simp [Region.wanted, hgd]
  rw [if_pos hw]
  obtain ⟨v', w', hr, h2, h3, _, h5⟩ := run_append_own_at (P := P) w base t o.type e i z size bytes ht hi hz hsize hby hzs hsz v n xs hown ad m c news hl hnews h1 h63 hbytes hbase
  unfold Oper.wp execOp
  simp only [ho, resolve, invoke, builtin, Sem.run_bind, Sem.run_pure, Result.andThen_ok, List.map_toArray, List.map_cons, List.map_nil, hs, hx, hr]
  exact h v' w' h2 h3 h5

theorem info_D : (Try.prog.info? 95).map (fun i => (i.zero, i.size, i.bytes)) = some (some (.agg #[.int .i64 0, .int .u64 0, .int .u64 0, .int .u64 0, .int .u64 0]), 5, 40) := by kernel_rfl
/-- The document's pool of the same lists, with chunks of its own. -/
def GivesQ (vg vu vf : Value) (p : Pl) (w : World) (en : Ending) (w' : World) : Prop :=
  ∃ vc, en = .returned (.agg #[vg, vu, vf, vc]) ∧ w'.ownsRow w.heap.size 95 5 vc p.ch.length (cvs p.ch) ∧ Below w.heap.size w w'
theorem cvs_append (a b : List (List Int)) : cvs (a ++ b) = cvs a ++ cvs b := by simp [cvs]
set_option maxRecDepth 100000 in
set_option maxHeartbeats 4000000 in
theorem pool_pl (vg vu vf vc : Value) (p : Pl) (b n : Nat) (G : Int) (w : World) (hA : PA w b vg vu vf vc p) (hP : PK n G p) :
    Calls Try.prog 19 #[.agg #[vg, vu, vf, vc]] w (GivesQ vg vu vf p w) := by
  have hsm := hP.ok.small
  have hln := hP.len
  obtain ⟨pg, cg, pu, cu, pf, cf, pc, cc, rfl, rfl, rfl, rfl⟩ := hA.form
  have HA := Lib.hid hA
  clear hA hP
  obtain ⟨N, hN⟩ : ∃ N, p.ch.length = N := ⟨_, rfl⟩
  have HN := Lib.hid hN
  generalize p.st.gens.length = n1 at *
  generalize p.st.used.length = n2 at *
  generalize p.st.free.length = n3 at *
  have hN5 : N ≤ 500 := by omega
  rw [hN] at HA ⊢
  clear hN hln
  obtain ⟨i0', hi0, hz0, hz1, hz2⟩ := info_parts info_D
  have hI := Lib.hid hi0
  have hZ0 := Lib.hid hz0
  have hZ1 := Lib.hid hz1
  have hZ2 := Lib.hid hz2
  clear hi0 hz0 hz1 hz2
  go_enter Try.func19, Try.ntmps19
  go_wp2_with fail
  obtain ⟨W, hW⟩ : ∃ W, W = ((w.alloc (.cells #[.slice pg n1 cg, .slice pu n2 cu, .slice pf n3 cf, .slice pc N cc] 31)).alloc (.cells #[.slice none 0 0, .slice none 0 0, .slice none 0 0, .slice none 0 0] 38)).alloc (.cells #[.slice pg n1 cg, .slice pu n2 cu, .slice pf n3 cf, .slice none 0 0] 38) := ⟨_, rfl⟩
  rw [← hW]
  have HW : Hid (Below w.heap.size w W ∧ W.heap.size = w.heap.size + 3 ∧ W.heap[w.heap.size]? = some (.cells #[.slice pg n1 cg, .slice pu n2 cu, .slice pf n3 cf, .slice pc N cc] 31 (0, 0)) ∧ W.heap[w.heap.size + 1]? = some (.cells #[.slice none 0 0, .slice none 0 0, .slice none 0 0, .slice none 0 0] 38 (0, 0)) ∧ W.heap[w.heap.size + 1 + 1]? = some (.cells #[.slice pg n1 cg, .slice pu n2 cu, .slice pf n3 cf, .slice none 0 0] 38 (0, 0))) := Lib.hid (by
    subst hW
    refine ⟨((Below.refl _ w).alloc (Nat.le_refl _) _).alloc (by simp) _ |>.alloc (by simp; omega) _, by simp, ?_, ?_, ?_⟩
    all_goals repeat (first | exact alloc_here _ _ _ (by simp) | rw [heap_alloc_old _ _ (by first | (simp; done) | (simp; omega))]))
  clear hW
  have HCH : Hid (w.ownsRow b 83 5 (.slice pc N cc) N (cvs p.ch)) := Lib.hid (by have := HA.out.cs; rw [HN.out] at this; exact this)
  go_loopw [4] (fun i wr => ∃ (k : Nat) (q : Option Addr) (cap : Nat), k ≤ N ∧ i = .int .i64 k ∧ Hid (wr.heap[w.heap.size + 1 + 1]? = some (.cells #[.slice pg n1 cg, .slice pu n2 cu, .slice pf n3 cf, .slice q k cap] 38 (0, 0))) ∧
      Hid (wr.ownsRow (w.heap.size + 3) 95 5 (.slice q k cap) k (cvs (p.ch.take k))) ∧ Hid (Below (w.heap.size + 2) W wr)) (fun i _ => N - (intOf i).toNat)
  case atStart => exact ⟨0, none, 0, Nat.zero_le _, rfl, Lib.hid HW.out.2.2.2.2, Lib.hid (by simpa [cvs] using World.ownsRow_nil _ _ _ _), Lib.hid (Below.refl _ _)⟩
  case round =>
    obtain ⟨k, q, cap, hk, rfl, HK, HO, HB⟩ := hrel
    have HE0 : Hid (wr.heap[w.heap.size]? = some (.cells #[.slice pg n1 cg, .slice pu n2 cu, .slice pf n3 cf, .slice pc N cc] 31 (0, 0))) := Lib.hid ((HB.out.block _ (by omega)).trans HW.out.2.2.1)
    have HBw : Hid (Below w.heap.size w wr) := Lib.hid (HW.out.1.trans (HB.out.mono (by omega)))
    have hsz : w.heap.size + 3 ≤ wr.heap.size := by have := HB.out.size; have := HW.out.2.1; omega
    obtain ⟨x0, x1, x2, x3, -⟩ := block4 HE0.out
    by_cases hlt : k < N
    · have k0 : (0 : Int) ≤ (k : Int) := by omega
      have k1 : (k : Int) < (N : Int) := by omega
      obtain ⟨gc, rfl, -, hgc⟩ := own_some5 HCH.out (by omega)
      have hkl : k < p.ch.length := by rw [HN.out]; exact hlt
      have HTK : Hid (p.ch.take (k + 1) = p.ch.take k ++ [p.ch.getD k []]) := Lib.hid (by rw [take_more hkl, getD_at [] hkl])
      obtain ⟨m0, m1, m2, m3, m4⟩ := own_chunk (own_below HCH.out HBw.out) hkl
      generalize p.ch.getD k [] = c at *
      obtain ⟨z0, z1, z2, z3, f0, f1, f2, f3⟩ := block4 HK.out
      have hne : wr.heap.size ≠ w.heap.size := by omega
      have hne2 : gc ≠ wr.heap.size := by have := HBw.out.size; omega
      have hne3 : w.heap.size + 1 + 1 ≠ wr.heap.size := by omega
      have hne4 : wr.heap.size ≠ w.heap.size + 1 + 1 := by omega
      have hlt0 : w.heap.size < wr.heap.size := by omega
      have hlt3 : w.heap.size + 1 + 1 < wr.heap.size := by omega
      have hltc : gc < wr.heap.size := by have := HBw.out.size; omega
      have hne6 : w.heap.size ≠ wr.heap.size := by omega
      have hne7 : wr.heap.size ≠ gc := by omega
      have HBX : Hid (∀ W' : World, W'.heap[wr.heap.size]? = some (.cells #[.int .i64 c.length, .int .u64 (it c 0), .int .u64 (it c 1), .int .u64 (it c 2), .int .u64 (it c 3)] 95 (0, 0)) → ∀ j u, (ccs c)[j]? = some u → W'.cell? ((⟨wr.heap.size, 0, none⟩ : Addr).add j) = some u) := Lib.hid (fun W' hW' j u hu => by
        obtain ⟨⟨a0, a1, a2, a3, a4⟩, -⟩ := block5 hW'
        rw [add_plain, Nat.zero_add]
        match j, hu with
        | 0, hu => cases hu; exact a0
        | 1, hu => cases hu; exact a1
        | 2, hu => cases hu; exact a2
        | 3, hu => cases hu; exact a3
        | 4, hu => cases hu; exact a4
        | j + 5, hu => simp [ccs] at hu)
      have hrow : (Value.slice q k cap).ownBlock ≠ some (w.heap.size + 1 + 1) := own_apart5 HO.out HK.out (by decide)
      have mixed : Try.prog.follows Departure.mixedOrders = true := by kernel_rfl
      have HC1 : Hid (∀ u ∈ ccs c, u.oneCell' = true) := Lib.hid (fun u hu => cvs_one [c] u (by simpa [cvs] using hu))
      go_wp2_with fail
      go_region_law_o (refine step_own rfl (.tmp 24) (.tmp 38) 36 rfl (w.heap.size + 3) 95 i0' (.agg #[.int .i64 0, .int .u64 0, .int .u64 0, .int .u64 0, .int .u64 0]) 5 40 Try.underlying36 hI.out hZ0.out hZ1.out hZ2.out rfl (by decide) (.slice q k cap) k (cvs (p.ch.take k)) (by simp [Act.eval, Act.put]) (HO.out.alloc _) ⟨wr.heap.size, 0, none⟩ 1 1 (ccs c) (by simp [Act.eval, Act.put]) rfl (HBX.out _ (heap_alloc_new _ _)) HC1.out (by unfold maxLen; omega) (by omega) (by simp; omega) ?_; intro v' w5 hown' hgrow hat; obtain ⟨q', cap', rfl, -, -⟩ := own_form5 hown'; have HO' := Lib.hid hown'; have HGR := Lib.hid hgrow; have HK5 : Hid (w5.heap[w.heap.size + 1 + 1]? = some (.cells #[.slice pg n1 cg, .slice pu n2 cu, .slice pf n3 cf, .slice q k cap] 38 (0, 0))) := Lib.hid (by rw [hgrow.block _ (by simp; omega) (Ne.symm hrow)]; exact (heap_alloc_old wr _ (by omega)).trans HK.out); obtain ⟨e0, e1, e2, e3, g0, g1, g2, g3⟩ := block4 HK5.out; clear hown' hgrow hat)
      all_goals
        go_wp2
        have hne5 : (Value.slice q' (k + 1) cap').ownBlock ≠ some (w.heap.size + 1 + 1) := own_apart5 HO'.out HK5.out (by decide)
        go_roundw
        case rel =>
          refine ⟨k + 1, q', cap', by omega, by go_num, Lib.hid ?_, Lib.hid ?_, Lib.hid ?_⟩
          · have := HK5.out
            simp [World.setCell, Array.getElem?_modify, this]
          · rw [HTK.out, cvs_append]
            have := ownsRow_setCell_other HO'.out (a := ⟨w.heap.size + 1 + 1, 3, none⟩) hne5 (.slice q' (k + 1) cap')
            simpa [cvs] using this
          · exact ((HB.out.drew.alloc (show w.heap.size + 2 ≤ wr.heap.size by omega) _).grown HGR.out (by simp; omega) (fun r e => by have := (HO.out.lt r e).1; omega)).setCell (by simp) _
        case measure => simp [intOf] <;> omega
    · obtain rfl : k = N := by omega
      have HE1 : Hid (wr.heap[w.heap.size + 1]? = some (.cells #[.slice none 0 0, .slice none 0 0, .slice none 0 0, .slice none 0 0] 38 (0, 0))) := Lib.hid ((HB.out.block _ (by omega)).trans HW.out.2.2.2.1)
      obtain ⟨z0, z1, z2, z3, -⟩ := block4 HK.out
      obtain ⟨d0, d1, d2, d3, y0, y1, y2, y3⟩ := block4 HE1.out
      go_wp2
      have e : p.ch.take k = p.ch := List.take_of_length_le (by rw [HN.out]; exact Nat.le_refl _)
      have hO := HO.out
      rw [e] at hO
      refine bodyPost_ret (v := .agg #[.slice pg n1 cg, .slice pu n2 cu, .slice pf n3 cf, .slice q k cap]) (by simp [results, Try.results19, go_sem, d0, d1, d2, d3]) rfl ⟨_, rfl, ?_, ?_⟩
      · rw [HN.out]
        exact own_drop (own_set4 hO (by omega) _ _ _ _) (by omega)
      · exact below_set4 HBw.out (by omega) _ _ _ _
end Go.Proofs.Ytbldjlkofaiikaa
