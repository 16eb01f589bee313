/-
  The rows of a list: handles.
-/
import Derived.Test.YtbldjlkofaiikaaVecH
import Derived.Test.YtbldjlkofaiikaaVecG
namespace Go.Proofs.Ytbldjlkofaiikaa
open Go.ChangeShapes Go.WideShapes Go.ChangeAt Go.RowKit
set_option linter.unusedVariables false
set_option linter.unusedSimpArgs false

/-- A pool of n slots as the calls of vec make them. -/
structure PK (n : Nat) (G : Int) (p : Pl) : Prop where
  ok : Ok n G p.st
  len : p.ch.length = n
  four : ∀ c ∈ p.ch, c.length ≤ 4
  u64 : ∀ c ∈ p.ch, U64 c
theorem PK.at {n : Nat} {G : Int} {p : Pl} (h : PK n G p) (x : Int) : (p.at x).length ≤ 4 ∧ U64 (p.at x) := by
  unfold Pl.at
  rw [List.getD]
  rcases Nat.lt_or_ge (ix x) p.ch.length with hl | hl
  · rw [List.getElem?_eq_getElem hl]
    exact ⟨h.four _ (List.getElem_mem _), h.u64 _ (List.getElem_mem _)⟩
  · rw [List.getElem?_eq_none hl]
    exact ⟨by simp, fun y hy => by simp at hy⟩
theorem PK.fit {n : Nat} {G : Int} {p : Pl} (h : PK n G p) {row : List Int} (hU : U64 row) (hl : row.all p.st.lv = true) : Fit p row := by
  intro x hx
  obtain ⟨i, hi, hin, -⟩ := h.ok.live (List.all_eq_true.1 hl x hx)
  refine ⟨(hU x hx).1, (hU x hx).2, ?_, (h.at x).1⟩
  unfold ix
  rw [h.len]
  omega
theorem PK.parts {n : Nat} {G : Int} {p : Pl} (h : PK n G p) (row : List Int) : U64 (p.parts row) := by
  intro x hx
  obtain ⟨y, _, hy⟩ := List.mem_flatMap.1 hx
  exact (h.at y).2 x hy
theorem PK.plen {n : Nat} {G : Int} {p : Pl} (h : PK n G p) : ∀ row, (p.parts row).length ≤ 4 * row.length
  | [] => by simp [Pl.parts]
  | x :: t => by
    have h1 := (h.at x).1
    have h2 := h.plen t
    simp only [Pl.parts, List.flatMap_cons, List.length_append, List.length_cons] at h2 ⊢
    omega
/-- Rows from r on are laid. -/
def RP (w : World) (b g L r : Nat) (done : List (List Int)) : Prop :=
  ∃ vs : List Value, w.ownsRow b 24 1 (.slice (some ⟨g, 0, none⟩) L L) L vs ∧ ∀ j, j < done.length → ∃ x, vs[r + j]? = some x ∧ w.ownsRow b 41 1 x (done.getD j []).length (gvs (done.getD j []))
theorem RP.below {w w' : World} {b g L r : Nat} {done : List (List Int)} (h : RP w b g L r done) (hb : Below w.heap.size w w') : RP w' b g L r done := by
  obtain ⟨vs, h1, h2⟩ := h
  exact ⟨vs, own_below h1 hb, fun i hi => by obtain ⟨x, e, o⟩ := h2 i hi; exact ⟨x, e, own_below o hb⟩⟩
/-- A row more is laid. -/
theorem RP.set {w : World} {b g L r : Nat} {done : List (List Int)} (h : RP w b g L (r + 1) done) (hr : r < L) {v : Value} {l : List Int} (hv : w.ownsRow b 41 1 v l.length (gvs l)) : RP (w.setCell ⟨g, r, none⟩ v) b g L r (l :: done) := by
  obtain ⟨vs, h1, h2⟩ := h
  obtain ⟨cur, hg, -⟩ := own_blk h1
  have hk : ∀ (x : Value) (n : Nat) (xs : List Value), w.ownsRow b 41 1 x n xs → (w.setCell ⟨g, r, none⟩ v).ownsRow b 41 1 x n xs := fun x n xs ho => ownsRow_setCell_other ho (own_apart5 ho hg (by decide)) _
  have hl : vs.length = L := by have := h1.1; omega
  refine ⟨vs.set r v, (h1.stored r v).1, fun j hj => ?_⟩
  cases j with
  | zero => exact ⟨v, by rw [Nat.add_zero, List.getElem?_set_self (by omega)], hk _ _ _ hv⟩
  | succ j =>
    obtain ⟨x, e, o⟩ := h2 j (by simpa using hj)
    refine ⟨x, ?_, hk _ _ _ o⟩
    rw [List.getElem?_set_ne (by omega), ← e]
    congr 1
    omega
theorem RP.end {w : World} {b g L : Nat} {done : List (List Int)} (h : RP w b g L 0 done) (hd : done.length = L) : RR w b (.slice (some ⟨g, 0, none⟩) L L) done := by
  obtain ⟨vs, h1, h2⟩ := h
  subst hd
  exact ⟨vs, h1, fun i hi => by obtain ⟨x, e, o⟩ := h2 i hi; exact ⟨x, by rw [← e, Nat.zero_add], o⟩⟩
theorem heap_new2 (w : World) (o o' o'' : Obj) : (((w.alloc o).alloc o').alloc o'').heap[w.heap.size + 1 + 1]? = some o'' := (show ((w.alloc o).alloc o').heap.size = w.heap.size + 1 + 1 by simp) ▸ heap_alloc_new _ _
theorem heap_new3 (w : World) (o o' o'' o3 : Obj) : ((((w.alloc o).alloc o').alloc o'').alloc o3).heap[w.heap.size + 1 + 1 + 1]? = some o3 := (show (((w.alloc o).alloc o').alloc o'').heap.size = w.heap.size + 1 + 1 + 1 by simp) ▸ heap_alloc_new _ _
theorem info_R : (Try.prog.info? 24).map (fun i => (i.zero, i.size, i.bytes)) = some (some (.slice none 0 0), 1, 24) := by kernel_rfl
/-- What handles tells. -/
def GivesH (o : Option (List (List Int))) (w : World) (en : Ending) (w' : World) : Prop :=
  ((o = none ∧ en = .returned (.tuple #[.slice none 0 0, .int .i64 30])) ∨ (∃ ls v, o = some ls ∧ en = .returned (.tuple #[v, .int .i64 0]) ∧ RR w' w.heap.size v ls)) ∧ Below w.heap.size w w'

set_option maxRecDepth 100000 in
set_option maxHeartbeats 4000000 in
theorem handles_pl (root : Int) (size : Nat) (vg vu vf vc : Value) (p : Pl) (b n : Nat) (G : Int) (w : World) (hA : PA w b vg vu vf vc p) (hP : PK n G p) (h0 : 0 ≤ root) (h1 : root ≤ 18446744073709551615) (hs : size ≤ 256) :
    Calls Try.prog 36 #[.agg #[vg, vu, vf, vc], .agg #[.int .u64 root, .int .i64 size]] w (GivesH (p.down (lvs size) [root]) w) := by
  have hsm := hP.ok.small
  have HA := Lib.hid hA
  have HP := Lib.hid hP
  clear hA hP
  have HL := Lib.hid (fun w => levels_any size w hs)
  have hL4 := lvs_le size
  generalize lvs size = L at *
  have mk := fun W : World => run_make_row' (P := Try.prog) 77 24 (.slice none 0 0) 24 Try.underlying77 info_R rfl .i64 .i64 L (by omega) (by omega) W
  go_enter Try.func36, Try.ntmps36
  go_wp2_with (go_at_call 57; refine (HL.out _).mono ?_; rintro e w' ⟨rfl, rfl⟩)
  clear mk
  obtain ⟨W, hW⟩ : ∃ W, W = (((w.alloc (.cells #[vg, vu, vf, vc] 31)).alloc (.cells #[.int .u64 root, .int .i64 size] 43)).alloc (.cells (madeCells #[.slice none 0 0] L) 24)).alloc (.cells #[.int .u64 root] 41) := ⟨_, rfl⟩
  rw [← hW]
  have HW : Hid (Below w.heap.size w W ∧ W.heap.size = w.heap.size + 4 ∧ W.heap[w.heap.size]? = some (.cells #[vg, vu, vf, vc] 31 (0, 0)) ∧ W.heap[w.heap.size + 1 + 1]? = some (.cells (madeCells #[.slice none 0 0] L) 24 (0, 0)) ∧ W.heap[w.heap.size + 1 + 1 + 1]? = some (.cells #[.int .u64 root] 41 (0, 0))) := Lib.hid (by
    subst hW
    refine ⟨(((Below.refl _ w).alloc (Nat.le_refl _) _).alloc (by simp) _ |>.alloc (by simp; omega) _).alloc (by simp; omega) _, by simp, ?_, ?_, ?_⟩
    · rw [heap_alloc_old _ _ (by simp; omega), heap_alloc_old _ _ (by simp; omega), heap_alloc_old _ _ (by simp)]; exact heap_alloc_new w _
    · rw [heap_alloc_old _ _ (by simp)]
      exact heap_new2 _ _ _ _
    · exact heap_new3 _ _ _ _ _)
  clear hW
  have HS := Lib.hid HW.out.2.1
  have HK := Lib.hid HW.out.2.2.1
  have HAW := Lib.hid (HA.out.below HW.out.1)
  have HR0 : Hid (RP W w.heap.size (w.heap.size + 1 + 1) L L []) := Lib.hid ⟨_, own_block HW.out.2.2.2.1 (by omega) (by omega), fun j hj => by simp at hj⟩
  have HC0 : Hid (W.ownsRow w.heap.size 41 1 (.slice (some ⟨w.heap.size + 1 + 1 + 1, 0, none⟩) 1 1) 1 (gvs [root])) := Lib.hid ⟨by simp [gvs], .inr ⟨_, 1, #[.int .u64 root], rfl, by omega, HW.out.2.2.2.2, Nat.le_refl _, by simp [maxLen], by simp, by simp [gvs]⟩⟩
  go_loopw [7, 8] (fun v i wr => ∃ (r : Nat) (cur : List Int) (done : List (List Int)) (q : Option Addr) (cap : Nat), i = .int .i64 ((r : Int) - 1) ∧ v = .slice q cur.length cap ∧ r + done.length = L ∧ cur.length * 4 ^ r ≤ 256 ∧
      Hid (wr.ownsRow w.heap.size 41 1 (.slice q cur.length cap) cur.length (gvs cur)) ∧ Hid (RP wr w.heap.size (w.heap.size + 1 + 1) L r done) ∧ Hid (p.down L [root] = (p.down r cur).map (· ++ done)) ∧ Hid (U64 cur) ∧ Hid (Below (w.heap.size + 2) W wr)) (fun _ i _ => (intOf i + 1).toNat)
  case atStart =>
    refine ⟨L, [root], [], _, _, rfl, rfl, by simp, ?_, HC0, HR0, Lib.hid (by simp), Lib.hid (fun x hx => by simp at hx; subst hx; exact ⟨h0, h1⟩), Lib.hid (Below.refl _ _)⟩
    have : 4 ^ L ≤ 4 ^ 4 := Nat.pow_le_pow_right (by decide) hL4
    simp
    omega
  case round =>
    obtain ⟨r, cur, done, q, cap, rfl, rfl, hrL, hcl, HC, HR, HD, HU, HB⟩ := hrel
    have HKr : Hid (wr.heap[w.heap.size]? = some (.cells #[vg, vu, vf, vc] 31 (0, 0))) := Lib.hid ((HB.out.block _ (by omega)).trans HK.out)
    have HBw : Hid (Below w.heap.size w wr) := Lib.hid (HW.out.1.trans (HB.out.mono (by omega)))
    have HAr := Lib.hid (HA.out.below HBw.out)
    have hsz : w.heap.size + 4 ≤ wr.heap.size := by have := HB.out.size; have := HS.out; omega
    obtain ⟨x0, x1, x2, x3, -⟩ := block4 HKr.out
    cases r with
    | zero =>
      go_wp2
      go_ret2
      refine ⟨.inr ⟨done, _, ?_, rfl, HR.out.end (by omega)⟩, HBw.out⟩
      rw [HD.out]
      simp [Pl.down]
    | succ r =>
      have hr0 : (0 : Int) ≤ ((r + 1 : Nat) : Int) - 1 := by omega
      have hr1 : ((r + 1 : Nat) : Int) - 1 = (r : Int) := by omega
      rw [hr1] at hr0 ⊢
      have hcl' : cur.length ≤ 256 := by
        have : 1 ≤ 4 ^ (r + 1) := Nat.pow_pos (by decide)
        have := Nat.mul_le_mul_left cur.length this
        omega
      have hrl : (r : Int) < (L : Int) := by omega
      go_wp2_with fail
      refine (contains_dead w.heap.size cur _ w.heap.size vg vu vf vc p b n G wr HKr.out HAr.out HP.out.ok HC.out HU.out (by omega)).mono ?_
      rintro e w1 ⟨rfl, hb1⟩
      have HB1 : Hid (Below (w.heap.size + 2) W w1) := Lib.hid (HB.out.trans (hb1.mono (by omega)))
      have HC1 := Lib.hid (own_below HC.out hb1)
      have HR1 := Lib.hid (HR.out.below hb1)
      have hs1 := hb1.size
      clear hb1
      rcases Bool.eq_false_or_eq_true (cur.all p.st.lv) with hv | hv
      · rw [hv]
        have HV := Lib.hid hv
        clear hv
        have HKs : Hid (w1.heap[w.heap.size]? = some (.cells #[vg, vu, vf, vc] 31 (0, 0))) := Lib.hid ((HB1.out.block _ (by omega)).trans HK.out)
        have HRs : Hid (RP (w1.setCell ⟨w.heap.size + 1 + 1, r, none⟩ (.slice q cur.length cap)) w.heap.size (w.heap.size + 1 + 1) L r (cur :: done)) := Lib.hid (HR1.out.set (by omega) HC1.out)
        obtain ⟨vs, hvs, -⟩ := HR1.out
        obtain ⟨curb, hgb, -⟩ := own_blk hvs
        have cR : ∃ u, w1.cell? ⟨w.heap.size + 1 + 1, r, none⟩ = some u := by
          have hl : vs.length = L := by have := hvs.1; omega
          exact ⟨vs[r]'(by omega), by rw [hvs.cellAt r (by omega), List.getElem?_eq_getElem (by omega)]⟩
        obtain ⟨u, hu⟩ := cR
        have zR : w1.frozen? ⟨w.heap.size + 1 + 1, r, none⟩ = false := hvs.frozenAt r
        have HCs : Hid ((w1.setCell ⟨w.heap.size + 1 + 1, r, none⟩ (.slice q cur.length cap)).ownsRow w.heap.size 41 1 (.slice q cur.length cap) cur.length (gvs cur)) := Lib.hid (ownsRow_setCell_other HC1.out (own_apart5 HC1.out hgb (by decide)) _)
        clear hvs hgb
        obtain ⟨V, hV⟩ : ∃ V, V = w1.setCell ⟨w.heap.size + 1 + 1, r, none⟩ (.slice q cur.length cap) := ⟨_, rfl⟩
        have HBV : Hid (Below (w.heap.size + 2) W V) := Lib.hid (by rw [hV]; exact HB1.out.setCell (by simp) _)
        rw [← hV] at HRs HCs
        have HKV : Hid (V.heap[w.heap.size]? = some (.cells #[vg, vu, vf, vc] 31 (0, 0))) := Lib.hid ((HBV.out.block _ (by omega)).trans HK.out)
        have HAV := Lib.hid (HA.out.below (HW.out.1.trans (HBV.out.mono (by omega))))
        go_upto_region 9 with fail
        rw [← hV]
        have hVs : w1.heap.size = V.heap.size := by rw [hV]; simp
        clear hV x0 x1 x2 x3 hu zR
        obtain ⟨x0, x1, x2, x3, -⟩ := block4 HKV.out
        go_wp2_with fail
        refine (parts_any cur _ w.heap.size vg vu vf vc p b V HAV.out HCs.out (HP.out.fit HU.out HV.out) (by rw [HP.out.len]; omega) (by omega)).mono ?_
        rintro e w2 ⟨v2, rfl, ho2, hb2⟩
        rw [gvs_length] at ho2
        obtain ⟨q2, c2, rfl, -, -, -⟩ := own_form ho2
        have HC2 := Lib.hid (own_drop ho2 (show w.heap.size ≤ V.heap.size by omega))
        have HR2 := Lib.hid (HRs.out.below hb2)
        have HB2 : Hid (Below (w.heap.size + 2) W w2) := Lib.hid (HBV.out.trans (hb2.mono (by omega)))
        clear ho2 hb2
        go_wp2
        go_roundw
        case rel =>
          refine ⟨r, p.parts cur, cur :: done, q2, c2, rfl, rfl, by simp; omega, ?_, HC2, HR2, Lib.hid ?_, Lib.hid (HP.out.parts cur), HB2⟩
          · have h2 := HP.out.plen cur
            have h3 := Nat.mul_le_mul_right (4 ^ r) h2
            rw [Nat.pow_succ] at hcl
            rw [Nat.mul_comm 4, Nat.mul_assoc, Nat.mul_comm 4] at h3
            omega
          · rw [HD.out, Pl.down, if_pos HV.out, Option.map_map]
            congr 1
            funext x
            simp
        case measure => simp [intOf] <;> omega
      · rw [hv]
        have HV := Lib.hid hv
        clear hv
        go_wp2
        go_ret2
        refine ⟨.inl ⟨?_, rfl⟩, HW.out.1.trans (HB1.out.mono (by omega))⟩
        rw [HD.out, Pl.down, if_neg (by rw [HV.out]; decide)]
        rfl
end Go.Proofs.Ytbldjlkofaiikaa
