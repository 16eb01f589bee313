/-
  Set.
-/
import Derived.Test.YtbldjlkofaiikaaVecT
namespace Go.Proofs.Ytbldjlkofaiikaa
open Go.ChangeShapes Go.WideShapes Go.ChangeAt Go.RowKit
set_option linter.unusedVariables false
set_option linter.unusedSimpArgs false

theorem alloc_here (w : World) (o : Obj) (k : Nat) (h : w.heap.size = k) : (w.alloc o).heap[k]? = some o := h ▸ heap_alloc_new w o

/-- Set, on plain pools. -/
def Pl.setV (p : Pl) (v : Vc) (i : Int) (x : Int) : Told :=
  if i < 0 ∨ (v.size : Int) - 1 < i then ⟨p, v, [], 73⟩ else match p.items v with
    | none => ⟨p, v, [], 30⟩
    | some l => p.change v (l.set i.toNat x)
set_option maxRecDepth 100000 in
set_option maxHeartbeats 4000000 in
theorem setV_pl (root : Int) (size : Nat) (i : Int) (x : Int) (vg vu vf vc : Value) (p : Pl) (b n : Nat) (G : Int) (w : World) (hA : PA w b vg vu vf vc p) (hP : PK n G p) (h0 : 0 ≤ root) (h1 : root ≤ 18446744073709551615) (hs : size ≤ 200) (hG : G ≤ 1099511627775) (hn0 : 0 < n) (hx0 : 0 ≤ x) (hx1 : x ≤ 18446744073709551615) (hi64 : -9223372036854775808 ≤ i) (hi65 : i ≤ 9223372036854775807)
    (hl : ∀ l, p.items ⟨root, size⟩ = some l → l.length = size ∧ U64 l) :
    Calls Try.prog 8 #[.agg #[vg, vu, vf, vc], .agg #[.int .u64 root, .int .i64 size], .int .i64 i, .int .u64 x] w (GivesC (p.setV ⟨root, size⟩ i x) w) := by
  have HA := Lib.hid hA
  have HP := Lib.hid hP
  have HLL := Lib.hid hl
  clear hA hP hl
  obtain ⟨T, hT⟩ : ∃ T, p.setV ⟨root, size⟩ i x = T := ⟨_, rfl⟩
  rw [hT]
  obtain ⟨W, hW⟩ : ∃ W, W = (((((w.alloc (.cells #[vg, vu, vf, vc] 31)).alloc (.cells #[.int .u64 root, .int .i64 size] 43)).alloc (.cells #[.int .i64 i] 3)).alloc (.cells #[.int .u64 x] 41)).alloc (.cells #[.slice none 0 0, .slice none 0 0, .slice none 0 0, .slice none 0 0] 31)).alloc (.cells #[.int .u64 0, .int .i64 0] 43) := ⟨_, rfl⟩
  have hWs : W.heap.size = w.heap.size + 6 := by rw [hW]; simp
  have HBW : Hid (Below w.heap.size w W) := Lib.hid (by
    rw [hW]
    exact (((((((Below.refl _ w).alloc (Nat.le_refl _) _).alloc (by simp <;> omega) _).alloc (by simp <;> omega) _).alloc (by simp <;> omega) _).alloc (by simp <;> omega) _).alloc (by simp <;> omega) _))
  have HF : Hid (W.heap[w.heap.size]? = some (.cells #[vg, vu, vf, vc] 31 (0, 0)) ∧ W.heap[w.heap.size + 1]? = some (.cells #[.int .u64 root, .int .i64 size] 43 (0, 0)) ∧ W.heap[w.heap.size + 1 + 1]? = some (.cells #[.int .i64 i] 3 (0, 0)) ∧ W.heap[w.heap.size + 1 + 1 + 1]? = some (.cells #[.int .u64 x] 41 (0, 0)) ∧ W.heap[w.heap.size + 1 + 1 + 1 + 1]? = some (.cells #[.slice none 0 0, .slice none 0 0, .slice none 0 0, .slice none 0 0] 31 (0, 0)) ∧ W.heap[w.heap.size + 1 + 1 + 1 + 1 + 1]? = some (.cells #[.int .u64 0, .int .i64 0] 43 (0, 0))) := Lib.hid (by
    subst hW
    refine ⟨?_, ?_, ?_, ?_, ?_, ?_⟩
    all_goals repeat (first | exact alloc_here _ _ _ (by simp) | rw [heap_alloc_old _ _ (by first | (simp; done) | (simp; omega))]))
  have HEd : Hid (Calls Try.prog 29 #[.agg #[vg, vu, vf, vc], .agg #[.int .u64 root, .int .i64 size], .int .i64 i, .int .i64 ((size : Int) - 1), .func (.func 30) #[] #[.pointer (some ⟨w.heap.size + 1 + 1 + 1, 0, none⟩), .pointer (some ⟨w.heap.size + 1 + 1, 0, none⟩)]] W (GivesC T W)) := Lib.hid (by
    rw [← hT, Pl.setV]
    split
    · rename_i hc
      exact editS_bad root size i _ (w.heap.size + 1 + 1 + 1) (w.heap.size + 1 + 1) x vg vu vf vc p b n G W (HA.out.below HBW.out) HP.out (by simp only [] at hc; omega)
    · rename_i hc
      simp only [] at hc
      exact editS_in root size i _ (w.heap.size + 1 + 1 + 1) (w.heap.size + 1 + 1) x vg vu vf vc p b n G W (HA.out.below HBW.out) HP.out h0 h1 (by omega) hG hn0 (by omega) (by omega) (by have := HF.out.2.2.2.1; simp [World.cell?, this]) (by have := HF.out.2.2.1; simp [World.cell?, this]) (fun l he => by obtain ⟨a, b⟩ := HLL.out l he; exact ⟨by omega, by omega, b, hx0, hx1⟩))
  have HWE := Lib.hid hW
  clear hT hW
  go_enter Try.func8, Try.ntmps8
  go_upto_region 1 with fail
  rw [← HWE.out]
  clear HWE
  obtain ⟨x0, x1, x2, x3, -⟩ := block4 HF.out.1
  obtain ⟨u0, u1⟩ := block2 HF.out.2.1
  have q0 : W.cell? ⟨w.heap.size + 1 + 1, 0, none⟩ = some (.int .i64 i) := by have := HF.out.2.2.1; simp [World.cell?, this]
  go_wp2_with fail
  refine HEd.out.mono ?_
  rintro e w3 ⟨v3, v4, v5, v6, v7, rfl, hpa3, hol3, hb3⟩
  obtain ⟨pg7, cg7, pu7, cu7, pf7, cf7, pc7, cc7, rfl, rfl, rfl, rfl⟩ := hpa3.form
  obtain ⟨p8, c8, rfl, -, -, -⟩ := own_form hol3
  have HPA7 := Lib.hid hpa3
  have HO8 := Lib.hid hol3
  have HB7 := Lib.hid hb3
  have HI2 := Lib.hid ((hb3.block (w.heap.size + 1 + 1 + 1 + 1) (by omega)).trans HF.out.2.2.2.2.1)
  have HI3 := Lib.hid ((hb3.block (w.heap.size + 1 + 1 + 1 + 1 + 1) (by omega)).trans HF.out.2.2.2.2.2)
  obtain ⟨d0, d1, d2, d3, y0, y1, y2, y3⟩ := block4 HI2.out
  obtain ⟨g0, g1, z0, z1⟩ := block2f HI3.out
  have hs3 := hb3.size
  clear hpa3 hol3 hb3 x0 x1 x2 x3 u0 u1 q0
  go_wp2
  refine bodyPost_ret (v := .tuple #[.agg #[.slice pg7 T.p.st.gens.length cg7, .slice pu7 T.p.st.used.length cu7, .slice pf7 T.p.st.free.length cf7, .slice pc7 T.p.ch.length cc7], .agg #[.int .u64 T.v.root, .int .i64 T.v.size], .slice p8 T.gone.length c8, .int .i64 T.e]) (by simp [results, Try.results8, go_sem, d0, d1, d2, d3, g0, g1]) rfl ⟨_, _, _, _, _, rfl, ?_, ?_, ?_⟩
  · exact PA.drop ((PA.set4 HPA7.out (by omega) _ _ _ _).set2 (by omega) _ _) (by omega)
  · exact own_drop (own_set2 (own_set4 HO8.out (by omega) _ _ _ _) (by omega) _ _) (by omega)
  · exact below_set2 (below_set4 (HBW.out.trans (HB7.out.mono (by omega))) (by omega) _ _ _ _) (by omega) _ _
end Go.Proofs.Ytbldjlkofaiikaa
