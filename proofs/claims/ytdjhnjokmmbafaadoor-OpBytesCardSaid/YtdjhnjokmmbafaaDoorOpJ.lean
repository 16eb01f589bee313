/-
  The first operation of bytes, as first tells it.
-/
import Derived.Test.YtdjhnjokmmbafaaDoorOpI
namespace Go.Proofs.YtdjhnjokmmbafaaDoor
open Go.ChangeShapes Go.WideShapes Go.ChangeAt Go.RowKit
set_option linter.unusedVariables false
set_option linter.unusedSimpArgs false

theorem four_any {w W : World} {a b c d : Array Value} {ta tb tc td : TypeId} (h : W = (((w.alloc (.cells a ta)).alloc (.cells b tb)).alloc (.cells c tc)).alloc (.cells d td)) :
    Below w.heap.size w W ∧ w.heap.size ≤ W.heap.size ∧ W.heap[w.heap.size]? = some (.cells a ta (0, 0)) ∧ W.heap[w.heap.size + 1]? = some (.cells b tb (0, 0)) ∧ W.heap[w.heap.size + 1 + 1]? = some (.cells c tc (0, 0)) ∧ W.heap[w.heap.size + 1 + 1 + 1]? = some (.cells d td (0, 0)) := by
  have key : ∀ (V : World) (o : Obj) (k : Nat), k < V.heap.size → (V.alloc o).heap[k]? = V.heap[k]? := fun V o k hk => heap_alloc_old _ _ hk
  have s1 : ∀ (V : World) (o : Obj), (V.alloc o).heap.size = V.heap.size + 1 := fun V o => by simp
  refine ⟨by rw [h]; exact ((((Below.refl _ _).alloc (Nat.le_refl _) _).alloc (by simp) _).alloc (by simp; omega) _).alloc (by simp; omega) _, by rw [h]; simp only [s1]; omega, ?_, ?_, ?_, ?_⟩
  · rw [h, key _ _ _ (by simp only [s1]; omega), key _ _ _ (by simp only [s1]; omega), key _ _ _ (by simp only [s1]; omega)]
    exact heap_alloc_new _ _
  · rw [h, key _ _ _ (by simp only [s1]; omega), key _ _ _ (by simp only [s1]; omega)]
    have := heap_alloc_new (w.alloc (.cells a ta)) (.cells b tb)
    simp only [s1] at this
    exact this
  · rw [h, key _ _ _ (by simp only [s1]; omega)]
    have := heap_alloc_new ((w.alloc (.cells a ta)).alloc (.cells b tb)) (.cells c tc)
    simp only [s1] at this
    exact this
  · rw [h]
    have := heap_alloc_new (((w.alloc (.cells a ta)).alloc (.cells b tb)).alloc (.cells c tc)) (.cells d td)
    simp only [s1] at this
    exact this
/-- What first's results hold. -/
structure SB (n0 : Nat) (w : World) (a kb ko : Nat) (m0 m1 m2 m3 : Int) (m4 m5 : ByteArray) (t : ByteArray) (ok : Bool) (U : World) : Prop where
  o : U.heap[a]? = some (.cells #[.int .i64 m0, .int .i64 m1, .int .i64 m2, .int .i64 m3, .string m4, .string m5] 23 (0, 0))
  b : U.heap[kb]? = some (.cells #[.string t] 9 (0, 0))
  k : U.heap[ko]? = some (.cells #[.bool ok] 4 (0, 0))
  bel : Below n0 w U
theorem set_self {U : World} {k j : Nat} {cs : Array Value} {ty : TypeId} {v : Value} (h : U.heap[k]? = some (.cells cs ty (0, 0))) (hj : cs[j]? = some v) : U.setCell ⟨k, j, none⟩ v = U := by
  obtain ⟨h1, h2⟩ := Array.getElem?_eq_some_iff.1 hj
  have hc : cs.setIfInBounds j v = cs := by
    apply Array.ext_getElem?
    intro q
    rw [Array.getElem?_setIfInBounds]
    split
    · rename_i e
      subst e
      simp [h1, h2]
    · rfl
  have hh : (U.setCell ⟨k, j, none⟩ v).heap = U.heap := by
    apply Array.ext_getElem?
    intro i
    by_cases e : i = k
    · subst e
      have : (U.setCell ⟨i, j, none⟩ v).heap[i]? = some (.cells (cs.setIfInBounds j v) ty (0, 0)) := by simp [World.setCell, Array.getElem?_modify, h]
      rw [this, hc, h]
    · simp [World.setCell, Array.getElem?_modify, Ne.symm e]
  unfold World.setCell at hh ⊢
  simp only [] at hh
  rw [hh]
section
variable {n0 : Nat} {w : World} {a kb ko : Nat} {m0 m1 m2 m3 : Int} {m4 m5 t : ByteArray} {ok : Bool} {U : World}
theorem SB.drew (h : SB n0 w a kb ko m0 m1 m2 m3 m4 m5 t ok U) : SB n0 w a kb ko m0 m1 m2 m3 m4 m5 t ok U.drew := ⟨h.o, h.b, h.k, h.bel.drew⟩
theorem SB.setb (h : SB n0 w a kb ko m0 m1 m2 m3 m4 m5 t ok U) : SB n0 w a kb ko m0 m1 m2 m3 m4 m5 t ok (U.setCell ⟨kb, 0, none⟩ (.string t)) := by rw [set_self h.b rfl]; exact h
theorem SB.setk (h : SB n0 w a kb ko m0 m1 m2 m3 m4 m5 t ok U) : SB n0 w a kb ko m0 m1 m2 m3 m4 m5 t ok (U.setCell ⟨ko, 0, none⟩ (.bool ok)) := by rw [set_self h.k rfl]; exact h
theorem SB.seta (h : SB n0 w a kb ko m0 m1 m2 m3 m4 m5 t ok U) : SB n0 w a kb ko m0 m1 m2 m3 m4 m5 t ok ((((((U.setCell ⟨a, 0, none⟩ (.int .i64 m0)).setCell ⟨a, 1, none⟩ (.int .i64 m1)).setCell ⟨a, 2, none⟩ (.int .i64 m2)).setCell ⟨a, 3, none⟩ (.int .i64 m3)).setCell ⟨a, 4, none⟩ (.string m4)).setCell ⟨a, 5, none⟩ (.string m5)) := by
  rw [set_self h.o rfl, set_self h.o rfl, set_self h.o rfl, set_self h.o rfl, set_self h.o rfl, set_self h.o rfl]; exact h
theorem SB.cells (h : SB n0 w a kb ko m0 m1 m2 m3 m4 m5 t ok U) : (U.cell? ⟨a, 0, none⟩ = some (.int .i64 m0) ∧ U.cell? ⟨a, 1, none⟩ = some (.int .i64 m1) ∧ U.cell? ⟨a, 2, none⟩ = some (.int .i64 m2) ∧ U.cell? ⟨a, 3, none⟩ = some (.int .i64 m3) ∧ U.cell? ⟨a, 4, none⟩ = some (.string m4) ∧ U.cell? ⟨a, 5, none⟩ = some (.string m5)) ∧ (U.cell? ⟨kb, 0, none⟩ = some (.string t) ∧ U.cell? ⟨ko, 0, none⟩ = some (.bool ok)) ∧ (U.frozen? ⟨a, 0, none⟩ = false ∧ U.frozen? ⟨a, 1, none⟩ = false ∧ U.frozen? ⟨a, 2, none⟩ = false ∧ U.frozen? ⟨a, 3, none⟩ = false ∧ U.frozen? ⟨a, 4, none⟩ = false ∧ U.frozen? ⟨a, 5, none⟩ = false) ∧ U.frozen? ⟨kb, 0, none⟩ = false ∧ U.frozen? ⟨ko, 0, none⟩ = false :=
  ⟨block6 h.o, ⟨(box1 h.b).1, (box1 h.k).1⟩, ⟨froz h.o 0, froz h.o 1, froz h.o 2, froz h.o 3, froz h.o 4, froz h.o 5⟩, (box1 h.b).2, (box1 h.k).2⟩
end
/-- What first tells of bytes. -/
def Tells (s : List UInt8) (w : World) (e : Ending) (w' : World) : Prop :=
  ∃ o t ok, e = .returned (.tuple #[opv o, .string t, .bool ok]) ∧ (match dec1 s with | some (o', r) => o = o' ∧ t = ba r ∧ ok = true | none => ok = false) ∧ Below w.heap.size w w'
set_option maxRecDepth 100000 in
set_option maxHeartbeats 4000000 in
theorem first_any (c : UInt8) (r : List UInt8) (w : World) (hK : KT w) (hl : r.length ≤ 100000) :
    Calls Tryd.prog 39 #[.string (ba (c :: r))] w (Tells (c :: r) w) := by
  have HI := Lib.hid (fun V => isKind_any (c.toNat : Int) V)
  have HK := Lib.hid hK
  have hcb := c.toNat_lt
  have hcb0 : (0 : Int) ≤ (c.toNat : Int) := by omega
  have hcb1 : (c.toNat : Int) ≤ 255 := by omega
  obtain ⟨S, hS⟩ : ∃ S, S = ba (c :: r) := ⟨_, rfl⟩
  have hbt : PlainAid.bt S 0 = (c.toNat : Int) := by rw [hS]; exact bt_head c r
  have hp : 0 < S.size := by rw [hS, ba_size, List.length_cons]; omega
  have hp' : (1 : Int) ≤ (S.size : Int) := by omega
  have hg := PlainAid.get_bt S
  have hs2 : ∀ W, Sem.run Tryd.prog (Instr.slice 9 (.string S) (some (.int .i64 1)) none none) W = .ok (.string (ba r)) W := fun W => by
    have := run_slice_string_l (P := Tryd.prog) (w := W) (t := 9) (s := S) Tryd.underlying9 .i64 1 (by omega) hp'
    rw [show (1 : Int).toNat = 1 from rfl, hS, ba_drop] at this
    rw [hS]
    exact this
  rw [← hS]
  clear hK hS
  cases hk : isK (c.toNat : Int) with
  | false =>
    have HD : Hid (dec1 (c :: r) = none) := Lib.hid (by rw [dec1, if_neg (by rw [hk]; simp)])
    rw [hk] at HI
    clear hk
    go_enter Tryd.func39, Tryd.ntmps39
    go_wp2_with (go_at_call 21; refine (HI.out _).mono ?_; rintro e w' ⟨rfl, hw⟩; obtain rfl := hw.symm)
    refine bodyPost_ret (v := .tuple #[opv ⟨0, 0, 0, 0, ⟨#[]⟩, ⟨#[]⟩⟩, .string ⟨#[]⟩, .bool false]) (by simp [results, Tryd.results39, go_sem, opv]) rfl ⟨_, _, _, rfl, by rw [HD.out], (((Below.refl _ _).alloc (Nat.le_refl _) _).alloc (by simp) _).alloc (by simp; omega) _⟩
  | true =>
    have HD := Lib.hid (fiM_dec c r hk)
    rw [hk] at HI
    have hkk := hk
    clear hk
    have HKK := Lib.hid hkk
    clear hkk
    go_enter Tryd.func39, Tryd.ntmps39
    go_wp2_with (go_at_call 21; refine (HI.out _).mono ?_; rintro e w' ⟨rfl, hw⟩; obtain rfl := hw.symm)
    obtain ⟨W, hW⟩ : ∃ W, W = (((w.alloc (.cells #[.int .i64 0, .int .i64 0, .int .i64 0, .int .i64 0, .string ⟨#[]⟩, .string ⟨#[]⟩] 23)).alloc (.cells #[.string (ba r)] 9)).alloc (.cells #[.bool true] 4)).alloc (.cells #[.func (.func 49) #[] #[.pointer (some ⟨w.heap.size + 1, 0, none⟩), .pointer (some ⟨w.heap.size + 1 + 1, 0, none⟩)]] 62) := ⟨_, rfl⟩
    rw [← hW]
    obtain ⟨hWb, hWs, q0, q1, q2, q3⟩ := four_any hW
    have HWB : Hid (Bx W (w.heap.size + 1) (w.heap.size + 1 + 1) r true) := Lib.hid ⟨q1, q2⟩
    have HWN : Hid (Nx W (w.heap.size + 1 + 1 + 1) (w.heap.size + 1) (w.heap.size + 1 + 1)) := Lib.hid q3
    have HQ0 := Lib.hid q0
    have HWb := Lib.hid hWb
    have HTh := Lib.hid (thr_fi (w.heap.size + 1 + 1 + 1) (w.heap.size + 1) (w.heap.size + 1 + 1) (c.toNat : Int) (r, true) W w.heap.size HKK.out (HK.out.below hWb) HWN.out HWB.out (by omega) hl (by omega) (by omega) (by omega))
    clear hW hWb hWs q0 q1 q2 q3
    refine HTh.out.mono ?_
    rintro e V ⟨rfl, hB, hb, hko⟩
    have hq0 := (hko.2 _ _ (.inl HQ0.out)).trans HQ0.out
    have HV : Hid (Below w.heap.size w V) := Lib.hid (HWb.out.trans hb)
    have HBx := Lib.hid hB
    obtain ⟨x0, x1, x2, x3, x4, x5⟩ := block6 hq0
    have z0 := froz hq0 0
    have z1 := froz hq0 1
    have z2 := froz hq0 2
    have z3 := froz hq0 3
    have z4 := froz hq0 4
    have z5 := froz hq0 5
    have HQ := Lib.hid hq0
    clear hB hb hko hq0
    generalize fiM (c.toNat : Int) (r, true) = M at *
    obtain ⟨⟨m0, m1, m2, m3, m4, m5⟩, t, ok⟩ := M
    unfold opv
    obtain ⟨U, hU⟩ : ∃ U, U = (((((V.setCell ⟨w.heap.size, 0, none⟩ (.int .i64 m0)).setCell ⟨w.heap.size, 1, none⟩ (.int .i64 m1)).setCell ⟨w.heap.size, 2, none⟩ (.int .i64 m2)).setCell ⟨w.heap.size, 3, none⟩ (.int .i64 m3)).setCell ⟨w.heap.size, 4, none⟩ (.string m4)).setCell ⟨w.heap.size, 5, none⟩ (.string m5) := ⟨_, rfl⟩
    have HSB : Hid (SB w.heap.size w w.heap.size (w.heap.size + 1) (w.heap.size + 1 + 1) m0 m1 m2 m3 m4 m5 (ba t) ok U) := Lib.hid (by
      have key : ∀ (X : World) (j k : Nat) (v : Value), k ≠ w.heap.size → (X.setCell ⟨w.heap.size, j, none⟩ v).heap[k]? = X.heap[k]? := fun X j k v hk => by
        unfold World.setCell
        simp [Array.getElem?_modify, Ne.symm hk]
      refine ⟨?_, ?_, ?_, ?_⟩
      · rw [hU]
        simp [World.setCell, Array.getElem?_modify, HQ.out]
      · rw [hU, key _ _ _ _ (by omega), key _ _ _ _ (by omega), key _ _ _ _ (by omega), key _ _ _ _ (by omega), key _ _ _ _ (by omega), key _ _ _ _ (by omega)]
        exact HBx.out.b
      · rw [hU, key _ _ _ _ (by omega), key _ _ _ _ (by omega), key _ _ _ _ (by omega), key _ _ _ _ (by omega), key _ _ _ _ (by omega), key _ _ _ _ (by omega)]
        exact HBx.out.o
      · rw [hU]
        exact (((((HV.out.setCell (Nat.le_refl _) _).setCell (Nat.le_refl _) _).setCell (Nat.le_refl _) _).setCell (Nat.le_refl _) _).setCell (Nat.le_refl _) _).setCell (Nat.le_refl _) _)
    go_upto_region 6 with fail
    rw [← hU]
    clear hU x0 x1 x2 x3 x4 x5 z0 z1 z2 z3 z4 z5
    have e0 : U.setCell ⟨w.heap.size, 0, none⟩ (.int .i64 m0) = U := set_self HSB.out.o rfl
    have d0 : U.drew.setCell ⟨w.heap.size, 0, none⟩ (.int .i64 m0) = U.drew := set_self HSB.out.drew.o rfl
    have e1 : U.setCell ⟨w.heap.size, 1, none⟩ (.int .i64 m1) = U := set_self HSB.out.o rfl
    have d1 : U.drew.setCell ⟨w.heap.size, 1, none⟩ (.int .i64 m1) = U.drew := set_self HSB.out.drew.o rfl
    have e2 : U.setCell ⟨w.heap.size, 2, none⟩ (.int .i64 m2) = U := set_self HSB.out.o rfl
    have d2 : U.drew.setCell ⟨w.heap.size, 2, none⟩ (.int .i64 m2) = U.drew := set_self HSB.out.drew.o rfl
    have e3 : U.setCell ⟨w.heap.size, 3, none⟩ (.int .i64 m3) = U := set_self HSB.out.o rfl
    have d3 : U.drew.setCell ⟨w.heap.size, 3, none⟩ (.int .i64 m3) = U.drew := set_self HSB.out.drew.o rfl
    have e4 : U.setCell ⟨w.heap.size, 4, none⟩ (.string m4) = U := set_self HSB.out.o rfl
    have d4 : U.drew.setCell ⟨w.heap.size, 4, none⟩ (.string m4) = U.drew := set_self HSB.out.drew.o rfl
    have e5 : U.setCell ⟨w.heap.size, 5, none⟩ (.string m5) = U := set_self HSB.out.o rfl
    have d5 : U.drew.setCell ⟨w.heap.size, 5, none⟩ (.string m5) = U.drew := set_self HSB.out.drew.o rfl
    have e6 : U.setCell ⟨w.heap.size + 1, 0, none⟩ (.string (ba t)) = U := set_self HSB.out.b rfl
    have d6 : U.drew.setCell ⟨w.heap.size + 1, 0, none⟩ (.string (ba t)) = U.drew := set_self HSB.out.drew.b rfl
    have e7 : U.setCell ⟨w.heap.size + 1 + 1, 0, none⟩ (.bool ok) = U := set_self HSB.out.k rfl
    have d7 : U.drew.setCell ⟨w.heap.size + 1 + 1, 0, none⟩ (.bool ok) = U.drew := set_self HSB.out.drew.k rfl
    go_region_held3 (fun X => (X.cell? ⟨w.heap.size, 0, none⟩ = some (.int .i64 m0) ∧ X.cell? ⟨w.heap.size, 1, none⟩ = some (.int .i64 m1) ∧ X.cell? ⟨w.heap.size, 2, none⟩ = some (.int .i64 m2) ∧ X.cell? ⟨w.heap.size, 3, none⟩ = some (.int .i64 m3) ∧ X.cell? ⟨w.heap.size, 4, none⟩ = some (.string m4) ∧ X.cell? ⟨w.heap.size, 5, none⟩ = some (.string m5)) ∧ (X.cell? ⟨w.heap.size + 1, 0, none⟩ = some (.string (ba t)) ∧ X.cell? ⟨w.heap.size + 1 + 1, 0, none⟩ = some (.bool ok)) ∧ (X.frozen? ⟨w.heap.size, 0, none⟩ = false ∧ X.frozen? ⟨w.heap.size, 1, none⟩ = false ∧ X.frozen? ⟨w.heap.size, 2, none⟩ = false ∧ X.frozen? ⟨w.heap.size, 3, none⟩ = false ∧ X.frozen? ⟨w.heap.size, 4, none⟩ = false ∧ X.frozen? ⟨w.heap.size, 5, none⟩ = false) ∧ X.frozen? ⟨w.heap.size + 1, 0, none⟩ = false ∧ X.frozen? ⟨w.heap.size + 1 + 1, 0, none⟩ = false)
      ((refine SB.cells (n0 := w.heap.size) (w := w) ?_; repeat (first | with_reducible exact HSB.out | with_reducible refine SB.drew ?_ | with_reducible refine SB.setb ?_ | with_reducible refine SB.setk ?_ | with_reducible refine SB.seta ?_)))
      (fail)
    clear e0 e1 e2 e3 e4 e5 e6 e7 d0 d1 d2 d3 d4 d5 d6 d7
    obtain ⟨⟨y0, y1, y2, y3, y4, y5⟩, ⟨y6, y7⟩, -⟩ := HSB.out.drew.cells
    go_wp2
    refine bodyPost_ret (v := .tuple #[opv ⟨m0, m1, m2, m3, m4, m5⟩, .string (ba t), .bool ok]) (by simp [results, Tryd.results39, go_sem, opv, y0, y1, y2, y3, y4, y5, y6, y7]) rfl ⟨_, _, _, rfl, ?_, HSB.out.drew.bel⟩
    have hD := HD.out
    cases hdd : dec1 (c :: r) with
    | none => rw [hdd] at hD; exact hD
    | some x =>
      obtain ⟨o', r'⟩ := x
      rw [hdd] at hD
      simp only [Prod.mk.injEq] at hD
      exact ⟨hD.1, by rw [hD.2.1], hD.2.2⟩
end Go.Proofs.YtdjhnjokmmbafaaDoor
