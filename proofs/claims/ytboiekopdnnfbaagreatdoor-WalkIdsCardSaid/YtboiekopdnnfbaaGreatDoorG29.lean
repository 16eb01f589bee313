/-
  The reference's Same: its parts.
  append onto a row of the call's own, of a source that came in and may be nil: for any type.
  walk.Attr.
-/
import Derived.Test.YtboiekopdnnfbaaGreatDoorG04
import Derived.Test.YtboiekopdnnfbaaGreatDoorG22
import Derived.Test.YtboiekopdnnfbaaGreatDoorG25
namespace Go.Proofs.YtboiekopdnnfbaaGreatDoor
open Go.ChangeShapes Go.WideShapes Go.ChangeAt Go.RowKit
set_option linter.unusedVariables false
set_option linter.unusedSimpArgs false

theorem under_Ra : Tryz.prog.underlying 82 = some (.struct (Tryz.prog.fieldsOf 82)) := by kernel_rfl
theorem fields_Ra : ((Tryz.prog.fieldsOf 82).toList.map (fun f => (f.type, f.offset, decide (f.name ≠ "_")))) = [(9, 0, true), (9, 1, true)] := by kernel_rfl
theorem eqRa (a b c d : ByteArray) (W : World) : (Op.equalIn 10000 82 (.agg #[.string a, .string b]) (.agg #[.string c, .string d])).run Tryz.prog W = .ok (a.toList == c.toList && b.toList == d.toList) W := by
  rw [show (10000 : Nat) = 9999 + 1 from rfl, run_equalIn_struct W 9999 _ _ _ under_Ra (by kernel_rfl)]
  have hf := fields_Ra
  generalize (Tryz.prog.fieldsOf 82).toList = fs at *
  have hl := congrArg List.length hf
  simp only [List.length_map, List.length_cons, List.length_nil] at hl
  match fs, hl, hf with
  | [f0, f1], _, hf =>
    simp only [List.map_cons, List.map_nil, List.cons.injEq, Prod.mk.injEq, decide_eq_true_eq, and_true] at hf
    obtain ⟨⟨t0, o0, n0⟩, t1, o1, n1⟩ := hf
    have hG : Tryz.prog.plainKey 9 = true := by kernel_rfl
    simp only [Op.eqFields, n0, n1, t0, t1, o0, o1, ne_eq, not_true, not_false_eq_true, if_true, Sem.run_bind]
    rw [run_part_plain W hG (v := .string a) rfl]
    simp only [Result.andThen_ok]
    rw [run_part_plain W hG (v := .string c) rfl]
    simp only [Result.andThen_ok]
    rw [run_equalIn_string W 9998 _ a c (by kernel_rfl)]
    simp only [Result.andThen_ok]
    cases h : (a.toList == c.toList)
    · rfl
    simp only [Bool.not_true, Bool.false_eq_true, if_false, Sem.run_bind]
    rw [run_part_plain W hG (v := .string b) rfl]
    simp only [Result.andThen_ok]
    rw [run_part_plain W hG (v := .string d) rfl]
    simp only [Result.andThen_ok]
    rw [run_equalIn_string W 9998 _ b d (by kernel_rfl)]
    simp only [Result.andThen_ok, Bool.true_and]
    cases h2 : (b.toList == d.toList)
    · rfl
    · rfl
set_option maxHeartbeats 1000000 in
theorem rints_any (A B : Option Addr) (l l' : List Int) (c d : Nat) (w : World) (hI : IR w A l) (hJ : IR w B l') (h1 : l.length ≤ 1000) (h2 : l'.length ≤ 1000) :
    Calls Tryz.prog 31 #[.slice A l.length c, .slice B l'.length d] w (GivesV (.bool (eqI l l')) w) := by
  have HI := Lib.hid hI
  have HJ := Lib.hid hJ
  have HE : Hid (eqI l l' = decide (l = l')) := Lib.hid rfl
  generalize eqI l l' = R at *
  obtain ⟨n, hn⟩ : ∃ n, l.length = n := ⟨_, rfl⟩
  obtain ⟨n', hn'⟩ : ∃ n, l'.length = n := ⟨_, rfl⟩
  have HN := Lib.hid hn
  have HN' := Lib.hid hn'
  rw [hn] at h1 ⊢
  rw [hn'] at h2 ⊢
  clear hI hJ hn hn'
  go_enter Tryz.func31, Tryz.ntmps31
  by_cases hnn : n = n'
  · have hb : ((n : Int) != (n' : Int)) = false := by subst hnn; simp
    have HNN := Lib.hid hnn
    clear hnn
    go_wp2_with fail
    go_loopw [5] (fun q wr => ∃ k : Nat, k ≤ n ∧ q = .int .i64 k ∧ Hid (l.take k = l'.take k) ∧ Hid (Below w.heap.size w wr)) (fun q _ => n - (intOf q).toNat)
    case atStart => exact ⟨0, Nat.zero_le _, rfl, Lib.hid rfl, Lib.hid (Below.refl _ _)⟩
    case round =>
      obtain ⟨k, hk, rfl, HK, HB⟩ := hrel
      by_cases hlt : k < n
      · have k0 : (0 : Int) ≤ (k : Int) := by omega
        have k1 : (k : Int) < (n : Int) := by omega
        have k2 : (k : Int) < (n' : Int) := by have := HNN.out; omega
        have hkl : k < l.length := by rw [HN.out]; exact hlt
        have hkl' : k < l'.length := by rw [HN'.out, ← HNN.out]; exact hlt
        obtain ⟨g, off, rfl, hg, hc⟩ := HI.out.below HB.out k hkl
        obtain ⟨g', off', rfl, hg', hc'⟩ := HJ.out.below HB.out k hkl'
        have HT := Lib.hid (eq_upto (l := l) (l' := l') (k := k) 0 (by rw [HN.out, HN'.out, HNN.out]) hkl HK.out)
        have HX : Hid (l.getD k 0 ≠ l'.getD k 0 → l ≠ l') := Lib.hid (ne_of_take 0)
        generalize l.getD k 0 = y at *
        generalize l'.getD k 0 = y' at *
        clear hkl hkl'
        rcases Bool.eq_false_or_eq_true (y != y') with hy | hy
        · go_upto_region 6 with fail
          go_quiet (fail)
          go_wp2
          go_ret
          refine ⟨ret_bool ?_, below_drewN HB.out _⟩
          rw [HE.out]
          exact (decide_eq_false (HX.out (by simpa using hy))).symm
        · go_upto_region 6 with fail
          go_quiet (fail)
          go_wp2
          go_roundw
          case rel => exact ⟨k + 1, by omega, by go_num, Lib.hid (HT.out.2 (by simpa using hy)), Lib.hid (below_drewN HB.out _)⟩
          case measure => simp [intOf] <;> omega
      · obtain rfl : k = n := by omega
        have e : l = l' := by
          have := HK.out
          rwa [List.take_of_length_le (by rw [HN.out]; exact Nat.le_refl _), List.take_of_length_le (by rw [HN'.out, ← HNN.out]; exact Nat.le_refl _)] at this
        have HEE : Hid (R = true) := Lib.hid (by rw [HE.out, decide_eq_true_eq]; exact e)
        clear e
        go_wp2
        go_ret
        exact ⟨ret_bool HEE.out.symm, HB.out⟩
  · have hb : ((n : Int) != (n' : Int)) = true := by simp; omega
    go_wp2
    go_ret
    refine ⟨ret_bool ?_, Below.refl _ _⟩
    rw [HE.out]
    symm
    rw [decide_eq_false_iff_not]
    intro e
    rw [← HN.out, ← HN'.out, e] at hnn
    exact hnn rfl
set_option maxHeartbeats 1000000 in
theorem rattrs_any (A B : Option Addr) (l l' : List (ByteArray × ByteArray)) (c d : Nat) (w : World) (hI : AR w A l) (hJ : AR w B l') (h1 : l.length ≤ 1000) (h2 : l'.length ≤ 1000) :
    Calls Tryz.prog 85 #[.slice A l.length c, .slice B l'.length d] w (GivesV (.bool (eqA l l')) w) := by
  have HI := Lib.hid hI
  have HJ := Lib.hid hJ
  have HE : Hid (eqA l l' = decide (l = l')) := Lib.hid rfl
  generalize eqA l l' = R at *
  obtain ⟨n, hn⟩ : ∃ n, l.length = n := ⟨_, rfl⟩
  obtain ⟨n', hn'⟩ : ∃ n, l'.length = n := ⟨_, rfl⟩
  have HN := Lib.hid hn
  have HN' := Lib.hid hn'
  rw [hn] at h1 ⊢
  rw [hn'] at h2 ⊢
  clear hI hJ hn hn'
  go_enter Tryz.func85, Tryz.ntmps85
  by_cases hnn : n = n'
  · have hb : ((n : Int) != (n' : Int)) = false := by subst hnn; simp
    have HNN := Lib.hid hnn
    clear hnn
    go_wp2_with fail
    go_loopw [5] (fun q wr => ∃ k : Nat, k ≤ n ∧ q = .int .i64 k ∧ Hid (l.take k = l'.take k) ∧ Hid (Below w.heap.size w wr)) (fun q _ => n - (intOf q).toNat)
    case atStart => exact ⟨0, Nat.zero_le _, rfl, Lib.hid rfl, Lib.hid (Below.refl _ _)⟩
    case round =>
      obtain ⟨k, hk, rfl, HK, HB⟩ := hrel
      by_cases hlt : k < n
      · have k0 : (0 : Int) ≤ (k : Int) := by omega
        have k1 : (k : Int) < (n : Int) := by omega
        have k2 : (k : Int) < (n' : Int) := by have := HNN.out; omega
        have hkl : k < l.length := by rw [HN.out]; exact hlt
        have hkl' : k < l'.length := by rw [HN'.out, ← HNN.out]; exact hlt
        obtain ⟨g, off, rfl, hg, hc, hd⟩ := HI.out.below HB.out k hkl
        obtain ⟨g', off', rfl, hg', hc', hd'⟩ := HJ.out.below HB.out k hkl'
        have HT := Lib.hid (eq_upto (l := l) (l' := l') (k := k) default (by rw [HN.out, HN'.out, HNN.out]) hkl HK.out)
        have HX : Hid (l.getD k default ≠ l'.getD k default → l ≠ l') := Lib.hid (ne_of_take default)
        generalize l.getD k default = y at *
        generalize l'.getD k default = y' at *
        clear hkl hkl'
        obtain ⟨a, b⟩ := y
        obtain ⟨a', b'⟩ := y'
        have hq := fun W => eqRa a b a' b' W
        have HQ : Hid ((a.toList == a'.toList && b.toList == b'.toList) = true ↔ (a, b) = (a', b')) := Lib.hid (by
          rw [Bool.and_eq_true, beq_iff_eq, beq_iff_eq, toList_inj, toList_inj, Prod.mk.injEq])
        generalize (a.toList == a'.toList && b.toList == b'.toList) = Q at *
        rcases Bool.eq_false_or_eq_true Q with hy | hy <;> subst hy
        · go_upto_region 6 with fail
          go_quiet (fail)
          go_wp2
          go_roundw
          case rel => exact ⟨k + 1, by omega, by go_num, Lib.hid (HT.out.2 (HQ.out.1 rfl)), Lib.hid (below_drewN HB.out _)⟩
          case measure => simp [intOf] <;> omega
        · go_upto_region 6 with fail
          go_quiet (fail)
          go_wp2
          go_ret
          refine ⟨ret_bool ?_, below_drewN HB.out _⟩
          rw [HE.out]
          exact (decide_eq_false (HX.out (fun e => by have := HQ.out.2 e; cases this))).symm
      · obtain rfl : k = n := by omega
        have e : l = l' := by
          have := HK.out
          rwa [List.take_of_length_le (by rw [HN.out]; exact Nat.le_refl _), List.take_of_length_le (by rw [HN'.out, ← HNN.out]; exact Nat.le_refl _)] at this
        have HEE : Hid (R = true) := Lib.hid (by rw [HE.out, decide_eq_true_eq]; exact e)
        clear e
        go_wp2
        go_ret
        exact ⟨ret_bool HEE.out.symm, HB.out⟩
  · have hb : ((n : Int) != (n' : Int)) = true := by simp; omega
    go_wp2
    go_ret
    refine ⟨ret_bool ?_, Below.refl _ _⟩
    rw [HE.out]
    symm
    rw [decide_eq_false_iff_not]
    intro e
    rw [← HN.out, ← HN'.out, e] at hnn
    exact hnn rfl
end Go.Proofs.YtboiekopdnnfbaaGreatDoor
namespace Go.Proofs.YtboiekopdnnfbaaGreatDoor
open Go.ChangeShapes Go.WideShapes Go.ChangeAt Go.RowKit
set_option linter.unusedVariables false
set_option linter.unusedSimpArgs false

/-- What an append takes: a row of cells at an address, or nothing. -/
structure Srow (w : World) (A : Option Addr) (m size : Nat) (news : List Value) : Prop where
  len : news.length = m * size
  none_ : A = none → m = 0
  at_ : ∀ ad, A = some ad → ∀ j u, news[j]? = some u → w.cell? (ad.add j) = some u
  one : ∀ u ∈ news, u.oneCell' = true
theorem run_row {base n size bytes : Nat} {t e : TypeId} {v z : Value} {xs news : List Value} {i : TypeInfo} {w : World} {A : Option Addr} {m : Nat} (hu : Tryz.prog.underlying t = some (.slice e)) (hi : Tryz.prog.info? e = some i) (hz : i.zero = some z) (hs : i.size = size) (hb : i.bytes = bytes) (hzs : z.cells.size = size) (h0 : 0 < size)
    (hown : w.ownsRow base e size v n xs) (c : Nat) (hS : Srow w A m size news) (h63 : n + m ≤ maxLen) (hby : (n + m) * bytes ≤ 140737488355328) (hbase : base ≤ w.heap.size) :
    ∃ v' w', (Builtin.append_ #[t, t] t #[v, .slice A m c]).run Tryz.prog w = .ok v' w' ∧ w'.ownsRow base e size v' (n + m) (xs ++ news) ∧ w.grownBy w' v.ownBlock ∧ (v'.ownBlock = v.ownBlock ∨ v'.ownBlock = some w.heap.size) := by
  cases A with
  | none =>
    obtain rfl := hS.none_ rfl
    have hn : news = [] := List.eq_nil_of_length_eq_zero (by rw [hS.len, Nat.zero_mul])
    subst hn
    refine ⟨v, w, ?_, by simpa using hown, grown_refl _ _, .inl rfl⟩
    rcases hown.2 with ⟨rfl, rfl⟩ | ⟨g, cap, cur, rfl, _, _, hnc, _⟩
    · simp [Builtin.append_, run_underlying hu, sizeOf, typeInfo, hi, Builtin.lenOf, Builtin.firstCells]
    · simp [Builtin.append_, run_underlying hu, sizeOf, typeInfo, hi, Builtin.lenOf, Builtin.firstCells, hnc, storeCells]
  | some ad =>
    obtain ⟨v', w', hr, r1, r2, -, r4⟩ := run_append_own_at (P := Tryz.prog) w base t t e i z size bytes hu hi hz hs hb hzs h0 v n xs hown ad m c news hS.len (hS.at_ ad rfl) hS.one h63 hby hbase
    exact ⟨v', w', hr, r1, r2, r4⟩
/-- The same, for the walk. -/
theorem wpList_row {ops : Array Oper} {rest : List Oper} {o : Oper} {a : Act} {w : World} {Q : Exit → Act → World → Prop} (hgd : o.guard = none) (s x : Operand) {t e : TypeId}
    (ho : o.op = .call { callee := .builtin .append, args := #[s, x], argTypes := #[t, t] }) (ht : o.type = t)
    {base n size bytes : Nat} {v z : Value} {xs news : List Value} {i : TypeInfo} {A : Option Addr} {m : Nat} (hu : Tryz.prog.underlying t = some (.slice e)) (hi : Tryz.prog.info? e = some i) (hz : i.zero = some z) (hsz : i.size = size) (hb : i.bytes = bytes) (hzs : z.cells.size = size) (h0 : 0 < size)
    (hs : a.eval s = v) (hown : w.ownsRow base e size v n xs) (c : Nat) (hx : a.eval x = .slice A m c) (hS : Srow w A m size news) (h63 : n + m ≤ maxLen) (hby : (n + m) * bytes ≤ 140737488355328) (hbase : base ≤ w.heap.size)
    (hK : ∀ v' w', w'.ownsRow base e size v' (n + m) (xs ++ news) → w.grownBy w' v.ownBlock → (v'.ownBlock = v.ownBlock ∨ v'.ownBlock = some w.heap.size) → wpList Tryz.prog ops Q rest (a.put o.dst v') w') : wpList Tryz.prog ops Q (o :: rest) a w := by
  refine wpList_plain hgd fun K hK' => ?_
  obtain ⟨v', w', hr, h2, h3, h4⟩ := run_row hu hi hz hsz hb hzs h0 hown c hS h63 hby hbase
  unfold Oper.wp
  simp only [execOp, ho, ht, resolve, invoke, builtin, Sem.run_bind, Sem.run_pure, Result.andThen_ok, List.map_toArray, List.map_cons, List.map_nil, hs, hx, hr]
  exact hK' _ _ (hK v' w' h2 h3 h4)
theorem srow_ints {w : World} {A : Option Addr} {l : List Int} (h : IR w A l) : Srow w A l.length 1 (ivs l) := by
  refine ⟨by rw [ivs_length, Nat.mul_one], fun e => ?_, fun ad e j u hu => ?_, ivs_one l⟩
  · cases l with
    | nil => rfl
    | cons x l =>
      obtain ⟨g, off, hA, -⟩ := h 0 (by simp)
      rw [e] at hA
      cases hA
  · subst e
    obtain ⟨p, h1, h2, h3⟩ := ir_cells h j u hu
    rw [h1]
    exact h3
theorem srow_attrs {w : World} {A : Option Addr} {l : List At2} (h : AR w A l) : Srow w A l.length 2 (acells l) := by
  refine ⟨acells_length l, fun e => ?_, fun ad e j u hu => ?_, acells_one l⟩
  · cases l with
    | nil => rfl
    | cons x l =>
      obtain ⟨g, off, hA, -⟩ := h 0 (by simp)
      rw [e] at hA
      cases hA
  · subst e
    have hj : j < l.length * 2 := by rw [← acells_length]; exact (List.getElem?_eq_some_iff.1 hu).1
    have hq : j / 2 < l.length := by omega
    obtain ⟨g, off, hA, -, c0, c1⟩ := h (j / 2) hq
    cases hA
    obtain ⟨a0, a1⟩ := acells_at hq
    rw [add_plain]
    obtain ⟨q, hqe⟩ : ∃ q, j / 2 = q := ⟨_, rfl⟩
    have hj2 : j = q * 2 ∨ j = q * 2 + 1 := by omega
    rw [hqe] at a0 a1 c0 c1
    clear hqe hq hj
    rcases hj2 with rfl | rfl
    · rw [a0] at hu
      cases hu
      exact c0
    · rw [a1] at hu
      cases hu
      rw [← Nat.add_assoc]
      exact c1
end Go.Proofs.YtboiekopdnnfbaaGreatDoor
namespace Go.Proofs.YtboiekopdnnfbaaGreatDoor
open Go.ChangeShapes Go.WideShapes Go.ChangeAt Go.RowKit
set_option linter.unusedVariables false
set_option linter.unusedSimpArgs false

/-- What Attr tells of a node. -/
def attrR (m : Mn) (name : ByteArray) : ByteArray × Int := if m.kind = 1 then (match valP m.attrs name with | some v => (v, 0) | none => (⟨#[]⟩, 75)) else (⟨#[]⟩, 71)
set_option maxRecDepth 100000 in
set_option maxHeartbeats 2000000 in
theorem wattr_any (A : Option Addr) (F : List Mn) (c i : Nat) (name : ByteArray) (w : World) (hF : FR w A F) (hm : mayB F = true) (hi : i < F.length) :
    Calls Tryz.prog 36 #[.slice A F.length c, .int .i64 i, .string name] w fun e w' => e = .returned (.tuple #[.string (attrR F[i] name).1, .int .i64 (attrR F[i] name).2]) ∧ Below w.heap.size w w' := by
  have HN := Lib.hid (wnode_any A F c (i : Int) w hF hm)
  rw [show isB F (i : Int) = true by rw [isB, decide_eq_true_eq]; omega] at HN
  have hal := (may_sz hm).2 F[i] (List.getElem_mem hi)
  obtain ⟨-, g, off, rfl, hg, hnd⟩ := hF i F[i] (List.getElem?_eq_getElem hi)
  have HND := Lib.hid hnd
  have HR : Hid (attrR F[i] name = if F[i].kind = 1 then (match valP F[i].attrs name with | some v => (v, (0 : Int)) | none => (⟨#[]⟩, (75 : Int))) else (⟨#[]⟩, (71 : Int))) := Lib.hid rfl
  obtain ⟨n, hn⟩ : ∃ n, F.length = n := ⟨_, rfl⟩
  rw [hn] at HN hi ⊢
  have k0 : (0 : Int) ≤ (i : Int) := by omega
  have k1 : (i : Int) < (n : Int) := by omega
  clear hF hm hn hnd
  generalize attrR F[i] name = R at *
  generalize F[i] = m at *
  go_enter Tryz.func36, Tryz.ntmps36
  go_wp2_with fail
  refine HN.out.mono ?_
  rintro e w1 ⟨rfl, hb⟩
  have hnd := HND.out.below hg hb
  have HB := Lib.hid hb
  have x0 := hnd.c0
  have x1 := hnd.c1
  have x2 := hnd.c2
  have x3 := hnd.c3
  have x4 := hnd.c4
  have x5 := hnd.c5
  have HV := Lib.hid (value_any m name w1 hnd.ar (by omega))
  unfold nval valR at HV
  clear hnd hb HND
  by_cases hk : m.kind = 1
  · have hq : (m.kind != 1) = false := by simp [hk]
    rw [if_pos hk] at HR
    clear hk
    generalize valP m.attrs name = vp at *
    go_wp2_with fail
    refine HV.out.mono ?_
    rintro e w2 ⟨rfl, hb⟩
    have HB2 := Lib.hid (HB.out.trans (hb.mono HB.out.size))
    clear hb
    cases vp with
    | none =>
      simp only [Option.getD_none, Option.isSome_none]
      go_wp2
      go_ret2
      exact ⟨by rw [HR.out]; rfl, HB2.out⟩
    | some v =>
      simp only [Option.getD_some, Option.isSome_some]
      go_wp2
      go_ret2
      exact ⟨by rw [HR.out]; rfl, HB2.out⟩
  · have hq : (m.kind != 1) = true := by simpa using hk
    rw [if_neg hk] at HR
    clear hk
    go_wp2
    go_ret2
    exact ⟨by rw [HR.out]; rfl, HB.out⟩
def attrP (F : List Mn) (i : Nat) (name : ByteArray) : ByteArray × Int := ((F[i]?).map fun m => attrR m name).getD (⟨#[]⟩, 70)
theorem attrP_at {F : List Mn} {i : Nat} (hi : i < F.length) {name : ByteArray} : attrP F i name = attrR F[i] name := by
  unfold attrP
  rw [List.getElem?_eq_getElem hi]
  rfl
theorem attr_hit {F : List Mn} (h : mayB F = true) {i : Nat} (hi : i < F.length) (t : ByteArray) : (attrR F[i] idS).2 = 0 ∧ (attrR F[i] idS).1 = t ↔ hasId F t i = true := by
  have ho := (may_iff.1 h).2.1 i hi
  have hh : hasId F t i = decide (valP F[i].attrs idS = some t) := by unfold hasId; rw [List.getElem?_eq_getElem hi]; rfl
  rw [hh, decide_eq_true_eq]
  unfold attrR
  by_cases hk : F[i].kind = 1
  · rw [if_pos hk]
    cases valP F[i].attrs idS with
    | none => simp
    | some v => simp
  · rw [if_neg hk]
    have ha : F[i].attrs = [] := by
      have := ho.2
      unfold ownB at this
      split at this
      · simp only [Bool.and_eq_true, decide_eq_true_eq] at this
        exact List.eq_nil_of_length_eq_zero this.2.2.2
      split at this
      · simp only [Bool.and_eq_true, decide_eq_true_eq] at this
        exact List.eq_nil_of_length_eq_zero this.2.2
      · rename_i h3
        first | (cases this) | (rw [if_neg hk] at this; cases this)
    rw [ha]
    simp [valP]
end Go.Proofs.YtboiekopdnnfbaaGreatDoor
