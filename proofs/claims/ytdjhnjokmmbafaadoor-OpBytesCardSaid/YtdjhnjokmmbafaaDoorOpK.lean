/-
  Decode.
-/
import Derived.Test.YtdjhnjokmmbafaaDoorOpJ
import Derived.Test.YtdjhnjokmmbafaaDoorOpF
import Derived.Maps.AppendAt
import Derived.OwnWalk
namespace Go.Proofs.YtdjhnjokmmbafaaDoor
open Go.ChangeShapes Go.WideShapes Go.ChangeAt Go.RowKit
set_option linter.unusedVariables false
set_option linter.unusedSimpArgs false

def ocells (o : Po) : List Value := [.int .i64 o.kind, .int .i64 o.id, .int .i64 o.dst, .int .i64 o.pos, .string o.name, .string o.text]
def lcells (l : List Po) : List Value := l.flatMap ocells
theorem lcells_length (l : List Po) : (lcells l).length = l.length * 6 := by
  induction l with
  | nil => rfl
  | cons m F ih => rw [lcells, List.flatMap_cons, List.length_append]; rw [lcells] at ih; rw [ih]; simp [ocells]; omega
theorem lcells_one (l : List Po) : ∀ u ∈ lcells l, u.oneCell' = true := by
  intro u hu
  obtain ⟨m, -, hm⟩ := List.mem_flatMap.1 hu
  simp only [ocells, List.mem_cons, List.not_mem_nil, or_false] at hm
  rcases hm with rfl | rfl | rfl | rfl | rfl | rfl <;> rfl
/-- The cells of operations, from o on. -/
def RowO (w : World) (g o : Nat) (l : List Po) : Prop := ∀ i p, l[i]? = some p → w.cell? ⟨g, o + i * 6, none⟩ = some (.int .i64 p.kind) ∧ w.cell? ⟨g, o + i * 6 + 1, none⟩ = some (.int .i64 p.id) ∧ w.cell? ⟨g, o + i * 6 + 2, none⟩ = some (.int .i64 p.dst) ∧ w.cell? ⟨g, o + i * 6 + 3, none⟩ = some (.int .i64 p.pos) ∧ w.cell? ⟨g, o + i * 6 + 4, none⟩ = some (.string p.name) ∧ w.cell? ⟨g, o + i * 6 + 5, none⟩ = some (.string p.text)
theorem rowo_cells {w : World} {g : Nat} : ∀ {F : List Po} {o : Nat}, RowO w g o F → ∀ j u, (lcells F)[j]? = some u → w.cell? ⟨g, o + j, none⟩ = some u
  | [], o, h, j, u, hu => by simp [lcells] at hu
  | m :: F, o, h, j, u, hu => by
    obtain ⟨a0, a1, a2, a3, a4, a5⟩ := h 0 m rfl
    rw [Nat.zero_mul, Nat.add_zero] at a0 a1 a2 a3 a4 a5
    have hr : RowO w g (o + 6) F := fun i m' hm => by
      have := h (i + 1) m' (by simpa using hm)
      rw [show o + (i + 1) * 6 = o + 6 + i * 6 by omega] at this
      exact this
    rw [lcells, List.flatMap_cons] at hu
    by_cases hj : j < 6
    · rw [List.getElem?_append_left (by simpa [ocells] using hj)] at hu
      rcases j with _ | _ | _ | _ | _ | _ | j
      · simp [ocells] at hu; subst hu; exact a0
      · simp [ocells] at hu; subst hu; exact a1
      · simp [ocells] at hu; subst hu; exact a2
      · simp [ocells] at hu; subst hu; exact a3
      · simp [ocells] at hu; subst hu; exact a4
      · simp [ocells] at hu; subst hu; exact a5
      · omega
    · rw [List.getElem?_append_right (by simp [ocells]; omega)] at hu
      have := rowo_cells hr (j - 6) u (by simpa [ocells, lcells] using hu)
      rw [show o + 6 + (j - 6) = o + j by omega] at this
      exact this
theorem cells_rowo {w : World} {g : Nat} : ∀ {F : List Po} {o : Nat}, (∀ j u, (lcells F)[j]? = some u → w.cell? ⟨g, o + j, none⟩ = some u) → RowO w g o F
  | [], o, h, i, m, hm => by simp at hm
  | m :: F, o, h, i, m', hm => by
    cases i with
    | zero =>
      simp at hm
      subst hm
      rw [Nat.zero_mul, Nat.add_zero]
      have key : ∀ j u, (ocells m)[j]? = some u → w.cell? ⟨g, o + j, none⟩ = some u := fun j u hu => h j u (by
        rw [lcells, List.flatMap_cons, List.getElem?_append_left (List.getElem?_eq_some_iff.1 hu).1]; exact hu)
      exact ⟨key 0 _ rfl, key 1 _ rfl, key 2 _ rfl, key 3 _ rfl, key 4 _ rfl, key 5 _ rfl⟩
    | succ i =>
      have hr : RowO w g (o + 6) F := cells_rowo (fun j u hu => by
        have := h (6 + j) u (by rw [lcells, List.flatMap_cons, List.getElem?_append_right (by simp [ocells])]; simpa [ocells, lcells] using hu)
        rw [show o + (6 + j) = o + 6 + j by omega] at this
        exact this)
      have := hr i m' (by simpa using hm)
      rw [show o + 6 + i * 6 = o + (i + 1) * 6 by omega] at this
      exact this
/-- An own row of operations can be read. -/
theorem own_ol {w : World} {base size : Nat} {t : TypeId} {v : Value} {l : List Po} (h : w.ownsRow base t 6 v l.length (lcells l)) (hf : ∀ o ∈ l, Fit o) : ∃ p cap, v = .slice p l.length cap ∧ l.length ≤ cap ∧ cap ≤ maxLen ∧ OL w p l := by
  rcases h.2 with ⟨h1, h2⟩ | ⟨g, cap, cur, hv, hb, hg, h1, h2, h3, h4⟩
  · obtain rfl := List.length_eq_zero_iff.1 h2
    exact ⟨none, 0, h1, Nat.le_refl _, by simp [maxLen], fun i o ho => by simp at ho⟩
  · refine ⟨_, cap, hv, h1, h2, fun i o ho => ⟨hf o (List.mem_of_getElem? ho), g, 0, rfl, lt_of_block hg, ?_⟩⟩
    have hr : RowO w g 0 l := cells_rowo (fun j u hu => by
      subst hv
      have := h.cells rfl j u hu
      rw [← this, show (⟨g, 0, none⟩ : Addr).add j = ⟨g, 0 + j, none⟩ by unfold Addr.add; split <;> simp_all])
    exact hr i o ho
theorem six_new (w : World) (o : Po) (t : TypeId) : ∀ j u, (ocells o)[j]? = some u → (w.alloc (.cells #[.int .i64 o.kind, .int .i64 o.id, .int .i64 o.dst, .int .i64 o.pos, .string o.name, .string o.text] t)).cell? ((⟨w.heap.size, 0, none⟩ : Addr).add j) = some u := by
  intro j u hj
  rw [show (⟨w.heap.size, 0, none⟩ : Addr).add j = ⟨w.heap.size, 0 + j, none⟩ by unfold Addr.add; split <;> simp_all]
  have hg := heap_alloc_new w (.cells #[.int .i64 o.kind, .int .i64 o.id, .int .i64 o.dst, .int .i64 o.pos, .string o.name, .string o.text] t)
  obtain ⟨a0, a1, a2, a3, a4, a5⟩ := block6 hg
  rw [Nat.zero_add]
  rcases j with _ | _ | _ | _ | _ | _ | j
  · simp [ocells] at hj; subst hj; exact a0
  · simp [ocells] at hj; subst hj; exact a1
  · simp [ocells] at hj; subst hj; exact a2
  · simp [ocells] at hj; subst hj; exact a3
  · simp [ocells] at hj; subst hj; exact a4
  · simp [ocells] at hj; subst hj; exact a5
  · simp [ocells] at hj
theorem info_op : (Tryd.prog.info? 23).map (fun i => (i.zero, i.size, i.bytes)) = some (some (.agg #[.int .i64 0, .int .i64 0, .int .i64 0, .int .i64 0, .string ⟨#[]⟩, .string ⟨#[]⟩]), 6, 64) := by kernel_rfl
/-- What Decode tells. -/
def DecT (d : Option (List Po)) (w : World) (e : Ending) (w' : World) : Prop :=
  (match d with | some l => ∃ p cap, e = .returned (.tuple #[.slice p l.length cap, .int .i64 0]) ∧ OL w' p l ∧ (∀ o ∈ l, mayO o = true) | none => e = .returned (.tuple #[.slice none 0 0, .int .i64 4])) ∧ Below w.heap.size w w'
theorem own_base {w : World} {base size n : Nat} {e : TypeId} {v : Value} {xs : List Value} (h : w.ownsRow base e size v n xs) : ∀ k, v.ownBlock = some k → base ≤ k := by
  intro k hk
  rcases h.2 with ⟨rfl, -⟩ | ⟨g, cap, cur, rfl, hb, -⟩
  · simp [Value.ownBlock] at hk
  · simp [Value.ownBlock] at hk
    omega
def strOf : Value → Nat
  | .string s => s.size
  | _ => 0
theorem decL_step {n : Nat} {c : UInt8} {r r' : List UInt8} {o : Po} (h : dec1 (c :: r) = some (o, r')) : decL (n + 1) (c :: r) = (decL n r').map (fun l => o :: l) := by
  rw [decL, h]; rfl
theorem decL_bad {n : Nat} {c : UInt8} {r : List UInt8} (h : dec1 (c :: r) = none) : decL n (c :: r) = none := by
  cases n with
  | zero => rfl
  | succ n => rw [decL, h]; rfl
theorem own_below {w w' : World} {base : Nat} {e : TypeId} {size n : Nat} {v : Value} {xs : List Value} (h : w.ownsRow base e size v n xs) (hb : Below w.heap.size w w') : w'.ownsRow base e size v n xs := by
  refine ⟨h.1, ?_⟩
  rcases h.2 with h' | ⟨g, cap, cur, h1, h2, h3, h4⟩
  · exact .inl h'
  · exact .inr ⟨g, cap, cur, h1, h2, (hb.block g (Array.getElem?_eq_some_iff.1 h3).1).trans h3, h4⟩
set_option maxRecDepth 100000 in
set_option maxHeartbeats 4000000 in
theorem decode_any (S : List UInt8) (w : World) (hK : KT w) (hl : S.length ≤ 100000) :
    Calls Tryd.prog 18 #[.string (ba S)] w (DecT (decL 20 S) w) := by
  have HK := Lib.hid hK
  clear hK
  go_enter Tryd.func18, Tryd.ntmps18
  go_wp2_with fail
  obtain ⟨i0, hI1, hI2, hI3, hI4⟩ := info_parts info_op
  have HI1 := Lib.hid hI1
  have HI2 := Lib.hid hI2
  have HI3 := Lib.hid hI3
  have HI4 := Lib.hid hI4
  clear hI1 hI2 hI3 hI4
  go_loopw [0, 4] (fun q0 q4 wv => ∃ (V : World) (R : List UInt8) (L : List Po) (p : Option Addr) (cap : Nat), V = wv ∧ q0 = .string (ba R) ∧ q4 = .slice p L.length cap ∧ L.length ≤ 20 ∧ R.length ≤ 100000 ∧ Hid (V.ownsRow w.heap.size 23 6 (.slice p L.length cap) L.length (lcells L)) ∧ Hid (decL 20 S = (decL (20 - L.length) R).map (fun l => L ++ l)) ∧ Hid (∀ o ∈ L, mayO o = true ∧ Fit o) ∧ Hid (Below w.heap.size w V)) (fun q0 _ _ => strOf q0)
  case atStart => exact ⟨_, S, [], none, 0, rfl, rfl, rfl, by simp, hl, Lib.hid (World.ownsRow_nil _ _ _ _), Lib.hid (by simp), Lib.hid (by simp), Lib.hid (Below.refl _ _)⟩
  case round =>
    obtain ⟨V, R, L, p, cap, rfl, rfl, rfl, hL, hR, HO, HD, HL, HB⟩ := hrel
    cases R with
    | nil =>
      have HD' : Hid (decL 20 S = some L) := Lib.hid (by
        rw [HD.out]
        have : decL (20 - L.length) [] = some [] := by cases (20 - L.length) <;> rfl
        rw [this]
        simp)
      have e1 : ba ([] : List UInt8) = ⟨#[]⟩ := rfl
      rw [e1]
      clear e1
      go_wp2
      go_ret2
      rw [HD'.out]
      obtain ⟨p', cap', hv, -, -, hol⟩ := own_ol (size := 6) HO.out (fun o ho => (HL.out o ho).2)
      exact ⟨⟨p', cap', by rw [← hv]; rfl, hol, fun o ho => (HL.out o ho).1⟩, HB.out⟩
    | cons c r =>
      have HF := Lib.hid (first_any c r V (HK.out.below HB.out) (by simp at hR; omega))
      obtain ⟨T, hT⟩ : ∃ T, T = ba (c :: r) := ⟨_, rfl⟩
      have hsz : T.size = r.length + 1 := by rw [hT]; rfl
      have hE := not_empty T (by omega)
      have hF := not_nil T (by omega)
      have hN : (T.toList != []) = true := by simpa using hF
      have HSz := Lib.hid hsz
      rw [← hT] at HF ⊢
      clear hT hsz
      go_wp2_with fail
      refine HF.out.mono ?_
      rintro e w2 ⟨o, t, ok, rfl, hm, hb2⟩
      have HM := Lib.hid hm
      have HB2 : Hid (Below w.heap.size w w2) := Lib.hid (HB.out.trans (hb2.mono HB.out.size))
      have HO2 := Lib.hid (own_below HO.out hb2)
      clear hm hb2
      obtain ⟨V2, hV2⟩ : ∃ V2, V2 = w2.alloc (.cells #[.int .i64 o.kind, .int .i64 o.id, .int .i64 o.dst, .int .i64 o.pos, .string o.name, .string o.text] 23) := ⟨_, rfl⟩
      have HV2k : Hid (V2.heap[w2.heap.size]? = some (.cells #[.int .i64 o.kind, .int .i64 o.id, .int .i64 o.dst, .int .i64 o.pos, .string o.name, .string o.text] 23 (0, 0))) := Lib.hid (by rw [hV2]; exact heap_alloc_new _ _)
      have HV2b : Hid (Below w2.heap.size w2 V2) := Lib.hid (by rw [hV2]; exact (Below.refl _ _).alloc (Nat.le_refl _) _)
      have HO3 := Lib.hid (own_below HO2.out HV2b.out)
      have HB3 : Hid (Below w.heap.size w V2) := Lib.hid (HB2.out.trans (HV2b.out.mono HB2.out.size))
      unfold opv
      go_upto_region 4 with fail
      rw [← hV2]
      clear hV2
      cases hdd : dec1 (c :: r) with
      | none =>
        rw [hdd] at HM
        obtain rfl : ok = false := HM.out
        have HD' : Hid (decL 20 S = none) := Lib.hid (by rw [HD.out, decL_bad hdd]; rfl)
        clear hdd
        go_wp2
        go_ret2
        rw [HD'.out]
        exact ⟨rfl, HB3.out⟩
      | some x =>
        obtain ⟨o', r'⟩ := x
        rw [hdd] at HM
        obtain ⟨rfl, rfl, rfl⟩ : o = o' ∧ t = ba r' ∧ ok = true := HM.out
        by_cases h20 : L.length = 20
        · have HD' : Hid (decL 20 S = none) := Lib.hid (by rw [HD.out, h20]; rfl)
          have hq : ((L.length : Int) == 20) = true := by simp; omega
          clear hdd h20
          go_wp2
          go_ret2
          rw [HD'.out]
          exact ⟨rfl, HB3.out⟩
        · have hq : ((L.length : Int) == 20) = false := by simp; omega
          obtain ⟨d1, d2, d3⟩ := enc_dec hdd
          have HD' : Hid (decL 20 S = (decL (20 - (L ++ [o]).length) r').map (fun l => (L ++ [o]) ++ l)) := Lib.hid (by
            have e1 : 20 - L.length = (20 - (L ++ [o]).length) + 1 := by rw [List.length_append, List.length_singleton]; omega
            rw [HD.out, e1, decL_step hdd, Option.map_map]
            congr 1
            funext l
            simp)
          have HL' : Hid (∀ q ∈ L ++ [o], mayO q = true ∧ Fit q) := Lib.hid (fun q hq => by
            rcases List.mem_append.1 hq with hq | hq
            · exact HL.out q hq
            · obtain rfl := List.mem_singleton.1 hq; exact ⟨d2, d3⟩)
          have hr' : r'.length ≤ r.length := by
            have := congrArg List.length d1
            have h1 := enc_pos o
            rw [List.length_append, List.length_cons] at this
            omega
          have hrl : r.length ≤ 100000 := by simp at hR; omega
          have hLl : (L ++ [o]).length = L.length + 1 := by simp
          have HLc : Hid (lcells L ++ ocells o = lcells (L ++ [o])) := Lib.hid (by simp [lcells])
          obtain ⟨x0, x1, x2, x3, x4, x5⟩ := block6 HV2k.out
          have hL20 : L.length < 20 := by omega
          clear hdd d1 d2 d3 h20 hR
          obtain ⟨n, hn⟩ : ∃ n, L.length = n := ⟨_, rfl⟩
          have HNL := Lib.hid hn
          rw [hn] at HO3 hq hL hL20 hLl ⊢
          clear hn
          go_wp2_with (at_builtin; refine wpList_append_own_at _ rfl _ _ 25 rfl w.heap.size 23 i0 _ 6 64 Tryd.underlying25 HI1.out HI2.out HI3.out HI4.out rfl (by decide) _ _ _ rfl (HO3.out.alloc _) ⟨V2.heap.size, 0, none⟩ 1 1 (ocells o) rfl rfl (six_new _ _ _) (fun u hu => lcells_one [o] u (by simpa [lcells] using hu)) (by unfold maxLen; omega) (by omega) (by have := HB3.out.size; simp; omega) ?_; intro v' w4 hown' hgrow _ hat; have HOw := Lib.hid hown'; have HGr := Lib.hid hgrow; clear hown' hgrow hat)
          have HOw' := HOw.out
          rw [HLc.out, ← hLl] at HOw'
          obtain ⟨p', cap', hv, -, -, -⟩ := own_ol (size := 6) HOw' (fun q hq => (HL'.out q hq).2)
          subst hv
          refine ⟨⟨w4, r', L ++ [o], p', cap', rfl, rfl, rfl, by omega, by omega, Lib.hid HOw', HD', HL', Lib.hid ?_⟩, ?_⟩
          · exact (HB3.out.alloc HB3.out.size _).grown HGr.out (by have := HB3.out.size; simp; omega) (own_base HO3.out)
          · show (ba r').size < T.size
            rw [ba_size, HSz.out]
            omega
end Go.Proofs.YtdjhnjokmmbafaaDoor
