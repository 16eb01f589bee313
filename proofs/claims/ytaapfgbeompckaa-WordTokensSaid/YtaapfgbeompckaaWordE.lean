/-
  Tokens, at any text: a list of its own that holds the words, each once.
-/
import Derived.Test.YtaapfgbeompckaaWordD
import Derived.Deep.Onto
namespace Go.Proofs.Ytaapfgbeompckaa
open Go.RowKit
open Go.PlainAid (bt)
set_option linter.unusedVariables false
attribute [local go_sem] Oper.semAt_some

/-- The words of what came, each once. -/
def T (pre : List Wq) : List Wd := dd (pre.map (·.1))
def sv (x : Wd) : Value := .string (str x)
def keys (l : List Wd) : List Lit := l.map Lit.string
def setW (l : List Wd) : DataW Unit := Maps.setOf (.agg []) (keys l)
theorem setW_snoc (l : List Wd) (x : Wd) : setW (l ++ [x]) = (setW l).put (.string x) (.agg []) := by
  unfold setW keys; rw [List.map_append]; exact Maps.setOf_snoc _ _ _
theorem setW_has (l : List Wd) (x : Wd) : Maps.has (setW l) (.string x) = decide (x ∈ l) := by
  unfold setW
  rw [Maps.has_setOf _ _ _ (by intro y hy; unfold keys at hy; simp at hy; obtain ⟨a, _, rfl⟩ := hy; trivial)]
  rw [Bool.eq_iff_iff]
  simp [keys, Lit.sameKey]
theorem T_hit {pre : List Wq} {x : Wq} (h : x.1 ∈ T pre) : T (pre ++ [x]) = T pre := by
  unfold T at h ⊢; rw [List.map_append]; exact dd_hit ((mem_dd _ _).1 h)
theorem T_miss {pre : List Wq} {x : Wq} (h : x.1 ∉ T pre) : T (pre ++ [x]) = T pre ++ [x.1] := by
  unfold T at h ⊢; rw [List.map_append]; exact dd_miss (fun h' => h ((mem_dd _ _).2 h'))
theorem T_length (pre : List Wq) : (T pre).length ≤ pre.length := by
  have := dd_length (pre.map (·.1)); simpa [T] using this
theorem sne {a b : Nat} (h : a ≠ b) : some a ≠ some b := fun e => h (by cases e; rfl)
theorem info_str : (Try.prog.info? 9).map (fun i => (i.zero, i.size, i.bytes)) = some (some (.string ⟨#[]⟩), 1, 16) := by kernel_rfl

set_option maxRecDepth 100000 in
set_option maxHeartbeats 2000000 in
theorem tokens_in (n : Nat) (hn : 3 ≤ n) (s : ByteArray) (hs : s.size ≤ 100000) (w : World) :
    CallsIn Fence.wide n Try.prog 15 #[.string s] w fun e W' => ∃ v, e = .returned v ∧ W'.ownsRow w.heap.size 9 1 v (dd (ws s)).length ((dd (ws s)).map sv) ∧ Below w.heap.size w W' := by
  have h1 : 1 ≤ n := by omega
  have hF : Fence.wide.fn 24 := trivial
  have hmm := @run_makeMap Try.prog
  have hwl := ws_length s
  obtain ⟨i0, hi, hz0, hz1, hz2⟩ := info_parts info_str
  refine callsIn_of_wp_marks Try.func15 rfl trivial ?_ rfl
  simp only [Try.ntmps15, List.size_toArray, List.length_cons, List.length_nil, Nat.reduceAdd, Nat.reduceSub, Array.replicate_succ, Array.replicate_zero, List.push_toArray, List.append_toArray, List.nil_append, List.cons_append]
  gi_wp2_with (gi_at_call 24; refine (words_in (n - 1) _ _).mono ?_; rintro e w' ⟨rfl, rfl⟩)
  have b0 := Boxed.new w 25 (.slice none 0 0)
  have m0 := World.ownsMap_made (w.alloc (.cells #[.slice none 0 0] 25)) Try.prog 9 (unitElem (H := Unit))
  have b1 := Boxed.new ((w.alloc (.cells #[.slice none 0 0] 25)).alloc (.map #[] 0)) 33 (.map (some (w.heap.size + 1)))
  have b2 := Boxed.new (((w.alloc (.cells #[.slice none 0 0] 25)).alloc (.map #[] 0)).alloc (.cells #[.map (some (w.heap.size + 1))] 33)) 9 (.string s)
  have hB0 : Below w.heap.size w ((((w.alloc (.cells #[.slice none 0 0] 25)).alloc (.map #[] 0)).alloc (.cells #[.map (some (w.heap.size + 1))] 33)).alloc (.cells #[.string s] 9)) :=
    ((((Below.refl _ w).alloc (Nat.le_refl _) _).alloc (by simp) _).alloc (by simp; omega) _).alloc (by simp; omega) _
  replace b0 := ((b0.alloc (.map #[] 0)).alloc (.cells #[.map (some (w.heap.size + 1))] 33)).alloc (.cells #[.string s] 9)
  replace m0 := (m0.alloc (.cells #[.map (some (w.heap.size + 1))] 33)).alloc (.cells #[.string s] 9)
  replace b1 := b1.alloc (.cells #[.string s] 9)
  simp only [World.size_alloc] at b0 m0 b1 b2
  have hsz : ((((w.alloc (.cells #[.slice none 0 0] 25)).alloc (.map #[] 0)).alloc (.cells #[.map (some (w.heap.size + 1))] 33)).alloc (.cells #[.string s] 9)).heap.size = w.heap.size + 4 := by simp
  revert b0 m0 b1 b2 hB0 hsz
  generalize ((((w.alloc (.cells #[.slice none 0 0] 25)).alloc (.map #[] 0)).alloc (.cells #[.map (some (w.heap.size + 1))] 33)).alloc (.cells #[.string s] 9)) = W0
  intro hB0 b0 m0 b1 b2 hsz
  have HSZ := Lib.hid hsz
  clear hsz
  refine wpIn_rangeFunc_ownG rfl h1 (gf := 28) (lb := #[.pointer (some ⟨w.heap.size + 1 + 1 + 1, 0, none⟩)]) rfl trivial (enters_of Try.func28 (by kernel_rfl) rfl)
    (words_stopsQ (n - 1) (by omega) (w.heap.size + 1 + 1 + 1) s hs W0 (by rw [HSZ.out]; omega) b2.cell) kp_t (kp_b (by rw [HSZ.out]; omega)) (Below.refl _ _) (fun _ => rfl)
    (fun pre W => ((∃ v, Boxed W w.heap.size 25 v ∧ W.ownsRow (w.heap.size + 4) 9 1 v (T pre).length ((T pre).map sv) ∧ True) ∧ (Boxed W (w.heap.size + 1 + 1) 33 (.map (some (w.heap.size + 1))) ∧ W.ownsMap Try.prog 9 (unitElem (H := Unit)) (w.heap.size + 1) (T pre).length (setW (T pre)) ∧ Boxed W (w.heap.size + 1 + 1 + 1) 9 (.string s))) ∧ Below w.heap.size w W)
    (fun _ _ _ => False)
    (OwnFrom.and (OwnFrom.and (Own.from (holdsRow_own (w.heap.size + 4) w.heap.size 25 9 1 (fun pre => (T pre).length) (fun pre => (T pre).map sv) (fun _ _ => True)) _)
      (fun s A B row hs hg hr => ⟨hs.1.kept hg (fun e => by have := (hr _ e.symm).1; rw [HSZ.out] at this; omega), hs.2.1.kept hg (fun e => by have := (hr _ e.symm).1; rw [HSZ.out] at this; omega), hs.2.2.kept hg (fun e => by have := (hr _ e.symm).1; rw [HSZ.out] at this; omega)⟩)) (ownFrom_below (Nat.le_refl _) (by rw [HSZ.out]; omega)))
    (fun _ _ _ _ _ hs _ _ => hs)
    ⟨⟨⟨_, b0, World.ownsRow_nil _ _ _ _, trivial⟩, b1, m0, b2⟩, hB0⟩
    (fun x => { tmps := #[.string s, undef, .slice none 0 0, .pointer (some ⟨w.heap.size, 0, none⟩), .pointer (some ⟨w.heap.size + 1 + 1, 0, none⟩), .string (str x.1), undef, undef, .map (some (w.heap.size + 1)), .string s,
      .func (.func 28) #[] #[.pointer (some ⟨w.heap.size + 1 + 1 + 1, 0, none⟩)], .string (str x.1), undef, undef, undef, undef, undef, undef, undef, undef, undef, undef, undef, undef, undef, undef, undef], defers := [] }) ?assign ?body ?done ?stop
  case assign =>
    intro l x W K hK
    gi_wp2
    exact hK
  case body =>
    rintro l pre x W ⟨⟨⟨v, hv, hrow, _⟩, hS, hmap, hN⟩, hB⟩ hlt
    have hTl := T_length pre
    have hcS := hS.cell
    have hcT := hv.cell
    have hcS1 := (hS.alloc (.cells #[] 37)).cell
    have hkey : keyOf Try.prog 9 (.string (str x.1)) = some (.string x.1) := WideMaps.keyOf_string_mk Try.underlying9 (by rw [str_size]; have := x.2; unfold maxLen; omega)
    by_cases hx : x.1 ∈ T pre
    · have hh : Maps.has (setW (T pre)) (.string x.1) = true := by rw [setW_has]; simpa using hx
      gi_wp2_with (gi_at_lookup; refine wpListIn_lookup_own_unit _ rfl _ _ 33 rfl 9 37 (Maps.string_keyed Try.underlying9) Try.underlying33 (Try.zeroValue37 _) (w.heap.size + 1) (T pre).length _ rfl hmap _ _ rfl hkey ?_)
      exact ⟨(KeepsOthers.alloc _ _).from _, (hN.alloc _).cell.trans hN.cell.symm, ⟨⟨v, hv.alloc _, by rw [T_hit hx]; exact hrow.alloc _, trivial⟩, hS.alloc _, by rw [T_hit hx]; exact hmap.alloc _, hN.alloc _⟩, hB.alloc hB.size _⟩
    · have hh : Maps.has (setW (T pre)) (.string x.1) = false := by rw [setW_has]; simpa using hx
      gi_wp2_with (first
        | (gi_at_lookup; refine wpListIn_lookup_own_unit _ rfl _ _ 33 rfl 9 37 (Maps.string_keyed Try.underlying9) Try.underlying33 (Try.zeroValue37 _) (w.heap.size + 1) (T pre).length _ rfl hmap _ _ rfl hkey ?_)
        | (gi_at_mapUpdate; refine wpListIn_mapUpdate_own _ rfl _ _ _ 33 rfl 9 37 (Maps.string_keyed Try.underlying9) Try.underlying33 _ (w.heap.size + 1) (T pre).length _ rfl (hmap.alloc _) (by unfold maxLen; omega) _ _ _ rfl rfl hkey _ [] unitElem_mk ?_; intro w1 hown1 hgrow1
           have hv1 := (hv.alloc (.cells #[] 37)).kept hgrow1 (sne (by omega))
           have hS1 := (hS.alloc (.cells #[] 37)).kept hgrow1 (sne (by omega))
           have hN1 := (hN.alloc (.cells #[] 37)).kept hgrow1 (sne (by omega))
           have hrow1 := (hrow.alloc (.cells #[] 37)).kept hgrow1 (.inr (fun e => by have := (hrow.lt _ e).1; omega))
           have hB1 : Below w.heap.size w w1 := (hB.alloc hB.size _).grown hgrow1 (hB.alloc hB.size _).size (fun k e => by cases e; omega)
           have hc1 := hv1.cell)
        | (gi_at_builtin; refine wpListIn_append_own _ rfl _ _ 25 rfl (w.heap.size + 4) 9 i0 (.string ⟨#[]⟩) 1 16 Try.underlying25 hi hz0 hz1 hz2 rfl (by decide) _ _ _ rfl (hrow1.alloc _) ⟨w1.heap.size, 0, none⟩ 1 1 [.string (str x.1)] rfl rfl (cell_one_new _ _ _) (by simp [Value.oneCell']) (by unfold maxLen; omega) (by omega) (by have := hN1.lt; simp; omega) ?_; intro v' w2 hown' hgrow2 _; obtain ⟨g', cap', rfl⟩ := ownsRow_succ hown'
           obtain ⟨hv2, hv3, _, hk3, hb3⟩ := hv1.appended (by decide) (hrow1.mono (by omega)) hB1.size (Nat.le_refl _) (hown'.mono (by omega)) hgrow2
           have hc2 := hv2.cell
           have hf2 := hv2.frozen))
      have hlo : ∀ k, v.ownBlock = some k → w.heap.size + 4 ≤ k := fun k e => (hrow1.lt k e).1
      have hS3 := ((hS1.alloc (.cells #[.string (str x.1)] 9)).kept hgrow2 (fun e => by have := hlo _ e.symm; omega)).kept (grownBy_setCell' w2 w.heap.size (.slice (some ⟨g', 0, none⟩) ((T pre).length + 1) cap')) (sne (by omega))
      have hN3 := ((hN1.alloc (.cells #[.string (str x.1)] 9)).kept hgrow2 (fun e => by have := hlo _ e.symm; omega)).kept (grownBy_setCell' w2 w.heap.size (.slice (some ⟨g', 0, none⟩) ((T pre).length + 1) cap')) (sne (by omega))
      have hM3 := ((hown1.alloc (.cells #[.string (str x.1)] 9)).kept hgrow2 (fun e => by have := hlo _ e.symm; omega)).kept (grownBy_setCell' w2 w.heap.size (.slice (some ⟨g', 0, none⟩) ((T pre).length + 1) cap')) (sne (by omega))
      have hr3 := hown'.kept (grownBy_setCell' w2 w.heap.size (.slice (some ⟨g', 0, none⟩) ((T pre).length + 1) cap')) (.inr (fun e => by have := (hown'.lt _ e).1; omega))
      refine ⟨(((KeepsOthers.alloc _ _).from _).trans (KeepsFrom.of_grownBy hgrow1 (fun j e => by cases e; rw [HSZ.out]; omega))).trans (hk3.from _), hN3.cell.trans hN.cell.symm, ⟨⟨_, hv3, ?_, trivial⟩, hS3, ?_, hN3⟩, hB1.trans hb3⟩
      · rw [T_miss hx, List.length_append, List.map_append]; exact hr3
      · rw [T_miss hx, List.length_append, setW_snoc]; exact hM3
  case done =>
    rintro D ys W hD hys ⟨⟨⟨v, hv, hrow, _⟩, hS, hmap, hN⟩, hB⟩ hK
    have hc := hv.cell
    rw [HSZ.out] at hD
    gi_wp2
    refine ⟨by simp, .inl ⟨_, _, rfl, run_takeDeferred hK, ?_⟩⟩
    refine ⟨_, results_tmp rfl _ _ _, v, rfl, ?_, hB.trans (belowK_b (w := w) (Nat.le_refl _) W D _ _ (by omega) hK rfl rfl)⟩
    have := ownsRow_putObj (hrow.mono (show w.heap.size ≤ w.heap.size + 4 by omega)) (.deferred none) hK rfl
    unfold T at this
    rw [hys] at this
    exact this
  case stop =>
    rintro D c pre W _ _ h _
    exact h.elim

theorem tokens_own (s : ByteArray) (w : World) (hs : s.size ≤ 100000) :
    Calls Try.prog 15 #[.string s] w fun e w' => ∃ v, e = .returned v ∧ w'.ownsRow w.heap.size 9 1 v (dd (ws s)).length ((dd (ws s)).map sv) ∧ Below w.heap.size w w' :=
  callsIn_wide.1 (tokens_in 3 (Nat.le_refl _) s hs w)
end Go.Proofs.Ytaapfgbeompckaa
