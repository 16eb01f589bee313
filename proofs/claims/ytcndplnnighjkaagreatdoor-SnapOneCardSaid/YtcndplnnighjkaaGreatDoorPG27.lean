/-
  walk.Content: all that a node's order says.
-/
import Derived.Test.YtcndplnnighjkaaGreatDoorPG26
import Derived.Test.YtcndplnnighjkaaGreatDoorPG03
import Derived.Test.YtcndplnnighjkaaGreatDoorPG25
namespace Go.Proofs.YtcndplnnighjkaaGreatDoor
open Go.ChangeShapes Go.WideShapes Go.ChangeAt Go.RowKit
set_option linter.unusedVariables false
set_option linter.unusedSimpArgs false
attribute [local go_sem] Oper.semAt_some
theorem bd_kept {b : Nat} {l : List UInt8} {W W' : World} {row : Option Nat} (h : Bd W b l) (hg : W.grownBy W' row) (hr : ∀ r, row = some r -> ∃ o : Obj, W.heap[r]? = some o /\ o.isCells = false) : Bd W' b l := by
 have blk : ∀ (k : Nat) (cs : Array Value) (t : TypeId) (fz : Nat × Nat), W.heap[k]? = some (.cells cs t fz) -> W'.heap[k]? = some (.cells cs t fz) := fun k cs t fz hk => by
  refine (hg.block k (Array.getElem?_eq_some_iff.1 hk).1 (fun e => ?_)).trans hk
  obtain ⟨o, ho, hc⟩ := hr k e.symm
  rw [hk] at ho
  cases ho
  cases hc
 have key : ∀ p, Lib.BuilderAtF 93 5 b b p (Lib.byteCells l) W -> Lib.BuilderAtF 93 5 b b p (Lib.byteCells l) W' := by
  rintro p ⟨h1, v, h2, h3, h4⟩
  refine ⟨h1, v, blk _ _ _ _ h2, ?_, h4⟩
  refine ⟨h3.1, ?_⟩
  rcases h3.2 with h' | ⟨g, cap, cur, fz, k1, k2, k3, k4⟩
  · exact .inl h'
  · exact .inr ⟨g, cap, cur, fz, k1, k2, blk _ _ _ _ k3, k4⟩
 rcases h with h | h
 · exact .inl (key _ h)
 · exact .inr (key _ h)
theorem bd_block {b : Nat} {l : List UInt8} {W : World} (h : Bd W b l) : ∃ cs, W.heap[b]? = some (.cells cs 93 (0, 0)) := by
 rcases h with ⟨-, v, h2, -⟩ | ⟨-, v, h2, -⟩
 · exact ⟨_, h2⟩
 · exact ⟨_, h2⟩
theorem txt_at {F : List Mn} {k : Nat} (h : k < F.length) : txt F k = if F[k].kind = 2 then F[k].text.data.toList else [] := by
 unfold txt
 rw [List.getElem?_eq_getElem h]
 rfl
theorem Kpo.stp {n0 b : Nat} {l : List UInt8} {W W' : World} (hB : Bd W b l) (hn : n0 <= b) (h : Stp b W W') : Kpo n0 W W' := by
 obtain ⟨cs, hc⟩ := bd_block hB
 have ne : ∀ (k : Nat) (xs : Array Value) (t : TypeId), t ≠ 93 -> W.heap[k]? = some (.cells xs t (0, 0)) -> k ≠ b := fun k xs t ht hk e => by
  subst e
  rw [hc] at hk
  exact ht ((Obj.cells.inj (Option.some.inj hk)).2.1).symm
 exact ⟨h.bel.mono hn, fun k xs hk => h.oth k _ hk (by simp; exact ne k xs _ (by decide) hk) (fun c fz e => by cases e), fun k xs hk => h.oth k _ hk (by simp; exact ne k xs _ (by decide) hk) (fun c fz e => by cases e)⟩
theorem keepsFrom_stp {b B : Nat} {l : List UInt8} {W W' : World} (hB : Bd W b l) (h : Stp b W W') : KeepsFrom B W W' := by
 obtain ⟨cs, hc⟩ := bd_block hB
 refine ⟨h.bel.size, fun k o _ hk ho => h.oth k o hk ?_ (fun c fz e => by subst e; cases ho)⟩
 intro e
 cases e
 rw [hc] at hk
 cases hk
 cases ho
set_option maxRecDepth 100000 in
set_option maxHeartbeats 4000000 in
theorem wcontent_any (A : Option Addr) (F : List Mn) (c i : Nat) (w : World) (hF : FR w A F) (hm : mayB F = true) (hi : i < F.length) :
 Calls Tryz.prog 39 #[.slice A F.length c, .int .i64 i] w fun e w' => e = .returned (.tuple #[.string ⟨(cont F i).toArray⟩, .int .i64 0]) /\ Below w.heap.size w w' := by
 refine (callsIn_wide (n := 5)).1 ?_
 have HF := Lib.hid hF
 have HM := Lib.hid hm
 have HI := Lib.hid hi
 have HN := Lib.hid (fun (V : World) (hb : Below w.heap.size w V) => wnode_any A F c (i : Int) V (hF.below hb) hm)
 rw [show isB F (i : Int) = true by rw [isB, decide_eq_true_eq]; omega] at HN
 have HO := Lib.hid (fun (V : World) => order_any A F.length c (i : Int) V)
 have HT := Lib.hid (fun (V : World) (kf ki : Nat) (hb : Below w.heap.size w V) (h1 : V.heap[kf]? = some (.cells #[.slice A F.length c] 26 (0, 0))) (h2 : V.heap[ki]? = some (.cells #[.int .i64 i] 3 (0, 0))) =>
  order1_tells w V A F c kf ki i hF (may_sz2 hm) hm hi hb h1 h2)
 have HLn := Lib.hid (fun (k : Nat) => Nat.le_trans (flat_take (txt F) (ord F i) k) (cont_len hm hi))
 have hn60 := (may_sz hm).1
 have HK : Hid (∀ x, x ∈ ord F i -> x < F.length) := Lib.hid (fun x hx => ord_lt hm hi hx)
 have HTx : Hid (∀ (x : Nat) (hx : x < F.length), ∃ g off, A = some ⟨g, off, none⟩ /\ g < w.heap.size /\ w.cell? ⟨g, off + x * 6, none⟩ = some (.int .i64 F[x].kind) /\ w.cell? ⟨g, off + x * 6 + 2, none⟩ = some (.string F[x].text)) := Lib.hid (fun x hx => by
  obtain ⟨-, g, off, hA, hg, hn⟩ := hF x F[x] (List.getElem?_eq_getElem hx)
  exact ⟨g, off, hA, hg, hn.c0, hn.c2⟩)
 obtain ⟨nF, hnF⟩ : ∃ nF, F.length = nF := ⟨_, rfl⟩
 have HNF := Lib.hid hnF
 rw [hnF] at HN HO HT hn60 hi ⊢
 clear hF hm hnF
 refine callsIn_of_wp_marks Tryz.func39 rfl trivial ?_ rfl
 simp only [Tryz.ntmps39, List.size_toArray, List.length_cons, List.length_nil, Nat.reduceAdd, Nat.reduceSub, Array.replicate_succ, Array.replicate_zero, List.push_toArray, List.append_toArray, List.nil_append, List.cons_append]
 obtain ⟨W0, hW0⟩ : ∃ W0, W0 = w.alloc (.cells #[.slice A nF c] 26) := ⟨_, rfl⟩
 have HB0 : Hid (Below w.heap.size w W0) := Lib.hid (by rw [hW0]; exact (Below.refl _ _).alloc (Nat.le_refl _) _)
 have HX0 : Hid (W0.heap[w.heap.size]? = some (.cells #[.slice A nF c] 26 (0, 0))) := Lib.hid (by rw [hW0]; exact heap_alloc_new _ _)
 gi_wp2_with fail
 rw [<- hW0]
 clear hW0
 refine ⟨trivial, (callsIn_wide.2 (HN.out W0 HB0.out)).mono ?_⟩
 rintro e w1 ⟨rfl, hb⟩
 have HB1 := Lib.hid (HB0.out.trans (hb.mono HB0.out.size))
 have HX1 : Hid (w1.heap[w.heap.size]? = some (.cells #[.slice A nF c] 26 (0, 0))) := Lib.hid ((hb.block _ (lt_of_block HX0.out)).trans HX0.out)
 clear hb
 obtain ⟨W2, hW2⟩ : ∃ W2, W2 = w1.alloc (.cells #[.pointer none, .slice none 0 0] 93) := ⟨_, rfl⟩
 have hb2 : Below w1.heap.size w1 W2 := by rw [hW2]; exact (Below.refl _ _).alloc (Nat.le_refl _) _
 have HB2 := Lib.hid (HB1.out.trans (hb2.mono HB1.out.size))
 have HX2 : Hid (W2.heap[w.heap.size]? = some (.cells #[.slice A nF c] 26 (0, 0))) := Lib.hid ((hb2.block _ (lt_of_block HX1.out)).trans HX1.out)
 have HBd2 : Hid (Bd W2 w1.heap.size []) := Lib.hid (by rw [hW2]; exact bd_new w1)
 have hs2 : W2.heap.size = w1.heap.size + 1 := by rw [hW2]; simp
 have x0 := block1 HX2.out
 have hbs : w.heap.size <= w1.heap.size := HB1.out.size
 rw [hW2] at x0
 gi_wp2_with fail
 rw [<- hW2]
 clear hW2 hb2 x0
 refine ⟨trivial, (callsIn_wide.2 (HO.out W2)).mono ?_⟩
 rintro e w3 ⟨rfl, h1, h2, hb⟩
 have HB3 := Lib.hid (HB2.out.trans (hb.mono HB2.out.size))
 have HX3 : Hid (w3.heap[w.heap.size]? = some (.cells #[.slice A nF c] 26 (0, 0))) := Lib.hid ((hb.block _ (lt_of_block HX2.out)).trans HX2.out)
 have HBd3 := Lib.hid (bd_below HBd2.out hb)
 have HT3 := Lib.hid (HT.out w3 _ _ HB3.out h1 h2)
 have hs3 : w1.heap.size < w3.heap.size := by have := hb.size; omega
 clear hb h1 h2
 generalize orderF W2.heap.size (W2.heap.size + 1) = lb at *
 gi_wp2_with fail
 refine wpIn_tells rfl (enters_of Tryz.func108 (by kernel_rfl) rfl) HT3.out (fun h k => h.trans k) (Kpo.put HB3.out.size) (Below.refl _ _)
  (fun pre W => (Boxed W w.heap.size 26 (.slice A nF c) /\ Bd W w1.heap.size (pre.flatMap (txt F))) /\ Below w.heap.size w W)
  (fun _ _ _ => False)
  (OwnFrom.and (Own.from (fun s X Y row hs hg hr => ⟨hs.1.kept hg (fun e' => by obtain ⟨o, ho, hc⟩ := hr _ e'.symm; rw [show X.heap[w.heap.size]? = _ from hs.1] at ho; cases ho; cases hc), bd_kept hs.2 hg hr⟩) _) (ownFrom_below (Nat.le_refl _) HB3.out.size))
  (fun _ _ _ _ _ hs _ _ => hs)
  (fun W' hb' => ⟨⟨(hb'.block _ (lt_of_block HX3.out)).trans HX3.out, bd_below HBd3.out hb'⟩, HB3.out.trans (hb'.mono HB3.out.size)⟩)
  (fun x => { tmps := #[.slice A nF c, .int .i64 i, .pointer (some ⟨w.heap.size, 0, none⟩), undef, .string ⟨#[]⟩, .int .i64 0, .pointer (some ⟨w1.heap.size, 0, none⟩), .int .i64 (x : Nat), .slice A nF c, .int .i64 i, .bool true, .bool false, .slice A nF c, .int .i64 i, .func (.func 108) #[] lb, .int .i64 (x : Nat), undef, undef, undef, undef, undef, undef, undef, undef, undef, undef, undef, undef, undef], defers := [] }) ?assign ?body ?done ?stop
 case assign =>
  intro l x W K hK
  gi_wp2
  exact hK
 case body =>
  rintro l pre x W ⟨⟨hv, hbd⟩, hB⟩ hpx
  have HV := Lib.hid hv
  have HBd := Lib.hid hbd
  have HB := Lib.hid hB
  have hxl : x < F.length := HK.out x (hpx.subset (by simp))
  obtain ⟨g, off, rfl, hg, c0, c2⟩ := HTx.out x hxl
  have c0' := (hB.cell (p := ⟨g, off + x * 6, none⟩) hg).trans c0
  have c2' := (hB.cell (p := ⟨g, off + x * 6 + 2, none⟩) hg).trans c2
  have hc := hv.cell
  have k0 : (0 : Int) <= (x : Int) := by omega
  have k1 : (x : Int) < (nF : Int) := by rw [<- HNF.out]; omega
  have hT := txt_at hxl
  have HTl : Hid ((pre.flatMap (txt F)).length + F[x].text.size <= 1000000000 \/ F[x].kind ≠ 2) := Lib.hid (by
   by_cases hk : F[x].kind = 2
   · left
     obtain ⟨t, ht⟩ := hpx
     have h1 := HLn.out (pre.length + 1)
     rw [<- ht, List.take_left' (by simp), List.flatMap_append, List.length_append] at h1
     simp only [List.flatMap_cons, List.flatMap_nil, List.append_nil] at h1
     rw [hT, if_pos hk] at h1
     rw [size_list]
     omega
   · exact .inr hk)
  have HTT : Hid ((pre ++ [x]).flatMap (txt F) = pre.flatMap (txt F) ++ (if F[x].kind = 2 then F[x].text.data.toList else [])) := Lib.hid (by rw [List.flatMap_append, <- hT]; simp)
  clear hv hbd hB hpx hT c0 c2 hg
  generalize F[x] = m at *
  generalize m.kind = kd at *
  generalize m.text = tx at *
  by_cases hk : kd = 2
  · subst hk
    have hl := HTl.out.resolve_right (fun h => h rfl)
    have HW := Lib.hid (ws_any w1.heap.size _ tx W HBd.out (Nat.le_of_lt (lt_of_block (bd_block HBd.out).choose_spec)) (by omega))
    gi_wp2_with fail
    refine ⟨trivial, CallsIn.inRound l ((callsIn_wide.2 HW.out).mono ?_)⟩
    rintro e w5 ⟨rfl, hb5, hB5, hO5⟩
    have HS5 : Hid (Stp w1.heap.size W w5) := Lib.hid ⟨hB5, hO5⟩
    have HK5 := Lib.hid (Kpo.stp HBd.out hbs HS5.out)
    have HB5 : Hid (Bd w5 w1.heap.size ((pre ++ [x]).flatMap (txt F))) := Lib.hid (by rw [HTT.out, if_pos trivial]; exact hb5)
    clear hb5 hB5 hO5
    gi_wp2
    exact ⟨keepsFrom_stp HBd.out HS5.out, HK5.out, ⟨HK5.out.fo _ _ HV.out, HB5.out⟩, HB.out.trans HK5.out.bel⟩
  · have hq : (kd == 2) = false := by simpa using hk
    have HB5 : Hid (Bd W w1.heap.size ((pre ++ [x]).flatMap (txt F))) := Lib.hid (by rw [HTT.out, if_neg hk, List.append_nil]; exact HBd.out)
    gi_wp2_with fail
    exact ⟨KeepsFrom.refl _ _, Kpo.refl _ _, ⟨HV.out, HB5.out⟩, HB.out⟩
 case done =>
  rintro D W hD ⟨⟨hv, hbd⟩, hB⟩ hK
  have HK := Lib.hid hK
  have HB := Lib.hid hB
  have HBd := Lib.hid hbd
  have HS := Lib.hid (str_any w1.heap.size _ W hbd (Nat.le_of_lt (lt_of_block (bd_block hbd).choose_spec)))
  clear hv hbd hB hK
  gi_wp2_with fail
  refine ⟨trivial, (callsIn_wide.2 HS.out).mono ?_⟩
  rintro e w5 ⟨rfl, hB5, hO5⟩
  have hK5 := (keepsFrom_stp (B := 0) HBd.out ⟨hB5, hO5⟩).same D _ (Nat.zero_le _) HK.out rfl
  have HB5 := Lib.hid (HB.out.trans (hB5.mono hbs))
  clear hB5 hO5
  gi_wp2_with fail
  refine ⟨by simp, .inl ⟨_, _, rfl, run_takeDeferred hK5, ?_⟩⟩
  refine ⟨_, ?_, rfl, HB5.out.trans (belowK_b (w := w) (Nat.le_refl _) w5 D _ _ (by have := HB3.out.size; omega) hK5 rfl rfl)⟩
  simp [results, Tryz.f39, go_sem, cont]
 case stop =>
  rintro D c pre W _ _ h _
  exact h.elim
end Go.Proofs.YtcndplnnighjkaaGreatDoor
namespace Go.Proofs.YtcndplnnighjkaaGreatDoor
open Go.ChangeShapes Go.WideShapes Go.ChangeAt Go.RowKit
set_option linter.unusedVariables false
set_option linter.unusedSimpArgs false
attribute [local go_sem] Oper.semAt_some
def byP (F : List Mn) (t : ByteArray) : Int × Int := if t.size = 0 then (0, 3) else match (ord F 0).find? (hasId F t) with | some j => (((j : Nat) : Int), 0) | none => (0, 3)
theorem by_hit {F : List Mn} {t : ByteArray} (ht : ¬ t.size = 0) {pre : List Nat} {x : Nat} (hp : pre ++ [x] <+: ord F 0) (h : ∀ y ∈ pre, hasId F t y = false) (hx : hasId F t x = true) : byP F t = (((x : Nat) : Int), 0) := by
 obtain ⟨r, hr⟩ := hp
 have : (ord F 0).find? (hasId F t) = some x := by
  rw [<- hr, List.append_assoc, List.find?_append, List.find?_eq_none.2 (fun a ha => by simp [h a ha]), Option.none_or]
  simp [hx]
 unfold byP
 rw [if_neg ht, this]
theorem by_miss {F : List Mn} {t : ByteArray} (h : ∀ y ∈ ord F 0, hasId F t y = false) : byP F t = (0, 3) := by
 have : (ord F 0).find? (hasId F t) = none := List.find?_eq_none.2 (fun a ha => by simp [h a ha])
 unfold byP
 rw [this]
 split <;> rfl
theorem boxed_own' {X Y : World} {row : Option Nat} {B : Nat} {t : TypeId} {v : Value} (h : Boxed X B t v) (hg : X.grownBy Y row) (hr : ∀ r, row = some r -> ∃ o : Obj, X.heap[r]? = some o /\ o.isCells = false) : Boxed Y B t v :=
 h.kept hg (fun e' => by obtain ⟨o, ho, hc⟩ := hr _ e'.symm; rw [show X.heap[B]? = _ from h] at ho; cases ho; cases hc)
set_option maxRecDepth 100000 in
set_option maxHeartbeats 4000000 in
theorem wbyid_any (A : Option Addr) (F : List Mn) (c : Nat) (t : ByteArray) (w : World) (hF : FR w A F) (hm : mayB F = true) :
 Calls Tryz.prog 43 #[.slice A F.length c, .string t] w fun e w' => e = .returned (.tuple #[.int .i64 (byP F t).1, .int .i64 (byP F t).2]) /\ Below w.heap.size w w' := by
 refine (callsIn_wide (n := 5)).1 ?_
 have hi : 0 < F.length := (mayB_parts hm).1
 have HF := Lib.hid hF
 have HN := Lib.hid (fun (V : World) (hb : Below w.heap.size w V) => wnode_any A F c 0 V (hF.below hb) hm)
 rw [show isB F 0 = true by rw [isB, decide_eq_true_eq]; omega] at HN
 have HO := Lib.hid (fun (V : World) => order_any A F.length c 0 V)
 have HT := Lib.hid (fun (V : World) (kf ki : Nat) (hb : Below w.heap.size w V) (h1 : V.heap[kf]? = some (.cells #[.slice A F.length c] 26 (0, 0))) (h2 : V.heap[ki]? = some (.cells #[.int .i64 0] 3 (0, 0))) =>
  order1_tells w V A F c kf ki 0 hF (may_sz2 hm) hm hi hb h1 h2)
 have hn60 := (may_sz hm).1
 have HK : Hid (∀ x, x ∈ ord F 0 -> x < F.length) := Lib.hid (fun x hx => ord_lt hm hi hx)
 have HTx : Hid (∀ (x : Nat) (hx : x < F.length), ∃ g off, A = some ⟨g, off, none⟩ /\ g < w.heap.size /\ NodeAt w g (off + x * 6) F[x]) := Lib.hid (fun x hx => by
  obtain ⟨-, g, off, hA, hg, hn⟩ := hF x F[x] (List.getElem?_eq_getElem hx)
  exact ⟨g, off, hA, hg, hn⟩)
 have HAl : Hid (∀ m ∈ F, m.attrs.length <= 8) := Lib.hid (may_sz hm).2
 obtain ⟨nF, hnF⟩ : ∃ nF, F.length = nF := ⟨_, rfl⟩
 have HNF := Lib.hid hnF
 have HY := Lib.hid (fun (ht : ¬ t.size = 0) (pre : List Nat) (x : Nat) (hp : pre ++ [x] <+: ord F 0) (h : ∀ y ∈ pre, hasId F t y = false) (hx : hasId F t x = true) => by_hit (F := F) ht hp h hx)
 have HZ := Lib.hid (fun (h : ∀ y ∈ ord F 0, hasId F t y = false) => by_miss (F := F) h)
 have HE : Hid (t.size = 0 -> byP F t = (0, 3)) := Lib.hid (fun h => by unfold byP; rw [if_pos h])
 rw [hnF] at HN HO HT hn60 hi ⊢
 clear hF hm hnF
 generalize byP F t = R at *
 refine callsIn_of_wp_marks Tryz.func43 rfl trivial ?_ rfl
 simp only [Tryz.ntmps43, List.size_toArray, List.length_cons, List.length_nil, Nat.reduceAdd, Nat.reduceSub, Array.replicate_succ, Array.replicate_zero, List.push_toArray, List.append_toArray, List.nil_append, List.cons_append]
 obtain ⟨W0, hW0⟩ : ∃ W0, W0 = (((w.alloc (.cells #[.slice A nF c] 26)).alloc (.cells #[.string t] 9)).alloc (.cells #[.int .i64 0] 3)).alloc (.cells #[.int .i64 0] 29) := ⟨_, rfl⟩
 have HB0 : Hid (Below w.heap.size w W0) := Lib.hid (by rw [hW0]; exact ((((Below.refl _ _).alloc (Nat.le_refl _) _).alloc (by simp) _).alloc (by simp; omega) _).alloc (by simp; omega) _)
 have HX : Hid (Boxed W0 w.heap.size 26 (.slice A nF c) /\ Boxed W0 (w.heap.size + 1) 9 (.string t) /\ Boxed W0 (w.heap.size + 1 + 1) 3 (.int .i64 0) /\ Boxed W0 (w.heap.size + 1 + 1 + 1) 29 (.int .i64 0)) := Lib.hid (by
  rw [hW0]
  have b0 := Boxed.new w 26 (.slice A nF c)
  have b1 := Boxed.new (w.alloc (.cells #[.slice A nF c] 26)) 9 (.string t)
  have b2 := Boxed.new ((w.alloc (.cells #[.slice A nF c] 26)).alloc (.cells #[.string t] 9)) 3 (.int .i64 0)
  have b3 := Boxed.new (((w.alloc (.cells #[.slice A nF c] 26)).alloc (.cells #[.string t] 9)).alloc (.cells #[.int .i64 0] 3)) 29 (.int .i64 0)
  simp only [World.size_alloc] at b1 b2 b3
  exact ⟨((b0.alloc _).alloc _).alloc _, (b1.alloc _).alloc _, b2.alloc _, b3⟩)
 by_cases ht : t.size = 0
 · have he : t.toList.isEmpty = true := by rw [Lib.toList_data, List.isEmpty_iff]; exact List.eq_nil_of_length_eq_zero (by rw [<- Lib.size_eq]; exact ht)
   have HR := Lib.hid (HE.out ht)
   clear ht
   gi_wp2_with fail
   refine ⟨trivial, ?_⟩
   rw [<- hW0]
   clear hW0
   have c2 := HX.out.2.2.1.cell
   have f2 := HX.out.2.2.1.frozen
   have c3 := HX.out.2.2.2.cell
   have f3 := HX.out.2.2.2.frozen
   gi_wp2_with fail
   have hc2 := ((HX.out.2.2.1.set (.int .i64 0)).other (B' := w.heap.size + 1 + 1 + 1) (by omega) (.int .i64 3)).cell
   have hc3 := ((HX.out.2.2.2.other (B' := w.heap.size + 1 + 1) (by omega) (.int .i64 0)).set (.int .i64 3)).cell
   refine ⟨.tuple #[.int .i64 0, .int .i64 3], ?_, by rw [HR.out], (HB0.out.setCell (p := ⟨w.heap.size + 1 + 1, 0, none⟩) (by simp; omega) _).setCell (p := ⟨w.heap.size + 1 + 1 + 1, 0, none⟩) (by simp; omega) _⟩
   simp [results, Tryz.f43, go_sem, hc2, hc3]
 · have he : t.toList.isEmpty = false := by
    rw [Lib.toList_data]
    cases h : t.data.toList with
    | nil => exact absurd (by rw [Lib.size_eq, h]; rfl) ht
    | cons a l => rfl
   have HY2 := Lib.hid (HY.out ht)
   clear ht HY
   gi_wp2_with fail
   rw [<- hW0]
   clear hW0
   refine ⟨trivial, (callsIn_wide.2 (HN.out W0 HB0.out)).mono ?_⟩
   rintro e w1 ⟨rfl, hb⟩
   have HB1 := Lib.hid (HB0.out.trans (hb.mono HB0.out.size))
   have HX1 : Hid (Boxed w1 w.heap.size 26 (.slice A nF c) /\ Boxed w1 (w.heap.size + 1) 9 (.string t) /\ Boxed w1 (w.heap.size + 1 + 1) 3 (.int .i64 0) /\ Boxed w1 (w.heap.size + 1 + 1 + 1) 29 (.int .i64 0)) := Lib.hid ⟨(hb.block _ HX.out.1.lt).trans HX.out.1, (hb.block _ HX.out.2.1.lt).trans HX.out.2.1, (hb.block _ HX.out.2.2.1.lt).trans HX.out.2.2.1, (hb.block _ HX.out.2.2.2.lt).trans HX.out.2.2.2⟩
   clear hb HX
   have x0 := HX1.out.1.cell
   gi_wp2_with fail
   refine ⟨trivial, (callsIn_wide.2 (HO.out w1)).mono ?_⟩
   rintro e w3 ⟨rfl, h1, h2, hb⟩
   have HB3 := Lib.hid (HB1.out.trans (hb.mono HB1.out.size))
   have HX3 : Hid (Boxed w3 w.heap.size 26 (.slice A nF c) /\ Boxed w3 (w.heap.size + 1) 9 (.string t) /\ Boxed w3 (w.heap.size + 1 + 1) 3 (.int .i64 0) /\ Boxed w3 (w.heap.size + 1 + 1 + 1) 29 (.int .i64 0)) := Lib.hid ⟨(hb.block _ HX1.out.1.lt).trans HX1.out.1, (hb.block _ HX1.out.2.1.lt).trans HX1.out.2.1, (hb.block _ HX1.out.2.2.1.lt).trans HX1.out.2.2.1, (hb.block _ HX1.out.2.2.2.lt).trans HX1.out.2.2.2⟩
   have HT3 := Lib.hid (HT.out w3 _ _ HB3.out h1 h2)
   clear hb h1 h2 HX1 x0
   generalize orderF w1.heap.size (w1.heap.size + 1) = lb at *
   gi_wp2_with fail
   refine wpIn_tells rfl (enters_of Tryz.func108 (by kernel_rfl) rfl) HT3.out (fun h k => h.trans k) (Kpo.put HB3.out.size) (Below.refl _ _)
    (fun pre W => ((Boxed W w.heap.size 26 (.slice A nF c) /\ Boxed W (w.heap.size + 1) 9 (.string t) /\ Boxed W (w.heap.size + 1 + 1) 3 (.int .i64 0) /\ Boxed W (w.heap.size + 1 + 1 + 1) 29 (.int .i64 0)) /\ ∀ y ∈ pre, hasId F t y = false) /\ Below w.heap.size w W)
    (fun c pre W => ((Boxed W (w.heap.size + 1 + 1) 3 (.int .i64 R.1) /\ Boxed W (w.heap.size + 1 + 1 + 1) 29 (.int .i64 R.2)) /\ c = .ret) /\ Below w.heap.size w W)
    (OwnFrom.and (Own.from (fun s X Y row hs hg hr => ⟨⟨boxed_own' hs.1.1 hg hr, boxed_own' hs.1.2.1 hg hr, boxed_own' hs.1.2.2.1 hg hr, boxed_own' hs.1.2.2.2 hg hr⟩, hs.2⟩) _) (ownFrom_below (Nat.le_refl _) HB3.out.size))
    (fun c => OwnFrom.and (Own.from (fun s X Y row hs hg hr => ⟨⟨boxed_own' hs.1.1 hg hr, boxed_own' hs.1.2 hg hr⟩, hs.2⟩) _) (ownFrom_below (Nat.le_refl _) HB3.out.size))
    (fun W' hb' => ⟨⟨⟨(hb'.block _ HX3.out.1.lt).trans HX3.out.1, (hb'.block _ HX3.out.2.1.lt).trans HX3.out.2.1, (hb'.block _ HX3.out.2.2.1.lt).trans HX3.out.2.2.1, (hb'.block _ HX3.out.2.2.2.lt).trans HX3.out.2.2.2⟩, by simp⟩, HB3.out.trans (hb'.mono HB3.out.size)⟩)
    (fun x => { tmps := #[.slice A nF c, .string t, .pointer (some ⟨w.heap.size, 0, none⟩), .pointer (some ⟨w.heap.size + 1, 0, none⟩), .pointer (some ⟨w.heap.size + 1 + 1, 0, none⟩), .pointer (some ⟨w.heap.size + 1 + 1 + 1, 0, none⟩), .int .i64 (x : Nat), undef, undef, .string t, .bool false, .bool false, .slice A nF c, .bool true, .bool false, .bool false, .slice A nF c, .func (.func 108) #[] lb, .int .i64 (x : Nat), undef, undef, undef, undef, undef, undef, undef, undef, undef, undef, undef, undef, undef, undef, undef], defers := [] }) ?assign ?body ?done ?stop
   case assign =>
    intro l x W K hK
    gi_wp2
    exact hK
   case body =>
    rintro l pre x W ⟨⟨⟨b0, b1, b2, b3⟩, hp⟩, hB⟩ hpx
    have HX := Lib.hid (And.intro b0 (And.intro b1 (And.intro b2 b3)))
    have HB := Lib.hid hB
    have hxl : x < F.length := HK.out x (hpx.subset (by simp))
    obtain ⟨g, off, rfl, hg, hnd⟩ := HTx.out x hxl
    have hnd' := hnd.below hg hB
    have x0 := hnd'.c0
    have x1 := hnd'.c1
    have x2 := hnd'.c2
    have x3 := hnd'.c3
    have x4 := hnd'.c4
    have x5 := hnd'.c5
    have xt := b1.cell
    have xf := b0.cell
    have k0 : (0 : Int) <= (x : Int) := by omega
    have k1 : (x : Int) < (nF : Int) := by rw [<- HNF.out]; omega
    have HV := Lib.hid (value_any F[x] idS W hnd'.ar (by have := HAl.out F[x] (List.getElem_mem _); omega))
    unfold nval at HV
    have HH : Hid (hasId F t x = decide (valP F[x].attrs idS = some t)) := Lib.hid (by unfold hasId; rw [List.getElem?_eq_getElem hxl]; rfl)
    have HYx := Lib.hid (HY2.out pre x hpx hp)
    have HP : Hid (hasId F t x = false -> ∀ y ∈ pre ++ [x], hasId F t y = false) := Lib.hid (fun h y hy => (List.mem_append.1 hy).elim (hp y) (fun e => by rw [List.mem_singleton] at e; rw [e]; exact h))
    clear b0 b1 b2 b3 hp hB hpx hnd hnd' hg
    generalize F[x] = m at *
    unfold valR at HV
    generalize valP m.attrs idS = vp at *
    generalize hasId F t x = hh at *
    gi_wp2_with fail
    refine ⟨trivial, CallsIn.inRound l ((callsIn_wide.2 HV.out).mono ?_)⟩
    rintro e w5 ⟨rfl, hb5⟩
    have HX5 : Hid (Boxed w5 w.heap.size 26 (.slice (some ⟨g, off, none⟩) nF c) /\ Boxed w5 (w.heap.size + 1) 9 (.string t) /\ Boxed w5 (w.heap.size + 1 + 1) 3 (.int .i64 0) /\ Boxed w5 (w.heap.size + 1 + 1 + 1) 29 (.int .i64 0)) := Lib.hid ⟨(hb5.block _ HX.out.1.lt).trans HX.out.1, (hb5.block _ HX.out.2.1.lt).trans HX.out.2.1, (hb5.block _ HX.out.2.2.1.lt).trans HX.out.2.2.1, (hb5.block _ HX.out.2.2.2.lt).trans HX.out.2.2.2⟩
    have HB5 := Lib.hid (HB.out.trans (hb5.mono HB.out.size))
    have HK5 : Hid (KeepsFrom w3.heap.size W w5) := Lib.hid ⟨hb5.size, fun k o _ hk _ => (hb5.block k (Array.getElem?_eq_some_iff.1 hk).1).trans hk⟩
    have HKp5 := Lib.hid (Kpo.below hb5 HB.out.size)
    clear hb5 x0 x1 x2 x3 x4 x5 xt xf
    have xt := HX5.out.2.1.cell
    have f2 := HX5.out.2.2.1.frozen
    have f3 := HX5.out.2.2.2.frozen
    have c2 := HX5.out.2.2.1.cell
    have c3 := HX5.out.2.2.2.cell
    cases vp with
    | none =>
      have HP2 := Lib.hid (HP.out (by rw [HH.out]; rfl))
      simp only [Option.getD_none, Option.isSome_none]
      gi_wp2_with fail
      exact ⟨HK5.out, HKp5.out, ⟨HX5.out, HP2.out⟩, HB5.out⟩
    | some v =>
      simp only [Option.getD_some, Option.isSome_some]
      by_cases hv : v = t
      · have hq : (v.toList == t.toList) = true := by simpa using congrArg ByteArray.toList hv
        have HR := Lib.hid (HYx.out (by rw [HH.out, hv]; simp))
        clear hv
        gi_wp2_with fail
        refine ⟨HK5.out.trans (((KeepsOthers.setCell _ _ _).trans (KeepsOthers.setCell _ _ _)).from _), ⟨⟨?_, ?_⟩, rfl⟩, (HB5.out.setCell (p := ⟨w.heap.size + 1 + 1, 0, none⟩) (by simp; omega) _).setCell (p := ⟨w.heap.size + 1 + 1 + 1, 0, none⟩) (by simp; omega) _⟩
        · rw [HR.out]
          exact (HX5.out.2.2.1.set _).other (by omega) _
        · rw [HR.out]
          exact (HX5.out.2.2.2.other (by omega) _).set _
      · have hq : (v.toList == t.toList) = false := by simpa [toList_inj] using hv
        have HP2 := Lib.hid (HP.out (by rw [HH.out, decide_eq_false_iff_not]; intro e; exact hv (Option.some.inj e)))
        clear hv
        gi_wp2_with fail
        exact ⟨HK5.out, HKp5.out, ⟨HX5.out, HP2.out⟩, HB5.out⟩
   case done =>
    rintro D W hD ⟨⟨⟨b0, b1, b2, b3⟩, hp⟩, hB⟩ hK
    have HR := Lib.hid (HZ.out hp)
    have HX := Lib.hid (And.intro b2 b3)
    have c2 := b2.cell
    have f2 := b2.frozen
    have c3 := b3.cell
    have f3 := b3.frozen
    clear b0 b1 b2 b3 hp
    gi_wp2_with fail
    have hK' := (((KeepsOthers.setCell W ⟨w.heap.size + 1 + 1, 0, none⟩ (.int .i64 0)).trans (KeepsOthers.setCell _ ⟨w.heap.size + 1 + 1 + 1, 0, none⟩ (.int .i64 3)))).same D _ hK rfl
    have b2' := (HX.out.1.set (.int .i64 0)).other (B' := w.heap.size + 1 + 1 + 1) (by omega) (.int .i64 3)
    have b3' := (HX.out.2.other (B' := w.heap.size + 1 + 1) (by omega) (.int .i64 0)).set (.int .i64 3)
    refine ⟨by simp, .inl ⟨_, _, rfl, run_takeDeferred hK', ?_⟩⟩
    have hc2 := cell_kept b2'.cell (grownBy_putObj' _ D (.deferred none)) (fun r e => by cases e; exact ⟨_, hK', rfl⟩)
    have hc3 := cell_kept b3'.cell (grownBy_putObj' _ D (.deferred none)) (fun r e => by cases e; exact ⟨_, hK', rfl⟩)
    refine ⟨.tuple #[.int .i64 0, .int .i64 3], ?_, by rw [HR.out], ((hB.setCell (p := ⟨w.heap.size + 1 + 1, 0, none⟩) (by simp; omega) _).setCell (p := ⟨w.heap.size + 1 + 1 + 1, 0, none⟩) (by simp; omega) _).trans (belowK_b (w := w) (Nat.le_refl _) _ D _ _ (by have := HB3.out.size; omega) hK' rfl rfl)⟩
    simp [results, Tryz.f43, go_sem, hc2, hc3]
   case stop =>
    rintro D c pre W hD _ ⟨⟨⟨b2, b3⟩, rfl⟩, hB⟩ hK
    gi_wp2_with fail
    refine ⟨by simp, .inl ⟨_, _, rfl, run_takeDeferred hK, ?_⟩⟩
    have hc2 := cell_kept b2.cell (grownBy_putObj' _ D (.deferred none)) (fun r e => by cases e; exact ⟨_, hK, rfl⟩)
    have hc3 := cell_kept b3.cell (grownBy_putObj' _ D (.deferred none)) (fun r e => by cases e; exact ⟨_, hK, rfl⟩)
    refine ⟨.tuple #[.int .i64 R.1, .int .i64 R.2], ?_, rfl, hB.trans (belowK_b (w := w) (Nat.le_refl _) W D _ _ (by have := HB3.out.size; omega) hK rfl rfl)⟩
    simp [results, Tryz.f43, go_sem, hc2, hc3]
end Go.Proofs.YtcndplnnighjkaaGreatDoor
