/-
  Ways up and down in a plain forest.
-/
import Derived.Test.YtcndplnnighjkaaGreatDoorPG03
import Derived.Test.YtcndplnnighjkaaGreatDoorPG02
import Derived.Test.YtcndplnnighjkaaGreatDoorPG01
import Derived.Deep.Slices
import Derived.ChangeSame
import Derived.WalkSmall
import Derived.Laws.Rows
import Derived.Deep.RegionHeld3
import Derived.BigRegion
import Derived.Deep.RegionLaw
namespace Go.Proofs.YtcndplnnighjkaaGreatDoor
open Go.ChangeShapes Go.WideShapes Go.ChangeAt Go.RowKit
set_option linter.unusedVariables false
set_option linter.unusedSimpArgs false
def dep (F : List Mn) : Nat -> Int -> Nat
 | 0, _ => 0
 | n + 1, x => if x = -1 then 0 else dep F n (par F x.toNat) + 1
theorem dep_le (F : List Mn) : ∀ (n : Nat) (x : Int), dep F n x <= n := by
 intro n
 induction n with
 | zero => intro x; simp [dep]
 | succ n ih =>
   intro x
   rw [dep]
   split
   · omega
   · have := ih (par F x.toNat)
     omega
theorem dep_more (F : List Mn) : ∀ (n : Nat) (x : Int), endsB F n x = true -> dep F (n + 1) x = dep F n x := by
 intro n
 induction n with
 | zero =>
   intro x h
   simp [endsB] at h
   simp [dep, h]
 | succ n ih =>
   intro x h
   rw [dep]
   by_cases hx : x = -1
   · simp [dep, hx]
   · rw [if_neg hx]
     have h' : endsB F n (par F x.toNat) = true := by
      rw [endsB, Bool.or_eq_true, decide_eq_true_eq] at h
      exact h.resolve_left hx
     rw [ih _ h']
     conv => rhs; rw [dep, if_neg hx]
theorem dep_kid {F : List Mn} (h : mayB F = true) {i : Nat} (hi : i < F.length) {k : Int} (hk : k ∈ kidsOf F i) :
 ∃ j : Nat, k = j /\ j < F.length /\ par F j = i /\ dep F F.length j = dep F F.length i + 1 := by
 obtain ⟨p1, p2, p3, p4, p5⟩ := mayB_parts h
 obtain ⟨h1, h2⟩ := kids_of p3 hi hk
 rw [isB, decide_eq_true_eq] at h1
 obtain ⟨j, rfl⟩ := Int.eq_ofNat_of_zero_le h1.1
 rw [Int.toNat_natCast] at h2
 have hj : j < F.length := by omega
 refine ⟨j, rfl, hj, h2, ?_⟩
 rw [<- dep_more F _ _ (p5 j hj), dep, if_neg (by omega), Int.toNat_natCast, h2]
theorem dep_pos {F : List Mn} {i : Nat} (h0 : 0 < F.length) : 1 <= dep F F.length i := by
 obtain ⟨n, hn⟩ : ∃ n, F.length = n + 1 := ⟨F.length - 1, by omega⟩
 rw [hn, dep, if_neg (by omega)]
 omega
theorem dp_of {F : List Mn} (h : mayB F = true) : ∀ (f i : Nat), i < F.length -> F.length + 1 <= f + dep F F.length i -> Dp F f i := by
 intro f
 induction f with
 | zero =>
   intro i hi hd
   have := dep_le F F.length i
   omega
 | succ f ih =>
   intro i hi hd
   refine ⟨hi, fun k hk => ?_⟩
   obtain ⟨j, rfl, hj, -, hdj⟩ := dep_kid h hi hk
   refine ⟨by omega, ?_⟩
   rw [Int.toNat_natCast]
   exact ih j hj (by omega)
theorem dp_all {F : List Mn} (h : mayB F = true) {i : Nat} (hi : i < F.length) : Dp F F.length i := by
 have := dep_pos (F := F) (i := i) (by omega)
 exact dp_of h _ i hi (by omega)
theorem flatMap_congr' {α β : Type} {l : List α} {f g : α -> List β} (h : ∀ x ∈ l, f x = g x) : l.flatMap f = l.flatMap g := by
 induction l with
 | nil => rfl
 | cons a l ih => rw [List.flatMap_cons, List.flatMap_cons, h a (by simp), ih (fun x hx => h x (by simp [hx]))]
def vis (F : List Mn) : Nat -> Nat -> List Nat
 | 0, _ => []
 | f + 1, i => i :: (kidsOf F i).flatMap (fun k => vis F f k.toNat)
def anc (F : List Mn) : Nat -> Int -> Int
 | 0, x => x
 | n + 1, x => par F (anc F n x).toNat
theorem vis_up {F : List Mn} (h : mayB F = true) : ∀ (f i : Nat), i < F.length -> ∀ j ∈ vis F f i, j < F.length /\ ∃ n, anc F n j = i /\ dep F F.length j = dep F F.length i + n := by
 intro f
 induction f with
 | zero => intro i hi j hj; simp [vis] at hj
 | succ f ih =>
   intro i hi j hj
   rw [vis, List.mem_cons, List.mem_flatMap] at hj
   rcases hj with rfl | ⟨k, hk, hj⟩
   · exact ⟨hi, 0, rfl, rfl⟩
   · obtain ⟨k', rfl, hk', hp, hd⟩ := dep_kid h hi hk
     rw [Int.toNat_natCast] at hj
     obtain ⟨h1, n, h2, h3⟩ := ih k' hk' j hj
     exact ⟨h1, n + 1, by rw [anc, h2, Int.toNat_natCast, hp], by omega⟩
theorem nodup_flat {α β : Type} {f : α -> List β} : ∀ (l : List α), l.Nodup -> (∀ x ∈ l, (f x).Nodup) -> (∀ x ∈ l, ∀ y ∈ l, ∀ z, z ∈ f x -> z ∈ f y -> x = y) -> (l.flatMap f).Nodup := by
 intro l
 induction l with
 | nil => intro _ _ _; simp
 | cons a l ih =>
   intro h1 h2 h3
   rw [List.nodup_cons] at h1
   rw [List.flatMap_cons, List.nodup_append]
   refine ⟨h2 a (by simp), ih h1.2 (fun x hx => h2 x (by simp [hx])) (fun x hx y hy => h3 x (by simp [hx]) y (by simp [hy])), ?_⟩
   intro x hx y hy e
   subst e
   rw [List.mem_flatMap] at hy
   obtain ⟨b, hb, hy⟩ := hy
   have := h3 a (by simp) b (by simp [hb]) x hx hy
   subst this
   exact h1.1 hb
theorem nodup_count {l : List Int} (h : ∀ x ∈ l, l.count x = 1) : l.Nodup := List.nodup_iff_count.2 (fun a => by
 by_cases ha : a ∈ l
 · rw [h a ha]; exact Nat.le_refl _
 · rw [List.count_eq_zero_of_not_mem ha]; omega)
theorem kids_nodup {F : List Mn} (h : mayB F = true) {i : Nat} (hi : i < F.length) : (kidsOf F i).Nodup := nodup_count (fun x hx => by
 obtain ⟨p1, p2, p3, p4, p5⟩ := mayB_parts h
 obtain ⟨j, rfl, hj, hp, -⟩ := dep_kid h hi hx
 have := link_of p3 hj
 rw [linkB, Bool.and_eq_true, Bool.or_eq_true, decide_eq_true_eq, hp] at this
 rcases this.1 with h' | h'
 · omega
 · simp only [Bool.and_eq_true, decide_eq_true_eq, Int.toNat_natCast] at h'
   exact h'.2.2)
theorem vis_nodup {F : List Mn} (h : mayB F = true) : ∀ (f i : Nat), i < F.length -> (vis F f i).Nodup := by
 intro f
 induction f with
 | zero => intro i hi; simp [vis]
 | succ f ih =>
   intro i hi
   rw [vis, List.nodup_cons]
   refine ⟨fun hm => ?_, nodup_flat _ (kids_nodup h hi) (fun k hk => ?_) (fun k hk k' hk' z hz hz' => ?_)⟩
   · rw [List.mem_flatMap] at hm
     obtain ⟨k, hk, hm⟩ := hm
     obtain ⟨k', rfl, hk', hp, hd⟩ := dep_kid h hi hk
     rw [Int.toNat_natCast] at hm
     obtain ⟨-, n, -, h3⟩ := vis_up h f k' hk' i hm
     omega
   · obtain ⟨k', rfl, hk', hp, hd⟩ := dep_kid h hi hk
     rw [Int.toNat_natCast]
     exact ih k' hk'
   · obtain ⟨a, rfl, ha, -, hda⟩ := dep_kid h hi hk
     obtain ⟨b, rfl, hb, -, hdb⟩ := dep_kid h hi hk'
     rw [Int.toNat_natCast] at hz hz'
     obtain ⟨-, n, h1, h2⟩ := vis_up h f a ha z hz
     obtain ⟨-, m, h3, h4⟩ := vis_up h f b hb z hz'
     obtain rfl : n = m := by omega
     rw [<- h1, h3]
theorem nodup_lt : ∀ (n : Nat) (l : List Nat), l.Nodup -> (∀ x ∈ l, x < n) -> l.length <= n := by
 intro n
 induction n with
 | zero =>
   intro l _ h
   cases l with
   | nil => simp
   | cons a l => exact absurd (h a (by simp)) (by omega)
 | succ n ih =>
   intro l h1 h2
   have := ih (l.erase n) (h1.erase n) (fun x hx => by
    rw [h1.mem_erase_iff] at hx
    have := h2 x hx.2
    have := hx.1
    omega)
   by_cases hn : n ∈ l
   · rw [List.length_erase_of_mem hn] at this
     omega
   · rw [List.erase_of_not_mem hn] at this
     omega
theorem vis_len {F : List Mn} (h : mayB F = true) (f : Nat) {i : Nat} (hi : i < F.length) : (vis F f i).length <= F.length :=
 nodup_lt _ _ (vis_nodup h f i hi) (fun x hx => (vis_up h f i hi x hx).1)
theorem flat_len {α β γ : Type} {C : Nat} {f : α -> List β} {g : α -> List γ} : ∀ (l : List α), (∀ x ∈ l, (f x).length <= C * (g x).length) -> (l.flatMap f).length <= C * (l.flatMap g).length := by
 intro l
 induction l with
 | nil => intro _; simp
 | cons a l ih =>
   intro h
   rw [List.flatMap_cons, List.flatMap_cons, List.length_append, List.length_append, Nat.mul_add]
   exact Nat.add_le_add (h a (by simp)) (ih (fun x hx => h x (by simp [hx])))
def One (C : Nat) (m : Mn) : Prop := (openL m).length + m.name.size + 3 <= C /\ (esc m.text.data.toList).length + 4 <= C
theorem pr_len {F : List Mn} {C : Nat} (hC : ∀ m ∈ F, One C m) : ∀ (f i : Nat), (pr F f i).length <= C * (vis F f i).length := by
 intro f
 induction f with
 | zero => intro i; simp [pr]
 | succ f ih =>
   intro i
   rw [pr, vis, List.length_cons, Nat.mul_add, Nat.mul_one]
   by_cases hi : i < F.length
   · rw [List.getElem?_eq_getElem hi, kidsOf_at hi]
     have hk := flat_len (C := C) (f := fun k : Int => pr F f k.toNat) (g := fun k : Int => vis F f k.toNat) F[i].kids (fun k _ => ih k.toNat)
     obtain ⟨c1, c2⟩ := hC F[i] (List.getElem_mem _)
     have hs : F[i].name.data.toList.length = F[i].name.size := (size_list _).symm
     dsimp only
     generalize hvl : (F[i].kids.flatMap fun k => vis F f k.toNat).length = V at *
     generalize C * V = CV at *
     split
     · simp only [List.length_append, List.length_cons, List.length_nil]; omega
     · split
       · omega
       · split
         · simp only [List.length_append, List.length_cons, List.length_nil] at *; omega
         · split
           · omega
           · simp
   · rw [List.getElem?_eq_none (by omega)]
     simp
end Go.Proofs.YtcndplnnighjkaaGreatDoor
namespace Go.Proofs.YtcndplnnighjkaaGreatDoor
open Go.ChangeShapes Go.WideShapes Go.ChangeAt Go.RowKit
set_option linter.unusedVariables false
set_option linter.unusedSimpArgs false
theorem flat_le {α β : Type} {C : Nat} {f : α -> List β} : ∀ (l : List α), (∀ x ∈ l, (f x).length <= C) -> (l.flatMap f).length <= C * l.length := by
 intro l
 induction l with
 | nil => intro _; simp
 | cons a l ih =>
   intro h
   rw [List.flatMap_cons, List.length_append, List.length_cons, Nat.mul_add, Nat.mul_one]
   have h1 := h a (by simp)
   have h2 := ih (fun x hx => h x (by simp [hx]))
   omega
theorem par_node {F : List Mn} (h : mayB F = true) {i : Nat} (hi : i < F.length) (hp : par F i ≠ -1) : ∃ j : Nat, par F i = j /\ j < F.length /\ dep F F.length i = dep F F.length j + 1 := by
 obtain ⟨p1, p2, p3, p4, p5⟩ := mayB_parts h
 have := (up_of p3 i hi).resolve_left hp
 rw [isB, decide_eq_true_eq] at this
 obtain ⟨j, hj⟩ := Int.eq_ofNat_of_zero_le this.1
 refine ⟨j, hj, by omega, ?_⟩
 rw [<- dep_more F _ _ (p5 i hi), dep, if_neg (by omega), Int.toNat_natCast, hj]
end Go.Proofs.YtcndplnnighjkaaGreatDoor
namespace Go.Proofs.YtcndplnnighjkaaGreatDoor
open Go.ChangeShapes Go.WideShapes Go.ChangeAt Go.RowKit
set_option linter.unusedVariables false
set_option linter.unusedSimpArgs false
instance : Inhabited Mn := ⟨⟨0, ⟨#[]⟩, ⟨#[]⟩, [], 0, [], none, 0, none, 0⟩⟩
theorem add_plain (g i j : Nat) : (⟨g, i, none⟩ : Addr).add j = ⟨g, i + j, none⟩ := by unfold Addr.add; split <;> simp_all
theorem i64_wf {n : Int} (h : (Lit.int .i64 n).wf = true) : I64 n := by
 have h : IntKind.i64.min <= n /\ n <= IntKind.i64.max := by simpa [Lit.wf] using h
 exact h
theorem struct_field {H : Type} {enc : TypeId × Value -> H} {P : Program} {w : World} {base : Nat} {sp : Nat -> Bool} {held : Bool} {fuel : Nat} {t : TypeId} {cs : List Value} {x : DataW H × List MemPlace} {fs : Array Field}
 (ht : P.underlying t = some (.struct fs)) (h : DataW.trod enc P w base sp held fuel t cs = some x) (i : Nat) {ft : TypeId} {off : Nat} (hi : (fs[i]?).map (fun f => (f.type, f.offset)) = some (ft, off)) (hc : P.cellsOf ft = 1) {v : Value} (hv : cs[off]? = some v) :
 ∃ n d ps, DataW.trod enc P w base sp held n ft [v] = some (d, ps) /\ ∀ y ∈ ps, y ∈ x.2 := by
 obtain ⟨xs, n, _, hx, _, hxl, hf⟩ := DataW.trod_struct ht h
 obtain ⟨f, hfi, he⟩ := Option.map_eq_some_iff.1 hi
 have e1 : f.type = ft := congrArg Prod.fst he
 have e2 : f.offset = off := congrArg Prod.snd he
 have hlt : i < xs.length := by
  rw [hxl]
  exact (Array.getElem?_eq_some_iff.1 hfi).1
 have := hf i f hfi
 rw [e1, e2, hc, List.getElem?_eq_getElem hlt] at this
 obtain ⟨hl, hg⟩ := List.getElem?_eq_some_iff.1 hv
 have h1 : (cs.drop off).take 1 = [v] := by
  rw [List.drop_eq_getElem_cons hl, hg]
  rfl
 rw [h1] at this
 refine ⟨n, (xs[i]).1, (xs[i]).2, this, fun y hy => ?_⟩
 rw [hx]
 exact List.mem_flatMap.2 ⟨xs[i], List.getElem_mem _, hy⟩
theorem cells_int : Tryz.prog.cellsOf 3 = 1 := by kernel_rfl
theorem cells_str : Tryz.prog.cellsOf 9 = 1 := by kernel_rfl
theorem spot_of {W : World} {base : Nat} {a : Addr} {n : Nat} {cs : List Value} (h : W.cells? base a n = some cs) (hn : 0 < n) : a.spot = none := by
 obtain ⟨_, hl, hc⟩ := World.cells?_some h
 have z := hc 0 hn
 rw [List.getElem?_eq_getElem (by omega)] at z
 simpa [Addr.add] using World.cell?_spot z
end Go.Proofs.YtcndplnnighjkaaGreatDoor
namespace Go.Proofs.YtcndplnnighjkaaGreatDoor
open Go.ChangeShapes Go.WideShapes Go.ChangeAt Go.RowKit
set_option linter.unusedVariables false
set_option linter.unusedSimpArgs false
def eqI (l l' : List Int) : Bool := decide (l = l')
theorem eq_upto {α : Type} [DecidableEq α] {l l' : List α} {k : Nat} (d : α) (hl : l.length = l'.length) (hk : k < l.length) (h : l.take k = l'.take k) : l.take (k + 1) = l'.take (k + 1) ↔ l.getD k d = l'.getD k d := by
 have hk' : k < l'.length := by omega
 rw [take_more hk, take_more hk', h, getD_at d hk, getD_at d hk', List.append_cancel_left_eq]
 simp only [List.cons.injEq, and_true]
theorem ne_of_take {α : Type} {l l' : List α} {k : Nat} (d : α) (h : l.getD k d ≠ l'.getD k d) : l ≠ l' := fun e => h (by rw [e])
set_option maxHeartbeats 1000000 in
theorem equalI_any (A B : Option Addr) (l l' : List Int) (c d : Nat) (w : World) (hI : IR w A l) (hJ : IR w B l') (h1 : l.length <= 1000) (h2 : l'.length <= 1000) :
 Calls Tryz.prog 18 #[.slice A l.length c, .slice B l'.length d] w (GivesV (.bool (eqI l l')) w) := by
 have HI := Lib.hid hI
 have HJ := Lib.hid hJ
 have HE : Hid (eqI l l' = decide (l = l')) := Lib.hid rfl
 generalize eqI l l' = R at *
 obtain ⟨n, hn⟩ : ∃ n, l.length = n := ⟨_, rfl⟩
 obtain ⟨n', hn'⟩ : ∃ n, l'.length = n := ⟨_, rfl⟩
 have HN := Lib.hid hn
 have HN' := Lib.hid hn'
 rw [hn] at h1 ⊢
 rw [hn'] at h2 ⊢
 clear hI hJ hn hn'
 go_enter Tryz.func18, Tryz.ntmps18
 by_cases hnn : n = n'
 · have hb : ((n : Int) != (n' : Int)) = false := by subst hnn; simp
   have HNN := Lib.hid hnn
   clear hnn
   go_wp2_with fail
   go_loopw [13] (fun q wr => ∃ k : Nat, k <= n /\ q = .int .i64 k /\ Hid (l.take k = l'.take k) /\ Hid (Below w.heap.size w wr)) (fun q _ => n - (intOf q).toNat)
   case atStart => exact ⟨0, Nat.zero_le _, rfl, Lib.hid rfl, Lib.hid (Below.refl _ _)⟩
   case round =>
    obtain ⟨k, hk, rfl, HK, HB⟩ := hrel
    by_cases hlt : k < n
    · have k0 : (0 : Int) <= (k : Int) := by omega
      have k1 : (k : Int) < (n : Int) := by omega
      have k2 : (k : Int) < (n' : Int) := by have := HNN.out; omega
      have hkl : k < l.length := by rw [HN.out]; exact hlt
      have hkl' : k < l'.length := by rw [HN'.out, <- HNN.out]; exact hlt
      obtain ⟨g, off, rfl, hg, hc⟩ := HI.out.below HB.out k hkl
      obtain ⟨g', off', rfl, hg', hc'⟩ := HJ.out.below HB.out k hkl'
      have HT := Lib.hid (eq_upto (l := l) (l' := l') (k := k) 0 (by rw [HN.out, HN'.out, HNN.out]) hkl HK.out)
      have HX : Hid (l.getD k 0 ≠ l'.getD k 0 -> l ≠ l') := Lib.hid (ne_of_take 0)
      generalize l.getD k 0 = y at *
      generalize l'.getD k 0 = y' at *
      clear hkl hkl'
      rcases Bool.eq_false_or_eq_true (y != y') with hy | hy
      · go_upto_region 6 with fail
        go_quiet (fail)
        go_wp2
        go_ret
        refine ⟨ret_bool ?_, below_drewN HB.out _⟩
        rw [HE.out]
        exact (decide_eq_false (HX.out (by simpa using hy))).symm
      · go_upto_region 6 with fail
        go_quiet (fail)
        go_wp2
        go_roundw
        case rel => exact ⟨k + 1, by omega, by go_num, Lib.hid (HT.out.2 (by simpa using hy)), Lib.hid (below_drewN HB.out _)⟩
        case measure => simp [intOf] <;> omega
    · obtain rfl : k = n := by omega
      have e : l = l' := by
       have := HK.out
       rwa [List.take_of_length_le (by rw [HN.out]; exact Nat.le_refl _), List.take_of_length_le (by rw [HN'.out, <- HNN.out]; exact Nat.le_refl _)] at this
      have HEE : Hid (R = true) := Lib.hid (by rw [HE.out, decide_eq_true_eq]; exact e)
      clear e
      go_wp2
      go_ret
      exact ⟨ret_bool HEE.out.symm, HB.out⟩
 · have hb : ((n : Int) != (n' : Int)) = true := by simp; omega
   go_wp2
   go_ret
   refine ⟨ret_bool ?_, Below.refl _ _⟩
   rw [HE.out]
   symm
   rw [decide_eq_false_iff_not]
   intro e
   rw [<- HN.out, <- HN'.out, e] at hnn
   exact hnn rfl
end Go.Proofs.YtcndplnnighjkaaGreatDoor
namespace Go.Proofs.YtcndplnnighjkaaGreatDoor
open Go.ChangeShapes Go.WideShapes Go.ChangeAt Go.RowKit
set_option linter.unusedVariables false
set_option linter.unusedSimpArgs false
theorem toList_inj {a b : ByteArray} : a.toList = b.toList ↔ a = b := by
 constructor
 · intro h
   rw [Lib.toList_data, Lib.toList_data] at h
   exact bytes_inj h
 · rintro rfl; rfl
end Go.Proofs.YtcndplnnighjkaaGreatDoor
namespace Go.Proofs.YtcndplnnighjkaaGreatDoor
open Go.ChangeShapes Go.WideShapes Go.ChangeAt Go.RowKit
set_option linter.unusedVariables false
set_option linter.unusedSimpArgs false
def newM : Mn := ⟨0, ⟨#[]⟩, ⟨#[]⟩, [], -1, [], none, 0, none, 0⟩
theorem newM_may : mayB [newM] = true := by decide +kernel
theorem node1_fr {W : World} {k : Nat} (h : W.heap[k]? = some (.cells #[.int .i64 0, .string ⟨#[]⟩, .string ⟨#[]⟩, .slice none 0 0, .int .i64 (-1), .slice none 0 0] 55 (0, 0))) : FR W (some ⟨k, 0, none⟩) [newM] := by
 obtain ⟨x0, x1, x2, x3, x4, x5⟩ := block6 h
 intro i m hm
 match i with
 | 0 =>
   have e : newM = m := by simpa using hm
   subst e
   refine ⟨⟨by simp [newM, I64], by simp [newM, I64], by simp [newM], by simp [newM], by simp [newM]⟩, k, 0, rfl, lt_of_block h, x0, x1, x2, x3, x4, x5, ?_, ?_⟩
   · intro j hj; simp [newM] at hj
   · intro j hj; simp [newM] at hj
 | i + 1 => simp at hm
set_option maxRecDepth 100000 in
set_option maxHeartbeats 2000000 in
theorem new_any (w : World) :
 Calls Tryz.prog 12 #[] w fun e w' => ∃ A, e = .returned (.slice A 1 1) /\ FR w' A [newM] /\ Below w.heap.size w w' := by
 go_enter Tryz.func12, Tryz.ntmps12
 go_wp2_with fail
 go_ret
 exact ⟨_, rfl, node1_fr (heap_alloc_new _ _), (Below.refl _ _).alloc (Nat.le_refl _) _⟩
end Go.Proofs.YtcndplnnighjkaaGreatDoor
namespace Go.Proofs.YtcndplnnighjkaaGreatDoor
open Go.ChangeShapes Go.WideShapes Go.ChangeAt Go.RowKit
set_option linter.unusedVariables false
set_option linter.unusedSimpArgs false
def ncells (m : Mn) : List Value := [.int .i64 m.kind, .string m.name, .string m.text, .slice m.aA m.attrs.length m.aC, .int .i64 m.parent, .slice m.kA m.kids.length m.kC]
def fcells (F : List Mn) : List Value := F.flatMap ncells
theorem fcells_length (F : List Mn) : (fcells F).length = F.length * 6 := by
 induction F with
 | nil => rfl
 | cons m F ih => rw [fcells, List.flatMap_cons, List.length_append]; rw [fcells] at ih; rw [ih]; simp [ncells]; omega
theorem fcells_one (F : List Mn) : ∀ u ∈ fcells F, u.oneCell' = true := by
 intro u hu
 obtain ⟨m, -, hm⟩ := List.mem_flatMap.1 hu
 simp only [ncells, List.mem_cons, List.not_mem_nil, or_false] at hm
 rcases hm with rfl | rfl | rfl | rfl | rfl | rfl <;> rfl
structure C6 (w : World) (g o : Nat) (m : Mn) : Prop where
 c0 : w.cell? ⟨g, o, none⟩ = some (.int .i64 m.kind)
 c1 : w.cell? ⟨g, o + 1, none⟩ = some (.string m.name)
 c2 : w.cell? ⟨g, o + 2, none⟩ = some (.string m.text)
 c3 : w.cell? ⟨g, o + 3, none⟩ = some (.slice m.aA m.attrs.length m.aC)
 c4 : w.cell? ⟨g, o + 4, none⟩ = some (.int .i64 m.parent)
 c5 : w.cell? ⟨g, o + 5, none⟩ = some (.slice m.kA m.kids.length m.kC)
def RowAt (w : World) (g o : Nat) (F : List Mn) : Prop := ∀ i m, F[i]? = some m -> C6 w g (o + i * 6) m
theorem fr_row {w : World} {g o : Nat} {F : List Mn} (h : FR w (some ⟨g, o, none⟩) F) : RowAt w g o F := fun i m hm => by
 obtain ⟨-, g', o', hA, -, hn⟩ := h i m hm
 cases hA
 exact ⟨hn.c0, hn.c1, hn.c2, hn.c3, hn.c4, hn.c5⟩
theorem row_cells {w : World} {g : Nat} : ∀ {F : List Mn} {o : Nat}, RowAt w g o F -> ∀ j u, (fcells F)[j]? = some u -> w.cell? ⟨g, o + j, none⟩ = some u
 | [], o, h, j, u, hu => by simp [fcells] at hu
 | m :: F, o, h, j, u, hu => by
   have h0 := h 0 m rfl
   rw [Nat.zero_mul, Nat.add_zero] at h0
   have hr : RowAt w g (o + 6) F := fun i m' hm => by
    have := h (i + 1) m' (by simpa using hm)
    rw [show o + (i + 1) * 6 = o + 6 + i * 6 by omega] at this
    exact this
   rw [fcells, List.flatMap_cons] at hu
   by_cases hj : j < 6
   · rw [List.getElem?_append_left (by simpa [ncells] using hj)] at hu
     rcases j with _ | _ | _ | _ | _ | _ | j
     · simp [ncells] at hu; subst hu; exact h0.c0
     · simp [ncells] at hu; subst hu; exact h0.c1
     · simp [ncells] at hu; subst hu; exact h0.c2
     · simp [ncells] at hu; subst hu; exact h0.c3
     · simp [ncells] at hu; subst hu; exact h0.c4
     · simp [ncells] at hu; subst hu; exact h0.c5
     · omega
   · rw [List.getElem?_append_right (by simp [ncells]; omega)] at hu
     have := row_cells hr (j - 6) u (by simpa [ncells, fcells] using hu)
     rw [show o + 6 + (j - 6) = o + j by omega] at this
     exact this
theorem cells_row {w : World} {g : Nat} : ∀ {F : List Mn} {o : Nat}, (∀ j u, (fcells F)[j]? = some u -> w.cell? ⟨g, o + j, none⟩ = some u) -> RowAt w g o F
 | [], o, h, i, m, hm => by simp at hm
 | m :: F, o, h, i, m', hm => by
   cases i with
   | zero =>
     simp at hm
     subst hm
     rw [Nat.zero_mul, Nat.add_zero]
     have key : ∀ j u, (ncells m)[j]? = some u -> w.cell? ⟨g, o + j, none⟩ = some u := fun j u hu => h j u (by
      rw [fcells, List.flatMap_cons, List.getElem?_append_left (List.getElem?_eq_some_iff.1 hu).1]; exact hu)
     exact ⟨key 0 _ rfl, key 1 _ rfl, key 2 _ rfl, key 3 _ rfl, key 4 _ rfl, key 5 _ rfl⟩
   | succ i =>
     have hr : RowAt w g (o + 6) F := cells_row (fun j u hu => by
      have := h (6 + j) u (by rw [fcells, List.flatMap_cons, List.getElem?_append_right (by simp [ncells])]; simpa [ncells, fcells] using hu)
      rw [show o + (6 + j) = o + 6 + j by omega] at this
      exact this)
     have := hr i m' (by simpa using hm)
     rw [show o + 6 + i * 6 = o + (i + 1) * 6 by omega] at this
     exact this
end Go.Proofs.YtcndplnnighjkaaGreatDoor
namespace Go.Proofs.YtcndplnnighjkaaGreatDoor
open Go.ChangeShapes Go.WideShapes Go.ChangeAt Go.RowKit
set_option linter.unusedVariables false
set_option linter.unusedSimpArgs false
def at2 (a : ByteArray × ByteArray) : List Value := [.string a.1, .string a.2]
def acells (l : List (ByteArray × ByteArray)) : List Value := l.flatMap at2
theorem acells_length (l : List (ByteArray × ByteArray)) : (acells l).length = l.length * 2 := by
 induction l with
 | nil => rfl
 | cons m l ih => rw [acells, List.flatMap_cons, List.length_append]; rw [acells] at ih; rw [ih]; simp [at2]; omega
theorem acells_one (l : List (ByteArray × ByteArray)) : ∀ u ∈ acells l, u.oneCell' = true := by
 intro u hu
 obtain ⟨m, -, hm⟩ := List.mem_flatMap.1 hu
 simp only [at2, List.mem_cons, List.not_mem_nil, or_false] at hm
 rcases hm with rfl | rfl <;> rfl
theorem fcells_take {l : List Mn} {m : Mn} : fcells (l ++ [m]) = fcells l ++ ncells m := by
 rw [fcells, fcells, List.flatMap_append]
 simp
theorem acells_at : ∀ {l : List (ByteArray × ByteArray)} {j : Nat}, j < l.length -> (acells l)[j * 2]? = some (.string (l.getD j default).1) /\ (acells l)[j * 2 + 1]? = some (.string (l.getD j default).2)
 | a :: l, 0, h => by simp [acells, at2]
 | a :: l, j + 1, h => by
   have := acells_at (l := l) (j := j) (by simpa using h)
   have e : acells (a :: l) = at2 a ++ acells l := by simp [acells]
   rw [e, List.getElem?_append_right (by simp [at2]; omega), List.getElem?_append_right (by simp [at2]; omega)]
   simp only [at2, List.length_cons, List.length_nil]
   rw [show (j + 1) * 2 - (0 + 1 + 1) = j * 2 by omega, show (j + 1) * 2 + 1 - (0 + 1 + 1) = j * 2 + 1 by omega]
   simpa using this
theorem own_ar {w : World} {base : Nat} {t : TypeId} {v : Value} {l : List (ByteArray × ByteArray)} (h : w.ownsRow base t 2 v l.length (acells l)) : ∃ p cap, v = .slice p l.length cap /\ l.length <= cap /\ cap <= maxLen /\ AR w p l := by
 rcases h.2 with ⟨rfl, h'⟩ | ⟨g, cap, cur, rfl, hb, hg, h1, h2, -⟩
 · have : l = [] := List.eq_nil_of_length_eq_zero h'
   subst this
   exact ⟨none, 0, rfl, Nat.le_refl _, by simp [maxLen], fun j hj => absurd hj (by simp)⟩
 · refine ⟨some ⟨g, 0, none⟩, cap, rfl, h1, h2, fun j hj => ⟨g, 0, rfl, (Array.getElem?_eq_some_iff.1 hg).1, ?_, ?_⟩⟩
   · have := h.cells rfl _ _ (acells_at hj).1
     rw [<- this, show (⟨g, 0, none⟩ : Addr).add (j * 2) = ⟨g, 0 + j * 2, none⟩ by unfold Addr.add; split <;> simp_all]
   · have := h.cells rfl _ _ (acells_at hj).2
     rw [<- this, show (⟨g, 0, none⟩ : Addr).add (j * 2 + 1) = ⟨g, 0 + j * 2 + 1, none⟩ by unfold Addr.add; split <;> simp_all]
def core (m : Mn) : Mn := { m with aA := none, aC := 0, kA := none, kC := 0 }
theorem own_apart2 {w : World} {base base' s s' : Nat} {e t : TypeId} {v v' : Value} {n n' : Nat} {xs xs' : List Value} (h : w.ownsRow base e s v n xs) (h' : w.ownsRow base' t s' v' n' xs') (hne : e ≠ t) : v.ownBlock = none \/ v.ownBlock ≠ v'.ownBlock := by
 rcases h'.2 with ⟨rfl, -⟩ | ⟨g, cap, cur, rfl, -, hg, -⟩
 · rcases hv : v.ownBlock with _ | k
   · exact .inl rfl
   · exact .inr (by simp [Value.ownBlock])
 · exact .inr (by simpa [Value.ownBlock] using own_apart h hg hne)
theorem two_new (w : World) (a : ByteArray × ByteArray) (t : TypeId) : ∀ j u, (at2 a)[j]? = some u -> (w.alloc (.cells #[.string a.1, .string a.2] t)).cell? ((⟨w.heap.size, 0, none⟩ : Addr).add j) = some u := by
 intro j u hu
 rw [add_plain, Nat.zero_add]
 obtain ⟨h1, h2⟩ := block2 (heap_alloc_new w (.cells #[.string a.1, .string a.2] t))
 match j, hu with
 | 0, hu => cases hu; exact h1
 | 1, hu => cases hu; exact h2
 | j + 2, hu => simp [at2] at hu
theorem step_own {P : Program} {ops : Array Oper} {o : Oper} {a : Act} {w : World} {K : Act -> World -> Prop} {Q : Exit -> Act -> World -> Prop} {E : Prop}
 (hgd : o.guard = none) (s x : Operand) (t : TypeId) (ho : o.op = .call { callee := .builtin .append, args := #[s, x], argTypes := #[t, t] })
 (base : Nat) (e : TypeId) (i : TypeInfo) (z : Value) (size bytes : Nat) (ht : P.underlying t = some (.slice e)) (hi : P.info? e = some i) (hz : i.zero = some z)
 (hsize : i.size = size) (hby : i.bytes = bytes) (hzs : z.cells.size = size) (hsz : 0 < size)
 (v : Value) (n : Nat) (xs : List Value) (hs : a.eval s = v) (hown : w.ownsRow base e size v n xs)
 (ad : Addr) (m c : Nat) (news : List Value) (hx : a.eval x = .slice (some ad) m c) (hl : news.length = m * size) (hnews : ∀ j u, news[j]? = some u -> w.cell? (ad.add j) = some u) (h1 : ∀ u ∈ news, u.oneCell' = true)
 (h63 : n + m <= maxLen) (hbytes : (n + m) * bytes <= 140737488355328) (hbase : base <= w.heap.size)
 (h : ∀ v' w', w'.ownsRow base e size v' (n + m) (xs ++ news) -> w.grownBy w' v.ownBlock -> (v'.ownBlock = v.ownBlock \/ v'.ownBlock = some w.heap.size) -> K (a.put o.dst v') w') :
 if Region.wanted o (yielded ops a.tmps) = true then Oper.wp P o a w K Q else E := by
 have hw : Region.wanted o (yielded ops a.tmps) = true := by simp [Region.wanted, hgd]
 rw [if_pos hw]
 obtain ⟨v', w', hr, h2, h3, _, h5⟩ := run_append_own_at (P := P) w base t o.type e i z size bytes ht hi hz hsize hby hzs hsz v n xs hown ad m c news hl hnews h1 h63 hbytes hbase
 unfold Oper.wp execOp
 simp only [ho, resolve, invoke, builtin, Sem.run_bind, Sem.run_pure, Result.andThen_ok, List.map_toArray, List.map_cons, List.map_nil, hs, hx, hr]
 exact h v' w' h2 h3 h5
theorem own_form2 {w : World} {base size : Nat} {e : TypeId} {v : Value} {n : Nat} {xs : List Value} (h : w.ownsRow base e size v n xs) : ∃ p cap, v = .slice p n cap /\ n <= cap /\ cap <= maxLen := by
 rcases h.2 with ⟨rfl, rfl⟩ | ⟨g, cap, cur, rfl, _, _, hnc, hcm, _⟩
 · exact ⟨none, 0, rfl, Nat.le_refl _, by simp [maxLen]⟩
 · exact ⟨_, cap, rfl, hnc, hcm⟩
theorem own_mono {w : World} {base base' : Nat} {e : TypeId} {size n : Nat} {v : Value} {xs : List Value} (h : w.ownsRow base e size v n xs) (hb : base' <= base) : w.ownsRow base' e size v n xs := by
 refine ⟨h.1, ?_⟩
 rcases h.2 with h' | ⟨g, cap, cur, h1, h2, h3, h4⟩
 · exact .inl h'
 · exact .inr ⟨g, cap, cur, h1, Nat.le_trans hb h2, h3, h4⟩
end Go.Proofs.YtcndplnnighjkaaGreatDoor
