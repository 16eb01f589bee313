/-
  What any forest that may be is asked, by any query: plain mathematics.
-/
import Derived.Test.YtcndplnnighjkaaGreatDoorPG44
import Derived.Test.YtcndplnnighjkaaGreatDoorPG29
import Derived.Test.YtcndplnnighjkaaGreatDoorPG25
import Derived.Test.YtcndplnnighjkaaGreatDoorPG04
import Derived.Test.YtcndplnnighjkaaGreatDoorPG26
import Derived.Test.YtcndplnnighjkaaGreatDoorPG27
import Derived.Test.YtcndplnnighjkaaGreatDoorPG15
import Derived.Test.YtcndplnnighjkaaGreatDoorPG12
namespace Go.Proofs.YtcndplnnighjkaaGreatDoor.Sn
open Go.ChangeShapes Go.WideShapes Go.ChangeAt Go.RowKit
open Sx (Tr Ms Mr TR MR XR tV r1 ls te stp rws cx cl cx_iff)
open Fi (isP isP_cx isP_like)
set_option linter.unusedVariables false
set_option linter.unusedSimpArgs false
structure An where
 l : List Int
 s : ByteArray
 e : Int
def errA (e : Int) : An := ⟨[], ⟨#[]⟩, e⟩
def numsA (l : List Int) : An := ⟨l, ⟨#[]⟩, 0⟩
def textA (s : ByteArray) : An := ⟨[], s, 0⟩
def oneA (p : Int × Int) : An := if p.2 = 0 then numsA [p.1] else errA p.2
def txtA (p : ByteArray × Int) : An := if p.2 = 0 then textA p.1 else errA p.2
def unte (t : Sl.Te) : Tr := (t.k, ⟨t.n.toArray⟩, ⟨t.v.toArray⟩)
def unst (s : Sl.Stp) : Ms := ((none, 0), s.c.map unte, s.child)
def unr (X : List (List Sl.Stp)) : List Mr := X.map (fun r => ((none, 0), r.map unst))
theorem te_unte (t : Sl.Te) : te (unte t) = t := by
 obtain ⟨k, n, v⟩ := t
 simp [te, unte, ls]
theorem stp_unst (s : Sl.Stp) : stp (unst s) = s := by
 obtain ⟨c, h⟩ := s
 simp only [stp, unst, List.map_map]
 congr 1
 rw [show te ∘ unte = id from funext te_unte, List.map_id]
theorem rws_unr (X : List (List Sl.Stp)) : rws (unr X) = X := by
 unfold rws unr
 rw [List.map_map]
 conv => rhs; rw [<- List.map_id X]
 refine List.map_congr_left fun r _ => ?_
 simp only [Function.comp, List.map_map]
 rw [show (stp ∘ unst) = id from funext stp_unst, List.map_id]
 rfl
theorem isP_unr {F : List Mn} {x : List Mr} {X : List (List Sl.Stp)} (h : rws x = X) : isP F x = isP F (unr X) := funext (isP_cx (cx_iff.2 (by rw [h, rws_unr])))
def selA (G : List Mn) (x : Int) : Except Nat (List (List Sl.Stp)) -> An
 | .error i => ⟨[(i : Int)], ⟨#[]⟩, 90⟩
 | .ok X => if isB G x = true then numsA (((ord G x.toNat).filter (isP G (unr X))).map Int.ofNat) else errA 70
def ansP (G : List Mn) (k x b : Int) (t : ByteArray) : An :=
 if k = 1 then oneA (upP G x)
 else if k = 2 then (if isB G x = true then numsA (kidsOf G x.toNat) else errA 70)
 else if k = 3 then oneA (besP G x b)
 else if k = 4 then (if isB G x = true then numsA ((ord G x.toNat).map Int.ofNat) else errA 70)
 else if k = 5 then (if isB G x = true then textA ⟨(cont G x.toNat).toArray⟩ else errA 70)
 else if k = 6 then (if isB G x = true then txtA (attrP G x.toNat t) else errA 70)
 else if k = 7 then oneA (byP G t)
 else if k = 8 then selA G x (Sl.parse (ls t))
 else if k = 9 then (if isB G x = true then textA ⟨(printB G G.length x).toArray⟩ else errA 70)
 else errA 1
theorem besS_like {F G : List Mn} (h : G.map core = F.map core) (x b : Int) : besP G x b = besP F x b := by
 unfold besP
 rw [upP_like h, kids_like h]
theorem attrP_like {F G : List Mn} (h : G.map core = F.map core) (i : Nat) (t : ByteArray) : attrP G i t = attrP F i t := by
 have key : ∀ K : List Mn, attrP K i t = (((K.map core)[i]?).map fun m => attrR m t).getD (⟨#[]⟩, 70) := fun K => by
  unfold attrP
  rw [List.getElem?_map]
  cases K[i]? <;> rfl
 rw [key, key, h]
theorem ansP_like {F G : List Mn} (h : G.map core = F.map core) (k x b : Int) (t : ByteArray) : ansP G k x b t = ansP F k x b t := by
 have hs : ∀ r, selA G x r = selA F x r := fun r => by
  cases r with
  | error i => rfl
  | ok X => simp only [selA]; rw [isB_like h, ord_like h, isP_like h]
 unfold ansP
 rw [upP_like h, isB_like h, kids_like h, besS_like h, ord_like h, cont_like h, attrP_like h, byP_like h, hs, len_like h, print_like h]
theorem may_one {F : List Mn} (h : mayB F = true) : ∀ m ∈ F, One 300000 m := by
 intro m hm
 obtain ⟨h1, h2, h3⟩ := may_str h m hm
 have h4 := (may_sz h).2 m hm
 refine ⟨?_, ?_⟩
 · have := flat_le (C := 21104) (f := attrL) m.attrs (fun a ha => by
    have h6 := h3 a ha
    have := escq_length a.2
    have h7 := size_list a.1
    simp only [attrL, List.length_append, List.length_cons, List.length_nil]
    omega)
   have h8 := size_list m.name
   simp only [openL, List.length_append, List.length_cons, List.length_nil]
   have : 21104 * m.attrs.length <= 21104 * 12 := Nat.mul_le_mul_left _ (by omega)
   omega
 · have := esc_length m.text
   omega
theorem may_pr {F : List Mn} (hm : mayB F = true) (f : Nat) {i : Nat} (hi : i < F.length) : (pr F f i).length <= 18000000 := by
 have h1 := pr_len (may_one hm) f i
 have h2 := vis_len hm f hi
 have h3 := (may_sz hm).1
 have : 300000 * (vis F f i).length <= 300000 * 60 := Nat.mul_le_mul_left _ (by omega)
 omega
theorem print_may (A : Option Addr) (F : List Mn) (c : Nat) (x mx : Int) (w : World) (hF : FR w A F) (h : mayB F = true) (hm : w.cell? ⟨1, 0, none⟩ = some (.int .i64 mx)) :
 Calls Tryz.prog 47 #[.slice A F.length c, .int .i64 x] w (GivesV (.string ⟨(printB F F.length x).toArray⟩) w) := by
 refine print_any A F c F.length x mx w hF (may_sz1 h) (may_sz2 h) hm (fun e1 e2 => ?_)
 rw [isB, decide_eq_true_eq] at e2
 obtain ⟨i, rfl⟩ := Int.eq_ofNat_of_zero_le e2.1
 rw [Int.toNat_natCast]
 have hi : i < F.length := by omega
 have := may_pr e1 F.length hi
 exact ⟨dp_all e1 hi, by omega⟩
theorem isB_nat {G : List Mn} {x : Int} (h : isB G x = true) : ∃ i : Nat, x = i /\ i < G.length := by
 rw [isB, decide_eq_true_eq] at h
 obtain ⟨i, rfl⟩ := Int.eq_ofNat_of_zero_le h.1
 exact ⟨i, rfl, by omega⟩
end Go.Proofs.YtcndplnnighjkaaGreatDoor.Sn
namespace Go.Proofs.YtcndplnnighjkaaGreatDoor.Sn
open Go.ChangeShapes Go.WideShapes Go.ChangeAt Go.RowKit
set_option linter.unusedVariables false
set_option linter.unusedSimpArgs false
theorem worder_none (A : Option Addr) (F : List Mn) (c : Nat) (t : Int) (w : World) (hF : FR w A F) (hm : mayB F = true) (ht : ¬ (0 <= t /\ t < F.length)) :
 Calls Tryz.prog 36 #[.slice A F.length c, .int .i64 t] w fun e w' => e = .returned (.tuple #[.slice none 0 0, .int .i64 70]) /\ Below w.heap.size w w' := by
 have HN := Lib.hid (wnode_any A F c t w hF hm)
 rw [show isB F t = false by rw [isB, decide_eq_false_iff_not]; exact ht] at HN
 generalize F.length = n at *
 clear hF hm ht
 go_enter Tryz.func36, Tryz.ntmps36
 go_wp2_with fail
 refine HN.out.mono ?_
 rintro e w1 ⟨rfl, hb⟩
 have HB := Lib.hid hb
 clear hb
 go_wp2
 go_ret2
 exact ⟨rfl, HB.out⟩
theorem wkids_none (A : Option Addr) (F : List Mn) (c : Nat) (t : Int) (w : World) (hF : FR w A F) (hm : mayB F = true) (ht : ¬ (0 <= t /\ t < F.length)) :
 Calls Tryz.prog 32 #[.slice A F.length c, .int .i64 t] w fun e w' => e = .returned (.tuple #[.slice none 0 0, .int .i64 70]) /\ Below w.heap.size w w' := by
 have HN := Lib.hid (wnode_any A F c t w hF hm)
 rw [show isB F t = false by rw [isB, decide_eq_false_iff_not]; exact ht] at HN
 generalize F.length = n at *
 clear hF hm ht
 go_enter Tryz.func32, Tryz.ntmps32
 go_wp2_with fail
 refine HN.out.mono ?_
 rintro e w1 ⟨rfl, hb⟩
 have HB := Lib.hid hb
 clear hb
 go_wp2
 go_ret2
 exact ⟨rfl, HB.out⟩
theorem wcontent_none (A : Option Addr) (F : List Mn) (c : Nat) (t : Int) (w : World) (hF : FR w A F) (hm : mayB F = true) (ht : ¬ (0 <= t /\ t < F.length)) :
 Calls Tryz.prog 39 #[.slice A F.length c, .int .i64 t] w fun e w' => e = .returned (.tuple #[.string ⟨#[]⟩, .int .i64 70]) /\ Below w.heap.size w w' := by
 have HW : Hid (Below w.heap.size w (w.alloc (.cells #[.slice A F.length c] 26))) := Lib.hid ((Below.refl _ _).alloc (Nat.le_refl _) _)
 have HK := Lib.hid (heap_alloc_new w (.cells #[.slice A F.length c] 26))
 have HN := Lib.hid (wnode_any A F c t _ (hF.below HW.out) hm)
 rw [show isB F t = false by rw [isB, decide_eq_false_iff_not]; exact ht] at HN
 generalize F.length = n at *
 clear hF hm ht
 obtain ⟨W, hW⟩ : ∃ W, W = w.alloc (.cells #[.slice A n c] 26) := ⟨_, rfl⟩
 rw [<- hW] at HW HK HN
 have x0 := block1 HK.out
 go_enter Tryz.func39, Tryz.ntmps39
 go_upto_region 1 with fail
 rw [<- hW]
 clear hW
 go_wp2_with fail
 refine HN.out.mono ?_
 rintro e w1 ⟨rfl, hb⟩
 have HB := Lib.hid (HW.out.trans (hb.mono HW.out.size))
 clear hb x0
 go_wp2
 go_ret2
 exact ⟨rfl, HB.out⟩
theorem wattr_none (A : Option Addr) (F : List Mn) (c : Nat) (t : Int) (name : ByteArray) (w : World) (hF : FR w A F) (hm : mayB F = true) (ht : ¬ (0 <= t /\ t < F.length)) :
 Calls Tryz.prog 41 #[.slice A F.length c, .int .i64 t, .string name] w fun e w' => e = .returned (.tuple #[.string ⟨#[]⟩, .int .i64 70]) /\ Below w.heap.size w w' := by
 have HN := Lib.hid (wnode_any A F c t w hF hm)
 rw [show isB F t = false by rw [isB, decide_eq_false_iff_not]; exact ht] at HN
 generalize F.length = n at *
 clear hF hm ht
 go_enter Tryz.func41, Tryz.ntmps41
 go_wp2_with fail
 refine HN.out.mono ?_
 rintro e w1 ⟨rfl, hb⟩
 have HB := Lib.hid hb
 clear hb
 go_wp2
 go_ret2
 exact ⟨rfl, HB.out⟩
end Go.Proofs.YtcndplnnighjkaaGreatDoor.Sn
namespace Go.Proofs.YtcndplnnighjkaaGreatDoor.Sn
open Go.ChangeShapes Go.WideShapes Go.ChangeAt Go.RowKit Go.MapKept
open Sx (Tr Ms Mr TR MR XR tV r1 ls te stp rws cx cl cx_iff)
open Fi (isP isP_cx isP_like)
set_option linter.unusedVariables false
set_option linter.unusedSimpArgs false
theorem b3 {w : World} {k : Nat} {a b c : Value} {t : TypeId} (h : w.heap[k]? = some (.cells #[a, b, c] t (0, 0))) : w.cell? ⟨k, 0, none⟩ = some a /\ w.cell? ⟨k, 1, none⟩ = some b /\ w.cell? ⟨k, 2, none⟩ = some c := by
 simp [World.cell?, h]
theorem b4 {w : World} {k : Nat} {a b c d : Value} {t : TypeId} (h : w.heap[k]? = some (.cells #[a, b, c, d] t (0, 0))) : w.cell? ⟨k, 0, none⟩ = some a /\ w.cell? ⟨k, 1, none⟩ = some b /\ w.cell? ⟨k, 2, none⟩ = some c /\ w.cell? ⟨k, 3, none⟩ = some d := by
 simp [World.cell?, h]
theorem bfz {w : World} {k : Nat} {cs : Array Value} {t : TypeId} (h : w.heap[k]? = some (.cells cs t (0, 0))) (j : Nat) : w.frozen? ⟨k, j, none⟩ = false := by simp [World.frozen?, h]
theorem bset {w : World} {k : Nat} {cs : Array Value} {t : TypeId} (h : w.heap[k]? = some (.cells cs t (0, 0))) (j : Nat) (v : Value) : (w.setCell ⟨k, j, none⟩ v).heap[k]? = some (.cells (cs.setIfInBounds j v) t (0, 0)) := by
 simp [World.setCell, Array.getElem?_modify, h]
theorem hn0 (w : World) (a b : Obj) : ((w.alloc a).alloc b).heap[w.heap.size]? = some a := by rw [heap_alloc_old _ _ (by simp)]; exact heap_alloc_new _ _
theorem hn1 (w : World) (a b : Obj) : ((w.alloc a).alloc b).heap[w.heap.size + 1]? = some b := by
 have := heap_alloc_new (w.alloc a) b
 simpa using this
abbrev sA (w : World) (k : Nat) (x y z : Value) : World := ((w.setCell ⟨k, 0, none⟩ x).setCell ⟨k, 1, none⟩ y).setCell ⟨k, 2, none⟩ z
abbrev NR (w : World) (b : Nat) (v : Value) (l : List Int) : Prop := w.ownsRow b 3 1 v l.length (ivs l)
theorem NR.set {w : World} {b k : Nat} {v : Value} {l : List Int} {cs : Array Value} {t : TypeId} (h : NR w b v l) (hk : w.heap[k]? = some (.cells cs t (0, 0))) (ht : 3 ≠ t) (j : Nat) (u : Value) : NR (w.setCell ⟨k, j, none⟩ u) b v l :=
 ownsRow_setCell_other h (a := ⟨k, j, none⟩) (own_apart h hk ht) _
theorem sA_all {w0 w : World} {b b' k : Nat} {v : Value} {l : List Int} {cs : Array Value} (h : NR w b v l) (hk : w.heap[k]? = some (.cells cs 31 (0, 0))) (hb : b' <= k) (hB : Below b' w0 w) (x y z : Value) : NR (sA w k x y z) b v l /\ Below b' w0 (sA w k x y z) := by
 have k0 := bset hk 0 x
 have k1 := bset k0 1 y
 exact ⟨((h.set hk (by decide) 0 x).set k0 (by decide) 1 y).set k1 (by decide) 2 z, ((hB.setCell (p := ⟨k, 0, none⟩) hb _).setCell (p := ⟨k, 1, none⟩) hb _).setCell (p := ⟨k, 2, none⟩) hb _⟩
def GivesA (b : Nat) (a : An) (w : World) (e : Ending) (w' : World) : Prop := ∃ v, e = .returned (.agg #[v, .string a.s, .int .i64 a.e]) /\ NR w' b v a.l /\ Below w.heap.size w w'
theorem GivesA.mono {b b' : Nat} {a : An} {w w' : World} {e : Ending} (h : GivesA b a w e w') (hb : b' <= b) : GivesA b' a w e w' := by
 obtain ⟨v, h1, h2, h3⟩ := h
 exact ⟨v, h1, own_mono h2 hb, h3⟩
theorem failed_any (x : Int) (w : World) : Calls Tryz.prog 16 #[.int .i64 x] w (GivesA w.heap.size (errA x) w) := by
 go_enter Tryz.func16, Tryz.ntmps16
 go_wp2
 refine bodyPost_ret (v := .agg #[.slice none 0 0, .string ⟨#[]⟩, .int .i64 x]) (by simp [results, Tryz.results16, go_sem]) rfl ⟨_, rfl, World.ownsRow_nil _ _ _ _, ?_⟩
 exact (Below.refl _ _).alloc (Nat.le_refl _) _
theorem numbers_ok (b : Nat) (v : Value) (l : List Int) (w : World) (h : NR w b v l) : Calls Tryz.prog 31 #[v, .int .i64 0] w (GivesA b (numsA l) w) := by
 obtain ⟨p, c, rfl, -⟩ := own_form2 h
 have HI := Lib.hid (own_below h ((Below.refl w.heap.size w).alloc (Nat.le_refl _) (.cells #[.slice p l.length c, .string ⟨#[]⟩, .int .i64 0] 31)))
 clear h
 obtain ⟨n, hn⟩ : ∃ n, l.length = n := ⟨_, rfl⟩
 have HN := Lib.hid hn
 rw [hn] at HI ⊢
 clear hn
 go_enter Tryz.func31, Tryz.ntmps31
 go_wp2
 refine bodyPost_ret (v := .agg #[.slice p n c, .string ⟨#[]⟩, .int .i64 0]) (by simp [results, Tryz.results31, go_sem]) rfl ⟨_, rfl, ?_, (Below.refl _ _).alloc (Nat.le_refl _) _⟩
 show NR _ b _ l
 unfold NR
 rw [HN.out]
 exact HI.out
theorem numbers_no (v : Value) (x : Int) (w : World) (h : x ≠ 0) : Calls Tryz.prog 31 #[v, .int .i64 x] w (GivesA w.heap.size (errA x) w) := by
 have bx : (x != 0) = true := by simpa using h
 obtain ⟨W, hW⟩ : ∃ W, W = w.alloc (.cells #[.slice none 0 0, .string ⟨#[]⟩, .int .i64 0] 31) := ⟨_, rfl⟩
 have HW : Hid (Below w.heap.size w W /\ W.heap[w.heap.size]? = some (.cells #[.slice none 0 0, .string ⟨#[]⟩, .int .i64 0] 31 (0, 0))) := Lib.hid (by rw [hW]; exact ⟨(Below.refl _ _).alloc (Nat.le_refl _) _, heap_alloc_new _ _⟩)
 go_enter Tryz.func31, Tryz.ntmps31
 go_wp2_with fail
 rw [<- hW]
 clear hW
 refine (failed_any x W).mono ?_
 rintro e w1 ⟨u, rfl, hi, hb⟩
 obtain ⟨p, c, rfl, -⟩ := own_form2 hi
 have HT : Hid (w1.heap[w.heap.size]? = some (.cells #[.slice none 0 0, .string ⟨#[]⟩, .int .i64 0] 31 (0, 0))) := Lib.hid ((hb.block _ (lt_of_block HW.out.2)).trans HW.out.2)
 have HR := Lib.hid (sA_all (own_mono hi HW.out.1.size) HT.out (Nat.le_refl _) (HW.out.1.trans (hb.mono HW.out.1.size)) (.slice p (errA x).l.length c) (.string (errA x).s) (.int .i64 (errA x).e))
 obtain ⟨d0, d1, d2⟩ := b3 HT.out
 have z0 := bfz HT.out 0
 have z1 := bfz HT.out 1
 have z2 := bfz HT.out 2
 generalize (errA x).l.length = nl at *
 clear hi hb
 go_wp2
 refine bodyPost_ret (v := .agg #[.slice p nl c, .string (errA x).s, .int .i64 (errA x).e]) (by simp [results, Tryz.results31, go_sem, d0, d1, d2]) rfl ⟨_, rfl, HR.out.1, HR.out.2⟩
theorem text_ok (s : ByteArray) (w : World) : Calls Tryz.prog 38 #[.string s, .int .i64 0] w (GivesA w.heap.size (textA s) w) := by
 go_enter Tryz.func38, Tryz.ntmps38
 go_wp2
 refine bodyPost_ret (v := .agg #[.slice none 0 0, .string s, .int .i64 0]) (by simp [results, Tryz.results38, go_sem]) rfl ⟨_, rfl, World.ownsRow_nil _ _ _ _, (Below.refl _ _).alloc (Nat.le_refl _) _⟩
theorem text_no (s : ByteArray) (x : Int) (w : World) (h : x ≠ 0) : Calls Tryz.prog 38 #[.string s, .int .i64 x] w (GivesA w.heap.size (errA x) w) := by
 have bx : (x != 0) = true := by simpa using h
 obtain ⟨W, hW⟩ : ∃ W, W = w.alloc (.cells #[.slice none 0 0, .string ⟨#[]⟩, .int .i64 0] 31) := ⟨_, rfl⟩
 have HW : Hid (Below w.heap.size w W /\ W.heap[w.heap.size]? = some (.cells #[.slice none 0 0, .string ⟨#[]⟩, .int .i64 0] 31 (0, 0))) := Lib.hid (by rw [hW]; exact ⟨(Below.refl _ _).alloc (Nat.le_refl _) _, heap_alloc_new _ _⟩)
 go_enter Tryz.func38, Tryz.ntmps38
 go_wp2_with fail
 rw [<- hW]
 clear hW
 refine (failed_any x W).mono ?_
 rintro e w1 ⟨u, rfl, hi, hb⟩
 obtain ⟨p, c, rfl, -⟩ := own_form2 hi
 have HT : Hid (w1.heap[w.heap.size]? = some (.cells #[.slice none 0 0, .string ⟨#[]⟩, .int .i64 0] 31 (0, 0))) := Lib.hid ((hb.block _ (lt_of_block HW.out.2)).trans HW.out.2)
 have HR := Lib.hid (sA_all (own_mono hi HW.out.1.size) HT.out (Nat.le_refl _) (HW.out.1.trans (hb.mono HW.out.1.size)) (.slice p (errA x).l.length c) (.string (errA x).s) (.int .i64 (errA x).e))
 obtain ⟨d0, d1, d2⟩ := b3 HT.out
 have z0 := bfz HT.out 0
 have z1 := bfz HT.out 1
 have z2 := bfz HT.out 2
 generalize (errA x).l.length = nl at *
 clear hi hb
 go_wp2
 refine bodyPost_ret (v := .agg #[.slice p nl c, .string (errA x).s, .int .i64 (errA x).e]) (by simp [results, Tryz.results38, go_sem, d0, d1, d2]) rfl ⟨_, rfl, HR.out.1, HR.out.2⟩
theorem text_any (s : ByteArray) (x : Int) (w : World) : Calls Tryz.prog 38 #[.string s, .int .i64 x] w (GivesA w.heap.size (txtA (s, x)) w) := by
 by_cases h : x = 0
 · subst h
   exact text_ok s w
 · have e : txtA (s, x) = errA x := by unfold txtA; rw [if_neg h]
   rw [e]
   exact text_no s x w h
theorem nr_one (w : World) (n : Int) : NR (w.alloc (.cells #[.int .i64 n] 3)) w.heap.size (.slice (some ⟨w.heap.size, 0, none⟩) 1 1) [n] :=
 ⟨rfl, .inr ⟨w.heap.size, 1, #[.int .i64 n], rfl, Nat.le_refl _, heap_alloc_new _ _, Nat.le_refl _, by simp [maxLen], rfl, rfl⟩⟩
theorem number_any (n x : Int) (w : World) : Calls Tryz.prog 28 #[.int .i64 n, .int .i64 x] w (GivesA w.heap.size (oneA (n, x)) w) := by
 obtain ⟨W0, hW0⟩ : ∃ W0, W0 = w.alloc (.cells #[.slice none 0 0, .string ⟨#[]⟩, .int .i64 0] 31) := ⟨_, rfl⟩
 have hs0 : W0.heap.size = w.heap.size + 1 := by rw [hW0]; simp
 have HW0 : Hid (Below w.heap.size w W0 /\ W0.heap[w.heap.size]? = some (.cells #[.slice none 0 0, .string ⟨#[]⟩, .int .i64 0] 31 (0, 0))) := Lib.hid (by rw [hW0]; exact ⟨(Below.refl _ _).alloc (Nat.le_refl _) _, heap_alloc_new _ _⟩)
 obtain ⟨W, hW⟩ : ∃ W, W = W0.alloc (.cells #[.int .i64 n] 3) := ⟨_, rfl⟩
 have HW : Hid (Below w.heap.size w W /\ W.heap[w.heap.size]? = some (.cells #[.slice none 0 0, .string ⟨#[]⟩, .int .i64 0] 31 (0, 0))) := Lib.hid (by
  rw [hW]
  exact ⟨HW0.out.1.alloc (by omega) _, (heap_alloc_old _ _ (by omega)).trans HW0.out.2⟩)
 have HC : Hid (Calls Tryz.prog 31 #[.slice (some ⟨w.heap.size + 1, 0, none⟩) 1 1, .int .i64 x] W (GivesA w.heap.size (oneA (n, x)) W)) := Lib.hid (by
  by_cases h : x = 0
  · subst h
    have := numbers_ok W0.heap.size _ [n] W (by rw [hW]; exact nr_one W0 n)
    rw [hs0] at this
    exact this.mono fun e w' h => h.mono (by omega)
  · have e : oneA (n, x) = errA x := by unfold oneA; rw [if_neg h]
    rw [e]
    have hsW : W.heap.size = w.heap.size + 2 := by rw [hW]; simp [hs0]
    exact (numbers_no _ x W h).mono fun e w' h => h.mono (by omega))
 generalize oneA (n, x) = a at *
 have HE : Hid (W = (w.alloc (.cells #[.slice none 0 0, .string ⟨#[]⟩, .int .i64 0] 31)).alloc (.cells #[.int .i64 n] 3)) := Lib.hid (by rw [hW, hW0])
 clear hW hW0 HW0 hs0
 go_enter Tryz.func28, Tryz.ntmps28
 go_wp2_with fail
 rw [<- HE.out]
 clear HE
 refine HC.out.mono ?_
 rintro e w1 ⟨u, rfl, hi, hb⟩
 obtain ⟨p, c, rfl, -⟩ := own_form2 hi
 have HT : Hid (w1.heap[w.heap.size]? = some (.cells #[.slice none 0 0, .string ⟨#[]⟩, .int .i64 0] 31 (0, 0))) := Lib.hid ((hb.block _ (lt_of_block HW.out.2)).trans HW.out.2)
 have HR := Lib.hid (sA_all hi HT.out (Nat.le_refl _) (HW.out.1.trans (hb.mono HW.out.1.size)) (.slice p a.l.length c) (.string a.s) (.int .i64 a.e))
 obtain ⟨d0, d1, d2⟩ := b3 HT.out
 have z0 := bfz HT.out 0
 have z1 := bfz HT.out 1
 have z2 := bfz HT.out 2
 generalize a.l.length = nl at *
 clear hi hb
 go_wp2
 refine bodyPost_ret (v := .agg #[.slice p nl c, .string a.s, .int .i64 a.e]) (by simp [results, Tryz.results28, go_sem, d0, d1, d2]) rfl ⟨_, rfl, HR.out.1, HR.out.2⟩
theorem isNodeS_any (A : Option Addr) (G : List Mn) (c : Nat) (x : Int) (w : World) (hF : FR w A G) (hm : mayB G = true) : Calls Tryz.prog 46 #[.slice A G.length c, .int .i64 x] w (GivesV (.bool (isB G x)) w) := by
 have HC := Lib.hid (below_any A G c x x w hF (may_sz1 hm))
 have e : belowB G x x = isB G x := by
  unfold belowB
  rw [hm, Bool.true_and]
  cases h : isB G x with
  | false => rfl
  | true =>
    obtain ⟨i, rfl, hi⟩ := isB_nat h
    obtain ⟨n, hn⟩ : ∃ n, G.length = n + 1 := ⟨G.length - 1, by omega⟩
    rw [hn]
    simp [onWay]
 rw [e] at HC
 clear hF hm e
 generalize isB G x = r at *
 generalize G.length = n at *
 go_enter Tryz.func46, Tryz.ntmps46
 go_wp2_with fail
 refine HC.out.mono ?_
 rintro e w1 ⟨rfl, hb⟩
 have HB := Lib.hid hb
 clear hb
 go_wp2
 go_ret
 exact ⟨rfl, HB.out⟩
theorem run_insS {w : World} {r clock : Nat} {es : Array MapEntry} {k : Int} {v : Value} (h : w.heap[r]? = some (.map es clock)) (hf : Instr.findNow (.int .i64) (.int .i64 k) es.toList 0 = some none) :
 (Instr.mapUpdate 48 (.map (some r)) (.int .i64 k) v).run Tryz.prog w = .ok () (setB w r (.map (es.push { key := .int .i64 k, val := v, born := clock }) (clock + 1))) := by
 have hu : Tryz.prog.underlying 48 = some (.map 3 46) := Tryz.underlying48
 have hi : Tryz.prog.underlying 3 = some (.int .i64) := Tryz.underlying3
 have h1 : (getObj r).run Tryz.prog w = .ok (.map es clock) w := by simp [getObj, Sem.run, h]
 have h2 : (Instr.checkKey false 10000 3 (.int .i64 k)).run Tryz.prog w = .ok () w := run_checkKey hi (by simp [IsKey]) false 9999
 have h3 := run_findKey (P := Tryz.prog) (w := w) hi hf
 simp [Instr.mapUpdate, run_underlying hu, h1, h2, h3, run_setObj_map _ h, setB]
theorem run_lookS {w : World} {r clock i : Nat} {es : Array MapEntry} {k : Int} {v : Value} (h : w.heap[r]? = some (.map es clock)) (hf : Instr.findNow (.int .i64) (.int .i64 k) es.toList 0 = some (some (i, v))) :
 (Instr.lookup 48 (.map (some r)) (.int .i64 k) true).run Tryz.prog w = .ok (.tuple #[v, .bool true]) w := by
 have hu : Tryz.prog.underlying 48 = some (.map 3 46) := Tryz.underlying48
 have hi : Tryz.prog.underlying 3 = some (.int .i64) := Tryz.underlying3
 have h1 : (getObj r).run Tryz.prog w = .ok (.map es clock) w := by simp [getObj, Sem.run, h]
 have h2 : (Instr.checkKey es.isEmpty 10000 3 (.int .i64 k)).run Tryz.prog w = .ok () w := run_checkKey hi (by simp [IsKey]) _ 9999
 have h3 := run_findKey (P := Tryz.prog) (w := w) hi hf
 simp [Instr.lookup, run_underlying hu, h1, h2, h3]
theorem info_ask : (Tryz.prog.info? 46).map (fun i => (i.zero, i.size, i.bytes)) = some (some .nilFunc, 1, 8) := by kernel_rfl
theorem run_missS {w : World} {r clock : Nat} {es : Array MapEntry} {k : Int} (h : w.heap[r]? = some (.map es clock)) (hf : Instr.findNow (.int .i64) (.int .i64 k) es.toList 0 = some none) :
 (Instr.lookup 48 (.map (some r)) (.int .i64 k) true).run Tryz.prog w = .ok (.tuple #[.nilFunc, .bool false]) w := by
 have hu : Tryz.prog.underlying 48 = some (.map 3 46) := Tryz.underlying48
 have hi : Tryz.prog.underlying 3 = some (.int .i64) := Tryz.underlying3
 have h1 : (getObj r).run Tryz.prog w = .ok (.map es clock) w := by simp [getObj, Sem.run, h]
 have h2 : (Instr.checkKey es.isEmpty 10000 3 (.int .i64 k)).run Tryz.prog w = .ok () w := run_checkKey hi (by simp [IsKey]) _ 9999
 have h3 := run_findKey (P := Tryz.prog) (w := w) hi hf
 have hz : (zeroValue 46).run Tryz.prog w = .ok .nilFunc w := by
  obtain ⟨i0, hi0, hz0, -, -⟩ := info_parts info_ask
  simp [zeroValue, typeInfo, hi0, hz0]
 simp [Instr.lookup, run_underlying hu, h1, h2, h3, hz]
theorem wpList_insS {w : World} {ops : Array Oper} {rest : List Oper} {o : Oper} {a : Act} {Q : Exit -> Act -> World -> Prop}
 (hg : o.guard = none) (m x v : Operand) (hop : o.op = Op.insert 48 m x v) {r : Nat} {l : List (Int × Value)} {k : Int} {u : Value}
 (hm : a.eval m = .map (some r)) (hx : a.eval x = .int .i64 k) (hv : a.eval v = u) (h : MapAt w r l) (hl : ∀ p ∈ l, p.1 ≠ k)
 (hK : ∀ W', MapAt W' r (l ++ [(k, u)]) -> Below r w W' -> wpList Tryz.prog ops Q rest (a.put o.dst undef) W') :
 wpList Tryz.prog ops Q (o :: rest) a w := by
 have hK' := hK _ (h.ins k u) (Below.setB (Below.refl _ _) (Nat.le_refl _) _)
 refine wpList_plain hg fun K' hK2 => ?_
 unfold Oper.wp
 simp [execOp, hop, hm, hx, hv, run_insS h (find_none hl), Result.andThen]
 exact hK2 _ _ hK'
def askF (n : Nat) : Value := .func (.func n) #[] #[]
def askL : List (Int × Value) := [(1, askF 27), (2, askF 30), (3, askF 33), (4, askF 35), (5, askF 37), (6, askF 40), (7, askF 42), (8, askF 44), (9, askF 45)]
set_option maxHeartbeats 4000000 in
theorem asks_any (w : World) : Calls Tryz.prog 15 #[] w fun e w' => ∃ m, e = .returned (.map (some m)) /\ MapAt w' m askL /\ Below w.heap.size w w' := by
 have HM : Hid (MapAt (w.alloc (.map #[] 0)) w.heap.size []) := Lib.hid (heap_alloc_new _ _)
 have HB : Hid (Below w.heap.size w (w.alloc (.map #[] 0))) := Lib.hid ((Below.refl _ _).alloc (Nat.le_refl _) _)
 have hmm := @run_makeMap Tryz.prog
 go_enter Tryz.func15, Tryz.ntmps15
 go_wp2_with (refine wpList_insS rfl _ _ _ rfl rfl rfl rfl HM.out (by simp) ?_; intro V hm hbb; replace HM := Lib.hid hm; replace HB := Lib.hid (HB.out.trans hbb); clear hm hbb)
 go_ret
 exact ⟨w.heap.size, rfl, HM.out, HB.out⟩
end Go.Proofs.YtcndplnnighjkaaGreatDoor.Sn
