/-
  Print: a node, and all that stands below it.
-/
import Derived.Test.YtkcfpglmlhoiaaaDoorFoN
import Derived.Test.YtkcfpglmlhoiaaaDoorFoJ
namespace Go.Proofs.YtkcfpglmlhoiaaaDoor
open Go.ChangeShapes Go.WideShapes Go.ChangeAt Go.RowKit
set_option linter.unusedVariables false
set_option linter.unusedSimpArgs false

/-- A node as a text, so many levels deep. -/
def pr (F : List Mn) : Nat → Nat → List UInt8
  | 0, _ => []
  | f + 1, i => match F[i]? with
    | none => []
    | some m => if m.kind = 3 then [60, 33] ++ esc m.text.data.toList ++ [33, 62]
      else if m.kind = 2 then esc m.text.data.toList
      else if m.kind = 1 then openL m ++ m.kids.flatMap (fun k => pr F f k.toNat) ++ ([60, 47] ++ m.name.data.toList ++ [62])
      else if m.kind = 0 then m.kids.flatMap (fun k => pr F f k.toNat)
      else []
/-- So many levels are enough. -/
def Dp (F : List Mn) : Nat → Nat → Prop
  | 0, _ => False
  | f + 1, i => i < F.length ∧ ∀ k ∈ kidsOf F i, 0 ≤ k ∧ Dp F f k.toNat
def tellF (kf b kt : Nat) : Value := .func (.func 27) #[] #[.pointer (some ⟨kf, 0, none⟩), .pointer (some ⟨b, 0, none⟩), .pointer (some ⟨kt, 0, none⟩)]
/-- What the closure reads: the forest's variable, its own; what lay there ahead of Print. -/
structure Ctx (w0 : World) (A : Option Addr) (n c kf b kt : Nat) (w : World) : Prop where
  bel : Below w0.heap.size w0 w
  f : w.heap[kf]? = some (.cells #[.slice A n c] 23 (0, 0))
  t : w.heap[kt]? = some (.cells #[tellF kf b kt] 58 (0, 0))
  sz : b < w.heap.size
theorem Ctx.keep {w0 w w' : World} {A : Option Addr} {n c kf b kt : Nat} (h : Ctx w0 A n c kf b kt w) (h0 : w0.heap.size ≤ b) (hkf : kf < b) (hkt : kt ≠ b) (hb : Below b w w') (ho : Oth b w w') : Ctx w0 A n c kf b kt w' :=
  ⟨h.bel.trans (hb.mono h0), (hb.block kf hkf).trans h.f, ho kt _ h.t (by simp; exact hkt) (fun c fz e => by cases e), Nat.lt_of_lt_of_le h.sz hb.size⟩
theorem Ctx.below {w0 w w' : World} {A : Option Addr} {n c kf b kt : Nat} (h : Ctx w0 A n c kf b kt w) (hb : Below w.heap.size w w') : Ctx w0 A n c kf b kt w' :=
  ⟨h.bel.trans (hb.mono h.bel.size), (hb.block kf (lt_of_block h.f)).trans h.f, (hb.block kt (lt_of_block h.t)).trans h.t, Nat.lt_of_lt_of_le h.sz hb.size⟩
/-- Of what lay there, below the builder and beside it, nothing has turned. -/
structure Stp (b : Nat) (w w' : World) : Prop where
  bel : Below b w w'
  oth : Oth b w w'
theorem Stp.trans {b : Nat} {x y z : World} (h : Stp b x y) (k : Stp b y z) : Stp b x z := ⟨h.bel.trans k.bel, h.oth.trans k.oth⟩
theorem Stp.of {b : Nat} {w w' : World} (h : Below w.heap.size w w') (hb : b ≤ w.heap.size) : Stp b w w' := ⟨h.mono hb, fun k o hk _ _ => (h.block k (lt_of_block hk)).trans hk⟩
theorem Ctx.step {w0 w w' : World} {A : Option Addr} {n c kf b kt : Nat} (h : Ctx w0 A n c kf b kt w) (h0 : w0.heap.size ≤ b) (hkf : kf < b) (hkt : kt ≠ b) (hs : Stp b w w') : Ctx w0 A n c kf b kt w' := h.keep h0 hkf hkt hs.bel hs.oth
theorem Stp.node {b k : Nat} {w w' : World} {cs : Array Value} (h : Stp b w w') (hk : w.heap[k]? = some (.cells cs 34 (0, 0))) (hne : k ≠ b) : w'.heap[k]? = some (.cells cs 34 (0, 0)) := h.oth k _ hk (by simp; exact hne) (fun c fz e => by cases e)
theorem flat_take {α β : Type} (P : α → List β) (l : List α) (j : Nat) : ((l.take j).flatMap P).length ≤ (l.flatMap P).length := by
  have : l.flatMap P = (l.take j).flatMap P ++ (l.drop j).flatMap P := by rw [← List.flatMap_append, List.take_append_drop]
  rw [this, List.length_append]
  omega
structure Sz2 (F : List Mn) : Prop where
  len : F.length ≤ 1000
  kids : ∀ m ∈ F, m.kids.length ≤ 1000
  attrs : ∀ m ∈ F, m.attrs.length ≤ 100
  str : ∀ m ∈ F, m.name.size ≤ 1000 ∧ m.text.size ≤ 1000 ∧ ∀ a ∈ m.attrs, a.1.size ≤ 1000 ∧ a.2.size ≤ 1000
set_option maxRecDepth 100000 in
set_option maxHeartbeats 8000000 in
theorem tell_any (w0 : World) (A : Option Addr) (F : List Mn) (c kf b kt : Nat) (mx : Int) (hF : FR w0 A F) (hz : Sz2 F) (hm : w0.cell? ⟨0, 0, none⟩ = some (.int .i64 mx)) (h0 : w0.heap.size ≤ b) (hkf : kf < b) (hkt : kt ≠ b) :
    ∀ (f i : Nat) (acc : List UInt8) (w : World), Dp F f i → Ctx w0 A F.length c kf b kt w → Bd w b acc → acc.length + (pr F f i).length ≤ 1000000000 →
      Calls Tryd.prog 27 #[.int .i64 i, .pointer (some ⟨kf, 0, none⟩), .pointer (some ⟨b, 0, none⟩), .pointer (some ⟨kt, 0, none⟩)] w fun e w' => e = .returned (.tuple #[]) ∧ Bd w' b (acc ++ pr F f i) ∧ Below b w w' ∧ Oth b w w' := by
  have HF := Lib.hid hF
  have HZ := Lib.hid hz
  have HM := Lib.hid hm
  have hg0 : 0 < w0.heap.size := World.block_lt_of_cell? _ _ hm
  clear hF hz hm
  intro f
  induction f with
  | zero => intro i acc w hd; exact absurd hd (by simp [Dp])
  | succ f ih =>
    intro i acc w hd hctx hbd hlen
    obtain ⟨hiF, hkd⟩ := hd
    have HC := Lib.hid hctx
    have HBd := Lib.hid hbd
    have HIH := Lib.hid ih
    have HKD := Lib.hid hkd
    rw [kidsOf_at hiF] at HKD
    have hmem : F[i] ∈ F := List.getElem_mem _
    obtain ⟨hfit, g, off, hA, hg, hnode⟩ := HF.out.below hctx.bel i F[i] (List.getElem?_eq_getElem hiF)
    have HP : Hid (pr F (f + 1) i = (if F[i].kind = 3 then [60, 33] ++ esc F[i].text.data.toList ++ [33, 62]
      else if F[i].kind = 2 then esc F[i].text.data.toList
      else if F[i].kind = 1 then openL F[i] ++ F[i].kids.flatMap (fun k => pr F f k.toNat) ++ ([60, 47] ++ F[i].name.data.toList ++ [62])
      else if F[i].kind = 0 then F[i].kids.flatMap (fun k => pr F f k.toNat)
      else [])) := Lib.hid (by rw [pr, List.getElem?_eq_getElem hiF])
    obtain ⟨hs1, hs2, hs3⟩ := HZ.out.str F[i] hmem
    have hal := HZ.out.attrs F[i] hmem
    have hkl := HZ.out.kids F[i] hmem
    have hnl := HZ.out.len
    have HS3 := Lib.hid hs3
    have HN := Lib.hid hnode
    have HIR : Hid (∀ W', Below w0.heap.size w0 W' → IR W' F[i].kA F[i].kids ∧ AR W' F[i].aA F[i].attrs) := Lib.hid (fun W' hW' => by
      obtain ⟨-, g', off', -, -, hn'⟩ := HF.out.below hW' i F[i] (List.getElem?_eq_getElem hiF)
      exact ⟨hn'.ir, hn'.ar⟩)
    have HMx : Hid (∀ W', Below w0.heap.size w0 W' → W'.cell? ⟨0, 0, none⟩ = some (.int .i64 mx)) := Lib.hid (fun W' hW' => (hW'.cell (p := ⟨0, 0, none⟩) hg0).trans HM.out)
    have c0 := hnode.c0
    have c1 := hnode.c1
    have c2 := hnode.c2
    have c3 := hnode.c3
    have c4 := hnode.c4
    have c5 := hnode.c5
    have i0 : (0 : Int) ≤ (i : Int) := by omega
    have i1 : (i : Int) < (F.length : Int) := by omega
    have x0 := block1 HC.out.f
    subst hA
    clear ih hkd hctx hbd hmem hfit hnode hs3
    generalize pr F (f + 1) i = PR at *
    generalize F[i] = m at *
    generalize hnF : F.length = n at *
    have HNF := Lib.hid hnF
    clear hnF
    obtain ⟨kl, hkle⟩ : ∃ kl, m.kids.length = kl := ⟨_, rfl⟩
    have HKL := Lib.hid hkle
    rw [hkle] at c5 hkl
    clear hkle
    obtain ⟨W, hW⟩ : ∃ W, W = w.alloc (.cells #[.int .i64 m.kind, .string m.name, .string m.text, .slice m.aA m.attrs.length m.aC, .int .i64 m.parent, .slice m.kA kl m.kC] 34) := ⟨_, rfl⟩
    have hbW : Below w.heap.size w W := by rw [hW]; exact (Below.refl _ _).alloc (Nat.le_refl _) _
    have HWk : Hid (W.heap[w.heap.size]? = some (.cells #[.int .i64 m.kind, .string m.name, .string m.text, .slice m.aA m.attrs.length m.aC, .int .i64 m.parent, .slice m.kA kl m.kC] 34 (0, 0))) := Lib.hid (by rw [hW]; exact heap_alloc_new _ _)
    have HCW := Lib.hid (HC.out.below hbW)
    have HBW := Lib.hid (bd_below HBd.out hbW)
    have hbs : b < w.heap.size := HC.out.sz
    have HSW : Hid (Stp b w W) := Lib.hid (Stp.of hbW (Nat.le_of_lt hbs))
    have hnb : w.heap.size ≠ b := by omega
    have HOp := Lib.hid (fun (W' : World) (hb' : Below w0.heap.size w0 W') => opening_any m mx W' (HMx.out W' hb') (HIR.out W' hb').2 hs1 hal HS3.out)
    have HEs := Lib.hid (fun (W' : World) (hb' : Below w0.heap.size w0 W') => escaped_any m.text mx W' (HMx.out W' hb') (by omega))
    unfold nval at HOp
    rw [HKL.out] at HOp
    go_enter Tryd.func27, Tryd.ntmps27
    go_upto_region 1 with fail
    rw [← hW]
    clear hW hbW c0 c1 c2 c3 c4 c5 x0
    obtain ⟨x0, x1, x2, x3, x4, x5⟩ := block6 HWk.out
    generalize m.kind = kd at *
    generalize openL m = OL at *
    generalize esc m.text.data.toList = EL at *
    by_cases k3 : kd = 3
    · subst k3
      have HPe : Hid (PR = [60, 33] ++ EL ++ [33, 62]) := Lib.hid (by rw [HP.out]; simp)
      rw [HPe.out] at hlen
      simp only [List.length_append, List.length_cons, List.length_nil] at hlen
      have HW1 := Lib.hid (ws_any b acc ⟨#[60, 33]⟩ W HBW.out (Nat.le_of_lt HCW.out.sz) (by show acc.length + 2 ≤ _; omega))
      go_wp2_with fail
      refine HW1.out.mono ?_
      rintro e w1 ⟨rfl, hb1, hB1, hO1⟩
      have HS1 : Hid (Stp b W w1) := Lib.hid ⟨hB1, hO1⟩
      have HB1 := Lib.hid hb1
      have HC1 := Lib.hid (HCW.out.step h0 hkf hkt HS1.out)
      have HK1 := Lib.hid (HS1.out.node HWk.out hnb)
      clear hb1 hB1 hO1 x0 x1 x2 x3 x4 x5
      obtain ⟨x0, x1, x2, x3, x4, x5⟩ := block6 HK1.out
      go_wp2_with fail
      refine (HEs.out w1 HC1.out.bel).mono ?_
      rintro e w2 ⟨rfl, hb2⟩
      have HS2 : Hid (Stp b w1 w2) := Lib.hid (Stp.of hb2 (Nat.le_of_lt HC1.out.sz))
      have HB2 := Lib.hid (bd_below HB1.out hb2)
      have HC2 := Lib.hid (HC1.out.below hb2)
      clear hb2 x0 x1 x2 x3 x4 x5
      have HW3 := Lib.hid (ws_any b _ ⟨EL.toArray⟩ w2 HB2.out (Nat.le_of_lt HC2.out.sz) (by rw [List.length_append]; show acc.length + 2 + EL.length ≤ _; omega))
      go_wp2_with fail
      refine HW3.out.mono ?_
      rintro e w3 ⟨rfl, hb3, hB3, hO3⟩
      have HS3' : Hid (Stp b w2 w3) := Lib.hid ⟨hB3, hO3⟩
      have HB3 := Lib.hid hb3
      have HC3 := Lib.hid (HC2.out.step h0 hkf hkt HS3'.out)
      clear hb3 hB3 hO3
      have HW4 := Lib.hid (ws_any b _ ⟨#[33, 62]⟩ w3 HB3.out (Nat.le_of_lt HC3.out.sz) (by rw [List.length_append, List.length_append]; show acc.length + 2 + EL.length + 2 ≤ _; omega))
      go_wp2_with fail
      refine HW4.out.mono ?_
      rintro e w4 ⟨rfl, hb4, hB4, hO4⟩
      have HB4 : Hid (Bd w4 b (acc ++ PR)) := Lib.hid (by rw [HPe.out]; simpa [List.append_assoc] using hb4)
      have HS4 := Lib.hid ((((HSW.out.trans HS1.out).trans HS2.out).trans HS3'.out).trans ⟨hB4, hO4⟩)
      clear hb4 hB4 hO4
      go_wp2
      go_end0
      exact ⟨rfl, HB4.out, HS4.out.bel, HS4.out.oth⟩
    by_cases k2 : kd = 2
    · subst k2
      have HPe : Hid (PR = EL) := Lib.hid (by rw [HP.out]; simp)
      rw [HPe.out] at hlen
      go_wp2_with fail
      refine (HEs.out W HCW.out.bel).mono ?_
      rintro e w2 ⟨rfl, hb2⟩
      have HS2 : Hid (Stp b W w2) := Lib.hid (Stp.of hb2 (Nat.le_of_lt HCW.out.sz))
      have HB2 := Lib.hid (bd_below HBW.out hb2)
      have HC2 := Lib.hid (HCW.out.below hb2)
      clear hb2 x0 x1 x2 x3 x4 x5
      have HW3 := Lib.hid (ws_any b _ ⟨EL.toArray⟩ w2 HB2.out (Nat.le_of_lt HC2.out.sz) (by show acc.length + EL.length ≤ _; omega))
      go_wp2_with fail
      refine HW3.out.mono ?_
      rintro e w3 ⟨rfl, hb3, hB3, hO3⟩
      have HS3' : Hid (Stp b w2 w3) := Lib.hid ⟨hB3, hO3⟩
      have HB3 := Lib.hid hb3
      have HC3 := Lib.hid (HC2.out.step h0 hkf hkt HS3'.out)
      clear hb3 hB3 hO3
      have HW4 := Lib.hid (ws_any b _ ⟨#[]⟩ w3 HB3.out (Nat.le_of_lt HC3.out.sz) (by rw [List.length_append]; show acc.length + EL.length + 0 ≤ _; omega))
      go_wp2_with fail
      refine HW4.out.mono ?_
      rintro e w4 ⟨rfl, hb4, hB4, hO4⟩
      have HB4 : Hid (Bd w4 b (acc ++ PR)) := Lib.hid (by rw [HPe.out]; simpa using hb4)
      have HS4 := Lib.hid (((HSW.out.trans HS2.out).trans HS3'.out).trans ⟨hB4, hO4⟩)
      clear hb4 hB4 hO4
      go_wp2
      go_end0
      exact ⟨rfl, HB4.out, HS4.out.bel, HS4.out.oth⟩
    generalize m.kids = kids at *
    generalize m.kA = kA at *
    by_cases k1 : kd = 1
    · subst k1
      have HPe : Hid (PR = OL ++ kids.flatMap (fun k => pr F f k.toNat) ++ ([60, 47] ++ m.name.data.toList ++ [62])) := Lib.hid (by rw [HP.out]; simp)
      rw [HPe.out] at hlen
      obtain ⟨es, hes⟩ : ∃ es : ByteArray, es = (⟨#[60, 47]⟩ ++ m.name ++ ⟨#[62]⟩ : ByteArray) := ⟨_, rfl⟩
      have HES : Hid (es.data.toList = [60, 47] ++ m.name.data.toList ++ [62]) := Lib.hid (by rw [hes, app_list, app_list])
      have hends : es.size ≤ 1003 := by
        rw [size_list, HES.out, List.length_append, List.length_append, ← size_list]
        simp only [List.length_cons, List.length_nil]
        omega
      have HLT : Hid ((acc ++ OL).length + (kids.flatMap (fun k => pr F f k.toNat)).length ≤ 1000000000) := Lib.hid (by simp only [List.length_append] at *; omega)
      go_wp2_with fail
      refine (HOp.out W HCW.out.bel).mono ?_
      rintro e w2 ⟨rfl, hb2⟩
      have HS2 : Hid (Stp b W w2) := Lib.hid (Stp.of hb2 (Nat.le_of_lt HCW.out.sz))
      have HB2 := Lib.hid (bd_below HBW.out hb2)
      have HC2 := Lib.hid (HCW.out.below hb2)
      have HK2 := Lib.hid (HS2.out.node HWk.out hnb)
      clear hb2 x0 x1 x2 x3 x4 x5
      have HW3 := Lib.hid (ws_any b _ ⟨OL.toArray⟩ w2 HB2.out (Nat.le_of_lt HC2.out.sz) (by show acc.length + OL.length ≤ _; have := HLT.out; simp only [List.length_append] at *; omega))
      go_wp2_with fail
      refine HW3.out.mono ?_
      rintro e w3 ⟨rfl, hb3, hB3, hO3⟩
      have HS3' : Hid (Stp b w2 w3) := Lib.hid ⟨hB3, hO3⟩
      have HB3 : Hid (Bd w3 b (acc ++ OL)) := Lib.hid hb3
      have HC3 := Lib.hid (HC2.out.step h0 hkf hkt HS3'.out)
      have HK3 := Lib.hid (HS3'.out.node HK2.out hnb)
      have HSa := Lib.hid ((HSW.out.trans HS2.out).trans HS3'.out)
      clear hb3 hB3 hO3
      obtain ⟨x0, x1, x2, x3, x4, x5⟩ := block6 HK3.out
      go_upto_region 12 with fail
      rw [← hes]
      clear hes
      go_wp2_with fail
      go_loopw [38] (fun q wr => ∃ j : Nat, j ≤ kl ∧ q = .int .i64 j ∧ Hid (Bd wr b ((acc ++ OL) ++ (kids.take j).flatMap (fun k => pr F f k.toNat))) ∧ Hid (Ctx w0 (some ⟨g, off, none⟩) n c kf b kt wr) ∧ Hid (Stp b w wr)) (fun q _ => kl - (intOf q).toNat)
      case atStart => exact ⟨0, Nat.zero_le _, rfl, Lib.hid (by simpa using HB3.out), HC3, HSa⟩
      case round =>
        obtain ⟨j, hj, rfl, HBj, HCj, HSj⟩ := hrel
        by_cases hlt : j < kl
        · have k0 : (0 : Int) ≤ (j : Int) := by omega
          have k1 : (j : Int) < (kl : Int) := by omega
          have hjl : j < kids.length := by rw [HKL.out]; exact hlt
          obtain ⟨gk, ok, hAk, hgk, hck⟩ := (HIR.out wr HCj.out.bel).1 j hjl
          obtain ⟨hy0, hyd⟩ := HKD.out (kids.getD j 0) (by rw [getD_at 0 hjl]; exact List.getElem_mem _)
          have HT2 : Hid ((kids.take (j + 1)).flatMap (fun k => pr F f k.toNat) = (kids.take j).flatMap (fun k => pr F f k.toNat) ++ pr F f (kids.getD j 0).toNat) := Lib.hid (by rw [take_more hjl, List.flatMap_append, getD_at 0 hjl]; simp)
          have hle := flat_take (fun k : Int => pr F f k.toNat) kids (j + 1)
          rw [HT2.out, List.length_append] at hle
          generalize kids.getD j 0 = y at *
          obtain ⟨k, rfl⟩ := Int.eq_ofNat_of_zero_le hy0
          rw [Int.toNat_natCast] at HT2 hle hyd
          have HCl := Lib.hid (HIH.out k _ wr hyd HCj.out HBj.out (by have := HLT.out; simp only [List.length_append] at *; omega))
          have y1 := block1 HCj.out.t
          unfold tellF at y1
          subst hAk
          clear hle hyd
          go_wp2_with fail
          refine HCl.out.mono ?_
          rintro e w5 ⟨rfl, hb5, hB5, hO5⟩
          have HB5 : Hid (Bd w5 b ((acc ++ OL) ++ (kids.take (j + 1)).flatMap (fun k => pr F f k.toNat))) := Lib.hid (by rw [HT2.out, ← List.append_assoc]; exact hb5)
          have HS5 : Hid (Stp b wr w5) := Lib.hid ⟨hB5, hO5⟩
          have HC5 := Lib.hid (HCj.out.step h0 hkf hkt HS5.out)
          have HS6 := Lib.hid (HSj.out.trans HS5.out)
          clear hb5 hB5 hO5
          go_wp2
          go_roundw
          case rel => exact ⟨j + 1, by omega, by go_num, HB5, HC5, HS6⟩
          case measure => simp [intOf] <;> omega
        · obtain rfl : j = kl := by omega
          have et : kids.take j = kids := List.take_of_length_le (by rw [HKL.out]; exact Nat.le_refl _)
          rw [et] at HBj
          have HWe := Lib.hid (ws_any b _ es wr HBj.out (Nat.le_of_lt HCj.out.sz) (by have := HLT.out; have := hends; simp only [List.length_append] at *; omega))
          go_wp2_with fail
          refine HWe.out.mono ?_
          rintro e w5 ⟨rfl, hb5, hB5, hO5⟩
          have HB5 : Hid (Bd w5 b (acc ++ PR)) := Lib.hid (by rw [HPe.out]; rw [HES.out] at hb5; simpa [List.append_assoc] using hb5)
          have HS5 := Lib.hid (HSj.out.trans ⟨hB5, hO5⟩)
          clear hb5 hB5 hO5
          go_wp2
          go_end0
          exact ⟨rfl, HB5.out, HS5.out.bel, HS5.out.oth⟩

    by_cases k0' : kd = 0
    · subst k0'
      have HPe : Hid (PR = kids.flatMap (fun k => pr F f k.toNat)) := Lib.hid (by rw [HP.out]; simp)
      rw [HPe.out] at hlen
      have hends : (0 : Nat) ≤ 1003 := by omega
      have HLT : Hid (acc.length + (kids.flatMap (fun k => pr F f k.toNat)).length ≤ 1000000000) := Lib.hid (by omega)

      go_wp2_with fail
      go_loopw [38] (fun q wr => ∃ j : Nat, j ≤ kl ∧ q = .int .i64 j ∧ Hid (Bd wr b (acc ++ (kids.take j).flatMap (fun k => pr F f k.toNat))) ∧ Hid (Ctx w0 (some ⟨g, off, none⟩) n c kf b kt wr) ∧ Hid (Stp b w wr)) (fun q _ => kl - (intOf q).toNat)
      case atStart => exact ⟨0, Nat.zero_le _, rfl, Lib.hid (by simpa using HBW.out), HCW, HSW⟩
      case round =>
        obtain ⟨j, hj, rfl, HBj, HCj, HSj⟩ := hrel
        by_cases hlt : j < kl
        · have k0 : (0 : Int) ≤ (j : Int) := by omega
          have k1 : (j : Int) < (kl : Int) := by omega
          have hjl : j < kids.length := by rw [HKL.out]; exact hlt
          obtain ⟨gk, ok, hAk, hgk, hck⟩ := (HIR.out wr HCj.out.bel).1 j hjl
          obtain ⟨hy0, hyd⟩ := HKD.out (kids.getD j 0) (by rw [getD_at 0 hjl]; exact List.getElem_mem _)
          have HT2 : Hid ((kids.take (j + 1)).flatMap (fun k => pr F f k.toNat) = (kids.take j).flatMap (fun k => pr F f k.toNat) ++ pr F f (kids.getD j 0).toNat) := Lib.hid (by rw [take_more hjl, List.flatMap_append, getD_at 0 hjl]; simp)
          have hle := flat_take (fun k : Int => pr F f k.toNat) kids (j + 1)
          rw [HT2.out, List.length_append] at hle
          generalize kids.getD j 0 = y at *
          obtain ⟨k, rfl⟩ := Int.eq_ofNat_of_zero_le hy0
          rw [Int.toNat_natCast] at HT2 hle hyd
          have HCl := Lib.hid (HIH.out k _ wr hyd HCj.out HBj.out (by have := HLT.out; simp only [List.length_append] at *; omega))
          have y1 := block1 HCj.out.t
          unfold tellF at y1
          subst hAk
          clear hle hyd
          go_wp2_with fail
          refine HCl.out.mono ?_
          rintro e w5 ⟨rfl, hb5, hB5, hO5⟩
          have HB5 : Hid (Bd w5 b (acc ++ (kids.take (j + 1)).flatMap (fun k => pr F f k.toNat))) := Lib.hid (by rw [HT2.out, ← List.append_assoc]; exact hb5)
          have HS5 : Hid (Stp b wr w5) := Lib.hid ⟨hB5, hO5⟩
          have HC5 := Lib.hid (HCj.out.step h0 hkf hkt HS5.out)
          have HS6 := Lib.hid (HSj.out.trans HS5.out)
          clear hb5 hB5 hO5
          go_wp2
          go_roundw
          case rel => exact ⟨j + 1, by omega, by go_num, HB5, HC5, HS6⟩
          case measure => simp [intOf] <;> omega
        · obtain rfl : j = kl := by omega
          have et : kids.take j = kids := List.take_of_length_le (by rw [HKL.out]; exact Nat.le_refl _)
          rw [et] at HBj
          have HWe := Lib.hid (ws_any b _ ⟨#[]⟩ wr HBj.out (Nat.le_of_lt HCj.out.sz) (by have := HLT.out; simp only [List.length_append] at *; show _ + 0 ≤ _; omega))
          go_wp2_with fail
          refine HWe.out.mono ?_
          rintro e w5 ⟨rfl, hb5, hB5, hO5⟩
          have HB5 : Hid (Bd w5 b (acc ++ PR)) := Lib.hid (by rw [HPe.out]; simpa using hb5)
          have HS5 := Lib.hid (HSj.out.trans ⟨hB5, hO5⟩)
          clear hb5 hB5 hO5
          go_wp2
          go_end0
          exact ⟨rfl, HB5.out, HS5.out.bel, HS5.out.oth⟩

    · have HPe : Hid (PR = []) := Lib.hid (by rw [HP.out, if_neg k3, if_neg k2, if_neg k1, if_neg k0'])
      have HW4 := Lib.hid (ws_any b _ ⟨#[]⟩ W HBW.out (Nat.le_of_lt HCW.out.sz) (by show acc.length + 0 ≤ _; omega))
      go_wp2_with fail
      refine HW4.out.mono ?_
      rintro e w4 ⟨rfl, hb4, hB4, hO4⟩
      have HB4 : Hid (Bd w4 b (acc ++ PR)) := Lib.hid (by rw [HPe.out]; simpa using hb4)
      have HS4 := Lib.hid (HSW.out.trans ⟨hB4, hO4⟩)
      clear hb4 hB4 hO4
      go_wp2
      go_end0
      exact ⟨rfl, HB4.out, HS4.out.bel, HS4.out.oth⟩
end Go.Proofs.YtkcfpglmlhoiaaaDoor
