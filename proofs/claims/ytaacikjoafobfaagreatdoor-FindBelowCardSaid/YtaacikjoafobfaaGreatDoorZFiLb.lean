/-
  The law FindBelow: a compound behind a blank finds those that fit and are below one that does what stands ahead; behind a > those that have it as their parent.
-/
import Derived.Test.YtaacikjoafobfaaGreatDoorZFiLbm
import Derived.Test.YtaacikjoafobfaaGreatDoorZFiO
import Derived.Test.YtaacikjoafobfaaGreatDoorG18
import Derived.StillTailTactics
namespace Go.Proofs.YtaacikjoafobfaaGreatDoor.Fi
open Go.ChangeShapes Go.WideShapes Go.ChangeAt Go.RowKit
open Sx (Tr Ms Mr TR MR XR tV r1 ls te stp rws cx cl cx_iff)
set_option linter.unusedVariables false
set_option linter.unusedSimpArgs false

/-- A compound that can be asked. -/
structure Cb (w : World) (B : Option Addr) (T : List Tr) (d : Nat) : Prop where
  tr : TR w B T
  cap : T.length ≤ d
  big : d ≤ 9223372036854775807
theorem Cb.below {w w' : World} {B : Option Addr} {T : List Tr} {d : Nat} (h : Cb w B T d) (hb : Below w.heap.size w w') : Cb w' B T d := ⟨h.tr.below hb, h.cap, h.big⟩
theorem block4b {w : World} {g : Nat} {x y z u : Value} {t : TypeId} (h : w.heap[g]? = some (.cells #[x, y, z, u] t (0, 0))) : w.cell? ⟨g, 0, none⟩ = some x ∧ w.cell? ⟨g, 1, none⟩ = some y ∧ w.cell? ⟨g, 2, none⟩ = some z ∧ w.cell? ⟨g, 3, none⟩ = some u := by
  refine ⟨?_, ?_, ?_, ?_⟩ <;> simp [World.cell?, h]
/-- A selector of one row of two steps, written out. -/
def lit2W (V : World) (A : Option Addr) (n c : Nat) (B : Option Addr) (m d : Nat) (ch : Bool) : World := (V.alloc (.cells #[.slice A n c, .bool false, .slice B m d, .bool ch] 54)).alloc (.cells #[.slice (some ⟨V.heap.size, 0, none⟩) 2 2] 46)
def lit2X (V : World) (A : Option Addr) (a : List Tr) (c : Nat) (B : Option Addr) (b : List Tr) (d : Nat) (ch : Bool) : List Mr := [((some ⟨V.heap.size, 0, none⟩, 2), [((A, c), (a, false)), ((B, d), (b, ch))])]
theorem lit2_below (V : World) (A : Option Addr) (n c : Nat) (B : Option Addr) (m d : Nat) (ch : Bool) : Below V.heap.size V (lit2W V A n c B m d ch) := ((Below.refl _ _).alloc (Nat.le_refl _) _).alloc (by simp) _
theorem lit2_xr {V : World} {A : Option Addr} {a : List Tr} {c : Nat} {B : Option Addr} {b : List Tr} {d : Nat} (h : Cb V A a c) (k : Cb V B b d) (ch : Bool) : XR (lit2W V A a.length c B b.length d ch) (some ⟨V.heap.size + 1, 0, none⟩) (lit2X V A a c B b d ch) := by
  have h1 : (lit2W V A a.length c B b.length d ch).heap[V.heap.size + 1]? = some (.cells #[.slice (some ⟨V.heap.size, 0, none⟩) 2 2] 46 (0, 0)) := by
    have := heap_alloc_new (V.alloc (.cells #[.slice A a.length c, .bool false, .slice B b.length d, .bool ch] 54)) (.cells #[.slice (some ⟨V.heap.size, 0, none⟩) 2 2] 46)
    rwa [World.size_alloc] at this
  have h0 : (lit2W V A a.length c B b.length d ch).heap[V.heap.size]? = some (.cells #[.slice A a.length c, .bool false, .slice B b.length d, .bool ch] 54 (0, 0)) := (Below.heap_alloc _ _ _ (by simp)).trans (heap_alloc_new V _)
  obtain ⟨e0, e1, e2, e3⟩ := block4b h0
  intro i m hi
  match i, hi with
  | 0, hi =>
    cases hi
    refine ⟨V.heap.size + 1, 0, rfl, lt_of_block h1, block1 h1, fun j s hj => ?_⟩
    match j, hj with
    | 0, hj =>
      cases hj
      exact ⟨V.heap.size, 0, rfl, lt_of_block h0, e0, e1, h.tr.below (lit2_below ..)⟩
    | 1, hj =>
      cases hj
      exact ⟨V.heap.size, 0, rfl, lt_of_block h0, e2, e3, k.tr.below (lit2_below ..)⟩
    | j + 2, hj => simp at hj
  | i + 1, hi => simp [lit2X] at hi
theorem lit2_fit {V : World} {A : Option Addr} {a : List Tr} {c : Nat} {B : Option Addr} {b : List Tr} {d : Nat} (h : Cb V A a c) (k : Cb V B b d) (ch : Bool) : Sx.So.SelFit (lit2X V A a c B b d ch) := by
  have h1 := h.cap
  have h2 := h.big
  have k1 := k.cap
  have k2 := k.big
  refine ⟨by simp [lit2X, Sx.So.M63], fun m hm => ?_⟩
  simp only [lit2X, List.mem_singleton] at hm
  subst hm
  refine ⟨⟨by simp [Sx.So.M63], fun s hs => ?_⟩, by simp, by simp [Sx.So.M63]⟩
  simp only [List.mem_cons, List.not_mem_nil, or_false] at hs
  rcases hs with rfl | rfl
  · exact ⟨by simp only [Sx.So.M63]; omega, h1, by simp only [Sx.So.M63]; exact h2⟩
  · exact ⟨by simp only [Sx.So.M63]; omega, k1, by simp only [Sx.So.M63]; exact k2⟩
theorem lit2_xs {V : World} {A : Option Addr} {a : List Tr} {c : Nat} {B : Option Addr} {b : List Tr} {d : Nat} (h : Cb V A a c) (k : Cb V B b d) (ch : Bool) (hs : smallS (lit2X V A a c B b d ch)) : Xs (lit2W V A a.length c B b.length d ch) (some ⟨V.heap.size + 1, 0, none⟩) (lit2X V A a c B b d ch) := by
  have hf := lit2_fit h k ch
  refine ⟨lit2_xr h k ch, hf.1, fun m hm => ?_⟩
  obtain ⟨f1, f2, f3⟩ := hf.2 m hm
  exact ⟨fun s hs' => ⟨(f1.2 s hs').1, fun t ht => Nat.le_trans (hs m hm s hs' t ht).1 (by decide)⟩, f2, f3⟩
theorem any_range {p : Nat → Bool} {k : Nat} : (List.range (k + 1)).any p = ((List.range k).any p || p k) := by
  rw [List.range_succ, List.any_append]
  simp
set_option maxRecDepth 100000 in
set_option maxHeartbeats 8000000 in
theorem below_law (A : Option Addr) (l : List Ops.Po) (c : Nat) (P : Option Addr) (a : List Tr) (pc : Nat) (Q : Option Addr) (b : List Tr) (qc : Nat) (ch : Bool) (w : World) (hL : Ops.OL w A l) (hl : l.length ≤ 9223372036854775807) (hP : Cb w P a pc) (hQ : Cb w Q b qc) (hK : Ops.KT w) :
    Calls Tryz.prog 6 #[.slice A l.length c, .slice P a.length pc, .slice Q b.length qc, .bool ch] w (GivesV (.bool true) w) := by
  have HW1 := Lib.hid (lit2_below w P a.length pc Q b.length qc ch)
  have HFw := Lib.hid (few_any (some ⟨w.heap.size + 1, 0, none⟩) (lit2X w P a pc Q b qc ch) 1 (lit2W w P a.length pc Q b.length qc ch) (lit2_xr hP hQ ch) (lit2_fit hP hQ ch))
  have HXs := Lib.hid (fun (hs : smallS (lit2X w P a pc Q b qc ch)) => lit2_xs hP hQ ch hs)
  obtain ⟨W1, hW1⟩ : ∃ W1, W1 = lit2W w P a.length pc Q b.length qc ch := ⟨_, rfl⟩
  rw [← hW1] at HW1 HFw HXs
  have HB0 := Lib.hid (bounded10 A l c W1 (hL.below HW1.out) hl)
  have HS := Lib.hid (fun (V : World) (hb : Below w.heap.size w V) => shown10 V (hK.below hb))
  have HG := Lib.hid (fun (V : World) (hb : Below w.heap.size w V) (h : l.length ≤ 150) => grown10 A l c V (hL.below hb) (by omega) (hK.below hb))
  have HLE : Hid (bdO l = true → l.length ≤ 150) := Lib.hid (fun h => by
    unfold bdO at h
    rw [Bool.and_eq_true, decide_eq_true_eq] at h
    exact h.2)
  have HPc := Lib.hid hP
  have HQc := Lib.hid hQ
  have hl1 : (lit2X w P a pc Q b qc ch).length = 1 := rfl
  rw [hl1] at HFw
  have HXE : Hid (lit2X w P a pc Q b qc ch = [((some ⟨w.heap.size, 0, none⟩, 2), [((P, pc), (a, false)), ((Q, qc), (b, ch))])]) := Lib.hid rfl
  generalize lit2X w P a pc Q b qc ch = X at *
  obtain ⟨nl, hnn⟩ : ∃ n, l.length = n := ⟨_, rfl⟩
  rw [hnn] at HB0 HG HLE hl ⊢
  obtain ⟨na, hna⟩ : ∃ na, a.length = na := ⟨_, rfl⟩
  have HNA := Lib.hid hna
  obtain ⟨nb, hnb⟩ : ∃ nb, b.length = nb := ⟨_, rfl⟩
  have HNB := Lib.hid hnb
  rw [hna, hnb] at hW1 ⊢
  clear hL hK hnn hP hQ hna hnb
  generalize bdO l = BL at *
  unfold lit2W at hW1
  go_enter Tryz.func6, Tryz.ntmps6
  go_wp2_with fail
  rw [← hW1]
  clear hW1
  refine HB0.out.mono ?_
  rintro e w' ⟨rfl, hw⟩
  obtain rfl := hw.symm
  cases BL with
  | false =>
    go_wp2_with fail
    refine (HS.out _ HW1.out).mono ?_
    rintro e w1 ⟨rfl, hb⟩
    have HB := Lib.hid (HW1.out.trans (hb.mono HW1.out.size))
    clear hb
    go_wp2
    go_ret
    exact ⟨rfl, HB.out⟩
  | true =>
  have hln := HLE.out rfl
  go_wp2_with fail
  refine HFw.out.mono ?_
  rintro e w3 ⟨⟨bb, rfl, hsm⟩, hb⟩
  have HB3 := Lib.hid (HW1.out.trans (hb.mono HW1.out.size))
  have HV3 := Lib.hid hb
  have HSm := Lib.hid hsm
  clear hb hsm
  by_cases hb1 : bb = true
  case neg =>
    obtain rfl : bb = false := by simpa using hb1
    clear hb1
    go_wp2_with fail
    refine (HS.out _ HB3.out).mono ?_
    rintro e w4 ⟨rfl, hb⟩
    have HB := Lib.hid (HB3.out.trans (hb.mono HB3.out.size))
    clear hb
    go_wp2
    go_ret
    exact ⟨rfl, HB.out⟩
  subst hb1
  have HX3 := Lib.hid (HXs.out (HSm.out rfl))
  have HSa : Hid ((∀ t ∈ a, t.2.1.size ≤ 100000) ∧ ∀ t ∈ b, t.2.1.size ≤ 100000) := Lib.hid (by
    have h := HSm.out rfl
    rw [HXE.out] at h
    have h2 := h _ (List.mem_singleton.2 rfl)
    exact ⟨fun t ht => Nat.le_trans (h2 ((P, pc), (a, false)) (by simp) t ht).1 (by decide), fun t ht => Nat.le_trans (h2 ((Q, qc), (b, ch)) (by simp) t ht).1 (by decide)⟩)
  go_wp2_with fail
  refine (HS.out _ HB3.out).mono ?_
  rintro e w4 ⟨rfl, hb⟩
  have HB4 := Lib.hid (HB3.out.trans (hb.mono HB3.out.size))
  have HV4 := Lib.hid (HV3.out.trans (hb.mono HV3.out.size))
  clear hb
  go_wp2_with fail
  refine (HG.out w4 HB4.out hln).mono ?_
  rintro e w5 ⟨Af, G, cf, rfl, hF, hm, hlk, hb⟩
  have HB5 := Lib.hid (HB4.out.trans (hb.mono HB4.out.size))
  have HV5 := Lib.hid (HV4.out.trans (hb.mono HV4.out.size))
  clear hb hlk HS HG HLE HB0 HFw
  have hn60 := (may_sz hm).1
  have h0n := (mayB_parts hm).1
  obtain ⟨n, hn⟩ : ∃ n, G.length = n := ⟨_, rfl⟩
  have HIs : Hid (∀ (V : World) (i : Nat) (hb : Below w5.heap.size w5 V) (hi : i < G.length), Calls Tryz.prog 22 #[.slice Af n cf, .int .i64 i, .slice (some ⟨w.heap.size + 1, 0, none⟩) 1 1] V (GivesV (.bool ((List.range n).any (condB G a ch i) && fitsB G[i] b)) V)) := Lib.hid (fun V i hb hi => by
    rw [← hn]
    have := is_any Af G cf i (some ⟨w.heap.size + 1, 0, none⟩) X 1 V (hF.below hb) hm hi (HX3.out.below (HV5.out.trans (hb.mono HV5.out.size)))
    rw [HXE.out] at this
    rwa [below_is hm hi] at this)
  have HFa : Hid (∀ (V : World) (u : Nat) (hb : Below w5.heap.size w5 V) (hu : u < G.length), Calls Tryz.prog 24 #[nval G[u], .slice P na pc] V (GivesV (.bool (fitsB G[u] a)) V)) := Lib.hid (fun V u hb hu => by
    obtain ⟨-, g', off', -, hg', hn⟩ := hF.below hb u G[u] (List.getElem?_eq_getElem hu)
    have := fits_any G[u] P a pc V hn.ar (may_nb hm _ (List.getElem_mem hu)) (HPc.out.tr.below (HB5.out.trans (hb.mono HB5.out.size))) HSa.out.1 (Nat.le_trans HPc.out.cap HPc.out.big)
    rwa [HNA.out] at this)
  have HFb : Hid (∀ (V : World) (u : Nat) (hb : Below w5.heap.size w5 V) (hu : u < G.length), Calls Tryz.prog 24 #[nval G[u], .slice Q nb qc] V (GivesV (.bool (fitsB G[u] b)) V)) := Lib.hid (fun V u hb hu => by
    obtain ⟨-, g', off', -, hg', hn⟩ := hF.below hb u G[u] (List.getElem?_eq_getElem hu)
    have := fits_any G[u] Q b qc V hn.ar (may_nb hm _ (List.getElem_mem hu)) (HQc.out.tr.below (HB5.out.trans (hb.mono HB5.out.size))) HSa.out.2 (Nat.le_trans HQc.out.cap HQc.out.big)
    rwa [HNB.out] at this)
  have HBe := Lib.hid (fun (V : World) (u i : Nat) (hb : Below w5.heap.size w5 V) => below_any Af G cf u i V (hF.below hb) (may_sz1 hm))
  have HNd := Lib.hid (fun (V : World) (u : Nat) (hb : Below w5.heap.size w5 V) (hu : u < G.length) => (hF.below hb u G[u] (List.getElem?_eq_getElem hu)).2)
  have HCd : Hid (∀ (i u : Nat) (hu : u < G.length), condB G a ch i u = (fitsB G[u] a && (((u : Int) != (i : Int)) && (belowB G u i && (!ch || (par G i == (u : Int))))))) := Lib.hid (fun i u hu => by
    unfold condB
    rw [List.getElem?_eq_getElem hu]
    rfl)
  have HPa : Hid (∀ (i : Nat) (hi : i < G.length), par G i = G[i].parent) := Lib.hid (fun i hi => par_at hi)
  have HNN := Lib.hid hn
  rw [hn] at HBe hn60 h0n ⊢
  clear hF hm hn HXs HX3 HXE HSm
  go_wp2_with fail
  go_loopw [11] (fun q wr => ∃ (V : World) (i : Nat), V = wr ∧ i ≤ n ∧ q = .int .i64 i ∧ Hid (Below w5.heap.size w5 V)) (fun q _ => n - (intOf q).toNat)
  case atStart => exact ⟨_, 0, rfl, Nat.zero_le _, rfl, Lib.hid (Below.refl _ _)⟩
  case round =>
    obtain ⟨V, i, rfl, hi, rfl, HV⟩ := hrel
    by_cases hlt : i < n
    · have k0 : (0 : Int) ≤ (i : Int) := by omega
      have k1 : (i : Int) < (n : Int) := by omega
      have hiG : i < G.length := by rw [HNN.out]; exact hlt
      have HIi := Lib.hid (fun (U : World) (hU : Below w5.heap.size w5 U) => HIs.out U i hU hiG)
      have HFi := Lib.hid (fun (U : World) (hU : Below w5.heap.size w5 U) => HFb.out U i hU hiG)
      have HNi := Lib.hid (fun (U : World) (hU : Below w5.heap.size w5 U) => HNd.out U i hU hiG)
      have HCi := Lib.hid (fun (u : Nat) (hu : u < G.length) => HCd.out i u hu)
      have HPi := Lib.hid (HPa.out i hiG)
      have HAn : Hid (∀ k, (List.range (k + 1)).any (condB G a ch i) = ((List.range k).any (condB G a ch i) || condB G a ch i k)) := Lib.hid (fun k => any_range)
      generalize fitsB G[i] b = fb at *
      generalize G[i] = mi at *
      generalize condB G a ch i = cd at *
      go_wp2_with fail
      go_loopw [12, 13] (fun q12 q13 wr => ∃ (U : World) (u : Nat), U = wr ∧ u ≤ n ∧ q12 = .bool ((List.range u).any cd && fb) ∧ q13 = .int .i64 u ∧ Hid (Below V.heap.size V U)) (fun _ q13 _ => n - (intOf q13).toNat)
      case atStart => exact ⟨_, 0, rfl, Nat.zero_le _, by simp, rfl, Lib.hid (Below.refl _ _)⟩
      case round =>
        obtain ⟨U, u, rfl, hu, rfl, rfl, HU⟩ := hrel
        have HVU := Lib.hid (HV.out.trans (HU.out.mono HV.out.size))
        by_cases hul : u < n
        · have j0 : (0 : Int) ≤ (u : Int) := by omega
          have j1 : (u : Int) < (n : Int) := by omega
          have huG : u < G.length := by rw [HNN.out]; exact hul
          obtain ⟨g, off, hA, hg, hnd⟩ := HNd.out U u HVU.out huG
          have HFu := Lib.hid (HFa.out U u HVU.out huG)
          have HCu := Lib.hid (HCi.out u huG)
          have HAu := Lib.hid (HAn.out u)
          rw [HCu.out] at HAu
          have c0 := hnd.c0
          have c1 := hnd.c1
          have c2 := hnd.c2
          have c3 := hnd.c3
          have c4 := hnd.c4
          have c5 := hnd.c5
          clear hnd
          generalize fitsB G[u] a = Y1 at *
          generalize G[u] = mu at *
          obtain ⟨an2, han2⟩ : ∃ an2, (List.range (u + 1)).any cd = an2 := ⟨_, rfl⟩
          have HA2 := Lib.hid han2
          rw [han2] at HAu
          clear han2
          generalize (List.range u).any cd = an1 at *
          obtain ⟨kd, nm0, tx, al, pa, kl, aA, aC, kA, kC⟩ := mu
          unfold nval at HFu
          simp only [] at c0 c1 c2 c3 c4 c5 HFu
          subst hA
          go_wp2_with fail
          refine HFu.out.mono ?_
          rintro e w6 ⟨rfl, hb⟩
          have HU6 := Lib.hid (HU.out.trans (hb.mono HU.out.size))
          have HVU6 := Lib.hid (HVU.out.trans (hb.mono HVU.out.size))
          clear hb c0 c1 c2 c3 c4 c5
          cases Y1 with
          | false =>
            have HAe : Hid (an2 = an1) := Lib.hid (by rw [HAu.out]; simp)
            go_wp2
            go_roundw
            case rel => exact ⟨w6, u + 1, rfl, by omega, by rw [HA2.out, HAe.out], by go_num, HU6⟩
            case measure => simp [intOf] <;> omega
          | true =>
            by_cases hui : u = i
            · have q1 : ((u : Int) != (i : Int)) = false := by simp [hui]
              have HAe : Hid (an2 = an1) := Lib.hid (by rw [HAu.out, q1]; simp)
              clear hui
              go_wp2
              go_roundw
              case rel => exact ⟨w6, u + 1, rfl, by omega, by rw [HA2.out, HAe.out], by go_num, HU6⟩
              case measure => simp [intOf] <;> omega
            · have q1 : ((u : Int) != (i : Int)) = true := by rw [bne_iff_ne]; omega
              have HBu := Lib.hid (HBe.out w6 u i HVU6.out)
              generalize belowB G u i = Y3 at *
              clear hui
              go_wp2_with fail
              refine HBu.out.mono ?_
              rintro e w7 ⟨rfl, hb⟩
              have HU7 := Lib.hid (HU6.out.trans (hb.mono HU6.out.size))
              have HVU7 := Lib.hid (HVU6.out.trans (hb.mono HVU6.out.size))
              clear hb
              cases Y3 with
              | false =>
                have HAe : Hid (an2 = an1) := Lib.hid (by rw [HAu.out]; simp)
                go_wp2
                go_roundw
                case rel => exact ⟨w7, u + 1, rfl, by omega, by rw [HA2.out, HAe.out], by go_num, HU7⟩
                case measure => simp [intOf] <;> omega
              | true =>
                obtain ⟨g', off', hA', hg', hni⟩ := HNi.out w7 HVU7.out
                cases hA'
                have c0 := hni.c0
                have c1 := hni.c1
                have c2 := hni.c2
                have c3 := hni.c3
                have c4 := hni.c4
                have c5 := hni.c5
                have HF7 := Lib.hid (HFi.out w7 HVU7.out)
                have HPm := Lib.hid HPi.out
                clear hni
                obtain ⟨kd2, nm2, tx2, al2, pa2, kl2, aA2, aC2, kA2, kC2⟩ := mi
                unfold nval at HF7
                simp only [] at c0 c1 c2 c3 c4 c5 HF7 HPm
                rw [HPm.out] at HAu
                cases ch with
                | false =>
                  have HAe : Hid (an2 = true) := Lib.hid (by rw [HAu.out, q1]; simp)
                  go_wp2_with fail
                  refine HF7.out.mono ?_
                  rintro e w8 ⟨rfl, hb⟩
                  have HU8 := Lib.hid (HU7.out.trans (hb.mono HU7.out.size))
                  clear hb
                  go_wp2
                  go_roundw
                  case rel => exact ⟨w8, u + 1, rfl, by omega, by rw [HA2.out, HAe.out]; rfl, by go_num, HU8⟩
                  case measure => simp [intOf] <;> omega
                | true =>
                  by_cases hpu : pa2 = (u : Int)
                  · have q2 : (pa2 == (u : Int)) = true := by simpa using hpu
                    have HAe : Hid (an2 = true) := Lib.hid (by rw [HAu.out, q1, q2]; simp)
                    clear hpu
                    go_wp2_with fail
                    refine HF7.out.mono ?_
                    rintro e w8 ⟨rfl, hb⟩
                    have HU8 := Lib.hid (HU7.out.trans (hb.mono HU7.out.size))
                    clear hb
                    go_wp2
                    go_roundw
                    case rel => exact ⟨w8, u + 1, rfl, by omega, by rw [HA2.out, HAe.out]; rfl, by go_num, HU8⟩
                    case measure => simp [intOf] <;> omega
                  · have q2 : (pa2 == (u : Int)) = false := by simpa using hpu
                    have HAe : Hid (an2 = an1) := Lib.hid (by rw [HAu.out, q2]; simp)
                    clear hpu
                    go_wp2
                    go_roundw
                    case rel => exact ⟨w7, u + 1, rfl, by omega, by rw [HA2.out, HAe.out], by go_num, HU7⟩
                    case measure => simp [intOf] <;> omega
        · obtain rfl : u = n := by omega
          have HI7 := Lib.hid (HIi.out U HVU.out)
          generalize ((List.range u).any cd && fb) = R at *
          clear hul
          go_wp2_with fail
          refine HI7.out.mono ?_
          rintro e w7 ⟨rfl, hb⟩
          have HV7 := Lib.hid (HVU.out.trans (hb.mono HVU.out.size))
          have q1 : (R != R) = false := by simp
          clear hb
          go_wp2
          go_roundw
          case rel => exact ⟨w7, i + 1, rfl, by omega, by go_num, HV7⟩
          case measure => simp [intOf] <;> omega
    · obtain rfl : i = n := by omega
      have q1 : decide ((0 : Int) < (i : Int)) = true := by simp; omega
      go_wp2
      go_ret
      exact ⟨ret_bool (by simp), HB5.out.trans (HV.out.mono HB5.out.size)⟩
set_option maxRecDepth 100000 in
/-- The law, of what came in. -/
theorem below_true {H : Type} {enc : TypeId × Value → H} {W : World} {base : Nat} {v0 : Value} {d0 : DataW H} {p0 : List MemPlace} {v1 : Value} {d1 : DataW H} {p1 : List MemPlace} {v2 : Value} {d2 : DataW H} {p2 : List MemPlace} {v3 : Value} {d3 : DataW H} {p3 : List MemPlace} (hK : Ops.KT W) (o0 : Value.okWide Tryz.prog W .any base 22 v0) (o1 : Value.okWide Tryz.prog W .any base 52 v1) (o2 : Value.okWide Tryz.prog W .any base 52 v2) (o3 : Value.okWide Tryz.prog W .any base 4 v3)
    (h0 : DataW.Trod enc Tryz.prog W 0 (fun _ => true) true 22 v0 d0 p0) (h1 : DataW.Trod enc Tryz.prog W 0 (fun _ => true) true 52 v1 d1 p1) (h2 : DataW.Trod enc Tryz.prog W 0 (fun _ => true) true 52 v2 d2 p2) (h3 : DataW.Trod enc Tryz.prog W 0 (fun _ => true) true 4 v3 d3 p3)
    (l0 : ∀ x ∈ p0, x.block < W.heap.size) (l1 : ∀ x ∈ p1, x.block < W.heap.size) (l2 : ∀ x ∈ p2, x.block < W.heap.size) (l3 : ∀ x ∈ p3, x.block < W.heap.size) :
    Calls Tryz.prog 6 #[v0, v1, v2, v3] W fun e W' => e = .returned (.bool true) ∧ Below W.heap.size W W' := by
  obtain ⟨A, cap, l, rfl, e1, e2, hL, -⟩ := Ops.ol_open o0 h0 l0
  obtain ⟨P, pc, a, rfl, f1, f2, hP, -⟩ := Sx.So.comp_open o1 h1 l1
  obtain ⟨Q, qc, b, rfl, g1, g2, hQ, -⟩ := Sx.So.comp_open o2 h2 l2
  obtain ⟨ch, rfl, rfl, rfl⟩ := open_bool Tryz.underlying4 o3 h3
  exact below_law A l cap P a pc Q b qc ch W hL (Nat.le_trans e1 e2) ⟨hP, f1, f2⟩ ⟨hQ, g1, g2⟩ hK
end Go.Proofs.YtaacikjoafobfaaGreatDoor.Fi
