/-
  What the laws of layer 8 share: their bound; the forest that operations made.
  The small case of layer 8's laws.
-/
import Derived.Test.YtaacikjoafobfaaGreatDoorG16
import Derived.Test.YtaacikjoafobfaaGreatDoorG25
import Derived.Test.YtaacikjoafobfaaGreatDoorG27
import Derived.Test.YtaacikjoafobfaaGreatDoorG22
namespace Go.Proofs.YtaacikjoafobfaaGreatDoor
open Go.ChangeShapes Go.WideShapes Go.ChangeAt Go.RowKit
set_option linter.unusedVariables false
set_option linter.unusedSimpArgs false

set_option maxRecDepth 100000 in
set_option maxHeartbeats 4000000 in
theorem bounded8 (A : Option Addr) (l : List Ops.Po) (c : Nat) (w : World) (hL : Ops.OL w A l) (hn : l.length ≤ 9223372036854775807) :
    Calls Tryz.prog 30 #[.slice A l.length c] w fun e w' => e = .returned (.bool (bdO l)) ∧ w' = w := by
  have HL := Lib.hid hL
  have HE : Hid (bdO l = (l.all opBd && decide (l.length ≤ 150))) := Lib.hid rfl
  generalize bdO l = R at *
  obtain ⟨n, hnn⟩ : ∃ n, l.length = n := ⟨_, rfl⟩
  have HNN := Lib.hid hnn
  rw [hnn] at hn HE ⊢
  clear hL hnn
  go_enter Tryz.func30, Tryz.ntmps30
  go_wp2
  go_loopw [3] (fun q wr => ∃ k : Nat, k ≤ n ∧ q = .int .i64 k ∧ Hid ((l.take k).all opBd = true) ∧ w = wr) (fun q _ => n - (intOf q).toNat)
  case atStart => exact ⟨0, Nat.zero_le _, rfl, Lib.hid rfl, rfl⟩
  case round =>
    obtain ⟨k, hk, rfl, HT, rfl⟩ := hrel
    by_cases hlt : k < n
    · have k0 : (0 : Int) ≤ (k : Int) := by omega
      have k1 : (k : Int) < (n : Int) := by omega
      have hkl : k < l.length := by rw [HNN.out]; exact hlt
      obtain ⟨-, gl, off, rfl, hgl, a0, a1, a2, a3, a4, a5⟩ := HL.out k l[k] (List.getElem?_eq_getElem hkl)
      have HT2 : Hid (opBd l[k] = true → (l.take (k + 1)).all opBd = true) := Lib.hid (fun h => by rw [all_more hkl HT.out, h])
      have HT3 : Hid (opBd l[k] = false → l.all opBd = false) := Lib.hid (fun h => all_no7 (List.getElem_mem hkl) h)
      generalize l[k] = o at *
      obtain ⟨kd, id, dst, ps, nm0, tx⟩ := o
      simp only [] at a4 a5
      clear a0 a1 a2 a3 hkl
      by_cases h1 : nm0.size ≤ 300
      · by_cases h2 : tx.size ≤ 300
        · have HT4 := Lib.hid (HT2.out (by simp [opBd, h1, h2]))
          have b1 : decide ((300 : Int) < (nm0.size : Int)) = false := by simp; omega
          have b2 : decide ((300 : Int) < (tx.size : Int)) = false := by simp; omega
          go_wp2
          go_roundw
          case rel => exact ⟨k + 1, by omega, by go_num, HT4, by first | trivial | rfl⟩
          case measure => simp [intOf] <;> omega
        · have HR : Hid (R = false) := Lib.hid (by rw [HE.out, HT3.out (by simp [opBd, h1, h2])]; rfl)
          have b1 : decide ((300 : Int) < (nm0.size : Int)) = false := by simp; omega
          have b2 : decide ((300 : Int) < (tx.size : Int)) = true := by simp; omega
          go_wp2
          go_ret
          exact ⟨by rw [HR.out]; rfl, rfl⟩
      · have HR : Hid (R = false) := Lib.hid (by rw [HE.out, HT3.out (by simp [opBd, h1])]; rfl)
        have b1 : decide ((300 : Int) < (nm0.size : Int)) = true := by simp; omega
        go_wp2
        go_ret
        exact ⟨by rw [HR.out]; rfl, rfl⟩
    · obtain rfl : k = n := by omega
      have e : l.take k = l := List.take_of_length_le (by rw [HNN.out]; exact Nat.le_refl _)
      rw [e] at HT
      clear e
      go_wp2
      go_ret
      refine ⟨?_, rfl⟩
      rw [HE.out, HT.out, Bool.true_and]
      exact ret_bool (by rw [decide_eq_decide]; omega)
/-- A forest that operations made, one by one. -/
def GrownRes (l : List Ops.Po) (w : World) (e : Ending) (w' : World) : Prop := ∃ (A : Option Addr) (G : List Mn) (c : Nat), e = .returned (.slice A G.length c) ∧ FR w' A G ∧ mayB G = true ∧ G.map core = (onesP [newM] l).map core ∧ Below w.heap.size w w'
set_option maxRecDepth 100000 in
set_option maxHeartbeats 4000000 in
theorem grown_any (A : Option Addr) (l : List Ops.Po) (c : Nat) (w : World) (hL : Ops.OL w A l) (hn : l.length ≤ 1000000) (hK : Ops.KT w) :
    Calls Tryz.prog 32 #[.slice A l.length c] w (GrownRes l w) := by
  have HL := Lib.hid hL
  have HK := Lib.hid hK
  have HON := Lib.hid (fun (V : World) (k : Nat) (A' : Option Addr) (G : List Mn) (c' : Nat) (o' : Ops.Po) (hb : Below w.heap.size w V) (h : OneAt V l k A' G) (hf : Ops.Fit o') => one_at h c' o' hf (hK.below hb))
  have HM := Lib.hid (fun (V : World) (A' : Option Addr) (G : List Mn) (c' : Nat) (h : OneAt V l l.length A' G) => may_any A' G c' V h.fr (may_sz1 h.may))
  obtain ⟨n, hnn⟩ : ∃ n, l.length = n := ⟨_, rfl⟩
  have HNN := Lib.hid hnn
  rw [hnn] at hn HM ⊢
  clear hL hK hnn
  go_enter Tryz.func32, Tryz.ntmps32
  go_wp2_with fail
  refine (new_any w).mono ?_
  rintro e w1 ⟨A0, rfl, hA, hb⟩
  have HST := Lib.hid (OneAt.start l hA)
  have HB1 := Lib.hid hb
  clear hA hb
  go_wp2_with fail
  go_loopw [3, 4] (fun q2 q3 wr => ∃ (k : Nat) (Af : Option Addr) (G : List Mn) (cf : Nat), q2 = .slice Af G.length cf ∧ q3 = .int .i64 k ∧ k ≤ n ∧ Hid (OneAt wr l k Af G) ∧ Hid (Below w.heap.size w wr)) (fun _ q3 _ => n - (intOf q3).toNat)
  case atStart => exact ⟨0, A0, [newM], 1, rfl, rfl, Nat.zero_le _, HST, HB1⟩
  case round =>
    obtain ⟨k, Af, G, cf, rfl, rfl, hk, HG, HBr⟩ := hrel
    by_cases hlt : k < n
    · have k0 : (0 : Int) ≤ (k : Int) := by omega
      have k1 : (k : Int) < (n : Int) := by omega
      have hkl : k < l.length := by rw [HNN.out]; exact hlt
      obtain ⟨hfk, gl, off, rfl, hgl, a0, a1, a2, a3, a4, a5⟩ := (HL.out.below HBr.out) k l[k] (List.getElem?_eq_getElem hkl)
      have HOK := Lib.hid (HON.out wr k Af G cf l[k] HBr.out HG.out hfk)
      have HNX := Lib.hid (fun (w' : World) (base g cap : Nat) (G' : List Mn) (h : OF w' base (.slice (some ⟨g, 0, none⟩) G'.length cap) G') (hc : G'.map core = (oneP G l[k]).1.map core) => HG.out.step hkl h hc)
      generalize l[k] = p at *
      go_wp2_with fail
      refine HOK.out.mono ?_
      rintro e w3 ⟨g, cap, G', rfl, hO, hc, hb⟩
      have HG2 := Lib.hid (HNX.out w3 _ g cap G' hO hc)
      have HB3 := Lib.hid (HBr.out.trans (hb.mono HBr.out.size))
      clear hO hc hb a0 a1 a2 a3 a4 a5 hfk hkl
      generalize errP G p = er at *
      go_wp2
      go_roundw
      case rel => exact ⟨k + 1, _, G', cap, rfl, by go_num, by omega, HG2, HB3⟩
      case measure => simp [intOf] <;> omega
    · obtain rfl : k = n := by omega
      have HM2 := Lib.hid (HM.out wr Af G cf HG.out)
      have HGm := Lib.hid HG.out.may
      have HGl : Hid (G.map core = (onesP [newM] l).map core) := Lib.hid (by have := HG.out.like; rwa [List.take_of_length_le (by rw [HNN.out]; exact Nat.le_refl _)] at this)
      rw [HGm.out] at HM2
      have HGf := Lib.hid HG.out.fr
      clear HG HNN HL HON HM
      go_wp2_with fail
      refine HM2.out.mono ?_
      rintro e w4 ⟨rfl, hb⟩
      have HB4 := Lib.hid (HBr.out.trans (hb.mono HBr.out.size))
      have HF4 := Lib.hid (HGf.out.below hb)
      clear hb
      go_wp2
      go_ret
      exact ⟨Af, G, cf, rfl, HF4.out, HGm.out, HGl.out, HB4.out⟩
end Go.Proofs.YtaacikjoafobfaaGreatDoor
namespace Go.Proofs.YtaacikjoafobfaaGreatDoor
open Go.ChangeShapes Go.WideShapes Go.ChangeAt Go.RowKit
set_option linter.unusedVariables false
set_option linter.unusedSimpArgs false

theorem vis_like {F G : List Mn} (h : G.map core = F.map core) : ∀ (f i : Nat), vis G f i = vis F f i
  | 0, _ => rfl
  | f + 1, i => by
    rw [vis, vis, kids_like h, flatMap_congr' (fun k _ => vis_like h f k.toNat)]
theorem ord_like {F G : List Mn} (h : G.map core = F.map core) (i : Nat) : ord G i = ord F i := by unfold ord; rw [len_like h]; exact vis_like h _ _
theorem core_txt (F : List Mn) (k : Nat) : txt (F.map core) k = txt F k := by
  unfold txt
  rw [List.getElem?_map]
  cases F[k]? <;> rfl
theorem txt_like {F G : List Mn} (h : G.map core = F.map core) (k : Nat) : txt G k = txt F k := by rw [← core_txt G, h, core_txt]
theorem cont_like {F G : List Mn} (h : G.map core = F.map core) (i : Nat) : cont G i = cont F i := by
  unfold cont
  rw [ord_like h, flatMap_congr' (fun k _ => txt_like h k)]
theorem core_hasId (F : List Mn) (t : ByteArray) (k : Nat) : hasId (F.map core) t k = hasId F t k := by
  unfold hasId
  rw [List.getElem?_map]
  cases F[k]? <;> rfl
theorem hasId_like {F G : List Mn} (h : G.map core = F.map core) (t : ByteArray) : hasId G t = hasId F t := funext fun k => by rw [← core_hasId G, h, core_hasId]
theorem byP_like {F G : List Mn} (h : G.map core = F.map core) (t : ByteArray) : byP G t = byP F t := by unfold byP; rw [ord_like h, hasId_like h]
theorem isB_like {F G : List Mn} (h : G.map core = F.map core) (x : Int) : isB G x = isB F x := by unfold isB; rw [len_like h]
theorem upP_like {F G : List Mn} (h : G.map core = F.map core) (x : Int) : upP G x = upP F x := by unfold upP; rw [isB_like h, par_like h]
def s8 : List Ops.Po := [⟨1, 0, 0, 0, ⟨#[97]⟩, ⟨#[]⟩⟩, ⟨4, 1, 0, 0, ⟨#[]⟩, ⟨#[]⟩⟩, ⟨2, 0, 0, 0, ⟨#[]⟩, ⟨#[120]⟩⟩, ⟨4, 2, 1, 0, ⟨#[]⟩, ⟨#[]⟩⟩, ⟨6, 1, 0, 0, ⟨#[105, 100]⟩, ⟨#[107]⟩⟩]
def s8F : List Mn := [⟨0, ⟨#[]⟩, ⟨#[]⟩, [], -1, [1], none, 0, none, 0⟩, ⟨1, ⟨#[97]⟩, ⟨#[]⟩, [(⟨#[105, 100]⟩, ⟨#[107]⟩)], 0, [2], none, 0, none, 0⟩, ⟨2, ⟨#[]⟩, ⟨#[120]⟩, [], 1, [], none, 0, none, 0⟩]
theorem s8_grown : (onesP [newM] s8).map core = s8F.map core := by kernel_rfl
theorem s8_cont : cont s8F 0 = [120] := by kernel_rfl
theorem s8_by : byP s8F ⟨#[107]⟩ = (1, 0) := by kernel_rfl
theorem s8_up : upP s8F 2 = (1, 0) := by kernel_rfl
theorem s8_fit : ∀ o ∈ s8, Ops.Fit o := by
  intro o ho
  simp only [s8, List.mem_cons, List.not_mem_nil, or_false] at ho
  rcases ho with rfl | rfl | rfl | rfl | rfl <;> exact ⟨by unfold Ops.I64; simp only []; omega, by unfold Ops.I64; simp only []; omega, by unfold Ops.I64; simp only []; omega, by unfold Ops.I64; simp only []; omega⟩
theorem ol_new (w : World) {l : List Ops.Po} (hf : ∀ o ∈ l, Ops.Fit o) : Ops.OL (w.alloc (.cells (ocells l).toArray 92)) (some ⟨w.heap.size, 0, none⟩) l := fun i o ho => by
  obtain ⟨hi, rfl⟩ := List.getElem?_eq_some_iff.1 ho
  have hb := heap_alloc_new w (.cells (ocells l).toArray 92)
  have key : ∀ k, k < 6 → (w.alloc (.cells (ocells l).toArray 92)).cell? ⟨w.heap.size, i * 6 + k, none⟩ = (opc l[i])[k]? := fun k hk => by
    rw [← ocells_at hi hk]
    unfold World.cell?
    rw [hb]
    simp
  have k0 := key 0 (by omega)
  have k1 := key 1 (by omega)
  have k2 := key 2 (by omega)
  have k3 := key 3 (by omega)
  have k4 := key 4 (by omega)
  have k5 := key 5 (by omega)
  refine ⟨hf _ (List.getElem_mem hi), w.heap.size, 0, rfl, by simp, ?_, ?_, ?_, ?_, ?_, ?_⟩
  · rw [Nat.zero_add]; exact k0
  · rw [Nat.zero_add]; exact k1
  · rw [Nat.zero_add]; exact k2
  · rw [Nat.zero_add]; exact k3
  · rw [Nat.zero_add]; exact k4
  · rw [Nat.zero_add]; exact k5
set_option maxRecDepth 100000 in
set_option maxHeartbeats 4000000 in
theorem shown8 (w : World) (hK : Ops.KT w) : Calls Tryz.prog 31 #[] w (GivesV (.bool true) w) := by
  have HK := Lib.hid hK
  obtain ⟨X, hX⟩ : ∃ X, X = w.alloc (.cells (ocells s8).toArray 92) := ⟨_, rfl⟩
  have HXb : Hid (Below w.heap.size w X) := Lib.hid (by rw [hX]; exact (Below.refl _ _).alloc (Nat.le_refl _) _)
  have HG := Lib.hid (grown_any (some ⟨w.heap.size, 0, none⟩) s8 5 X (by rw [hX]; exact ol_new w s8_fit) (by decide) (HK.out.below HXb.out))
  have e5 : s8.length = 5 := rfl
  rw [e5] at HG
  clear e5 hK
  unfold ocells s8 opc at hX
  simp only [List.flatMap_cons, List.flatMap_nil, List.cons_append, List.nil_append, List.append_nil] at hX
  go_enter Tryz.func31, Tryz.ntmps31
  go_wp2_with fail
  rw [← hX]
  clear hX
  refine HG.out.mono ?_
  rintro e w1 ⟨A, G, c, rfl, hF, hm, hl, hb⟩
  have hl2 := hl.trans s8_grown
  have HB1 := Lib.hid (HXb.out.trans (hb.mono HXb.out.size))
  have h3 : G.length = 3 := len_like hl2
  have HC := Lib.hid (fun (V : World) (hb : Below w1.heap.size w1 V) => wcontent_any A G c 0 V (hF.below hb) hm (by omega))
  have HI := Lib.hid (fun (V : World) (hb : Below w1.heap.size w1 V) => wbyid_any A G c ⟨#[107]⟩ V (hF.below hb) hm)
  have HU := Lib.hid (fun (V : World) (hb : Below w1.heap.size w1 V) => wparent_any A G c 2 V (hF.below hb) hm)
  rw [cont_like hl2, s8_cont, h3] at HC
  rw [byP_like hl2, s8_by, h3] at HI
  rw [upP_like hl2, s8_up, h3] at HU
  rw [h3]
  clear hF hm hl hl2 hb h3
  go_wp2_with fail
  refine (HC.out w1 (Below.refl _ _)).mono ?_
  rintro e w2 ⟨rfl, hb⟩
  have HB2 := Lib.hid hb
  clear hb
  go_wp2_with fail
  refine (HI.out w2 HB2.out).mono ?_
  rintro e w3 ⟨rfl, hb⟩
  have HB3 := Lib.hid (HB2.out.trans (hb.mono HB2.out.size))
  clear hb
  go_wp2_with fail
  refine (HU.out w3 HB3.out).mono ?_
  rintro e w4 ⟨rfl, hb⟩
  have HB4 := Lib.hid (HB1.out.trans ((HB3.out.trans (hb.mono HB3.out.size)).mono HB1.out.size))
  clear hb
  go_wp2_with fail
  go_ret
  exact ⟨rfl, HB4.out⟩
end Go.Proofs.YtaacikjoafobfaaGreatDoor
