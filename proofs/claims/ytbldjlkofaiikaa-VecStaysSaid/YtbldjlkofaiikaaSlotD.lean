/-
  What a copy is turned by: a slot taken, a slot given back.
-/
import Derived.Test.YtbldjlkofaiikaaSlotC
import Derived.BigRegion
import Derived.RegionTactic
import Derived.Deep.CutRange
namespace Go.Proofs.Ytbldjlkofaiikaa
open Go.ChangeShapes Go.WideShapes Go.ChangeAt Go.RowKit
set_option linter.unusedVariables false

set_option maxHeartbeats 1000000 in
theorem takeF_any (k a b gu i last n m cu cf : Nat) (vg : Value) (pf : Option Addr) (w : World)
    (hk : w.heap[k]? = some (.cells #[vg, .slice (some ⟨gu, 0, none⟩) m cu, .slice pf n cf] 28 (0, 0)))
    (ha : w.cell? ⟨a, 0, none⟩ = some (.int .i64 last)) (hb : w.cell? ⟨b, 0, none⟩ = some (.int .i64 i))
    (hc : ∃ u, w.cell? ⟨gu, i, none⟩ = some (.bool u)) (hz : w.frozen? ⟨gu, i, none⟩ = false) (hi : i < m) (hl : last < n) (hn : n ≤ cf) (hcf : cf ≤ maxLen) (hm : m ≤ 1000) (ak : a ≠ k) (bk : b ≠ k) (gk : gu ≠ k) :
    Calls Try.prog 87 #[.pointer (some ⟨k, 0, none⟩), .pointer (some ⟨a, 0, none⟩), .pointer (some ⟨b, 0, none⟩)] w fun e w' =>
      e = .returned (.tuple #[]) ∧ ∃ d, w' = ((w.setCell ⟨k, 2, none⟩ (.slice pf last cf)).setCell ⟨gu, i, none⟩ (.bool true)).drewN d := by
  obtain ⟨c0, c1, c2, z0, z1, z2⟩ := block3 hk
  unfold maxLen at hcf
  obtain ⟨u, hu⟩ := hc
  have h1 : (0 : Int) ≤ (last : Int) := by omega
  have h2 : (last : Int) ≤ (cf : Int) := by omega
  have h3 : (0 : Int) ≤ (i : Int) := by omega
  have h4 : (i : Int) < (m : Int) := by omega
  go_enter Try.func87, Try.ntmps87
  go_wp2_with fail
  go_region
  go_wp2_with fail
  go_region
  go_end0
  exact ⟨rfl, 2, rfl⟩

/-- A row of elements e is no block of elements t. -/
theorem own_apart {w : World} {base k : Nat} {e t : TypeId} {v : Value} {n : Nat} {xs : List Value} {cs : Array Value} (h : w.ownsRow base e 1 v n xs) (hk : w.heap[k]? = some (.cells cs t (0, 0))) (hne : e ≠ t) : v.ownBlock ≠ some k := by
  rcases h.2 with ⟨rfl, _⟩ | ⟨g, cap, cur, rfl, _, hg, _⟩
  · simp [Value.ownBlock]
  · intro he
    obtain rfl : g = k := by simpa [Value.ownBlock] using he
    rw [hg] at hk
    cases hk
    exact hne rfl
/-- Two rows of unlike elements are apart. -/
theorem own_apart2 {w : World} {base base' k : Nat} {e t : TypeId} {v v' : Value} {n n' : Nat} {xs xs' : List Value} (h : w.ownsRow base e 1 v n xs) (h' : w.ownsRow base' t 1 v' n' xs') (hk : v'.ownBlock = some k) (hne : e ≠ t) : v.ownBlock ≠ some k := by
  rcases h'.2 with ⟨rfl, _⟩ | ⟨g, cap, cur, rfl, _, hg, _⟩
  · simp [Value.ownBlock] at hk
  · obtain rfl : g = k := by simpa [Value.ownBlock] using hk
    exact own_apart h hg hne
theorem heap_set_other (w : World) (p : Addr) (u : Value) {k : Nat} (h : p.block ≠ k) : (w.setCell p u).heap[k]? = w.heap[k]? := Below.heap_setCell w p u k (Ne.symm h)
theorem heap_set3 {w : World} {k : Nat} {a b c : Value} {t : TypeId} (h : w.heap[k]? = some (.cells #[a, b, c] t (0, 0))) (x : Value) : (w.setCell ⟨k, 2, none⟩ x).heap[k]? = some (.cells #[a, b, x] t (0, 0)) := by
  simp [World.setCell, Array.getElem?_modify, h]
/-- What a closure makes of the arena s that block k bears: s', and nothing below B turns. -/
def TurnsSt (k B : Nat) (vg vu : Value) (s' : St) (w : World) (en : Ending) (w' : World) : Prop :=
  en = .returned (.tuple #[]) ∧ ∃ vf', w'.heap[k]? = some (.cells #[vg, vu, vf'] 28 (0, 0)) ∧ Ar w' B vg vu vf' s' ∧ Below B w w'
theorem set_map_bool (l : List Bool) (i : Nat) (x : Bool) : bvs (l.set i x) = (bvs l).set i (.bool x) := by simp [bvs, List.map_set]
theorem set_map_gen (l : List Int) (i : Nat) (x : Int) : gvs (l.set i x) = (gvs l).set i (.int .u64 x) := by simp [gvs, List.map_set]
theorem own_at_bool {w : World} {base g n cap i : Nat} {l : List Bool} (h : w.ownsRow base 4 1 (.slice (some ⟨g, 0, none⟩) n cap) n (bvs l)) (hi : i < n) : w.cell? ⟨g, i, none⟩ = some (.bool (l.getD i false)) := by
  have hl : l.length = n := by have := h.1; rw [bvs_length, Nat.mul_one] at this; exact this
  rw [h.cellAt i (by omega), bvs, List.getElem?_map, List.getD, List.getElem?_eq_getElem (by omega)]
  rfl
theorem own_at_gen {w : World} {base g n cap i : Nat} {l : List Int} (h : w.ownsRow base 41 1 (.slice (some ⟨g, 0, none⟩) n cap) n (gvs l)) (hi : i < n) : w.cell? ⟨g, i, none⟩ = some (.int .u64 (l.getD i 0)) := by
  have hl : l.length = n := by have := h.1; rw [gvs_length, Nat.mul_one] at this; exact this
  rw [h.cellAt i (by omega), gvs, List.getElem?_map, List.getD, List.getElem?_eq_getElem (by omega)]
  rfl
theorem own_at_int {w : World} {base g n cap i : Nat} {l : List Int} (h : w.ownsRow base 3 1 (.slice (some ⟨g, 0, none⟩) n cap) n (ivs l)) (hi : i < n) : w.cell? ⟨g, i, none⟩ = some (.int .i64 (l.getD i 0)) := by
  have hl : l.length = n := by have := h.1; rw [ivs_length, Nat.mul_one] at this; exact this
  rw [h.cellAt i (by omega), ivs, List.getElem?_map, List.getD, List.getElem?_eq_getElem (by omega)]
  rfl

theorem takeF_st (k a b i B : Nat) (vg vu vf : Value) (s : St) (w : World) (hk : w.heap[k]? = some (.cells #[vg, vu, vf] 28 (0, 0))) (hBk : B ≤ k) (hA : Ar w B vg vu vf s)
    (ha : w.cell? ⟨a, 0, none⟩ = some (.int .i64 ((s.free.length : Int) - 1))) (hb : w.cell? ⟨b, 0, none⟩ = some (.int .i64 i)) (haB : a < B) (hbB : b < B)
    (hi : i < s.used.length) (hf : 0 < s.free.length) (hm : s.used.length ≤ 1000) :
    Calls Try.prog 87 #[.pointer (some ⟨k, 0, none⟩), .pointer (some ⟨a, 0, none⟩), .pointer (some ⟨b, 0, none⟩)] w (TurnsSt k B vg vu (s.tk i) w) := by
  obtain ⟨pu, cu, rfl, hu1, hu2, _⟩ := own_form hA.u
  obtain ⟨pf, cf, rfl, hf1, hf2, _⟩ := own_form hA.f
  obtain ⟨gu, rfl, hgu, hgu'⟩ := own_some hA.u (by omega)
  obtain ⟨gf, rfl, hgf, hgf'⟩ := own_some hA.f hf
  have hku : gu ≠ k := fun e => own_apart hA.u hk (by decide) (by rw [e]; rfl)
  have hkf : gf ≠ k := fun e => own_apart hA.f hk (by decide) (by rw [e]; rfl)
  have hgk : vg.ownBlock ≠ some k := own_apart hA.g hk (by decide)
  have hgg : vg.ownBlock ≠ some gu := own_apart2 hA.g hA.u rfl (by decide)
  have hff : gf ≠ gu := fun e => own_apart2 hA.f hA.u rfl (by decide) (by rw [e]; rfl)
  have hlast : ((s.free.length : Int) - 1) = ((s.free.length - 1 : Nat) : Int) := by omega
  rw [hlast] at ha
  refine (takeF_any k a b gu i (s.free.length - 1) s.free.length s.used.length cu cf vg _ w hk ha hb ⟨_, own_at_bool hA.u hi⟩ (hA.u.frozenAt i) hi (by omega) hf1 hf2 hm (by omega) (by omega) hku).mono ?_
  rintro e w' ⟨rfl, d, rfl⟩
  refine ⟨rfl, .slice (some ⟨gf, 0, none⟩) (s.free.length - 1) cf, ?_, ⟨?_, ?_, ?_⟩, below_drewN (((Below.refl _ w).setCell hBk _).setCell hgu _) d⟩
  · show ((w.setCell ⟨k, 2, none⟩ _).setCell ⟨gu, i, none⟩ _).heap[k]? = _
    rw [heap_set_other _ _ _ hku]
    exact heap_set3 hk _
  · show ((w.setCell ⟨k, 2, none⟩ _).setCell ⟨gu, i, none⟩ _).ownsRow _ _ _ _ _ _
    exact ownsRow_setCell_other (ownsRow_setCell_other hA.g hgk _) hgg _
  · show ((w.setCell ⟨k, 2, none⟩ _).setCell ⟨gu, i, none⟩ _).ownsRow _ _ _ _ _ _
    have h1 := (ownsRow_setCell_other hA.u (a := ⟨k, 2, none⟩) (by simpa [Value.ownBlock] using hku) (.slice (some ⟨gf, 0, none⟩) (s.free.length - 1) cf)).stored i (.bool true)
    rw [St.tk, List.length_set, set_map_bool]
    exact h1.1
  · show ((w.setCell ⟨k, 2, none⟩ _).setCell ⟨gu, i, none⟩ _).ownsRow _ _ _ _ _ _
    have h1 := ownsRow_setCell_other (ownsRow_setCell_other hA.f (a := ⟨k, 2, none⟩) (by simpa [Value.ownBlock] using hkf) (.slice (some ⟨gf, 0, none⟩) (s.free.length - 1) cf)) (a := ⟨gu, i, none⟩) (by simpa [Value.ownBlock] using hff) (.bool true)
    obtain ⟨fr, x, hfr⟩ : ∃ fr x, s.free = fr ++ [x] := ⟨_, _, (List.dropLast_concat_getLast (List.ne_nil_of_length_pos hf)).symm⟩
    rw [St.tk]
    simp only [hfr, List.dropLast_concat, List.length_append, List.length_cons, List.length_nil, Nat.zero_add, Nat.add_sub_cancel] at h1 ⊢
    rw [ivs, List.map_append] at h1
    exact ownsRow_pop (by simp [ivs]) h1

set_option maxHeartbeats 2000000 in
theorem giveF_st (k a i B : Nat) (h : Int) (vg vu vf : Value) (s : St) (w : World) (hk : w.heap[k]? = some (.cells #[vg, vu, vf] 28 (0, 0))) (hBk : B ≤ k) (hA : Ar w B vg vu vf s)
    (ha : w.cell? ⟨a, 0, none⟩ = some (.int .u64 h)) (haB : a < B) (h0 : 0 ≤ h) (h1 : h ≤ 18446744073709551615) (hhi : h % 16777216 = i)
    (hi : i < s.gens.length) (hi' : i < s.used.length) (hg : s.gens.length ≤ 1000) (hm : s.used.length ≤ 1000) (hf : s.free.length ≤ 1000) :
    Calls Try.prog 78 #[.pointer (some ⟨k, 0, none⟩), .pointer (some ⟨a, 0, none⟩)] w (TurnsSt k B vg vu (s.gb i ((h + 16777216) % 18446744073709551616 / 16777216)) w) := by
  obtain ⟨pg, cg, rfl, hg1, hg2, _⟩ := own_form hA.g
  obtain ⟨pu, cu, rfl, hu1, hu2, _⟩ := own_form hA.u
  obtain ⟨pf, cf, rfl, hf1, hf2, _⟩ := own_form hA.f
  obtain ⟨gg, rfl, hgg, hgg'⟩ := own_some hA.g (by omega)
  obtain ⟨gu, rfl, hgu, hgu'⟩ := own_some hA.u (by omega)
  have hkg : gg ≠ k := fun e => own_apart hA.g hk (by decide) (by rw [e]; rfl)
  have hku : gu ≠ k := fun e => own_apart hA.u hk (by decide) (by rw [e]; rfl)
  have hgu2 : gg ≠ gu := fun e => own_apart2 hA.g hA.u rfl (by decide) (by rw [e]; rfl)
  obtain ⟨c0, c1, c2, z0, z1, z2⟩ := block3 hk
  have cg0 := own_at_gen hA.g hi
  have zg0 := hA.g.frozenAt i
  have cu0 := own_at_bool hA.u hi'
  have zu0 := hA.u.frozenAt i
  have i0 : (0 : Int) ≤ (i : Int) := by omega
  have i1 : (i : Int) < (s.gens.length : Int) := by omega
  have i2 : (i : Int) < (s.used.length : Int) := by omega
  have ag : gg ≠ a := by omega
  have HA := Lib.hid hA
  have HK := Lib.hid hk
  have HI := Lib.hid hhi
  clear hA hk hhi
  go_enter Try.func78, Try.ntmps78
  go_wp2_with fail
  refine (index_any h _ h0 h1).mono ?_
  rw [HI.out]
  rintro e w' ⟨rfl, rfl⟩
  go_wp2_with fail
  go_region_held3 (fun w' => w'.cell? ⟨k, 0, none⟩ = some (.slice (some ⟨gg, 0, none⟩) s.gens.length cg) ∧ w'.cell? ⟨a, 0, none⟩ = some (.int .u64 h))
    (go_keep)
    (first
      | (go_at_call 80; refine (next_any h _ h0 h1).mono ?_; rintro e w' ⟨rfl, rfl⟩)
      | (go_at_call 79; refine (gen_any _ _ (by omega) (by omega)).mono ?_; rintro e w' ⟨rfl, rfl⟩))
  obtain ⟨G, hG⟩ : ∃ G, (h + 16777216) % 18446744073709551616 / 16777216 = G := ⟨_, rfl⟩
  rw [hG]
  have HGe := Lib.hid hG
  clear hG
  obtain ⟨i0', hi0, hz0, hz1, hz2⟩ := info_parts info_F
  have hI := Lib.hid hi0
  have hZ0 := Lib.hid hz0
  have hZ1 := Lib.hid hz1
  have hZ2 := Lib.hid hz2
  clear hi0 hz0 hz1 hz2
  have hkf : (Value.slice pf s.free.length cf).ownBlock ≠ some k := own_apart HA.out.f HK.out (by decide)
  have hgf : (Value.slice pf s.free.length cf).ownBlock ≠ some gg := own_apart2 HA.out.f HA.out.g rfl (by decide)
  have huf : (Value.slice pf s.free.length cf).ownBlock ≠ some gu := own_apart2 HA.out.f HA.out.u rfl (by decide)
  have HN := Lib.hid (And.intro hkf (And.intro hgf huf))
  have HG2 : Hid (Ar ((w.setCell ⟨gg, i, none⟩ (.int .u64 G)).setCell ⟨gu, i, none⟩ (.bool false)) B (.slice (some ⟨gg, 0, none⟩) s.gens.length cg) (.slice (some ⟨gu, 0, none⟩) s.used.length cu) (.slice pf s.free.length cf) { s with gens := s.gens.set i G, used := s.used.set i false }) := Lib.hid (by
    have h1 := (HA.out.g.stored i (.int .u64 G)).1
    have h2 := (ownsRow_setCell_other HA.out.u (a := ⟨gg, i, none⟩) (by simpa [Value.ownBlock] using Ne.symm hgu2) (.int .u64 G)).stored i (.bool false)
    refine ⟨?_, ?_, ?_⟩
    · simp only [List.length_set, set_map_gen]
      exact ownsRow_setCell_other h1 (by simpa [Value.ownBlock] using hgu2) _
    · simp only [List.length_set, set_map_bool]
      exact h2.1
    · exact ownsRow_setCell_other (ownsRow_setCell_other HA.out.f hgf _) huf _)
  have HK2 : Hid (((w.setCell ⟨gg, i, none⟩ (.int .u64 G)).setCell ⟨gu, i, none⟩ (.bool false)).heap[k]? = some (.cells #[.slice (some ⟨gg, 0, none⟩) s.gens.length cg, .slice (some ⟨gu, 0, none⟩) s.used.length cu, .slice pf s.free.length cf] 28 (0, 0))) := Lib.hid (by
    rw [heap_set_other _ _ _ hku, heap_set_other _ _ _ hkg]
    exact HK.out)
  have HB2 : Hid (Below B w ((w.setCell ⟨gg, i, none⟩ (.int .u64 G)).setCell ⟨gu, i, none⟩ (.bool false))) := Lib.hid (((Below.refl _ w).setCell hgg _).setCell hgu _)
  clear hkf hgf huf
  have hkw := lt_of_block HK.out
  go_upto_region 3 with fail
  obtain ⟨W, hW⟩ : ∃ W, W = ((w.setCell ⟨gg, i, none⟩ (.int .u64 G)).setCell ⟨gu, i, none⟩ (.bool false)).drew := ⟨_, rfl⟩
  rw [← hW]
  have HGW : Hid (Ar W B (.slice (some ⟨gg, 0, none⟩) s.gens.length cg) (.slice (some ⟨gu, 0, none⟩) s.used.length cu) (.slice pf s.free.length cf) { s with gens := s.gens.set i G, used := s.used.set i false }) := Lib.hid (by rw [hW]; exact HG2.out.drew)
  have HKW : Hid (W.heap[k]? = some (.cells #[.slice (some ⟨gg, 0, none⟩) s.gens.length cg, .slice (some ⟨gu, 0, none⟩) s.used.length cu, .slice pf s.free.length cf] 28 (0, 0))) := Lib.hid (by rw [hW]; exact HK2.out)
  have HF : Hid (W.ownsRow B 3 1 (.slice pf s.free.length cf) s.free.length (ivs s.free)) := Lib.hid HGW.out.f
  have HBW : Hid (Below B w W) := Lib.hid (by rw [hW]; exact HB2.out.drew)
  clear hW HG2 HK2 HB2 c0 c1 c2 z0 z1 z2 cg0 zg0 cu0 zu0
  obtain ⟨c0, c1, c2, z0, z1, z2⟩ := block3 HKW.out
  have hkW := lt_of_block HKW.out
  have hBs := HBW.out.size
  go_wp2_with (at_builtin; refine wpList_append_own_at _ rfl _ _ 26 rfl B 3 i0' (.int .i64 0) 1 8 Try.underlying26 hI.out hZ0.out hZ1.out hZ2.out rfl (by decide) _ _ _ rfl (HF.out.alloc _) ⟨W.heap.size, 0, none⟩ 1 1 [.int .i64 i] rfl rfl (cell_one_new _ _ _) (by simp [Value.oneCell']) (by unfold maxLen; omega) (by omega) (by simp; omega) ?_; intro v' w5 hown' hgrow _ hat; obtain ⟨g', cap', rfl⟩ := own_succ hown'
               have HO' := Lib.hid hown'
               have HGR : Hid ((W.alloc (.cells #[.int .i64 i] 3)).grownBy w5 (Value.slice pf s.free.length cf).ownBlock) := Lib.hid hgrow
               have HK5 : Hid (w5.heap[k]? = some (.cells #[.slice (some ⟨gg, 0, none⟩) s.gens.length cg, .slice (some ⟨gu, 0, none⟩) s.used.length cu, .slice pf s.free.length cf] 28 (0, 0))) := Lib.hid (by
                 rw [hgrow.block k (by simp; omega) (Ne.symm HN.out.1)]
                 exact (Below.heap_alloc _ _ k hkW).trans HKW.out)
               obtain ⟨d0, d1, d2, y0, y1, y2⟩ := block3 HK5.out
               clear hown' hgrow hat)
  have hne5 : (Value.slice (some ⟨g', 0, none⟩) (s.free.length + 1) cap').ownBlock ≠ some k := own_apart HO'.out HK5.out (by decide)
  go_end0
  refine ⟨rfl, _, heap_set3 HK5.out _, ⟨?_, ?_, ?_⟩, ?_⟩
  · rw [HGe.out]
    exact ownsRow_setCell_other ((HGW.out.g.alloc _).kept HGR.out (.inr (Ne.symm HN.out.2.1))) (by simpa [Value.ownBlock] using hkg) _
  · rw [HGe.out]
    exact ownsRow_setCell_other ((HGW.out.u.alloc _).kept HGR.out (.inr (Ne.symm HN.out.2.2))) (by simpa [Value.ownBlock] using hku) _
  · have := ownsRow_setCell_other HO'.out (a := ⟨k, 2, none⟩) hne5 (.slice (some ⟨g', 0, none⟩) (s.free.length + 1) cap')
    simp only [St.gb, List.length_append, List.length_cons, List.length_nil, Nat.zero_add, ivs, List.map_append, List.map_cons, List.map_nil] at this ⊢
    exact this
  · exact ((HBW.out.alloc (by omega) _).grown HGR.out (by simp; omega) (fun q e => (HF.out.lt q e).1)).setCell hBk _
end Go.Proofs.Ytbldjlkofaiikaa
