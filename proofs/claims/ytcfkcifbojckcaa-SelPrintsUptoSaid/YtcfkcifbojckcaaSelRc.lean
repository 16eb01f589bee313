/-
  The document's own reader: a test.
-/
import Derived.Test.YtcfkcifbojckcaaSelRb
namespace Go.Proofs.Ytcfkcifbojckcaa
open Go.ChangeShapes Go.WideShapes Go.ChangeAt Go.RowKit
open Go.PlainAid (bt)
set_option linter.unusedVariables false
set_option linter.unusedSimpArgs false

def raQ (s : ByteArray) (n : ByteArray) (j1 : Nat) : Except Nat ((Int × ByteArray × ByteArray) × Nat) :=
  if lk s j1 = 61 then match rvP s (sp s (j1 + 1)) with
    | .error k => .error k
    | .ok (v, k) => if lk s (sp s k) = 93 then .ok ((5, n, v), sp s k + 1) else .error (sp s k)
  else if lk s j1 = 93 then .ok ((4, n, ⟨#[]⟩), j1 + 1) else .error j1
def raP (s : ByteArray) (i : Nat) : Except Nat ((Int × ByteArray × ByteArray) × Nat) := match rnP s (sp s (i + 1)) with
  | .error k => .error k
  | .ok (n, j) => raQ s n (sp s j)
def rtP (s : ByteArray) (i : Nat) : Except Nat ((Int × ByteArray × ByteArray) × Nat) :=
  if lk s i = 35 then nT 2 (rnP s (i + 1)) else if lk s i = 46 then nT 3 (rnP s (i + 1)) else raP s i
theorem rnP_le {s : ByteArray} {i : Nat} (hi : i ≤ s.size) {n : ByteArray} {j : Nat} (h : rnP s i = .ok (n, j)) : i ≤ j ∧ j ≤ s.size := by
  unfold rnP at h
  split at h
  · split at h
    · cases h
    · cases h
      have := me_le bN (by decide) s 20 i hi
      omega
  · cases h
theorem rvP_le {s : ByteArray} {i : Nat} (hi : i ≤ s.size) {n : ByteArray} {j : Nat} (h : rvP s i = .ok (n, j)) : i ≤ j ∧ j ≤ s.size := by
  unfold rvP at h
  split at h
  · rename_i h34
    have hlt : i < s.size := lk_lt (by rw [h34]; decide)
    have hm := me_le bS (by decide) s 60 (i + 1) hlt
    split at h
    · rename_i hq
      have := lk_lt (s := s) (i := me bS s 60 (i + 1)) (by rw [hq]; decide)
      cases h
      omega
    · cases h
  · exact rnP_le hi h
set_option maxRecDepth 100000 in
set_option maxHeartbeats 4000000 in
theorem rtest_hash (s : ByteArray) (i : Nat) (w : World) (hi : i < s.size) (hs : s.size ≤ 4000000) (hc : bt s i = 35) : Calls Try.prog 46 #[.string s, .int .i64 i] w (fun e w' => Rn (nT 2 (rnP s (i + 1))) tV e ∧ Below w.heap.size w w') := by
  have HNM := Lib.hid (fun (V : World) => rname9_any s (i + 1) V hi hs)
  have hbt := PlainAid.get_bt s
  have k1 : (i : Int) < (s.size : Int) := by omega
  cases hr : rnP s (i + 1) with
  | error j =>
    rw [hr] at HNM
    clear hr
    go_enter Try.func46, Try.ntmps46
    go_wp2_with fail
    refine (HNM.out _).mono ?_
    rintro e w' ⟨⟨x, rfl⟩, rfl⟩
    go_wp2
    refine bodyPost_ret (v := .tuple #[tV (2, x, ⟨#[]⟩), .int .i64 j, .bool false]) (by simp [results, Try.results46, go_sem, tV]) rfl ⟨⟨(2, x, ⟨#[]⟩), rfl⟩, ?_⟩
    exact ((Below.refl _ _).alloc (Nat.le_refl _) _).alloc (by simp) _
  | ok q =>
    obtain ⟨n, j⟩ := q
    rw [hr] at HNM
    clear hr
    go_enter Try.func46, Try.ntmps46
    go_wp2_with fail
    refine (HNM.out _).mono ?_
    rintro e w' ⟨rfl, rfl⟩
    go_wp2
    refine bodyPost_ret (v := .tuple #[tV (2, n, ⟨#[]⟩), .int .i64 j, .bool true]) (by simp [results, Try.results46, go_sem, tV]) rfl ⟨rfl, ?_⟩
    exact ((Below.refl _ _).alloc (Nat.le_refl _) _).alloc (by simp) _
set_option maxRecDepth 100000 in
set_option maxHeartbeats 4000000 in
theorem rtest_dot (s : ByteArray) (i : Nat) (w : World) (hi : i < s.size) (hs : s.size ≤ 4000000) (hc : bt s i = 46) : Calls Try.prog 46 #[.string s, .int .i64 i] w (fun e w' => Rn (nT 3 (rnP s (i + 1))) tV e ∧ Below w.heap.size w w') := by
  have HNM := Lib.hid (fun (V : World) => rname9_any s (i + 1) V hi hs)
  have hbt := PlainAid.get_bt s
  have k1 : (i : Int) < (s.size : Int) := by omega
  cases hr : rnP s (i + 1) with
  | error j =>
    rw [hr] at HNM
    clear hr
    go_enter Try.func46, Try.ntmps46
    go_wp2_with fail
    refine (HNM.out _).mono ?_
    rintro e w' ⟨⟨x, rfl⟩, rfl⟩
    go_wp2
    refine bodyPost_ret (v := .tuple #[tV (3, x, ⟨#[]⟩), .int .i64 j, .bool false]) (by simp [results, Try.results46, go_sem, tV]) rfl ⟨⟨(3, x, ⟨#[]⟩), rfl⟩, ?_⟩
    exact ((Below.refl _ _).alloc (Nat.le_refl _) _).alloc (by simp) _
  | ok q =>
    obtain ⟨n, j⟩ := q
    rw [hr] at HNM
    clear hr
    go_enter Try.func46, Try.ntmps46
    go_wp2_with fail
    refine (HNM.out _).mono ?_
    rintro e w' ⟨rfl, rfl⟩
    go_wp2
    refine bodyPost_ret (v := .tuple #[tV (3, n, ⟨#[]⟩), .int .i64 j, .bool true]) (by simp [results, Try.results46, go_sem, tV]) rfl ⟨rfl, ?_⟩
    exact ((Below.refl _ _).alloc (Nat.le_refl _) _).alloc (by simp) _
set_option maxRecDepth 100000 in
set_option maxHeartbeats 8000000 in
theorem rtest_attr (s : ByteArray) (i : Nat) (w : World) (hi : i < s.size) (hs : s.size ≤ 4000000) (hc : bt s i = 91) : Calls Try.prog 46 #[.string s, .int .i64 i] w (fun e w' => Rn (raP s i) tV e ∧ Below w.heap.size w w') := by
  have HB0 := Lib.hid (fun (V : World) => rblanks_any s (i + 1) V hi hs)
  have h0 := sp_le s (i + 1) hi
  have hbt := PlainAid.get_bt s
  have k1 : (i : Int) < (s.size : Int) := by omega
  have hra : raP s i = match rnP s (sp s (i + 1)) with | .error k => .error k | .ok (n, j) => raQ s n (sp s j) := rfl
  generalize sp s (i + 1) = j0 at *
  have HNM := Lib.hid (fun (V : World) => rname9_any s j0 V h0.2 hs)
  cases hr : rnP s j0 with
  | error j =>
    rw [hr] at HNM hra
    have HR : Hid (raP s i = .error j) := Lib.hid hra
    clear hr hra h0
    go_enter Try.func46, Try.ntmps46
    go_wp2_with fail
    refine (HB0.out _).mono ?_
    rintro e w' ⟨rfl, rfl⟩
    go_wp2_with fail
    refine (HNM.out _).mono ?_
    rintro e w' ⟨⟨x, rfl⟩, rfl⟩
    go_wp2
    refine bodyPost_ret (v := .tuple #[tV (0, ⟨#[]⟩, ⟨#[]⟩), .int .i64 j, .bool false]) (by simp [results, Try.results46, go_sem, tV]) rfl ⟨by rw [HR.out]; exact ⟨(0, ⟨#[]⟩, ⟨#[]⟩), rfl⟩, ?_⟩
    exact (Below.refl _ _).alloc (Nat.le_refl _) _
  | ok q =>
    obtain ⟨n, j⟩ := q
    have h1 := rnP_le h0.2 hr
    rw [hr] at HNM hra
    simp only [] at hra
    have HB1 := Lib.hid (fun (V : World) => rblanks_any s j V h1.2 hs)
    have h2 := sp_le s j h1.2
    have h3 := fun h => lk_lt (s := s) (i := sp s j) h
    generalize sp s j = j1 at *
    have HI1 := Lib.hid (fun (b : Int) (hb : 0 ≤ b) (V : World) => ris_any s j1 b V h2.2 hs hb)
    have HI93 := Lib.hid (HI1.out 93 (by decide))
    have HI61 := Lib.hid (HI1.out 61 (by decide))
    clear HI1 hr
    unfold raQ at hra
    by_cases c93 : lk s j1 = 93
    · rw [if_neg (by rw [c93]; decide), if_pos c93] at hra
      have HR := Lib.hid hra
      rw [decide_eq_true c93] at HI93
      have h4 := h3 (by rw [c93]; decide)
      clear hra c93 HI61 h3 h0 h1 h2
      go_enter Try.func46, Try.ntmps46
      go_wp2_with fail
      refine (HB0.out _).mono ?_
      rintro e w' ⟨rfl, rfl⟩
      go_wp2_with fail
      refine (HNM.out _).mono ?_
      rintro e w' ⟨rfl, rfl⟩
      go_wp2_with fail
      refine (HB1.out _).mono ?_
      rintro e w' ⟨rfl, rfl⟩
      go_wp2_with fail
      refine (HI93.out _).mono ?_
      rintro e w' ⟨rfl, rfl⟩
      go_wp2
      refine bodyPost_ret (v := .tuple #[tV (4, n, ⟨#[]⟩), .int .i64 (j1 + 1 : Nat), .bool true]) (by simp [results, Try.results46, go_sem, tV]) rfl ⟨by rw [HR.out]; rfl, ?_⟩
      exact (Below.refl _ _).alloc (Nat.le_refl _) _
    · by_cases c61 : lk s j1 = 61
      case neg =>
        rw [if_neg c61, if_neg c93] at hra
        have HR := Lib.hid hra
        rw [decide_eq_false c93] at HI93
        rw [decide_eq_false c61] at HI61
        clear hra c93 c61 h3 h0 h1 h2
        go_enter Try.func46, Try.ntmps46
        go_wp2_with fail
        refine (HB0.out _).mono ?_
        rintro e w' ⟨rfl, rfl⟩
        go_wp2_with fail
        refine (HNM.out _).mono ?_
        rintro e w' ⟨rfl, rfl⟩
        go_wp2_with fail
        refine (HB1.out _).mono ?_
        rintro e w' ⟨rfl, rfl⟩
        go_wp2_with fail
        refine (HI93.out _).mono ?_
        rintro e w' ⟨rfl, rfl⟩
        go_wp2_with fail
        refine (HI61.out _).mono ?_
        rintro e w' ⟨rfl, rfl⟩
        go_wp2
        refine bodyPost_ret (v := .tuple #[tV (0, ⟨#[]⟩, ⟨#[]⟩), .int .i64 j1, .bool false]) (by simp [results, Try.results46, go_sem, tV]) rfl ⟨by rw [HR.out]; exact ⟨(0, ⟨#[]⟩, ⟨#[]⟩), rfl⟩, ?_⟩
        exact (Below.refl _ _).alloc (Nat.le_refl _) _
      rw [if_pos c61] at hra
      rw [decide_eq_false c93] at HI93
      rw [decide_eq_true c61] at HI61
      have h4 : j1 < s.size := h3 (by rw [c61]; decide)
      have HB2 := Lib.hid (fun (V : World) => rblanks_any s (j1 + 1) V h4 hs)
      have h5 := sp_le s (j1 + 1) h4
      generalize sp s (j1 + 1) = j2 at *
      have HV := Lib.hid (fun (V : World) => rvalue_any s j2 V h5.2 hs)
      clear h3 c93 c61
      cases hv : rvP s j2 with
      | error k =>
        rw [hv] at HV hra
        have HR : Hid (raP s i = .error k) := Lib.hid hra
        clear hra hv h0 h1 h2 h5
        go_enter Try.func46, Try.ntmps46
        go_wp2_with fail
        refine (HB0.out _).mono ?_
        rintro e w' ⟨rfl, rfl⟩
        go_wp2_with fail
        refine (HNM.out _).mono ?_
        rintro e w' ⟨rfl, rfl⟩
        go_wp2_with fail
        refine (HB1.out _).mono ?_
        rintro e w' ⟨rfl, rfl⟩
        go_wp2_with fail
        refine (HI93.out _).mono ?_
        rintro e w' ⟨rfl, rfl⟩
        go_wp2_with fail
        refine (HI61.out _).mono ?_
        rintro e w' ⟨rfl, rfl⟩
        go_wp2_with fail
        refine (HB2.out _).mono ?_
        rintro e w' ⟨rfl, rfl⟩
        go_wp2_with fail
        refine (HV.out _).mono ?_
        rintro e w' ⟨⟨x, rfl⟩, rfl⟩
        go_wp2
        refine bodyPost_ret (v := .tuple #[tV (0, ⟨#[]⟩, ⟨#[]⟩), .int .i64 k, .bool false]) (by simp [results, Try.results46, go_sem, tV]) rfl ⟨by rw [HR.out]; exact ⟨(0, ⟨#[]⟩, ⟨#[]⟩), rfl⟩, ?_⟩
        exact (Below.refl _ _).alloc (Nat.le_refl _) _
      | ok q =>
        obtain ⟨v, k⟩ := q
        have h6 := rvP_le h5.2 hv
        rw [hv] at HV hra
        simp only [] at hra
        have HB3 := Lib.hid (fun (V : World) => rblanks_any s k V h6.2 hs)
        have h7 := sp_le s k h6.2
        have h8 := fun h => lk_lt (s := s) (i := sp s k) h
        generalize sp s k = j3 at *
        have HI3 := Lib.hid (fun (V : World) => ris_any s j3 93 V h7.2 hs (by decide))
        clear hv
        by_cases c3 : lk s j3 = 93
        · rw [if_pos c3] at hra
          rw [decide_eq_true c3] at HI3
          have HR := Lib.hid hra
          have h9 : j3 < s.size := h8 (by rw [c3]; decide)
          clear hra c3 h8 h0 h1 h2 h5 h6 h7
          go_enter Try.func46, Try.ntmps46
          go_wp2_with fail
          refine (HB0.out _).mono ?_
          rintro e w' ⟨rfl, rfl⟩
          go_wp2_with fail
          refine (HNM.out _).mono ?_
          rintro e w' ⟨rfl, rfl⟩
          go_wp2_with fail
          refine (HB1.out _).mono ?_
          rintro e w' ⟨rfl, rfl⟩
          go_wp2_with fail
          refine (HI93.out _).mono ?_
          rintro e w' ⟨rfl, rfl⟩
          go_wp2_with fail
          refine (HI61.out _).mono ?_
          rintro e w' ⟨rfl, rfl⟩
          go_wp2_with fail
          refine (HB2.out _).mono ?_
          rintro e w' ⟨rfl, rfl⟩
          go_wp2_with fail
          refine (HV.out _).mono ?_
          rintro e w' ⟨rfl, rfl⟩
          go_wp2_with fail
          refine (HB3.out _).mono ?_
          rintro e w' ⟨rfl, rfl⟩
          go_wp2_with fail
          refine (HI3.out _).mono ?_
          rintro e w' ⟨rfl, rfl⟩
          go_wp2
          refine bodyPost_ret (v := .tuple #[tV (5, n, v), .int .i64 (j3 + 1 : Nat), .bool true]) (by simp [results, Try.results46, go_sem, tV]) rfl ⟨by rw [HR.out]; rfl, ?_⟩
          exact (Below.refl _ _).alloc (Nat.le_refl _) _
        · rw [if_neg c3] at hra
          rw [decide_eq_false c3] at HI3
          have HR := Lib.hid hra
          clear hra c3 h8 h0 h1 h2 h5 h6 h7
          go_enter Try.func46, Try.ntmps46
          go_wp2_with fail
          refine (HB0.out _).mono ?_
          rintro e w' ⟨rfl, rfl⟩
          go_wp2_with fail
          refine (HNM.out _).mono ?_
          rintro e w' ⟨rfl, rfl⟩
          go_wp2_with fail
          refine (HB1.out _).mono ?_
          rintro e w' ⟨rfl, rfl⟩
          go_wp2_with fail
          refine (HI93.out _).mono ?_
          rintro e w' ⟨rfl, rfl⟩
          go_wp2_with fail
          refine (HI61.out _).mono ?_
          rintro e w' ⟨rfl, rfl⟩
          go_wp2_with fail
          refine (HB2.out _).mono ?_
          rintro e w' ⟨rfl, rfl⟩
          go_wp2_with fail
          refine (HV.out _).mono ?_
          rintro e w' ⟨rfl, rfl⟩
          go_wp2_with fail
          refine (HB3.out _).mono ?_
          rintro e w' ⟨rfl, rfl⟩
          go_wp2_with fail
          refine (HI3.out _).mono ?_
          rintro e w' ⟨rfl, rfl⟩
          go_wp2
          refine bodyPost_ret (v := .tuple #[tV (0, ⟨#[]⟩, ⟨#[]⟩), .int .i64 j3, .bool false]) (by simp [results, Try.results46, go_sem, tV]) rfl ⟨by rw [HR.out]; exact ⟨(0, ⟨#[]⟩, ⟨#[]⟩), rfl⟩, ?_⟩
          exact (Below.refl _ _).alloc (Nat.le_refl _) _
end Go.Proofs.Ytcfkcifbojckcaa
