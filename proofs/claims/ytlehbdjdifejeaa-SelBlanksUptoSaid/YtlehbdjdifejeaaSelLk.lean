/-
  The law SelBlanks: blanks at both ends, and around a comma and a >, change nothing.
-/
import Derived.Test.YtlehbdjdifejeaaSelLr
import Derived.Test.YtlehbdjdifejeaaSelLn
import Derived.Test.YtlehbdjdifejeaaSelBm
namespace Go.Proofs.Ytlehbdjdifejeaa
open Go.ChangeShapes Go.WideShapes Go.ChangeAt Go.RowKit
open Go.PlainAid (bt)
set_option linter.unusedVariables false
set_option linter.unusedSimpArgs false

/-- The blanks that the law takes. -/
def blank5 (k : Nat) : ByteArray := if k = 0 then ⟨#[32]⟩ else if k = 1 then ⟨#[9]⟩ else if k = 2 then ⟨#[10, 12]⟩ else if k = 3 then ⟨#[13, 32]⟩ else ⟨#[32, 32]⟩
theorem blank5_bl (k : Nat) : Sl.Bl (ls (blank5 k)) ∧ (ls (blank5 k)).length ≤ 2 := by
  unfold blank5
  have h : ∀ l : ByteArray, (∀ c ∈ ls l, Sl.isB c = true) → (ls l).length ≤ 2 → Sl.Bl (ls l) ∧ (ls l).length ≤ 2 := fun l a b => ⟨a, b⟩
  split
  · exact h _ (by decide) (by decide)
  · split
    · exact h _ (by decide) (by decide)
    · split
      · exact h _ (by decide) (by decide)
      · split
        · exact h _ (by decide) (by decide)
        · exact h _ (by decide) (by decide)
theorem ls_ext1 {s : ByteArray} {k : Nat} {c : UInt8} {r : List UInt8} (hd : s.data.toList.drop k = c :: r) : ls (s.extract k (k + 1)) = [c] := by
  rw [ext_ls, show (ls s).drop k = c :: r from hd, Nat.add_sub_cancel_left]
  rfl
theorem ls_app (a b : ByteArray) : ls (a ++ b) = ls a ++ ls b := by simp [ls, ByteArray.data_append]
/-- One letter more: where nothing is put around it, and where the blanks are. -/
theorem ex_one {bl : List UInt8} {U S T : ByteArray} {b : Bool} {k : Nat} {c : UInt8} {E : List UInt8} (h : ls U ++ Sl.ex bl b ((ls S).drop k) = E) (hd : S.data.toList.drop k = c :: S.data.toList.drop (k + 1)) (hT : ls T = ls U ++ ((if (c = 44 ∨ c = 62) ∧ (if c = 34 then !b else b) = false then bl ++ c :: bl else [c]))) :
    ls T ++ Sl.ex bl (if c = 34 then !b else b) ((ls S).drop (k + 1)) = E := by
  rw [hT, ← h, show (ls S).drop k = c :: (ls S).drop (k + 1) from hd, Sl.ex, List.append_assoc]
set_option maxRecDepth 100000 in
set_option maxHeartbeats 8000000 in
theorem blanks_law (s : ByteArray) (n : Int) (w : World) (hn0 : 0 ≤ n) (hn1 : n ≤ 255) (hs : s.size ≤ 2000000) : Calls Try.prog 7 #[.string s, .int .u8 n] w (GivesV (.bool true) w) := by
  have HS := Lib.hid (fun (V : World) => shown_any V)
  by_cases h150 : s.size ≤ 150
  case neg =>
    have q0 : decide ((150 : Int) < (s.size : Int)) = true := by simp; omega
    have HP := Lib.hid (fun (V : World) => parse_any (t := s) (by omega) V)
    clear h150
    go_enter Try.func7, Try.ntmps7
    go_wp2_with fail
    refine (HP.out w).mono ?_
    rintro e w1 ⟨⟨A, m, c, a, b, rfl⟩, hb⟩
    have HB1 := Lib.hid hb
    clear hb
    go_wp2_with fail
    refine (HS.out w1).mono ?_
    rintro e w2 ⟨rfl, hb⟩
    have HB := Lib.hid (HB1.out.trans (hb.mono HB1.out.size))
    clear hb
    go_wp2
    go_ret
    exact ⟨rfl, HB.out⟩
  have q0 : decide ((150 : Int) < (s.size : Int)) = false := by simp; omega
  cases hp : Sl.parse (ls s) with
  | error k =>
    have HP := Lib.hid (fun (V : World) => parse_bad (by omega) hp V)
    clear hp h150
    go_enter Try.func7, Try.ntmps7
    go_wp2_with fail
    refine (HP.out w).mono ?_
    rintro e w1 ⟨rfl, hb⟩
    have HB1 := Lib.hid hb
    clear hb
    go_wp2_with fail
    refine (HS.out w1).mono ?_
    rintro e w2 ⟨rfl, hb⟩
    have HB := Lib.hid (HB1.out.trans (hb.mono HB1.out.size))
    clear hb
    go_wp2
    go_ret
    exact ⟨rfl, HB.out⟩
  | ok X =>
    have hok := Sl.parse_ok hp
    have hwx := Sl.parse_wx hp
    rw [ls_len] at hwx
    have hlen := Nat.le_trans (Sl.printS_le X) hwx
    obtain ⟨k5, hk5⟩ : ∃ k : Nat, n % 5 = k := ⟨(n % 5).toNat, by omega⟩
    have hk5' : k5 < 5 := by omega
    obtain ⟨bl, hbl⟩ : ∃ bl, bl = blank5 k5 := ⟨_, rfl⟩
    obtain ⟨hBl, hbl2⟩ := blank5_bl k5
    rw [← hbl] at hBl hbl2
    have hpr := Sl.bl_parse hBl hok
    have hel := Sl.ex_le (ls bl) (Sl.printS X) false
    have hel2 : (Sl.ex (ls bl) false (Sl.printS X)).length ≤ 20000 := by
      refine Nat.le_trans hel ?_
      refine Nat.le_trans (Nat.mul_le_mul_right _ (show 1 + 2 * (ls bl).length ≤ 5 by omega)) ?_
      omega
    have HP := Lib.hid (fun (V : World) => parse_good (by omega) hp V)
    have HE := Lib.hid (fun (U : ByteArray) (hU : ls U = Sl.ex (ls bl) false (Sl.printS X)) (V : World) => parse_good (t := bl ++ U ++ bl) (by rw [ByteArray.size_append, ByteArray.size_append, ← ls_len, ← ls_len, hU]; omega) (X := X) (by rw [show ls (bl ++ U ++ bl) = ls bl ++ (ls U ++ ls bl) by simp [ls, ByteArray.data_append], hU]; exact hpr) V)
    have HPr := Lib.hid (fun (A : Option Addr) (x : List Mr) (c : Nat) (V : World) (hX : XR V A x) (hx : rws x = X) => show Calls Try.prog 16 #[.slice A x.length c] V fun e w' => e = .returned (.tuple #[.string (ba (Sl.printS X)), .int .i64 0]) ∧ Below V.heap.size V w' from by
      have := print_good (c := c) hX (by rw [hx]; omega) (by rw [hx]; exact hok)
      rwa [hx] at this)
    have HI := Lib.hid (fun (A : Option Addr) (x : List Mr) (c : Nat) (V : World) (hX : XR V A x) (hx : rws x = X) => its_good (c := c) hX (by rw [hx]; omega))
    have HSa := Lib.hid (fun (A B : Option Addr) (x y : List Mr) (c d : Nat) (V : World) (hX : XR V A x) (hY : XR V B y) (hx : rws x = X) (hy : rws y = X) => same_good (c := c) (d := d) hX hY (by rw [hx, hy]) (by rw [hy]; omega))
    have hSl : ls (ba (Sl.printS X)) = Sl.printS X := rfl
    have hbs : bl.size ≤ 2 := by rw [← ls_len]; exact hbl2
    have HEL := Lib.hid hel2
    rw [← hSl] at HE HEL
    have hSz : (ba (Sl.printS X)).size ≤ 2000 := by rw [ba_size]; omega
    generalize ba (Sl.printS X) = S at *
    have hcell : ∀ W : World, (W.alloc (.cells #[.string ⟨#[32]⟩, .string ⟨#[9]⟩, .string ⟨#[10, 12]⟩, .string ⟨#[13, 32]⟩, .string ⟨#[32, 32]⟩] 9)).cell? ⟨W.heap.size, k5, none⟩ = some (.string bl) := fun W => by
      have := heap_alloc_new W (.cells #[.string ⟨#[32]⟩, .string ⟨#[9]⟩, .string ⟨#[10, 12]⟩, .string ⟨#[13, 32]⟩, .string ⟨#[32, 32]⟩] 9)
      rw [hbl]
      unfold World.cell?
      simp only [this]
      match k5, hk5' with
      | 0, _ => rfl
      | 1, _ => rfl
      | 2, _ => rfl
      | 3, _ => rfl
      | 4, _ => rfl
    have HCL := Lib.hid hcell
    clear hcell hbl hp hok hwx hlen hpr hel hel2 hSl hBl hbl2
    go_enter Try.func7, Try.ntmps7
    go_wp2_with fail
    refine (HP.out w).mono ?_
    rintro e w1 ⟨⟨x, A, c, rfl, hX, hx⟩, hb⟩
    have HB1 := Lib.hid hb
    have HX1 := Lib.hid hX
    have HXX := Lib.hid hx
    clear hb hX hx
    obtain ⟨nx, hnx⟩ : ∃ nx, x.length = nx := ⟨_, rfl⟩
    have HNX := Lib.hid hnx
    rw [hnx]
    clear hnx
    go_wp2_with fail
    refine (HS.out w1).mono ?_
    rintro e w2 ⟨rfl, hb⟩
    have HB2 := Lib.hid (HB1.out.trans (hb.mono HB1.out.size))
    have HX2 := Lib.hid (HX1.out.below hb)
    clear hb HX1
    have hc2 := HCL.out w2
    go_wp2_with fail
    obtain ⟨V2, hV2⟩ : ∃ V2, V2 = w2.alloc (.cells #[.string ⟨#[32]⟩, .string ⟨#[9]⟩, .string ⟨#[10, 12]⟩, .string ⟨#[13, 32]⟩, .string ⟨#[32, 32]⟩] 9) := ⟨_, rfl⟩
    rw [← hV2]
    have hb2 : Below w2.heap.size w2 V2 := by rw [hV2]; exact (Below.refl _ _).alloc (Nat.le_refl _) _
    have HB3 := Lib.hid (HB2.out.trans (hb2.mono HB2.out.size))
    have HX3 := Lib.hid (HX2.out.below hb2)
    clear hb2 hV2 hc2 HX2
    have hpr := HPr.out A x c V2 HX3.out HXX.out
    rw [HNX.out] at hpr
    refine hpr.mono ?_
    clear hpr
    rintro e w4 ⟨rfl, hb⟩
    have HB4 := Lib.hid (HB3.out.trans (hb.mono HB3.out.size))
    have HX4 := Lib.hid (HX3.out.below hb)
    clear hb HX3
    go_wp2_with fail
    go_loop [11, 12, 13] (fun u q i => ∃ (U : ByteArray) (b : Bool) (k : Nat), u = .string U ∧ q = .bool b ∧ i = .int .i64 k ∧ k ≤ S.size ∧ Hid (ls U ++ Sl.ex (ls bl) b ((ls S).drop k) = Sl.ex (ls bl) false (ls S))) (fun u q i => S.size - (intOf i).toNat)
    case atStart => exact ⟨⟨#[]⟩, false, 0, rfl, rfl, rfl, Nat.zero_le _, Lib.hid rfl⟩
    case round =>
      obtain ⟨U, b, k, rfl, rfl, rfl, hk, HU⟩ := hrel
      by_cases hlt : k < S.size
      · have hbt := PlainAid.get_bt S
        have g1 := PlainAid.bt_nonneg S k
        have g2 := PlainAid.bt_le S k
        obtain ⟨ch, -, hch, hdr⟩ := bt_list S k hlt
        have HX1 := Lib.hid (ls_ext1 hdr)
        have HDR := Lib.hid hdr
        have HCH := Lib.hid hch
        have hcut : ∀ W, Sem.run Try.prog (Instr.slice 9 (.string S) (some (.int .i64 (k : Int))) (some (.int .i64 ((k : Int) + 1))) none) W = .ok (.string (S.extract k (k + 1))) W := fun W => cut_str S k (k + 1) (by omega) (by omega) _ _ rfl (by omega) W
        have k0 : (k : Int) < (S.size : Int) := by omega
        generalize S.extract k (k + 1) = C1 at hcut HX1
        have hus : U.size ≤ 20000 := by
          have h1 := congrArg List.length HU.out
          rw [List.length_append, ls_len] at h1
          have := HEL.out
          omega
        have hcs : C1.size ≤ 1 := by rw [← ls_len, HX1.out]; simp
        clear hdr hch
        rcases (show bt S k = 34 ∨ (bt S k ≠ 34 ∧ (bt S k = 44 ∨ (bt S k ≠ 44 ∧ (bt S k = 62 ∨ bt S k ≠ 62)))) by omega) with h34 | ⟨h34, h44 | ⟨h44, h62 | h62⟩⟩
        · have hc : ch = 34 := by have := HCH.out; rw [h34] at this; exact UInt8.toNat_inj.1 (by simpa using (by omega : ch.toNat = 34))
          have HN : ∀ T : ByteArray, ls T = ls U ++ [ch] → Hid (ls T ++ Sl.ex (ls bl) (!b) ((ls S).drop (k + 1)) = Sl.ex (ls bl) false (ls S)) := fun T hT => Lib.hid (by
            have := ex_one (T := T) HU.out HDR.out (by rw [hT, hc]; simp)
            rwa [hc, if_pos rfl] at this)
          cases b
          all_goals
            go_wp2
            go_round
            case rel => exact ⟨U ++ C1, _, k + 1, rfl, rfl, by go_num, by omega, HN _ (by rw [ls_app, HX1.out])⟩
            case measure => simp [intOf]; omega
        · have hc : ch = 44 := by have := HCH.out; rw [h44] at this; exact UInt8.toNat_inj.1 (by simpa using (by omega : ch.toNat = 44))
          have HN1 : Hid (∀ T : ByteArray, ls T = ls U ++ [ch] → ls T ++ Sl.ex (ls bl) true ((ls S).drop (k + 1)) = Sl.ex (ls bl) false (ls S)) ∨ b = false := by
            cases b
            · exact .inr rfl
            · exact .inl (Lib.hid (fun T hT => by
                have := ex_one (T := T) HU.out HDR.out (by rw [hT, hc]; simp)
                rwa [hc, if_neg (by decide)] at this))
          have HN2 : Hid (∀ T : ByteArray, ls T = ls U ++ (ls bl ++ ch :: ls bl) → ls T ++ Sl.ex (ls bl) false ((ls S).drop (k + 1)) = Sl.ex (ls bl) false (ls S)) ∨ b = true := by
            cases b
            · exact .inl (Lib.hid (fun T hT => by
                have := ex_one (T := T) HU.out HDR.out (by rw [hT, hc]; simp)
                rwa [hc, if_neg (by decide)] at this))
            · exact .inr rfl
          cases b
          · rcases HN2 with HN | h
            · clear HN1
              go_wp2
              go_round
              case rel => exact ⟨U ++ bl ++ C1 ++ bl, _, k + 1, rfl, rfl, by go_num, by omega, Lib.hid (HN.out _ (by rw [ls_app, ls_app, ls_app, HX1.out]; simp))⟩
              case measure => simp [intOf]; omega
            · cases h
          · rcases HN1 with HN | h
            · clear HN2
              go_wp2
              go_round
              case rel => exact ⟨U ++ C1, _, k + 1, rfl, rfl, by go_num, by omega, Lib.hid (HN.out _ (by rw [ls_app, HX1.out]))⟩
              case measure => simp [intOf]; omega
            · cases h
        · have hc : ch = 62 := by have := HCH.out; rw [h62] at this; exact UInt8.toNat_inj.1 (by simpa using (by omega : ch.toNat = 62))
          have HN1 : Hid (∀ T : ByteArray, ls T = ls U ++ [ch] → ls T ++ Sl.ex (ls bl) true ((ls S).drop (k + 1)) = Sl.ex (ls bl) false (ls S)) ∨ b = false := by
            cases b
            · exact .inr rfl
            · exact .inl (Lib.hid (fun T hT => by
                have := ex_one (T := T) HU.out HDR.out (by rw [hT, hc]; simp)
                rwa [hc, if_neg (by decide)] at this))
          have HN2 : Hid (∀ T : ByteArray, ls T = ls U ++ (ls bl ++ ch :: ls bl) → ls T ++ Sl.ex (ls bl) false ((ls S).drop (k + 1)) = Sl.ex (ls bl) false (ls S)) ∨ b = true := by
            cases b
            · exact .inl (Lib.hid (fun T hT => by
                have := ex_one (T := T) HU.out HDR.out (by rw [hT, hc]; simp)
                rwa [hc, if_neg (by decide)] at this))
            · exact .inr rfl
          cases b
          · rcases HN2 with HN | h
            · clear HN1
              go_wp2
              go_round
              case rel => exact ⟨U ++ bl ++ C1 ++ bl, _, k + 1, rfl, rfl, by go_num, by omega, Lib.hid (HN.out _ (by rw [ls_app, ls_app, ls_app, HX1.out]; simp))⟩
              case measure => simp [intOf]; omega
            · cases h
          · rcases HN1 with HN | h
            · clear HN2
              go_wp2
              go_round
              case rel => exact ⟨U ++ C1, _, k + 1, rfl, rfl, by go_num, by omega, Lib.hid (HN.out _ (by rw [ls_app, HX1.out]))⟩
              case measure => simp [intOf]; omega
            · cases h
        · have HN : ∀ T : ByteArray, ls T = ls U ++ [ch] → Hid (ls T ++ Sl.ex (ls bl) b ((ls S).drop (k + 1)) = Sl.ex (ls bl) false (ls S)) := fun T hT => Lib.hid (by
            have hch := HCH.out
            have n1 : ch ≠ 34 := by rintro rfl; exact h34 (by rw [hch]; rfl)
            have n2 : ch ≠ 44 := by rintro rfl; exact h44 (by rw [hch]; rfl)
            have n3 : ch ≠ 62 := by rintro rfl; exact h62 (by rw [hch]; rfl)
            have := ex_one (T := T) HU.out HDR.out (by rw [hT, if_neg (by rintro ⟨h | h, -⟩; exact n2 h; exact n3 h)])
            rwa [if_neg n1] at this)
          cases b
          all_goals
            go_wp2
            go_round
            case rel => exact ⟨U ++ C1, _, k + 1, rfl, rfl, by go_num, by omega, HN _ (by rw [ls_app, HX1.out])⟩
            case measure => simp [intOf]; omega
      · obtain rfl : k = S.size := by omega
        have hU : ls U = Sl.ex (ls bl) false (ls S) := by
          have h := HU.out
          rw [List.drop_eq_nil_of_le (by rw [ls_len]; omega)] at h
          simpa [Sl.ex] using h
        have hus : U.size ≤ 20000 := by
          have h1 := congrArg List.length hU
          rw [ls_len] at h1
          have := HEL.out
          omega
        have HPu := Lib.hid (fun (V : World) => HE.out U hU V)
        clear hU HU hk hlt
        go_wp2_with fail
        refine (HPu.out w4).mono ?_
        rintro e w5 ⟨⟨y, B, d, rfl, hY, hy⟩, hb⟩
        have HB5 := Lib.hid (HB4.out.trans (hb.mono HB4.out.size))
        have HX5 := Lib.hid (HX4.out.below hb)
        have HY5 := Lib.hid hY
        have HYY := Lib.hid hy
        clear hb hY hy HX4
        obtain ⟨ny, hny⟩ : ∃ ny, y.length = ny := ⟨_, rfl⟩
        have HNY := Lib.hid hny
        rw [hny]
        clear hny
        go_wp2_with fail
        have hI := HI.out A x c w5 HX5.out HXX.out
        rw [HNX.out] at hI
        refine hI.mono ?_
        clear hI
        rintro e w6 ⟨⟨x6, A6, c6, rfl, -, hX6, hx6⟩, hb⟩
        have HB6 := Lib.hid (HB5.out.trans (hb.mono HB5.out.size))
        have HY6 := Lib.hid (HY5.out.below hb)
        have HX6 := Lib.hid hX6
        have HXX6 := Lib.hid (hx6.trans HXX.out)
        clear hb hX6 hx6 HX5 HY5
        go_wp2_with fail
        have hI := HI.out B y d w6 HY6.out HYY.out
        rw [HNY.out] at hI
        refine hI.mono ?_
        clear hI
        rintro e w7 ⟨⟨x7, A7, c7, rfl, -, hX7, hx7⟩, hb⟩
        have HB7 := Lib.hid (HB6.out.trans (hb.mono HB6.out.size))
        have HS7 := Lib.hid (HSa.out A6 A7 x6 x7 c6 c7 w7 (HX6.out.below hb) hX7 HXX6.out (hx7.trans HYY.out))
        clear hb hX7 hx7
        go_wp2_with fail
        refine HS7.out.mono ?_
        rintro e w8 ⟨rfl, hb⟩
        have HB8 := Lib.hid (HB7.out.trans (hb.mono HB7.out.size))
        clear hb
        go_wp2
        go_ret
        exact ⟨rfl, HB8.out⟩
/-- The law, of what came in. -/
theorem blanks_true {H : Type} {enc : TypeId × Value → H} {W : World} {base : Nat} {v0 v1 : Value} {d0 d1 : DataW H} {p0 p1 : List MemPlace} (hk : Rows.uptoSmall H [d0, d1] = true) (o0 : Value.okWide Try.prog W .any base 9 v0) (o1 : Value.okWide Try.prog W .any base 5 v1)
    (h0 : DataW.Trod enc Try.prog W 0 (fun _ => true) true 9 v0 d0 p0) (h1 : DataW.Trod enc Try.prog W 0 (fun _ => true) true 5 v1 d1 p1) (l0 : ∀ x ∈ p0, x.block < W.heap.size) (l1 : ∀ x ∈ p1, x.block < W.heap.size) :
    Calls Try.prog 7 #[v0, v1] W fun e W' => e = .returned (.bool true) ∧ Below W.heap.size W W' := by
  obtain ⟨s, rfl, rfl, rfl, w0⟩ := Go.ChangeMaps.open_string Try.underlying9 o0 h0
  obtain ⟨n, rfl, rfl, rfl, w1⟩ := open_int Try.underlying5 o1 h1
  have z0 := bulk_str (s := s) hk (by simp)
  have hw : 0 ≤ n ∧ n ≤ 255 := by
    have h := w1
    simp [Lit.wf, IntKind.min, IntKind.max, IntKind.signed, IntKind.bits] at h
    omega
  exact blanks_law s n W hw.1 hw.2 (by omega)
end Go.Proofs.Ytlehbdjdifejeaa
