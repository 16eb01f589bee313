/-
  The small case that every law of layer 2 runs.
-/
import Derived.Test.YtaapfgbeompckaaWordB
import Derived.Test.YtaapfgbeompckaaWordG
import Derived.Test.YtaapfgbeompckaaWordH
namespace Go.Proofs.Ytaapfgbeompckaa
open Go.ChangeShapes Go.WideShapes Go.ChangeAt Go.RowKit
open Go.PlainAid (bt)
set_option linter.unusedVariables false

theorem tok_bab (w : World) : Calls Try.prog 15 #[.string ⟨#[98, 32, 97, 32, 32, 98]⟩] w (Gives [[98], [97]] w) := by
  have h := tokens_any ⟨#[98, 32, 97, 32, 32, 98]⟩ w (by decide)
  rwa [show dd (ws ⟨#[98, 32, 97, 32, 32, 98]⟩) = [[98], [97]] by decide] at h
theorem has_ba (w : World) : Calls Try.prog 17 #[.string ⟨#[98, 32, 97]⟩, .string ⟨#[97]⟩] w fun e w' => e = .returned (.bool true) ∧ Below w.heap.size w w' := by
  have h := has_any ⟨#[98, 32, 97]⟩ ⟨#[97]⟩ w (by decide)
  rwa [show decide ((⟨#[97]⟩ : ByteArray).data.toList ∈ ws ⟨#[98, 32, 97]⟩) = true by decide] at h
theorem name_a1 (w : World) : Calls Try.prog 10 #[.string ⟨#[97, 45, 49]⟩] w fun e w' => e = .returned (.bool true) ∧ w = w' := by
  have h := name_any ⟨#[97, 45, 49]⟩ w (by decide)
  rwa [show nm ⟨#[97, 45, 49]⟩ = true by decide] at h
theorem name_1a (w : World) : Calls Try.prog 10 #[.string ⟨#[49, 97]⟩] w fun e w' => e = .returned (.bool false) ∧ w = w' := by
  have h := name_any ⟨#[49, 97]⟩ w (by decide)
  rwa [show nm ⟨#[49, 97]⟩ = false by decide] at h
theorem fold_ab (w : World) : Calls Try.prog 19 #[.string ⟨#[65, 98]⟩] w fun e w' => e = .returned (.string ⟨#[97, 98]⟩) ∧ Below w.heap.size w w' := by
  have h := fold_any ⟨#[65, 98]⟩ w (by decide)
  rwa [show fd ⟨#[65, 98]⟩ = ⟨#[97, 98]⟩ by decide] at h
theorem text_e (w : World) : Calls Try.prog 12 #[.string ⟨#[]⟩] w fun e w' => e = .returned (.bool true) ∧ w = w' := text_any ⟨#[]⟩ w (by decide)

set_option maxHeartbeats 1000000 in
theorem shown_any (w : World) : Calls Try.prog 9 #[] w fun e w' => e = .returned (.bool true) ∧ Below w.heap.size w w' := by
  go_enter Try.func9, Try.ntmps9
  go_wp2_with fail
  refine (tok_bab _).mono ?_
  rintro e w1 ⟨p, cp, rfl, h1, h2, h3, h4⟩
  obtain ⟨g, rfl, hg, hc⟩ := h3.2 (by decide)
  have hc0 := hc 0 [98] rfl
  have hq : (str [98]).toList = [98] := str_toList _
  have HB1 := Lib.hid h4
  clear h4 h3 hc
  unfold sv at hc0
  go_wp2_with fail
  refine (has_ba _).mono ?_
  rintro e w2 ⟨rfl, hb2⟩
  have HB2 := Lib.hid (HB1.out.trans (hb2.mono HB1.out.size))
  clear hb2
  go_wp2_with fail
  refine (name_a1 _).mono ?_
  rintro e w3 ⟨rfl, rfl⟩
  go_wp2_with fail
  refine (name_1a _).mono ?_
  rintro e w3 ⟨rfl, rfl⟩
  go_wp2_with fail
  refine (fold_ab _).mono ?_
  rintro e w3 ⟨rfl, hb3⟩
  have HB3 := Lib.hid (HB2.out.trans (hb3.mono HB2.out.size))
  clear hb3
  go_wp2_with fail
  refine (text_e _).mono ?_
  rintro e w4 ⟨rfl, rfl⟩
  go_wp2
  go_ret
  exact ⟨rfl, HB3.out⟩
end Go.Proofs.Ytaapfgbeompckaa
