/- Quoted texts, as the program makes them. -/
import Derived.Test.YtgacphpkgaobkaaDoorLike
set_option linter.unusedVariables false
namespace Go.Proofs.YtgacphpkgaobkaaDoor
open Go Go.RowKit

theorem esc_text_sign {r : Int} (h : r = 34 ∨ r = 92) : text (esc r) = [92] ++ Lib.encodeRune r := by
  unfold esc
  rw [if_pos h]
  rcases h with rfl | rfl <;> rfl
theorem esc_text_line {r : Int} (h : r = 10) : text (esc r) = [92, 110] := by subst h; rfl
theorem esc_text_else {r : Int} (h1 : ¬ (r = 34 ∨ r = 92)) (h2 : r ≠ 10) : text (esc r) = Lib.encodeRune r := by
  unfold esc
  rw [if_neg h1, if_neg h2]
  simp [text]
end Go.Proofs.YtgacphpkgaobkaaDoor
