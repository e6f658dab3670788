/- The functions that look at one rune. -/
import Derived.Test.YtgacphpkgaobkaaDoorBuild
import Derived.Deep.QuietTactic
import Derived.BigQuiet
set_option linter.unusedVariables false
namespace Go.Proofs.YtgacphpkgaobkaaDoor
open Go Go.RowKit

theorem ret_bool {a b : Bool} (h : a = b) : Ending.returned (.bool a) = .returned (.bool b) := by rw [h]
theorem ret_int {k : IntKind} {a b : Int} (h : a = b) : Ending.returned (.int k a) = .returned (.int k b) := by rw [h]

theorem isLet_yes {r : Int} (h : (97 ≤ r ∧ r ≤ 122) ∨ (65 ≤ r ∧ r ≤ 90) ∨ r = 95 ∨ (192 ≤ r ∧ r ≤ 591 ∧ r ≠ 215 ∧ r ≠ 247)) : isLet r = true := by unfold isLet; rw [decide_eq_true_eq]; exact h
theorem isLet_no {r : Int} (h : ¬ ((97 ≤ r ∧ r ≤ 122) ∨ (65 ≤ r ∧ r ≤ 90) ∨ r = 95 ∨ (192 ≤ r ∧ r ≤ 591 ∧ r ≠ 215 ∧ r ≠ 247))) : isLet r = false := by unfold isLet; rw [decide_eq_false_iff_not]; exact h

/-- The spans in which every test is decided, the tests on one rune as the walk spells them. -/
def Apart (r : Int) : Prop := (r == 95) = false ∧ (r == 215) = false ∧ (r == 247) = false ∧ (r != 215) = true ∧ (r != 247) = true
theorem apart {r : Int} (h : r ≠ 95 ∧ r ≠ 215 ∧ r ≠ 247) : Apart r :=
  ⟨beq_eq_false_iff_ne.2 h.1, beq_eq_false_iff_ne.2 h.2.1, beq_eq_false_iff_ne.2 h.2.2, bne_iff_ne.2 h.2.1, bne_iff_ne.2 h.2.2⟩
theorem spans {p : Int → Prop} (r : Int) (h1 : ∀ r, r < 65 → Apart r → p r) (h2 : ∀ r, 65 ≤ r → r ≤ 90 → Apart r → p r) (h3 : ∀ r, 91 ≤ r → r ≤ 94 → Apart r → p r) (h4 : p 95) (h5 : p 96) (h6 : ∀ r, 97 ≤ r → r ≤ 122 → Apart r → p r)
    (h7 : ∀ r, 123 ≤ r → r ≤ 191 → Apart r → p r) (h8 : ∀ r, 192 ≤ r → r ≤ 214 → Apart r → p r) (h9 : p 215) (h10 : ∀ r, 216 ≤ r → r ≤ 222 → Apart r → p r) (h14 : ∀ r, 223 ≤ r → r ≤ 246 → Apart r → p r) (h11 : p 247) (h12 : ∀ r, 248 ≤ r → r ≤ 591 → Apart r → p r) (h13 : ∀ r, 592 ≤ r → Apart r → p r) : p r := by
  by_cases a4 : r = 95
  · exact a4 ▸ h4
  by_cases a9 : r = 215
  · exact a9 ▸ h9
  by_cases a11 : r = 247
  · exact a11 ▸ h11
  have ha := apart ⟨a4, a9, a11⟩
  by_cases a1 : r < 65
  · exact h1 r a1 ha
  by_cases a2 : r ≤ 90
  · exact h2 r (by omega) a2 ha
  by_cases a3 : r ≤ 94
  · exact h3 r (by omega) a3 ha
  by_cases a5 : r ≤ 96
  · obtain rfl : r = 96 := by omega
    exact h5
  by_cases a6 : r ≤ 122
  · exact h6 r (by omega) a6 ha
  by_cases a7 : r ≤ 191
  · exact h7 r (by omega) a7 ha
  by_cases a8 : r ≤ 214
  · exact h8 r (by omega) a8 ha
  by_cases a10 : r ≤ 222
  · exact h10 r (by omega) a10 ha
  by_cases a14 : r ≤ 246
  · exact h14 r (by omega) a14 ha
  by_cases a12 : r ≤ 591
  · exact h12 r (by omega) a12 ha
  · exact h13 r (by omega) ha

set_option maxHeartbeats 4000000 in
theorem isLetter_any (r : Int) (w : World) : Calls Tryd.prog 78 #[.int .i32 r] w fun e w' => e = .returned (.bool (isLet r)) ∧ w = w' := by
  refine spans (p := fun r => Calls Tryd.prog 78 #[.int .i32 r] w fun e w' => e = .returned (.bool (isLet r)) ∧ w = w') r ?_ ?_ ?_ ?_ ?_ ?_ ?_ ?_ ?_ ?_ ?_ ?_ ?_ ?_
  all_goals intros
  all_goals (try (rename_i ha; obtain ⟨_, _, _, _, _⟩ := ha))
  all_goals (go_enter Tryd.func78, Tryd.ntmps78)
  all_goals go_wp2
  all_goals go_ret
  all_goals (refine ⟨ret_bool ?_, rfl⟩)
  all_goals (first | (rw [isLet_yes (by omega)]; done) | (rw [isLet_no (by omega)]; done) | (rw [isLet_yes (by omega)]; exact decide_eq_true (by omega)) | (rw [isLet_no (by omega)]; exact decide_eq_false (by omega)) | (rw [isLet_yes (by omega)]; simp; omega) | (rw [isLet_no (by omega)]; simp; omega))

theorem foldR_yes {r : Int} (h : (65 ≤ r ∧ r ≤ 90) ∨ (192 ≤ r ∧ r ≤ 222 ∧ r ≠ 215)) : foldR r = r + 32 := by unfold foldR; rw [if_pos h]
theorem foldR_no {r : Int} (h : ¬ ((65 ≤ r ∧ r ≤ 90) ∨ (192 ≤ r ∧ r ≤ 222 ∧ r ≠ 215))) : foldR r = r := by unfold foldR; rw [if_neg h]
theorem isDigit_any (r : Int) (w : World) : Calls Tryd.prog 79 #[.int .i32 r] w fun e w' => e = .returned (.bool (isDig r)) ∧ w = w' := by
  by_cases h1 : r < 48
  · go_enter Tryd.func79, Tryd.ntmps79
    go_wp2
    go_ret
    exact ⟨ret_bool (by unfold isDig; symm; rw [decide_eq_false_iff_not]; omega), rfl⟩
  · by_cases h2 : r ≤ 57
    · go_enter Tryd.func79, Tryd.ntmps79
      go_wp2
      go_ret
      exact ⟨ret_bool (by unfold isDig; symm; rw [decide_eq_true_eq]; omega), rfl⟩
    · go_enter Tryd.func79, Tryd.ntmps79
      go_wp2
      go_ret
      exact ⟨ret_bool (by unfold isDig; symm; rw [decide_eq_false_iff_not]; omega), rfl⟩
end Go.Proofs.YtgacphpkgaobkaaDoor
