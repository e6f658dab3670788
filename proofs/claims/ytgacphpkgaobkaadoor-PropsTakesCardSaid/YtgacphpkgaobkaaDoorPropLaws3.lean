/- What the walks of the statements of layer 3 lean on: what is found; what Set and Drop make is right. -/
import Derived.Test.YtgacphpkgaobkaaDoorPropLaws2
set_option linter.unusedVariables false
namespace Go.Proofs.YtgacphpkgaobkaaDoor
open Go Go.RowKit

theorem find_get : ∀ (zs : List Prop4) (key : ByteArray) (k0 : Nat), (findP key k0 zs = -1 ∧ getP key zs = ((0, 0, ByteArray.empty), false)) ∨ ∃ i : Nat, i < zs.length ∧ findP key k0 zs = ((k0 + i : Nat) : Int) ∧ getP key zs = ((zs.getD i Prop4.no).2, true)
  | [], key, k0 => .inl ⟨rfl, rfl⟩
  | z :: r, key, k0 => by
    unfold findP getP
    by_cases h : z.1 = key
    · rw [if_pos h, if_pos h]
      exact .inr ⟨0, by simp, rfl, rfl⟩
    · rw [if_neg h, if_neg h]
      rcases find_get r key (k0 + 1) with ⟨h1, h2⟩ | ⟨i, h1, h2, h3⟩
      · exact .inl ⟨h1, h2⟩
      · refine .inr ⟨i + 1, by simpa using h1, ?_, by simpa using h3⟩
        rw [h2]
        congr 1
        omega
theorem faultP_all : ∀ (ys : List Prop4), faultP ys = 0 → ∀ y ∈ ys, nameK y = true ∧ okK y = true
  | [], _, y, hy => by cases hy
  | z :: r, h, y, hy => by
    obtain ⟨h1, h2, h3⟩ := faultP_ok h
    rcases List.mem_cons.1 hy with rfl | hy
    · exact ⟨h1, h2⟩
    · exact faultP_all r h3 y hy
theorem setP_right {zs ys x : List Prop4} (h : setP zs ys = (0, x)) : rightP x = true := by
  obtain ⟨hr, hf, ha, hn, hl, _⟩ := setP_done h
  refine (rightP_iff x).2 ⟨hl, fun z hz => ?_, ha⟩
  rcases setP_mem h z hz with h1 | h1
  · exact ((rightP_iff zs).1 hr).2.1 z h1
  · exact faultP_all ys hf z h1
theorem dropP_right {zs : List Prop4} (keys : List ByteArray) (h : rightP zs = true) : rightP (dropP zs keys) = true := by
  obtain ⟨h1, h2, h3⟩ := (rightP_iff zs).1 h
  refine (rightP_iff _).2 ⟨Nat.le_trans (List.length_filter_le _ _) h1, fun z hz => h2 z (dropP_mem z hz), ?_⟩
  exact List.Pairwise.filter _ h3
theorem setFrom_le : ∀ (ys acc : List Prop4), (setFrom acc ys).2.length ≤ 16
  | [], acc => by
    unfold setFrom
    by_cases h : acc.length ≤ 16
    · rw [if_pos h]; exact h
    · rw [if_neg h]; simp
  | y :: r, acc => by
    unfold setFrom
    by_cases h1 : nameK y = true
    · rw [if_pos h1]
      by_cases h2 : okK y = true
      · rw [if_pos h2]; exact setFrom_le r _
      · rw [if_neg h2]; simp
    · rw [if_neg h1]; simp
theorem setP_le (zs ys : List Prop4) : (setP zs ys).2.length ≤ 16 := by
  unfold setP
  by_cases h : rightP zs = true
  · rw [if_pos h]; exact setFrom_le ys zs
  · rw [if_neg h]; simp
end Go.Proofs.YtgacphpkgaobkaaDoor
