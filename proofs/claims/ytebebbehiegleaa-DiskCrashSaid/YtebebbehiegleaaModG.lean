/- Plain Lean: '((a % m) + m) % m', and its like. -/
import Derived.Test.YtebebbehiegleaaNum
import Derived.RowKit
namespace Go.Proofs.Ytebebbehiegleaa
open Go Go.RowKit

theorem tmod_inG (a m : Int) (hm : 0 < m) : -m < a.tmod m ∧ a.tmod m < m := by
  have h1 := Int.emod_lt_of_pos a hm
  have h2 := Int.emod_nonneg a (by omega : m ≠ 0)
  rcases Int.lt_or_le a 0 with h | h
  · have e : a.tmod m = -((-a) % m) := by
      rw [← Int.tmod_eq_emod_of_nonneg (by omega : 0 ≤ -a), Int.neg_tmod, Int.neg_neg]
    have h3 := Int.emod_lt_of_pos (-a) hm
    have h4 := Int.emod_nonneg (-a) (by omega : m ≠ 0)
    omega
  · rw [Int.tmod_eq_emod_of_nonneg h]; omega
theorem idx_inG (a m : Int) (hm : 0 < m) (hb : m ≤ 1000000) : ∃ x : Nat, (wrap64 (a.tmod m + m)).tmod m = (x : Int) ∧ (x : Int) < m := by
  obtain ⟨h1, h2⟩ := tmod_inG a m hm
  have hw : wrap64 (a.tmod m + m) = a.tmod m + m := by
    unfold wrap64
    omega
  rw [hw, Int.tmod_eq_emod_of_nonneg (by omega)]
  have h3 := Int.emod_nonneg (a.tmod m + m) (by omega : m ≠ 0)
  have h4 := Int.emod_lt_of_pos (a.tmod m + m) hm
  exact ⟨((a.tmod m + m) % m).toNat, by omega, by omega⟩
/-- '((a % (l + 1)) + l + 1) % (l + 1)'. -/
theorem idx_toG (a : Int) (L : Nat) (hL : L ≤ 1000000) : ∃ x : Nat, (wrap64 (wrap64 (a.tmod ((L : Int) + 1) + (L : Int)) + 1)).tmod ((L : Int) + 1) = (x : Int) ∧ x ≤ L := by
  obtain ⟨h1, h2⟩ := tmod_inG a ((L : Int) + 1) (by omega)
  have hw : wrap64 (wrap64 (a.tmod ((L : Int) + 1) + (L : Int)) + 1) = a.tmod ((L : Int) + 1) + (L : Int) + 1 := by
    unfold wrap64
    omega
  rw [hw, Int.tmod_eq_emod_of_nonneg (by omega)]
  have h3 := Int.emod_nonneg (a.tmod ((L : Int) + 1) + (L : Int) + 1) (by omega : (L : Int) + 1 ≠ 0)
  have h4 := Int.emod_lt_of_pos (a.tmod ((L : Int) + 1) + (L : Int) + 1) (by omega : (0 : Int) < (L : Int) + 1)
  exact ⟨((a.tmod ((L : Int) + 1) + (L : Int) + 1) % ((L : Int) + 1)).toNat, by omega, by omega⟩
end Go.Proofs.Ytebebbehiegleaa
