/- Plain Lean: the order of values is an order; which values are one; three boxed values. -/
import Derived.Test.YtkimibppfniejaaDoorValCmp
import Derived.Test.YtkimibppfniejaaDoorValEq
set_option linter.unusedVariables false
namespace Go.Proofs.YtkimibppfniejaaDoor
open Go Go.RowKit

theorem ordB_range (s t : List UInt8) : ordB s t = -1 ∨ ordB s t = 0 ∨ ordB s t = 1 := cmpL_range _ _
theorem cmpV_range (k1 n1 : Int) (s1 : ByteArray) (k2 n2 : Int) (s2 : ByteArray) : cmpV k1 n1 s1 k2 n2 s2 = -1 ∨ cmpV k1 n1 s1 k2 n2 s2 = 0 ∨ cmpV k1 n1 s1 k2 n2 s2 = 1 := by
  have := ordB_range s1.data.toList s2.data.toList
  unfold cmpV
  split
  · split
    · exact this
    · split <;> omega
  · split <;> omega
theorem cmpV_neg (k1 n1 : Int) (s1 : ByteArray) (k2 n2 : Int) (s2 : ByteArray) : cmpV k2 n2 s2 k1 n1 s1 = - cmpV k1 n1 s1 k2 n2 s2 := by
  have := ordB_neg s1.data.toList s2.data.toList
  unfold cmpV
  by_cases e1 : k1 = k2
  · by_cases e2 : n1 = n2
    · rw [if_pos e1.symm, if_pos e2.symm, if_pos e1, if_pos e2]; exact this
    · rw [if_pos e1.symm, if_neg (fun h => e2 h.symm), if_pos e1, if_neg e2]
      by_cases e3 : n1 < n2
      · rw [if_neg (by omega), if_pos e3]; rfl
      · rw [if_pos (by omega), if_neg e3]
  · rw [if_neg (fun h => e1 h.symm), if_neg e1]
    by_cases e3 : k1 < k2
    · rw [if_neg (by omega), if_pos e3]; rfl
    · rw [if_pos (by omega), if_neg e3]
theorem cmpV_self (k n : Int) (s : ByteArray) : cmpV k n s k n s = 0 := by
  unfold cmpV
  rw [if_pos rfl, if_pos rfl]
  exact ordB_self _
theorem cmpV_le (k1 n1 : Int) (s1 : ByteArray) (k2 n2 : Int) (s2 : ByteArray) : cmpV k1 n1 s1 k2 n2 s2 ≤ 0 ↔ k1 < k2 ∨ (k1 = k2 ∧ (n1 < n2 ∨ (n1 = n2 ∧ ordB s1.data.toList s2.data.toList ≤ 0))) := by
  unfold cmpV
  by_cases e1 : k1 = k2
  · rw [if_pos e1]
    by_cases e2 : n1 = n2
    · rw [if_pos e2]
      constructor
      · intro h; exact .inr ⟨e1, .inr ⟨e2, h⟩⟩
      · rintro (h | ⟨_, h | ⟨_, h⟩⟩)
        · omega
        · omega
        · exact h
    · rw [if_neg e2]
      by_cases e3 : n1 < n2
      · rw [if_pos e3]
        constructor
        · intro _; exact .inr ⟨e1, .inl e3⟩
        · intro _; decide
      · rw [if_neg e3]
        constructor
        · intro h; exact absurd h (by decide)
        · rintro (h | ⟨_, h | ⟨h, _⟩⟩)
          · omega
          · omega
          · exact absurd h e2
  · rw [if_neg e1]
    by_cases e3 : k1 < k2
    · rw [if_pos e3]
      constructor
      · intro _; exact .inl e3
      · intro _; decide
    · rw [if_neg e3]
      constructor
      · intro h; exact absurd h (by decide)
      · rintro (h | ⟨h, _⟩)
        · exact absurd h e3
        · exact absurd h e1
theorem cmpV_trans (k1 n1 : Int) (s1 : ByteArray) (k2 n2 : Int) (s2 : ByteArray) (k3 n3 : Int) (s3 : ByteArray) (h1 : cmpV k1 n1 s1 k2 n2 s2 ≤ 0) (h2 : cmpV k2 n2 s2 k3 n3 s3 ≤ 0) : cmpV k1 n1 s1 k3 n3 s3 ≤ 0 := by
  rw [cmpV_le] at h1 h2 ⊢
  rcases h1 with h1 | ⟨h1, h1'⟩
  · rcases h2 with h2 | ⟨h2, _⟩ <;> exact .inl (by omega)
  · rcases h2 with h2 | ⟨h2, h2'⟩
    · exact .inl (by omega)
    · refine .inr ⟨by omega, ?_⟩
      rcases h1' with h3 | ⟨h3, h3'⟩
      · rcases h2' with h4 | ⟨h4, _⟩ <;> exact .inl (by omega)
      · rcases h2' with h4 | ⟨h4, h4'⟩
        · exact .inl (by omega)
        · exact .inr ⟨by omega, ordB_trans _ _ _ h3' h4'⟩
theorem cmpV_zero (k1 n1 : Int) (s1 : ByteArray) (k2 n2 : Int) (s2 : ByteArray) : cmpV k1 n1 s1 k2 n2 s2 = 0 ↔ (k1 = k2 ∧ n1 = n2 ∧ s1 = s2) := by
  unfold cmpV
  by_cases e1 : k1 = k2
  · rw [if_pos e1]
    by_cases e2 : n1 = n2
    · rw [if_pos e2, ordB_zero]
      constructor
      · intro h; exact ⟨e1, e2, ByteArray.ext (Array.toList_inj.1 h)⟩
      · rintro ⟨_, _, rfl⟩; rfl
    · rw [if_neg e2]
      constructor
      · intro h; split at h <;> cases h
      · rintro ⟨_, h, _⟩; exact absurd h e2
  · rw [if_neg e1]
    constructor
    · intro h; split at h <;> cases h
    · rintro ⟨h, _⟩; exact absurd h e1
theorem cmpV_same (k1 n1 : Int) (s1 : ByteArray) (k2 n2 : Int) (s2 : ByteArray) : (cmpV k1 n1 s1 k2 n2 s2 == 0) = sameV k1 n1 s1 k2 n2 s2 := by
  rw [sameV_iff, Bool.eq_iff_iff]
  simp [cmpV_zero]
theorem three_boxes (w : World) (k n : Int) (s : ByteArray) (k' n' : Int) (s' : ByteArray) (k2 n2 : Int) (s2 : ByteArray) : ∃ W0, (((w.alloc (.cells #[.int .i64 k, .int .i64 n, .string s] 23)).alloc (.cells #[.int .i64 k', .int .i64 n', .string s'] 23)).alloc (.cells #[.int .i64 k2, .int .i64 n2, .string s2] 23)) = W0 ∧ Box W0 w.heap.size k n s ∧ Box W0 (w.heap.size + 1) k' n' s' ∧ Box W0 (w.heap.size + 2) k2 n2 s2 ∧ Below w.heap.size w W0 ∧ W0.heap.size = w.heap.size + 3 := by
  obtain ⟨W1, h1, b0, b1, bl, sz⟩ := two_boxesC w k n s k' n' s'
  rw [h1]
  have h := Box.new W1 k2 n2 s2
  rw [sz] at h
  exact ⟨_, rfl, b0.block (Lib.alloc_old _ _ _ (by omega)), b1.block (Lib.alloc_old _ _ _ (by omega)), h, bl.alloc bl.size _, by simp; omega⟩
end Go.Proofs.YtkimibppfniejaaDoor
