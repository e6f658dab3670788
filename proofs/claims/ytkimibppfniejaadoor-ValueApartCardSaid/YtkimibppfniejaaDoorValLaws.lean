/- What the laws on values ask of Right's calls, and of values that they box. -/
import Derived.Test.YtkimibppfniejaaDoorValAwake
set_option linter.unusedVariables false
namespace Go.Proofs.YtkimibppfniejaaDoor
open Go Go.RowKit

theorem right_new1 (k n : Int) (s : ByteArray) (W : World) :
    Calls Tryd.prog 12 #[.slice (some ⟨W.heap.size, 0, none⟩) 1 1] (W.alloc (.cells #[.int .i64 k, .int .i64 n, .string s] 23)) fun e w' => e = .returned (.bool (rightV k n s)) ∧ Below W.heap.size W w' := by
  refine (valRight_one k n s W.heap.size _ (Box.new W k n s) (by simp)).mono ?_
  rintro e w1 ⟨rfl, b1⟩
  exact ⟨rfl, btV ((Below.refl _ _).alloc (Nat.le_refl _) _) b1⟩
theorem right_new2 (k n : Int) (s : ByteArray) (k' n' : Int) (s' : ByteArray) (W : World) :
    Calls Tryd.prog 12 #[.slice (some ⟨W.heap.size, 0, none⟩) 2 2] (W.alloc (.cells #[.int .i64 k, .int .i64 n, .string s, .int .i64 k', .int .i64 n', .string s'] 23)) fun e w' => e = .returned (.bool (rightV k n s && rightV k' n' s')) ∧ Below W.heap.size W w' := by
  have h := valRight_any (some ⟨W.heap.size, 0, none⟩) 2 [(k, n, s), (k', n', s')] (W.alloc (.cells #[.int .i64 k, .int .i64 n, .string s, .int .i64 k', .int .i64 n', .string s'] 23)) (fun j hj => by
    have h0 : j = 0 ∨ j = 1 := by simp at hj; omega
    refine ⟨⟨W.heap.size, 0, none⟩, rfl, by simp, ?_⟩
    rcases h0 with rfl | rfl
    · refine ⟨?_, ?_, ?_⟩ <;> (simp [Addr.add, World.cell?_alloc_mark]; try rfl)
    · refine ⟨?_, ?_, ?_⟩ <;> (simp [Addr.add, World.cell?_alloc_mark]; try rfl)) (by simp)
  refine h.mono ?_
  rintro e w1 ⟨rfl, b1⟩
  exact ⟨by simp [notRight], btV ((Below.refl _ _).alloc (Nat.le_refl _) _) b1⟩
theorem right_new0 (W : World) :
    Calls Tryd.prog 12 #[.slice none 0 0] W fun e w' => e = .returned (.bool true) ∧ Below W.heap.size W w' :=
  valRight_any none 0 [] W (fun j hj => by simp at hj) (by simp)
theorem two_boxes (w : World) (k n : Int) (s : ByteArray) (k' n' : Int) (s' : ByteArray) : ∃ W0, ((w.alloc (.cells #[.int .i64 k, .int .i64 n, .string s] 23)).alloc (.cells #[.int .i64 k', .int .i64 n', .string s'] 23)) = W0 ∧ Box W0 w.heap.size k n s ∧ Box W0 (w.heap.size + 1) k' n' s' ∧ Below w.heap.size w W0 ∧ W0.heap.size = w.heap.size + 2 := by
  refine ⟨_, rfl, (Box.new w k n s).block (Lib.alloc_old _ _ _ (by simp)), ?_, ((Below.refl _ _).alloc (Nat.le_refl _) _).alloc (by simp) _, by simp⟩
  have h := Box.new (w.alloc (.cells #[.int .i64 k, .int .i64 n, .string s] 23)) k' n' s'
  have e : (w.alloc (.cells #[.int .i64 k, .int .i64 n, .string s] 23)).heap.size = w.heap.size + 1 := by simp
  rw [e] at h
  exact h
theorem isIntV_parts {k : Int} {s : ByteArray} (h : isIntV k s = true) : k = 1 ∧ s = ⟨#[]⟩ := by
  unfold isIntV at h
  simp only [Bool.and_eq_true, beq_iff_eq, List.isEmpty_iff] at h
  refine ⟨h.1, ?_⟩
  have h2 := h.2
  rw [ByteArray.toList_eq] at h2
  exact ByteArray.ext (Array.toList_inj.1 h2)
theorem isTextV_parts {k n : Int} {s : ByteArray} (h : isTextV k n s = true) : k = 2 ∧ n = 0 ∧ s.size ≤ 200 := by
  unfold isTextV at h
  simp at h
  exact ⟨h.1.1, h.1.2, h.2⟩
end Go.Proofs.YtkimibppfniejaaDoor
