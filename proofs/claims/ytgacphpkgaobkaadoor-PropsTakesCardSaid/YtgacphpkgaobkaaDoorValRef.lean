/- The document's own answers for values: which are right, their order. -/
import Derived.Test.YtgacphpkgaobkaaDoorProg
import Derived.Test.YtgacphpkgaobkaaDoorValMath
import Derived.WalkKit
import Derived.WalkSmall
import Derived.Below
import Derived.OwnWalk
import Derived.Lib.Hide
import Derived.Deep.QuietTactic
import Derived.BigQuiet
set_option linter.unusedVariables false
namespace Go.Proofs.YtgacphpkgaobkaaDoor
open Go Go.RowKit

/-- Which values are right. -/
def rightV (k n : Int) (s : ByteArray) : Bool := (k == 1 && s.toList.isEmpty) || (k == 2 && n == 0 && decide (s.size ≤ 200))
theorem ret_boolV {a b : Bool} (h : a = b) : Ending.returned (.bool a) = .returned (.bool b) := by rw [h]
def valV (k n : Int) (s : ByteArray) : Value := .agg #[.int .i64 k, .int .i64 n, .string s]

set_option maxHeartbeats 1000000 in
set_option maxRecDepth 100000 in
theorem refRightV_any (k n : Int) (s : ByteArray) (w : World) :
    Calls Tryd.prog 32 #[valV k n s] w fun e w' => e = .returned (.bool (rightV k n s)) ∧ Below w.heap.size w w' := by
  have hb0 : Below w.heap.size w (w.alloc (.cells #[.int .i64 k, .int .i64 n, .string s] 36)) := (Below.refl _ _).alloc (Nat.le_refl _) _
  unfold valV
  by_cases h1 : k = 1
  · subst h1
    go_enter Tryd.func32, Tryd.ntmps32
    go_wp2
    all_goals go_ret
    all_goals exact ⟨ret_boolV (by first | (simp [rightV]; done) | (simp [rightV]; assumption) | (simp [rightV]; omega)), hb0⟩
  · by_cases h2 : k = 2
    · subst h2
      by_cases h3 : n = 0
      · subst h3
        go_enter Tryd.func32, Tryd.ntmps32
        go_wp2
        all_goals go_ret
        all_goals exact ⟨ret_boolV (by first | (simp [rightV]; done) | (simp [rightV]; assumption) | (simp [rightV]; omega)), hb0⟩
      · have e3 : (n == 0) = false := by simpa using h3
        go_enter Tryd.func32, Tryd.ntmps32
        go_wp2
        all_goals go_ret
        all_goals exact ⟨ret_boolV (by simp [rightV, h3]), hb0⟩
    · have e1 : (k == 1) = false := by simpa using h1
      have e2 : (k == 2) = false := by simpa using h2
      go_enter Tryd.func32, Tryd.ntmps32
      go_wp2
      all_goals go_ret
      all_goals exact ⟨ret_boolV (by simp [rightV, h1, h2]), hb0⟩

/-! ### the order -/
theorem drop_at (a : ByteArray) (i : Nat) (h : i < a.size) : a.data.toList.drop i = a[i] :: a.data.toList.drop (i + 1) := by
  have h2 : i < a.data.toList.length := by rw [Array.length_toList]; exact h
  rw [List.drop_eq_getElem_cons h2]
  rfl
theorem drop_end (a : ByteArray) (i : Nat) (h : a.size ≤ i) : a.data.toList.drop i = [] := List.drop_eq_nil_of_le (by rw [Array.length_toList]; exact h)
theorem ordB_left (b : UInt8) (t : List UInt8) : ordB [] (b :: t) = -1 := rfl
theorem ordB_right (b : UInt8) (t : List UInt8) : ordB (b :: t) [] = 1 := rfl
theorem ret_intV {a b : Int} (h : a = b) : Ending.returned (.int .i64 a) = .returned (.int .i64 b) := by rw [h]
theorem btV {w a b : World} (h1 : Below w.heap.size w a) (h2 : Below a.heap.size a b) : Below w.heap.size w b := h1.trans (h2.mono h1.size)
def cmpV (k1 n1 : Int) (s1 : ByteArray) (k2 n2 : Int) (s2 : ByteArray) : Int :=
  if k1 = k2 then (if n1 = n2 then ordB s1.data.toList s2.data.toList else if n1 < n2 then -1 else 1) else if k1 < k2 then -1 else 1
end Go.Proofs.YtgacphpkgaobkaaDoor
