/- Two values, compared as structs. -/
import Derived.Test.YtgacphpkgaobkaaDoorValRef
import Derived.Laws.StructEq
set_option linter.unusedVariables false
namespace Go.Proofs.YtgacphpkgaobkaaDoor
open Go Go.RowKit

theorem str_same {a b : ByteArray} (h : a = b) : (a.toList == b.toList) = true := by rw [h]; exact beq_self_eq_true _
theorem str_diff {a b : ByteArray} (h : a ≠ b) : (a.toList == b.toList) = false := by
  rw [beq_eq_false_iff_ne]
  intro e
  rw [ByteArray.toList_eq, ByteArray.toList_eq] at e
  exact h (ByteArray.ext (Array.toList_inj.1 e))
def sameV (k n : Int) (s : ByteArray) (k' n' : Int) (s' : ByteArray) : Bool := k == k' && (n == n' && s.toList == s'.toList)
set_option maxRecDepth 100000 in
theorem eq_val (k n : Int) (s : ByteArray) (k' n' : Int) (s' : ByteArray) (W : World) :
    (binOp .eql 36 (valV k n s) (valV k' n' s')).run Tryd.prog W = .ok (.bool (sameV k n s k' n' s')) W := by
  unfold valV
  rw [run_eql_struct]
  unfold sameV
  cases h1 : (k == k') <;> cases h2 : (n == n') <;> cases h3 : (s.toList == s'.toList) <;> (go_simp; try simp [h1, h2, h3, go_sem, Tryd.underlying36, Tryd.underlying3, Tryd.underlying9])
set_option maxRecDepth 100000 in
theorem neq_val (k n : Int) (s : ByteArray) (k' n' : Int) (s' : ByteArray) (W : World) :
    (binOp .neq 36 (valV k n s) (valV k' n' s')).run Tryd.prog W = .ok (.bool (!sameV k n s k' n' s')) W := by
  unfold valV
  rw [run_neq_struct]
  unfold sameV
  cases h1 : (k == k') <;> cases h2 : (n == n') <;> cases h3 : (s.toList == s'.toList) <;> (go_simp; try simp [h1, h2, h3, go_sem, Tryd.underlying36, Tryd.underlying3, Tryd.underlying9])
theorem sameV_iff (k n : Int) (s : ByteArray) (k' n' : Int) (s' : ByteArray) : sameV k n s k' n' s' = decide (k = k' ∧ n = n' ∧ s = s') := by
  unfold sameV
  by_cases h : s = s'
  · rw [str_same h, Bool.and_true, Bool.eq_iff_iff]
    simp [h]
  · rw [str_diff h, Bool.and_false, Bool.and_false, Bool.eq_iff_iff]
    simp [h]
end Go.Proofs.YtgacphpkgaobkaaDoor
