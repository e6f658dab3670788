/- Texts as lists of bytes: put together, cut. -/
import Derived.Test.YtpmmbbkomikceaaDoorNum
import Derived.Laws.Concat
import Derived.Laws.Slices
import Derived.Laws.Strings2
set_option linter.unusedVariables false
namespace Go.Proofs.YtpmmbbkomikceaaDoor
open Go Go.RowKit

def strB (l : List UInt8) : ByteArray := ⟨l.toArray⟩
theorem strB_append (a b : List UInt8) : strB a ++ strB b = strB (a ++ b) := by
  apply ByteArray.ext
  rw [ByteArray.data_append]
  simp [strB]
theorem strB_size (l : List UInt8) : (strB l).size = l.length := by simp [strB, ByteArray.size]
/-- 'a + b'. -/
theorem cat_str (a b : List UInt8) (h : a.length + b.length ≤ 1000000) (W : World) : (binOp .add 9 (.string (strB a)) (.string (strB b))).run Tryd.prog W = .ok (.string (strB (a ++ b))) W := by
  rw [← strB_append, binOp_string_add]
  exact run_string_add W _ _ (by rw [strB_size]; omega) (by rw [strB_size]; omega)
/-- 's[:k]'. -/
theorem slice_toS (l : List UInt8) (k : Nat) (h : k ≤ l.length) (W : World) : (Instr.slice 9 (.string (strB l)) none (some (.int .i64 (k : Int))) none).run Tryd.prog W = .ok (.string (strB (l.take k))) W := by
  rw [run_slice_string_h (P := Tryd.prog) (w := W) 9 (strB l) Tryd.underlying9 .i64 (k : Int) (by omega) (by rw [strB_size]; omega)]
  have : (strB l).extract 0 k = strB (l.take k) := by
    have := ByteArray.extract_mk l 0 k
    simpa [strB] using this
  simp [this]
/-- 's[k:]'. -/
theorem slice_fromS (l : List UInt8) (k : Nat) (h : k ≤ l.length) (W : World) : (Instr.slice 9 (.string (strB l)) (some (.int .i64 (k : Int))) none none).run Tryd.prog W = .ok (.string (strB (l.drop k))) W := by
  rw [run_slice_string_l (P := Tryd.prog) (w := W) 9 (strB l) Tryd.underlying9 .i64 (k : Int) (by omega) (by rw [strB_size]; omega)]
  have : (strB l).extract k l.length = strB (l.drop k) := by
    have := ByteArray.extract_mk l k l.length
    rw [List.take_of_length_le (by rw [List.length_drop]; omega)] at this
    exact this
  simp [this, strB_size]
theorem str_diffG {a b : List UInt8} (h : a ≠ b) : ((⟨a.toArray⟩ : ByteArray).toList == (⟨b.toArray⟩ : ByteArray).toList) = false := by
  rw [beq_eq_false_iff_ne]
  intro e
  rw [ByteArray.toList_eq, ByteArray.toList_eq] at e
  exact h (by simpa using e)
theorem strB_nil : strB [] = ⟨#[]⟩ := rfl
end Go.Proofs.YtpmmbbkomikceaaDoor
