/- Cuts as byte arrays: what LetterCuts asks of them. -/
import Derived.Test.YtgacphpkgaobkaaDoorNames
import Derived.Lib.ValidAsc
set_option linter.unusedVariables false
namespace Go.Proofs.YtgacphpkgaobkaaDoor
open Go Go.RowKit

theorem ba_ext {a b : ByteArray} (h : a.data.toList = b.data.toList) : a = b := ByteArray.ext (Array.toList_inj.1 h)
theorem size_list (s : ByteArray) : s.data.toList.length = s.size := by rw [Array.length_toList]; rfl
theorem cut_size (s : ByteArray) (n : Nat) : (s.extract 0 (cutLen n s.data.toList)).size = cutLen n s.data.toList := by
  rw [← size_list, extract_zero, List.length_take, size_list]
  have := cut_le s n
  omega
theorem cut_same (s : ByteArray) (n : Nat) : s.extract 0 (s.extract 0 (cutLen n s.data.toList)).size = s.extract 0 (cutLen n s.data.toList) := by rw [cut_size]
theorem extract_tail (s : ByteArray) (k : Nat) : (s.extract k s.size).data.toList = s.data.toList.drop k := Lib.ext_list s k
theorem cut_count (s : ByteArray) (n : Nat) : (runes (s.extract 0 (cutLen n s.data.toList)).data.toList).length = min n (runes s.data.toList).length := by
  rw [extract_zero, runes_take_cut, List.length_take]
theorem tail_count (s : ByteArray) (n : Nat) : (runes (s.extract (s.extract 0 (cutLen n s.data.toList)).size s.size).data.toList).length = (runes s.data.toList).length - n := by
  rw [cut_size, extract_tail, runes_drop_cut, List.length_drop]
theorem cut_again (s : ByteArray) (n m k : Nat) (h : k = min n m) : (s.extract 0 (cutLen n s.data.toList)).extract 0 (cutLen m (s.extract 0 (cutLen n s.data.toList)).data.toList) = s.extract 0 (cutLen k s.data.toList) := by
  subst h
  apply ba_ext
  rw [extract_zero, extract_zero, extract_zero, cut_cut, List.take_take]
  congr 1
  have h1 := cutLen_le m (s.data.toList.take (cutLen n s.data.toList))
  rw [cut_cut, List.length_take] at h1
  omega
end Go.Proofs.YtgacphpkgaobkaaDoor
