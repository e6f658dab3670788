/- The order of texts, as the program looks and as the document says. -/
import Derived.Test.YtkimibppfniejaaDoorNames
import Derived.Shelf.Unicode.DecodeAny
import Derived.Shelf.Unicode.ValidAny
import Derived.Test.YtkimibppfniejaaDoorCutMath
set_option linter.unusedVariables false
namespace Go.Proofs.YtkimibppfniejaaDoor
open Go Go.RowKit

abbrev Tabs (w : World) : Prop := Lib.Utf8Tabs 1 2 w

def cmpR (a b : Int) : Int := if a < b then -1 else if b < a then 1 else 0
theorem runes_first (t : ByteArray) (h : 0 < t.size) : runes t.data.toList = ((Utf8.decode t 0).1 : Int) :: runes (t.extract (Utf8.decode t 0).2 t.size).data.toList := by
  have := runes_at t 0 h
  rw [List.drop_zero, Nat.zero_add] at this
  rw [this, Lib.ext_list]
theorem first_le (t : ByteArray) (h : 0 < t.size) : (Utf8.decode t 0).2 ≤ t.size := by
  have hne : t.data.toList ≠ [] := by
    intro e
    have := congrArg List.length e
    simp only [List.length_nil, Array.length_toList] at this
    have h2 : t.data.size = t.size := rfl
    omega
  have := Lib.decodeL_le _ hne
  have h3 := Lib.decodeL_drop t 0
  rw [List.drop_zero] at h3
  rw [h3, Array.length_toList] at this
  have h2 : t.data.size = t.size := rfl
  omega

theorem not_empty {t : ByteArray} (h : ¬ t.size = 0) : t.toList.isEmpty = false := by
  rw [ByteArray.toList_eq]
  cases hl : t.data.toList with
  | nil =>
    have := congrArg List.length hl
    rw [size_list] at this
    exact absurd this h
  | cons _ _ => rfl

end Go.Proofs.YtkimibppfniejaaDoor
