/- What the tied cards of package value lay, as the walks ask it. -/
import Derived.Test.YtkimibppfniejaaDoorValAwake
import Derived.Test.YtkimibppfniejaaDoorTie
import Derived.Test.YtkimibppfniejaaDoorCards
import Derived.Lib.LaidU8T
import Derived.PinnedBridge
import Derived.Lay
import Derived.LaidOnce
import Derived.SevenTiedAt
import Derived.Stop.LaidErr
set_option linter.unusedVariables false
namespace Go.Proofs.YtkimibppfniejaaDoor
open Go Go.RowKit Go.Lib

theorem accept_same : (Rows.laid_unicode_utf8_acceptRanges : DataW Unit) = acceptData := by kernel_rfl
theorem first_same : Rows.laid_unicode_utf8_first = firstData := Pinned.utf8First_eq
theorem tens_same : (Rows.laid_internal_strconv_uint64pow10 : DataW Unit) = Lib.tabData .u64 Lib.pow10Tab := by kernel_rfl
theorem es_g : Tryd.prog.globalNamed "strconv.ErrSyntax" = some 3 := by kernel_rfl
theorem er_g : Tryd.prog.globalNamed "strconv.ErrRange" = some 4 := by kernel_rfl
theorem es_t : (Tryd.prog.globals[3]?).map (·.type) = some 73 := by kernel_rfl
theorem er_t : (Tryd.prog.globals[4]?).map (·.type) = some 73 := by kernel_rfl
theorem star_e : "*" ++ "errors.errorString" = "*errors.errorString" := by decide
theorem row_e (u : TypeId) (h : Tryd.prog.typeName? 3 u = some "*errors.errorString") : u = 119 :=
  typeName_ptr_named (nm := "errors.errorString") (by rw [star_e]; kernel_rfl) (by kernel_rfl) (by decide) u (by rw [star_e]; exact h)
theorem tens_g : Tryd.prog.globalNamed "internal/strconv.uint64pow10" = some 5 := by kernel_rfl

set_option maxRecDepth 100000 in
theorem std_of_laid {W : World} (h : laidMet Tryd.prog [("math/bits.deBruijn32tab", Rows.laid_math_bits_deBruijn32tab), ("math/bits.deBruijn64tab", Rows.laid_math_bits_deBruijn64tab), ("internal/strconv.uint64pow10", Rows.laid_internal_strconv_uint64pow10), ("unicode/utf8.acceptRanges", Rows.laid_unicode_utf8_acceptRanges), ("strconv.ErrRange", Rows.laid_strconv_ErrRange), ("strconv.ErrSyntax", Rows.laid_strconv_ErrSyntax), ("unicode/utf8.first", Rows.laid_unicode_utf8_first)] W) : Std W := by
  have h4 := Lib.laidMet.reads h (n := "unicode/utf8.acceptRanges") (d := Rows.laid_unicode_utf8_acceptRanges) (by simp)
  have h3 := Lib.laidMet.reads h (n := "unicode/utf8.first") (d := Rows.laid_unicode_utf8_first) (by simp)
  rw [accept_same] at h4
  rw [first_same] at h3
  have h2 := laidMet.tail (laidMet.tail h)
  have h5 := laidMet.tail (laidMet.tail h2)
  have h6 := laidMet.tail h5
  rw [tens_same] at h2
  obtain ⟨a0, s0, hv0, -, -, -⟩ := laid_sentinel (tp := 119) (te := 121) (ts := 9) h5 er_g er_t Tryd.underlying73 row_e Tryd.underlying119 Tryd.underlying121 rfl rfl Tryd.underlying9 (by kernel_rfl) (by kernel_rfl)
  obtain ⟨a1, s1, hv1, -, -, -⟩ := laid_sentinel (tp := 119) (te := 121) (ts := 9) h6 es_g es_t Tryd.underlying73 row_e Tryd.underlying119 Tryd.underlying121 rfl rfl Tryd.underlying9 (by kernel_rfl) (by kernel_rfl)
  exact ⟨utf8Tabs_of_readsT (U8Types.of196 Tryd.lays196) ⟨by kernel_rfl, by kernel_rfl, by kernel_rfl, by kernel_rfl, by kernel_rfl, by kernel_rfl, by kernel_rfl⟩ h3 h4,
    Lib.tabIs_of_head tens_g (t := 115) (by kernel_rfl) Tryd.underlying115 Tryd.underlying61 (by kernel_rfl) (by kernel_rfl) h2, ⟨_, _, hv1⟩, _, _, hv0⟩
end Go.Proofs.YtkimibppfniejaaDoor
