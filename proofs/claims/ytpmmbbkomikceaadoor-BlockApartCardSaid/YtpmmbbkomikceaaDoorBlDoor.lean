/- What the tied cards of package block lay, as the walks ask it. -/
import Derived.Test.YtpmmbbkomikceaaDoorBlTab
import Derived.Test.YtpmmbbkomikceaaDoorOpenL
import Derived.Test.YtpmmbbkomikceaaDoorOpenG
import Derived.Test.YtpmmbbkomikceaaDoorTie
import Derived.Test.YtpmmbbkomikceaaDoorCards
import Derived.Lib.LaidTab
import Derived.Lay
import Derived.LaidOnce
import Derived.SevenTiedAt
set_option linter.unusedVariables false
namespace Go.Proofs.YtpmmbbkomikceaaDoor
open Go Go.RowKit Go.Lib

abbrev Tabs (w : World) : Prop := ShT w
theorem shifted_same : (Rows.laid_cobweb_block_shifted : DataW Unit) = Lib.tabData .u32 shTab := by kernel_rfl
theorem shifted_g : Tryd.prog.globalNamed "cobweb/block.shifted" = some 0 := by kernel_rfl
set_option maxRecDepth 100000 in
theorem tabs_of_laid {W : World} (h : laidMet Tryd.prog [("cobweb/block.shifted", Rows.laid_cobweb_block_shifted)] W) : Tabs W := by
  rw [shifted_same] at h
  have h2 := Lib.tabIs_of_head shifted_g (t := 49) (by kernel_rfl) Tryd.underlying49 Tryd.underlying25 (by kernel_rfl) (by kernel_rfl) h
  intro i hi
  exact h2.cell shifted_g i hi
end Go.Proofs.YtpmmbbkomikceaaDoor
