/- What a strings.Builder of the call's own holds behind each of its methods, and what the runes of a text are to a walk. -/
import Derived.Test.YtgacphpkgaobkaaDoorShelf
import Derived.Test.YtgacphpkgaobkaaDoorMath
import Derived.WalkKit
import Derived.BigCall
import Derived.Lib.Hide
import Derived.WalkSpells
import Derived.WalkLawsBesides
set_option linter.unusedVariables false
namespace Go.Proofs.YtgacphpkgaobkaaDoor
open Go Go.RowKit

def Kept (b : Nat) (w w' : World) : Prop := Lib.OthersKept 5 (some b) w w'

theorem byte_info : (Tryd.prog.info? 5).map (fun i => (i.zero, i.size, i.bytes)) = some (some (.int .u8 0), 1, 1) := by kernel_rfl

end Go.Proofs.YtgacphpkgaobkaaDoor
