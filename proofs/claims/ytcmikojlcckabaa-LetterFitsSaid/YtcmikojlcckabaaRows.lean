/-
  No cell of these rows narrows 'for every input' (looked for: loops, veiled, ifaces, maps, wideKeys, modest, calm, conditions, laid).
  DERIVED. THE GIVEN ROWS OF THIS SEAT. 4 by the template 'for every input the law returns true; each argument reads behind the call as it read before'; 0 by the template 'total and deterministic' (their statements: YtcmikojlcckabaaTotals.lean).
  GIVEN WITH THE SEED: the statements are not yours to turn. If you find one false, say at which input.
  Laid BY PROGRAM, IN A SANDBOX (cutbox-rows.mjs): the forced cells as the released guide's own fill.sh prints them over the translation 6418e376303846df… (all of the seat's roots in one cut). By AI agents, Wed Nov 11 2026. No macro, syntax, notation, axiom, sorry.
-/
import Derived.Test.YtcmikojlcckabaaChecked
import GoSem.Claim
import GoSem.ClaimJoined
import GoSem.ClaimMapViews
import Derived.JoinedTies
import Derived.KernelRfl
namespace Go.Proofs.Ytcmikojlcckabaa
/- THE CELL 'sum', in the pinned program and in every row, IS THE sha256 OF THE DUMP (.gsa) THAT YtcmikojlcckabaaProg.lean LOADS. Nothing in Lean hashes anything: it is a label: what it is worth is what the hold of that sum in a sandbox is worth. -/
noncomputable def Try.pinned : Pinned := { name := "ytcmikojlcckabaa", sum := "6418e376303846dfd35da916f4b2cfc1504121e6f9f10d06717b6a3d24df3898", checked := Try.checked }
namespace Rows
def none {H : Type} : Left H := { results := [], args := [] }

/-- 'cobweblaw01.LetterNames': WHATEVER THE INPUT: true; the input reads as it did. -/
def letterNamesSpec : ChangeSpec := { name := "letterNames", fn := fun _ => fun
  | [d] => { results := [.lit (.bool true)], args := [d] }
  | _ => none }
def letterNamesRow : OpenClaim := { program := "ytcmikojlcckabaa", sum := "6418e376303846dfd35da916f4b2cfc1504121e6f9f10d06717b6a3d24df3898", func := "cobweb/cobweblaw01.LetterNames", spec := "letterNames", inPlace := ["internal/abi.NoEscape"], apart := false }
def LetterNamesSaid : Prop := letterNamesRow.holds Try.pinned (OpenSpec.ofChange letterNamesSpec)

/-- ITS FALSE NEIGHBOUR: 'it returns false'. Refute it at one input. -/
def letterNamesWrong : ChangeSpec := { name := "letterNames", fn := fun _ => fun
  | [d] => { results := [.lit (.bool false)], args := [d] }
  | _ => none }
def LetterNamesWrongFalsely : Prop := letterNamesRow.holds Try.pinned (OpenSpec.ofChange letterNamesWrong)

/-- 'cobweblaw01.LetterFolds': WHATEVER THE INPUT: true; the input reads as it did. -/
def letterFoldsSpec : ChangeSpec := { name := "letterFolds", fn := fun _ => fun
  | [d1, d2] => { results := [.lit (.bool true)], args := [d1, d2] }
  | _ => none }
def letterFoldsRow : OpenClaim := { program := "ytcmikojlcckabaa", sum := "6418e376303846dfd35da916f4b2cfc1504121e6f9f10d06717b6a3d24df3898", func := "cobweb/cobweblaw01.LetterFolds", spec := "letterFolds", inPlace := ["internal/abi.NoEscape"], apart := false }
def LetterFoldsSaid : Prop := letterFoldsRow.holds Try.pinned (OpenSpec.ofChange letterFoldsSpec)

/-- ITS FALSE NEIGHBOUR: 'it returns false'. Refute it at one input. -/
def letterFoldsWrong : ChangeSpec := { name := "letterFolds", fn := fun _ => fun
  | [d1, d2] => { results := [.lit (.bool false)], args := [d1, d2] }
  | _ => none }
def LetterFoldsWrongFalsely : Prop := letterFoldsRow.holds Try.pinned (OpenSpec.ofChange letterFoldsWrong)

/-- 'cobweblaw01.LetterFits': WHATEVER THE INPUT: true; the input reads as it did. -/
def letterFitsSpec : ChangeSpec := { name := "letterFits", fn := fun _ => fun
  | [d1, d2] => { results := [.lit (.bool true)], args := [d1, d2] }
  | _ => none }
def letterFitsRow : OpenClaim := { program := "ytcmikojlcckabaa", sum := "6418e376303846dfd35da916f4b2cfc1504121e6f9f10d06717b6a3d24df3898", func := "cobweb/cobweblaw01.LetterFits", spec := "letterFits", inPlace := ["internal/abi.NoEscape"], apart := false }
def LetterFitsSaid : Prop := letterFitsRow.holds Try.pinned (OpenSpec.ofChange letterFitsSpec)

/-- ITS FALSE NEIGHBOUR: 'it returns false'. Refute it at one input. -/
def letterFitsWrong : ChangeSpec := { name := "letterFits", fn := fun _ => fun
  | [d1, d2] => { results := [.lit (.bool false)], args := [d1, d2] }
  | _ => none }
def LetterFitsWrongFalsely : Prop := letterFitsRow.holds Try.pinned (OpenSpec.ofChange letterFitsWrong)

/-- 'cobweblaw01.LetterCuts': WHATEVER THE INPUT: true; the input reads as it did. -/
def letterCutsSpec : ChangeSpec := { name := "letterCuts", fn := fun _ => fun
  | [d1, d2, d3] => { results := [.lit (.bool true)], args := [d1, d2, d3] }
  | _ => none }
def letterCutsRow : OpenClaim := { program := "ytcmikojlcckabaa", sum := "6418e376303846dfd35da916f4b2cfc1504121e6f9f10d06717b6a3d24df3898", func := "cobweb/cobweblaw01.LetterCuts", spec := "letterCuts", inPlace := ["internal/abi.NoEscape"], apart := false }
def LetterCutsSaid : Prop := letterCutsRow.holds Try.pinned (OpenSpec.ofChange letterCutsSpec)

/-- ITS FALSE NEIGHBOUR: 'it returns false'. Refute it at one input. -/
def letterCutsWrong : ChangeSpec := { name := "letterCuts", fn := fun _ => fun
  | [d1, d2, d3] => { results := [.lit (.bool false)], args := [d1, d2, d3] }
  | _ => none }
def LetterCutsWrongFalsely : Prop := letterCutsRow.holds Try.pinned (OpenSpec.ofChange letterCutsWrong)

/- THE SECOND FORM. 'bulk': how many values and letters a reading holds, each counted each time it is reached (what is shared counts as often as it is met; a slice's spare places count too). A statement '..UptoSaid' is the law's where the arguments, and the package variables that the reading takes, are together of bulk at most 1048576: NARROWER than '..Said'. Prove '..Said' where nothing that the law and all that it calls make is longer than what came in: it says more and counts as full. Else prove '..UptoSaid'. A law counts once. -/
mutual
def uptoBulk {H : Type} : DataW H → Nat
  | .lit (.string bytes) => bytes.length + 1
  | .lit _ => 1
  | .nil => 1
  | .ptr d => uptoBulk d + 1
  | .slice elems spare => uptoBulkAll elems + uptoBulkAll spare + 1
  | .agg parts => uptoBulkAll parts + 1
  | .iface _ d => uptoBulk d + 1
  | .map entries => uptoBulkEntries entries + 1
  | .held _ => 1
def uptoBulkAll {H : Type} : List (DataW H) → Nat
  | [] => 0
  | d :: r => uptoBulk d + uptoBulkAll r
def uptoBulkEntries {H : Type} : List (Lit × DataW H) → Nat
  | [] => 0
  | x :: r => uptoBulkEntry x + uptoBulkEntries r
def uptoBulkEntry {H : Type} : Lit × DataW H → Nat
  | (.string bytes, d) => bytes.length + uptoBulk d + 1
  | (_, d) => uptoBulk d + 1
 end
def uptoSmall : (H : Type) → List (DataW H) → Bool := fun _ ds => decide (uptoBulkAll ds ≤ 1048576)
def OpenSpec.upto (s : _root_.Go.ChangeSpec) : _root_.Go.OpenSpec := { _root_.Go.OpenSpec.ofChange s with cond := some uptoSmall }

/-- 'cobweblaw01.LetterNames', WHERE WHAT IT READS IS OF BULK AT MOST 1048576: true; the input reads as it did. -/
def letterNamesUptoRow : OpenClaim := { program := "ytcmikojlcckabaa", sum := "6418e376303846dfd35da916f4b2cfc1504121e6f9f10d06717b6a3d24df3898", func := "cobweb/cobweblaw01.LetterNames", spec := "letterNames", inPlace := ["internal/abi.NoEscape"], apart := false, narrowed := true }
def LetterNamesUptoSaid : Prop := letterNamesUptoRow.holds Try.pinned (OpenSpec.upto letterNamesSpec)

/-- 'cobweblaw01.LetterFolds', WHERE WHAT IT READS IS OF BULK AT MOST 1048576: true; the input reads as it did. -/
def letterFoldsUptoRow : OpenClaim := { program := "ytcmikojlcckabaa", sum := "6418e376303846dfd35da916f4b2cfc1504121e6f9f10d06717b6a3d24df3898", func := "cobweb/cobweblaw01.LetterFolds", spec := "letterFolds", inPlace := ["internal/abi.NoEscape"], apart := false, narrowed := true }
def LetterFoldsUptoSaid : Prop := letterFoldsUptoRow.holds Try.pinned (OpenSpec.upto letterFoldsSpec)

/-- 'cobweblaw01.LetterFits', WHERE WHAT IT READS IS OF BULK AT MOST 1048576: true; the input reads as it did. -/
def letterFitsUptoRow : OpenClaim := { program := "ytcmikojlcckabaa", sum := "6418e376303846dfd35da916f4b2cfc1504121e6f9f10d06717b6a3d24df3898", func := "cobweb/cobweblaw01.LetterFits", spec := "letterFits", inPlace := ["internal/abi.NoEscape"], apart := false, narrowed := true }
def LetterFitsUptoSaid : Prop := letterFitsUptoRow.holds Try.pinned (OpenSpec.upto letterFitsSpec)

/-- 'cobweblaw01.LetterCuts', WHERE WHAT IT READS IS OF BULK AT MOST 1048576: true; the input reads as it did. -/
def letterCutsUptoRow : OpenClaim := { program := "ytcmikojlcckabaa", sum := "6418e376303846dfd35da916f4b2cfc1504121e6f9f10d06717b6a3d24df3898", func := "cobweb/cobweblaw01.LetterCuts", spec := "letterCuts", inPlace := ["internal/abi.NoEscape"], apart := false, narrowed := true }
def LetterCutsUptoSaid : Prop := letterCutsUptoRow.holds Try.pinned (OpenSpec.upto letterCutsSpec)

end Rows
end Go.Proofs.Ytcmikojlcckabaa
