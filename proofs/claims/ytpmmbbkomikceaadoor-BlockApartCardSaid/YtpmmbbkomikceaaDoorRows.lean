/-
  NARROWER THAN 'FOR EVERY INPUT', by the rows' own cells (each row's printed sentence says how): BlockSums: laid · BlockPacks: laid · BlockTakes: laid · BlockApart: laid · BlockJoins: laid.
  DERIVED. THE GIVEN ROWS OF THIS SEAT. 5 by the template 'for every input the law returns true; each argument reads behind the call as it read before'; 0 by the template 'total and deterministic' (their statements: YtpmmbbkomikceaaDoorTotals.lean).
  GIVEN WITH THE SEED: the statements are not yours to turn. If you find one false, say at which input.
  Laid BY PROGRAM, IN A SANDBOX (cutbox-rows.mjs): the forced cells as the released guide's own fill.sh prints them over the translation 80915d052146dc32… (all of the seat's roots in one cut). By AI agents, Wed Nov 11 2026. No macro, syntax, notation, axiom, sorry.
-/
import Derived.Test.YtpmmbbkomikceaaDoorChecked
import GoSem.Claim
import GoSem.ClaimJoined
import GoSem.ClaimMapViews
import Derived.JoinedTies
import Derived.KernelRfl
namespace Go.Proofs.YtpmmbbkomikceaaDoor
/- THE CELL 'sum', in the pinned program and in every row, IS THE sha256 OF THE DUMP (.gsa) THAT YtpmmbbkomikceaaDoorProg.lean LOADS. Nothing in Lean hashes anything: it is a label: what it is worth is what the hold of that sum in a sandbox is worth. -/
noncomputable def Tryd.pinned : Pinned := { name := "ytpmmbbkomikceaadoor", sum := "80915d052146dc3237c21e14d183bcab08e922b5981992d22fdb1db2d40118c1", checked := Tryd.checked }
namespace Rows
def none {H : Type} : Left H := { results := [], args := [] }

/- WHAT THE LISTED PACKAGE-LEVEL VARIABLES READ AS WHEN THE CALL BEGINS. Each datum BY PROGRAM (the guide's laid-datum.mjs) off the statement by which the dump's own 'gosem.cut.vars' lays the variable. In a bare row this is a premise. The card (YtpmmbbkomikceaaDoorCards.lean) ties it to the program's text. -/
def laid_cobweb_block_shifted {H : Type} : DataW H := .agg [.lit (.int .u32 0), .lit (.int .u32 498536548), .lit (.int .u32 997073096), .lit (.int .u32 651767980), .lit (.int .u32 1994146192), .lit (.int .u32 1802195444), .lit (.int .u32 1303535960), .lit (.int .u32 1342533948), .lit (.int .u32 3988292384), .lit (.int .u32 4027552580), .lit (.int .u32 3604390888), .lit (.int .u32 3412177804), .lit (.int .u32 2607071920), .lit (.int .u32 2262029012), .lit (.int .u32 2685067896), .lit (.int .u32 3183342108)]

/-- 'cobweblaw08.BlockSums': WHATEVER THE INPUT: true; the input reads as it did. -/
def blockSumsSpec : ChangeSpec := { name := "blockSums", fn := fun _ => fun
  | [d] => { results := [.lit (.bool true)], args := [d] }
  | _ => none }
def blockSumsRow : OpenClaim := { program := "ytpmmbbkomikceaadoor", sum := "80915d052146dc3237c21e14d183bcab08e922b5981992d22fdb1db2d40118c1", func := "cobweb/cobweblaw08.BlockSums", spec := "blockSums", unfollowed := true, recurses := true, named := ["cobweb/block.shifted"], apart := false, laid := [("cobweb/block.shifted", laid_cobweb_block_shifted)] }
def BlockSumsSaid : Prop := blockSumsRow.holds Tryd.pinned (OpenSpec.ofChange blockSumsSpec)

/-- ITS FALSE NEIGHBOUR: 'it returns false'. Refute it at one input. -/
def blockSumsWrong : ChangeSpec := { name := "blockSums", fn := fun _ => fun
  | [d] => { results := [.lit (.bool false)], args := [d] }
  | _ => none }
def BlockSumsWrongFalsely : Prop := blockSumsRow.holds Tryd.pinned (OpenSpec.ofChange blockSumsWrong)

/-- 'cobweblaw08.BlockPacks': WHATEVER THE INPUT: true; the input reads as it did. -/
def blockPacksSpec : ChangeSpec := { name := "blockPacks", fn := fun _ => fun
  | [d] => { results := [.lit (.bool true)], args := [d] }
  | _ => none }
def blockPacksRow : OpenClaim := { program := "ytpmmbbkomikceaadoor", sum := "80915d052146dc3237c21e14d183bcab08e922b5981992d22fdb1db2d40118c1", func := "cobweb/cobweblaw08.BlockPacks", spec := "blockPacks", unfollowed := true, recurses := true, named := ["cobweb/block.shifted"], apart := false, laid := [("cobweb/block.shifted", laid_cobweb_block_shifted)] }
def BlockPacksSaid : Prop := blockPacksRow.holds Tryd.pinned (OpenSpec.ofChange blockPacksSpec)

/-- ITS FALSE NEIGHBOUR: 'it returns false'. Refute it at one input. -/
def blockPacksWrong : ChangeSpec := { name := "blockPacks", fn := fun _ => fun
  | [d] => { results := [.lit (.bool false)], args := [d] }
  | _ => none }
def BlockPacksWrongFalsely : Prop := blockPacksRow.holds Tryd.pinned (OpenSpec.ofChange blockPacksWrong)

/-- 'cobweblaw08.BlockTakes': WHATEVER THE INPUT: true; the input reads as it did. -/
def blockTakesSpec : ChangeSpec := { name := "blockTakes", fn := fun _ => fun
  | [d] => { results := [.lit (.bool true)], args := [d] }
  | _ => none }
def blockTakesRow : OpenClaim := { program := "ytpmmbbkomikceaadoor", sum := "80915d052146dc3237c21e14d183bcab08e922b5981992d22fdb1db2d40118c1", func := "cobweb/cobweblaw08.BlockTakes", spec := "blockTakes", unfollowed := true, recurses := true, named := ["cobweb/block.shifted"], apart := false, laid := [("cobweb/block.shifted", laid_cobweb_block_shifted)] }
def BlockTakesSaid : Prop := blockTakesRow.holds Tryd.pinned (OpenSpec.ofChange blockTakesSpec)

/-- ITS FALSE NEIGHBOUR: 'it returns false'. Refute it at one input. -/
def blockTakesWrong : ChangeSpec := { name := "blockTakes", fn := fun _ => fun
  | [d] => { results := [.lit (.bool false)], args := [d] }
  | _ => none }
def BlockTakesWrongFalsely : Prop := blockTakesRow.holds Tryd.pinned (OpenSpec.ofChange blockTakesWrong)

/-- 'cobweblaw08.BlockApart': WHATEVER THE INPUT: true; the input reads as it did. -/
def blockApartSpec : ChangeSpec := { name := "blockApart", fn := fun _ => fun
  | [d1, d2] => { results := [.lit (.bool true)], args := [d1, d2] }
  | _ => none }
def blockApartRow : OpenClaim := { program := "ytpmmbbkomikceaadoor", sum := "80915d052146dc3237c21e14d183bcab08e922b5981992d22fdb1db2d40118c1", func := "cobweb/cobweblaw08.BlockApart", spec := "blockApart", unfollowed := true, recurses := true, named := ["cobweb/block.shifted"], apart := false, laid := [("cobweb/block.shifted", laid_cobweb_block_shifted)] }
def BlockApartSaid : Prop := blockApartRow.holds Tryd.pinned (OpenSpec.ofChange blockApartSpec)

/-- ITS FALSE NEIGHBOUR: 'it returns false'. Refute it at one input. -/
def blockApartWrong : ChangeSpec := { name := "blockApart", fn := fun _ => fun
  | [d1, d2] => { results := [.lit (.bool false)], args := [d1, d2] }
  | _ => none }
def BlockApartWrongFalsely : Prop := blockApartRow.holds Tryd.pinned (OpenSpec.ofChange blockApartWrong)

/-- 'cobweblaw08.BlockJoins': WHATEVER THE INPUT: true; the input reads as it did. -/
def blockJoinsSpec : ChangeSpec := { name := "blockJoins", fn := fun _ => fun
  | [d1, d2] => { results := [.lit (.bool true)], args := [d1, d2] }
  | _ => none }
def blockJoinsRow : OpenClaim := { program := "ytpmmbbkomikceaadoor", sum := "80915d052146dc3237c21e14d183bcab08e922b5981992d22fdb1db2d40118c1", func := "cobweb/cobweblaw08.BlockJoins", spec := "blockJoins", unfollowed := true, recurses := true, named := ["cobweb/block.shifted"], apart := false, laid := [("cobweb/block.shifted", laid_cobweb_block_shifted)] }
def BlockJoinsSaid : Prop := blockJoinsRow.holds Tryd.pinned (OpenSpec.ofChange blockJoinsSpec)

/-- ITS FALSE NEIGHBOUR: 'it returns false'. Refute it at one input. -/
def blockJoinsWrong : ChangeSpec := { name := "blockJoins", fn := fun _ => fun
  | [d1, d2] => { results := [.lit (.bool false)], args := [d1, d2] }
  | _ => none }
def BlockJoinsWrongFalsely : Prop := blockJoinsRow.holds Tryd.pinned (OpenSpec.ofChange blockJoinsWrong)

/- THE SECOND FORM. 'bulk': how many values and letters a reading holds, each counted each time it is reached (what is shared counts as often as it is met; a slice's spare places count too). A statement '..UptoSaid' is the law's where the arguments, and the package variables that the reading takes, are together of bulk at most 1048576: NARROWER than '..Said'. Prove '..Said' where nothing that the law and all that it calls make is longer than what came in: it says more and counts as full. Else prove '..UptoSaid'. A law counts once. -/
mutual
def uptoBulk {H : Type} : DataW H → Nat
  | .lit (.string bytes) => bytes.length + 1
  | .lit _ => 1
  | .nil => 1
  | .ptr d => uptoBulk d + 1
  | .slice elems spare => uptoBulkAll elems + uptoBulkAll spare + 1
  | .agg parts => uptoBulkAll parts + 1
  | .iface _ d => uptoBulk d + 1
  | .map entries => uptoBulkEntries entries + 1
  | .held _ => 1
def uptoBulkAll {H : Type} : List (DataW H) → Nat
  | [] => 0
  | d :: r => uptoBulk d + uptoBulkAll r
def uptoBulkEntries {H : Type} : List (Lit × DataW H) → Nat
  | [] => 0
  | x :: r => uptoBulkEntry x + uptoBulkEntries r
def uptoBulkEntry {H : Type} : Lit × DataW H → Nat
  | (.string bytes, d) => bytes.length + uptoBulk d + 1
  | (_, d) => uptoBulk d + 1
 end
def uptoSmall : (H : Type) → List (DataW H) → Bool := fun _ ds => decide (uptoBulkAll ds ≤ 1048576)
def OpenSpec.upto (s : _root_.Go.ChangeSpec) : _root_.Go.OpenSpec := { _root_.Go.OpenSpec.ofChange s with cond := some uptoSmall }

/-- 'cobweblaw08.BlockSums', WHERE WHAT IT READS IS OF BULK AT MOST 1048576: true; the input reads as it did. -/
def blockSumsUptoRow : OpenClaim := { program := "ytpmmbbkomikceaadoor", sum := "80915d052146dc3237c21e14d183bcab08e922b5981992d22fdb1db2d40118c1", func := "cobweb/cobweblaw08.BlockSums", spec := "blockSums", unfollowed := true, recurses := true, named := ["cobweb/block.shifted"], apart := false, laid := [("cobweb/block.shifted", laid_cobweb_block_shifted)], narrowed := true }
def BlockSumsUptoSaid : Prop := blockSumsUptoRow.holds Tryd.pinned (OpenSpec.upto blockSumsSpec)

/-- 'cobweblaw08.BlockPacks', WHERE WHAT IT READS IS OF BULK AT MOST 1048576: true; the input reads as it did. -/
def blockPacksUptoRow : OpenClaim := { program := "ytpmmbbkomikceaadoor", sum := "80915d052146dc3237c21e14d183bcab08e922b5981992d22fdb1db2d40118c1", func := "cobweb/cobweblaw08.BlockPacks", spec := "blockPacks", unfollowed := true, recurses := true, named := ["cobweb/block.shifted"], apart := false, laid := [("cobweb/block.shifted", laid_cobweb_block_shifted)], narrowed := true }
def BlockPacksUptoSaid : Prop := blockPacksUptoRow.holds Tryd.pinned (OpenSpec.upto blockPacksSpec)

/-- 'cobweblaw08.BlockTakes', WHERE WHAT IT READS IS OF BULK AT MOST 1048576: true; the input reads as it did. -/
def blockTakesUptoRow : OpenClaim := { program := "ytpmmbbkomikceaadoor", sum := "80915d052146dc3237c21e14d183bcab08e922b5981992d22fdb1db2d40118c1", func := "cobweb/cobweblaw08.BlockTakes", spec := "blockTakes", unfollowed := true, recurses := true, named := ["cobweb/block.shifted"], apart := false, laid := [("cobweb/block.shifted", laid_cobweb_block_shifted)], narrowed := true }
def BlockTakesUptoSaid : Prop := blockTakesUptoRow.holds Tryd.pinned (OpenSpec.upto blockTakesSpec)

/-- 'cobweblaw08.BlockApart', WHERE WHAT IT READS IS OF BULK AT MOST 1048576: true; the input reads as it did. -/
def blockApartUptoRow : OpenClaim := { program := "ytpmmbbkomikceaadoor", sum := "80915d052146dc3237c21e14d183bcab08e922b5981992d22fdb1db2d40118c1", func := "cobweb/cobweblaw08.BlockApart", spec := "blockApart", unfollowed := true, recurses := true, named := ["cobweb/block.shifted"], apart := false, laid := [("cobweb/block.shifted", laid_cobweb_block_shifted)], narrowed := true }
def BlockApartUptoSaid : Prop := blockApartUptoRow.holds Tryd.pinned (OpenSpec.upto blockApartSpec)

/-- 'cobweblaw08.BlockJoins', WHERE WHAT IT READS IS OF BULK AT MOST 1048576: true; the input reads as it did. -/
def blockJoinsUptoRow : OpenClaim := { program := "ytpmmbbkomikceaadoor", sum := "80915d052146dc3237c21e14d183bcab08e922b5981992d22fdb1db2d40118c1", func := "cobweb/cobweblaw08.BlockJoins", spec := "blockJoins", unfollowed := true, recurses := true, named := ["cobweb/block.shifted"], apart := false, laid := [("cobweb/block.shifted", laid_cobweb_block_shifted)], narrowed := true }
def BlockJoinsUptoSaid : Prop := blockJoinsUptoRow.holds Tryd.pinned (OpenSpec.upto blockJoinsSpec)

end Rows
end Go.Proofs.YtpmmbbkomikceaaDoor
