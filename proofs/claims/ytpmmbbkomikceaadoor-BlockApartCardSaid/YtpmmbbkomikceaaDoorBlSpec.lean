/- What the laws of layer 8 ask of the code's blocks (to be shown of the code). -/
import Derived.Test.YtpmmbbkomikceaaDoorBlScan
import Derived.Test.YtpmmbbkomikceaaDoorLitG
import Derived.Test.YtpmmbbkomikceaaDoorBlTab
import Derived.Deep.DeepCutAuto
import Derived.Deep.CutBlock
import Derived.Handy
set_option linter.unusedVariables false
namespace Go.Proofs.YtpmmbbkomikceaaDoor
open Go Go.RowKit

structure BlSpec : Prop where
  sum_ : ∀ (A : Option Addr) (c : Nat) (zs : List BsZ) (w : World), RdS w A zs → zs.length ≤ c → zs.length ≤ 1000 → (catS zs).length ≤ 500000 → ShT w →
    Calls Tryd.prog 9 #[.slice A zs.length c] w fun e w' => e = .returned (.int .u32 (sumC (catS zs) : Nat)) ∧ Below w.heap.size w w'
  pack_ : ∀ (A : Option Addr) (c : Nat) (zs : List BlZ) (w : World), RdL w A zs → zs.length ≤ c → zs.length ≤ 1000 → (allR zs).length ≤ 500000 → ShT w →
    Calls Tryd.prog 12 #[.slice A zs.length c] w fun e w' => ∃ v, e = .returned (.tuple #[v, .int .i64 0]) ∧ layB.Row 5 w' w.heap.size v (allR zs).length (allR zs) ∧ Below w.heap.size w w'
  take_ : ∀ (A : Option Addr) (c : Nat) (bs : List UInt8) (w : World), layB.Rd w A bs → bs.length ≤ c → bs.length ≤ 500000 → ShT w →
    Calls Tryd.prog 17 #[.slice A bs.length c] w fun e w' => Below w.heap.size w w' ∧
      ((takeE bs ≠ 0 ∧ ∃ a cc, e = .returned (.tuple #[.agg #[.int .u8 0, .slice a 0 cc], .int .i64 0, .int .i64 (takeE bs : Nat)])) ∨
       (takeE bs = 0 ∧ ∃ a cc, e = .returned (.tuple #[.agg #[.int .u8 ((bs.getD 1 default).toNat : Int), .slice a (lenR bs) cc], .int .i64 ((lenR bs + 10 : Nat) : Int), .int .i64 0]) ∧ lenR bs ≤ cc ∧ layB.Rd w' a ((bs.drop 6).take (lenR bs))))
  scan_ : ∀ (A : Option Addr) (c : Nat) (bs : List UInt8) (w : World), layB.Rd w A bs → bs.length ≤ c → bs.length ≤ 500000 → ShT w →
    Calls Tryd.prog 15 #[.slice A bs.length c] w fun e w' => ∃ (D : Option Addr) (d : Nat) (zs : List BlZ), e = .returned (.tuple #[.slice D zs.length d, .int .i64 ((scanR bs).2 : Nat)]) ∧ zs.length ≤ d ∧ zs.length ≤ bs.length ∧ RdL w' D zs ∧ zs.map pairL = (scanR bs).1 ∧ Below w.heap.size w w'
  size_ : ∀ (A : Option Addr) (c : Nat) (zs : List BlZ) (w : World), RdL w A zs → zs.length ≤ c → zs.length ≤ 1000 → (allR zs).length ≤ 500000 →
    Calls Tryd.prog 14 #[.slice A zs.length c] w fun e w' => e = .returned (.int .i64 ((allR zs).length : Nat)) ∧ Below w.heap.size w w'
end Go.Proofs.YtpmmbbkomikceaaDoor
