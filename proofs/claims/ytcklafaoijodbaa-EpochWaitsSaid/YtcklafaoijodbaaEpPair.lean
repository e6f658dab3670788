/- The code's table of epochs and the document's side by side. -/
import Derived.Test.YtcklafaoijodbaaEpAwake
import Derived.Deep.DeepCutAuto
import Derived.Deep.CutBlock
set_option linter.unusedVariables false
namespace Go.Proofs.Ytcklafaoijodbaa
open Go Go.RowKit

theorem leaveR_fst (gl : Int) (ins : List Int) (s : Int) : (leaveR gl ins s false).1 = 0 := by
  unfold leaveR
  split
  · rfl
  · split
    · rfl
    · rfl
structure PairE (C : EpSpec) (w0 : World) (B1 N1 : Nat) (w : World) (B2 N2 : Nat) (vI : Value) (gl : Int) (ins : List Int) (gl2 : Int) (ins2 : List Int) (S : Nat → Prop) : Prop where
  a : C.At w B1 N1 gl ins S
  r : RefT w B2 N2 vI gl2 ins2
  ap : ∀ k, S k → ¬ footT N2 vI k
  lo : ∀ k, S k ∨ footT N2 vI k → w0.heap.size ≤ k
  bel : Below w0.heap.size w0 w
section
variable {C : EpSpec} {w0 : World} {B1 N1 : Nat} {w w' : World} {B2 N2 : Nat} {vI : Value} {gl gl2 : Int} {ins ins2 : List Int} {S : Nat → Prop}
theorem PairE.below (h : PairE C w0 B1 N1 w B2 N2 vI gl ins gl2 ins2 S) (hb : Below w.heap.size w w') : PairE C w0 B1 N1 w' B2 N2 vI gl ins gl2 ins2 S :=
  ⟨C.below h.a hb, h.r.below hb, h.ap, h.lo, h.bel.trans (hb.mono h.bel.size)⟩
theorem PairE.moveA (h : PairE C w0 B1 N1 w B2 N2 vI gl ins gl2 ins2 S) {gl' : Int} {ins' : List Int} {S' : Nat → Prop} (ha : C.At w' B1 N1 gl' ins' S') (m : Moved S S' w w') : PairE C w0 B1 N1 w' B2 N2 vI gl' ins' gl2 ins2 S' := by
  refine ⟨ha, h.r.only m.1 (fun k hk hs => h.ap k hs hk), fun k hk hf => ?_, fun k hk => ?_, h.bel.trans (m.1.below h.bel.size (fun k hk => h.lo k (.inl hk)))⟩
  · rcases m.2 k hk with h1 | h1
    · exact h.ap k h1 hf
    · have := (h.r.foot_lt k hf).2; omega
  · rcases hk with hk | hk
    · rcases m.2 k hk with h1 | h1
      · exact h.lo k (.inl h1)
      · exact Nat.le_trans h.bel.size h1
    · exact h.lo k (.inr hk)
theorem PairE.moveR (h : PairE C w0 B1 N1 w B2 N2 vI gl ins gl2 ins2 S) {gl' : Int} {ins' : List Int} (hr : RefT w' B2 N2 vI gl' ins') (ho : Only (footT N2 vI) w w') : PairE C w0 B1 N1 w' B2 N2 vI gl ins gl' ins' S :=
  ⟨C.only h.a ho (fun k hk hk2 => h.ap k hk hk2), hr, h.ap, h.lo, h.bel.trans (ho.below h.bel.size (fun k hk => h.lo k (.inr hk)))⟩
end
end Go.Proofs.Ytcklafaoijodbaa
