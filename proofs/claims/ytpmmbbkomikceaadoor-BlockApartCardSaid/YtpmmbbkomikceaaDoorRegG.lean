/- A region that draws, walked state by state: the state at hand is named, so that orders that meet again are walked once (each state's fact is proved behind those of the states that follow it). -/
import Derived.Test.YtpmmbbkomikceaaDoorPass
set_option linter.unusedVariables false
namespace Go.Proofs.YtpmmbbkomikceaaDoor
open Go

theorem wpAnyH_named {P : Program} {ops : Array Oper} {Q : Exit → Act → World → Prop} {md : Region.Mode} {S : World → Prop} {F : Nat} {l : Array Bool} {a : Act} {w : World}
    (h : ∀ (G : Nat → Array Bool → Act → World → Prop) (A : Act) (L : Array Bool), A = a → L = l → (∀ F l a w, wpAnyH P md ops Q S F l a w → G F l a w) → (∀ F l a w, G F l a w → wpAnyH P md ops Q S F l a w) → G F L A w) :
    wpAnyH P md ops Q S F l a w := h (wpAnyH P md ops Q S) a l rfl rfl (fun _ _ _ _ h => h) (fun _ _ _ _ h => h)
end Go.Proofs.YtpmmbbkomikceaaDoor
