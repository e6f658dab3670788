/- How slices of bytes, and slices of these, come in. -/
import Derived.Test.YtpmmbbkomikceaaDoorBytesG
import Derived.Deep.Slices
import Derived.Deep.Strs
set_option linter.unusedVariables false
namespace Go.Proofs.YtpmmbbkomikceaaDoor
open Go Go.RowKit Go.WideShapes Go.ChangeShapes

theorem open_bs1 {H : Type} {enc : TypeId × Value → H} {w : World} {base : Nat} {spare : Nat → Bool} {held : Bool} {fuel : Nat} {a : Option Addr} {l c : Nat} {x : DataW H × List MemPlace}
    (h : DataW.trod enc Tryd.prog w base spare held fuel 24 [.slice a l c] = some x) : ∃ zs, SlcY w a l c zs := by
  obtain ⟨a', l', c', zs, e, hz⟩ := open_bs h
  injection e with e1 e2
  injection e1 with e3 e4 e5
  subst e3 e4 e5
  exact ⟨zs, hz⟩
theorem open_bss1 {H : Type} {enc : TypeId × Value → H} {w : World} {base : Nat} {spare : Nat → Bool} {held : Bool} {fuel : Nat} {a : Option Addr} {l c : Nat} {x : DataW H × List MemPlace}
    (h : DataW.trod enc Tryd.prog w base spare held fuel 22 [.slice a l c] = some x) : ∃ zs, SlcS w a l c zs := by
  obtain ⟨a', l', c', zs, e, hz⟩ := open_bss h
  injection e with e1 e2
  injection e1 with e3 e4 e5
  subst e3 e4 e5
  exact ⟨zs, hz⟩
end Go.Proofs.YtpmmbbkomikceaaDoor
