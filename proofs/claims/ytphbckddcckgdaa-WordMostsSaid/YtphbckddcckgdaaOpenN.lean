/- How a law's numbers, truths, Tids and slices of numbers come in: what a walk is told of them. -/
import Derived.Test.YtphbckddcckgdaaOwn
import Derived.Test.YtphbckddcckgdaaWordMost
import Derived.Lib.SmallJoins
import Derived.ChangeArms
set_option linter.unusedVariables false
namespace Go.Proofs.Ytphbckddcckgdaa
open Go Go.RowKit Go.WideShapes Go.ChangeShapes

/-- A Tid that came in. -/
def TidIn (e s : Int) : Prop := I64 e ∧ I64 s
set_option maxRecDepth 100000 in
theorem open_tid {H : Type} {enc : TypeId × Value → H} {w : World} {base : Nat} {spare : Nat → Bool} {held : Bool} {r : Reach} {b0 : Nat} {v : Value} {d : DataW H} {p : List MemPlace}
    (hv : Value.okWide Try.prog w r b0 23 v) (h : DataW.Trod enc Try.prog w base spare held 23 v d p) :
    ∃ e s l a, v = tidV e s l a ∧ p = [] ∧ TidIn e s := by
  obtain ⟨v0, v1, v2, v3, y0, y1, y2, y3, m, rfl, rfl, rfl, h0, h1, h2, h3⟩ := Go.Joins.open_agg4 Try.underlying23 (by kernel_rfl) (by kernel_rfl) hv h
  obtain ⟨k, e0, rfl, w0⟩ := DataW.trod_int Try.underlying3 h0
  obtain ⟨n, e1, rfl, w1⟩ := DataW.trod_int Try.underlying3 h1
  obtain ⟨l, e2, rfl⟩ := DataW.trod_bool Try.underlying4 h2
  obtain ⟨a, e3, rfl⟩ := DataW.trod_bool Try.underlying4 h3
  obtain rfl : v0 = .int .i64 k := by simpa using e0
  obtain rfl : v1 = .int .i64 n := by simpa using e1
  obtain rfl : v2 = .bool l := by simpa using e2
  obtain rfl : v3 = .bool a := by simpa using e3
  exact ⟨k, n, l, a, rfl, rfl, wf_i64 w0, wf_i64 w1⟩
end Go.Proofs.Ytphbckddcckgdaa
