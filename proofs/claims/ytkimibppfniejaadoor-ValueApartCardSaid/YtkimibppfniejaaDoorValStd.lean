/- What the tied cards lay, as the walks of values ask it: utf8's tables, strconv's table of tens, its two errors. -/
import Derived.Test.YtkimibppfniejaaDoorValThing
import Derived.Test.YtkimibppfniejaaDoorCompare
import Derived.Lib.LaidTab
set_option linter.unusedVariables false
namespace Go.Proofs.YtkimibppfniejaaDoor
open Go Go.RowKit

abbrev PowT (w : World) : Prop := Lib.TabIs Tryd.prog w "internal/strconv.uint64pow10" .u64 Lib.pow10Tab
/-- What the library's variables hold. -/
structure Std (w : World) : Prop where
  u : Tabs w
  p : PowT w
  es : ∃ tp p, w.var? Tryd.prog "strconv.ErrSyntax" = some #[.iface tp p]
  er : ∃ tp p, w.var? Tryd.prog "strconv.ErrRange" = some #[.iface tp p]
theorem var_keep {n : String} {cs : Array Value} {w w' : World} (h : w.var? Tryd.prog n = some cs) (hb : Below w.heap.size w w') : w'.var? Tryd.prog n = some cs := by
  unfold World.var? at h ⊢
  cases hg : Tryd.prog.globalNamed n with
  | none => rw [hg] at h; simp at h
  | some g =>
    rw [hg] at h
    simp only [Option.bind_some] at h ⊢
    have hlt : g < w.heap.size := by
      rcases Nat.lt_or_ge g w.heap.size with h1 | h1
      · exact h1
      · rw [Array.getElem?_eq_none h1] at h
        simp at h
    rw [hb.block g hlt]
    exact h
theorem Std.below {w w' : World} (h : Std w) (hb : Below w.heap.size w w') : Std w' := by
  obtain ⟨h1, h2, ⟨a, b, h3⟩, c, d, h4⟩ := h
  exact ⟨Utf8Tabs_below h1 hb, var_keep h2 hb, ⟨a, b, var_keep h3 hb⟩, c, d, var_keep h4 hb⟩
end Go.Proofs.YtkimibppfniejaaDoor
