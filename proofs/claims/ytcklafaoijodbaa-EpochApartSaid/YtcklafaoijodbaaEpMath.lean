/- Plain Lean for the laws of layer 6; a table alone. -/
import Derived.Test.YtcklafaoijodbaaEpPair
set_option linter.unusedVariables false
namespace Go.Proofs.Ytcklafaoijodbaa
open Go Go.RowKit

structure EpM (C : EpSpec) (w0 : World) (B N : Nat) (w : World) (gl : Int) (ins : List Int) (S : Nat → Prop) : Prop where
  a : C.At w B N gl ins S
  good : GoodT gl ins
  lo : ∀ k, S k → w0.heap.size ≤ k
  bel : Below w0.heap.size w0 w
theorem EpM.below {C : EpSpec} {w0 : World} {B N : Nat} {w w' : World} {gl : Int} {ins : List Int} {S : Nat → Prop} (h : EpM C w0 B N w gl ins S) (hb : Below w.heap.size w w') : EpM C w0 B N w' gl ins S := ⟨C.below h.a hb, h.good, h.lo, h.bel.trans (hb.mono h.bel.size)⟩
theorem EpM.move {C : EpSpec} {w0 : World} {B N : Nat} {w w' : World} {gl gl' : Int} {ins ins' : List Int} {S S' : Nat → Prop} (h : EpM C w0 B N w gl ins S) (ha : C.At w' B N gl' ins' S') (m : Moved S S' w w') (g : GoodT gl' ins') : EpM C w0 B N w' gl' ins' S' :=
  ⟨ha, g, fun k hk => (m.2 k hk).elim (h.lo k) (fun h2 => Nat.le_trans h.bel.size h2), h.bel.trans (m.1.below h.bel.size h.lo)⟩
theorem tmod_inE (a m : Int) (hm : 0 < m) : -m < a.tmod m ∧ a.tmod m < m := by
  have h1 := Int.emod_lt_of_pos a hm
  have h2 := Int.emod_nonneg a (by omega : m ≠ 0)
  rcases Int.lt_or_le a 0 with h | h
  · have e : a.tmod m = -((-a) % m) := by
      rw [← Int.tmod_eq_emod_of_nonneg (by omega : 0 ≤ -a), Int.neg_tmod, Int.neg_neg]
    have h3 := Int.emod_lt_of_pos (-a) hm
    have h4 := Int.emod_nonneg (-a) (by omega : m ≠ 0)
    omega
  · rw [Int.tmod_eq_emod_of_nonneg h]; omega
/-- '((a % m) + m) % m'. -/
theorem idx_inE (a m : Int) (hm : 0 < m) (hb : m ≤ 1000000) : ∃ x : Nat, (wrap64 (a.tmod m + m)).tmod m = (x : Int) ∧ (x : Int) < m := by
  obtain ⟨h1, h2⟩ := tmod_inE a m hm
  have hw : wrap64 (a.tmod m + m) = a.tmod m + m := by
    unfold wrap64
    omega
  rw [hw, Int.tmod_eq_emod_of_nonneg (by omega)]
  have h3 := Int.emod_nonneg (a.tmod m + m) (by omega : m ≠ 0)
  have h4 := Int.emod_lt_of_pos (a.tmod m + m) hm
  exact ⟨((a.tmod m + m) % m).toNat, by omega, by omega⟩
section
variable (g : Int)
theorem least3 : leastR g [-1, -1, -1] = g := by simp [leastR, leastStep]
theorem least1 : leastR g [-1, g, -1] = g := by simp [leastR, leastStep]
theorem least2 (h : 0 ≤ g) : leastR (g + 1) [g + 1, g, -1] = g := by
  have e : g < g + 1 := by omega
  simp [leastR, leastStep, h, e]
theorem adv3 (h : g < 2147483647) : advR g [-1, -1, -1] = (g + 1, 0, g + 1) := by unfold advR; rw [least3, if_neg (by omega), if_neg (fun h => h rfl)]
theorem adv1 (h : g < 2147483647) : advR g [-1, g, -1] = (g + 1, 0, g + 1) := by unfold advR; rw [least1, if_neg (by omega), if_neg (fun h => h rfl)]
theorem adv2 (h0 : 0 ≤ g) (h : g + 1 < 2147483647) : advR (g + 1) [g + 1, g, -1] = (0, 60, g + 1) := by unfold advR; rw [least2 g h0, if_neg (by omega), if_pos (by omega)]
theorem ent1 : enterR g [-1, -1, -1] 1 = (g, 0, [-1, g, -1]) := by simp [enterR, notIn]
theorem ent0 : enterR (g + 1) [-1, g, -1] 0 = (g + 1, 0, [g + 1, g, -1]) := by simp [enterR, notIn]
theorem lea0 (h : 0 ≤ g) : leaveR (g + 1) [g + 1, g, -1] 0 false = (0, 0, [-1, g, -1]) := by
  have e : ¬ (g + 1 < 0) := by omega
  simp [leaveR, notIn, e]
theorem lea1 (h : 0 ≤ g) : leaveR (g + 1) [-1, g, -1] 1 false = (0, 0, [-1, -1, -1]) := by
  have e : ¬ (g < 0) := by omega
  simp [leaveR, notIn, e]
end
end Go.Proofs.Ytcklafaoijodbaa
