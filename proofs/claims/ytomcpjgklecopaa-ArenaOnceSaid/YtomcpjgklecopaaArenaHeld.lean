/- An arena, and two lists of handles beside it: what each step leaves of the three. -/
import Derived.Test.YtomcpjgklecopaaArenaAwake
import Derived.Test.YtomcpjgklecopaaArenaOnceMath
import Derived.Deep.DeepCutAuto
set_option linter.unusedVariables false
namespace Go.Proofs.Ytomcpjgklecopaa
open Go Go.RowKit

theorem HRow.self {w : World} {B n : Nat} {v : Value} {zs : List H2} (h : HRow w B v n zs) : HRow w B v zs.length zs := by
  have e := h.len
  subst e
  exact h
/-- An arena, two rows of handles of the call's own beside it, all apart. -/
structure HeldM (C : ArSpec) (w0 : World) (B N n : Nat) (w : World) (vL vG : Value) (live gone fr tk : List H2) (S : Nat → Prop) : Prop where
  rL : HRow w w0.heap.size vL live.length live
  rG : HRow w w0.heap.size vG gone.length gone
  nL : ∀ g, vL.ownBlock = some g → ¬ S g ∧ vG.ownBlock ≠ some g
  nG : ∀ g, vG.ownBlock = some g → ¬ S g
  at_ : C.At w B N n fr tk S
  lo : ∀ k, S k → w0.heap.size ≤ k
  bel : Below w0.heap.size w0 w
section
variable {C : ArSpec} {w0 : World} {B N n : Nat} {w w' : World} {vL vG : Value} {live gone fr tk : List H2} {S : Nat → Prop}
theorem HeldM.below (h : HeldM C w0 B N n w vL vG live gone fr tk S) (hb : Below w.heap.size w w') : HeldM C w0 B N n w' vL vG live gone fr tk S :=
  ⟨h.rL.only (S := NoB) (Below.only hb) (fun _ _ h => h), h.rG.only (S := NoB) (Below.only hb) (fun _ _ h => h), h.nL, h.nG, C.below h.at_ hb, h.lo, h.bel.trans (hb.mono h.bel.size)⟩
theorem HeldM.alloc (h : HeldM C w0 B N n w vL vG live gone fr tk S) (o : Obj) : HeldM C w0 B N n (w.alloc o) vL vG live gone fr tk S :=
  h.below ((Below.refl _ _).alloc (Nat.le_refl _) o)
theorem HeldM.drewN (h : HeldM C w0 B N n w vL vG live gone fr tk S) (k : Nat) : HeldM C w0 B N n (w.drewN k) vL vG live gone fr tk S := h.below (below_drewH (Below.refl _ _) k)
theorem HeldM.moved (h : HeldM C w0 B N n w vL vG live gone fr tk S) {fr' tk' : List H2} {S' : Nat → Prop} (ha : C.At w' B N n fr' tk' S') (m : Moved S S' w w') : HeldM C w0 B N n w' vL vG live gone fr' tk' S' := by
  have nS : ∀ g, g < w.heap.size → ¬ S g → ¬ S' g := fun g hg hn hs => (m.2 g hs).elim hn (fun h => by omega)
  exact ⟨h.rL.only m.1 (fun g hg => (h.nL g hg).1), h.rG.only m.1 h.nG, fun g hg => ⟨nS g (h.rL.lt g hg).2 (h.nL g hg).1, (h.nL g hg).2⟩, fun g hg => nS g (h.rG.lt g hg).2 (h.nG g hg),
    ha, fun k hk => (m.2 k hk).elim (h.lo k) (fun h2 => Nat.le_trans h.bel.size h2), h.bel.trans (m.1.below h.bel.size h.lo)⟩
/-- The first row is appended to. -/
theorem HeldM.growL (h : HeldM C w0 B N n w vL vG live gone fr tk S) {v : Value} {l : List H2} (hr : HRow w' w0.heap.size v l.length l) (g : w.grownBy w' vL.ownBlock) {H : Nat} (hH : H = w.heap.size) (loc : ∀ g, v.ownBlock = some g → vL.ownBlock = some g ∨ g = H) : HeldM C w0 B N n w' v vG l gone fr tk S := by
  have og : Only (fun k => vL.ownBlock = some k) w w' := (Only.refl _ w).grown g (fun k hk => .inl hk)
  refine ⟨hr, h.rG.only og (fun g hg hl => (h.nL g hl).2 hg), fun g hg => ?_, h.nG, C.only h.at_ og (fun k hk hl => (h.nL k hl).1 hk), h.lo, h.bel.grown g h.bel.size (fun k hk => (h.rL.lt k hk).1)⟩
  rcases loc g hg with hl | hl
  · exact h.nL g hl
  · refine ⟨fun hs => ?_, fun hv => ?_⟩
    · have := (C.foot h.at_ g hs).2; omega
    · have := (h.rG.lt g hv).2; omega
/-- The second row is appended to. -/
theorem HeldM.growG (h : HeldM C w0 B N n w vL vG live gone fr tk S) {v : Value} {l : List H2} (hr : HRow w' w0.heap.size v l.length l) (g : w.grownBy w' vG.ownBlock) {H : Nat} (hH : H = w.heap.size) (loc : ∀ g, v.ownBlock = some g → vG.ownBlock = some g ∨ g = H) : HeldM C w0 B N n w' vL v live l fr tk S := by
  have og : Only (fun k => vG.ownBlock = some k) w w' := (Only.refl _ w).grown g (fun k hk => .inl hk)
  refine ⟨h.rL.only og (fun g hg hl => (h.nL g hg).2 hl), hr, fun g hg => ⟨(h.nL g hg).1, fun hv => ?_⟩, fun g hg => ?_, C.only h.at_ og (fun k hk hl => h.nG k hl hk), h.lo, h.bel.grown g h.bel.size (fun k hk => (h.rG.lt k hk).1)⟩
  · rcases loc g hv with hl | hl
    · exact (h.nL g hg).2 hl
    · have := (h.rL.lt g hg).2; omega
  · rcases loc g hg with hl | hl
    · exact h.nG g hl
    · intro hs; have := (C.foot h.at_ g hs).2; omega
/-- The first row is a new one. -/
theorem HeldM.newL (h : HeldM C w0 B N n w vL vG live gone fr tk S) {v : Value} {l : List H2} (hb : Below w.heap.size w w') (hr : HRow w' w.heap.size v l.length l) : HeldM C w0 B N n w' v vG l gone fr tk S := by
  have h2 := h.below hb
  refine ⟨hr.mono h.bel.size, h2.rG, fun g hg => ?_, h.nG, h2.at_, h.lo, h2.bel⟩
  have hlt := (hr.lt g hg).1
  refine ⟨fun hs => ?_, fun hv => ?_⟩
  · have := (C.foot h.at_ g hs).2; omega
  · have := (h.rG.lt g hv).2; omega
theorem HeldM.boxH (h : HeldM C w0 B N n w vL vG live gone fr tk S) (z : H2) : BoxH (w.alloc (.cells #[.int .i64 z.1, .int .i64 z.2] 34)) w.heap.size z S := BoxH.new (fun k hk => (C.foot h.at_ k hk).2) z
end
end Go.Proofs.Ytomcpjgklecopaa
