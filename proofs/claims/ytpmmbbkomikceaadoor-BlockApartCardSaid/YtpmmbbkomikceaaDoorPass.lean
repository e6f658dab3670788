/- A region that draws: operations that their guards pass over come up together, in one step. -/
import Derived.Test.YtpmmbbkomikceaaDoorProg
import Derived.Deep.RegionHeld3
set_option linter.unusedVariables false
namespace Go.Proofs.YtpmmbbkomikceaaDoor
open Go

/-- Operations (number, slot) that are passed over, one behind the other: the state, what has come up, and whether each may come up, is free and not wanted. -/
def passA : List (Nat × Tmp) → Act → Act
  | [], a => a
  | i :: r, a => passA r (a.put (some i.2) undef)
def passL : List (Nat × Tmp) → Array Bool → Array Bool
  | [], l => l
  | i :: r, l => passL r (l.setIfInBounds i.1 true)
def passB (md : Region.Mode) (ops : Array Oper) : List (Nat × Tmp) → Array Bool → Act → Bool
  | [], _, _ => true
  | i :: r, l, a => (match ops[i.1]? with | some o => (match o.dst with | some d => d == i.2 | none => false) && !(Region.wanted o (yielded ops a.tmps)) | none => false) && (Region.free md ops l i.1 && ((Region.ready md ops l).contains i.1 && passB md ops r (l.setIfInBounds i.1 true) (a.put (some i.2) undef)))

theorem wpAnyH_pass {P : Program} {ops : Array Oper} {Q : Exit → Act → World → Prop} {md : Region.Mode} {S : World → Prop} (fuel : Nat) (hs : Region.noSelect ops = true)
    (hQ : ∀ c a (d : Tmp) w, Q (.panic c) (Act.put a (some d) undef) w → Q (.panic c) a w) {w : World} (hS : S w) :
    ∀ (js : List (Nat × Tmp)) (listed : Array Bool) (a : Act) (F : Nat), F = fuel + js.length → passB md ops js listed a = true →
      wpAnyH P md ops Q S fuel (passL js listed) (passA js a) w → wpAnyH P md ops Q S F listed a w
  | [], listed, a, F, hF, _, h => by subst hF; exact h
  | i :: r, listed, a, F, hF, hb, h => by
    unfold passB at hb
    rw [Bool.and_eq_true, Bool.and_eq_true, Bool.and_eq_true] at hb
    obtain ⟨h1, h2, h3, h4⟩ := hb
    cases ho : ops[i.1]? with
    | none => rw [ho] at h1; cases h1
    | some o =>
      rw [ho] at h1
      dsimp only at h1
      cases hd : o.dst with
      | none => rw [hd] at h1; cases h1
      | some d =>
        rw [hd] at h1
        dsimp only at h1
        rw [Bool.and_eq_true, Bool.not_eq_true'] at h1
        obtain ⟨h5, h6⟩ := h1
        have hdi : o.dst = some i.2 := by rw [hd]; congr 1; exact eq_of_beq h5
        have ih := wpAnyH_pass fuel hs hQ hS r (listed.setIfInBounds i.1 true) (a.put (some i.2) undef) (fuel + r.length) rfl h4 h
        subst hF
        refine wpAnyH_take (v := undef) ho hs h2 h3 (fun c a' w' => by rw [hdi]; exact hQ c a' _ w') (Or.inr ⟨h6, rfl⟩) hS ?_
        rw [hdi]
        exact ih
end Go.Proofs.YtpmmbbkomikceaaDoor
