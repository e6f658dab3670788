/- 'for k, v := range m' over a map in a block whose keys are ints (MapK): which keys are still to come. -/
import Derived.Test.YtcklafaoijodbaaMapK
import Derived.Maps.RangeWalk
set_option linter.unusedVariables false
namespace Go.Proofs.Ytcklafaoijodbaa
open Go Go.RowKit
open Go.Maps (Keyed)

/-- The loop under way: left: the keys still to come. -/
def RangeK (P : Program) (kt : TypeId) (w : World) (b r n : Nat) (g : Int → Option Value) (left : Int → Bool) (cnt : Nat) : Prop :=
  ∃ (D : DataW Value) (L : Lit → Bool), w.ranges P kt heldE b r n D L cnt ∧ (∀ x z, D.atKey (kInt x) z = match g x with | some v => .held v | none => z) ∧ ∀ x, L (kInt x) = left x
section
variable {P : Program} {kt : TypeId} {w : World} {b r n : Nat} {g : Int → Option Value} {left : Int → Bool} {cnt sz : Nat}
theorem RangeK.left_eq (h : RangeK P kt w b r n g left cnt) : w.rangeLeft b r = cnt := by obtain ⟨D, L, h, _⟩ := h; exact h.left_eq
theorem RangeK.only {S : Nat → Prop} {w' : World} (h : RangeK P kt w b r n g left cnt) (ho : Only S w w') (hb : ¬ S b) (hr : ¬ S r) : RangeK P kt w' b r n g left cnt := by
  obtain ⟨D, L, h, h2⟩ := h
  have hbl := h.owns.lt
  have hrl := h.lt
  obtain ⟨es, clock, since, seen, c0, e1, F, hs, hD, e2, rest⟩ := h
  exact ⟨D, L, ⟨es, clock, since, seen, c0, (ho.block b hbl hb).trans e1, F, hs, hD, (ho.block r hrl hr).trans e2, rest⟩, h2⟩
variable {ops : Array Oper} {rest : List Oper} {o : Oper} {a : Act} {Q : Exit → Act → World → Prop}
/-- 'range m'. -/
theorem wpList_rangeK (hg : o.guard = none) (m : Operand) (t : TypeId) (hop : o.op = Op.range t m) {e : TypeId} (h : MapK P kt kInt w b n g sz) (K : Keyed P kt) (ht : P.underlying t = some (.map kt e)) (hm : a.eval m = .map (some b))
    (hK : ∀ w', RangeK P kt w' b w.heap.size n g (fun x => (g x).isSome) sz → Only NoB w w' → w'.heap.size = w.heap.size + 1 → wpList P ops Q rest (a.put o.dst (.pointer (some ⟨w.heap.size, 0, none⟩))) w') :
    wpList P ops Q (o :: rest) a w := by
  obtain ⟨D, hown, hat, hsz⟩ := h
  refine wpList_range_own w hg m t hop kt e K ht heldE b n D hm hown ?_
  intro w' r1 r2 r3
  rw [hsz] at r1
  exact hK w' ⟨D, _, r1, hat, fun x => MapK.has hat x⟩ ((Only.refl NoB w).grown r2 (fun k hk => by cases hk)) r3
/-- The step. -/
theorem wpList_nextK (hg : o.guard = none) (it : Operand) (hop : o.op = Op.next it false) (K : Keyed P kt) (hk : P.underlying kt = some (.int .i64)) (hit : a.eval it = .pointer (some ⟨r, 0, none⟩)) (h : RangeK P kt w b r n g left cnt)
    (hDone : (∀ x, left x = false) → wpList P ops Q rest (a.put o.dst (.tuple #[.bool false])) w)
    (hMore : ∀ (x : Int) (v : Value) (w' : World) (cnt' : Nat), left x = true → g x = some v → RangeK P kt w' b r n g (fun y => left y && !decide (y = x)) cnt' → cnt' < cnt → Only (fun k => k = r) w w' → w'.heap.size = w.heap.size →
      (Instr.entry (.pointer (some ⟨r, 0, none⟩))).run P w' = .ok (.tuple #[.int .i64 x, v]) w' → wpList P ops Q rest (a.put o.dst (.tuple #[.bool true, .int .i64 x, v])) w') :
    wpList P ops Q (o :: rest) a w := by
  obtain ⟨D, L, h, hat, hL⟩ := h
  refine wpList_next_ranges (α := Int) (β := Value) w hg it hop kt K heldE (Value.int .i64) id (fun key kl hkey => by obtain ⟨x, rfl, _⟩ := Maps.keyOf_int_inv hk hkey; exact ⟨x, rfl⟩) (fun v y hv => ⟨v, rfl⟩) b r n D L cnt hit h ?_ ?_
  · intro _ hl
    exact hDone (fun x => (hL x).symm.trans (hl _))
  · intro x v kl y w' cnt' hkey hlk hv hat2 hrg hlt hgr hsz hen
    obtain ⟨x', ex, rfl, _⟩ := Maps.keyOf_int_inv hk hkey
    cases ex
    have hv2 : y = (.held v, []) := by injection hv with e; exact e.symm
    subst hv2
    have hgx : g x = some v := by
      cases hgx : g x with
      | none =>
        have h1 := hat x (.map [])
        rw [hgx] at h1
        have h2 := hat2 (.map [])
        have h3 : (DataW.held v : DataW Value) = .map [] := h2.symm.trans h1
        cases h3
      | some u =>
        have h1 := hat x (.map [])
        rw [hgx] at h1
        have h2 := hat2 (.map [])
        have h3 : (DataW.held v : DataW Value) = .held u := h2.symm.trans h1
        injection h3 with h3
        rw [h3]
    refine hMore x v w' cnt' ((hL x).symm.trans hlk) hgx ⟨D, _, hrg, hat, fun y => ?_⟩ hlt ((Only.refl (fun k => k = r) w).grown hgr (fun k hk => by injection hk with hk; exact .inl hk.symm)) hsz hen
    show (L (kInt y) && !(kInt y).sameKey (.int .i64 x)) = _
    rw [hL y]
    simp [kInt, Lit.sameKey]
end
end Go.Proofs.Ytcklafaoijodbaa
