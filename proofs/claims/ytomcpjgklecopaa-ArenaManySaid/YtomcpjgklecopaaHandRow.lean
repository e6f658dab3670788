/- Rows of handles of the call's own: read, appended to. -/
import Derived.Test.YtomcpjgklecopaaHand
import Derived.Deep.AppendLies
import Derived.Tactics
set_option linter.unusedVariables false
namespace Go.Proofs.Ytomcpjgklecopaa
open Go Go.RowKit

theorem info_hand : (Try.prog.info? 34).map (fun i => (i.zero, i.size, i.bytes)) = some (some (.agg #[.int .i64 0, .int .i64 0]), 2, 16) := by kernel_rfl
theorem info_partsH {P : Program} {t : TypeId} {z : Value} {a b : Nat} (h : (P.info? t).map (fun i => (i.zero, i.size, i.bytes)) = some (some z, a, b)) : ∃ i, P.info? t = some i ∧ i.zero = some z ∧ i.size = a ∧ i.bytes = b := by
  cases hi : P.info? t with
  | none => rw [hi] at h; cases h
  | some i =>
    rw [hi] at h
    simp only [Option.map_some, Option.some.injEq, Prod.mk.injEq] at h
    exact ⟨i, rfl, h.1, h.2.1, h.2.2⟩
def HRow (w : World) (B : Nat) (v : Value) (n : Nat) (zs : List H2) : Prop := w.ownsRow B 34 2 v n (zs.flatMap cellsH)
theorem cellsH_len (zs : List H2) : (zs.flatMap cellsH).length = zs.length * 2 := by
  induction zs with
  | nil => rfl
  | cons z r ih => rw [List.flatMap_cons, List.length_append, ih, List.length_cons]; show 2 + _ = _; omega
theorem cellsH_at : ∀ (zs : List H2) (k : Nat), k < zs.length → (zs.flatMap cellsH)[k * 2]? = some (.int .i64 (zs.getD k H2.no).1) ∧ (zs.flatMap cellsH)[k * 2 + 1]? = some (.int .i64 (zs.getD k H2.no).2)
  | [], k, h => by simp at h
  | z :: r, 0, _ => ⟨rfl, rfl⟩
  | z :: r, k + 1, h => by
    have ih := cellsH_at r k (by simpa using h)
    rw [List.flatMap_cons, show (k + 1) * 2 = k * 2 + 2 from by omega]
    exact ih
theorem cellsH_back : ∀ (zs : List H2) (j : Nat) (u : Value), (zs.flatMap cellsH)[j]? = some u → ∃ k, k < zs.length ∧ ((j = k * 2 ∧ u = .int .i64 (zs.getD k H2.no).1) ∨ (j = k * 2 + 1 ∧ u = .int .i64 (zs.getD k H2.no).2)) := by
  intro zs j u h
  have hj : j < zs.length * 2 := by rw [← cellsH_len]; exact (List.getElem?_eq_some_iff.1 h).1
  obtain ⟨c0, c1⟩ := cellsH_at zs (j / 2) (by omega)
  refine ⟨j / 2, by omega, ?_⟩
  rcases Nat.mod_two_eq_zero_or_one j with hm | hm
  · have e : j = j / 2 * 2 := by omega
    rw [← e, h] at c0
    exact .inl ⟨e, Option.some.inj c0⟩
  · have e : j = j / 2 * 2 + 1 := by omega
    rw [← e, h] at c1
    exact .inr ⟨e, Option.some.inj c1⟩
theorem cellsH_one (zs : List H2) : ∀ u ∈ zs.flatMap cellsH, u.oneCell' = true := by
  intro u hu
  obtain ⟨z, _, hz⟩ := List.mem_flatMap.1 hu
  simp only [cellsH, List.mem_cons, List.not_mem_nil, or_false] at hz
  rcases hz with rfl | rfl <;> rfl
theorem HRow.nil (w : World) (B : Nat) : HRow w B (.slice none 0 0) 0 [] := World.ownsRow_nil _ _ _ _
theorem HRow.len {w : World} {B n : Nat} {v : Value} {zs : List H2} (h : HRow w B v n zs) : zs.length = n := by
  have := h.1
  rw [cellsH_len] at this
  omega
theorem HRow.rd {w : World} {B n : Nat} {v : Value} {zs : List H2} (h : HRow w B v n zs) : ∃ A c, v = .slice A n c ∧ zs.length ≤ c ∧ RdH w A zs ∧ (∀ ad, A = some ad → v.ownBlock = some ad.block ∧ B ≤ ad.block ∧ ad.block < w.heap.size) ∧ (A = none → zs = [] ∧ c = 0) := by
  have hl := h.len
  rcases h.2 with ⟨hv, h0⟩ | ⟨g, cap, cur, hv, h2, h3, h4, _⟩
  · obtain rfl : zs = [] := List.length_eq_zero_iff.1 (by omega)
    exact ⟨none, 0, by rw [hv, h0], Nat.zero_le _, fun k hk => by simp at hk, (fun _ e => by cases e), fun _ => ⟨rfl, rfl⟩⟩
  · subst hv
    have hlt := World.ownsRow.lt h g rfl
    refine ⟨_, cap, rfl, by omega, fun k hk => ?_, fun ad e => ?_, fun e => by cases e⟩
    · obtain ⟨c0, c1⟩ := cellsH_at zs k hk
      exact ⟨⟨g, 0, none⟩, rfl, hlt.2, World.ownsRow.cells h rfl _ _ c0, World.ownsRow.cells h rfl _ _ c1⟩
    · obtain rfl : (⟨g, 0, none⟩ : Addr) = ad := by injection e
      exact ⟨rfl, hlt.1, hlt.2⟩
theorem HRow.only {w w' : World} {S : Nat → Prop} {B n : Nat} {v : Value} {zs : List H2} (h : HRow w B v n zs) (ho : Only S w w') (hv : ∀ g, v.ownBlock = some g → ¬ S g) : HRow w' B v n zs := ownsRow_only h ho hv
theorem HRow.lt {w : World} {B n : Nat} {v : Value} {zs : List H2} (h : HRow w B v n zs) : ∀ g, v.ownBlock = some g → B ≤ g ∧ g < w.heap.size := World.ownsRow.lt h
theorem HRow.mono {w : World} {B B' n : Nat} {v : Value} {zs : List H2} (h : HRow w B v n zs) (hb : B' ≤ B) : HRow w B' v n zs := by
  rcases h.2 with hv | ⟨g', cap, cur, hv, hBg, hrest⟩
  · exact ⟨h.1, .inl hv⟩
  · exact ⟨h.1, .inr ⟨g', cap, cur, hv, Nat.le_trans hb hBg, hrest⟩⟩
theorem RdH.news {w : World} {x : Addr} {zs : List H2} (h : RdH w (some x) zs) : ∀ j u, (zs.flatMap cellsH)[j]? = some u → w.cell? (x.add j) = some u := by
  intro j u hj
  obtain ⟨k, hk, hc⟩ := cellsH_back zs j u hj
  obtain ⟨ad, e, _, h0, h1⟩ := h k hk
  obtain rfl : x = ad := by injection e
  rcases hc with ⟨rfl, rfl⟩ | ⟨rfl, rfl⟩
  · exact h0
  · exact h1
theorem RdH.none_nil {w : World} {zs : List H2} (h : RdH w none zs) : zs = [] := by
  cases zs with
  | nil => rfl
  | cons b r =>
    obtain ⟨ad, e, _⟩ := h 0 (by simp)
    cases e
theorem RdH.take {w : World} {A : Option Addr} {zs : List H2} (h : RdH w A zs) (m : Nat) : RdH w A (zs.take m) := by
  intro k hk
  rw [List.length_take] at hk
  obtain ⟨ad, e, hb, h0, h1⟩ := h k (by omega)
  have eg : (zs.take m).getD k H2.no = zs.getD k H2.no := by rw [List.getD_eq_getElem?_getD, List.getD_eq_getElem?_getD, List.getElem?_take, if_pos (by omega)]
  exact ⟨ad, e, hb, by rw [eg]; exact h0, by rw [eg]; exact h1⟩
theorem RdH.drop {w : World} {ad : Addr} {zs : List H2} (h : RdH w (some ad) zs) (m : Nat) : RdH w (some (ad.add (m * 2))) (zs.drop m) := by
  intro k hk
  rw [List.length_drop] at hk
  obtain ⟨ae, e, hb, h0, h1⟩ := h (m + k) (by omega)
  obtain rfl : ad = ae := by injection e
  have eg : (zs.drop m).getD k H2.no = zs.getD (m + k) H2.no := by rw [List.getD_eq_getElem?_getD, List.getD_eq_getElem?_getD, List.getElem?_drop]
  refine ⟨_, rfl, by rw [add_block]; exact hb, ?_, ?_⟩
  · rw [Go.Deep.add_add, eg, show m * 2 + k * 2 = (m + k) * 2 from by omega]; exact h0
  · rw [Go.Deep.add_add, eg, show m * 2 + (k * 2 + 1) = (m + k) * 2 + 1 from by omega]; exact h1
theorem RdH.nothing {w : World} (A : Option Addr) : RdH w A [] := fun k hk => by simp at hk
set_option maxRecDepth 100000 in
theorem append_zeroH {w : World} {B n : Nat} {v : Value} {zs : List H2} (h : HRow w B v n zs) (A : Option Addr) (c : Nat) (ty : TypeId) :
    (Builtin.append_ #[30, 30] ty #[v, .slice A 0 c]).run Try.prog w = .ok v w := by
  obtain ⟨i0, hi, hz0, hz1, hz2⟩ := info_partsH info_hand
  rcases h.2 with ⟨rfl, rfl⟩ | ⟨g, cap, cur, rfl, _, _, hnc, _⟩
  · cases A <;> simp [Builtin.append_, run_underlying Try.underlying30, sizeOf, typeInfo, hi, Builtin.lenOf, Builtin.firstCells, loadCells, loadCellsFrom]
  · cases A <;> simp [Builtin.append_, run_underlying Try.underlying30, sizeOf, typeInfo, hi, Builtin.lenOf, Builtin.firstCells, hnc, loadCells, loadCellsFrom, storeCells]
/-- Handles appended to a row of the call's own, wherever they lie. -/
theorem wp_append_hands {w : World} {o : Oper} {a : Act} {K : Act → World → Prop} {Q : Exit → Act → World → Prop} (s x : Operand)
    (ho : o.op = .call { callee := .builtin .append, args := #[s, x], argTypes := #[30, 30] }) (base : Nat) (v : Value) (n : Nat) (L : List H2) (hs : a.eval s = v) (hown : HRow w base v n L)
    (A : Option Addr) (m c : Nat) (zs : List H2) (hx : a.eval x = .slice A m c) (hm : zs.length = m) (hrd : RdH w A zs) (hn : n + zs.length ≤ 1000000) (hbase : base ≤ w.heap.size) (H : Nat) (hH : w.heap.size = H)
    (h : ∀ v' w', HRow w' base v' (n + m) (L ++ zs) → w.grownBy w' v.ownBlock → (∀ g, v'.ownBlock = some g → v.ownBlock = some g ∨ g = H) → K (a.put o.dst v') w') : o.wp Try.prog a w K Q := by
  obtain ⟨i0, hi, hz0, hz1, hz2⟩ := info_partsH info_hand
  subst hm
  have zero : zs = [] → o.wp Try.prog a w K Q := fun hz => by
    subst hz
    have hk := h v w (by simpa using hown) ⟨rfl, rfl, rfl, Nat.le_refl _, fun _ _ _ => rfl⟩ (fun g hg => .inl hg)
    unfold Oper.wp
    simp only [List.length_nil] at hx
    have hty : ∀ ty, (Builtin.append_ #[30, 30] ty #[v, .slice A 0 c]).run Try.prog w = .ok v w := fun ty => append_zeroH hown A c ty
    simp [execOp, ho, resolve, invoke, builtin, hs, hx, hty, Result.andThen]
    exact hk
  cases A with
  | none => exact zero hrd.none_nil
  | some ad =>
    by_cases hz : zs = []
    · exact zero hz
    · have hpos : 0 < zs.length := List.length_pos_iff.2 hz
      refine wp_append_lies _ s x 30 ho base 34 i0 _ 2 16 Try.underlying30 hi hz0 hz1 hz2 rfl (by decide) v n (L.flatMap cellsH) hs hown ad zs.length c (zs.flatMap cellsH) hx (cellsH_len zs) hrd.news (cellsH_one _) hpos (by unfold maxLen; omega) (by omega) hbase H hH ?_
      intro g cap w' hown' hgrow hlies _
      refine h _ w' ?_ hgrow (fun g' hg' => ?_)
      · unfold HRow
        rw [List.flatMap_append]
        exact hown'
      · obtain rfl : g = g' := by simpa [Value.ownBlock] using hg'
        exact hlies
theorem wpList_append_hands {w : World} {ops : Array Oper} {rest : List Oper} {o : Oper} {a : Act} {Q : Exit → Act → World → Prop} (hgd : o.guard = none) (s x : Operand)
    (ho : o.op = .call { callee := .builtin .append, args := #[s, x], argTypes := #[30, 30] }) (base : Nat) (v : Value) (n : Nat) (L : List H2) (hs : a.eval s = v) (hown : HRow w base v n L)
    (A : Option Addr) (m c : Nat) (zs : List H2) (hx : a.eval x = .slice A m c) (hm : zs.length = m) (hrd : RdH w A zs) (hn : n + zs.length ≤ 1000000) (hbase : base ≤ w.heap.size) (H : Nat) (hH : w.heap.size = H)
    (h : ∀ v' w', HRow w' base v' (n + m) (L ++ zs) → w.grownBy w' v.ownBlock → (∀ g, v'.ownBlock = some g → v.ownBlock = some g ∨ g = H) → wpList Try.prog ops Q rest (a.put o.dst v') w') : wpList Try.prog ops Q (o :: rest) a w :=
  wpList_plain hgd fun K hK => wp_append_hands s x ho base v n L hs hown A m c zs hx hm hrd hn hbase H hH (fun v' w' h1 h2 h3 => hK _ _ (h v' w' h1 h2 h3))
/-- One handle in a literal of the call's own. -/
theorem litH (w : World) (a b : Int) : HRow (w.alloc (.cells #[.int .i64 a, .int .i64 b] 34)) w.heap.size (.slice (some ⟨w.heap.size, 0, none⟩) 1 1) 1 [(a, b)] :=
  World.ownsRow_lit (base := w.heap.size) (e := 34) (size := 2) w #[.int .i64 a, .int .i64 b] 1 (Nat.le_refl _) (by decide) rfl
end Go.Proofs.Ytomcpjgklecopaa
