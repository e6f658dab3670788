/- Rows of words that a law puts together, and the greatest stamp of them. -/
import Derived.Test.YtphbckddcckgdaaWordLaws
import Derived.Laws.AppendOwn
import Derived.Tactics
set_option linter.unusedVariables false
namespace Go.Proofs.Ytphbckddcckgdaa
open Go Go.RowKit

theorem info_word : (Try.prog.info? 24).map (fun i => (i.zero, i.size, i.bytes)) = some (some (.int .u64 0), 1, 8) := by kernel_rfl
theorem info_partsN {P : Program} {t : TypeId} {z : Value} {a b : Nat} (h : (P.info? t).map (fun i => (i.zero, i.size, i.bytes)) = some (some z, a, b)) : ∃ i, P.info? t = some i ∧ i.zero = some z ∧ i.size = a ∧ i.bytes = b := by
  cases hi : P.info? t with
  | none => rw [hi] at h; cases h
  | some i =>
    rw [hi] at h
    simp only [Option.map_some, Option.some.injEq, Prod.mk.injEq] at h
    exact ⟨i, rfl, h.1, h.2.1, h.2.2⟩
/-- A row of words that the call owns. -/
def WRow (w : World) (B : Nat) (v : Value) (n : Nat) (zs : List Int) : Prop := w.ownsRow B 24 1 v n (zs.map (Value.int .u64))
theorem litU (w : World) : WRow (w.alloc (.cells #[] 24)) w.heap.size (.slice (some ⟨w.heap.size, 0, none⟩) 0 0) 0 [] :=
  World.ownsRow_lit (base := w.heap.size) (e := 24) (size := 1) w #[] 0 (Nat.le_refl _) (by decide) rfl
theorem WRow.rd {w : World} {B : Nat} {v : Value} {zs : List Int} (h : WRow w B v zs.length zs) : ∃ A c, v = .slice A zs.length c ∧ RdU w A zs ∧ zs.length ≤ c := by
  rcases h.2 with ⟨hv, h0⟩ | ⟨g, cap, cur, hv, h2, h3, h4, _⟩
  · refine ⟨none, 0, by rw [hv, h0], fun k hk => absurd hk (by omega), by omega⟩
  · subst hv
    refine ⟨_, cap, rfl, fun k hk => ⟨⟨g, 0, none⟩, rfl, ?_, ?_⟩, h4⟩
    · exact (World.ownsRow.lt h g rfl).2
    · exact World.ownsRow.cells h rfl k _ (by rw [List.getElem?_map, List.getElem?_eq_getElem hk]; simp [List.getD_eq_getElem?_getD, List.getElem?_eq_getElem hk])
theorem RdU.news {w : World} {x : Addr} {zs : List Int} (h : RdU w (some x) zs) : ∀ j u, (zs.map (Value.int .u64))[j]? = some u → w.cell? (x.add j) = some u := by
  intro j u hj
  rw [List.getElem?_map] at hj
  obtain ⟨b, hb, rfl⟩ := Option.map_eq_some_iff.1 hj
  have hlt := (List.getElem?_eq_some_iff.1 hb).1
  obtain ⟨ad, e, _, hc⟩ := h j hlt
  obtain rfl : x = ad := by injection e
  rw [hc]
  simp [List.getD_eq_getElem?_getD, hb]
theorem RdU.none_nil {w : World} {zs : List Int} (h : RdU w none zs) : zs = [] := by
  cases zs with
  | nil => rfl
  | cons b r =>
    obtain ⟨ad, e, _⟩ := h 0 (by simp)
    cases e
theorem word_one (zs : List Int) : ∀ u ∈ zs.map (Value.int .u64), u.oneCell' = true := by
  intro u hu
  obtain ⟨x, _, rfl⟩ := List.mem_map.1 hu
  rfl
set_option maxRecDepth 100000 in
theorem append_nilU {w : World} {B n : Nat} {v : Value} {zs : List Int} (h : WRow w B v n zs) (c : Nat) (ty : TypeId) :
    (Builtin.append_ #[41, 41] ty #[v, .slice none 0 c]).run Try.prog w = .ok v w := by
  obtain ⟨i0, hi, hz0, hz1, hz2⟩ := info_partsN info_word
  rcases h.2 with ⟨rfl, rfl⟩ | ⟨g, cap, cur, rfl, _, _, hnc, _⟩
  · simp [Builtin.append_, run_underlying Try.underlying41, sizeOf, typeInfo, hi, Builtin.lenOf, Builtin.firstCells]
  · simp [Builtin.append_, run_underlying Try.underlying41, sizeOf, typeInfo, hi, Builtin.lenOf, Builtin.firstCells, hnc, storeCells]
/-- Words appended to a row of the call's own, wherever they lie. -/
theorem wpList_append_words {w : World} {ops : Array Oper} {rest : List Oper} {o : Oper} {a : Act} {Q : Exit → Act → World → Prop} (hgd : o.guard = none) (s x : Operand)
    (ho : o.op = .call { callee := .builtin .append, args := #[s, x], argTypes := #[41, 41] }) (base : Nat) (v : Value) (n : Nat) (L : List Int) (hs : a.eval s = v) (hown : WRow w base v n L)
    (A : Option Addr) (c : Nat) (zs : List Int) (hx : a.eval x = .slice A zs.length c) (hrd : RdU w A zs) (hn : n + zs.length ≤ 1000000) (hbase : base ≤ w.heap.size)
    (h : ∀ v' w', WRow w' base v' (n + zs.length) (L ++ zs) → Below base w w' → wpList Try.prog ops Q rest (a.put o.dst v') w') : wpList Try.prog ops Q (o :: rest) a w := by
  obtain ⟨i0, hi, hz0, hz1, hz2⟩ := info_partsN info_word
  cases A with
  | none =>
    obtain rfl : zs = [] := hrd.none_nil
    refine wpList_plain hgd fun K hK => ?_
    have hk := h v w (by simpa using hown) (Below.refl _ _)
    unfold Oper.wp
    simp only [List.length_nil] at hx
    have hty : ∀ ty, (Builtin.append_ #[41, 41] ty #[v, .slice none 0 c]).run Try.prog w = .ok v w := fun ty => append_nilU hown c ty
    simp [execOp, ho, resolve, invoke, builtin, hs, hx, hty, Result.andThen]
    exact hK _ _ hk
  | some ad =>
    refine wpList_append_own _ hgd s x 41 ho base 24 i0 (.int .u64 0) 1 8 Try.underlying41 hi hz0 hz1 hz2 rfl (by decide) v n (L.map (Value.int .u64)) hs hown ad zs.length c (zs.map (Value.int .u64)) hx (by rw [List.length_map, Nat.mul_one]) hrd.news (word_one _) (by unfold maxLen; omega) (by omega) hbase ?_
    intro v' w' hown' hgrow _
    refine h v' w' ?_ ((Below.refl base w).grown hgrow hbase (fun k' hk' => (World.ownsRow.lt hown k' hk').1))
    unfold WRow
    rw [List.map_append]
    exact hown'
theorem most_append (a b : List Int) : mostW (a ++ b) = max (mostW a) (mostW b) := by
  have key : ∀ (b : List Int) (m : Int), 0 ≤ m → b.foldl (fun m x => max m (stampW x)) m = max m (mostW b) := by
    intro b
    induction b with
    | nil => intro m hm; unfold mostW; simp; omega
    | cons z r ih =>
      intro m hm
      rw [List.foldl_cons, ih _ (by omega)]
      have e : mostW (z :: r) = max (max 0 (stampW z)) (mostW r) := by
        unfold mostW
        rw [List.foldl_cons]
        exact ih _ (by omega)
      rw [e]
      omega
  unfold mostW
  rw [List.foldl_append]
  exact key b _ (most_nonneg a)
theorem stamp_most {zs : List Int} (h : Words zs) : stampW (mostW zs) = mostW zs := by
  have := most_in h
  unfold stampW
  omega
theorem rdU_one (w : World) (x : Int) : RdU (w.alloc (.cells #[.int .u64 x] 24)) (some ⟨w.heap.size, 0, none⟩) [x] := by
  intro k hk
  obtain rfl : k = 0 := by simpa using hk
  exact ⟨_, rfl, by simp, by simp [Addr.add, World.cell?_alloc_mark]⟩
theorem rdU_two (w : World) (x y : Int) : RdU (w.alloc (.cells #[.int .u64 x, .int .u64 y] 24)) (some ⟨w.heap.size, 0, none⟩) [x, y] := by
  intro k hk
  rcases k with _ | _ | k
  · exact ⟨_, rfl, by simp, by simp [Addr.add, World.cell?_alloc_mark]⟩
  · exact ⟨_, rfl, by simp, by simp [Addr.add, World.cell?_alloc_mark]⟩
  · simp at hk; omega
theorem words_one {x : Int} (h : U64 x) : Words [x] := fun k hk => by
  obtain rfl : k = 0 := by simpa using hk
  exact h
theorem words_two {x y : Int} (h : U64 x) (g : U64 y) : Words [x, y] := fun k hk => by
  rcases k with _ | _ | k
  · exact h
  · exact g
  · simp at hk; omega
theorem words_append {a b : List Int} (h : Words a) (g : Words b) : Words (a ++ b) := fun k hk => by
  rw [List.length_append] at hk
  rw [List.getD_eq_getElem?_getD]
  by_cases hl : k < a.length
  · rw [List.getElem?_append_left hl, ← List.getD_eq_getElem?_getD]; exact h k hl
  · rw [List.getElem?_append_right (by omega), ← List.getD_eq_getElem?_getD]; exact g _ (by omega)
end Go.Proofs.Ytphbckddcckgdaa
