/- The document's own arena: FreeAll. -/
import Derived.Test.YtomcpjgklecopaaArenaRef3
set_option linter.unusedVariables false
namespace Go.Proofs.Ytomcpjgklecopaa
open Go Go.RowKit

/-- One handle freed: what is free, what is taken. -/
def freeStep (s : List H2 × List H2) (h : H2) : List H2 × List H2 := ((h.1, h.2 + 1) :: s.1, s.2.filter (fun z => !(decide (z = h))))
def freeR (fr tk hs : List H2) : List H2 × List H2 := hs.foldl freeStep (fr, tk)
theorem freeR_succ (fr tk hs : List H2) (k : Nat) (h : k < hs.length) : freeR fr tk (hs.take (k + 1)) = freeStep (freeR fr tk (hs.take k)) (hs.getD k H2.no) := by
  unfold freeR
  rw [List.take_succ_eq_append_getElem h, List.foldl_append]
  simp [List.getD_eq_getElem?_getD, List.getElem?_eq_getElem h]
theorem freeR_len (fr tk : List H2) : ∀ (hs : List H2), (freeR fr tk hs).1.length = fr.length + hs.length ∧ (freeR fr tk hs).2.length ≤ tk.length := by
  intro hs
  have key : ∀ (hs : List H2) (s : List H2 × List H2), (hs.foldl freeStep s).1.length = s.1.length + hs.length ∧ (hs.foldl freeStep s).2.length ≤ s.2.length := by
    intro hs
    induction hs with
    | nil => intro s; exact ⟨rfl, Nat.le_refl _⟩
    | cons h r ih =>
      intro s
      rw [List.foldl_cons]
      obtain ⟨h1, h2⟩ := ih (freeStep s h)
      refine ⟨?_, Nat.le_trans h2 (List.length_filter_le _ _)⟩
      rw [h1]
      show (s.1.length + 1) + r.length = s.1.length + (r.length + 1)
      omega
  exact key hs (fr, tk)
/-- Each is live, none stands twice. -/
def goodF (tk hs : List H2) : Prop := hs.Nodup ∧ ∀ h ∈ hs, h ∈ tk
theorem goodF_nil (tk : List H2) : goodF tk [] := ⟨List.nodup_nil, fun _ h => by cases h⟩
theorem mem_getD {hs : List H2} {k : Nat} (h : k < hs.length) : hs.getD k H2.no ∈ hs := by rw [List.getD_eq_getElem?_getD, List.getElem?_eq_getElem h]; exact List.getElem_mem h
theorem goodF_bad {tk hs : List H2} {k : Nat} (hk : k < hs.length) (h : hs.getD k H2.no ∉ tk) : ¬ goodF tk hs := fun g => h (g.2 _ (mem_getD hk))
theorem goodF_twice {tk hs : List H2} {k j : Nat} (hk : k < hs.length) (hj : j < k) (h : hs.getD j H2.no = hs.getD k H2.no) : ¬ goodF tk hs := fun g => by
  have h1 := List.pairwise_iff_getElem.1 g.1 j k (by omega) hk hj
  rw [List.getD_eq_getElem?_getD, List.getD_eq_getElem?_getD, List.getElem?_eq_getElem hk, List.getElem?_eq_getElem (by omega)] at h
  exact h1 h
theorem goodF_snoc {tk hs : List H2} {k : Nat} (hk : k < hs.length) (h : goodF tk (hs.take k)) (h1 : hs.getD k H2.no ∈ tk) (h2 : ∀ j, j < k → hs.getD j H2.no ≠ hs.getD k H2.no) : goodF tk (hs.take (k + 1)) := by
  have e : hs.take (k + 1) = hs.take k ++ [hs.getD k H2.no] := by
    rw [List.take_succ_eq_append_getElem hk, List.getD_eq_getElem?_getD, List.getElem?_eq_getElem hk]
    rfl
  rw [e]
  refine ⟨?_, fun z hz => ?_⟩
  · unfold List.Nodup
    rw [List.pairwise_append]
    refine ⟨h.1, List.pairwise_singleton _ _, fun a ha b hb => ?_⟩
    obtain rfl := List.mem_singleton.1 hb
    obtain ⟨j, hj, rfl⟩ := List.getElem_of_mem ha
    rw [List.length_take] at hj
    have := h2 j (by omega)
    rw [List.getD_eq_getElem?_getD, List.getElem?_eq_getElem (by omega : j < hs.length)] at this
    rw [List.getElem_take]
    exact this
  · rcases List.mem_append.1 hz with hz | hz
    · exact h.2 z hz
    · obtain rfl := List.mem_singleton.1 hz
      exact h1
/-- The memory behind one handle freed. -/
theorem free_end {wk wj w4 : World} {B N : Nat} {vF vT vL v4 : Value} {fr tk tk' : List H2} {z : H2} (HA : RefA wk B N vF vT fr tk) (hb : Below wk.heap.size wk wj) (rL : HRow wj wk.heap.size vL tk'.length tk')
    (r4 : HRow w4 wj.heap.size v4 (z :: fr).length (z :: fr)) (g4 : ((wj.setCell { block := N, off := 1 } vL).drew.alloc (.cells #[.int .i64 z.1, .int .i64 z.2] 34)).grownBy w4 (some wj.heap.size)) :
    RefA (w4.setCell { block := N, off := 0 } v4) B N v4 vL (z :: fr) tk' ∧ Only (fun k => k = N) wk (w4.setCell { block := N, off := 0 } v4) ∧ (∀ k, footA N v4 vL k → k = N ∨ wk.heap.size ≤ k) := by
  have hN := HA.lt
  have s1 := hb.size
  have o2 : Only (fun k => k = N) wj (wj.setCell { block := N, off := 1 } vL) := Only.setCell (S := fun k => k = N) (p := { block := N, off := 1 }) (Only.refl _ wj) (.inl rfl) vL
  have o3 := (o2.drew).alloc (.cells #[.int .i64 z.1, .int .i64 z.2] 34)
  have hsz : ((wj.setCell { block := N, off := 1 } vL).drew.alloc (.cells #[.int .i64 z.1, .int .i64 z.2] 34)).heap.size = wj.heap.size + 1 := by simp [World.setCell, World.drew]
  have o4 : Only (fun k => k = N) wj w4 := o3.grown g4 (fun k hk => .inr (by injection hk with hk; omega))
  have o5 : Only (fun k => k = N) wj (w4.setCell { block := N, off := 0 } v4) := Only.setCell (p := { block := N, off := 0 }) o4 (.inl rfl) v4
  have o05 : Only (fun k => k = N) wk (w4.setCell { block := N, off := 0 } v4) := (Only.mono (S := NoB) (Below.only hb) (fun x hx => hx.elim)).trans o5 (fun x hx => .inl hx)
  have nL : ∀ g, vL.ownBlock = some g → wk.heap.size ≤ g ∧ g < wj.heap.size := rL.lt
  have n4 : ∀ g, v4.ownBlock = some g → wj.heap.size ≤ g := fun g hg => (r4.lt g hg).1
  refine ⟨⟨?_, HA.hB, ?_, ?_, fun e => by have := n4 N e; omega, fun e => by have := nL N e; omega, fun g h1 h2 => by have := n4 g h1; have := nL g h2; omega⟩, o05, fun k hk => ?_⟩
  · have h1 : wj.heap[N]? = some (.cells #[vF, vT] 47 (0, 0)) := (hb.block N hN).trans HA.cell
    have h2 := heap_setCell_same wj N 1 _ _ vL h1
    have h3 : ((wj.setCell { block := N, off := 1 } vL).drew.alloc (.cells #[.int .i64 z.1, .int .i64 z.2] 34)).heap[N]? = some (.cells #[vF, vL] 47 (0, 0)) :=
      (Below.heap_alloc _ _ _ (by simp [World.setCell, World.drew]; omega)).trans h2
    have h4 := (g4.block N (by rw [hsz]; omega) (fun e => by injection e with e; omega)).trans h3
    exact heap_setCell_same w4 N 0 _ _ v4 h4
  · exact (r4.only (Only.setCell (S := fun k => k = N) (p := { block := N, off := 0 }) (Only.refl _ w4) (.inl rfl) v4) (fun g hg e => by have := n4 g hg; omega)).mono (Nat.le_trans HA.hB (by omega))
  · exact (rL.only o5 (fun g hg e => by have := nL g hg; omega)).mono (Nat.le_trans HA.hB (by omega))
  · rcases hk with h | h | h
    · exact .inl h
    · have := n4 k h; exact .inr (by omega)
    · exact .inr (nL k h).1
end Go.Proofs.Ytomcpjgklecopaa
