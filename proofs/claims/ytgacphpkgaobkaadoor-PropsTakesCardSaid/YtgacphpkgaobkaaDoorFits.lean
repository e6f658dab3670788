/- Patterns, as the program looks: for each beginning of the pattern whether the runes so far fit it. -/
import Derived.Test.YtgacphpkgaobkaaDoorSlice
import Derived.Laws.IdiomStrings
set_option linter.unusedVariables false
namespace Go.Proofs.YtgacphpkgaobkaaDoor
open Go Go.RowKit

/-- The first k + 1 of n answers. -/
def part (f : Nat → Bool) (n k : Nat) : List Bool := (List.range n).map (fun j => decide (j ≤ k) && f j)
theorem part_length (f : Nat → Bool) (n k : Nat) : (part f n k).length = n := by simp [part]
theorem part_at (f : Nat → Bool) (n k j : Nat) (hj : j < n) (hk : j ≤ k) : (part f n k).getD j false = f j := by
  unfold part
  rw [List.getD_eq_getElem?_getD, List.getElem?_map, List.getElem?_range hj]
  simp [hk]
theorem part_succ (f : Nat → Bool) (n k : Nat) : part f n (k + 1) = (part f n k).set (k + 1) (f (k + 1)) := by
  apply List.ext_getElem
  · simp [part_length]
  · intro j h1 h2
    rw [List.getElem_set]
    split
    · rename_i h; subst h; simp [part]
    · rename_i h
      simp only [part, List.getElem_map, List.getElem_range]
      have e : decide (j ≤ k + 1) = decide (j ≤ k) := by rw [decide_eq_decide]; omega
      rw [e]
theorem part_set0 (f : Nat → Bool) (n : Nat) : (List.replicate n false).set 0 (f 0) = part f n 0 := by
  apply List.ext_getElem
  · simp [part_length]
  · intro j h1 h2
    rw [List.getElem_set]
    split
    · rename_i h; subst h; simp [part]
    · rename_i h
      have e : decide (j ≤ 0) = false := by rw [decide_eq_false_iff_not]; omega
      simp only [part, List.getElem_map, List.getElem_range, e, List.getElem_replicate, Bool.false_and]
theorem part_zero (f : Nat → Bool) (n : Nat) (h : f 0 = false) : List.replicate n false = part f n 0 := by
  rw [← part_set0, h]
  apply List.ext_getElem
  · simp
  · intro j h1 h2
    rw [List.getElem_set]
    split <;> simp
theorem part_full (f : Nat → Bool) (n k : Nat) (h : n ≤ k + 1) : part f n k = (List.range n).map f := by
  unfold part
  apply List.map_congr_left
  intro j hj
  rw [List.mem_range] at hj
  have e : decide (j ≤ k) = true := decide_eq_true (by omega)
  rw [e, Bool.true_and]

/-- Which beginnings of the pattern the runes (the last ahead) fit. -/
def reachF (s ps : List Int) (j : Nat) : Bool := fitsL s (ps.take j).reverse
def reach (s ps : List Int) : List Bool := (List.range (ps.length + 1)).map (reachF s ps)
theorem reach_length (s ps : List Int) : (reach s ps).length = ps.length + 1 := by simp [reach]
theorem reach_at (s ps : List Int) (j : Nat) (h : j ≤ ps.length) : (reach s ps).getD j false = reachF s ps j := by
  unfold reach
  rw [List.getD_eq_getElem?_getD, List.getElem?_map, List.getElem?_range (by omega)]
  rfl
theorem take_rev (ps : List Int) (k : Nat) (h : k < ps.length) : (ps.take (k + 1)).reverse = ps.getD k 0 :: (ps.take k).reverse := by
  rw [List.take_succ_eq_append_getElem h]
  simp [List.getD_eq_getElem?_getD, List.getElem?_eq_getElem h]
theorem reach_nil_zero (ps : List Int) : reachF [] ps 0 = true := by simp [reachF, fitsL]
theorem reach_cons_zero (c : Int) (s ps : List Int) : reachF (c :: s) ps 0 = false := by simp [reachF, fitsL]
theorem reach_nil_succ (ps : List Int) (k : Nat) (h : k < ps.length) : reachF [] ps (k + 1) = (reachF [] ps k && (ps.getD k 0 == 42)) := by
  unfold reachF
  rw [take_rev ps k h]
  conv => lhs; unfold fitsL
  rw [Bool.and_comm]
theorem reach_star (c : Int) (s ps : List Int) (k : Nat) (h : k < ps.length) (h42 : ps.getD k 0 = 42) : reachF (c :: s) ps (k + 1) = (reachF (c :: s) ps k || reachF s ps (k + 1)) := by
  unfold reachF
  rw [take_rev ps k h]
  conv => lhs; unfold fitsL
  rw [if_pos h42]
theorem reach_one (c : Int) (s ps : List Int) (k : Nat) (h : k < ps.length) (h42 : ps.getD k 0 ≠ 42) : reachF (c :: s) ps (k + 1) = ((ps.getD k 0 == 63 || ps.getD k 0 == c) && reachF s ps k) := by
  unfold reachF
  rw [take_rev ps k h]
  conv => lhs; unfold fitsL
  rw [if_neg h42]

/-- A row of bools that the call owns; what lies at an address on: these bools. -/
def RowB (w : World) (B g : Nat) (bs : List Bool) : Prop := w.ownsRow B 4 1 (.slice (some ⟨g, 0, none⟩) bs.length bs.length) bs.length (bs.map Value.bool)
theorem RowB.cellAt {w : World} {B g : Nat} {bs : List Bool} (h : RowB w B g bs) {k : Nat} (hk : k < bs.length) : w.cell? ⟨g, k, none⟩ = some (.bool (bs.getD k false)) := by
  unfold RowB at h
  rw [World.ownsRow.cellAt h k (by omega)]
  simp [List.getD_eq_getElem?_getD, List.getElem?_eq_getElem hk]
theorem RowB.free {w : World} {B g : Nat} {bs : List Bool} (h : RowB w B g bs) (k : Nat) : w.frozen? ⟨g, k, none⟩ = false := by
  unfold RowB at h
  exact World.ownsRow.frozenAt h k
theorem RowB.stored {w : World} {B g : Nat} {bs : List Bool} (h : RowB w B g bs) (k : Nat) (x : Bool) : RowB (w.setCell ⟨g, k, none⟩ (.bool x)) B g (bs.set k x) := by
  unfold RowB at h ⊢
  have := (World.ownsRow.stored h k (.bool x)).1
  rw [List.length_set]
  simpa [List.map_set] using this
theorem RowB.lt {w : World} {B g : Nat} {bs : List Bool} (h : RowB w B g bs) : B ≤ g ∧ g < w.heap.size := World.ownsRow.lt h g rfl
theorem RowB.below {w w' : World} {B B' g : Nat} {bs : List Bool} (h : RowB w B g bs) (hb : Below B' w w') (hg : g < B') : RowB w' B g bs := by
  unfold RowB at h ⊢
  rcases h.2 with ⟨hv, _⟩ | ⟨g', cap, cur, hv, hB, hgg, hrest⟩
  · cases hv
  · have e : g = g' := by injection hv with hv; injection hv with hv; injection hv
    subst e
    exact ⟨h.1, .inr ⟨g, cap, cur, hv, hB, (hb.block g hg).trans hgg, hrest⟩⟩
theorem RowB.low {w : World} {B B' g : Nat} {bs : List Bool} (h : RowB w B g bs) (hB : B' ≤ B) : RowB w B' g bs := by
  unfold RowB at h ⊢
  rcases h.2 with hv | ⟨g', cap, cur, hv, hb, hrest⟩
  · exact ⟨h.1, .inl hv⟩
  · exact ⟨h.1, .inr ⟨g', cap, cur, hv, by omega, hrest⟩⟩
theorem RowB.eq {w : World} {B g : Nat} {bs bs' : List Bool} (h : RowB w B g bs) (e : bs = bs') : RowB w B g bs' := e ▸ h
theorem Rd.below {w w' : World} {B : Nat} {A : Option Addr} {rs : List Int} (h : Rd w A rs) (hB : w.heap.size ≤ B) (hb : Below B w w') : Rd w' A rs := by
  intro k hk
  obtain ⟨ad, e, hlt, hc⟩ := h k hk
  refine ⟨ad, e, Nat.lt_of_lt_of_le hlt hb.size, ?_⟩
  have hbl : (ad.add k).block = ad.block := by unfold Addr.add; split <;> rfl
  rw [World.cell?_of_block (hb.block _ (by omega))]
  exact hc
theorem Rd.at1 {w : World} {A : Option Addr} {rs : List Int} (h : Rd w A rs) {k : Nat} (hk : k < rs.length) : ∃ ad, A = some ad ∧ w.cell? (ad.add k) = some (.int .i32 (rs.getD k 0)) := by
  obtain ⟨ad, e, _, hc⟩ := h k hk
  exact ⟨ad, e, hc⟩
def BoolsPost (w : World) (bs : List Bool) (e : Ending) (w' : World) : Prop := ∃ g, e = .returned (.slice (some ⟨g, 0, none⟩) bs.length bs.length) ∧ RowB w' w.heap.size g bs ∧ Below w.heap.size w w'

theorem ret_bools {g n : Nat} {bs : List Bool} (h : bs.length = n) : Ending.returned (.slice (some ⟨g, 0, none⟩) n n) = .returned (.slice (some ⟨g, 0, none⟩) bs.length bs.length) := by rw [h]
theorem bool_info : (Tryd.prog.info? 4).map (fun i => (i.zero, i.size, i.bytes)) = some (some (.bool false), 1, 1) := by kernel_rfl
end Go.Proofs.YtgacphpkgaobkaaDoor
