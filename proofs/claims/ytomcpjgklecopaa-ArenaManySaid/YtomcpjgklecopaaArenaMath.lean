/- Plain Lean for the laws of layer 5. -/
import Derived.Test.YtomcpjgklecopaaArenaSpec
import Derived.Test.YtomcpjgklecopaaNum
set_option linter.unusedVariables false
namespace Go.Proofs.Ytomcpjgklecopaa
open Go Go.RowKit

theorem tmod_inA (a m : Int) (hm : 0 < m) : -m < a.tmod m ∧ a.tmod m < m := by
  have h1 := Int.emod_lt_of_pos a hm
  have h2 := Int.emod_nonneg a (by omega : m ≠ 0)
  rcases Int.lt_or_le a 0 with h | h
  · have e : a.tmod m = -((-a) % m) := by
      rw [← Int.tmod_eq_emod_of_nonneg (by omega : 0 ≤ -a), Int.neg_tmod, Int.neg_neg]
    have h3 := Int.emod_lt_of_pos (-a) hm
    have h4 := Int.emod_nonneg (-a) (by omega : m ≠ 0)
    omega
  · rw [Int.tmod_eq_emod_of_nonneg h]; omega
/-- '((a % m) + m) % m'. -/
theorem idx_in (a m : Int) (hm : 0 < m) (hb : m ≤ 1000) : ∃ x : Nat, (wrap64 (a.tmod m + m)).tmod m = (x : Int) ∧ (x : Int) < m := by
  obtain ⟨h1, h2⟩ := tmod_inA a m hm
  have hw : wrap64 (a.tmod m + m) = a.tmod m + m := by
    unfold wrap64
    omega
  rw [hw, Int.tmod_eq_emod_of_nonneg (by omega)]
  have h3 := Int.emod_nonneg (a.tmod m + m) (by omega : m ≠ 0)
  have h4 := Int.emod_lt_of_pos (a.tmod m + m) hm
  exact ⟨((a.tmod m + m) % m).toNat, by omega, by omega⟩
def bump (z : H2) : H2 := (z.1, z.2 + 1)
theorem slotsR_get {n k : Nat} (h : k < n) : (slotsR n).getD k H2.no = ((k : Int), 0) := by
  unfold slotsR
  rw [List.getD_eq_getElem?_getD, List.getElem?_map, List.getElem?_range h]
  rfl
theorem slotsR_nodup (n : Nat) : (slotsR n).Nodup := by
  unfold slotsR
  unfold List.Nodup
  rw [List.pairwise_map]
  refine List.Pairwise.imp ?_ List.nodup_range
  intro a b hab e
  injection e with e1 e2
  omega
theorem slotsR_zero {n : Nat} {z : H2} (h : z ∈ slotsR n) : z.2 = 0 := by
  unfold slotsR at h
  obtain ⟨i, _, rfl⟩ := List.mem_map.1 h
  rfl
theorem goodF_one {tk : List H2} {h : H2} : goodF tk [h] ↔ h ∈ tk := ⟨fun g => g.2 h List.mem_cons_self, fun g => ⟨by simp, fun z hz => by rw [List.mem_singleton.1 hz]; exact g⟩⟩
theorem filter_len {tk : List H2} {h : H2} (hn : tk.Nodup) (hm : h ∈ tk) : (tk.filter (fun z => !(decide (z = h)))).length + 1 = tk.length := by
  induction tk with
  | nil => cases hm
  | cons a r ih =>
    have hr := List.nodup_cons.1 hn
    by_cases e : a = h
    · subst e
      rw [List.filter_cons_of_neg (by simp), List.length_cons]
      congr 1
      rw [List.filter_eq_self.2 (fun z hz => by
        have : z ≠ a := fun e => hr.1 (by rw [← e]; exact hz)
        simp [this])]
    · rw [List.filter_cons_of_pos (by simp [e]), List.length_cons, List.length_cons]
      have := ih hr.2 ((List.mem_cons.1 hm).resolve_left (fun e2 => e e2.symm))
      omega
theorem freeR_one (fr tk : List H2) (h : H2) : freeR fr tk [h] = (bump h :: fr, tk.filter (fun z => !(decide (z = h)))) := rfl
theorem rev_snoc (F : List H2) (h : H2) : ((F ++ [h]).map bump).reverse = bump h :: (F.map bump).reverse := by simp
theorem rev_take {F : List H2} {j : Nat} (h : j < F.length) : ((F.take (j + 1)).map bump).reverse = bump (F.getD j H2.no) :: ((F.take j).map bump).reverse := by
  rw [List.take_succ_eq_append_getElem h, List.getD_eq_getElem?_getD, List.getElem?_eq_getElem h, List.map_append, List.reverse_append]
  rfl
end Go.Proofs.Ytomcpjgklecopaa
