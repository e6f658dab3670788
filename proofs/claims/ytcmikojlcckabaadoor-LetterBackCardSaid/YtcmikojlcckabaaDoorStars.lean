/- Patterns with a star more: plain facts and cuts of rows. -/
import Derived.Test.YtcmikojlcckabaaDoorRefCompare
import Derived.Deep.RegionHeld3
import Derived.RegionTactic
set_option linter.unusedVariables false
namespace Go.Proofs.YtcmikojlcckabaaDoor
open Go Go.RowKit

def plainR (r : Int) : Bool := (r != 42) && (r != 63)
theorem Rd.same {w W : World} {A : Option Addr} {rs : List Int} (h : Rd w A rs) (h1 : ∀ p : Addr, W.cell? p = w.cell? p) (h2 : W.heap.size = w.heap.size) : Rd W A rs := by
  intro k hk
  obtain ⟨ad, e, hb, hc⟩ := h k hk
  exact ⟨ad, e, by omega, (h1 _).trans hc⟩
theorem Rd.take {w : World} {A : Option Addr} {rs : List Int} (h : Rd w A rs) (K : Nat) : Rd w A (rs.take K) := by
  intro k hk
  rw [List.length_take] at hk
  obtain ⟨ad, e, hb, hc⟩ := h k (by omega)
  refine ⟨ad, e, hb, ?_⟩
  rw [hc, List.getD_eq_getElem?_getD, List.getD_eq_getElem?_getD, List.getElem?_take, if_pos (by omega)]
theorem addr_add_add (a : Addr) (i j : Nat) : (a.add i).add j = a.add (i + j) := by
  unfold Addr.add
  by_cases hi : i = 0 <;> by_cases hj : j = 0 <;> simp [hi, hj, Nat.add_assoc]
theorem Rd.drop {w : World} {A : Option Addr} {rs : List Int} {K c : Nat} (h : Rd w A rs) (hc : rs.length ≤ c) : Rd w (if c = K then A else Option.map (fun x => x.add K) A) (rs.drop K) := by
  intro k hk
  rw [List.length_drop] at hk
  obtain ⟨ad, e, hb, hcell⟩ := h (K + k) (by omega)
  rw [if_neg (by omega), e]
  refine ⟨ad.add K, rfl, by unfold Addr.add; split <;> exact hb, ?_⟩
  rw [addr_add_add, hcell, List.getD_eq_getElem?_getD, List.getD_eq_getElem?_getD, List.getElem?_drop]
theorem emod_bounds (a : Int) (n : Nat) : 0 ≤ a % ((n : Int) + 1) ∧ a % ((n : Int) + 1) ≤ (n : Int) := by
  have h1 := Int.emod_nonneg a (show ((n : Int) + 1) ≠ 0 by omega)
  have h2 := Int.emod_lt_of_pos a (show 0 < ((n : Int) + 1) by omega)
  exact ⟨h1, by omega⟩
theorem tmod_bounds (a : Int) (n : Nat) : -(n : Int) ≤ a.tmod ((n : Int) + 1) ∧ a.tmod ((n : Int) + 1) ≤ (n : Int) := by
  rcases Int.le_total 0 a with h | h
  · rw [Int.tmod_eq_emod_of_nonneg h]
    have := emod_bounds a n
    omega
  · obtain ⟨b, rfl⟩ : ∃ b, a = -b := ⟨-a, by omega⟩
    rw [Int.neg_tmod, Int.tmod_eq_emod_of_nonneg (by omega)]
    have := emod_bounds b n
    omega
theorem mod_nat (x : Int) (n : Nat) : ∃ K : Nat, K ≤ n ∧ x % ((n : Int) + 1) = (K : Int) := by
  have := emod_bounds x n
  exact ⟨(x % ((n : Int) + 1)).toNat, by omega, by omega⟩
theorem star_text (a0 : ByteArray) (ps : List Int) (K : Nat) (hl : ps.length ≤ 150) (hok : ∀ r ∈ ps, okR r = true) :
    ((⟨(text (ps.take K)).toArray⟩ : ByteArray) ++ ⟨#[42]⟩ ++ ⟨(text (ps.drop K)).toArray⟩).size ≤ 1201 ∧ (⟨(text (ps.take K)).toArray⟩ : ByteArray).size ≤ 600 ∧ (⟨(text (ps.drop K)).toArray⟩ : ByteArray).size ≤ 600 ∧
    runes ((⟨(text (ps.take K)).toArray⟩ : ByteArray) ++ ⟨#[42]⟩ ++ ⟨(text (ps.drop K)).toArray⟩).data.toList = ps.take K ++ 42 :: ps.drop K := by
  have app : ∀ u v : ByteArray, (u ++ v).data.toList = u.data.toList ++ v.data.toList := fun u v => by rw [ByteArray.data_append]; simp
  have siz : ∀ u v : ByteArray, (u ++ v).size = u.size + v.size := fun u v => by rw [← size_list, app, List.length_append, size_list, size_list]
  have t1 := text_length_le (ps.take K)
  have t2 := text_length_le (ps.drop K)
  rw [List.length_take] at t1
  rw [List.length_drop] at t2
  have x1 : (⟨(text (ps.take K)).toArray⟩ : ByteArray).size ≤ 600 := by rw [← size_list]; simp; omega
  have x2 : (⟨(text (ps.drop K)).toArray⟩ : ByteArray).size ≤ 600 := by rw [← size_list]; simp; omega
  have x3 : (⟨#[42]⟩ : ByteArray).size = 1 := rfl
  refine ⟨by rw [siz, siz]; omega, x1, x2, ?_⟩
  rw [app, app]
  have e : (⟨#[42]⟩ : ByteArray).data.toList = text [42] := by decide
  rw [e]
  show runes (text (ps.take K) ++ text [42] ++ text (ps.drop K)) = _
  rw [← text_append, ← text_append, runes_text_ok]
  · simp
  · intro r hr
    rw [List.append_assoc, List.mem_append, List.mem_append] at hr
    rcases hr with h | h | h
    · exact hok r (List.mem_of_mem_take h)
    · simp at h; subst h; rfl
    · exact hok r (List.mem_of_mem_drop h)
theorem tb {w a b : World} (h2 : Below a.heap.size a b) (h1 : Below w.heap.size w a) : Below w.heap.size w b := bt h1 h2
theorem slice_from (W : World) (A : Option Addr) (n c K : Nat) (h : K ≤ n) :
    (Instr.slice 32 (.slice A n c) (some (.int .i64 (K : Int))) none none).run Tryd.prog W = .ok (.slice (if c = K then A else Option.map (fun x => x.add K) A) (n - K) (c - K)) W := by
  have he : Tryd.prog.elem 32 = 21 := by kernel_rfl
  rw [run_slice_l (P := Tryd.prog) (w := W) 32 A n c (by rw [he]; exact Tryd.underlying32) .i64 (K : Int) (by omega) (by omega), he, Tryd.sizeOf21]
  simp [Result.andThen, sliced]
end Go.Proofs.YtcmikojlcckabaaDoor
