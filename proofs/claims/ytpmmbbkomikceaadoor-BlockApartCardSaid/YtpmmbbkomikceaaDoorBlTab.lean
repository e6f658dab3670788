/- The table of the code's check sum: half a byte at once; what the tied cards lay of it. -/
import Derived.Test.YtpmmbbkomikceaaDoorBlSum
set_option linter.unusedVariables false
namespace Go.Proofs.YtpmmbbkomikceaaDoor
open Go Go.RowKit

def shTab : List Int := [0, 498536548, 997073096, 651767980, 1994146192, 1802195444, 1303535960, 1342533948, 3988292384, 4027552580, 3604390888, 3412177804, 2607071920, 2262029012, 2685067896, 3183342108]
/-- What the variable holds. -/
def ShT (w : World) : Prop := ∀ i, i < 16 → w.cell? { block := 0, off := i } = some (.int .u32 (shTab.getD i 0))
theorem ShT.below {w w' : World} (h : ShT w) (hb : Below w.heap.size w w') : ShT w' := fun i hi => by
  have h0 := h i hi
  have hl := block_lt h0
  unfold World.cell? at h0 ⊢
  rw [hb.block _ hl]
  exact h0
theorem stepC_xor (a b : Nat) : stepC (a ^^^ b) = stepC a ^^^ stepC b := by
  have h2 : (a ^^^ b) / 2 = a / 2 ^^^ b / 2 := Nat.xor_div_two
  have hm : ((a ^^^ b) % 2 = 1) = ¬ (a % 2 = 1 ↔ b % 2 = 1) := by simp [Nat.xor_mod_two_eq_one]
  unfold stepC
  rw [h2]
  by_cases ha : a % 2 = 1 <;> by_cases hb : b % 2 = 1
  · rw [if_neg (by rw [hm]; simp [ha, hb]), if_pos ha, if_pos hb, Nat.xor_assoc (a / 2), ← Nat.xor_assoc 3988292384, Nat.xor_comm 3988292384 (b / 2), Nat.xor_assoc (b / 2), Nat.xor_self, Nat.xor_zero]
  · rw [if_pos (by rw [hm]; simp [ha, hb]), if_pos ha, if_neg hb, Nat.xor_assoc, Nat.xor_comm (b / 2), ← Nat.xor_assoc]
  · rw [if_pos (by rw [hm]; simp [ha, hb]), if_neg ha, if_pos hb, Nat.xor_assoc]
  · rw [if_neg (by rw [hm]; simp [ha, hb]), if_neg ha, if_neg hb]
theorem stepsC_xor (a b : Nat) : ∀ k, stepsC k (a ^^^ b) = stepsC k a ^^^ stepsC k b
  | 0 => rfl
  | k + 1 => by
    show stepC (stepsC k (a ^^^ b)) = stepC (stepsC k a) ^^^ stepC (stepsC k b)
    rw [stepsC_xor a b k, stepC_xor]
theorem stepC_even (m : Nat) : stepC (2 * m) = m := by
  unfold stepC
  rw [if_neg (by omega)]
  omega
theorem stepsC_four (m : Nat) : stepsC 4 (16 * m) = m := by
  show stepC (stepC (stepC (stepC (16 * m)))) = m
  rw [show 16 * m = 2 * (2 * (2 * (2 * m))) from by omega, stepC_even, stepC_even, stepC_even, stepC_even]
theorem split16 (r : Nat) : 16 * (r / 16) ^^^ r % 16 = r := by
  apply Nat.eq_of_testBit_eq
  intro i
  rw [Nat.testBit_xor, show 16 = 2 ^ 4 from rfl, Nat.testBit_two_pow_mul, Nat.testBit_mod_two_pow, Nat.testBit_div_two_pow]
  by_cases h : i < 4
  · simp [h, show ¬ 4 ≤ i from by omega]
  · simp [h, show 4 ≤ i from by omega]
/-- Half a byte. -/
def halfC (r : Nat) : Nat := r / 16 ^^^ stepsC 4 (r % 16)
theorem halfC_eq (r : Nat) : stepsC 4 r = halfC r := by
  have h := stepsC_xor (16 * (r / 16)) (r % 16) 4
  rw [split16, stepsC_four] at h
  exact h
theorem stepsC_add (r : Nat) (a : Nat) : ∀ b, stepsC (a + b) r = stepsC b (stepsC a r)
  | 0 => rfl
  | b + 1 => by
    show stepC (stepsC (a + b) r) = stepC (stepsC b (stepsC a r))
    rw [stepsC_add r a b]
theorem byteC_half (r b : Nat) : byteC r b = halfC (halfC (r ^^^ b)) := by
  unfold byteC
  rw [show 8 = 4 + 4 from rfl, stepsC_add, halfC_eq, halfC_eq]
theorem halfC_lt {r : Nat} (h : r < 4294967296) : halfC r < 4294967296 := by rw [← halfC_eq]; exact stepsC_lt h 4
theorem shTab_at : ∀ i, i < 16 → shTab.getD i 0 = (stepsC 4 i : Nat) := by decide +kernel
/-- What the walk asks of one half. -/
theorem half_cell {w : World} (h : ShT w) {r : Nat} (hr : r < 4294967296) : w.cell? { block := 0, off := r % 16 } = some (.int .u32 ((stepsC 4 (r % 16) : Nat) : Int)) ∧
    bits .xor .u32 ((r / 16 : Nat) : Int) ((stepsC 4 (r % 16) : Nat) : Int) = (halfC r : Nat) ∧ bits .and .u32 (r : Int) 15 = ((r % 16 : Nat) : Int) := by
  refine ⟨by rw [h _ (by omega), shTab_at _ (by omega)], u32_xor_nat _ _ (by omega) (stepsC_lt (by omega) 4), ?_⟩
  have := u32_and_nat r 15 hr (by decide)
  rw [show ((15 : Nat) : Int) = 15 from rfl] at this
  rw [this, show 15 = 2 ^ 4 - 1 from rfl, Nat.and_two_pow_sub_one_eq_mod]
end Go.Proofs.YtpmmbbkomikceaaDoor
