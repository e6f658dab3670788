/- Plain Lean: single bits of 64, by division. -/
import Derived.Test.YtphbckddcckgdaaProg
import Derived.Laws.Bits64b
import Derived.Lib.EndianBits
set_option linter.unusedVariables false
namespace Go.Proofs.Ytphbckddcckgdaa
open Go

theorem low_or (q lo : Nat) (h : lo < 4611686018427387904) : 4611686018427387904 * q ||| lo = 4611686018427387904 * q + lo :=
  (Nat.two_pow_add_eq_or_of_lt (i := 62) h q).symm
theorem split62 (a : Nat) : a = 4611686018427387904 * (a / 4611686018427387904) ||| a % 4611686018427387904 := by
  rw [low_or _ _ (Nat.mod_lt _ (by decide))]
  omega
theorem four (a : Nat) (h : a < 18446744073709551616) : a / 4611686018427387904 = 0 ∨ a / 4611686018427387904 = 1 ∨ a / 4611686018427387904 = 2 ∨ a / 4611686018427387904 = 3 := by omega
theorem or_high (a c : Nat) (f : Nat → Nat) (h : a < 18446744073709551616) (hf : ∀ q, q < 4 → (4611686018427387904 * q ||| c) = 4611686018427387904 * f q) :
    a ||| c = 4611686018427387904 * f (a / 4611686018427387904) + a % 4611686018427387904 := by
  have hq := hf (a / 4611686018427387904) (by omega)
  have hl : a % 4611686018427387904 < 4611686018427387904 := Nat.mod_lt _ (by decide)
  have e : a ||| c = (4611686018427387904 * (a / 4611686018427387904) ||| c) ||| a % 4611686018427387904 := by
    rw [Nat.or_assoc, Nat.or_comm c, ← Nat.or_assoc, ← split62]
  rw [e, hq, low_or _ _ hl]
theorem and_high (a c : Nat) (f : Nat → Nat) (h : a < 18446744073709551616) (hf : ∀ q, q < 4 → (4611686018427387904 * q &&& c) = 4611686018427387904 * f q) (hc : c % 4611686018427387904 = 0) :
    a &&& c = 4611686018427387904 * f (a / 4611686018427387904) := by
  have hq := hf (a / 4611686018427387904) (by omega)
  have hl : a % 4611686018427387904 < 2 ^ 62 := Nat.mod_lt _ (by decide)
  have hz : a % 4611686018427387904 &&& c = 0 := by
    have e : c = 2 ^ 62 * (c / 4611686018427387904) := by omega
    apply Nat.eq_of_testBit_eq
    intro j
    rw [Nat.testBit_and, Nat.zero_testBit, e, Nat.testBit_two_pow_mul]
    by_cases hj : 62 ≤ j
    · rw [Nat.testBit_lt_two_pow (Nat.lt_of_lt_of_le hl (Nat.pow_le_pow_right (by decide) hj))]
      rfl
    · simp [hj]
  have e : a &&& c = (4611686018427387904 * (a / 4611686018427387904) ||| a % 4611686018427387904) &&& c := by rw [← split62]
  rw [e, Nat.and_or_distrib_right, hq, hz, Nat.or_zero]
theorem low_and (a : Nat) (q : Nat) (h : a < 4611686018427387904) : a &&& (4611686018427387904 * q + 4611686018427387903) = a := by
  rw [← low_or q 4611686018427387903 (by decide), Nat.and_or_distrib_left]
  have h1 : a &&& 4611686018427387904 * q = 0 := by
    have hl : a < 2 ^ 62 := h
    apply Nat.eq_of_testBit_eq
    intro j
    have e : 4611686018427387904 * q = 2 ^ 62 * q := rfl
    rw [Nat.testBit_and, Nat.zero_testBit, e, Nat.testBit_two_pow_mul]
    by_cases hj : 62 ≤ j
    · rw [Nat.testBit_lt_two_pow (Nat.lt_of_lt_of_le hl (Nat.pow_le_pow_right (by decide) hj))]
      rfl
    · simp [hj]
  have h2 : a &&& 4611686018427387903 = a := by
    have := Nat.and_two_pow_sub_one_eq_mod a 62
    rw [show (2 ^ 62 - 1 : Nat) = 4611686018427387903 from by decide] at this
    rw [this]
    exact Nat.mod_eq_of_lt h
  rw [h1, h2, Nat.zero_or]

section
variable (x : Int) (h0 : 0 ≤ x) (h1 : x < 18446744073709551616)
include h0 h1
theorem u64_or_lock : bits .or .u64 x 9223372036854775808 = x % 9223372036854775808 + 9223372036854775808 := by
  obtain ⟨a, rfl⟩ := Int.eq_ofNat_of_zero_le h0
  have ha : a < 18446744073709551616 := by omega
  have := or_high a 9223372036854775808 (fun q => q % 2 + 2) ha (by decide)
  have hb := bits_or_u64_nat a 9223372036854775808 ha (by decide)
  rw [this] at hb
  refine Eq.trans hb ?_
  omega
theorem u64_or_absent : bits .or .u64 x 4611686018427387904 = x - x / 4611686018427387904 % 2 * 4611686018427387904 + 4611686018427387904 := by
  obtain ⟨a, rfl⟩ := Int.eq_ofNat_of_zero_le h0
  have ha : a < 18446744073709551616 := by omega
  have := or_high a 4611686018427387904 (fun q => q / 2 * 2 + 1) ha (by decide)
  have hb := bits_or_u64_nat a 4611686018427387904 ha (by decide)
  rw [this] at hb
  refine Eq.trans hb ?_
  omega
theorem u64_and_lock : bits .and .u64 x 9223372036854775808 = x / 9223372036854775808 * 9223372036854775808 := by
  obtain ⟨a, rfl⟩ := Int.eq_ofNat_of_zero_le h0
  have ha : a < 18446744073709551616 := by omega
  have := and_high a 9223372036854775808 (fun q => q / 2 * 2) ha (by decide) (by decide)
  have hb := bits_and_u64_nat a 9223372036854775808 ha (by decide)
  rw [this] at hb
  refine Eq.trans hb ?_
  omega
theorem u64_and_absent : bits .and .u64 x 4611686018427387904 = x / 4611686018427387904 % 2 * 4611686018427387904 := by
  obtain ⟨a, rfl⟩ := Int.eq_ofNat_of_zero_le h0
  have ha : a < 18446744073709551616 := by omega
  have := and_high a 4611686018427387904 (fun q => q % 2) ha (by decide) (by decide)
  have hb := bits_and_u64_nat a 4611686018427387904 ha (by decide)
  rw [this] at hb
  refine Eq.trans hb ?_
  omega
theorem u64_and_stamp : bits .and .u64 x 4611686018427387903 = x % 4611686018427387904 :=
  bits_mask .u64 64 (by decide) wraps_u64 62 (by decide) x h0 (by omega)
theorem u64_and_63 : bits .and .u64 x 9223372036854775807 = x % 9223372036854775808 :=
  bits_mask .u64 64 (by decide) wraps_u64 63 (by decide) x h0 (by omega)
theorem u64_and_31 : bits .and .u64 x 2147483647 = x % 2147483648 :=
  bits_mask .u64 64 (by decide) wraps_u64 31 (by decide) x h0 (by omega)
theorem u64_and_not_absent : bits .and .u64 x 13835058055282163711 = x - x / 4611686018427387904 % 2 * 4611686018427387904 := by
  obtain ⟨a, rfl⟩ := Int.eq_ofNat_of_zero_le h0
  have ha : a < 18446744073709551616 := by omega
  have hq : ∀ q, q < 4 → (4611686018427387904 * q &&& 13835058055282163711) = 4611686018427387904 * (q / 2 * 2) := by decide
  have h2 := hq (a / 4611686018427387904) (by omega)
  have h3 := low_and (a % 4611686018427387904) 2 (Nat.mod_lt _ (by decide))
  rw [show 4611686018427387904 * 2 + 4611686018427387903 = 13835058055282163711 from by decide] at h3
  have e : a &&& 13835058055282163711 = (4611686018427387904 * (a / 4611686018427387904) ||| a % 4611686018427387904) &&& 13835058055282163711 := by rw [← split62]
  have hb := bits_and_u64_nat a 13835058055282163711 ha (by decide)
  rw [e, Nat.and_or_distrib_right, h2, h3, low_or _ _ (Nat.mod_lt _ (by decide))] at hb
  refine Eq.trans hb ?_
  omega
theorem u64_not_lock : bits .andNot .u64 x 9223372036854775808 = x % 9223372036854775808 := by
  rw [← u64_and_63 x h0 h1]
  show IntKind.u64.wrap _ = IntKind.u64.wrap _
  congr 3
theorem u64_not_absent : bits .andNot .u64 x 4611686018427387904 = x - x / 4611686018427387904 % 2 * 4611686018427387904 := by
  rw [← u64_and_not_absent x h0 h1]
  show IntKind.u64.wrap _ = IntKind.u64.wrap _
  congr 3
theorem u64_not_both : bits .andNot .u64 x 13835058055282163712 = x % 4611686018427387904 := by
  rw [← u64_and_stamp x h0 h1]
  show IntKind.u64.wrap _ = IntKind.u64.wrap _
  congr 3
end
theorem u64_join31 (x y : Int) (hx0 : 0 ≤ x) (hx : x % 2147483648 = 0) (hx1 : x < 18446744073709551616) (hy0 : 0 ≤ y) (hy : y < 2147483648) : bits .or .u64 x y = x + y :=
  bits_join .u64 64 (by decide) wraps_u64 31 x y hx0 (by simpa using hx) (by omega) hy0 (by omega) (by omega)
end Go.Proofs.Ytphbckddcckgdaa
