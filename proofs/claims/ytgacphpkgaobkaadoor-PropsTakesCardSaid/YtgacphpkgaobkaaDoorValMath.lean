/- Plain Lean, no run of the program: values' bytes: a text with its bytes 0 marked, a number in eight bytes, their order, and how they are read. -/
import Derived.Test.YtgacphpkgaobkaaDoorMath
set_option linter.unusedVariables false
namespace Go.Proofs.YtgacphpkgaobkaaDoor
open Go

/-! ### bytes in order -/
def ints (s : List UInt8) : List Int := s.map (fun b => (b.toNat : Int))
def ordB (s t : List UInt8) : Int := cmpL (ints s) (ints t)
theorem ints_append (s t : List UInt8) : ints (s ++ t) = ints s ++ ints t := by simp [ints]
theorem ints_length (s : List UInt8) : (ints s).length = s.length := by simp [ints]
theorem ints_cons (b : UInt8) (s : List UInt8) : ints (b :: s) = (b.toNat : Int) :: ints s := rfl
theorem ints_inj : ∀ s t : List UInt8, ints s = ints t → s = t
  | [], [], _ => rfl
  | [], _ :: _, h => by simp [ints] at h
  | _ :: _, [], h => by simp [ints] at h
  | a :: s, b :: t, h => by
    rw [ints_cons, ints_cons, List.cons.injEq] at h
    have h1 : a.toNat = b.toNat := by omega
    rw [UInt8.toNat_inj.1 h1, ints_inj s t h.2]
theorem ordB_zero (s t : List UInt8) : ordB s t = 0 ↔ s = t := by
  unfold ordB
  rw [cmpL_zero]
  exact ⟨ints_inj s t, fun h => by rw [h]⟩
theorem ordB_self (s : List UInt8) : ordB s s = 0 := (ordB_zero s s).2 rfl
theorem ordB_neg (s t : List UInt8) : ordB t s = - ordB s t := cmpL_neg _ _
theorem ordB_trans (s t u : List UInt8) (h1 : ordB s t ≤ 0) (h2 : ordB t u ≤ 0) : ordB s u ≤ 0 := cmpL_trans _ _ _ h1 h2
theorem ordB_cons (a b : UInt8) (s t : List UInt8) : ordB (a :: s) (b :: t) = if a.toNat < b.toNat then -1 else if b.toNat < a.toNat then 1 else ordB s t := by
  unfold ordB
  rw [ints_cons, ints_cons]
  show (if (a.toNat : Int) < b.toNat then (-1 : Int) else if (b.toNat : Int) < a.toNat then 1 else _) = _
  simp only [Int.ofNat_lt]
theorem ordB_same (a : UInt8) (s t : List UInt8) : ordB (a :: s) (a :: t) = ordB s t := by
  rw [ordB_cons, if_neg (Nat.lt_irrefl _), if_neg (Nat.lt_irrefl _)]
theorem ordB_lt {a b : UInt8} (s t : List UInt8) (h : a.toNat < b.toNat) : ordB (a :: s) (b :: t) = -1 := by rw [ordB_cons, if_pos h]
theorem ordB_gt {a b : UInt8} (s t : List UInt8) (h : b.toNat < a.toNat) : ordB (a :: s) (b :: t) = 1 := by rw [ordB_cons, if_neg (by omega), if_pos h]
theorem u8_pos {c : UInt8} (h : c ≠ 0) : 0 < c.toNat := by
  rcases Nat.eq_zero_or_pos c.toNat with h0 | h0
  · exact absurd (UInt8.toNat_inj.1 (h0.trans rfl)) h
  · exact h0
theorem u8_ne {a b : UInt8} (h : a ≠ b) : a.toNat < b.toNat ∨ b.toNat < a.toNat := by
  have : a.toNat ≠ b.toNat := fun e => h (UInt8.toNat_inj.1 e)
  omega

/-! ### a text's bytes -/
def esc0 : List UInt8 → List UInt8
  | [] => []
  | c :: s => if c = 0 then 0 :: 255 :: esc0 s else c :: esc0 s
theorem esc0_zero (s : List UInt8) : esc0 (0 :: s) = 0 :: 255 :: esc0 s := by simp [esc0]
theorem esc0_other {c : UInt8} (s : List UInt8) (h : c ≠ 0) : esc0 (c :: s) = c :: esc0 s := by simp [esc0, h]
theorem esc0_append : ∀ s t : List UInt8, esc0 (s ++ t) = esc0 s ++ esc0 t
  | [], t => rfl
  | c :: s, t => by
    by_cases h : c = 0
    · subst h
      rw [List.cons_append, esc0_zero, esc0_zero, esc0_append s t]
      rfl
    · rw [List.cons_append, esc0_other _ h, esc0_other _ h, esc0_append s t]
      rfl
theorem esc0_length : ∀ s : List UInt8, s.length ≤ (esc0 s).length ∧ (esc0 s).length ≤ 2 * s.length
  | [] => by simp [esc0]
  | c :: s => by
    have ih := esc0_length s
    by_cases h : c = 0
    · subst h
      rw [esc0_zero]
      simp only [List.length_cons]
      omega
    · rw [esc0_other _ h]
      simp only [List.length_cons]
      omega
theorem ord_esc : ∀ s t u v : List UInt8, ordB (esc0 s ++ 0 :: 0 :: u) (esc0 t ++ 0 :: 0 :: v) = if s = t then ordB u v else ordB s t
  | [], [], u, v => by
    rw [if_pos rfl]
    exact (ordB_same _ _ _).trans (ordB_same _ _ _)
  | [], c :: t, u, v => by
    rw [if_neg (by simp)]
    have e : ordB [] (c :: t) = -1 := rfl
    rw [e]
    by_cases h : c = 0
    · subst h
      rw [esc0_zero]
      exact (ordB_same _ _ _).trans (ordB_lt _ _ (by decide))
    · rw [esc0_other _ h]
      exact ordB_lt _ _ (u8_pos h)
  | c :: s, [], u, v => by
    rw [if_neg (by simp)]
    have e : ordB (c :: s) [] = 1 := rfl
    rw [e]
    by_cases h : c = 0
    · subst h
      rw [esc0_zero]
      exact (ordB_same _ _ _).trans (ordB_gt _ _ (by decide))
    · rw [esc0_other _ h]
      exact ordB_gt _ _ (u8_pos h)
  | c :: s, d :: t, u, v => by
    by_cases hcd : c = d
    · subst hcd
      have ih := ord_esc s t u v
      rw [ordB_same]
      have e : (if c :: s = c :: t then ordB u v else ordB s t) = if s = t then ordB u v else ordB s t := by
        by_cases h : s = t
        · subst h; simp
        · rw [if_neg h, if_neg (by simpa using h)]
      rw [e, ← ih]
      by_cases h : c = 0
      · subst h
        rw [esc0_zero, esc0_zero]
        exact (ordB_same _ _ _).trans (ordB_same _ _ _)
      · rw [esc0_other _ h, esc0_other _ h]
        exact ordB_same _ _ _
    · rw [if_neg (by simp [hcd])]
      have hc : ∀ x : UInt8, ∀ s' : List UInt8, ∃ r, esc0 (x :: s') = x :: r := fun x s' => by
        by_cases h : x = 0
        · subst h; exact ⟨_, esc0_zero s'⟩
        · exact ⟨_, esc0_other s' h⟩
      obtain ⟨r1, e1⟩ := hc c s
      obtain ⟨r2, e2⟩ := hc d t
      rw [e1, e2]
      rcases u8_ne hcd with h | h
      · exact (ordB_lt _ _ h).trans (ordB_lt _ _ h).symm
      · exact (ordB_gt _ _ h).trans (ordB_gt _ _ h).symm
theorem esc_inj (s t u v : List UInt8) (h : esc0 s ++ 0 :: 0 :: u = esc0 t ++ 0 :: 0 :: v) : s = t ∧ u = v := by
  have h1 := ord_esc s t u v
  rw [h, ordB_self] at h1
  by_cases e : s = t
  · rw [if_pos e] at h1
    exact ⟨e, (ordB_zero _ _).1 h1.symm⟩
  · rw [if_neg e] at h1
    exact absurd ((ordB_zero _ _).1 h1.symm) e
def textB (s : List UInt8) : List UInt8 := 2 :: (esc0 s ++ [0, 0])
theorem textB_ord (s t : List UInt8) : ordB (textB s) (textB t) = ordB s t := by
  unfold textB
  rw [ordB_same, ord_esc]
  by_cases e : s = t
  · subst e
    rw [if_pos rfl, ordB_self, ordB_self]
  · rw [if_neg e]
theorem textB_length (s : List UInt8) : s.length + 3 ≤ (textB s).length ∧ (textB s).length ≤ 2 * s.length + 3 := by
  have := esc0_length s
  unfold textB
  simp only [List.length_cons, List.length_append, List.length_nil]
  omega

/-! ### a number's bytes -/
def beN : Nat → Nat → List UInt8
  | 0, _ => []
  | k + 1, m => UInt8.ofNat (m / 256 ^ k) :: beN k m
theorem beN_length : ∀ k m, (beN k m).length = k
  | 0, _ => rfl
  | k + 1, m => by rw [beN, List.length_cons, beN_length k m]
theorem beN_mod : ∀ k m P, beN k (m % (256 ^ k * P)) = beN k m
  | 0, _, _ => rfl
  | k + 1, m, P => by
    have h1 := beN_mod k m (256 * P)
    have e : 256 ^ (k + 1) * P = 256 ^ k * (256 * P) := by rw [Nat.pow_succ, Nat.mul_assoc]
    rw [beN, beN, e, h1]
    congr 1
    rw [Nat.mod_mul, Nat.add_mul_div_left _ _ (Nat.pow_pos (by decide)), Nat.div_eq_of_lt (Nat.mod_lt _ (Nat.pow_pos (by decide))), Nat.zero_add]
    apply UInt8.toNat_inj.1
    simp only [UInt8.toNat_ofNat']
    exact Nat.mod_mul_right_mod _ _ _
theorem beN_mod1 (k m : Nat) : beN k (m % 256 ^ k) = beN k m := by
  have := beN_mod k m 1
  rwa [Nat.mul_one] at this
theorem beN_ord : ∀ k m n, m < 256 ^ k → n < 256 ^ k → ordB (beN k m) (beN k n) = if m < n then -1 else if n < m then 1 else 0
  | 0, m, n, h1, h2 => by
    have e1 : m = 0 := by simpa using h1
    have e2 : n = 0 := by simpa using h2
    subst e1 e2
    rfl
  | k + 1, m, n, h1, h2 => by
    have ih := beN_ord k (m % 256 ^ k) (n % 256 ^ k) (Nat.mod_lt _ (Nat.pow_pos (by decide))) (Nat.mod_lt _ (Nat.pow_pos (by decide)))
    rw [beN_mod1, beN_mod1] at ih
    rw [beN, beN, ordB_cons, ih]
    have d1 : m / 256 ^ k < 256 := Nat.div_lt_of_lt_mul (by rwa [Nat.pow_succ] at h1)
    have d2 : n / 256 ^ k < 256 := Nat.div_lt_of_lt_mul (by rwa [Nat.pow_succ] at h2)
    simp only [UInt8.toNat_ofNat']
    rw [Nat.mod_eq_of_lt (by simpa using d1), Nat.mod_eq_of_lt (by simpa using d2)]
    have m1 := Nat.div_add_mod m (256 ^ k)
    have m2 := Nat.div_add_mod n (256 ^ k)
    generalize 256 ^ k = P at *
    by_cases c1 : m / P < n / P
    · have : m < n := Nat.lt_of_not_le fun h => by have := Nat.div_le_div_right (c := P) h; omega
      rw [if_pos c1, if_pos this]
    · by_cases c2 : n / P < m / P
      · have : n < m := Nat.lt_of_not_le fun h => by have := Nat.div_le_div_right (c := P) h; omega
        rw [if_neg c1, if_pos c2, if_neg (by omega), if_pos this]
      · have e : m / P = n / P := by omega
        rw [e] at m1
        rw [if_neg c1, if_neg c2]
        generalize P * (n / P) = X at *
        by_cases c3 : m % P < n % P
        · rw [if_pos c3, if_pos (by omega)]
        · by_cases c4 : n % P < m % P
          · rw [if_neg c3, if_pos c4, if_neg (by omega), if_pos (by omega)]
          · rw [if_neg c3, if_neg c4, if_neg (by omega), if_neg (by omega)]
/-- What bytes say as a number, the greatest first. -/
def valN (u : Nat) : List UInt8 → Nat
  | [] => u
  | b :: s => valN (u * 256 + b.toNat) s
theorem valN_beN : ∀ k m u, valN u (beN k m) = u * 256 ^ k + m % 256 ^ k
  | 0, m, u => by
    rw [Nat.pow_zero, Nat.mod_one]
    show u = u * 1 + 0
    omega
  | k + 1, m, u => by
    rw [beN]
    show valN (u * 256 + (UInt8.ofNat (m / 256 ^ k)).toNat) (beN k m) = _
    rw [valN_beN k m]
    simp only [UInt8.toNat_ofNat']
    have e : m % 256 ^ (k + 1) = m % 256 ^ k + 256 ^ k * (m / 256 ^ k % 256) := by rw [Nat.pow_succ]; exact Nat.mod_mul
    have p : (256 : Nat) ^ (k + 1) = 256 ^ k * 256 := Nat.pow_succ ..
    rw [e, p]
    show (u * 256 + m / 256 ^ k % 256) * 256 ^ k + m % 256 ^ k = _
    generalize m / 256 ^ k % 256 = a
    generalize m % 256 ^ k = b
    generalize 256 ^ k = P
    have x : (u * 256 + a) * P = u * (P * 256) + P * a := by rw [Nat.add_mul, Nat.mul_assoc, Nat.mul_comm 256 P, Nat.mul_comm a P]
    omega
/-- Of a whole number of 64 bits: what is laid, in eight bytes. -/
def flip (n : Int) : Nat := (n + 9223372036854775808).toNat
def numB (n : Int) : List UInt8 := 1 :: beN 8 (flip n)
theorem flip_lt (n : Int) (h : n ≤ 9223372036854775807) : flip n < 256 ^ 8 := by
  unfold flip
  have : (256 : Nat) ^ 8 = 18446744073709551616 := by decide
  omega
theorem numB_length (n : Int) : (numB n).length = 9 := by
  unfold numB
  rw [List.length_cons, beN_length]
theorem numB_ord (m n : Int) (h1 : -9223372036854775808 ≤ m) (h2 : m ≤ 9223372036854775807) (h3 : -9223372036854775808 ≤ n) (h4 : n ≤ 9223372036854775807) : ordB (numB m) (numB n) = if m < n then -1 else if n < m then 1 else 0 := by
  unfold numB
  rw [ordB_same, beN_ord 8 _ _ (flip_lt m h2) (flip_lt n h4)]
  unfold flip
  by_cases c1 : m < n
  · rw [if_pos c1, if_pos (by omega)]
  · by_cases c2 : n < m
    · rw [if_neg c1, if_pos c2, if_neg (by omega), if_pos (by omega)]
    · rw [if_neg c1, if_neg c2, if_neg (by omega), if_neg (by omega)]
theorem numB_val (n : Int) (h : n ≤ 9223372036854775807) : valN 0 (beN 8 (flip n)) = flip n := by
  rw [valN_beN, Nat.mod_eq_of_lt (flip_lt n h), Nat.zero_mul, Nat.zero_add]
theorem numB_inj (m n : Int) (h1 : -9223372036854775808 ≤ m) (h2 : m ≤ 9223372036854775807) (h3 : -9223372036854775808 ≤ n) (h4 : n ≤ 9223372036854775807) (h : numB m = numB n) : m = n := by
  have h5 := numB_ord m n h1 h2 h3 h4
  rw [h, ordB_self] at h5
  split at h5
  · cases h5
  · split at h5
    · cases h5
    · omega
theorem num_text (n : Int) (s u v : List UInt8) : numB n ++ u ≠ textB s ++ v := by
  unfold numB textB
  intro h
  rw [List.cons_append, List.cons_append, List.cons.injEq] at h
  exact absurd h.1 (by decide)
theorem num_text_ord (n : Int) (s : List UInt8) : ordB (numB n) (textB s) = -1 := ordB_lt _ _ (by decide)

/-! ### what bytes begin with -/
inductive Tk where
  | ok (s : List UInt8) (n : Nat)
  | no (e : Int)
/-- The text behind the byte 2: what was read so far, at which byte the rest begins. -/
def takeS (acc : List UInt8) (at1 : Nat) : List UInt8 → Tk
  | [] => .no 20
  | [c] => if c = 0 then .no 20 else if 200 ≤ acc.length then .no 32 else .no 20
  | c :: d :: r =>
    if c = 0 then
      if d = 0 then .ok acc (at1 + 2)
      else if d = 255 then (if 200 ≤ acc.length then .no 32 else takeS (acc ++ [0]) (at1 + 2) r)
      else .no 10
    else if 200 ≤ acc.length then .no 32 else takeS (acc ++ [c]) (at1 + 1) (d :: r)
theorem takeS_other {c : UInt8} (h : c ≠ 0) (acc : List UInt8) (at1 : Nat) (r : List UInt8) : takeS acc at1 (c :: r) = if 200 ≤ acc.length then .no 32 else takeS (acc ++ [c]) (at1 + 1) r := by
  cases r with
  | nil => simp [takeS, h]
  | cons d r => simp [takeS, h]
theorem takeS_esc : ∀ (s acc : List UInt8) (at1 : Nat) (r : List UInt8), acc.length + s.length ≤ 200 → takeS acc at1 (esc0 s ++ 0 :: 0 :: r) = .ok (acc ++ s) (at1 + (esc0 s).length + 2)
  | [], acc, at1, r, h => by
    show takeS acc at1 (0 :: 0 :: r) = _
    rw [takeS, if_pos rfl, if_pos rfl, List.append_nil]
    rfl
  | c :: s, acc, at1, r, h => by
    rw [List.length_cons] at h
    by_cases h0 : c = 0
    · subst h0
      rw [esc0_zero]
      show takeS acc at1 (0 :: 255 :: (esc0 s ++ 0 :: 0 :: r)) = _
      rw [takeS, if_pos rfl, if_neg (by decide), if_pos rfl, if_neg (by omega), takeS_esc s _ _ r (by rw [List.length_append, List.length_cons, List.length_nil]; omega)]
      congr 1
      · rw [List.append_assoc]; rfl
      · rw [List.length_cons, List.length_cons]; omega
    · rw [esc0_other _ h0]
      show takeS acc at1 (c :: (esc0 s ++ 0 :: 0 :: r)) = _
      rw [takeS_other h0, if_neg (by omega), takeS_esc s _ _ r (by rw [List.length_append, List.length_cons, List.length_nil]; omega)]
      congr 1
      · rw [List.append_assoc]; rfl
      · rw [List.length_cons]; omega
end Go.Proofs.YtgacphpkgaobkaaDoor
