/- How the code lays a value's bytes. -/
import Derived.Test.YtgacphpkgaobkaaDoorValBytes
import Derived.Laws.Bits64
set_option linter.unusedVariables false
namespace Go.Proofs.YtgacphpkgaobkaaDoor
open Go Go.RowKit
/-- What a function that lays bytes hands back. -/
def LayPost (w : World) (bs : List UInt8) (e : Ending) (w' : World) : Prop := ∃ v, e = .returned v ∧ URow w' w.heap.size v bs.length bs ∧ Below w.heap.size w w'
theorem esc0_snoc_zero (t : List UInt8) : esc0 (t ++ [0]) = esc0 t ++ [0, 255] := by rw [esc0_append]; rfl

set_option maxHeartbeats 1000000 in
set_option maxRecDepth 100000 in
theorem layText_any (s : ByteArray) (w : World) (hs : s.size ≤ 1000000) :
    Calls Tryd.prog 67 #[.string s] w (LayPost w (textB s.data.toList)) := by
  obtain ⟨i0, hi, hz0, hz1, hz2⟩ := info_parts byte_infoV
  go_enter Tryd.func67, Tryd.ntmps67
  go_wp2_with fail
  go_loopw [3, 8] (fun x i wr => ∃ (j l : Nat) (v : Value), x = v ∧ i = .int .i64 (j : Nat) ∧ j ≤ s.size ∧ l = 1 + (esc0 (s.data.toList.take j)).length ∧ URow wr w.heap.size v l (2 :: esc0 (s.data.toList.take j)) ∧ Below w.heap.size w wr) (fun _ i _ => s.size - (intOf i).toNat)
  case atStart => exact ⟨0, 1, _, rfl, rfl, Nat.zero_le _, rfl, World.ownsRow_lit (base := w.heap.size) (e := 5) (size := 1) w #[.int .u8 2] 1 (Nat.le_refl _) (by decide) rfl, (Below.refl _ _).alloc (Nat.le_refl _) _⟩
  case round =>
    obtain ⟨j, l, v, rfl, rfl, hj, hl, hrow, hbw⟩ := hrel
    have hbs : w.heap.size ≤ wr.heap.size := hbw.size
    have hlen := (esc0_length (s.data.toList.take j)).2
    have htl : (s.data.toList.take j).length ≤ 1000000 := by rw [List.length_take]; omega
    have hl2 : l ≤ 2000001 := by omega
    have HL := Lib.hid hl
    clear hl hlen htl
    by_cases hlt : j < s.size
    · have htk : s.data.toList.take (j + 1) = s.data.toList.take j ++ [s[j]] := by
        have h2 : j < s.data.toList.length := by rw [Array.length_toList]; exact hlt
        rw [List.take_succ_eq_append_getElem h2]
        rfl
      have HTk := Lib.hid htk
      clear htk
      by_cases c0 : s[j] = 0
      · have hx : (s[j]).toNat = 0 := by rw [c0]; rfl
        have HE : Hid (esc0 (s.data.toList.take (j + 1)) = esc0 (s.data.toList.take j) ++ [0, 255]) := Lib.hid (by rw [HTk.out, c0, esc0_snoc_zero])
        clear c0
        obtain ⟨x, hxx⟩ : ∃ x, (s[j]).toNat = x := ⟨_, rfl⟩
        rw [hxx] at hx
        have hxb : ((x : Int) == 0) = true := by rw [hx]; rfl
        have HX := Lib.hid hx
        clear hx
        go_wp2_with (at_builtin; refine wpList_append_own _ rfl _ _ 43 rfl w.heap.size 5 i0 (.int .u8 0) 1 1 Tryd.underlying43 hi hz0 hz1 hz2 rfl (by decide) _ _ _ rfl (hrow.alloc _) ⟨wr.heap.size, 0, none⟩ 1 1 [.int .u8 (x : Int)] rfl rfl ?a4 ?b4 ?c4 ?d4 ?e4 ?_)
        try (case a4 => exact (World.ownsRow_lit (base := wr.heap.size) (e := 5) (size := 1) wr #[.int .u8 (x : Int)] 1 (Nat.le_refl _) (by decide) rfl).cells rfl)
        try (case b4 => intro u' hu'; simp at hu'; subst hu'; rfl)
        try (case c4 => unfold maxLen; omega)
        try (case d4 => omega)
        try (case e4 => simp; omega)
        intro v' w4 hown' hgrow _
        have hbw4 : Below w.heap.size w w4 := (hbw.alloc (by omega) _).grown hgrow (by simp; omega) (fun k' hk' => (hrow.lt k' hk').1)
        have hbs4 := hbw4.size
        go_wp2_with (at_builtin; refine wpList_append_own _ rfl _ _ 43 rfl w.heap.size 5 i0 (.int .u8 0) 1 1 Tryd.underlying43 hi hz0 hz1 hz2 rfl (by decide) _ _ _ rfl (hown'.alloc _) ⟨w4.heap.size, 0, none⟩ 1 1 [.int .u8 255] rfl rfl ?a7 ?b7 ?c7 ?d7 ?e7 ?_)
        try (case a7 => exact (World.ownsRow_lit (base := w4.heap.size) (e := 5) (size := 1) w4 #[.int .u8 255] 1 (Nat.le_refl _) (by decide) rfl).cells rfl)
        try (case b7 => intro u' hu'; simp at hu'; subst hu'; rfl)
        try (case c7 => unfold maxLen; omega)
        try (case d7 => omega)
        try (case e7 => simp; omega)
        intro v5 w5 hown5 hgrow5 _
        have hbw5 : Below w.heap.size w w5 := (hbw4.alloc (by omega) _).grown hgrow5 (by simp; omega) (fun k' hk' => (hown'.lt k' hk').1)
        go_wp2_with fail
        go_roundw
        case rel =>
          refine ⟨j + 1, l + 1 + 1, v5, rfl, by go_num, by omega, ?_, ?_, hbw5⟩
          · rw [HE.out, List.length_append, HL.out]; simp only [List.length_cons, List.length_nil]; omega
          · unfold URow
            rw [HE.out, ← List.cons_append, List.map_append]
            rw [HX.out] at hown5
            exact hown5
        case measure => first | (simp [intOf]; omega) | simp [intOf]
      · have hx0 : (s[j]).toNat ≠ 0 := fun h => c0 (UInt8.toNat_inj.1 (h.trans rfl))
        have HE : Hid (esc0 (s.data.toList.take (j + 1)) = esc0 (s.data.toList.take j) ++ [s[j]]) := Lib.hid (by rw [HTk.out, esc0_append, esc0_other _ c0]; rfl)
        clear c0
        obtain ⟨x, hx⟩ : ∃ x, (s[j]).toNat = x := ⟨_, rfl⟩
        rw [hx] at hx0
        have hxb : ((x : Int) == 0) = false := by simp; omega
        go_wp2_with (at_builtin; refine wpList_append_own _ rfl _ _ 43 rfl w.heap.size 5 i0 (.int .u8 0) 1 1 Tryd.underlying43 hi hz0 hz1 hz2 rfl (by decide) _ _ _ rfl (hrow.alloc _) ⟨wr.heap.size, 0, none⟩ 1 1 [.int .u8 (x : Int)] rfl rfl ?a5 ?b5 ?c5 ?d5 ?e5 ?_)
        try (case a5 => exact (World.ownsRow_lit (base := wr.heap.size) (e := 5) (size := 1) wr #[.int .u8 (x : Int)] 1 (Nat.le_refl _) (by decide) rfl).cells rfl)
        try (case b5 => intro u' hu'; simp at hu'; subst hu'; rfl)
        try (case c5 => unfold maxLen; omega)
        try (case d5 => omega)
        try (case e5 => simp; omega)
        intro v' w4 hown' hgrow _
        have hbw4 : Below w.heap.size w w4 := (hbw.alloc (by omega) _).grown hgrow (by simp; omega) (fun k' hk' => (hrow.lt k' hk').1)
        go_wp2_with fail
        go_roundw
        case rel =>
          refine ⟨j + 1, l + 1, v', rfl, by go_num, by omega, ?_, ?_, hbw4⟩
          · rw [HE.out, List.length_append, HL.out]; simp only [List.length_cons, List.length_nil]; omega
          · unfold URow
            rw [HE.out, ← List.cons_append, List.map_append]
            rw [show [s[j]].map u8v = [Value.int .u8 (x : Int)] from by unfold u8v; rw [List.map_cons, hx]; rfl]; exact hown'
        case measure => first | (simp [intOf]; omega) | simp [intOf]
    · obtain rfl : j = s.size := by omega
      go_wp2_with (at_builtin; refine wpList_append_own _ rfl _ _ 43 rfl w.heap.size 5 i0 (.int .u8 0) 1 1 Tryd.underlying43 hi hz0 hz1 hz2 rfl (by decide) _ _ _ rfl (hrow.alloc _) ⟨wr.heap.size, 0, none⟩ 2 2 [.int .u8 0, .int .u8 0] rfl rfl ?a6 ?b6 ?c6 ?d6 ?e6 ?_)
      try (case a6 => exact (World.ownsRow_lit (base := wr.heap.size) (e := 5) (size := 1) wr #[.int .u8 0, .int .u8 0] 2 (Nat.le_refl _) (by decide) rfl).cells rfl)
      try (case b6 => intro u' hu'; simp at hu'; rcases hu' with rfl | rfl <;> rfl)
      try (case b6 => intro u' hu'; simp at hu'; subst hu'; rfl)
      try (case c6 => unfold maxLen; omega)
      try (case d6 => omega)
      try (case e6 => simp; omega)
      intro v' w4 hown' hgrow _
      have hbw4 : Below w.heap.size w w4 := (hbw.alloc (by omega) _).grown hgrow (by simp; omega) (fun k' hk' => (hrow.lt k' hk').1)
      go_wp2_with fail
      go_ret
      refine ⟨v', rfl, ?_, hbw4⟩
      have e : textB s.data.toList = (2 :: esc0 s.data.toList) ++ [0, 0] := by unfold textB; rfl
      have et : s.data.toList.take s.size = s.data.toList := List.take_of_length_le (by rw [Array.length_toList]; exact Nat.le_refl _)
      rw [et] at hown'
      have el : (textB s.data.toList).length = l + 2 := by rw [e, HL.out, et, List.length_append, List.length_cons, List.length_cons, List.length_cons, List.length_nil]; omega
      unfold URow
      rw [el, e, List.map_append]
      exact hown'
theorem beN_get : ∀ k m j, j < k → (beN k m)[j]? = some (UInt8.ofNat (m / 256 ^ (k - 1 - j)))
  | 0, _, j, h => by omega
  | k + 1, m, 0, _ => by rw [beN]; simp
  | k + 1, m, j + 1, h => by
    rw [beN, List.getElem?_cons_succ, beN_get k m j (by omega)]
    congr 4
    omega
theorem beN_take (k m j : Nat) (h : j < k) : (beN k m).take (j + 1) = (beN k m).take j ++ [UInt8.ofNat (m / 256 ^ (k - 1 - j))] := by
  have hl : j < (beN k m).length := by rw [beN_length]; exact h
  have h1 := beN_get k m j h
  rw [List.getElem?_eq_getElem hl] at h1
  rw [List.take_succ_eq_append_getElem hl]
  injection h1 with h1
  rw [h1]
theorem xor_top (X : Nat) (h : X < 2 ^ 64) : X ^^^ 2 ^ 63 = (2 ^ 63 + X) % 2 ^ 64 := by
  apply Nat.eq_of_testBit_eq
  intro i
  rw [Nat.testBit_xor, Nat.testBit_mod_two_pow, Nat.testBit_two_pow]
  rcases Nat.lt_trichotomy i 63 with h1 | h1 | h1
  · rw [Nat.testBit_two_pow_add_gt h1]
    have : (63 = i) = False := by simp; omega
    simp [this]
    omega
  · subst h1
    rw [Nat.testBit_two_pow_add_eq]
    simp
  · have h2 : X.testBit i = false := Nat.testBit_lt_two_pow (Nat.lt_of_lt_of_le h (Nat.pow_le_pow_right (by decide) (by omega)))
    have : (63 = i) = False := by simp; omega
    have h3 : ¬ i < 64 := by omega
    simp [h2, this, h3]
theorem flip_xor (n : Int) (h0 : -9223372036854775808 ≤ n) (h1 : n ≤ 9223372036854775807) : bits .xor .u64 (IntKind.u64.wrap n) 9223372036854775808 = ((flip n : Nat) : Int) := by
  obtain ⟨X, hX⟩ : ∃ X : Nat, IntKind.u64.wrap n = (X : Int) ∧ X < 18446744073709551616 := ⟨(IntKind.u64.wrap n).toNat, by rw [IntKind.wrap_u64]; omega, by rw [IntKind.wrap_u64]; omega⟩
  rw [hX.1, show (9223372036854775808 : Int) = ((9223372036854775808 : Nat) : Int) from rfl, bits_xor_u64_nat _ _ hX.2 (by decide)]
  have h2 := xor_top X hX.2
  rw [show (2 : Nat) ^ 63 = 9223372036854775808 from by decide, show (2 : Nat) ^ 64 = 18446744073709551616 from by decide] at h2
  rw [h2]
  have h3 := hX.1
  rw [IntKind.wrap_u64] at h3
  unfold flip
  omega

theorem shift_byte (m j : Nat) (q : Int) (hq : q = 56 - 8 * (j : Int)) (hj : j < 8) : (m : Int) / 2 ^ q.toNat % 256 = ((m / 256 ^ (8 - 1 - j) : Nat) : Int) % 256 := by
  have h1 : q.toNat = 8 * (8 - 1 - j) := by omega
  rw [h1, Int.natCast_ediv, Int.natCast_pow, Int.pow_mul]
  rfl
set_option maxHeartbeats 1000000 in
set_option maxRecDepth 100000 in
theorem layInt_any (n : Int) (w : World) (hn0 : -9223372036854775808 ≤ n) (hn1 : n ≤ 9223372036854775807) :
    Calls Tryd.prog 66 #[.int .i64 n] w (LayPost w (numB n)) := by
  obtain ⟨i0, hi, hz0, hz1, hz2⟩ := info_parts byte_infoV
  go_enter Tryd.func66, Tryd.ntmps66
  go_wp2_with fail
  rw [flip_xor n hn0 hn1]
  have hfl := flip_lt n hn1
  have p8 : (256 : Nat) ^ 8 = 18446744073709551616 := by decide
  rw [p8] at hfl
  obtain ⟨m, hm⟩ : ∃ m, flip n = m := ⟨_, rfl⟩
  rw [hm] at hfl ⊢
  have HM := Lib.hid hm
  clear hm p8
  go_loopw [3, 5] (fun x i wr => ∃ (j : Nat) (q : Int) (v : Value), x = v ∧ i = .int .i64 q ∧ q = 56 - 8 * (j : Int) ∧ j ≤ 8 ∧ URow wr w.heap.size v (1 + j) (1 :: (beN 8 m).take j) ∧ Below w.heap.size w wr) (fun _ i _ => (intOf i + 8).toNat)
  case atStart => exact ⟨0, 56, _, rfl, rfl, rfl, by omega, World.ownsRow_lit (base := w.heap.size) (e := 5) (size := 1) w #[.int .u8 1] 1 (Nat.le_refl _) (by decide) rfl, (Below.refl _ _).alloc (Nat.le_refl _) _⟩
  case round =>
    obtain ⟨j, q, v, rfl, rfl, hq, hj, hrow, hbw⟩ := hrel
    have hbs : w.heap.size ≤ wr.heap.size := hbw.size
    by_cases hlt : j < 8
    · have hx := (u8v_ofNat (m / 256 ^ (8 - 1 - j))).trans (congrArg (Value.int .u8) (shift_byte m j q hq hlt).symm)
      have htk := beN_take 8 m j hlt
      have HX := Lib.hid hx
      have HT := Lib.hid htk
      have hq0 : 0 ≤ q := by omega
      have hq1 : q ≤ 56 := by omega
      have HQ := Lib.hid hq
      clear hq hx htk
      obtain ⟨g, cap, rfl⟩ := URow.form hrow (by omega)
      go_wp2_with (at_builtin; refine wpList_append_own _ rfl _ _ 43 rfl w.heap.size 5 i0 (.int .u8 0) 1 1 Tryd.underlying43 hi hz0 hz1 hz2 rfl (by decide) _ _ _ rfl (hrow.alloc _) ⟨wr.heap.size, 0, none⟩ 1 1 [.int .u8 ((m : Int) / 2 ^ q.toNat % 256)] rfl rfl ?a4 ?b4 ?c4 ?d4 ?e4 ?_)
      try (case a4 => exact (World.ownsRow_lit (base := wr.heap.size) (e := 5) (size := 1) wr #[.int .u8 ((m : Int) / 2 ^ q.toNat % 256)] 1 (Nat.le_refl _) (by decide) rfl).cells rfl)
      try (case b4 => intro u' hu'; simp at hu'; subst hu'; rfl)
      try (case c4 => unfold maxLen; omega)
      try (case d4 => omega)
      try (case e4 => simp; omega)
      intro v' w4 hown' hgrow _
      have hbw4 : Below w.heap.size w w4 := (hbw.alloc (by omega) _).grown hgrow (by simp; omega) (fun k' hk' => (hrow.lt k' hk').1)
      go_wp2_with fail
      go_roundw
      case rel =>
        refine ⟨j + 1, q - 8, v', rfl, by go_num, by rw [HQ.out]; omega, by omega, ?_, hbw4⟩
        unfold URow
        rw [HT.out, ← List.cons_append, List.map_append, ← Nat.add_assoc, show [UInt8.ofNat (m / 256 ^ (8 - 1 - j))].map u8v = [Value.int .u8 ((m : Int) / 2 ^ q.toNat % 256)] from by rw [List.map_cons, HX.out]; rfl]
        rw [← List.map_take] at hown'
        exact hown'
      case measure => simp [intOf]; omega
    · obtain rfl : j = 8 := by omega
      obtain rfl : q = -8 := by omega
      go_wp2_with fail
      go_ret
      refine ⟨_, rfl, ?_, hbw⟩
      have e : numB n = 1 :: (beN 8 m).take 8 := by unfold numB; rw [HM.out, List.take_of_length_le (by rw [beN_length]; exact Nat.le_refl _)]
      have el : (numB n).length = 1 + 8 := by rw [numB_length]
      unfold URow
      rw [el, e]
      exact hrow
end Go.Proofs.YtgacphpkgaobkaaDoor
