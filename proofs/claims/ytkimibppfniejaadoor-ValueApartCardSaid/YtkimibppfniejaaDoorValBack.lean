/- Plain Lean: values' bytes in order and apart; a whole number's text and a text of runes' are read as themselves. -/
import Derived.Test.YtkimibppfniejaaDoorValRow
import Derived.Test.YtkimibppfniejaaDoorValOrd
import Derived.Test.YtkimibppfniejaaDoorQuoteMath
import Derived.Test.YtkimibppfniejaaDoorRun
import Derived.Laws.Cover4
set_option linter.unusedVariables false
namespace Go.Proofs.YtkimibppfniejaaDoor
open Go Go.RowKit

theorem right_kinds {k n : Int} {s : ByteArray} (h : rightV k n s = true) : (k = 1 ∧ s = ⟨#[]⟩) ∨ (k = 2 ∧ n = 0 ∧ s.size ≤ 200) := by
  rw [rightV_eq] at h
  cases hi : isIntV k s with
  | true => exact .inl (int_empty hi)
  | false =>
    rw [hi, Bool.false_or] at h
    refine .inr ⟨text_kind h, ?_, isTextV_size h⟩
    unfold isTextV at h
    simp at h
    exact h.1.2
theorem bytes_ord {k1 n1 : Int} {s1 : ByteArray} {k2 n2 : Int} {s2 : ByteArray} (h1 : rightV k1 n1 s1 = true) (h2 : rightV k2 n2 s2 = true)
    (a0 : -9223372036854775808 ≤ n1) (a1 : n1 ≤ 9223372036854775807) (b0 : -9223372036854775808 ≤ n2) (b1 : n2 ≤ 9223372036854775807) :
    ordB (bytesV k1 n1 s1) (bytesV k2 n2 s2) = cmpV k1 n1 s1 k2 n2 s2 := by
  rcases right_kinds h1 with ⟨rfl, rfl⟩ | ⟨rfl, rfl, _⟩ <;> rcases right_kinds h2 with ⟨rfl, rfl⟩ | ⟨rfl, rfl, _⟩
  · show ordB (numB n1) (numB n2) = _
    rw [numB_ord n1 n2 a0 a1 b0 b1]
    unfold cmpV
    rw [if_pos rfl]
    by_cases e : n1 = n2
    · subst e
      rw [if_pos rfl, if_neg (by omega), if_neg (by omega)]
      rfl
    · rw [if_neg e]
      by_cases e2 : n1 < n2
      · rw [if_pos e2, if_pos e2]
      · rw [if_neg e2, if_neg e2, if_pos (by omega)]
  · show ordB (numB n1) (textB s2.data.toList) = _
    rw [num_text_ord]
    rfl
  · show ordB (textB s1.data.toList) (numB n2) = _
    rw [ordB_neg, num_text_ord]
    rfl
  · show ordB (textB s1.data.toList) (textB s2.data.toList) = _
    rw [textB_ord]
    rfl
theorem bytes_same {k1 n1 : Int} {s1 : ByteArray} {k2 n2 : Int} {s2 : ByteArray} (h1 : rightV k1 n1 s1 = true) (h2 : rightV k2 n2 s2 = true)
    (a0 : -9223372036854775808 ≤ n1) (a1 : n1 ≤ 9223372036854775807) (b0 : -9223372036854775808 ≤ n2) (b1 : n2 ≤ 9223372036854775807) :
    (bytesV k1 n1 s1 = bytesV k2 n2 s2) ↔ (k1 = k2 ∧ n1 = n2 ∧ s1 = s2) := by
  rw [← ordB_zero, bytes_ord h1 h2 a0 a1 b0 b1, cmpV_zero]
theorem str_iff (a b : List UInt8) : ((⟨a.toArray⟩ : ByteArray).toList == (⟨b.toArray⟩ : ByteArray).toList) = decide (a = b) := by
  rw [ByteArray.toList_eq, ByteArray.toList_eq, Bool.eq_iff_iff]
  simp
theorem bytes_str {k1 n1 : Int} {s1 : ByteArray} {k2 n2 : Int} {s2 : ByteArray} (h1 : rightV k1 n1 s1 = true) (h2 : rightV k2 n2 s2 = true)
    (a0 : -9223372036854775808 ≤ n1) (a1 : n1 ≤ 9223372036854775807) (b0 : -9223372036854775808 ≤ n2) (b1 : n2 ≤ 9223372036854775807) :
    ((⟨(bytesV k1 n1 s1).toArray⟩ : ByteArray).toList == (⟨(bytesV k2 n2 s2).toArray⟩ : ByteArray).toList) = sameV k1 n1 s1 k2 n2 s2 := by
  rw [str_iff, sameV_iff]
  exact decide_eq_decide.2 (bytes_same h1 h2 a0 a1 b0 b1)
theorem bytesR_V {k n : Int} {s : ByteArray} (h : rightV k n s = true) : bytesR k n s = bytesV k n s := by unfold bytesR; rw [h]; rfl
theorem begin_same {k1 n1 : Int} {s1 : ByteArray} {k2 n2 : Int} {s2 : ByteArray} (h1 : rightV k1 n1 s1 = true) (h2 : rightV k2 n2 s2 = true)
    (a0 : -9223372036854775808 ≤ n1) (a1 : n1 ≤ 9223372036854775807) (b0 : -9223372036854775808 ≤ n2) (b1 : n2 ≤ 9223372036854775807)
    (z : List UInt8) (h : bytesV k2 n2 s2 = bytesV k1 n1 s1 ++ z) : k1 = k2 ∧ n1 = n2 ∧ s1 = s2 := by
  have t1 := takeV_bytes k1 n1 s1 z h1 a0 a1
  have t2 := takeV_bytes k2 n2 s2 [] h2 b0 b1
  rw [bytesR_V h1] at t1
  rw [bytesR_V h2, List.append_nil, h] at t2
  rw [t1] at t2
  unfold valV at t2
  simp at t2
  exact t2.1
/-- The beginnings of two values' bytes, as long as the shorter ones. -/
theorem begin_iff {k1 n1 : Int} {s1 : ByteArray} {k2 n2 : Int} {s2 : ByteArray} (h1 : rightV k1 n1 s1 = true) (h2 : rightV k2 n2 s2 = true)
    (a0 : -9223372036854775808 ≤ n1) (a1 : n1 ≤ 9223372036854775807) (b0 : -9223372036854775808 ≤ n2) (b1 : n2 ≤ 9223372036854775807)
    (m : Nat) (hm : m = min (bytesV k1 n1 s1).length (bytesV k2 n2 s2).length) :
    (bytesV k1 n1 s1).take m = (bytesV k2 n2 s2).take m ↔ (k1 = k2 ∧ n1 = n2 ∧ s1 = s2) := by
  constructor
  · intro h
    by_cases hl : (bytesV k1 n1 s1).length ≤ (bytesV k2 n2 s2).length
    · have e : m = (bytesV k1 n1 s1).length := by omega
      rw [e, List.take_of_length_le (Nat.le_refl _)] at h
      refine begin_same h1 h2 a0 a1 b0 b1 ((bytesV k2 n2 s2).drop (bytesV k1 n1 s1).length) ?_
      rw [← List.take_append_drop (bytesV k1 n1 s1).length (bytesV k2 n2 s2), ← h]
      simp
    · have e : m = (bytesV k2 n2 s2).length := by omega
      rw [e, List.take_of_length_le (Nat.le_refl (bytesV k2 n2 s2).length)] at h
      have hh := begin_same h2 h1 b0 b1 a0 a1 ((bytesV k1 n1 s1).drop (bytesV k2 n2 s2).length) (by
        conv => lhs; rw [← List.take_append_drop (bytesV k2 n2 s2).length (bytesV k1 n1 s1), h])
      exact ⟨hh.1.symm, hh.2.1.symm, hh.2.2.symm⟩
  · rintro ⟨rfl, rfl, rfl⟩
    rfl

/-! ### a number's text -/
theorem parse_append : ∀ (l r : List UInt8) (acc : Nat), Lib.parseUint10 acc (l ++ r) = match Lib.parseUint10 acc l with | .ok v => Lib.parseUint10 v r | .syntax => .syntax | .range => .range
  | [], r, acc => rfl
  | c :: l, r, acc => by
    rw [List.cons_append]
    simp only [Lib.parseUint10]
    split
    · split
      · rfl
      · split
        · rfl
        · exact parse_append l r _
    · rfl
theorem digit_nat (d : Nat) (h : d < 10) : (UInt8.ofNat (48 + d)).toNat = 48 + d := by
  rw [UInt8.toNat_ofNat']
  omega
theorem parse_digit (acc d : Nat) (hd : d < 10) (ha : acc ≤ 1844674407370955161) (hs : acc * 10 + d < 18446744073709551616) : Lib.parseUint10 acc [UInt8.ofNat (48 + d)] = .ok (acc * 10 + d) := by
  simp only [Lib.parseUint10, digit_nat d hd]
  rw [if_pos (by omega), if_neg (by omega), if_neg (by omega)]
  congr 1
  omega
theorem dec_step (u : Nat) (h : ¬ u < 10) : Lib.decDigits u = Lib.decDigits (u / 10) ++ [UInt8.ofNat (48 + u % 10)] := by
  rw [Lib.decDigits, dif_neg h]
theorem parse_dec (u : Nat) : u < 18446744073709551616 → Lib.parseUint10 0 (Lib.decDigits u) = .ok u := by
  induction u using Nat.strongRecOn with
  | ind u ih =>
    intro hu
    by_cases h : u < 10
    · rw [Lib.decDigits_one h, parse_digit 0 u h (by omega) (by omega)]
      congr 1
      omega
    · rw [dec_step u h, parse_append, ih (u / 10) (by omega) (by omega)]
      show Lib.parseUint10 (u / 10) _ = _
      rw [parse_digit _ _ (by omega) (by omega) (by omega)]
      congr 1
      omega
theorem dec_head (u : Nat) : ∃ c r, Lib.decDigits u = c :: r ∧ 48 ≤ c.toNat ∧ c.toNat ≤ 57 := by
  induction u using Nat.strongRecOn with
  | ind u ih =>
    by_cases h : u < 10
    · exact ⟨_, [], Lib.decDigits_one h, by rw [digit_nat u h]; omega, by rw [digit_nat u h]; omega⟩
    · obtain ⟨c, r, e, h1, h2⟩ := ih (u / 10) (by omega)
      exact ⟨c, r ++ [UInt8.ofNat (48 + u % 10)], by rw [dec_step u h, e]; rfl, h1, h2⟩
theorem mag_dec (u : Nat) (hu : u < 18446744073709551616) : Lib.parseMag (Lib.decDigits u) = .ok u := by
  obtain ⟨c, r, e, _, _⟩ := dec_head u
  unfold Lib.parseMag
  rw [if_neg (by rw [e]; simp), parse_dec u hu]
theorem atoi_itoa (n : Int) (h0 : -9223372036854775808 ≤ n) (h1 : n ≤ 9223372036854775807) : Lib.atoiAll (Lib.itoa n) = .ok n := by
  unfold Lib.itoa
  by_cases h : n < 0
  · rw [if_pos h, Lib.atoiAll_minus, mag_dec _ (by omega)]
    show (if 9223372036854775808 < n.natAbs then Lib.NumEnd.range else Lib.NumEnd.ok (-(n.natAbs : Int))) = _
    rw [if_neg (by omega)]
    congr 1
    omega
  · rw [if_neg h]
    obtain ⟨c, r, e, h2, h3⟩ := dec_head n.toNat
    have hm := mag_dec n.toNat (by omega)
    rw [e] at hm ⊢
    rw [Lib.atoiAll_plain c r (by omega) (by omega), hm]
    show (if 9223372036854775808 ≤ n.toNat then Lib.NumEnd.range else Lib.NumEnd.ok (n.toNat : Int)) = _
    rw [if_neg (by omega)]
    congr 1
    omega
theorem read_num (n : Int) (h0 : -9223372036854775808 ≤ n) (h1 : n ≤ 9223372036854775807) :
    readV (printR 1 n ⟨#[]⟩) = (1, n, ⟨#[]⟩) ∧ readE (printR 1 n ⟨#[]⟩) = 0 := by
  have hp : printR 1 n ⟨#[]⟩ = ⟨(Lib.itoa n).toArray⟩ := by unfold printR textR; rw [rightV_eq, aw_n]; rfl
  have hm : meantV ⟨(Lib.itoa n).toArray⟩ = (1, n, ⟨#[]⟩) := by
    unfold meantV
    rw [show (⟨(Lib.itoa n).toArray⟩ : ByteArray).data.toList = Lib.itoa n from by simp, atoi_itoa n h0 h1]
  rw [hp]
  exact readV_yes hm (by show rightV 1 n ⟨#[]⟩ = true; rw [rightV_eq, aw_n]; rfl) hp
theorem print_num_size (n : Int) (h0 : -9223372036854775808 ≤ n) (h1 : n ≤ 9223372036854775807) : (printR 1 n ⟨#[]⟩).size ≤ 21 := by
  have hp : printR 1 n ⟨#[]⟩ = ⟨(Lib.itoa n).toArray⟩ := by unfold printR textR; rw [rightV_eq, aw_n]; rfl
  rw [hp]
  show (Lib.itoa n).toArray.size ≤ 21
  rw [List.size_toArray]
  unfold Lib.itoa
  have hd : ∀ u, u < 18446744073709551616 → (Lib.decDigits u).length ≤ 20 := fun u hu => by
    rw [Lib.decDigits_length]
    rcases Nat.lt_or_ge u 1 with h | h
    · obtain rfl : u = 0 := by omega
      rw [Lib.nDigits_small (by decide)]
      decide
    · have := (Lib.numDigits_eq u h hu)
      rw [← this.1]
      split <;> omega
  split
  · rw [List.length_cons]; have := hd n.natAbs (by omega); omega
  · have := hd n.toNat (by omega); omega

theorem escs_len : ∀ rs : List Int, (escs rs).length ≤ 2 * rs.length
  | [] => Nat.le_refl _
  | r :: rs => by
    have h1 := escs_len rs
    have h2 : (esc r).length ≤ 2 := by
      unfold esc
      split
      · simp
      · split <;> simp
    rw [escs_cons, List.length_append, List.length_cons]
    omega
theorem print_size (k n : Int) (s : ByteArray) (h : rightV k n s = true) (h0 : -9223372036854775808 ≤ n) (h1 : n ≤ 9223372036854775807) : (printR k n s).size ≤ 5000 := by
  rcases right_kinds h with ⟨rfl, rfl⟩ | ⟨rfl, rfl, hs⟩
  · have := print_num_size n h0 h1
    omega
  · have hi : isIntV 2 s = false := rfl
    have ht : isTextV 2 0 s = true := by rw [rightV_eq, hi, Bool.false_or] at h; exact h
    have hp : printR 2 0 s = ⟨(quoteL s.data.toList).toArray⟩ := by
      unfold printR textR
      rw [h, hi, ht]
      rfl
    rw [hp]
    show (quoteL s.data.toList).toArray.size ≤ 5000
    rw [List.size_toArray]
    have e1 : (quoteL s.data.toList).length = (text (escs (runes s.data.toList))).length + 2 := by unfold quoteL; simp
    have e2 := text_length_le (escs (runes s.data.toList))
    have e3 := escs_len (runes s.data.toList)
    have e4 := runes_le s
    omega

/-! ### a text of runes' text -/
theorem back_unq (z : List Int) : unquoteL (quoteL (text z)) = some (text z) := by
  rw [← text_map_norm z]
  exact unquote_quote _ (fun r hr => by
    obtain ⟨x, _, rfl⟩ := List.mem_map.1 hr
    exact okR_norm x)
theorem quote_head (l : List UInt8) : ∃ r, quoteL l = 34 :: r := ⟨_, rfl⟩
theorem atoi_quote (l : List UInt8) : Lib.atoiAll (quoteL l) = .syntax := by
  obtain ⟨r, e⟩ := quote_head l
  rw [e, Lib.atoiAll_plain 34 r (by decide) (by decide)]
  have : Lib.parseMag (34 :: r) = .syntax := by
    unfold Lib.parseMag
    rw [if_neg (by simp)]
    simp [Lib.parseUint10]
  rw [this]
  rfl
theorem read_text (z : List Int) (hs : (⟨(text z).toArray⟩ : ByteArray).size ≤ 200) :
    readV (printR 2 0 ⟨(text z).toArray⟩) = (2, 0, ⟨(text z).toArray⟩) ∧ readE (printR 2 0 ⟨(text z).toArray⟩) = 0 := by
  have hr : rightV 2 0 ⟨(text z).toArray⟩ = true := by unfold rightV; rw [decide_eq_true hs]; rfl
  have hi : isIntV 2 ⟨(text z).toArray⟩ = false := rfl
  have ht : isTextV 2 0 ⟨(text z).toArray⟩ = true := by rw [rightV_eq, hi, Bool.false_or] at hr; exact hr
  have hd : (⟨(text z).toArray⟩ : ByteArray).data.toList = text z := by simp
  have hp : printR 2 0 ⟨(text z).toArray⟩ = ⟨(quoteL (text z)).toArray⟩ := by
    unfold printR textR
    rw [hr, hi, ht, hd]
    rfl
  have hm : meantV ⟨(quoteL (text z)).toArray⟩ = (2, 0, ⟨(text z).toArray⟩) := by
    unfold meantV
    rw [show (⟨(quoteL (text z)).toArray⟩ : ByteArray).data.toList = quoteL (text z) from by simp, atoi_quote]
    show (match unquoteL (quoteL (text z)) with | some t => ((2, 0, ⟨t.toArray⟩) : Val3) | none => (0, 0, ⟨#[]⟩)) = _
    rw [back_unq]
  rw [hp]
  exact readV_yes hm hr hp
theorem runesBytes_text (zs : List Int) : runesBytes zs = ⟨(text zs).toArray⟩ := by
  have h : ∀ (zs : List Int) (acc : ByteArray), (zs.foldl (fun r n => r ++ Utf8.encode n) acc).data.toList = acc.data.toList ++ text zs := by
    intro zs
    induction zs with
    | nil => intro acc; simp [text_nil]
    | cons r zs ih =>
      intro acc
      rw [List.foldl_cons, ih, ByteArray.data_append, Array.toList_append, encode_model, text_cons, List.append_assoc]
  apply ByteArray.ext
  apply Array.toList_inj.1
  rw [show runesBytes zs = zs.foldl (fun r n => r ++ Utf8.encode n) ByteArray.empty from rfl, h]
  simp
/-- Two values of one text: the texts' Reads are one. -/
theorem print_apart {k1 n1 : Int} {s1 : ByteArray} {k2 n2 : Int} {s2 : ByteArray} (h1 : readV (printR k1 n1 s1) = (k1, n1, s1)) (h2 : readV (printR k2 n2 s2) = (k2, n2, s2)) :
    ((printR k1 n1 s1).toList == (printR k2 n2 s2).toList) = sameV k1 n1 s1 k2 n2 s2 := by
  rw [sameV_iff]
  by_cases e : printR k1 n1 s1 = printR k2 n2 s2
  · rw [str_same e]
    rw [e, h2] at h1
    simp at h1
    obtain ⟨rfl, rfl, rfl⟩ := h1
    simp
  · rw [str_diff e]
    symm
    rw [decide_eq_false_iff_not]
    rintro ⟨rfl, rfl, rfl⟩
    exact e rfl
end Go.Proofs.YtkimibppfniejaaDoor
