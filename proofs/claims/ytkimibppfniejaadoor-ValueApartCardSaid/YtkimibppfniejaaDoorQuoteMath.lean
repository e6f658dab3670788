/- Plain facts: which texts are quoted ones, and what they stand for, rune by rune and byte by byte. -/
import Derived.Test.YtkimibppfniejaaDoorMath
namespace Go.Proofs.YtkimibppfniejaaDoor
open Go

theorem encode_last {r : Int} (a b : List UInt8) (h : a ++ Lib.encodeRune r = b ++ [34]) : r = 34 ∧ a = b := by
  have key : ∀ (p : List UInt8) (c : UInt8), Lib.encodeRune r = p ++ [c] → c = 34 ∧ a ++ p = b := fun p c e => by
    rw [e, ← List.append_assoc] at h
    have := List.append_inj' h rfl
    exact ⟨by simpa using this.2, this.1⟩
  have hi : ∀ x : Int, 128 ≤ x → x ≤ 255 → x.toNat.toUInt8 ≠ 34 := fun x h0 h1 e => by
    have := congrArg UInt8.toNat e
    rw [byte_nat _ (by omega)] at this
    have h2 : (34 : UInt8).toNat = 34 := rfl
    omega
  by_cases hok : okR r = true
  · have h0 := hok
    unfold okR at h0
    rw [decide_eq_true_eq] at h0
    by_cases c1 : r ≤ 127
    · obtain ⟨k1, k2⟩ := key [] _ (encode_one (by omega) c1)
      have := congrArg UInt8.toNat k1
      rw [byte_nat _ (by omega)] at this
      have h2 : (34 : UInt8).toNat = 34 := rfl
      exact ⟨by omega, by simpa using k2⟩
    · exfalso
      by_cases c2 : r ≤ 2047
      · exact hi _ (by omega) (by omega) (key [_] _ (encode_two (by omega) c2)).1
      · by_cases c3 : r ≤ 65535
        · exact hi _ (by omega) (by omega) (key [_, _] _ (encode_three (by omega))).1
        · exact hi _ (by omega) (by omega) (key [_, _, _] _ (encode_four (by omega) (by omega))).1
  · exfalso
    have hb := encode_bad (r := r) (by simpa using hok)
    have e : Lib.encodeRune 65533 = [239, 191] ++ [189] := by decide
    exact absurd (key [239, 191] 189 (hb.trans e)).1 (by decide)
theorem text_last : ∀ (R : List Int) (inner : List UInt8), text R = inner ++ [34] → ∃ R', R = R' ++ [34] ∧ text R' = inner := by
  intro R inner h
  rcases List.eq_nil_or_concat R with rfl | ⟨R', x, rfl⟩
  · simp [text_nil] at h
  · rw [List.concat_eq_append, text_append] at h
    have e : text [x] = Lib.encodeRune x := by simp [text]
    rw [e] at h
    obtain ⟨rfl, h2⟩ := encode_last _ _ h
    exact ⟨R', by simp, h2⟩
theorem ok_of_escs (ys : List Int) (h : ∀ r ∈ escs ys, okR r = true) : ∀ r ∈ ys, okR r = true := by
  intro y hy
  by_cases c : y = 10
  · subst c; rfl
  · refine h y (List.mem_flatMap.2 ⟨y, hy, ?_⟩)
    unfold esc
    split
    · simp
    · first | (rw [if_neg c]; simp; done) | simp
/-- A text between marks. -/
theorem between (l : List UInt8) (h2 : 2 ≤ l.length) (hh : l.head? = some 34) (hl : l.getLast? = some 34) : l = 34 :: ((l.drop 1).dropLast ++ [34]) := by
  cases l with
  | nil => simp at h2
  | cons a t =>
    simp only [List.head?_cons, Option.some.injEq] at hh
    subst hh
    rcases List.eq_nil_or_concat t with rfl | ⟨u, x, rfl⟩
    · simp at h2
    · rw [List.concat_eq_append] at hl ⊢
      have e1 : (34 :: (u ++ [x])).getLast? = some x := by
        rw [← List.cons_append, List.getLast?_append]
        rfl
      rw [e1] at hl
      injection hl with hl
      subst hl
      simp
/-- What is read is what was quoted. -/
theorem unquote_sound (l t : List UInt8) (h : unquoteL l = some t) : quoteL t = l ∧ ub (l.drop 1).dropLast = t := by
  unfold unquoteL at h
  split at h
  · rename_i hc
    obtain ⟨h2, hh, hl, hv⟩ := hc
    have hb := between l h2 hh hl
    generalize (l.drop 1).dropLast = inner at *
    have htr := text_runes l hv
    have hr1 : runes l = 34 :: runes (inner ++ [34]) := by
      rw [hb]
      exact runes_encode 34 (inner ++ [34])
    rw [hr1, text_cons] at htr
    have htr2 : text (runes (inner ++ [34])) = inner ++ [34] := by
      have e34 : Lib.encodeRune 34 = [34] := by decide
      rw [e34] at htr
      have h5 := htr.trans hb
      simpa using h5
    obtain ⟨R, hR, hRt⟩ := text_last _ _ htr2
    have hok : ∀ r ∈ R, okR r = true := fun r hr => okR_runes (inner ++ [34]) r (by rw [hR]; simp [hr])
    have hri : runes inner = R := by rw [← hRt]; exact runes_text_ok R hok
    rw [hri] at h
    cases hu : unescS false R with
    | none => rw [hu] at h; cases h
    | some ys =>
      rw [hu] at h
      simp only [Option.map_some, Option.some.injEq] at h
      subst h
      have he := escs_unesc R false ys hu
      simp only [Bool.false_eq_true, if_false] at he
      subst he
      have hys := ok_of_escs ys hok
      refine ⟨?_, by rw [← hRt]; exact ub_escs ys⟩
      unfold quoteL
      rw [runes_text_ok ys hys, hRt]
      exact hb.symm
  · cases h
/-- What is quoted is read. -/
theorem unquote_full (l : List UInt8) (h2 : 2 ≤ l.length) (h : quoteL (ub (l.drop 1).dropLast) = l) : unquoteL l = some (ub (l.drop 1).dropLast) := by
  have hok := okR_runes (ub (l.drop 1).dropLast)
  unfold quoteL at h
  generalize hrs : runes (ub (l.drop 1).dropLast) = rs at *
  have hin : (l.drop 1).dropLast = text (escs rs) := by
    rw [← h]
    simp
  have hub : ub (l.drop 1).dropLast = text rs := by rw [hin]; exact ub_escs rs
  have hv : Lib.validD l = true := by
    have e : l = text (34 :: (escs rs ++ [34])) := by
      rw [← h, text_cons, text_append]
      rfl
    rw [e]
    exact valid_text _
  have hh : l.head? = some 34 := by rw [← h]; rfl
  have hl : l.getLast? = some 34 := by
    rw [← h, ← List.cons_append, List.getLast?_append]
    rfl
  unfold unquoteL
  rw [if_pos ⟨h2, hh, hl, hv⟩, hin, runes_text_ok _ (ok_escs rs hok), unesc_escs, ub_escs]
  rfl
theorem unquote_quote (rs : List Int) (h : ∀ r ∈ rs, okR r = true) : unquoteL (quoteL (text rs)) = some (text rs) := by
  have hq : quoteL (text rs) = 34 :: (text (escs rs) ++ [34]) := by unfold quoteL; rw [runes_text_ok rs h]
  have hin : ((quoteL (text rs)).drop 1).dropLast = text (escs rs) := by rw [hq]; simp
  have h2 : 2 ≤ (quoteL (text rs)).length := by rw [hq]; simp
  have := unquote_full (quoteL (text rs)) h2 (by rw [hin, ub_escs])
  rw [this, hin, ub_escs]
end Go.Proofs.YtkimibppfniejaaDoor
