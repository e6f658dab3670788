/- What LetterBack asks: plain facts on texts of any runes. -/
import Derived.Test.YtcmikojlcckabaaDoorStars
import Derived.Test.YtcmikojlcckabaaDoorRefQuote
set_option linter.unusedVariables false
namespace Go.Proofs.YtcmikojlcckabaaDoor
open Go Go.RowKit

theorem escs_length : ∀ rs : List Int, (escs rs).length ≤ 2 * rs.length
  | [] => Nat.le_refl _
  | r :: rs => by
    have h1 := escs_length rs
    have h2 : (esc r).length ≤ 2 := by
      unfold esc
      split
      · simp
      · split <;> simp
    rw [escs_cons, List.length_append, List.length_cons]
    omega
theorem norm_len (z : List Int) : (z.map norm).length = z.length := List.length_map _
theorem norm_all (z : List Int) : ∀ r ∈ z.map norm, okR r = true := fun r hr => by
  obtain ⟨x, _, rfl⟩ := List.mem_map.1 hr
  exact okR_norm x
theorem back_unquote (z : List Int) : unquoteL (quoteL (text z)) = some (text z) := by
  rw [← text_map_norm z]
  exact unquote_quote _ (norm_all z)
theorem back_star (z : List Int) (K : Nat) : runes (text (z.take K) ++ [42] ++ text (z.drop K)) = (z.map norm).take K ++ 42 :: (z.map norm).drop K := by
  have e : [42] = text [42] := by decide
  rw [e, ← text_append, ← text_append, runes_text', List.map_append, List.map_append, List.map_take, List.map_drop]
  have e2 : List.map norm [42] = [42] := by decide
  rw [e2, List.append_assoc]
  rfl
theorem back_x (z : List Int) : runes (text z ++ [120]) = z.map norm ++ [120] := by
  have e : [120] = text [120] := by decide
  rw [e, ← text_append, runes_text', List.map_append]
  congr 1
theorem back_q (z : List Int) : runes (text z ++ [63]) = z.map norm ++ [63] := by
  have e : [63] = text [63] := by decide
  rw [e, ← text_append, runes_text', List.map_append]
  congr 1
theorem fits_star (l : List Int) (K : Nat) : fitsL l.reverse (l.take K ++ 42 :: l.drop K).reverse = true := by
  rw [List.reverse_append, List.reverse_cons, List.append_assoc]
  refine fitsL_more (l.take K).reverse _ l.reverse (l.drop K).reverse (Nat.le_refl _) ?_
  rw [← List.reverse_append, List.take_append_drop]
  exact fitsL_self _
theorem fits_q (l : List Int) : fitsL (l ++ [120]).reverse (l ++ [63]).reverse = true := by
  rw [List.reverse_append, List.reverse_append]
  show fitsL (120 :: l.reverse) (63 :: l.reverse) = true
  unfold fitsL
  rw [if_neg (by omega), fitsL_self]
  rfl
theorem cut_text (z : List Int) (K : Nat) : text (z.take K) ++ text (z.drop K) = text z := by rw [← text_append, List.take_append_drop]
theorem like_true (s p : ByteArray) (w : World) (hs : s.size ≤ 1000) (hp : p.size ≤ 1000) (h1 : (runes s.data.toList).length ≤ 200) (h2 : (runes p.data.toList).length ≤ 200) (h : fitsL (runes s.data.toList).reverse (runes p.data.toList).reverse = true) :
    Calls Tryd.prog 16 #[.string s, .string p] w fun e w' => e = .returned (.tuple #[.bool true, .int .i64 0]) ∧ Below w.heap.size w w' := by
  have := like_any s p w (by omega) (by omega)
  unfold likeR at this
  rw [if_neg (by omega), h] at this
  exact this
theorem carry {w : World} {A : Option Addr} {z : List Int} {f : FuncId} {args : Array Value} {v : Value} (h : ∀ W, Calls Tryd.prog f args W fun e w' => e = .returned v ∧ Below W.heap.size W w') (W : World) (h1 : Rd W A z) (h2 : Below w.heap.size w W) :
    Calls Tryd.prog f args W fun e w' => e = .returned v ∧ Rd w' A z ∧ Below w.heap.size w w' :=
  (h W).mono fun e w' ⟨he, hb⟩ => ⟨he, h1.below (Nat.le_refl _) hb, bt h2 hb⟩
end Go.Proofs.YtcmikojlcckabaaDoor
