/- Quoted texts, as the program makes them. -/
import Derived.Test.YtkimibppfniejaaDoorLike
set_option linter.unusedVariables false
namespace Go.Proofs.YtkimibppfniejaaDoor
open Go Go.RowKit

theorem esc_text_sign {r : Int} (h : r = 34 ∨ r = 92) : text (esc r) = [92] ++ Lib.encodeRune r := by
  unfold esc
  rw [if_pos h]
  rcases h with rfl | rfl <;> rfl
theorem esc_text_line {r : Int} (h : r = 10) : text (esc r) = [92, 110] := by subst h; rfl
theorem esc_text_else {r : Int} (h1 : ¬ (r = 34 ∨ r = 92)) (h2 : r ≠ 10) : text (esc r) = Lib.encodeRune r := by
  unfold esc
  rw [if_neg h1, if_neg h2]
  simp [text]
/-- What the loop over the runes has written, and what it will. -/
structure QRel (s : ByteArray) (w w1 : World) (pos : Nat) (acc : List UInt8) (wr : World) : Prop where
  bld : Bld w.heap.size w.heap.size acc wr
  it : wr.heap[w1.heap.size]? = some (.stringIter s pos)
  bw : Below w.heap.size w wr
  eq : acc ++ (text (escs (runes (s.data.toList.drop pos))) ++ [34]) = quoteL s.data.toList
  len : acc.length + 8 * (runes (s.data.toList.drop pos)).length ≤ 8000001

set_option maxHeartbeats 2000000 in
set_option maxRecDepth 100000 in
theorem quote_any (s : ByteArray) (w : World) (hs : s.size ≤ 1000000) :
    Calls Tryd.prog 45 #[.string s] w fun e w' => e = .returned (.string ⟨(quoteL s.data.toList).toArray⟩) ∧ Below w.heap.size w w' := by
  have hrl := runes_le s
  have HRL := Lib.hid hrl
  clear hrl
  have hB0 : Bld w.heap.size w.heap.size [] (w.alloc (.cells #[.pointer none, .slice none 0 0] 79)) := Lib.IsBuilderF.of (Lib.fresh_isBuilder 79 5 w)
  go_enter Tryd.func45, Tryd.ntmps45
  go_wp2_with (go_at_call 53; refine (writeByte_any w.heap.size w.heap.size [] 34 (by omega) (by omega) _ hB0 (by simp) (by simp)).mono ?_; rintro e w1 ⟨rfl, hB1, hb1, hk1⟩)
  have hbb : w.heap.size < w1.heap.size := by
    have := hb1.size
    simp at this
    have h2 : w.heap.size < (w.alloc (.cells #[.pointer none, .slice none 0 0] 79)).heap.size := by simp
    rcases hB1 with h | h
    · exact h.lt
    · exact h.lt
  have hbw1 : Below w.heap.size w w1 := ((Below.refl _ w).alloc (Nat.le_refl _) _).trans hb1
  have hrel0 : QRel s w w1 0 ([] ++ [(34 : Int).toNat.toUInt8]) (w1.iter s 0) :=
    ⟨hB1.alloc _, World.iter_heap w1 s 0, hbw1.trans ((iter_below w1 s 0).mono hbw1.size), rfl, by have := HRL.out; simp; omega⟩
  clear hB0 hB1 hb1 hk1 hbw1
  have HRel0 := Lib.hid hrel0
  clear hrel0
  go_loopw [] (fun wr => ∃ (pos : Nat) (acc : List UInt8), QRel s w w1 pos acc wr) (fun wr => s.size - wr.iterPos w1.heap.size)
  case atStart => exact ⟨0, _, HRel0.out⟩
  case round =>
    obtain ⟨pos, acc, hI, hit, hbw, hacc, hal⟩ := hrel
    clear HRel0
    have hsz : w1.heap.size < wr.heap.size := (Array.getElem?_eq_some_iff.1 hit).1
    have hwd := width_pos s pos
    have hd1 := decode_le s pos
    have HA := Lib.hid hacc
    clear hacc
    have hpw : wr.iterPos w1.heap.size = pos := by simp only [World.iterPos, hit]
    have HPw := Lib.hid hpw
    clear hpw
    by_cases hp : pos < s.size
    · have hnx : ∀ ty, (Instr.next (.pointer (some ⟨w1.heap.size, 0, none⟩)) true ty).run Tryd.prog wr = _ := fun ty => Lib.run_next_any_at wr w1.heap.size s pos ty hit hp
      have hst := runes_at s pos hp
      rw [hst, List.length_cons] at hal
      have HS := Lib.hid hst
      clear hst
      have hI2 : Bld w.heap.size w.heap.size acc (wr.iterAt w1.heap.size s (pos + (Utf8.decode s pos).2)) := hI.iterAt hit (pos + (Utf8.decode s pos).2)
      have hit2 := Lib.iterAt_heap wr w1.heap.size s pos (pos + (Utf8.decode s pos).2) hit
      have hbw2 := Lib.below_iterAt hbw (k := w1.heap.size) (by omega) s (pos + (Utf8.decode s pos).2)
      have hsz2 := hbw2.size
      generalize hwi : wr.iterAt w1.heap.size s (pos + (Utf8.decode s pos).2) = wi at *
      have HW := Lib.hid hwi
      clear hwi hI
      obtain ⟨r, hr⟩ : ∃ r : Int, ((Utf8.decode s pos).1 : Int) = r := ⟨_, rfl⟩
      have hr0 : -2147483648 ≤ r := by omega
      have hr1 : r ≤ 2147483647 := by omega
      have he4 := encode_length r
      rw [hr] at hnx
      have HS2 : Hid (runes (s.data.toList.drop pos) = r :: runes (s.data.toList.drop (pos + (Utf8.decode s pos).2))) := by rw [← hr]; exact HS
      clear HS hr
      by_cases h1 : r = 34 ∨ r = 92
      · have HT := Lib.hid (esc_text_sign h1)
        have hsplit : ((r == 34) = true) ∨ ((r == 34) = false ∧ (r == 92) = true) := by
          rcases h1 with rfl | rfl
          · exact .inl rfl
          · exact .inr ⟨rfl, rfl⟩
        clear h1
        rcases hsplit with h34 | ⟨h34, h92⟩
        all_goals
          go_wp2_with (go_at_call 53; refine (writeByte_any w.heap.size w.heap.size acc 92 (by omega) (by omega) _ hI2 (by omega) hsz2).mono ?_; rintro e w2 ⟨rfl, hI3, hb3, hk3⟩; clear hI2)
          have hl3 : (acc ++ [(92 : Int).toNat.toUInt8]).length ≤ 1000000000 := by rw [List.length_append, List.length_cons, List.length_nil]; omega
          have hit3 := hk3.iter hit2 (by omega)
          have hbw3 := hbw2.trans hb3
          have hsz3 := hbw3.size
          clear hit2 hbw2 hsz2
          go_wp2_with (go_at_call 54; refine (writeRune_any w.heap.size w.heap.size _ r hr0 hr1 _ hI3 hl3 hsz3).mono ?_; rintro e w3 ⟨rfl, hI4, hb4, hk4⟩)
          have hit4 := hk4.iter hit3 (by omega)
          go_roundw
          case rel =>
            refine ⟨pos + (Utf8.decode s pos).2, _, hI4, hit4, hbw3.trans hb4, ?_, by simp only [List.length_append, List.length_cons, List.length_nil]; omega⟩
            rw [← HA.out, HS2.out, escs_cons, text_append, HT.out]
            simp only [List.append_assoc]
            rfl
          case measure =>
            rw [HPw.out]
            simp only [World.iterPos, hit4]
            omega
      · have h34 : (r == 34) = false := beq_eq_false_iff_ne.2 (fun e => h1 (.inl e))
        have h92 : (r == 92) = false := beq_eq_false_iff_ne.2 (fun e => h1 (.inr e))
        by_cases h2 : r = 10
        · have HT := Lib.hid (esc_text_line h2)
          have h10 : (r == 10) = true := beq_iff_eq.2 h2
          clear h1 h2
          go_wp2_with (go_at_call 55; refine (writeString_any w.heap.size w.heap.size acc ⟨#[92, 110]⟩ _ hI2 (by have : (⟨#[92, 110]⟩ : ByteArray).size = 2 := rfl; omega) hsz2).mono ?_; rintro e w2 ⟨rfl, hI3, hb3, hk3⟩)
          have hit3 := hk3.iter hit2 (by omega)
          go_roundw
          case rel =>
            refine ⟨pos + (Utf8.decode s pos).2, _, hI3, hit3, hbw2.trans hb3, ?_, by simp only [List.length_append, List.length_cons, List.length_nil]; omega⟩
            rw [← HA.out, HS2.out, escs_cons, text_append, HT.out]
            simp only [List.append_assoc]
          case measure =>
            rw [HPw.out]
            simp only [World.iterPos, hit3]
            omega
        · have HT := Lib.hid (esc_text_else h1 h2)
          have h10 : (r == 10) = false := beq_eq_false_iff_ne.2 h2
          clear h1 h2
          go_wp2_with (go_at_call 54; refine (writeRune_any w.heap.size w.heap.size acc r hr0 hr1 _ hI2 (by omega) hsz2).mono ?_; rintro e w2 ⟨rfl, hI3, hb3, hk3⟩)
          have hit3 := hk3.iter hit2 (by omega)
          go_roundw
          case rel =>
            refine ⟨pos + (Utf8.decode s pos).2, _, hI3, hit3, hbw2.trans hb3, ?_, by simp only [List.length_append]; omega⟩
            rw [← HA.out, HS2.out, escs_cons, text_append, HT.out]
            simp only [List.append_assoc]
          case measure =>
            rw [HPw.out]
            simp only [World.iterPos, hit3]
            omega
    · have hnx : ∀ ty, (Instr.next (.pointer (some ⟨w1.heap.size, 0, none⟩)) true ty).run Tryd.prog wr = _ := fun ty => Lib.run_next_end_at wr w1.heap.size s pos ty hit hp
      have hsw := hbw.size
      go_wp2_with (go_at_call 53; refine (writeByte_any w.heap.size w.heap.size acc 34 (by omega) (by omega) _ hI (by omega) hsw).mono ?_; rintro e w2 ⟨rfl, hI3, hb3, hk3⟩)
      have hbw3 := hbw.trans hb3
      have hsz3 := hbw3.size
      go_wp2_with (go_at_call 56; refine (string_any w.heap.size w.heap.size _ _ hI3 hsz3).mono ?_; rintro e w3 ⟨rfl, _, hb4, _⟩)
      go_ret
      have h5 := HA.out
      rw [runes_end s pos hp] at h5
      rw [← h5]
      exact ⟨rfl, hbw3.trans hb4⟩
end Go.Proofs.YtkimibppfniejaaDoor
