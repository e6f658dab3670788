/- Quoted texts read, as the program reads them. -/
import Derived.Test.YtkimibppfniejaaDoorCompare
set_option linter.unusedVariables false
namespace Go.Proofs.YtkimibppfniejaaDoor
open Go Go.RowKit

def unescV : Option (List UInt8) → Value
  | some l => .tuple #[.string ⟨l.toArray⟩, .int .i64 0]
  | none => .tuple #[.string ⟨#[]⟩, .int .i64 10]
theorem meant_some (r m : Int) (h : meantR r = some m) (w : World) : Calls Tryd.prog 71 #[.int .i32 r] w fun e w' => e = .returned (.tuple #[.int .i32 m, .bool true]) ∧ w = w' := by
  unfold meantR at h
  by_cases h1 : r = 34 ∨ r = 92
  · rw [if_pos h1] at h
    injection h with h
    subst h
    rcases h1 with rfl | rfl
    · go_enter Tryd.func71, Tryd.ntmps71
      go_wp2
      go_ret2
      exact ⟨rfl, rfl⟩
    · go_enter Tryd.func71, Tryd.ntmps71
      go_wp2
      go_ret2
      exact ⟨rfl, rfl⟩
  · rw [if_neg h1] at h
    by_cases h2 : r = 110
    · rw [if_pos h2] at h
      injection h with h
      subst h; subst h2
      go_enter Tryd.func71, Tryd.ntmps71
      go_wp2
      go_ret2
      exact ⟨rfl, rfl⟩
    · rw [if_neg h2] at h; cases h
theorem meant_none (r : Int) (h : meantR r = none) (w : World) : Calls Tryd.prog 71 #[.int .i32 r] w fun e w' => e = .returned (.tuple #[.int .i32 0, .bool false]) ∧ w = w' := by
  unfold meantR at h
  by_cases h1 : r = 34 ∨ r = 92
  · rw [if_pos h1] at h; cases h
  · rw [if_neg h1] at h
    by_cases h2 : r = 110
    · rw [if_pos h2] at h; cases h
    · have e1 : (r == 34) = false := beq_eq_false_iff_ne.2 (fun e => h1 (.inl e))
      have e2 : (r == 92) = false := beq_eq_false_iff_ne.2 (fun e => h1 (.inr e))
      have e3 : (r == 110) = false := beq_eq_false_iff_ne.2 h2
      clear h h1 h2
      go_enter Tryd.func71, Tryd.ntmps71
      go_wp2
      go_ret2
      exact ⟨rfl, rfl⟩

def unescO (b : Bool) (acc : List UInt8) (rs : List Int) : Option (List UInt8) := (unescS b rs).map fun ys => acc ++ text ys
theorem unescO_nil_t (acc : List UInt8) : unescO true acc [] = none := rfl
theorem unescO_nil_f (acc : List UInt8) : unescO false acc [] = some acc := by simp [unescO, unescS, text_nil]
theorem unescO_none (acc : List UInt8) (r : Int) (rs : List Int) (h : meantR r = none) : unescO true acc (r :: rs) = none := by simp [unescO, unescS, h]
theorem unescO_some (acc : List UInt8) (r m : Int) (rs : List Int) (h : meantR r = some m) : unescO true acc (r :: rs) = unescO false (acc ++ Lib.encodeRune m) rs := by
  simp only [unescO, unescS, h, Option.map_map]
  congr 1
  funext ys
  simp [text_cons]
theorem unescO_slash (acc : List UInt8) (rs : List Int) : unescO false acc (92 :: rs) = unescO true acc rs := by simp [unescO, unescS]
theorem unescO_bad (acc : List UInt8) (r : Int) (rs : List Int) (h : r = 34 ∨ r = 10) : unescO false acc (r :: rs) = none := by
  unfold unescO unescS
  rw [if_neg (by omega), if_pos h]
  rfl
theorem unescO_else (acc : List UInt8) (r : Int) (rs : List Int) (h1 : r ≠ 92) (h2 : ¬ (r = 34 ∨ r = 10)) : unescO false acc (r :: rs) = unescO false (acc ++ Lib.encodeRune r) rs := by
  unfold unescO
  conv => lhs; unfold unescS
  rw [if_neg h1, if_neg h2, Option.map_map]
  congr 1
  funext ys
  simp [text_cons]
structure URel (s : ByteArray) (w : World) (out : Option (List UInt8)) (pos : Nat) (b : Bool) (acc : List UInt8) (wr : World) : Prop where
  bld : Bld w.heap.size w.heap.size acc wr
  it : wr.heap[w.heap.size + 1]? = some (.stringIter s pos)
  bw : Below w.heap.size w wr
  eq : unescO b acc (runes (s.data.toList.drop pos)) = out
  len : acc.length + 8 * (runes (s.data.toList.drop pos)).length ≤ 8000000
theorem meantR_range {r m : Int} (h : meantR r = some m) (h0 : 0 ≤ r) (h1 : r ≤ 1114111) : -2147483648 ≤ m ∧ m ≤ 2147483647 := by
  unfold meantR at h
  split at h
  · injection h with h; omega
  · split at h
    · injection h with h; omega
    · cases h

set_option maxHeartbeats 4000000 in
set_option maxRecDepth 100000 in
theorem unescape_any (s : ByteArray) (w : World) (hs : s.size ≤ 1000000) :
    Calls Tryd.prog 61 #[.string s] w fun e w' => e = .returned (unescV (unescO false [] (runes s.data.toList))) ∧ Below w.heap.size w w' := by
  have hrl := runes_le s
  obtain ⟨OUT, hOUT⟩ : ∃ OUT, unescO false [] (runes s.data.toList) = OUT := ⟨_, rfl⟩
  rw [hOUT]
  have hrel0 : URel s w OUT 0 false [] ((w.alloc (.cells #[.pointer none, .slice none 0 0] 79)).iter s 0) :=
    ⟨(Lib.IsBuilderF.of (Lib.fresh_isBuilder 79 5 w)).alloc _, by
      have := World.iter_heap (w.alloc (.cells #[.pointer none, .slice none 0 0] 79)) s 0
      simpa using this, ((Below.refl _ w).alloc (Nat.le_refl _) _).alloc (by simp) _, by simpa using hOUT, by simp; omega⟩
  have HRel0 := Lib.hid hrel0
  clear hrel0 hOUT hrl
  go_enter Tryd.func61, Tryd.ntmps61
  go_wp2
  go_loopw [5] (fun x wr => ∃ (pos : Nat) (b : Bool) (acc : List UInt8), x = .bool b ∧ URel s w OUT pos b acc wr) (fun _ wr => s.size - wr.iterPos (w.heap.size + 1))
  case atStart => exact ⟨0, false, [], rfl, HRel0.out⟩
  case round =>
    obtain ⟨pos, b, acc, rfl, hI, hit, hbw, hacc, hal⟩ := hrel
    clear HRel0
    have hsz : w.heap.size + 1 < wr.heap.size := (Array.getElem?_eq_some_iff.1 hit).1
    have hwd := width_pos s pos
    have hd1 := Lib.rune_le s pos
    have hpw : wr.iterPos (w.heap.size + 1) = pos := by simp only [World.iterPos, hit]
    have HPw := Lib.hid hpw
    clear hpw
    by_cases hp : pos < s.size
    · have hnx : ∀ ty, (Instr.next (.pointer (some ⟨w.heap.size + 1, 0, none⟩)) true ty).run Tryd.prog wr = _ := fun ty => Lib.run_next_any_at wr (w.heap.size + 1) s pos ty hit hp
      have hst := runes_at s pos hp
      rw [hst] at hacc
      rw [hst, List.length_cons] at hal
      clear hst
      have hI2 : Bld w.heap.size w.heap.size acc (wr.iterAt (w.heap.size + 1) s (pos + (Utf8.decode s pos).2)) := hI.iterAt hit (pos + (Utf8.decode s pos).2)
      have hit2 := Lib.iterAt_heap wr (w.heap.size + 1) s pos (pos + (Utf8.decode s pos).2) hit
      have hbw2 := Lib.below_iterAt hbw (k := w.heap.size + 1) (by omega) s (pos + (Utf8.decode s pos).2)
      have hsz2 := hbw2.size
      generalize hwi : wr.iterAt (w.heap.size + 1) s (pos + (Utf8.decode s pos).2) = wi at *
      have HW := Lib.hid hwi
      clear hwi hI
      obtain ⟨r, hr⟩ : ∃ r : Int, ((Utf8.decode s pos).1 : Int) = r := ⟨_, rfl⟩
      have hr0 : 0 ≤ r := by omega
      have hr1 : r ≤ 1114111 := by omega
      rw [hr] at hnx hacc
      clear hr
      cases b
      · by_cases h92 : r = 92
        · subst h92
          rw [unescO_slash] at hacc
          have HA := Lib.hid hacc
          clear hacc
          go_wp2_with fail
          go_roundw
          case rel => exact ⟨pos + (Utf8.decode s pos).2, true, acc, rfl, hI2, hit2, hbw2, HA.out, by omega⟩
          case measure =>
            rw [HPw.out]
            simp only [World.iterPos, hit2]
            omega
        · have e92 : (r == 92) = false := beq_eq_false_iff_ne.2 h92
          by_cases hbad : r = 34 ∨ r = 10
          · rw [unescO_bad acc r _ hbad] at hacc
            have HA := Lib.hid hacc
            clear hacc h92
            rcases hbad with rfl | rfl
            all_goals
              go_wp2_with fail
              go_ret2
              exact ⟨by rw [← HA.out]; rfl, hbw2⟩
          · have e34 : (r == 34) = false := beq_eq_false_iff_ne.2 (fun e => hbad (.inl e))
            have e10 : (r == 10) = false := beq_eq_false_iff_ne.2 (fun e => hbad (.inr e))
            rw [unescO_else acc r _ h92 hbad] at hacc
            have HA := Lib.hid hacc
            have he4 := encode_length r
            clear hacc h92 hbad
            go_wp2_with (go_at_call 54; refine (writeRune_any w.heap.size w.heap.size acc r (by omega) (by omega) _ hI2 (by omega) hsz2).mono ?_; rintro e w2 ⟨rfl, hI3, hb3, hk3⟩)
            have hit3 := hk3.iter hit2 (by omega)
            go_roundw
            case rel => exact ⟨pos + (Utf8.decode s pos).2, false, _, rfl, hI3, hit3, hbw2.trans hb3, HA.out, by simp only [List.length_append]; omega⟩
            case measure =>
              rw [HPw.out]
              simp only [World.iterPos, hit3]
              omega
      · cases hm : meantR r with
        | none =>
          rw [unescO_none acc r _ hm] at hacc
          have HA := Lib.hid hacc
          have hmc := fun W => meant_none r hm W
          have HM := Lib.hid hmc
          clear hacc hm hmc
          go_wp2_with (go_at_call 71; refine (HM.out _).mono ?_; rintro e w2 ⟨rfl, rfl⟩)
          go_ret2
          exact ⟨by rw [← HA.out]; rfl, hbw2⟩
        | some m =>
          rw [unescO_some acc r m _ hm] at hacc
          have HA := Lib.hid hacc
          have hmc := fun W => meant_some r m hm W
          have HM := Lib.hid hmc
          have hmr := meantR_range hm hr0 hr1
          obtain ⟨hm0, hm1⟩ := hmr
          have he4 := encode_length m
          clear hacc hm hmc
          go_wp2_with (first
            | (go_at_call 71; refine (HM.out _).mono ?_; rintro e w2 ⟨rfl, rfl⟩)
            | (go_at_call 54; refine (writeRune_any w.heap.size w.heap.size acc m hm0 hm1 _ hI2 (by omega) hsz2).mono ?_; rintro e w2 ⟨rfl, hI3, hb3, hk3⟩))
          have hit3 := hk3.iter hit2 (by omega)
          go_roundw
          case rel => exact ⟨pos + (Utf8.decode s pos).2, false, _, rfl, hI3, hit3, hbw2.trans hb3, HA.out, by simp only [List.length_append]; omega⟩
          case measure =>
            rw [HPw.out]
            simp only [World.iterPos, hit3]
            omega
    · have hnx : ∀ ty, (Instr.next (.pointer (some ⟨w.heap.size + 1, 0, none⟩)) true ty).run Tryd.prog wr = _ := fun ty => Lib.run_next_end_at wr (w.heap.size + 1) s pos ty hit hp
      rw [runes_end s pos hp] at hacc
      have hsw := hbw.size
      cases b
      · rw [unescO_nil_f] at hacc
        have HA := Lib.hid hacc
        clear hacc
        go_wp2_with (go_at_call 56; refine (string_any w.heap.size w.heap.size _ _ hI hsw).mono ?_; rintro e w3 ⟨rfl, _, hb4, _⟩)
        go_ret2
        exact ⟨by rw [← HA.out]; rfl, hbw.trans hb4⟩
      · rw [unescO_nil_t] at hacc
        have HA := Lib.hid hacc
        clear hacc
        go_wp2_with fail
        go_ret2
        exact ⟨by rw [← HA.out]; rfl, hbw⟩
end Go.Proofs.YtkimibppfniejaaDoor
