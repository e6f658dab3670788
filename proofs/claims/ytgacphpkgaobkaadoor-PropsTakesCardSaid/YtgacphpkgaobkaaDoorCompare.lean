/- The order of texts, as the program looks and as the document says. -/
import Derived.Test.YtgacphpkgaobkaaDoorNames
import Derived.Shelf.Unicode.DecodeAny
import Derived.Test.YtgacphpkgaobkaaDoorCutMath
set_option linter.unusedVariables false
namespace Go.Proofs.YtgacphpkgaobkaaDoor
open Go Go.RowKit

abbrev Tabs (w : World) : Prop := Lib.Utf8Tabs 0 1 w

def cmpR (a b : Int) : Int := if a < b then -1 else if b < a then 1 else 0
theorem isNaN_any (a : Int) (w : World) : Calls Tryd.prog 81 #[.int .i32 a] w fun e w' => e = .returned (.bool false) ∧ w = w' := by
  go_enter Tryd.func81, Tryd.ntmps81
  go_wp2
  go_ret
  exact ⟨by simp, rfl⟩
theorem cmpRune_any (a b : Int) (w : World) : Calls Tryd.prog 70 #[.int .i32 a, .int .i32 b] w fun e w' => e = .returned (.int .i64 (cmpR a b)) ∧ w = w' := by
  by_cases h1 : a < b
  · go_enter Tryd.func70, Tryd.ntmps70
    go_wp2_with (go_at_call 81; refine (isNaN_any _ _).mono ?_; rintro e w1 ⟨rfl, rfl⟩)
    go_ret
    exact ⟨ret_int (by unfold cmpR; rw [if_pos h1]), rfl⟩
  · by_cases h2 : b < a
    · go_enter Tryd.func70, Tryd.ntmps70
      go_wp2_with (go_at_call 81; refine (isNaN_any _ _).mono ?_; rintro e w1 ⟨rfl, rfl⟩)
      go_ret
      exact ⟨ret_int (by unfold cmpR; rw [if_neg (by omega), if_pos h2]), rfl⟩
    · go_enter Tryd.func70, Tryd.ntmps70
      go_wp2_with (go_at_call 81; refine (isNaN_any _ _).mono ?_; rintro e w1 ⟨rfl, rfl⟩)
      go_ret
      exact ⟨ret_int (by unfold cmpR; rw [if_neg (by omega), if_neg (by omega)]), rfl⟩

theorem runes_first (t : ByteArray) (h : 0 < t.size) : runes t.data.toList = ((Utf8.decode t 0).1 : Int) :: runes (t.extract (Utf8.decode t 0).2 t.size).data.toList := by
  have := runes_at t 0 h
  rw [List.drop_zero, Nat.zero_add] at this
  rw [this, Lib.ext_list]
theorem first_le (t : ByteArray) (h : 0 < t.size) : (Utf8.decode t 0).2 ≤ t.size := by
  have hne : t.data.toList ≠ [] := by
    intro e
    have := congrArg List.length e
    simp only [List.length_nil, Array.length_toList] at this
    have h2 : t.data.size = t.size := rfl
    omega
  have := Lib.decodeL_le _ hne
  have h3 := Lib.decodeL_drop t 0
  rw [List.drop_zero] at h3
  rw [h3, Array.length_toList] at this
  have h2 : t.data.size = t.size := rfl
  omega

theorem not_empty {t : ByteArray} (h : ¬ t.size = 0) : t.toList.isEmpty = false := by
  rw [ByteArray.toList_eq]
  cases hl : t.data.toList with
  | nil =>
    have := congrArg List.length hl
    rw [size_list] at this
    exact absurd this h
  | cons _ _ => rfl

set_option maxHeartbeats 2000000 in
set_option maxRecDepth 100000 in
theorem compare_any (a b : ByteArray) (w : World) (ha : a.size ≤ 1000000) (hb : b.size ≤ 1000000) (hT : Tabs w) :
    Calls Tryd.prog 53 #[.string a, .string b] w fun e w' => e = .returned (.int .i64 (cmpL (runes a.data.toList) (runes b.data.toList))) ∧ Below w.heap.size w w' := by
  obtain ⟨ANS, hANS⟩ : ∃ ANS, cmpL (runes a.data.toList) (runes b.data.toList) = ANS := ⟨_, rfl⟩
  rw [hANS]
  have HANS := Lib.hid hANS
  clear hANS
  have HT := Lib.hid hT
  clear hT
  go_enter Tryd.func53, Tryd.ntmps53
  go_wp2
  go_loopw [1] (fun x wr => ∃ (pos : Nat) (t : ByteArray), x = .string t ∧ wr.heap[w.heap.size]? = some (.stringIter a pos) ∧ Below w.heap.size w wr ∧ t.size ≤ 1000000 ∧ cmpL (runes (a.data.toList.drop pos)) (runes t.data.toList) = ANS) (fun _ wr => a.size - wr.iterPos w.heap.size)
  case atStart => exact ⟨0, b, rfl, World.iter_heap w a 0, iter_below w a 0, hb, HANS.out⟩
  case round =>
    obtain ⟨pos, t, rfl, hit, hbw, hts, hacc⟩ := hrel
    have hsz : w.heap.size < wr.heap.size := (Array.getElem?_eq_some_iff.1 hit).1
    have hwd := width_pos a pos
    have hpw : wr.iterPos w.heap.size = pos := by simp only [World.iterPos, hit]
    have HPw := Lib.hid hpw
    clear hpw
    by_cases hp : pos < a.size
    · have hnx : ∀ ty, (Instr.next (.pointer (some ⟨w.heap.size, 0, none⟩)) true ty).run Tryd.prog wr = _ := fun ty => Lib.run_next_any_at wr w.heap.size a pos ty hit hp
      rw [runes_at a pos hp] at hacc
      have hit2 := Lib.iterAt_heap wr w.heap.size a pos (pos + (Utf8.decode a pos).2) hit
      have hbw2 := Lib.below_iterAt hbw (k := w.heap.size) (by omega) a (pos + (Utf8.decode a pos).2)
      have hTi := Utf8Tabs_below HT.out hbw2
      generalize hwi : wr.iterAt w.heap.size a (pos + (Utf8.decode a pos).2) = wi at *
      have HW := Lib.hid hwi
      clear hwi
      obtain ⟨r, hr⟩ : ∃ r : Int, ((Utf8.decode a pos).1 : Int) = r := ⟨_, rfl⟩
      rw [hr] at hnx hacc
      have HR := Lib.hid hr
      have HA := Lib.hid hacc
      have HTi := Lib.hid hTi
      clear hr hacc hTi
      by_cases h0 : t.size = 0
      · have he : t = ⟨#[]⟩ := by
          apply ByteArray.ext
          exact Array.eq_empty_of_size_eq_zero h0
        subst he
        go_wp2
        go_ret
        exact ⟨ret_int (by rw [← HA.out]; rfl), hbw2⟩
      · have hne := not_empty h0
        have hdg : Lib.decodeGo t = Utf8.decode t 0 := by unfold Lib.decodeGo; rw [if_neg h0]
        have hdec := fun W hW => Tryd.utf8_DecodeRuneInString t W hW
        rw [hdg] at hdec
        have hrf := runes_first t (by omega)
        have hfl := first_le t (by omega)
        obtain ⟨sz, hsz2⟩ : ∃ sz, (Utf8.decode t 0).2 = sz := ⟨_, rfl⟩
        obtain ⟨q, hq⟩ : ∃ q : Int, ((Utf8.decode t 0).1 : Int) = q := ⟨_, rfl⟩
        rw [hsz2, hq] at hrf
        rw [hsz2] at hfl
        have hdec2 : ∀ W, Lib.Utf8Tabs 0 1 W → Calls Tryd.prog 69 #[.string t] W fun e w' => e = .returned (.tuple #[.int .i32 q, .int .i64 (sz : Nat)]) ∧ Below W.heap.size W w' := fun W hW => by
          have := hdec W hW
          rw [hsz2, hq] at this
          exact this
        have hex : (t.extract sz t.size).size ≤ 1000000 := by rw [← size_list, Lib.ext_list, List.length_drop, size_list]; omega
        have HDec := Lib.hid hdec2
        have HRf := Lib.hid hrf
        clear hdg hdec hdec2 hsz2 hq hrf h0
        by_cases hrq : r = q
        · have e1 : (r != q) = false := by rw [hrq]; simp
          have hnext : cmpL (runes (a.data.toList.drop (pos + (Utf8.decode a pos).2))) (runes (t.extract sz t.size).data.toList) = ANS := by
            rw [← HA.out, HRf.out, hrq]
            show _ = if q < q then -1 else if q < q then 1 else _
            rw [if_neg (by omega), if_neg (by omega)]
          have HN := Lib.hid hnext
          clear hnext hrq
          go_wp2_with (go_at_call 69; refine (HDec.out _ HTi.out).mono ?_; rintro e w2 ⟨rfl, b2⟩)
          have hit3 := iter_keep hit2 b2
          go_roundw
          case rel => exact ⟨pos + (Utf8.decode a pos).2, _, rfl, hit3, bt hbw2 b2, hex, HN.out⟩
          case measure =>
            rw [HPw.out]
            simp only [World.iterPos, hit3]
            omega
        · have e1 : (r != q) = true := bne_iff_ne.2 hrq
          have hout : cmpR r q = ANS := by
            rw [← HA.out, HRf.out]
            show cmpR r q = if r < q then -1 else if q < r then 1 else _
            unfold cmpR
            by_cases c1 : r < q
            · rw [if_pos c1, if_pos c1]
            · rw [if_neg c1, if_neg c1, if_pos (by omega), if_pos (by omega)]
          have HO := Lib.hid hout
          clear hout hrq
          go_wp2_with (first
            | (go_at_call 69; refine (HDec.out _ HTi.out).mono ?_; rintro e w2 ⟨rfl, b2⟩)
            | (go_at_call 70; refine (cmpRune_any _ _ _).mono ?_; rintro e w3 ⟨rfl, rfl⟩))
          go_ret
          exact ⟨ret_int HO.out, bt hbw2 b2⟩
    · have hnx : ∀ ty, (Instr.next (.pointer (some ⟨w.heap.size, 0, none⟩)) true ty).run Tryd.prog wr = _ := fun ty => Lib.run_next_end_at wr w.heap.size a pos ty hit hp
      rw [runes_end a pos hp] at hacc
      have HA := Lib.hid hacc
      clear hacc
      by_cases h0 : t.size = 0
      · have he : t = ⟨#[]⟩ := by
          apply ByteArray.ext
          exact Array.eq_empty_of_size_eq_zero h0
        subst he
        go_wp2
        go_ret
        exact ⟨ret_int (by rw [← HA.out]; rfl), hbw⟩
      · have hne := not_empty h0
        have hrf := runes_first t (by omega)
        have HRf := Lib.hid hrf
        clear hrf h0
        go_wp2
        go_ret
        exact ⟨ret_int (by rw [← HA.out, HRf.out]; rfl), hbw⟩
end Go.Proofs.YtgacphpkgaobkaaDoor
