/- The document's own Cut, Right and Fold. -/
import Derived.Test.YtgacphpkgaobkaaDoorSlice
set_option linter.unusedVariables false
namespace Go.Proofs.YtgacphpkgaobkaaDoor
open Go Go.RowKit

set_option maxHeartbeats 4000000 in
theorem refLetter_any (r : Int) (w : World) : Calls Tryd.prog 57 #[.int .i32 r] w fun e w' => e = .returned (.bool (isLet r)) ∧ w = w' := by
  refine spans (p := fun r => Calls Tryd.prog 57 #[.int .i32 r] w fun e w' => e = .returned (.bool (isLet r)) ∧ w = w') r ?_ ?_ ?_ ?_ ?_ ?_ ?_ ?_ ?_ ?_ ?_ ?_ ?_ ?_
  all_goals intros
  all_goals (try (rename_i ha; obtain ⟨_, _, _, _, _⟩ := ha))
  all_goals (go_enter Tryd.func57, Tryd.ntmps57)
  all_goals go_wp2
  all_goals go_ret
  all_goals (refine ⟨ret_bool ?_, rfl⟩)
  all_goals (first | (rw [isLet_yes (by omega)]; done) | (rw [isLet_no (by omega)]; done) | (rw [isLet_yes (by omega)]; exact decide_eq_true (by omega)) | (rw [isLet_no (by omega)]; exact decide_eq_false (by omega)) | (rw [isLet_yes (by omega)]; simp; omega) | (rw [isLet_no (by omega)]; simp; omega))


theorem extract_all (s : ByteArray) (k : Nat) (h : k = s.size) : s = s.extract 0 k := by
  subst h
  apply ByteArray.ext
  apply Array.toList_inj.1
  rw [extract_zero, List.take_of_length_le (by simp)]
theorem ret_str {a b : ByteArray} (h : a = b) : Ending.returned (.string a) = .returned (.string b) := by rw [h]

theorem Rd.at0 {w : World} {A : Option Addr} {rs : List Int} (h : Rd w A rs) {k : Nat} (hk : k < rs.length) : ∃ ad, A = some ad ∧ w.cell? (ad.add k) = some (.int .i32 (rs.getD k 0)) := by
  obtain ⟨ad, e, _, hc⟩ := h k hk
  exact ⟨ad, e, hc⟩
theorem all_at (p : Int → Bool) (rs : List Int) (k : Nat) (h : k < rs.length) : (rs.drop k).all p = (p (rs.getD k 0) && (rs.drop (k + 1)).all p) := by
  rw [List.drop_eq_getElem_cons h, List.all_cons]
  simp [List.getD_eq_getElem?_getD, List.getElem?_eq_getElem h]
def partB (r : Int) : Bool := isLet r || isDig r
theorem nameL_alt (rs : List Int) (h0 : 0 < rs.length) (h1 : rs.length ≤ 32) : nameL rs = (isLet (rs.getD 0 0) && (rs.drop 1).all partB) := by
  cases rs with
  | nil => simp at h0
  | cons r rs =>
    simp only [List.length_cons] at h1
    have : decide (rs.length < 32) = true := decide_eq_true (by omega)
    show (isLet r && rs.all (fun x => isLet x || isDig x) && decide (rs.length < 32)) = _
    rw [this, Bool.and_true]
    rfl
theorem nameL_out (rs : List Int) (h : rs.length < 1 ∨ 32 < rs.length) : nameL rs = false := by
  cases rs with
  | nil => rfl
  | cons r rs =>
    simp only [List.length_cons] at h
    have : decide (rs.length < 32) = false := decide_eq_false (by omega)
    show (isLet r && rs.all (fun x => isLet x || isDig x) && decide (rs.length < 32)) = _
    rw [this, Bool.and_false]

set_option maxHeartbeats 1000000 in
set_option maxRecDepth 100000 in
theorem refRight_any (s : ByteArray) (w : World) (hs : s.size ≤ 1000000) :
    Calls Tryd.prog 31 #[.string s] w fun e w' => e = .returned (.bool (nameL (runes s.data.toList))) ∧ Below w.heap.size w w' := by
  have hrl := runes_le s
  have hRunes := fun W => refRunes_any s W hs
  generalize runes s.data.toList = rs at *
  have HRunes := Lib.hid hRunes
  clear hRunes
  have hlen : rs.length ≤ 1000000 := by omega
  clear hrl
  by_cases hout : rs.length < 1 ∨ 32 < rs.length
  · have HN := Lib.hid (nameL_out rs hout)
    rcases hout with hout | hout
    all_goals
      go_enter Tryd.func31, Tryd.ntmps31
      go_wp2_with (go_at_call 56; refine (HRunes.out _).mono ?_; rintro e w1 ⟨v, rfl, hrow, hb⟩; obtain ⟨A, c, rfl, hnc, hrd⟩ := hrow.rd)
      go_ret
      exact ⟨ret_bool HN.out.symm, hb⟩
  · have h0 : 0 < rs.length := by omega
    have h1 : rs.length ≤ 32 := by omega
    have HN := Lib.hid (nameL_alt rs h0 h1)
    clear hout
    obtain ⟨r0, hr0⟩ : ∃ r0, rs.getD 0 0 = r0 := ⟨_, rfl⟩
    have HN1 : Hid (nameL rs = (isLet r0 && (rs.drop 1).all partB)) := by rw [← hr0]; exact HN
    have HR0 := Lib.hid hr0
    clear HN hr0
    by_cases hl : isLet r0 = true
    · have HN2 : Hid (nameL rs = (rs.drop 1).all partB) := by refine Lib.hid ?_; have := HN1.out; rw [hl] at this; simpa using this
      clear HN1
      go_enter Tryd.func31, Tryd.ntmps31
      go_wp2_with (first
        | (go_at_call 56; refine (HRunes.out _).mono ?_; rintro e w1 ⟨v, rfl, hrow, hb⟩; obtain ⟨A, c, rfl, hnc, hrd⟩ := hrow.rd; obtain ⟨ad, rfl, hcell0⟩ := hrd.at0 h0; rw [HR0.out] at hcell0; have HRd := Lib.hid hrd; clear hrd; have hc1 : w1.cell? ad = some (.int .i32 r0) := (by simpa [Addr.add] using hcell0))
        | (go_at_call 57; refine (refLetter_any _ _).mono ?_; rintro e w2 ⟨rfl, rfl⟩))
      go_loop [4] (fun i => ∃ k : Nat, 1 ≤ k ∧ k ≤ rs.length ∧ i = .int .i64 (k : Nat) ∧ (rs.drop k).all partB = (rs.drop 1).all partB) (fun i => rs.length - (intOf i).toNat)
      case atStart => exact ⟨1, Nat.le_refl _, h0, rfl, rfl⟩
      case round =>
        obtain ⟨k, hk1, hk, rfl, hall⟩ := hrel
        have HAll := Lib.hid hall
        clear hall
        by_cases hlt : k < rs.length
        · obtain ⟨ad', he, hcell⟩ := HRd.out.at0 hlt
          obtain rfl : ad = ad' := by injection he
          have hst := all_at partB rs k hlt
          obtain ⟨r, hr⟩ : ∃ r, rs.getD k 0 = r := ⟨_, rfl⟩
          rw [hr] at hcell hst
          have HS := Lib.hid hst
          clear hst hr he
          by_cases hlr : isLet r = true
          · have HP : Hid (partB r = true) := by refine Lib.hid ?_; unfold partB; rw [hlr]; rfl
            go_wp2_with (go_at_call 57; refine (refLetter_any _ _).mono ?_; rintro e w2 ⟨rfl, rfl⟩)
            go_round
            case rel => exact ⟨k + 1, by omega, by omega, by go_num, by rw [← HAll.out, HS.out, HP.out, Bool.true_and]⟩
            case measure => simp [intOf]; omega
          · have hlr : isLet r = false := by simpa using hlr
            by_cases hd : 48 ≤ r ∧ r ≤ 57
            · have HP : Hid (partB r = true) := by refine Lib.hid ?_; unfold partB; rw [hlr]; unfold isDig; simp; exact hd
              obtain ⟨hd0, hd1⟩ := hd
              go_wp2_with (go_at_call 57; refine (refLetter_any _ _).mono ?_; rintro e w2 ⟨rfl, rfl⟩)
              go_round
              case rel => exact ⟨k + 1, by omega, by omega, by go_num, by rw [← HAll.out, HS.out, HP.out, Bool.true_and]⟩
              case measure => simp [intOf]; omega
            · have HP : Hid (partB r = false) := by refine Lib.hid ?_; unfold partB; rw [hlr]; unfold isDig; simp; omega
              by_cases hd0 : r < 48
              · clear hd
                go_wp2_with (go_at_call 57; refine (refLetter_any _ _).mono ?_; rintro e w2 ⟨rfl, rfl⟩)
                go_ret
                exact ⟨ret_bool (by rw [HN2.out, ← HAll.out, HS.out, HP.out]; rfl), hb⟩
              · have hd1 : 57 < r := by omega
                clear hd
                go_wp2_with (go_at_call 57; refine (refLetter_any _ _).mono ?_; rintro e w2 ⟨rfl, rfl⟩)
                go_ret
                exact ⟨ret_bool (by rw [HN2.out, ← HAll.out, HS.out, HP.out]; rfl), hb⟩
        · obtain rfl : k = rs.length := by omega
          go_wp2
          go_ret
          exact ⟨ret_bool (by rw [HN2.out, ← HAll.out]; simp), hb⟩
    · have hl : isLet r0 = false := by simpa using hl
      have HN2 : Hid (nameL rs = false) := by refine Lib.hid ?_; have := HN1.out; rw [hl] at this; simpa using this
      clear HN1
      go_enter Tryd.func31, Tryd.ntmps31
      go_wp2_with (first
        | (go_at_call 56; refine (HRunes.out _).mono ?_; rintro e w1 ⟨v, rfl, hrow, hb⟩; obtain ⟨A, c, rfl, hnc, hrd⟩ := hrow.rd; obtain ⟨ad, rfl, hcell0⟩ := hrd.at0 h0; rw [HR0.out] at hcell0; have HRd := Lib.hid hrd; clear hrd; have hc1 : w1.cell? ad = some (.int .i32 r0) := (by simpa [Addr.add] using hcell0))
        | (go_at_call 57; refine (refLetter_any _ _).mono ?_; rintro e w2 ⟨rfl, rfl⟩))
      go_ret
      exact ⟨ret_bool HN2.out.symm, hb⟩
end Go.Proofs.YtgacphpkgaobkaaDoor
