/- The document's own order of texts. -/
import Derived.Test.YtgacphpkgaobkaaDoorCompare
import Derived.WalkSmall
import Derived.Deep.QuietTactic
import Derived.BigQuiet
set_option linter.unusedVariables false
namespace Go.Proofs.YtgacphpkgaobkaaDoor
open Go Go.RowKit

theorem cmpL_at (rs ps : List Int) (k : Nat) (h1 : k < rs.length) (h2 : k < ps.length) : cmpL (rs.drop k) (ps.drop k) = if rs.getD k 0 < ps.getD k 0 then -1 else if ps.getD k 0 < rs.getD k 0 then 1 else cmpL (rs.drop (k + 1)) (ps.drop (k + 1)) := by
  rw [List.drop_eq_getElem_cons h1, List.drop_eq_getElem_cons h2]
  simp only [List.getD_eq_getElem?_getD, List.getElem?_eq_getElem h1, List.getElem?_eq_getElem h2, Option.getD_some]
  rfl
theorem cmpL_short (rs ps : List Int) (k : Nat) (h : rs.length ≤ k ∨ ps.length ≤ k) (hk1 : k ≤ rs.length) (hk2 : k ≤ ps.length) : cmpL (rs.drop k) (ps.drop k) = if rs.length < ps.length then -1 else if ps.length < rs.length then 1 else 0 := by
  by_cases h1 : rs.length ≤ k
  · have e1 : rs.drop k = [] := List.drop_eq_nil_of_le h1
    rw [e1]
    by_cases h2 : ps.length ≤ k
    · have e2 : ps.drop k = [] := List.drop_eq_nil_of_le h2
      rw [e2, if_neg (by omega), if_neg (by omega)]; rfl
    · rw [List.drop_eq_getElem_cons (by omega : k < ps.length), if_pos (by omega)]; rfl
  · have e2 : ps.drop k = [] := List.drop_eq_nil_of_le (by omega)
    rw [e2, List.drop_eq_getElem_cons (by omega : k < rs.length), if_neg (by omega), if_pos (by omega)]; rfl

set_option maxHeartbeats 4000000 in
set_option maxRecDepth 100000 in
theorem refCompare_any (a b : ByteArray) (w : World) (ha : a.size ≤ 1000000) (hb : b.size ≤ 1000000) :
    Calls Tryd.prog 38 #[.string a, .string b] w fun e w' => e = .returned (.int .i64 (cmpL (runes a.data.toList) (runes b.data.toList))) ∧ Below w.heap.size w w' := by
  have hl1 := runes_le a
  have hl2 := runes_le b
  have c1 := fun W => refRunes_any a W ha
  have c2 := fun W => refRunes_any b W hb
  generalize runes a.data.toList = rs at *
  generalize runes b.data.toList = ps at *
  have C1 := Lib.hid c1
  have C2 := Lib.hid c2
  have g1 : rs.length ≤ 1000000 := by omega
  have g2 : ps.length ≤ 1000000 := by omega
  clear c1 c2 hl1 hl2
  go_enter Tryd.func38, Tryd.ntmps38
  go_wp2_with fail
  refine (C1.out _).mono ?_
  rintro e w1 ⟨v1, rfl, hrow1, b1⟩
  obtain ⟨A, ca, rfl, hca, hrd1⟩ := hrow1.rd
  go_wp2_with fail
  refine (C2.out _).mono ?_
  rintro e w2 ⟨v2, rfl, hrow2, b2⟩
  obtain ⟨B, cb, rfl, hcb, hrd2⟩ := hrow2.rd
  have hrd1' := hrd1.below (Nat.le_refl _) b2
  have hbw := bt b1 b2
  have HR1 := Lib.hid hrd1'
  have HR2 := Lib.hid hrd2
  clear hrow1 hrow2 hrd1 hrd1' hrd2 b1 b2
  go_wp2_with fail
  go_loopw [7] (fun i wr => ∃ k : Nat, k ≤ rs.length ∧ k ≤ ps.length ∧ i = .int .i64 (k : Nat) ∧ cmpL (rs.drop k) (ps.drop k) = cmpL rs ps ∧ Below w.heap.size w wr ∧ Rd wr A rs ∧ Rd wr B ps) (fun i _ => rs.length - (intOf i).toNat)
  case atStart => exact ⟨0, Nat.zero_le _, Nat.zero_le _, rfl, rfl, hbw, HR1.out, HR2.out⟩
  case round =>
    obtain ⟨k, hk1, hk2, rfl, hcmp, hbwr, hra, hrb⟩ := hrel
    clear HR1 HR2 hbw
    have HC := Lib.hid hcmp
    clear hcmp
    by_cases hlt : k < rs.length
    · by_cases hlt2 : k < ps.length
      · obtain ⟨ad, rfl, hca1⟩ := hra.at1 hlt
        obtain ⟨bd, rfl, hcb1⟩ := hrb.at1 hlt2
        have hst := cmpL_at rs ps k hlt hlt2
        obtain ⟨r, hr⟩ : ∃ r, rs.getD k 0 = r := ⟨_, rfl⟩
        obtain ⟨q, hq⟩ : ∃ q, ps.getD k 0 = q := ⟨_, rfl⟩
        rw [hr] at hca1 hst
        rw [hq] at hcb1 hst
        have HS := Lib.hid hst
        have HRa := Lib.hid hra
        have HRb := Lib.hid hrb
        clear hst hr hq hra hrb
        have z1 : 0 ≤ (k : Int) ∧ (k : Int) < (rs.length : Int) := by omega
        have z2 : 0 ≤ (k : Int) ∧ (k : Int) < (ps.length : Int) := by omega
        by_cases c1 : r < q
        · have hout : cmpL rs ps = -1 := by rw [← HC.out, HS.out, if_pos c1]
          have HO := Lib.hid hout
          clear hout
          go_wp2_with fail
          go_quiet (fail)
          go_wp2_with fail
          go_ret
          exact ⟨ret_int HO.out.symm, by first | exact below_drewN hbwr _ | exact hbwr⟩
        · by_cases c2 : q < r
          · have hout : cmpL rs ps = 1 := by rw [← HC.out, HS.out, if_neg c1, if_pos c2]
            have HO := Lib.hid hout
            clear hout
            go_wp2_with fail
            go_quiet (fail)
            go_wp2_with fail
            go_quiet (fail)
            go_wp2_with fail
            go_ret
            exact ⟨ret_int HO.out.symm, by first | exact below_drewN hbwr _ | exact below_drewN (below_drewN hbwr _) _ | exact hbwr⟩
          · have hout : cmpL (rs.drop (k + 1)) (ps.drop (k + 1)) = cmpL rs ps := by rw [← HC.out, HS.out, if_neg c1, if_neg c2]
            have HO := Lib.hid hout
            clear hout
            go_wp2_with fail
            go_quiet (fail)
            go_wp2_with fail
            go_quiet (fail)
            go_wp2_with fail
            go_roundw
            case rel => exact ⟨k + 1, by omega, by omega, by go_num, HO.out, by first | exact below_drewN hbwr _ | exact below_drewN (below_drewN hbwr _) _, HRa.out, HRb.out⟩
            case measure => simp [intOf]; omega
      · have hout := cmpL_short rs ps k (.inr (by omega)) hk1 hk2
        rw [HC.out] at hout
        obtain rfl : k = ps.length := by omega
        rw [if_neg (by omega), if_pos (by omega)] at hout
        have HO := Lib.hid hout
        clear hout hra hrb
        go_wp2_with fail
        go_ret
        exact ⟨ret_int HO.out.symm, hbwr⟩
    · have hout := cmpL_short rs ps k (.inl (by omega)) hk1 hk2
      rw [HC.out] at hout
      obtain rfl : k = rs.length := by omega
      clear hra hrb
      by_cases c1 : rs.length < ps.length
      · rw [if_pos c1] at hout
        have HO := Lib.hid hout
        clear hout
        go_wp2_with fail
        go_ret
        exact ⟨ret_int HO.out.symm, hbwr⟩
      · rw [if_neg c1, if_neg (by omega)] at hout
        have HO := Lib.hid hout
        clear hout
        go_wp2_with fail
        go_ret
        exact ⟨ret_int HO.out.symm, hbwr⟩
end Go.Proofs.YtgacphpkgaobkaaDoor
