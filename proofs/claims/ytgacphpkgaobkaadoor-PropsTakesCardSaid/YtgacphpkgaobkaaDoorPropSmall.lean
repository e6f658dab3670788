/- Which lists of properties the statements look at. -/
import Derived.Test.YtgacphpkgaobkaaDoorPropRef
set_option linter.unusedVariables false
namespace Go.Proofs.YtgacphpkgaobkaaDoor
open Go Go.RowKit

def sizeK (z : Prop4) : Bool := decide (z.1.size ≤ 300) && decide (z.2.2.2.size ≤ 300)
theorem smallP_eq (zs : List Prop4) : smallP zs = (decide (zs.length ≤ 40) && zs.all sizeK) := rfl
theorem smallP_all {zs : List Prop4} (h : smallP zs = true) : zs.length ≤ 40 ∧ ∀ k, k < zs.length → (zs.getD k Prop4.no).1.size ≤ 300 ∧ (zs.getD k Prop4.no).2.2.2.size ≤ 300 := by
  rw [smallP_eq, Bool.and_eq_true, decide_eq_true_iff] at h
  refine ⟨h.1, fun k hk => ?_⟩
  have h1 := List.all_eq_true.1 h.2 (zs.getD k Prop4.no) (by rw [List.getD_eq_getElem?_getD, List.getElem?_eq_getElem hk]; exact List.getElem_mem hk)
  unfold sizeK at h1
  rw [Bool.and_eq_true, decide_eq_true_iff, decide_eq_true_iff] at h1
  exact h1
set_option maxHeartbeats 1000000 in
set_option maxRecDepth 100000 in
theorem small_any (A : Option Addr) (c : Nat) (zs : List Prop4) (w : World) (h : RdP w A zs) (hc : zs.length ≤ c) :
    Calls Tryd.prog 9 #[.slice A zs.length c] w fun e w' => e = .returned (.bool (smallP zs)) ∧ w = w' := by
  have HRd := Lib.hid h
  clear h
  by_cases hlen : zs.length ≤ 40
  · have HP : Hid (smallP zs = zs.all sizeK) := Lib.hid (by rw [smallP_eq, decide_eq_true hlen, Bool.true_and])
    go_enter Tryd.func9, Tryd.ntmps9
    go_wp2_with fail
    go_loop [3] (fun i => ∃ k : Nat, k ≤ zs.length ∧ i = .int .i64 (k : Nat) ∧ (zs.drop k).all sizeK = zs.all sizeK) (fun i => zs.length - (intOf i).toNat)
    case atStart => exact ⟨0, Nat.zero_le _, rfl, by simp⟩
    case round =>
      obtain ⟨k, hk, rfl, hacc⟩ := hrel
      by_cases hlt : k < zs.length
      · rw [drop_getD zs k hlt, List.all_cons] at hacc
        obtain ⟨ad, rfl, _, h0, h1, h2, h3⟩ := HRd.out.at4 hlt
        obtain ⟨z, hz⟩ : ∃ z, zs.getD k Prop4.no = z := ⟨_, rfl⟩
        rw [hz] at h0 h1 h2 h3 hacc
        clear hz
        obtain ⟨a, kk, n, s⟩ := z
        dsimp only at h0 h1 h2 h3
        have hsz : sizeK (a, kk, n, s) = (decide (a.size ≤ 300) && decide (s.size ≤ 300)) := rfl
        rw [hsz] at hacc
        have HA := Lib.hid hacc
        clear hacc hsz
        by_cases c1 : a.size ≤ 300
        · by_cases c2 : s.size ≤ 300
          · have hout : (zs.drop (k + 1)).all sizeK = zs.all sizeK := by rw [← HA.out, decide_eq_true c1, decide_eq_true c2]; rfl
            have HO := Lib.hid hout
            have d1 : decide ((300 : Int) < (a.size : Int)) = false := decide_eq_false (by omega)
            have d2 : decide ((300 : Int) < (s.size : Int)) = false := decide_eq_false (by omega)
            clear hout HA
            go_wp2_with fail
            go_round
            case rel => exact ⟨k + 1, by omega, by go_num, HO.out⟩
            case measure => simp [intOf]; omega
          · have hout : zs.all sizeK = false := by rw [← HA.out, decide_eq_true c1, decide_eq_false c2]; rfl
            have HO := Lib.hid hout
            have d1 : decide ((300 : Int) < (a.size : Int)) = false := decide_eq_false (by omega)
            have d2 : decide ((300 : Int) < (s.size : Int)) = true := decide_eq_true (by omega)
            clear hout HA
            go_wp2_with fail
            go_ret
            exact ⟨ret_boolV (by rw [HP.out, HO.out]), rfl⟩
        · have hout : zs.all sizeK = false := by rw [← HA.out, decide_eq_false c1]; rfl
          have HO := Lib.hid hout
          have d1 : decide ((300 : Int) < (a.size : Int)) = true := decide_eq_true (by omega)
          clear hout HA
          go_wp2_with fail
          go_ret
          exact ⟨ret_boolV (by rw [HP.out, HO.out]), rfl⟩
      · obtain rfl : k = zs.length := by omega
        have hout : zs.all sizeK = true := by rw [← hacc, List.drop_eq_nil_of_le (Nat.le_refl _)]; rfl
        have HO := Lib.hid hout
        clear hout
        go_wp2_with fail
        go_ret
        exact ⟨ret_boolV (by rw [HP.out, HO.out]), rfl⟩
  · have HP : Hid (smallP zs = false) := Lib.hid (by rw [smallP_eq, decide_eq_false hlen, Bool.false_and])
    go_enter Tryd.func9, Tryd.ntmps9
    go_wp2_with fail
    go_ret
    exact ⟨ret_boolV HP.out.symm, rfl⟩
end Go.Proofs.YtgacphpkgaobkaaDoor
