/- The document's own answers for lists of properties: which are right. -/
import Derived.Test.YtgacphpkgaobkaaDoorPropRef
import Derived.Test.YtgacphpkgaobkaaDoorRef
import Derived.Test.YtgacphpkgaobkaaDoorRefCompare
import Derived.Deep.RegionHeld3
import Derived.StillTailTactics
set_option linter.unusedVariables false
namespace Go.Proofs.YtgacphpkgaobkaaDoor
open Go Go.RowKit

def nameK (z : Prop4) : Bool := nameL (runes z.1.data.toList)
def okK (z : Prop4) : Bool := rightV z.2.1 z.2.2.1 z.2.2.2
def cmpK (a b : ByteArray) : Int := cmpL (runes a.data.toList) (runes b.data.toList)
def aboveK : Option ByteArray → Prop4 → Bool
  | none, _ => true
  | some p, z => decide (cmpK p z.1 < 0)
def rightFrom : Option ByteArray → List Prop4 → Bool
  | _, [] => true
  | p, z :: r => nameK z && (okK z && (aboveK p z && rightFrom (some z.1) r))
def rightP (zs : List Prop4) : Bool := decide (zs.length ≤ 16) && rightFrom none zs
def prevP (zs : List Prop4) (k : Nat) (p : Option ByteArray) : Prop := (k = 0 ∧ p = none) ∨ ∃ j, k = j + 1 ∧ p = some (zs.getD j Prop4.no).1

set_option maxHeartbeats 2000000 in
set_option maxRecDepth 100000 in
theorem refRightP_any (A : Option Addr) (c : Nat) (zs : List Prop4) (w : World) (h : RdP w A zs) (hc : zs.length ≤ c) (hs : ∀ k, k < zs.length → (zs.getD k Prop4.no).1.size ≤ 1000000) :
    Calls Tryd.prog 15 #[.slice A zs.length c] w fun e w' => e = .returned (.bool (rightP zs)) ∧ Below w.heap.size w w' := by
  have HRd := Lib.hid h
  have HS := Lib.hid hs
  clear h hs
  by_cases hlen : zs.length ≤ 16
  · have HP : Hid (rightP zs = rightFrom none zs) := Lib.hid (by unfold rightP; rw [decide_eq_true hlen, Bool.true_and])
    go_enter Tryd.func15, Tryd.ntmps15
    go_wp2_with fail
    go_loopw [3] (fun i wr => ∃ (k : Nat) (p : Option ByteArray), k ≤ zs.length ∧ i = .int .i64 (k : Nat) ∧ prevP zs k p ∧ rightFrom p (zs.drop k) = rightFrom none zs ∧ Below w.heap.size w wr) (fun i _ => zs.length - (intOf i).toNat)
    case atStart => exact ⟨0, none, Nat.zero_le _, rfl, .inl ⟨rfl, rfl⟩, by simp, Below.refl _ _⟩
    case round =>
      obtain ⟨k, p, hk, rfl, hp, hacc, hbw⟩ := hrel
      by_cases hlt : k < zs.length
      · rw [drop_getD zs k hlt] at hacc
        have hkz := HS.out k hlt
        have hrd := HRd.out.below (Nat.le_refl _) hbw
        obtain ⟨ad, rfl, _, h0, h1, h2, h3⟩ := hrd.at4 hlt
        have HRdw := Lib.hid hrd
        clear hrd
        obtain ⟨z, hz⟩ : ∃ z, zs.getD k Prop4.no = z := ⟨_, rfl⟩
        rw [hz] at h0 h1 h2 h3 hacc hkz
        have HZ := Lib.hid hz
        clear hz
        obtain ⟨a, kk, n, s⟩ := z
        dsimp only at h0 h1 h2 h3 hkz
        have hst : (nameL (runes a.data.toList) && (rightV kk n s && (aboveK p (a, kk, n, s) && rightFrom (some a) (zs.drop (k + 1))))) = rightFrom none zs := hacc
        have HSt := Lib.hid hst
        clear hst hacc
        have cN := fun W => refRight_any a W hkz
        have cV := fun W => refRightV_any kk n s W
        unfold valV at cV
        obtain ⟨bn, hbn⟩ : ∃ b, nameL (runes a.data.toList) = b := ⟨_, rfl⟩
        obtain ⟨bv, hbv⟩ : ∃ b, rightV kk n s = b := ⟨_, rfl⟩
        rw [hbn] at cN
        rw [hbv] at cV
        have HBn := Lib.hid hbn
        have HBv := Lib.hid hbv
        have CN := Lib.hid cN
        have CV := Lib.hid cV
        clear hbn hbv cN cV
        cases bn
        · have hout : rightFrom none zs = false := by rw [← HSt.out, HBn.out]; rfl
          have HO := Lib.hid hout
          clear hout
          go_wp2_with fail
          refine (CN.out _).mono ?_
          rintro e w3 ⟨rfl, b3⟩
          go_wp2_with fail
          go_ret
          exact ⟨ret_boolV (by rw [HP.out, HO.out]), btV hbw b3⟩
        · go_wp2_with fail
          refine (CN.out _).mono ?_
          rintro e w3 ⟨rfl, b3⟩
          have hbw3 := btV hbw b3
          obtain ⟨ae, hae, _, g0, g1, g2, g3⟩ := (HRdw.out.below (Nat.le_refl _) b3).at4 hlt
          obtain rfl : ad = ae := by injection hae
          rw [HZ.out] at g0 g1 g2 g3
          dsimp only at g0 g1 g2 g3
          clear hae
          go_wp2_with fail
          refine (CV.out _).mono ?_
          rintro e w4 ⟨rfl, b4⟩
          have hbw4 := btV hbw3 b4
          have HR4 := Lib.hid ((HRdw.out.below (Nat.le_refl _) b3).below (Nat.le_refl _) b4)
          clear g0 g1 g2 g3 h0 h1 h2 h3
          cases bv
          · have hout : rightFrom none zs = false := by rw [← HSt.out, HBn.out, HBv.out]; rfl
            have HO := Lib.hid hout
            clear hout
            go_wp2_with fail
            go_ret
            exact ⟨ret_boolV (by rw [HP.out, HO.out]), hbw4⟩
          · have hst2 : (aboveK p (a, kk, n, s) && rightFrom (some a) (zs.drop (k + 1))) = rightFrom none zs := by
              have := HSt.out
              rw [HBn.out, HBv.out, Bool.true_and, Bool.true_and] at this
              exact this
            have HSt2 := Lib.hid hst2
            have hka : (zs.getD k Prop4.no).1 = a := by rw [HZ.out]
            have HKa := Lib.hid hka
            clear hst2 hka
            rcases hp with ⟨rfl, rfl⟩ | ⟨j, rfl, rfl⟩
            · have hout : rightFrom (some a) (zs.drop (0 + 1)) = rightFrom none zs := HSt2.out
              have HO := Lib.hid hout
              clear hout
              go_wp2_with fail
              go_quiet (fail)
              go_wp2_with fail
              go_roundw
              case rel => exact ⟨1, some a, by omega, rfl, .inr ⟨0, rfl, by rw [HKa.out]⟩, HO.out, below_drewN hbw4 _⟩
              case measure => simp [intOf]; omega
            · have hkj := HS.out j (by omega)
              obtain ⟨ae, hae, hbl, q0, _⟩ := HR4.out.at4 (k := j) (by omega)
              obtain rfl : ad = ae := by injection hae
              obtain ⟨ae, hae, _, q1, _⟩ := HR4.out.at4 hlt
              obtain rfl : ad = ae := by injection hae
              rw [HKa.out] at q1
              obtain ⟨pj, hpj⟩ : ∃ pj, (zs.getD j Prop4.no).1 = pj := ⟨_, rfl⟩
              rw [hpj] at q0 hkj
              have hst3 := HSt2.out
              rw [hpj] at hst3
              clear hpj hae
              have cC := fun W => refCompare_any pj a W hkj hkz
              obtain ⟨vc, hvc⟩ : ∃ v, cmpL (runes pj.data.toList) (runes a.data.toList) = v := ⟨_, rfl⟩
              rw [hvc] at cC
              have CC := Lib.hid cC
              have hst4 : (decide (vc < 0) && rightFrom (some a) (zs.drop (j + 1 + 1))) = rightFrom none zs := by rw [← hvc]; exact hst3
              have HSt4 := Lib.hid hst4
              clear cC hst3 hst4 hvc
              have hd0 : decide ((0 : Int) < (j : Int) + 1) = true := decide_eq_true (by omega)
              have hd1 : IntKind.i64.wrap ((j : Int) + 1 - 1) = (j : Int) := by rw [show (j : Int) + 1 - 1 = j from by omega]; exact IntWalk.i64_in _ (by omega)
              have hd3 : IntKind.i64.wrap (j : Int) = (j : Int) := IntWalk.i64_in _ (by omega)
              have hd4 : IntKind.i64.wrap (((j + 1 : Nat) : Int) - 1) = (j : Int) := by rw [show ((j + 1 : Nat) : Int) - 1 = j from by omega]; exact hd3
              have z0 : (0 : Int) ≤ (j : Int) := by omega
              have z1 : (j : Int) < (zs.length : Int) := by omega
              have z2 : (0 : Int) ≤ (j : Int) + 1 := by omega
              have z3 : (j : Int) + 1 < (zs.length : Int) := by omega
              have z4 : ((j : Int) + 1).toNat = j + 1 := by omega
              go_wp2_with fail
              go_region_held3 (fun w' => w'.cell? (ad.add (j * 4)) = some (.string pj) ∧ w'.cell? (ad.add ((j + 1) * 4)) = some (.string a) ∧ Below w.heap.size w w') (first | exact ⟨p0, p1, b6⟩ | exact ⟨q0, q1, Below.drew hbw4⟩ | exact ⟨q0, q1, hbw4⟩ | exact ⟨by assumption, by assumption, by assumption⟩) ((first
                | (go_at_call 38; refine (CC.out _).mono ?_; rintro e w5 ⟨rfl, b5⟩; have b6 : Below w.heap.size w w5 := (Below.drew hbw4).trans (b5.mono hbw4.size); have p0 := (World.cell?_of_block (b5.block _ (by rw [add_block]; exact hbl))).trans q0; have p1 := (World.cell?_of_block (b5.block _ (by rw [add_block]; exact hbl))).trans q1)))
              clear hd0 hd1 hd3 hd4 z0 z1 z2 z3 z4
              by_cases hv : vc < 0
              · have hv2 : ¬ 0 ≤ vc := by omega
                have hv3 : decide (0 ≤ vc) = false := decide_eq_false hv2
                have hout : rightFrom (some a) (zs.drop (j + 1 + 1)) = rightFrom none zs := by rw [← HSt4.out, decide_eq_true hv, Bool.true_and]
                have HO := Lib.hid hout
                clear hout
                go_wp2_with fail
                go_roundw
                case rel => exact ⟨j + 1 + 1, some a, by omega, by go_num, .inr ⟨j + 1, rfl, by rw [HKa.out]⟩, HO.out, b6⟩
                case measure => simp [intOf]; omega
              · have hv2 : 0 ≤ vc := by omega
                have hv3 : decide (0 ≤ vc) = true := decide_eq_true hv2
                have hout : rightFrom none zs = false := by rw [← HSt4.out, decide_eq_false hv, Bool.false_and]
                have HO := Lib.hid hout
                clear hout
                go_wp2_with fail
                go_ret
                exact ⟨ret_boolV (by rw [HP.out, HO.out]), b6⟩
      · obtain rfl : k = zs.length := by omega
        have hout : rightFrom none zs = true := by rw [← hacc, List.drop_eq_nil_of_le (Nat.le_refl _)]; cases p <;> rfl
        have HO := Lib.hid hout
        clear hout
        go_wp2_with fail
        go_ret
        exact ⟨ret_boolV (by rw [HP.out, HO.out]), hbw⟩
  · have HP : Hid (rightP zs = false) := Lib.hid (by unfold rightP; rw [decide_eq_false hlen, Bool.false_and])
    go_enter Tryd.func15, Tryd.ntmps15
    go_wp2_with fail
    go_ret
    exact ⟨ret_boolV HP.out.symm, Below.refl _ _⟩
end Go.Proofs.YtgacphpkgaobkaaDoor
