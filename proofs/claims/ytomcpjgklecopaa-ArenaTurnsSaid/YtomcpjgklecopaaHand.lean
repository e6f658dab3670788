/- Lists of handles: are two the same? -/
import Derived.Test.YtomcpjgklecopaaPair
set_option linter.unusedVariables false
namespace Go.Proofs.Ytomcpjgklecopaa
open Go Go.RowKit

set_option maxRecDepth 100000 in
theorem neq_hand (a b c d : Int) (W : World) :
    (binOp .neq 34 (.agg #[.int .i64 a, .int .i64 b]) (.agg #[.int .i64 c, .int .i64 d])).run Try.prog W = .ok (.bool (!(a == c && b == d))) W := by
  rw [run_neq_struct]
  cases h0 : (a == c) <;> cases h1 : (b == d) <;> (go_simp; try simp [h0, h1, go_sem, Try.underlying34, Try.underlying3])
set_option maxRecDepth 100000 in
theorem eq_hand (a b c d : Int) (W : World) :
    (binOp .eql 34 (.agg #[.int .i64 a, .int .i64 b]) (.agg #[.int .i64 c, .int .i64 d])).run Try.prog W = .ok (.bool (a == c && b == d)) W := by
  rw [run_eql_struct]
  cases h0 : (a == c) <;> cases h1 : (b == d) <;> (go_simp; try simp [h0, h1, go_sem, Try.underlying34, Try.underlying3])
set_option maxHeartbeats 4000000 in
set_option maxRecDepth 100000 in
theorem sameL_any (A B : Option Addr) (c d : Nat) (zs ys : List H2) (w : World) (h : RdH w A zs) (g : RdH w B ys) (hc : zs.length ≤ c) (hd : ys.length ≤ d) (hlen : zs.length ≤ 1000000) (hlen2 : ys.length ≤ 1000000) :
    Calls Try.prog 13 #[.slice A zs.length c, .slice B ys.length d] w fun e w' => e = .returned (.bool (decide (zs = ys))) ∧ Below w.heap.size w w' := by
  have HRd := Lib.hid h
  have HRe := Lib.hid g
  clear h g
  by_cases hl : zs.length = ys.length
  · go_enter Try.func13, Try.ntmps13
    go_wp2_with fail
    go_loopw [5] (fun i wr => ∃ k : Nat, k ≤ zs.length ∧ i = .int .i64 (k : Nat) ∧ decide (zs.drop k = ys.drop k) = decide (zs = ys) ∧ Below w.heap.size w wr) (fun i _ => zs.length - (intOf i).toNat)
    case atStart => exact ⟨0, Nat.zero_le _, rfl, by simp, Below.refl _ _⟩
    case round =>
      obtain ⟨k, hk, rfl, hacc, hbw⟩ := hrel
      have HA := Lib.hid hacc
      clear hacc
      by_cases hlt : k < zs.length
      · obtain ⟨ad, rfl, _, h0, h1⟩ := (HRd.out.below (Nat.le_refl _) hbw).at2 hlt
        obtain ⟨ae, rfl, _, g0, g1⟩ := (HRe.out.below (Nat.le_refl _) hbw).at2 (k := k) (by omega)
        obtain ⟨z, hz⟩ : ∃ z, zs.getD k H2.no = z := ⟨_, rfl⟩
        obtain ⟨y, hy⟩ : ∃ y, ys.getD k H2.no = y := ⟨_, rfl⟩
        have hdz := dropH zs k hlt
        have hdy := dropH ys k (by omega)
        rw [hz] at h0 h1 hdz
        rw [hy] at g0 g1 hdy
        have hst := HA.out
        rw [hdz, hdy] at hst
        clear hz hy hdz hdy HA
        have hq := sameH_iff z y
        obtain ⟨ka, kn⟩ := z
        obtain ⟨la, ln⟩ := y
        have hne := fun W => neq_hand ka kn la ln W
        unfold sameH at hq
        dsimp only at hq
        obtain ⟨b, hb⟩ : ∃ b, (ka == la && kn == ln) = b := ⟨_, rfl⟩
        rw [hb] at hne hq
        have HSt := Lib.hid hst
        have HB2 := Lib.hid hq.symm
        clear hst hb hq
        dsimp only at h0 h1 g0 g1
        cases b
        · have hout : decide (zs = ys) = false := by
            rw [← HSt.out, decide_eq_false_iff_not]
            intro e
            have := HB2.out
            rw [decide_eq_false_iff_not] at this
            exact this (List.cons.inj e).1
          have HO := Lib.hid hout
          clear hout
          go_wp2_with fail
          go_quiet (fail)
          go_wp2_with fail
          go_ret
          exact ⟨ret_boolH HO.out.symm, below_drewH hbw _⟩
        · have hout : decide (zs.drop (k + 1) = ys.drop (k + 1)) = decide (zs = ys) := by
            rw [← HSt.out, Bool.eq_iff_iff, decide_eq_true_iff, decide_eq_true_iff]
            have := HB2.out
            rw [decide_eq_true_iff] at this
            rw [this]
            simp
          have HO := Lib.hid hout
          clear hout
          go_wp2_with fail
          go_quiet (fail)
          go_wp2_with fail
          go_roundw
          case rel => exact ⟨k + 1, by omega, by go_num, HO.out, below_drewH hbw _⟩
          case measure => simp [intOf]; omega
      · obtain rfl : k = zs.length := by omega
        have hout : decide (zs = ys) = true := by rw [← HA.out, List.drop_eq_nil_of_le (Nat.le_refl _), List.drop_eq_nil_of_le (by omega)]; rfl
        have HO := Lib.hid hout
        clear hout
        go_wp2_with fail
        go_ret
        exact ⟨ret_boolH HO.out.symm, hbw⟩
  · have hout : decide (zs = ys) = false := by
      rw [decide_eq_false_iff_not]
      intro e
      exact hl (by rw [e])
    have HO := Lib.hid hout
    clear hout
    go_enter Try.func13, Try.ntmps13
    go_wp2_with fail
    go_ret
    exact ⟨ret_boolH HO.out.symm, Below.refl _ _⟩
end Go.Proofs.Ytomcpjgklecopaa
