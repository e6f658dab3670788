/- The live handles of some slots. -/
import Derived.Test.YtomcpjgklecopaaArenaRef5
set_option linter.unusedVariables false
namespace Go.Proofs.Ytomcpjgklecopaa
open Go Go.RowKit

def atSlot (tk : List H2) (h : H2) : List H2 := tk.filter (fun y => y.1 == h.1)
def namedR (tk hs : List H2) : List H2 := hs.flatMap (atSlot tk)
theorem namedR_succ (tk hs : List H2) (k : Nat) (h : k < hs.length) : namedR tk (hs.take (k + 1)) = namedR tk (hs.take k) ++ atSlot tk (hs.getD k H2.no) := by
  unfold namedR
  rw [List.take_succ_eq_append_getElem h, List.flatMap_append]
  simp [List.getD_eq_getElem?_getD, List.getElem?_eq_getElem h]
theorem atSlot_le (tk : List H2) (h : H2) : (atSlot tk h).length ≤ tk.length := List.length_filter_le _ _
theorem namedR_le (tk : List H2) : ∀ hs : List H2, (namedR tk hs).length ≤ hs.length * tk.length
  | [] => by simp [namedR]
  | h :: r => by
    have ih := namedR_le tk r
    have h1 := atSlot_le tk h
    have e : namedR tk (h :: r) = atSlot tk h ++ namedR tk r := by unfold namedR; rw [List.flatMap_cons]
    rw [e, List.length_append, List.length_cons, Nat.add_mul]
    omega
set_option maxHeartbeats 8000000 in
set_option maxRecDepth 100000 in
theorem named_any (A : Option Addr) (c : Nat) (hs : List H2) (w : World) (B N : Nat) (vF vT : Value) (fr tk : List H2) (h : RefA w B N vF vT fr tk) (hr : RdH w A hs) (hc : hs.length ≤ c) (hl : hs.length ≤ 100) (hl2 : tk.length ≤ 1000) :
    Calls Try.prog 16 #[.pointer (some ⟨N, 0, none⟩), .slice A hs.length c] w fun e w' => ∃ v, e = .returned v ∧ HRow w' w.heap.size v (namedR tk hs).length (namedR tk hs) ∧ Below w.heap.size w w' := by
  have HA := Lib.hid h
  have HR := Lib.hid hr
  clear h hr
  go_enter Try.func16, Try.ntmps16
  go_wp2_with fail
  go_loopw [5, 6] (fun vl i wr => ∃ (k : Nat) (vL : Value) (acc : List H2), vl = vL ∧ i = .int .i64 (k : Nat) ∧ k ≤ hs.length ∧ HRow wr w.heap.size vL acc.length acc ∧ acc = namedR tk (hs.take k) ∧ Below w.heap.size w wr) (fun _ i _ => hs.length - (intOf i).toNat)
  case atStart => exact ⟨0, _, [], rfl, rfl, Nat.zero_le _, HRow.nil _ _, rfl, Below.refl _ _⟩
  case round =>
    obtain ⟨k, vL, acc, rfl, rfl, hk, hrow, hacc, hbw⟩ := hrel
    have HRw := Lib.hid hrow
    have HAcc := Lib.hid hacc
    clear hrow hacc
    by_cases hlt : k < hs.length
    · obtain ⟨wk, hwk⟩ : ∃ x, x = wr := ⟨_, rfl⟩
      subst hwk
      have hsu := namedR_succ tk hs k hlt
      obtain ⟨z, hz⟩ : ∃ z, hs.getD k H2.no = z := ⟨_, rfl⟩
      rw [hz] at hsu
      have HZ := Lib.hid hz
      obtain ⟨ka, kn⟩ := z
      have HSu := Lib.hid hsu
      have hle := namedR_le tk (hs.take k)
      rw [← HAcc.out, List.length_take] at hle
      have hmul : min k hs.length * tk.length ≤ 100 * 1000 := Nat.mul_le_mul (by omega) hl2
      have hal : acc.length ≤ 100000 := by omega
      have hki : (k : Int) < (hs.length : Int) := by omega
      clear hz hsu hle hmul
      go_wp2_with fail
      go_loopw [5, 7] (fun vl j wr => ∃ (m : Nat) (vM : Value) (ac2 : List H2), vl = vM ∧ j = .int .i64 (m : Nat) ∧ m ≤ tk.length ∧ HRow wr w.heap.size vM ac2.length ac2 ∧ ac2 = acc ++ atSlot (tk.take m) (ka, kn) ∧ Below w.heap.size w wr) (fun _ j _ => tk.length - (intOf j).toNat)
      case atStart => exact ⟨0, _, acc, rfl, rfl, Nat.zero_le _, HRw.out, by simp [atSlot], hbw⟩
      case round =>
        obtain ⟨m, vM, ac2, rfl, rfl, hm, hrow, hac2, hbj⟩ := hrel
        obtain ⟨c0, c1, f0, f1⟩ := (HA.out.below hbj).cells
        obtain ⟨AT, cT, eT, hcT, hrdT, hT, hT0⟩ := (HA.out.below hbj).rT.rd
        obtain ⟨AL, cL, eL, hcL, hrdL, hLb, _⟩ := hrow.rd
        rw [eT] at c1
        subst eL
        have HRm := Lib.hid hrow
        have HAc2 := Lib.hid hac2
        have ha2 : ac2.length ≤ 101000 := by
          rw [hac2, List.length_append]
          have h1 := atSlot_le (tk.take m) (ka, kn)
          rw [List.length_take] at h1
          omega
        obtain ⟨ad, hae, _, h0, h1⟩ := (HR.out.below (Nat.le_refl _) hbj).at2 hlt
        subst hae
        rw [HZ.out] at h0 h1
        dsimp only at h0 h1
        clear hrow hac2 eT hT hT0 hLb hrdL c0 f0 f1
        by_cases hlm : m < tk.length
        · obtain ⟨ae, rfl, _, g0, g1⟩ := hrdT.at2 hlm
          obtain ⟨y, hy⟩ : ∃ y, tk.getD m H2.no = y := ⟨_, rfl⟩
          have hts : tk.take (m + 1) = tk.take m ++ [y] := by rw [List.take_succ_eq_append_getElem hlm, ← hy, List.getD_eq_getElem?_getD, List.getElem?_eq_getElem hlm]; rfl
          rw [hy] at g0 g1
          obtain ⟨la, ln⟩ := y
          dsimp only at g0 g1
          obtain ⟨b, hb⟩ : ∃ b, (la == ka) = b := ⟨_, rfl⟩
          have hac : ac2 ++ (if b then [(la, ln)] else []) = acc ++ atSlot (tk.take (m + 1)) (ka, kn) := by
            rw [HAc2.out, List.append_assoc]
            congr 1
            unfold atSlot
            rw [hts, List.filter_append]
            congr 1
            cases b
            · rw [List.filter_cons_of_neg (by show ¬ (la == ka) = true; rw [hb]; decide)]; rfl
            · rw [List.filter_cons_of_pos (by show (la == ka) = true; exact hb)]; rfl
          have HAc3 := Lib.hid hac
          clear hy hts hac hrdT
          cases b with
          | false =>
            go_wp2_with fail
            go_quiet (fail)
            go_wp2_with fail
            go_roundw
            case rel => exact ⟨m + 1, _, ac2, rfl, by go_num, by omega, HRm.out.only (S := NoB) (Below.only (below_drewH (Below.refl _ _) _)) (fun _ _ h => h), by rw [← HAc3.out]; simp, below_drewH hbj _⟩
            case measure => simp [intOf]; omega
          | true =>
            go_wp2_with fail
            go_quiet (fail)
            go_wp2_with (at_builtin; refine wpList_append_hands rfl _ _ rfl w.heap.size _ ac2.length ac2 rfl (HRm.out.only (S := NoB) ((Below.only (below_drewH (Below.refl _ _) _)).alloc _) (fun _ _ h => h)) (some ⟨_, 0, none⟩) 1 1 [(la, ln)] rfl rfl (rdH_one _ la ln) ?s2 ?s3 _ rfl ?_)
            case s2 => simp; omega
            case s3 => have := hbj.size; simp; omega
            intro v4 w4 r4 g4 l4
            obtain ⟨A4, cv4, rfl, _, _, _, _⟩ := r4.rd
            have hb4 := ((below_drewH hbj _).alloc (by have := hbj.size; simp; omega) _).grown g4 (by have := hbj.size; simp; omega) (fun g hg => (HRm.out.lt g hg).1)
            go_wp2_with fail
            go_roundw
            case rel => exact ⟨m + 1, _, ac2 ++ [(la, ln)], rfl, by go_num, by omega, by rw [List.length_append]; exact r4, HAc3.out, hb4⟩
            case measure => simp [intOf]; omega
        · obtain rfl : m = tk.length := by omega
          have hfin : ac2 = namedR tk (hs.take (k + 1)) := by
            have := HAc2.out
            rw [List.take_length] at this
            rw [HSu.out, ← HAcc.out]
            exact this
          have HFin := Lib.hid hfin
          clear hfin
          go_wp2_with fail
          go_roundw
          case rel => exact ⟨k + 1, _, ac2, rfl, by go_num, by omega, HRm.out, HFin.out, hbj⟩
          case measure => simp [intOf]; omega
    · obtain rfl : k = hs.length := by omega
      have hfin := HAcc.out
      rw [List.take_length] at hfin
      subst hfin
      obtain ⟨AL, cL, eL, hcL, hrdL, hLb, _⟩ := HRw.out.rd
      subst eL
      go_wp2_with fail
      go_ret
      exact ⟨_, rfl, HRw.out, hbw⟩
end Go.Proofs.Ytomcpjgklecopaa
