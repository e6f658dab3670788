/- The document's own arena: New, Live. -/
import Derived.Test.YtomcpjgklecopaaArenaRef
set_option linter.unusedVariables false
namespace Go.Proofs.Ytomcpjgklecopaa
open Go Go.RowKit

theorem RefA.below {w w' : World} {B N : Nat} {vF vT : Value} {fr tk : List H2} (h : RefA w B N vF vT fr tk) (hb : Below w.heap.size w w') : RefA w' B N vF vT fr tk := h.only (S := NoB) (Below.only hb) (fun _ _ h => h)
set_option maxHeartbeats 4000000 in
set_option maxRecDepth 100000 in
theorem refLive_any (z : H2) (w : World) (B N : Nat) (vF vT : Value) (fr tk : List H2) (h : RefA w B N vF vT fr tk) (hl : tk.length ≤ 1000000) :
    Calls Try.prog 20 #[.pointer (some ⟨N, 0, none⟩), handV z] w fun e w' => e = .returned (.bool (decide (z ∈ tk))) ∧ Below w.heap.size w w' := by
  have HA := Lib.hid h
  clear h
  obtain ⟨zs, zg⟩ := z
  unfold handV
  have hb0 : Below w.heap.size w (w.alloc (.cells #[.int .i64 zs, .int .i64 zg] 34)) := (Below.refl _ _).alloc (Nat.le_refl _) _
  have hbx : (w.alloc (.cells #[.int .i64 zs, .int .i64 zg] 34)).heap[w.heap.size]? = some (.cells #[.int .i64 zs, .int .i64 zg] 34 (0, 0)) := heap_alloc_new _ _
  go_enter Try.func20, Try.ntmps20
  go_wp2_with fail
  go_loopw [5] (fun i wr => ∃ k : Nat, k ≤ tk.length ∧ i = .int .i64 (k : Nat) ∧ decide ((zs, zg) ∈ tk.drop k) = decide ((zs, zg) ∈ tk) ∧ wr.heap[w.heap.size]? = some (.cells #[.int .i64 zs, .int .i64 zg] 34 (0, 0)) ∧ Below w.heap.size w wr) (fun i _ => tk.length - (intOf i).toNat)
  case atStart => exact ⟨0, Nat.zero_le _, rfl, by simp, hbx, hb0⟩
  case round =>
    obtain ⟨k, hk, rfl, hacc, hbox, hbw⟩ := hrel
    have hA := HA.out.below hbw
    obtain ⟨c0, c1, f0, f1⟩ := hA.cells
    obtain ⟨AT, cT, eT, hcT, hrdT, hT, hT0⟩ := hA.rT.rd
    rw [eT] at c1
    have b0 : wr.cell? { block := w.heap.size, off := 0 } = some (.int .i64 zs) := by rw [cell_of_row wr _ 0 _ _ (0, 0) hbox]; rfl
    have b1 : wr.cell? { block := w.heap.size, off := 1 } = some (.int .i64 zg) := by rw [cell_of_row wr _ 1 _ _ (0, 0) hbox]; rfl
    have HAc := Lib.hid hacc
    have HBx := Lib.hid hbox
    clear hacc c0 f0 f1 hbox hA
    by_cases hlt : k < tk.length
    · obtain ⟨ad, rfl, _, h0, h1⟩ := hrdT.at2 hlt
      obtain ⟨y, hy⟩ : ∃ y, tk.getD k H2.no = y := ⟨_, rfl⟩
      have hdy := dropH tk k hlt
      rw [hy] at h0 h1 hdy
      have hst := HAc.out
      rw [hdy] at hst
      clear hy hdy HAc
      have hq := sameH_iff y (zs, zg)
      obtain ⟨ka, kn⟩ := y
      have heq := fun W => eq_hand ka kn zs zg W
      unfold sameH at hq
      dsimp only at hq h0 h1
      obtain ⟨b, hb⟩ : ∃ b, (ka == zs && kn == zg) = b := ⟨_, rfl⟩
      rw [hb] at heq hq
      have HSt := Lib.hid hst
      have HB2 := Lib.hid hq.symm
      clear hst hb hq eT hT hT0 hrdT
      cases b
      · have hout : decide ((zs, zg) ∈ tk.drop (k + 1)) = decide ((zs, zg) ∈ tk) := by
          rw [← HSt.out, Bool.eq_iff_iff, decide_eq_true_iff, decide_eq_true_iff, List.mem_cons]
          have := HB2.out
          rw [decide_eq_false_iff_not] at this
          exact ⟨.inr, fun h => h.elim (fun e => absurd e.symm this) id⟩
        have HO := Lib.hid hout
        clear hout
        go_wp2_with fail
        go_quiet (fail)
        go_wp2_with fail
        go_roundw
        case rel => exact ⟨k + 1, by omega, by go_num, HO.out, HBx.out, below_drewH hbw _⟩
        case measure => simp [intOf]; omega
      · have hout : decide ((zs, zg) ∈ tk) = true := by
          rw [← HSt.out, decide_eq_true_iff, List.mem_cons]
          have := HB2.out
          rw [decide_eq_true_iff] at this
          exact .inl this.symm
        have HO := Lib.hid hout
        clear hout
        go_wp2_with fail
        go_quiet (fail)
        go_wp2_with fail
        go_ret
        exact ⟨ret_boolH HO.out.symm, below_drewH hbw _⟩
    · obtain rfl : k = tk.length := by omega
      have hout : decide ((zs, zg) ∈ tk) = false := by rw [← HAc.out, List.drop_eq_nil_of_le (Nat.le_refl _)]; simp
      have HO := Lib.hid hout
      clear hout
      go_wp2_with fail
      go_ret
      exact ⟨ret_boolH HO.out.symm, hbw⟩
end Go.Proofs.Ytomcpjgklecopaa
