/- The document's own arena: New. -/
import Derived.Test.YtomcpjgklecopaaArenaRef2
set_option linter.unusedVariables false
namespace Go.Proofs.Ytomcpjgklecopaa
open Go Go.RowKit

def slotsR (n : Nat) : List H2 := (List.range n).map (fun (i : Nat) => (((i : Nat) : Int), (0 : Int)))
theorem slotsR_len (n : Nat) : (slotsR n).length = n := by unfold slotsR; simp
theorem slotsR_succ (n : Nat) : slotsR (n + 1) = slotsR n ++ [((n : Int), 0)] := by unfold slotsR; rw [List.range_succ, List.map_append]; rfl
theorem rdH_one (w : World) (a b : Int) : RdH (w.alloc (.cells #[.int .i64 a, .int .i64 b] 34)) (some ⟨w.heap.size, 0, none⟩) [(a, b)] := by
  intro k hk
  obtain rfl : k = 0 := by simpa using hk
  refine ⟨_, rfl, by simp, ?_, ?_⟩
  · simp [Addr.add, World.cell?_alloc_mark]
  · simp [Addr.add, World.cell?_alloc_mark]
/-- One field's row is another: the arena behind the store. -/
theorem RefA.setF {w w1 : World} {B N : Nat} {vF vT v : Value} {fr tk fr' : List H2} (h : RefA w B N vF vT fr tk) (r : HRow w1 B v fr'.length fr') (hg : w.grownBy w1 vF.ownBlock) (hv : ∀ g, v.ownBlock = some g → vF.ownBlock = some g ∨ w.heap.size ≤ g) :
    RefA (w1.setCell { block := N, off := 0 } v) B N v vT fr' tk := by
  have hN := h.lt
  have o1 : Only (fun k => vF.ownBlock = some k) w w1 := (Only.refl _ w).grown hg (fun k hk => .inl hk)
  have o2 : Only (fun k => k = N) w1 (w1.setCell { block := N, off := 0 } v) := Only.setCell (S := fun k => k = N) (p := { block := N, off := 0 }) (Only.refl _ w1) (.inl rfl) v
  have nN : ∀ g, v.ownBlock = some g → g ≠ N := fun g hg => by
    rcases hv g hg with h1 | h1
    · exact fun e => h.nF (by rw [h1, e])
    · omega
  refine ⟨?_, h.hB, r.only o2 (fun g hg => nN g hg), ?_, fun e => nN N e rfl, h.nT, fun g hg ht => ?_⟩
  · exact heap_setCell_same w1 N 0 _ _ v ((hg.block N hN (fun e => h.nF e.symm)).trans h.cell)
  · exact (h.rT.only o1 (fun g hg h1 => h.apart g h1 hg)).only o2 (fun g hg e => h.nT (by rw [hg, e]))
  · rcases hv g hg with h1 | h1
    · exact h.apart g h1 ht
    · have := (h.rT.lt g ht).2; omega
set_option maxHeartbeats 4000000 in
set_option maxRecDepth 100000 in
theorem refNew_any (n : Nat) (w : World) (hn : n ≤ 1000) :
    Calls Try.prog 9 #[.int .i64 (n : Nat)] w fun e w' => ∃ vF, e = .returned (.pointer (some ⟨w.heap.size, 0, none⟩)) ∧ RefA w' w.heap.size w.heap.size vF (.slice none 0 0) (slotsR n) [] ∧ Below w.heap.size w w' := by
  have hb0 : Below w.heap.size w (w.alloc (.cells #[.slice none 0 0, .slice none 0 0] 47)) := (Below.refl _ _).alloc (Nat.le_refl _) _
  have ha0 : RefA (w.alloc (.cells #[.slice none 0 0, .slice none 0 0] 47)) w.heap.size w.heap.size (.slice none 0 0) (.slice none 0 0) (slotsR 0) [] :=
    ⟨heap_alloc_new _ _, Nat.le_refl _, HRow.nil _ _, HRow.nil _ _, (fun e => by cases e), (fun e => by cases e), fun g e => by cases e⟩
  go_enter Try.func9, Try.ntmps9
  go_wp2_with fail
  go_loopw [4] (fun i wr => ∃ (k : Nat) (vF : Value), k ≤ n ∧ i = .int .i64 (k : Nat) ∧ RefA wr w.heap.size w.heap.size vF (.slice none 0 0) (slotsR k) [] ∧ Below w.heap.size w wr) (fun i _ => n - (intOf i).toNat)
  case atStart => exact ⟨0, _, Nat.zero_le _, rfl, ha0, hb0⟩
  case round =>
    obtain ⟨k, vF, hk, rfl, hA, hbw⟩ := hrel
    have hN := hA.lt
    obtain ⟨c0, c1, f0, f1⟩ := hA.cells
    obtain ⟨AF, cF, eF, hcF, hrdF, hF, hF0⟩ := hA.rF.rd
    subst eF
    have HA := Lib.hid hA
    by_cases hlt : k < n
    · have hlt2 : (k : Int) < (n : Int) := by omega
      have rF := hA.rF
      have hA2 := hA.only (S := NoB) ((Only.refl _ wr).alloc (.cells #[.int .i64 (k : Int), .int .i64 0] 34)) (fun _ _ h => h)
      clear hA hF hF0 hrdF
      go_wp2_with (at_builtin; refine wpList_append_hands rfl _ _ rfl w.heap.size _ (slotsR k).length (slotsR k) rfl hA2.rF (some ⟨wr.heap.size, 0, none⟩) 1 1 [((k : Int), 0)] rfl rfl (rdH_one wr k 0) ?s2 ?s3 (wr.heap.size + 1) ?s4 ?_)
      case s2 => rw [slotsR_len]; simp; omega
      case s3 => have := hbw.size; simp; omega
      case s4 => simp
      intro v4 w4 r4 g4 l4
      obtain ⟨A4, cv4, rfl, _, _, _, _⟩ := r4.rd
      have f04 : w4.frozen? { block := w.heap.size, off := 0 } = false := (World.frozen?_of_block (a := { block := w.heap.size, off := 0 }) (g4.block w.heap.size (by simp; omega) (fun e => hA2.nF e.symm))).trans hA2.cells.2.2.1
      have c04 : w4.cell? { block := w.heap.size, off := 0 } = some (.slice AF (slotsR k).length cF) := (World.cell?_of_block (a := { block := w.heap.size, off := 0 }) (g4.block w.heap.size (by simp; omega) (fun e => hA2.nF e.symm))).trans hA2.cells.1
      have r4' : HRow w4 w.heap.size (.slice A4 ((slotsR k).length + 1) cv4) (slotsR (k + 1)).length (slotsR (k + 1)) := by rw [slotsR_succ, List.length_append]; exact r4
      have hA4 := hA2.setF r4' g4 (fun g hg => (l4 g hg).imp id (fun e => by simp; omega))
      have hb4 : Below w.heap.size w (w4.setCell { block := w.heap.size, off := 0 } (.slice A4 ((slotsR k).length + 1) cv4)) :=
        ((hbw.alloc hbw.size _).grown g4 (by have := hbw.size; simp; omega) (fun g hg => (hA2.rF.lt g hg).1)).setCell (p := { block := w.heap.size, off := 0 }) (Nat.le_refl _) _
      go_wp2_with fail
      go_roundw
      case rel => exact ⟨k + 1, _, by omega, by go_num, hA4, hb4⟩
      case measure => simp [intOf]; omega
    · obtain rfl : k = n := by omega
      go_wp2_with fail
      go_ret
      exact ⟨_, rfl, HA.out, hbw⟩
end Go.Proofs.Ytomcpjgklecopaa
