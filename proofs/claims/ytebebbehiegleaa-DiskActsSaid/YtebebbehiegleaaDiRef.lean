/- The document's own disk. -/
import Derived.Test.YtebebbehiegleaaBytesG
import Derived.Test.YtebebbehiegleaaPass
import Derived.LoopTactic
import Derived.Lib.OthersKept
import Derived.Deep.RegionHeld3
import Derived.Deep.QuietTactic
import Derived.BigQuiet
set_option linter.unusedVariables false
namespace Go.Proofs.Ytebebbehiegleaa
open Go Go.RowKit

/-- The document's own disk: a room, safe bytes, others. -/
structure RefK (w : World) (B N room : Nat) (vS vR : Value) (sf rs : List UInt8) : Prop where
  cell : w.heap[N]? = some (.cells #[.int .i64 (room : Nat), vS, vR] 31 (0, 0))
  hB : B ≤ N
  rS : layB.Row 5 w B vS sf.length sf
  rR : layB.Row 5 w B vR rs.length rs
  nS : vS.ownBlock ≠ some N
  nR : vR.ownBlock ≠ some N
  apart : ∀ g, vS.ownBlock = some g → vR.ownBlock ≠ some g
def footK (N : Nat) (vS vR : Value) : Nat → Prop := fun k => k = N ∨ vS.ownBlock = some k ∨ vR.ownBlock = some k
section
variable {w w' : World} {B N room : Nat} {vS vR : Value} {sf rs : List UInt8}
theorem RefK.lt (h : RefK w B N room vS vR sf rs) : N < w.heap.size := (Array.getElem?_eq_some_iff.1 h.cell).1
theorem RefK.foot_lt (h : RefK w B N room vS vR sf rs) : ∀ k, footK N vS vR k → B ≤ k ∧ k < w.heap.size := by
  intro k hk
  rcases hk with rfl | hk | hk
  · exact ⟨h.hB, h.lt⟩
  · exact h.rS.lt k hk
  · exact h.rR.lt k hk
theorem RefK.only {S : Nat → Prop} (h : RefK w B N room vS vR sf rs) (ho : Only S w w') (hS : ∀ k, footK N vS vR k → ¬ S k) : RefK w' B N room vS vR sf rs :=
  ⟨(ho.block N h.lt (hS N (.inl rfl))).trans h.cell, h.hB, h.rS.only ho (fun g hg => hS g (.inr (.inl hg))), h.rR.only ho (fun g hg => hS g (.inr (.inr hg))), h.nS, h.nR, h.apart⟩
theorem RefK.below (h : RefK w B N room vS vR sf rs) (hb : Below w.heap.size w w') : RefK w' B N room vS vR sf rs := h.only (S := NoB) (Below.only hb) (fun _ _ h => h)
theorem RefK.alloc (h : RefK w B N room vS vR sf rs) (o : Obj) : RefK (w.alloc o) B N room vS vR sf rs := h.only (S := NoB) ((Only.refl _ w).alloc o) (fun _ _ h => h)
theorem RefK.drew (h : RefK w B N room vS vR sf rs) : RefK w.drew B N room vS vR sf rs := h.only (S := NoB) ((Only.refl _ w).drew) (fun _ _ h => h)
theorem RefK.cells (h : RefK w B N room vS vR sf rs) : w.cell? { block := N, off := 0 } = some (.int .i64 (room : Nat)) ∧ w.cell? { block := N, off := 1 } = some vS ∧ w.cell? { block := N, off := 2 } = some vR := by
  have hc := h.cell
  refine ⟨?_, ?_, ?_⟩
  · rw [cell_of_row w N 0 _ _ (0, 0) hc]; rfl
  · rw [cell_of_row w N 1 _ _ (0, 0) hc]; rfl
  · rw [cell_of_row w N 2 _ _ (0, 0) hc]; rfl
theorem RefK.frozen (h : RefK w B N room vS vR sf rs) (j : Nat) : w.frozen? { block := N, off := j } = false := frozen_of_row w N _ _ _ h.cell
/-- Behind an append to the safe ones, and its store. -/
theorem RefK.growS {w4 : World} {v4 : Value} {sf' : List UInt8} (h : RefK w B N room vS vR sf rs) (g4 : w.grownBy w4 vS.ownBlock) (r4 : layB.Row 5 w4 B v4 sf'.length sf') (l4 : ∀ k, v4.ownBlock = some k → vS.ownBlock = some k ∨ k = w.heap.size) :
    RefK (w4.setCell { block := N, off := 1 } v4) B N room v4 vR sf' rs := by
  have hN := h.lt
  have h4 : w4.heap[N]? = some (.cells #[.int .i64 (room : Nat), vS, vR] 31 (0, 0)) := (g4.block N hN (fun e => h.nS e.symm)).trans h.cell
  have nN : v4.ownBlock ≠ some N := fun e => by
    rcases l4 N e with h1 | h1
    · exact h.nS h1
    · omega
  have ho : Only (fun k => k = N) w4 (w4.setCell { block := N, off := 1 } v4) := Only.setCell (S := fun k => k = N) (p := { block := N, off := 1 }) (Only.refl _ w4) (.inl rfl) v4
  have hrR : layB.Row 5 w4 B vR rs.length rs := h.rR.only ((Only.refl (fun k => vS.ownBlock = some k) w).grown g4 (fun k hk => .inl hk)) (fun g hg e => h.apart g e hg)
  refine ⟨heap_setCell_same w4 N 1 _ _ v4 h4, h.hB, r4.only ho (fun g hg e => nN (by rw [hg, e])), hrR.only ho (fun g hg e => h.nR (by rw [hg, e])), nN, h.nR, fun g hg hr => ?_⟩
  rcases l4 g hg with h1 | h1
  · exact h.apart g h1 hr
  · have := (h.rR.lt g hr).2; omega
/-- .. to the others. -/
theorem RefK.growR {w4 : World} {v4 : Value} {rs' : List UInt8} (h : RefK w B N room vS vR sf rs) (g4 : w.grownBy w4 vR.ownBlock) (r4 : layB.Row 5 w4 B v4 rs'.length rs') (l4 : ∀ k, v4.ownBlock = some k → vR.ownBlock = some k ∨ k = w.heap.size) :
    RefK (w4.setCell { block := N, off := 2 } v4) B N room vS v4 sf rs' := by
  have hN := h.lt
  have h4 : w4.heap[N]? = some (.cells #[.int .i64 (room : Nat), vS, vR] 31 (0, 0)) := (g4.block N hN (fun e => h.nR e.symm)).trans h.cell
  have nN : v4.ownBlock ≠ some N := fun e => by
    rcases l4 N e with h1 | h1
    · exact h.nR h1
    · omega
  have ho : Only (fun k => k = N) w4 (w4.setCell { block := N, off := 2 } v4) := Only.setCell (S := fun k => k = N) (p := { block := N, off := 2 }) (Only.refl _ w4) (.inl rfl) v4
  have hrS : layB.Row 5 w4 B vS sf.length sf := h.rS.only ((Only.refl (fun k => vR.ownBlock = some k) w).grown g4 (fun k hk => .inl hk)) (fun g hg e => h.apart g hg e)
  refine ⟨heap_setCell_same w4 N 2 _ _ v4 h4, h.hB, hrS.only ho (fun g hg e => h.nS (by rw [hg, e])), r4.only ho (fun g hg e => nN (by rw [hg, e])), h.nS, nN, fun g hg hr => ?_⟩
  rcases l4 g hr with h1 | h1
  · exact h.apart g hg h1
  · have := (h.rS.lt g hg).2; omega
/-- Both are written: the safe ones to a row of their own, none of the others left. -/
theorem RefK.put {vS' : Value} {sf' : List UInt8} (h : RefK w B N room vS vR sf rs) (r : layB.Row 5 w B vS' sf'.length sf') (nS : vS'.ownBlock ≠ some N) :
    RefK ((w.setCell { block := N, off := 1 } vS').setCell { block := N, off := 2 } (.slice none 0 0)) B N room vS' (.slice none 0 0) sf' [] := by
  have ho : Only (fun k => k = N) w ((w.setCell { block := N, off := 1 } vS').setCell { block := N, off := 2 } (.slice none 0 0)) := (Only.setCell (S := fun k => k = N) (p := { block := N, off := 1 }) (Only.refl _ w) (.inl rfl) vS').setCell (p := { block := N, off := 2 }) (.inl rfl) _
  exact ⟨heap_setCell_same _ N 2 _ _ _ (heap_setCell_same w N 1 _ _ vS' h.cell), h.hB, r.only ho (fun g hg e => nS (by rw [hg, e])), LayG.Row.nil _ _, nS, (fun e => by cases e), fun g hg e => by cases e⟩
end
set_option maxHeartbeats 4000000 in
set_option maxRecDepth 100000 in
theorem refAll_any {w : World} {B N room : Nat} {vS vR : Value} {sf rs : List UInt8} (h : RefK w B N room vS vR sf rs) (hl : sf.length + rs.length ≤ 900000) :
    Calls Try.prog 15 #[.pointer (some ⟨N, 0, none⟩)] w fun e w' => ∃ v, e = .returned v ∧ layB.Row 5 w' w.heap.size v (sf.length + rs.length) (sf ++ rs) ∧ Below w.heap.size w w' := by
  have HA := Lib.hid h
  have hlt := h.lt
  obtain ⟨_, c1, c2⟩ := h.drew.cells
  obtain ⟨AS, cS, rfl, hcS, hrdS, hbS, _⟩ := h.rS.rd
  obtain ⟨AR, cR, rfl, hcR, hrdR, hbR, _⟩ := h.rR.rd
  have hbS := Lib.hid hbS
  have hbR := Lib.hid hbR
  clear h
  go_enter Try.func15, Try.ntmps15
  go_wp2_with fail
  refine wp_region_held_drew (S := (fun w' => w'.cell? { block := N, off := 1 } = some (.slice AS sf.length cS) ∧ w'.cell? { block := N, off := 2 } = some (.slice AR rs.length cR))) (by kernel_rfl) ⟨c1, c2⟩ (fun hHeld => ?_)
  refine wpAnyH_take (i := 1) (v := ?_) (by simp only [List.getElem?_toArray, List.getElem?_cons_zero, List.getElem?_cons_succ]; rfl) (by kernel_rfl) (by kernel_rfl) (by kernel_rfl) (by exact fun _ _ _ h => h) (Or.inl ⟨by rfl, ?_⟩) (by assumption) ?_
  rotate_left
  · intro w hSw; (try dsimp only at hSw); go_simp; (try with_reducible rfl)
  try simp only [Act.put, List.setIfInBounds_toArray, List.set_cons_zero, List.set_cons_succ]
  refine wpAnyH_take (i := 2) (v := ?_) (by simp only [List.getElem?_toArray, List.getElem?_cons_zero, List.getElem?_cons_succ]; rfl) (by kernel_rfl) (by kernel_rfl) (by kernel_rfl) (by exact fun _ _ _ h => h) (Or.inl ⟨by rfl, ?_⟩) (by assumption) ?_
  rotate_left
  · intro w hSw; (try dsimp only at hSw); go_simp; (try with_reducible rfl)
  try simp only [Act.put, List.setIfInBounds_toArray, List.set_cons_zero, List.set_cons_succ]
  refine wpAnyH_take (i := 3) (v := ?_) (by simp only [List.getElem?_toArray, List.getElem?_cons_zero, List.getElem?_cons_succ]; rfl) (by kernel_rfl) (by kernel_rfl) (by kernel_rfl) (by exact fun _ _ _ h => h) (Or.inl ⟨by rfl, ?_⟩) (by assumption) ?_
  rotate_left
  · intro w hSw; (try dsimp only at hSw); go_simp; (try with_reducible rfl)
  try simp only [Act.put, List.setIfInBounds_toArray, List.set_cons_zero, List.set_cons_succ]
  refine wpAnyH_take (i := 4) (v := ?_) (by simp only [List.getElem?_toArray, List.getElem?_cons_zero, List.getElem?_cons_succ]; rfl) (by kernel_rfl) (by kernel_rfl) (by kernel_rfl) (by exact fun _ _ _ h => h) (Or.inl ⟨by rfl, ?_⟩) (by assumption) ?_
  rotate_left
  · intro w hSw; (try dsimp only at hSw); go_simp; (try with_reducible rfl)
  try simp only [Act.put, List.setIfInBounds_toArray, List.set_cons_zero, List.set_cons_succ]
  refine wpAnyH_take (i := 6) (v := ?_) (by simp only [List.getElem?_toArray, List.getElem?_cons_zero, List.getElem?_cons_succ]; rfl) (by kernel_rfl) (by kernel_rfl) (by kernel_rfl) (by exact fun _ _ _ h => h) (Or.inl ⟨by rfl, ?_⟩) (by assumption) ?_
  rotate_left
  · intro w hSw; (try dsimp only at hSw); go_simp; (try with_reducible rfl)
  try simp only [Act.put, List.setIfInBounds_toArray, List.set_cons_zero, List.set_cons_succ]
  refine wpAnyH_take (i := 7) (v := ?_) (by simp only [List.getElem?_toArray, List.getElem?_cons_zero, List.getElem?_cons_succ]; rfl) (by kernel_rfl) (by kernel_rfl) (by kernel_rfl) (by exact fun _ _ _ h => h) (Or.inl ⟨by rfl, ?_⟩) (by assumption) ?_
  rotate_left
  · intro w hSw; (try dsimp only at hSw); go_simp; (try with_reducible rfl)
  try simp only [Act.put, List.setIfInBounds_toArray, List.set_cons_zero, List.set_cons_succ]
  refine wpAnyH_take (i := 8) (v := ?_) (by simp only [List.getElem?_toArray, List.getElem?_cons_zero, List.getElem?_cons_succ]; rfl) (by kernel_rfl) (by kernel_rfl) (by kernel_rfl) (by exact fun _ _ _ h => h) (Or.inl ⟨by rfl, ?_⟩) (by assumption) ?_
  rotate_left
  · intro w hSw; (try dsimp only at hSw); go_simp; (try with_reducible rfl)
  try simp only [Act.put, List.setIfInBounds_toArray, List.set_cons_zero, List.set_cons_succ]
  refine wpAnyH_take (i := 9) (v := ?_) (by simp only [List.getElem?_toArray, List.getElem?_cons_zero, List.getElem?_cons_succ]; rfl) (by kernel_rfl) (by kernel_rfl) (by kernel_rfl) (by exact fun _ _ _ h => h) (Or.inl ⟨by rfl, ?_⟩) (by assumption) ?_
  rotate_left
  · intro w hSw; (try dsimp only at hSw); go_simp; (try with_reducible rfl)
  try simp only [Act.put, List.setIfInBounds_toArray, List.set_cons_zero, List.set_cons_succ]
  have hb0 : Below w.heap.size w (w.alloc (.cells #[] 5)).drew := ((Below.refl _ _).alloc (Nat.le_refl _) _).drew
  have hK0 := HA.out.below hb0
  have d1 := hK0.cells.2.1
  have d2 := hK0.cells.2.2
  have r0 : layB.Row 5 (w.alloc (.cells #[] 5)).drew w.heap.size (.slice (some ⟨w.heap.size, 0, none⟩) 0 0) 0 [] := (LayG.Row.lit (L := layB) (E := 5) w #[] [] rfl (Nat.zero_le _)).only (S := NoB) ((Only.refl _ _).drew) (fun _ _ h => h)
  have hrdS0 := hrdS.below (Nat.le_refl _) hb0
  refine wpAnyH_ready (rs := [0]) (by kernel_rfl) (by simp) ?_
  refine AllReadyH.cons (by simp only [List.getElem?_toArray, List.getElem?_cons_zero]; rfl) (fun K hK => ?_) AllReadyH.nil
  go_simp
  refine hK.out _ _ (⟨d1, d2⟩) (fun hHeld => ?_)
  clear hK K
  try simp only [Act.put, List.setIfInBounds_toArray, List.set_cons_zero, List.set_cons_succ]
  refine wpAnyH_ready (rs := [5]) (by kernel_rfl) (by simp) ?_
  refine AllReadyH.cons (by simp only [List.getElem?_toArray, List.getElem?_cons_zero, List.getElem?_cons_succ]; rfl) (fun K hK => ?_) AllReadyH.nil
  rw [if_pos (by rfl)]
  refine wp_append_G typB _ _ rfl w.heap.size (.slice (some ⟨w.heap.size, 0, none⟩) 0 0) 0 [] rfl r0 AS sf.length cS sf rfl rfl hrdS0 (by omega) (by simp [World.drew]) (w.alloc (.cells #[] 5)).drew.heap.size rfl ?_
  intro v1 w1 r1 g1 l1
  have hb1 : Below w.heap.size w w1 := hb0.grown g1 (by simp [World.drew]) (fun g hg => by
    have e : w.heap.size = g := by simpa [Value.ownBlock] using hg
    omega)
  have hK1 := HA.out.below hb1
  have e1 := hK1.cells.2.1
  have e2 := hK1.cells.2.2
  have hrdR1 := hrdR.below (Nat.le_refl _) hb1
  have hsz1 := hb1.size
  simp only [Nat.zero_add, List.nil_append] at r1
  obtain ⟨A1, c1', rfl, _, _, _, _⟩ := r1.rd
  have HR1 := Lib.hid r1
  clear hb0 hK0 r0 hrdS0 g1 l1 r1 d1 d2
  refine hK.out _ _ (⟨e1, e2⟩) (fun hHeld => ?_)
  clear hK K
  try simp only [Act.put, List.setIfInBounds_toArray, List.set_cons_zero, List.set_cons_succ]
  refine wpAnyH_ready (rs := [10]) (by kernel_rfl) (by simp) ?_
  refine AllReadyH.cons (by simp only [List.getElem?_toArray, List.getElem?_cons_zero, List.getElem?_cons_succ]; rfl) (fun K hK => ?_) AllReadyH.nil
  rw [if_pos (by rfl)]
  refine wp_append_G typB _ _ rfl w.heap.size (.slice A1 sf.length c1') sf.length sf rfl HR1.out AR rs.length cR rs rfl rfl hrdR1 (by omega) hsz1 w1.heap.size rfl ?_
  intro v2 w2 r2 g2 l2
  have hb2 : Below w.heap.size w w2 := hb1.grown g2 hsz1 (fun g hg => (HR1.out.lt g hg).1)
  have hK2 := HA.out.below hb2
  have f1 := hK2.cells.2.1
  have f2 := hK2.cells.2.2
  have HR2 := Lib.hid r2
  have HB2 := Lib.hid hb2
  clear hb1 hK1 r2 g2 l2 hb2 hK2 hrdR1
  refine hK.out _ _ (⟨f1, f2⟩) (fun hHeld => ?_)
  clear hK K
  try simp only [Act.put, List.setIfInBounds_toArray, List.set_cons_zero, List.set_cons_succ]
  refine wpAnyH_take (i := 11) (v := ?_) (by simp only [List.getElem?_toArray, List.getElem?_cons_zero, List.getElem?_cons_succ]; rfl) (by kernel_rfl) (by kernel_rfl) (by kernel_rfl) (by exact fun _ _ _ h => h) (Or.inl ⟨by rfl, ?_⟩) (by assumption) ?_
  rotate_left
  · intro w hSw; (try dsimp only at hSw); go_simp; (try with_reducible rfl)
  try simp only [Act.put, List.setIfInBounds_toArray, List.set_cons_zero, List.set_cons_succ]
  refine wpAnyH_done (by kernel_rfl) ?_ _
  go_wp2_with fail
  go_ret
  exact ⟨v2, rfl, HR2.out, HB2.out⟩
set_option maxHeartbeats 8000000 in
set_option maxRecDepth 100000 in
theorem refApp_any {w : World} {B N room : Nat} {vS vR : Value} {sf rs : List UInt8} (A : Option Addr) (c : Nat) (zs : List BsZ) (h : RefK w B N room vS vR sf rs) (hr : RdS w A zs) (hA : FreeS (footK N vS vR) A zs) (hc : zs.length ≤ c) (hl : zs.length ≤ 1000) (hb : (catS zs).length ≤ 300000) (hl2 : sf.length + rs.length ≤ 300000) (hro : sf.length + rs.length ≤ room) (hr30 : room ≤ 1073741824) :
    Calls Try.prog 10 #[.pointer (some ⟨N, 0, none⟩), .slice A zs.length c] w fun e w' =>
      (sf.length + rs.length + (catS zs).length ≤ room ∧ e = .returned (.bool true) ∧ (∃ vR', RefK w' B N room vS vR' sf (rs ++ catS zs) ∧ (∀ k, footK N vS vR' k → footK N vS vR k ∨ w.heap.size ≤ k)) ∧ Only (footK N vS vR) w w') ∨
      (¬ sf.length + rs.length + (catS zs).length ≤ room ∧ e = .returned (.bool false) ∧ Below w.heap.size w w') := by
  have HA := Lib.hid h
  have HR := Lib.hid hr
  have HF := Lib.hid hA
  have hbd : Below w.heap.size w w.drew := (Below.refl _ _).drew
  obtain ⟨c0, c1, c2⟩ := h.drew.cells
  obtain ⟨AS, cS, rfl, hcS, hrdS, hbS, _⟩ := h.rS.rd
  obtain ⟨AR, cR, rfl, hcR, hrdR, hbR, _⟩ := h.rR.rd
  have hbS := Lib.hid hbS
  have hbR := Lib.hid hbR
  have hw1 : IntKind.i64.wrap ((room : Int) - (sf.length : Int)) = ((room - sf.length : Nat) : Int) := by rw [IntWalk.i64_in _ (by omega)]; omega
  have hw2 : IntKind.i64.wrap (((room - sf.length : Nat) : Int) - (rs.length : Int)) = ((room - sf.length - rs.length : Nat) : Int) := by rw [IntWalk.i64_in _ (by omega)]; omega
  obtain ⟨left, hleft⟩ : ∃ left, room - sf.length - rs.length = left := ⟨_, rfl⟩
  have hls : sf.length + rs.length + left = room := by omega
  rw [hleft] at hw2
  have HB := Lib.hid hbd
  clear h hr hA hleft hrdS hrdR hbd
  go_enter Try.func10, Try.ntmps10
  go_wp2_with fail
  refine wp_region_held_drew (S := (fun w' => w'.cell? { block := N, off := 0 } = some (.int .i64 (room : Nat)) ∧ w'.cell? { block := N, off := 1 } = some (.slice AS sf.length cS) ∧ w'.cell? { block := N, off := 2 } = some (.slice AR rs.length cR))) (by kernel_rfl) ⟨c0, c1, c2⟩ (fun hHeld => ?_)
  refine wpAnyH_take (i := 0) (v := ?_) (by simp only [List.getElem?_toArray, List.getElem?_cons_zero]; rfl) (by kernel_rfl) (by kernel_rfl) (by kernel_rfl) (by exact fun _ _ _ h => h) (Or.inl ⟨by rfl, ?_⟩) (by assumption) ?_
  rotate_left
  · intro w hSw; (try dsimp only at hSw); go_simp; (try with_reducible rfl)
  try simp only [Act.put, List.setIfInBounds_toArray, List.set_cons_zero, List.set_cons_succ]
  refine wpAnyH_take (i := 1) (v := ?_) (by simp only [List.getElem?_toArray, List.getElem?_cons_zero, List.getElem?_cons_succ]; rfl) (by kernel_rfl) (by kernel_rfl) (by kernel_rfl) (by exact fun _ _ _ h => h) (Or.inl ⟨by rfl, ?_⟩) (by assumption) ?_
  rotate_left
  · intro w hSw; (try dsimp only at hSw); go_simp; (try with_reducible rfl)
  try simp only [Act.put, List.setIfInBounds_toArray, List.set_cons_zero, List.set_cons_succ]
  refine wpAnyH_take (i := 2) (v := ?_) (by simp only [List.getElem?_toArray, List.getElem?_cons_zero, List.getElem?_cons_succ]; rfl) (by kernel_rfl) (by kernel_rfl) (by kernel_rfl) (by exact fun _ _ _ h => h) (Or.inl ⟨by rfl, ?_⟩) (by assumption) ?_
  rotate_left
  · intro w hSw; (try dsimp only at hSw); go_simp; (try with_reducible rfl)
  try simp only [Act.put, List.setIfInBounds_toArray, List.set_cons_zero, List.set_cons_succ]
  refine wpAnyH_take (i := 3) (v := ?_) (by simp only [List.getElem?_toArray, List.getElem?_cons_zero, List.getElem?_cons_succ]; rfl) (by kernel_rfl) (by kernel_rfl) (by kernel_rfl) (by exact fun _ _ _ h => h) (Or.inl ⟨by rfl, ?_⟩) (by assumption) ?_
  rotate_left
  · intro w hSw; (try dsimp only at hSw); go_simp; (try with_reducible rfl)
  try simp only [Act.put, List.setIfInBounds_toArray, List.set_cons_zero, List.set_cons_succ]
  refine wpAnyH_take (i := 4) (v := ?_) (by simp only [List.getElem?_toArray, List.getElem?_cons_zero, List.getElem?_cons_succ]; rfl) (by kernel_rfl) (by kernel_rfl) (by kernel_rfl) (by exact fun _ _ _ h => h) (Or.inl ⟨by rfl, ?_⟩) (by assumption) ?_
  rotate_left
  · intro w hSw; (try dsimp only at hSw); go_simp; (try with_reducible rfl)
  try simp only [Act.put, List.setIfInBounds_toArray, List.set_cons_zero, List.set_cons_succ]
  refine wpAnyH_take (i := 5) (v := ?_) (by simp only [List.getElem?_toArray, List.getElem?_cons_zero, List.getElem?_cons_succ]; rfl) (by kernel_rfl) (by kernel_rfl) (by kernel_rfl) (by exact fun _ _ _ h => h) (Or.inl ⟨by rfl, ?_⟩) (by assumption) ?_
  rotate_left
  · intro w hSw; (try dsimp only at hSw); go_simp; (try with_reducible rfl)
  try simp only [Act.put, List.setIfInBounds_toArray, List.set_cons_zero, List.set_cons_succ]
  refine wpAnyH_take (i := 6) (v := ?_) (by simp only [List.getElem?_toArray, List.getElem?_cons_zero, List.getElem?_cons_succ]; rfl) (by kernel_rfl) (by kernel_rfl) (by kernel_rfl) (by exact fun _ _ _ h => h) (Or.inl ⟨by rfl, ?_⟩) (by assumption) ?_
  rotate_left
  · intro w hSw; (try dsimp only at hSw); go_simp; (try with_reducible rfl)
  try simp only [Act.put, List.setIfInBounds_toArray, List.set_cons_zero, List.set_cons_succ]
  refine wpAnyH_take (i := 7) (v := ?_) (by simp only [List.getElem?_toArray, List.getElem?_cons_zero, List.getElem?_cons_succ]; rfl) (by kernel_rfl) (by kernel_rfl) (by kernel_rfl) (by exact fun _ _ _ h => h) (Or.inl ⟨by rfl, ?_⟩) (by assumption) ?_
  rotate_left
  · intro w hSw; (try dsimp only at hSw); go_simp; (try with_reducible rfl)
  try simp only [Act.put, List.setIfInBounds_toArray, List.set_cons_zero, List.set_cons_succ]
  refine wpAnyH_take (i := 8) (v := ?_) (by simp only [List.getElem?_toArray, List.getElem?_cons_zero, List.getElem?_cons_succ]; rfl) (by kernel_rfl) (by kernel_rfl) (by kernel_rfl) (by exact fun _ _ _ h => h) (Or.inl ⟨by rfl, ?_⟩) (by assumption) ?_
  rotate_left
  · intro w hSw; (try dsimp only at hSw); go_simp; (try with_reducible rfl)
  try simp only [Act.put, List.setIfInBounds_toArray, List.set_cons_zero, List.set_cons_succ]
  refine wpAnyH_take (i := 9) (v := ?_) (by simp only [List.getElem?_toArray, List.getElem?_cons_zero, List.getElem?_cons_succ]; rfl) (by kernel_rfl) (by kernel_rfl) (by kernel_rfl) (by exact fun _ _ _ h => h) (Or.inl ⟨by rfl, ?_⟩) (by assumption) ?_
  rotate_left
  · intro w hSw; (try dsimp only at hSw); go_simp; (try with_reducible rfl)
  try simp only [Act.put, List.setIfInBounds_toArray, List.set_cons_zero, List.set_cons_succ]
  refine wpAnyH_take (i := 10) (v := ?_) (by simp only [List.getElem?_toArray, List.getElem?_cons_zero, List.getElem?_cons_succ]; rfl) (by kernel_rfl) (by kernel_rfl) (by kernel_rfl) (by exact fun _ _ _ h => h) (Or.inl ⟨by rfl, ?_⟩) (by assumption) ?_
  rotate_left
  · intro w hSw; (try dsimp only at hSw); go_simp; (try with_reducible rfl)
  try simp only [Act.put, List.setIfInBounds_toArray, List.set_cons_zero, List.set_cons_succ]
  refine wpAnyH_take (i := 11) (v := ?_) (by simp only [List.getElem?_toArray, List.getElem?_cons_zero, List.getElem?_cons_succ]; rfl) (by kernel_rfl) (by kernel_rfl) (by kernel_rfl) (by exact fun _ _ _ h => h) (Or.inl ⟨by rfl, ?_⟩) (by assumption) ?_
  rotate_left
  · intro w hSw; (try dsimp only at hSw); go_simp; (try with_reducible rfl)
  try simp only [Act.put, List.setIfInBounds_toArray, List.set_cons_zero, List.set_cons_succ]
  refine wpAnyH_take (i := 12) (v := ?_) (by simp only [List.getElem?_toArray, List.getElem?_cons_zero, List.getElem?_cons_succ]; rfl) (by kernel_rfl) (by kernel_rfl) (by kernel_rfl) (by exact fun _ _ _ h => h) (Or.inl ⟨by rfl, ?_⟩) (by assumption) ?_
  rotate_left
  · intro w hSw; (try dsimp only at hSw); go_simp; (try with_reducible rfl)
  try simp only [Act.put, List.setIfInBounds_toArray, List.set_cons_zero, List.set_cons_succ]
  refine wpAnyH_take (i := 13) (v := ?_) (by simp only [List.getElem?_toArray, List.getElem?_cons_zero, List.getElem?_cons_succ]; rfl) (by kernel_rfl) (by kernel_rfl) (by kernel_rfl) (by exact fun _ _ _ h => h) (Or.inl ⟨by rfl, ?_⟩) (by assumption) ?_
  rotate_left
  · intro w hSw; (try dsimp only at hSw); go_simp; (try with_reducible rfl)
  try simp only [Act.put, List.setIfInBounds_toArray, List.set_cons_zero, List.set_cons_succ]
  refine wpAnyH_take (i := 14) (v := ?_) (by simp only [List.getElem?_toArray, List.getElem?_cons_zero, List.getElem?_cons_succ]; rfl) (by kernel_rfl) (by kernel_rfl) (by kernel_rfl) (by exact fun _ _ _ h => h) (Or.inl ⟨by rfl, ?_⟩) (by assumption) ?_
  rotate_left
  · intro w hSw; (try dsimp only at hSw); go_simp; (try with_reducible rfl)
  try simp only [Act.put, List.setIfInBounds_toArray, List.set_cons_zero, List.set_cons_succ]
  refine wpAnyH_take (i := 15) (v := ?_) (by simp only [List.getElem?_toArray, List.getElem?_cons_zero, List.getElem?_cons_succ]; rfl) (by kernel_rfl) (by kernel_rfl) (by kernel_rfl) (by exact fun _ _ _ h => h) (Or.inl ⟨by rfl, ?_⟩) (by assumption) ?_
  rotate_left
  · intro w hSw; (try dsimp only at hSw); go_simp; (try with_reducible rfl)
  try simp only [Act.put, List.setIfInBounds_toArray, List.set_cons_zero, List.set_cons_succ]
  refine wpAnyH_take (i := 16) (v := ?_) (by simp only [List.getElem?_toArray, List.getElem?_cons_zero, List.getElem?_cons_succ]; rfl) (by kernel_rfl) (by kernel_rfl) (by kernel_rfl) (by exact fun _ _ _ h => h) (Or.inl ⟨by rfl, ?_⟩) (by assumption) ?_
  rotate_left
  · intro w hSw; (try dsimp only at hSw); go_simp; (try with_reducible rfl)
  try simp only [Act.put, List.setIfInBounds_toArray, List.set_cons_zero, List.set_cons_succ]
  refine wpAnyH_done (by kernel_rfl) ?_ _
  go_wp2_with fail
  go_loopw [5, 6] (fun l i wr => ∃ k lf : Nat, k ≤ zs.length ∧ l = .int .i64 (lf : Nat) ∧ i = .int .i64 (k : Nat) ∧ lf + (catS (zs.take k)).length = left ∧ Below w.heap.size w wr) (fun _ i _ => zs.length - (intOf i).toNat)
  case atStart => exact ⟨0, left, Nat.zero_le _, rfl, rfl, rfl, HB.out⟩
  case round =>
    obtain ⟨k, lf, hk, rfl, rfl, hsum, hbw⟩ := hrel
    have HSum := Lib.hid hsum
    have HBw := Lib.hid hbw
    clear hsum hbw
    by_cases hlt : k < zs.length
    · obtain ⟨ad, rfl, hblk, h0⟩ := layS_at (HR.out.below (Nat.le_refl _) HBw.out).1 hlt
      have hzl := catS_take zs (k + 1)
      have hsu := catS_succ zs k hlt
      obtain ⟨z, hz⟩ : ∃ z, zs.getD k default = z := ⟨_, rfl⟩
      rw [hz] at h0 hsu
      obtain ⟨za, zc, zb⟩ := z
      unfold BsZ.val at h0
      dsimp only at h0 hsu
      have hs3 := HSum.out
      have hki : (k : Int) < (zs.length : Int) := by omega
      rw [hsu, List.length_append] at hzl
      by_cases hbig : lf < zb.length
      · have hbi : (lf : Int) < (zb.length : Int) := by omega
        have hnf : ¬ sf.length + rs.length + (catS zs).length ≤ room := by omega
        have HNf := Lib.hid hnf
        clear hnf hs3 hzl hsu hz
        go_wp2_with fail
        go_ret
        exact .inr ⟨HNf.out, rfl, HBw.out⟩
      · have hbi : ¬ ((lf : Int) < (zb.length : Int)) := by omega
        have hwr : IntKind.i64.wrap ((lf : Int) - (zb.length : Int)) = ((lf - zb.length : Nat) : Int) := by rw [IntWalk.i64_in _ (by omega)]; omega
        have hs4 : lf - zb.length + (catS (zs.take (k + 1))).length = left := by rw [hsu, List.length_append]; omega
        have HS4 := Lib.hid hs4
        clear hs4 hs3 hzl hsu hz
        go_wp2_with fail
        go_roundw
        case rel => exact ⟨k + 1, lf - zb.length, by omega, rfl, by go_num, HS4.out, HBw.out⟩
        case measure => simp [intOf]; omega
    · obtain rfl : k = zs.length := by omega
      have hs3 := HSum.out
      rw [List.take_length] at hs3
      have hfit : sf.length + rs.length + (catS zs).length ≤ room := by omega
      have HFit := Lib.hid hfit
      clear hfit hs3
      go_wp2_with fail
      go_loopw [7] (fun i wr => ∃ (k : Nat) (vR' : Value), k ≤ zs.length ∧ i = .int .i64 (k : Nat) ∧ RefK wr B N room (.slice AS sf.length cS) vR' sf (rs ++ catS (zs.take k)) ∧ (∀ x, vR'.ownBlock = some x → (Value.slice AR rs.length cR).ownBlock = some x ∨ w.heap.size ≤ x) ∧ Only (footK N (.slice AS sf.length cS) (.slice AR rs.length cR)) w wr) (fun i _ => zs.length - (intOf i).toNat)
      case atStart => exact ⟨0, _, Nat.zero_le _, rfl, by simpa [catS] using HA.out.below HBw.out, fun x hx => .inl hx, Only.mono (S := NoB) (Below.only HBw.out) (fun x hx => hx.elim)⟩
      case round =>
        clear HBw HSum
        obtain ⟨k, vR', hk, rfl, hK, hv, ho⟩ := hrel
        by_cases hlt : k < zs.length
        · have hrk := HR.out.only ho HF.out
          obtain ⟨ad, rfl, hblk, h0⟩ := layS_at hrk.1 hlt
          have hzok := (hrk.2 _ (mem_getDS hlt)).2
          have hzc := catS_take zs (k + 1)
          have hsu := catS_succ zs k hlt
          have hfz := HF.out.2 _ (mem_getDS hlt)
          have hadN : ¬ footK N (.slice AS sf.length cS) (.slice AR rs.length cR) ad.block := HF.out.1 (fun e => by rw [e] at hlt; exact absurd hlt (Nat.not_lt_zero _)) ad rfl
          obtain ⟨z, hz⟩ : ∃ z, zs.getD k default = z := ⟨_, rfl⟩
          rw [hz] at h0 hzok hsu hfz
          obtain ⟨za, zc, zb⟩ := z
          unfold BsZ.val at h0
          dsimp only at h0 hzok hsu hfz
          rw [hsu, List.length_append] at hzc
          obtain ⟨rk, hrk2⟩ : ∃ rk, rs ++ catS (zs.take k) = rk := ⟨_, rfl⟩
          have hrl : rk.length = rs.length + (catS (zs.take k)).length := by rw [← hrk2, List.length_append]
          have hrn : rs ++ catS (zs.take (k + 1)) = rk ++ zb := by rw [hsu, ← List.append_assoc, hrk2]
          rw [hrk2] at hK
          obtain ⟨AF, cF, rfl, _, _, hFb, _⟩ := hK.rR.rd
          have hKd := hK.drew
          have c2 := hKd.cells.2.2
          have e0 : wr.drew.cell? (ad.add k) = some (.slice za zb.length zc) := h0
          have hzd : layB.Rd wr.drew za zb := hzok
          have hki : (k : Int) < (zs.length : Int) := by omega
          have HKd := Lib.hid hKd
          have HZd := Lib.hid hzd
          have HV := Lib.hid hv
          have HO := Lib.hid ho
          have HRn := Lib.hid hrn
          have HFb := Lib.hid hFb
          have hrkl : rk.length + zb.length ≤ 1000000 := by omega
          clear hrk hK hKd hv ho hsu hrn hz hzok hzd hfz hrk2 hrl hzc hFb c0 c1 h0
          go_wp2_with fail
          refine wp_region_held_drew (S := (fun w' => w'.cell? (ad.add k) = some (.slice za zb.length zc))) (by kernel_rfl) e0 (fun hHeld => ?_)
          refine wpAnyH_take (i := 0) (v := ?_) (by simp only [List.getElem?_toArray, List.getElem?_cons_zero]; rfl) (by kernel_rfl) (by kernel_rfl) (by kernel_rfl) (by exact fun _ _ _ h => h) (Or.inl ⟨by rfl, ?_⟩) (by assumption) ?_
          rotate_left
          · intro w hSw; (try dsimp only at hSw); go_simp; (try with_reducible rfl)
          try simp only [Act.put, List.setIfInBounds_toArray, List.set_cons_zero, List.set_cons_succ]
          refine wpAnyH_take (i := 1) (v := ?_) (by simp only [List.getElem?_toArray, List.getElem?_cons_zero, List.getElem?_cons_succ]; rfl) (by kernel_rfl) (by kernel_rfl) (by kernel_rfl) (by exact fun _ _ _ h => h) (Or.inl ⟨by rfl, ?_⟩) (by assumption) ?_
          rotate_left
          · intro w hSw; (try dsimp only at hSw); go_simp; (try with_reducible rfl)
          try simp only [Act.put, List.setIfInBounds_toArray, List.set_cons_zero, List.set_cons_succ]
          refine wpAnyH_take (i := 2) (v := ?_) (by simp only [List.getElem?_toArray, List.getElem?_cons_zero, List.getElem?_cons_succ]; rfl) (by kernel_rfl) (by kernel_rfl) (by kernel_rfl) (by exact fun _ _ _ h => h) (Or.inl ⟨by rfl, ?_⟩) (by assumption) ?_
          rotate_left
          · intro w hSw; (try dsimp only at hSw); go_simp; (try with_reducible rfl)
          try simp only [Act.put, List.setIfInBounds_toArray, List.set_cons_zero, List.set_cons_succ]
          refine wpAnyH_take (i := 3) (v := ?_) (by simp only [List.getElem?_toArray, List.getElem?_cons_zero, List.getElem?_cons_succ]; rfl) (by kernel_rfl) (by kernel_rfl) (by kernel_rfl) (by exact fun _ _ _ h => h) (Or.inl ⟨by rfl, ?_⟩) (by assumption) ?_
          rotate_left
          · intro w hSw; (try dsimp only at hSw); go_simp; (try with_reducible rfl)
          try simp only [Act.put, List.setIfInBounds_toArray, List.set_cons_zero, List.set_cons_succ]
          refine wpAnyH_take (i := 5) (v := ?_) (by simp only [List.getElem?_toArray, List.getElem?_cons_zero, List.getElem?_cons_succ]; rfl) (by kernel_rfl) (by kernel_rfl) (by kernel_rfl) (by exact fun _ _ _ h => h) (Or.inl ⟨by rfl, ?_⟩) (by assumption) ?_
          rotate_left
          · intro w hSw; (try dsimp only at hSw); go_simp; (try with_reducible rfl)
          try simp only [Act.put, List.setIfInBounds_toArray, List.set_cons_zero, List.set_cons_succ]
          refine wpAnyH_take (i := 6) (v := ?_) (by simp only [List.getElem?_toArray, List.getElem?_cons_zero, List.getElem?_cons_succ]; rfl) (by kernel_rfl) (by kernel_rfl) (by kernel_rfl) (by exact fun _ _ _ h => h) (Or.inl ⟨by rfl, ?_⟩) (by assumption) ?_
          rotate_left
          · intro w hSw; (try dsimp only at hSw); go_simp; (try with_reducible rfl)
          try simp only [Act.put, List.setIfInBounds_toArray, List.set_cons_zero, List.set_cons_succ]
          refine wpAnyH_take (i := 7) (v := ?_) (by simp only [List.getElem?_toArray, List.getElem?_cons_zero, List.getElem?_cons_succ]; rfl) (by kernel_rfl) (by kernel_rfl) (by kernel_rfl) (by exact fun _ _ _ h => h) (Or.inl ⟨by rfl, ?_⟩) (by assumption) ?_
          rotate_left
          · intro w hSw; (try dsimp only at hSw); go_simp; (try with_reducible rfl)
          try simp only [Act.put, List.setIfInBounds_toArray, List.set_cons_zero, List.set_cons_succ]
          refine wpAnyH_take (i := 8) (v := ?_) (by simp only [List.getElem?_toArray, List.getElem?_cons_zero, List.getElem?_cons_succ]; rfl) (by kernel_rfl) (by kernel_rfl) (by kernel_rfl) (by exact fun _ _ _ h => h) (Or.inl ⟨by rfl, ?_⟩) (by assumption) ?_
          rotate_left
          · intro w hSw; (try dsimp only at hSw); go_simp; (try with_reducible rfl)
          try simp only [Act.put, List.setIfInBounds_toArray, List.set_cons_zero, List.set_cons_succ]
          refine wpAnyH_ready (rs := [4]) (by kernel_rfl) (by simp) ?_
          refine AllReadyH.cons (by simp only [List.getElem?_toArray, List.getElem?_cons_zero, List.getElem?_cons_succ]; rfl) (fun K hK => ?_) AllReadyH.nil
          go_simp
          refine hK.out _ _ (e0) (fun hHeld => ?_)
          clear hK K
          try simp only [Act.put, List.setIfInBounds_toArray, List.set_cons_zero, List.set_cons_succ]
          refine wpAnyH_ready (rs := [9]) (by kernel_rfl) (by simp) ?_
          refine AllReadyH.cons (by simp only [List.getElem?_toArray, List.getElem?_cons_zero, List.getElem?_cons_succ]; rfl) (fun K hK => ?_) AllReadyH.nil
          rw [if_pos (by rfl)]
          refine wp_append_G typB _ _ rfl B (.slice AF rk.length cF) rk.length rk rfl HKd.out.rR za zb.length zc zb rfl rfl HZd.out hrkl (by have := HKd.out.hB; have := HKd.out.lt; omega) wr.drew.heap.size rfl ?_
          intro v4 w4 r4 g4 l4
          have hg := HKd.out.growR (rs' := rk ++ zb) g4 (by rw [List.length_append]; exact r4) l4
          have hadN2 : ad.block ≠ N := fun e => hadN (.inl e)
          have hgad : w4.cell? (ad.add k) = some (.slice za zb.length zc) := (World.cell?_of_block (g4.block _ (by rw [add_block]; exact hblk) (by
            rw [add_block]
            intro e
            rcases HV.out _ e.symm with h1 | h1
            · exact hadN (.inr (.inr h1))
            · exact absurd (HR.out.1 k hlt) (by
                rintro ⟨ae, e2, hb2, _⟩
                obtain rfl : ad = ae := by injection e2
                omega)))).trans e0
          have hgad2 : (w4.setCell { block := N, off := 2 } v4).cell? (ad.add k) = some (.slice za zb.length zc) := (World.cell?_of_block (Below.heap_setCell _ _ _ _ (by rw [add_block]; exact hadN2))).trans hgad
          have hNf : w4.frozen? { block := N, off := 2 } = false := (World.frozen?_of_block (a := { block := N, off := 2 }) (g4.block N HKd.out.lt (fun e => HKd.out.nR e.symm))).trans (HKd.out.frozen 2)
          have hNc : w4.cell? { block := N, off := 2 } = some (.slice AF rk.length cF) := (World.cell?_of_block (a := { block := N, off := 2 }) (g4.block N HKd.out.lt (fun e => HKd.out.nR e.symm))).trans c2
          have oT : Only (footK N (.slice AS sf.length cS) (.slice AR rs.length cR)) w (w4.setCell { block := N, off := 2 } v4) := ((HO.out.drew).grown g4 (fun x hx => by
            rcases HV.out x hx with h1 | h1
            · exact .inl (.inr (.inr h1))
            · exact .inr h1)).setCell (p := { block := N, off := 2 }) (.inl (.inl rfl)) v4
          have hv4 : ∀ x, v4.ownBlock = some x → (Value.slice AR rs.length cR).ownBlock = some x ∨ w.heap.size ≤ x := fun x hx => by
            rcases l4 x hx with h1 | h1
            · exact HV.out x h1
            · have := HO.out.size; exact .inr (by show w.heap.size ≤ x; rw [h1]; exact this)
          obtain ⟨A4, c4, e4, _, _, _, _⟩ := r4.rd
          subst e4
          have HG := Lib.hid hg
          have HOT := Lib.hid oT
          have HV4 := Lib.hid hv4
          clear hg oT hv4 r4 g4 l4
          refine hK.out _ _ (hgad) (fun hHeld => ?_)
          clear hK K
          try simp only [Act.put, List.setIfInBounds_toArray, List.set_cons_zero, List.set_cons_succ]
          refine wpAnyH_take (i := 10) (v := ?_) (by simp only [List.getElem?_toArray, List.getElem?_cons_zero, List.getElem?_cons_succ]; rfl) (by kernel_rfl) (by kernel_rfl) (by kernel_rfl) (by exact fun _ _ _ h => h) (Or.inl ⟨by rfl, ?_⟩) (by assumption) ?_
          rotate_left
          · intro w hSw; (try dsimp only at hSw); go_simp; (try with_reducible rfl)
          try simp only [Act.put, List.setIfInBounds_toArray, List.set_cons_zero, List.set_cons_succ]
          refine wpAnyH_take (i := 11) (v := ?_) (by simp only [List.getElem?_toArray, List.getElem?_cons_zero, List.getElem?_cons_succ]; rfl) (by kernel_rfl) (by kernel_rfl) (by kernel_rfl) (by exact fun _ _ _ h => h) (Or.inl ⟨by rfl, ?_⟩) (by assumption) ?_
          rotate_left
          · intro w hSw; (try dsimp only at hSw); go_simp; (try with_reducible rfl)
          try simp only [Act.put, List.setIfInBounds_toArray, List.set_cons_zero, List.set_cons_succ]
          refine wpAnyH_ready (rs := [12]) (by kernel_rfl) (by simp) ?_
          refine AllReadyH.cons (by simp only [List.getElem?_toArray, List.getElem?_cons_zero, List.getElem?_cons_succ]; rfl) (fun K hK => ?_) AllReadyH.nil
          go_simp
          refine hK.out _ _ (hgad2) (fun hHeld => ?_)
          clear hK K
          try simp only [Act.put, List.setIfInBounds_toArray, List.set_cons_zero, List.set_cons_succ]
          refine wpAnyH_done (by kernel_rfl) ?_ _
          go_wp2_with fail
          go_roundw
          case rel => exact ⟨k + 1, _, by omega, by go_num, by rw [HRn.out]; exact HG.out, HV4.out, HOT.out⟩
          case measure => simp [intOf]; omega
        · obtain rfl : k = zs.length := by omega
          rw [List.take_length] at hK
          have HK := Lib.hid hK
          have HV := Lib.hid hv
          have HO := Lib.hid ho
          clear hK hv ho
          go_wp2_with fail
          go_ret
          refine .inl ⟨HFit.out, rfl, ⟨vR', HK.out, fun x hx => ?_⟩, HO.out⟩
          rcases hx with h | h | h
          · exact .inl (.inl h)
          · exact .inl (.inr (.inl h))
          · rcases HV.out x h with h1 | h1
            · exact .inl (.inr (.inr h1))
            · exact .inr h1
set_option maxHeartbeats 8000000 in
set_option maxRecDepth 100000 in
theorem refCrash_any {w : World} {B N room : Nat} {vS vR : Value} {sf rs : List UInt8} (keep : Int) (h : RefK w B N room vS vR sf rs) (hl2 : sf.length + rs.length ≤ 900000) :
    Calls Try.prog 11 #[.pointer (some ⟨N, 0, none⟩), .int .i64 keep] w fun e w' =>
      e = .returned (.tuple #[]) ∧ (∃ vS', RefK w' B N room vS' (.slice none 0 0) (sf ++ rs.take keep.toNat) [] ∧ (∀ k, footK N vS' (.slice none 0 0) k → footK N vS vR k ∨ w.heap.size ≤ k)) ∧ Only (footK N vS vR) w w' := by
  have HA := Lib.hid h
  obtain ⟨AR, cR, rfl, hcR, hrdR, hbR, _⟩ := h.rR.rd
  have hRb : ∀ ad, AR = some ad → (Value.slice AR rs.length cR).ownBlock = some ad.block := fun ad e => (hbR ad e).2.1
  have HRb := Lib.hid hRb
  clear h hrdR hbR hRb
  go_enter Try.func11, Try.ntmps11
  go_wp2_with fail
  go_loopw [4] (fun i wr => ∃ (k : Nat) (vS' : Value), k ≤ rs.length ∧ k ≤ keep.toNat ∧ i = .int .i64 (k : Nat) ∧ RefK wr B N room vS' (.slice AR rs.length cR) (sf ++ rs.take k) rs ∧ (∀ x, vS'.ownBlock = some x → vS.ownBlock = some x ∨ w.heap.size ≤ x) ∧ Only (footK N vS (.slice AR rs.length cR)) w wr) (fun i _ => rs.length - (intOf i).toNat)
  case atStart => exact ⟨0, vS, Nat.zero_le _, Nat.zero_le _, rfl, by simpa using HA.out, fun x hx => .inl hx, Only.refl _ _⟩
  case round =>
    obtain ⟨k, vS', hk, hk2, rfl, hK, hv, ho⟩ := hrel
    by_cases hlt : k < rs.length ∧ (k : Int) < keep
    · obtain ⟨hlt, hki2⟩ := hlt
      obtain ⟨AF, cF, rfl, _, _, _, _⟩ := hK.rS.rd
      have c2w := hK.cells.2.2
      have hKd := hK.drew
      obtain ⟨_, c1, c2⟩ := hKd.cells
      obtain ⟨AR', cR', eR, _, hrdR, hbR, _⟩ := hKd.rR.rd
      have e1 : AR = AR' := by injection eR
      subst e1
      obtain ⟨ad, rfl, hblk, h0⟩ := layB_at hrdR hlt
      have hsu : rs.take (k + 1) = rs.take k ++ [rs.getD k default] := by rw [List.take_succ_eq_append_getElem hlt, List.getD_eq_getElem?_getD, List.getElem?_eq_getElem hlt]; rfl
      obtain ⟨x, hx⟩ : ∃ x, rs.getD k default = x := ⟨_, rfl⟩
      rw [hx] at h0 hsu
      have had : (some ad.block) = (Value.slice (some ad) rs.length cR).ownBlock := rfl
      obtain ⟨sk, hsk⟩ : ∃ sk, sf ++ rs.take k = sk := ⟨_, rfl⟩
      have hskl : sk.length ≤ sf.length + k := by rw [← hsk, List.length_append, List.length_take]; omega
      have hsn : sf ++ rs.take (k + 1) = sk ++ [x] := by rw [hsu, ← List.append_assoc, hsk]
      rw [hsk] at hKd c1 hv
      have hMA := (hKd.alloc (.cells #[.int .u8 (x.toNat : Int)] 5))
      have hrow1 : layB.Rd (wr.drew.alloc (.cells #[.int .u8 (x.toNat : Int)] 5)) (some ⟨wr.heap.size, 0, none⟩) [x] := LayG.Rd.lit wr.drew #[.int .u8 (x.toNat : Int)] [x] rfl (by simp [maxLen])
      have WAe : (wr.alloc (.cells #[.int .u8 (x.toNat : Int)] 5)).drew = wr.drew.alloc (.cells #[.int .u8 (x.toNat : Int)] 5) := rfl
      have hMA2 : RefK (wr.alloc (.cells #[.int .u8 (x.toNat : Int)] 5)).drew B N room (.slice AF sk.length cF) (.slice (some ad) rs.length cR) sk rs := hMA
      have a2 := hMA2.cells.2.2
      have a1 := hMA2.cells.2.1
      have hNlt := hMA2.lt
      have a0 : (wr.alloc (.cells #[.int .u8 (x.toNat : Int)] 5)).drew.cell? (ad.add k) = some (.int .u8 (x.toNat : Int)) := (World.cell?_alloc_lt wr.drew _ _ (by rw [add_block]; exact hblk)).trans h0
      have HMA := Lib.hid hMA2
      have HRow1 : Hid (layB.Rd (wr.alloc (.cells #[.int .u8 (x.toNat : Int)] 5)).drew (some ⟨wr.heap.size, 0, none⟩) [x]) := Lib.hid hrow1
      have hki : (k : Int) < (rs.length : Int) := by omega
      have HSn := Lib.hid hsn
      have HV := Lib.hid hv
      have HO := Lib.hid ho
      have hsz : wr.heap.size ≤ (wr.alloc (.cells #[.int .u8 (x.toNat : Int)] 5)).drew.heap.size := by simp [World.drew]
      have hsl : sk.length + 1 ≤ 1000000 := by omega
      have hadb : ad.block < wr.heap.size := hblk
      clear hK hKd hMA hMA2 hrow1 hsu hsn hv ho WAe eR hrdR hbR hx had hsk
      go_wp2_with fail
      refine wp_region_held_drew (S := (fun w' => w'.cell? { block := N, off := 2 } = some (.slice (some ad) rs.length cR) ∧ w'.cell? (ad.add k) = some (.int .u8 (x.toNat : Int)))) (by kernel_rfl) ⟨c2, h0⟩ (fun hHeld => ?_)
      refine wpAnyH_take (i := 0) (v := ?_) (by simp only [List.getElem?_toArray, List.getElem?_cons_zero]; rfl) (by kernel_rfl) (by kernel_rfl) (by kernel_rfl) (by exact fun _ _ _ h => h) (Or.inl ⟨by rfl, ?_⟩) (by assumption) ?_
      rotate_left
      · intro w hSw; (try dsimp only at hSw); go_simp; (try with_reducible rfl)
      try simp only [Act.put, List.setIfInBounds_toArray, List.set_cons_zero, List.set_cons_succ]
      refine wpAnyH_take (i := 1) (v := ?_) (by simp only [List.getElem?_toArray, List.getElem?_cons_zero, List.getElem?_cons_succ]; rfl) (by kernel_rfl) (by kernel_rfl) (by kernel_rfl) (by exact fun _ _ _ h => h) (Or.inl ⟨by rfl, ?_⟩) (by assumption) ?_
      rotate_left
      · intro w hSw; (try dsimp only at hSw); go_simp; (try with_reducible rfl)
      try simp only [Act.put, List.setIfInBounds_toArray, List.set_cons_zero, List.set_cons_succ]
      refine wpAnyH_take (i := 2) (v := ?_) (by simp only [List.getElem?_toArray, List.getElem?_cons_zero, List.getElem?_cons_succ]; rfl) (by kernel_rfl) (by kernel_rfl) (by kernel_rfl) (by exact fun _ _ _ h => h) (Or.inl ⟨by rfl, ?_⟩) (by assumption) ?_
      rotate_left
      · intro w hSw; (try dsimp only at hSw); go_simp; (try with_reducible rfl)
      try simp only [Act.put, List.setIfInBounds_toArray, List.set_cons_zero, List.set_cons_succ]
      refine wpAnyH_take (i := 3) (v := ?_) (by simp only [List.getElem?_toArray, List.getElem?_cons_zero, List.getElem?_cons_succ]; rfl) (by kernel_rfl) (by kernel_rfl) (by kernel_rfl) (by exact fun _ _ _ h => h) (Or.inl ⟨by rfl, ?_⟩) (by assumption) ?_
      rotate_left
      · intro w hSw; (try dsimp only at hSw); go_simp; (try with_reducible rfl)
      try simp only [Act.put, List.setIfInBounds_toArray, List.set_cons_zero, List.set_cons_succ]
      refine wpAnyH_take (i := 5) (v := ?_) (by simp only [List.getElem?_toArray, List.getElem?_cons_zero, List.getElem?_cons_succ]; rfl) (by kernel_rfl) (by kernel_rfl) (by kernel_rfl) (by exact fun _ _ _ h => h) (Or.inl ⟨by rfl, ?_⟩) (by assumption) ?_
      rotate_left
      · intro w hSw; (try dsimp only at hSw); go_simp; (try with_reducible rfl)
      try simp only [Act.put, List.setIfInBounds_toArray, List.set_cons_zero, List.set_cons_succ]
      refine wpAnyH_take (i := 6) (v := ?_) (by simp only [List.getElem?_toArray, List.getElem?_cons_zero, List.getElem?_cons_succ]; rfl) (by kernel_rfl) (by kernel_rfl) (by kernel_rfl) (by exact fun _ _ _ h => h) (Or.inl ⟨by rfl, ?_⟩) (by assumption) ?_
      rotate_left
      · intro w hSw; (try dsimp only at hSw); go_simp; (try with_reducible rfl)
      try simp only [Act.put, List.setIfInBounds_toArray, List.set_cons_zero, List.set_cons_succ]
      refine wpAnyH_take (i := 7) (v := ?_) (by simp only [List.getElem?_toArray, List.getElem?_cons_zero, List.getElem?_cons_succ]; rfl) (by kernel_rfl) (by kernel_rfl) (by kernel_rfl) (by exact fun _ _ _ h => h) (Or.inl ⟨by rfl, ?_⟩) (by assumption) ?_
      rotate_left
      · intro w hSw; (try dsimp only at hSw); go_simp; (try with_reducible rfl)
      try simp only [Act.put, List.setIfInBounds_toArray, List.set_cons_zero, List.set_cons_succ]
      refine wpAnyH_take (i := 8) (v := ?_) (by simp only [List.getElem?_toArray, List.getElem?_cons_zero, List.getElem?_cons_succ]; rfl) (by kernel_rfl) (by kernel_rfl) (by kernel_rfl) (by exact fun _ _ _ h => h) (Or.inl ⟨by rfl, ?_⟩) (by assumption) ?_
      rotate_left
      · intro w hSw; (try dsimp only at hSw); go_simp; (try with_reducible rfl)
      try simp only [Act.put, List.setIfInBounds_toArray, List.set_cons_zero, List.set_cons_succ]
      refine wpAnyH_take (i := 9) (v := ?_) (by simp only [List.getElem?_toArray, List.getElem?_cons_zero, List.getElem?_cons_succ]; rfl) (by kernel_rfl) (by kernel_rfl) (by kernel_rfl) (by exact fun _ _ _ h => h) (Or.inl ⟨by rfl, ?_⟩) (by assumption) ?_
      rotate_left
      · intro w hSw; (try dsimp only at hSw); go_simp; (try with_reducible rfl)
      try simp only [Act.put, List.setIfInBounds_toArray, List.set_cons_zero, List.set_cons_succ]
      refine wpAnyH_take (i := 10) (v := ?_) (by simp only [List.getElem?_toArray, List.getElem?_cons_zero, List.getElem?_cons_succ]; rfl) (by kernel_rfl) (by kernel_rfl) (by kernel_rfl) (by exact fun _ _ _ h => h) (Or.inl ⟨by rfl, ?_⟩) (by assumption) ?_
      rotate_left
      · intro w hSw; (try dsimp only at hSw); go_simp; (try with_reducible rfl)
      try simp only [Act.put, List.setIfInBounds_toArray, List.set_cons_zero, List.set_cons_succ]
      refine wpAnyH_take (i := 11) (v := ?_) (by simp only [List.getElem?_toArray, List.getElem?_cons_zero, List.getElem?_cons_succ]; rfl) (by kernel_rfl) (by kernel_rfl) (by kernel_rfl) (by exact fun _ _ _ h => h) (Or.inl ⟨by rfl, ?_⟩) (by assumption) ?_
      rotate_left
      · intro w hSw; (try dsimp only at hSw); go_simp; (try with_reducible rfl)
      try simp only [Act.put, List.setIfInBounds_toArray, List.set_cons_zero, List.set_cons_succ]
      refine wpAnyH_ready (rs := [4, 12]) (by kernel_rfl) (by simp) ?_
      refine AllReadyH.cons (by simp only [List.getElem?_toArray, List.getElem?_cons_zero, List.getElem?_cons_succ]; rfl) (fun K hK => ?_) ?_
      · go_simp
        refine hK.out _ _ ⟨c2, h0⟩ (fun hHeld => ?_)
        clear hK K
        try simp only [Act.put, List.setIfInBounds_toArray, List.set_cons_zero, List.set_cons_succ]
        refine wpAnyH_ready (rs := [12]) (by kernel_rfl) (by simp) ?_
        refine AllReadyH.cons (by simp only [List.getElem?_toArray, List.getElem?_cons_zero, List.getElem?_cons_succ]; rfl) (fun K hK => ?_) AllReadyH.nil
        go_simp
        refine hK.out _ _ (⟨a2, a0⟩) (fun hHeld => ?_)
        clear hK K
        try simp only [Act.put, List.setIfInBounds_toArray, List.set_cons_zero, List.set_cons_succ]
        refine wpAnyH_ready (rs := [13]) (by kernel_rfl) (by simp) ?_
        refine AllReadyH.cons (by simp only [List.getElem?_toArray, List.getElem?_cons_zero, List.getElem?_cons_succ]; rfl) (fun K hK => ?_) AllReadyH.nil
        rw [if_pos (by rfl)]
        refine wp_append_G typB _ _ rfl B (.slice AF sk.length cF) sk.length sk rfl HMA.out.rS (some ⟨wr.heap.size, 0, none⟩) 1 1 [x] rfl rfl HRow1.out (by simpa using hsl) (by have := HMA.out.hB; omega) (wr.alloc (.cells #[.int .u8 (x.toNat : Int)] 5)).drew.heap.size rfl ?_
        intro v4 w4 r4 g4 l4
        have hg := HMA.out.growS (sf' := sk ++ [x]) g4 (by rw [List.length_append]; exact r4) l4
        have hadb2 : ad.block < (wr.alloc (.cells #[.int .u8 (x.toNat : Int)] 5)).drew.heap.size := by omega
        have p2 := (World.cell?_of_block (a := { block := N, off := 2 }) (g4.block N HMA.out.lt (fun e => HMA.out.nS e.symm))).trans a2
        have p1 := (World.cell?_of_block (a := { block := N, off := 1 }) (g4.block N HMA.out.lt (fun e => HMA.out.nS e.symm))).trans a1
        have pF := (World.frozen?_of_block (a := { block := N, off := 1 }) (g4.block N HMA.out.lt (fun e => HMA.out.nS e.symm))).trans (HMA.out.frozen 1)
        have p0 := (World.cell?_of_block (a := ad.add k) (g4.block _ (by rw [add_block]; exact hadb2) (by rw [add_block]; exact fun e => HMA.out.apart ad.block e.symm rfl))).trans a0
        have hadN : ad.block ≠ N := fun e => HMA.out.nR (by rw [← e]; rfl)
        have q0 : (w4.setCell { block := N, off := 1 } v4).cell? (ad.add k) = some (.int .u8 (x.toNat : Int)) := (World.cell?_of_block (Below.heap_setCell _ _ _ _ (by rw [add_block]; exact hadN))).trans p0
        have q2 := hg.cells.2.2
        have oT : Only (footK N vS (.slice (some ad) rs.length cR)) w (w4.setCell { block := N, off := 1 } v4) := (((HO.out.alloc _).drew).grown g4 (fun y hy => by
          rcases HV.out y hy with h1 | h1
          · exact .inl (.inr (.inl h1))
          · exact .inr h1)).setCell (p := { block := N, off := 1 }) (.inl (.inl rfl)) v4
        have hv4 : ∀ y, v4.ownBlock = some y → vS.ownBlock = some y ∨ w.heap.size ≤ y := fun y hy => by
          rcases l4 y hy with h1 | h1
          · exact HV.out y h1
          · have := HO.out.size; exact .inr (by omega)
        obtain ⟨A4, c4, e4, _, _, _, _⟩ := r4.rd
        subst e4
        have HG := Lib.hid hg
        have HOT := Lib.hid oT
        have HV4 := Lib.hid hv4
        clear hg oT hv4 r4 g4 l4
        refine hK.out _ _ (⟨p2, p0⟩) (fun hHeld => ?_)
        clear hK K
        try simp only [Act.put, List.setIfInBounds_toArray, List.set_cons_zero, List.set_cons_succ]
        refine wpAnyH_take (i := 14) (v := ?_) (by simp only [List.getElem?_toArray, List.getElem?_cons_zero, List.getElem?_cons_succ]; rfl) (by kernel_rfl) (by kernel_rfl) (by kernel_rfl) (by exact fun _ _ _ h => h) (Or.inl ⟨by rfl, ?_⟩) (by assumption) ?_
        rotate_left
        · intro w hSw; (try dsimp only at hSw); go_simp; (try with_reducible rfl)
        try simp only [Act.put, List.setIfInBounds_toArray, List.set_cons_zero, List.set_cons_succ]
        refine wpAnyH_take (i := 15) (v := ?_) (by simp only [List.getElem?_toArray, List.getElem?_cons_zero, List.getElem?_cons_succ]; rfl) (by kernel_rfl) (by kernel_rfl) (by kernel_rfl) (by exact fun _ _ _ h => h) (Or.inl ⟨by rfl, ?_⟩) (by assumption) ?_
        rotate_left
        · intro w hSw; (try dsimp only at hSw); go_simp; (try with_reducible rfl)
        try simp only [Act.put, List.setIfInBounds_toArray, List.set_cons_zero, List.set_cons_succ]
        refine wpAnyH_ready (rs := [16]) (by kernel_rfl) (by simp) ?_
        refine AllReadyH.cons (by simp only [List.getElem?_toArray, List.getElem?_cons_zero, List.getElem?_cons_succ]; rfl) (fun K hK => ?_) AllReadyH.nil
        go_simp
        refine hK.out _ _ (⟨q2, q0⟩) (fun hHeld => ?_)
        clear hK K
        try simp only [Act.put, List.setIfInBounds_toArray, List.set_cons_zero, List.set_cons_succ]
        refine wpAnyH_done (by kernel_rfl) ?_ _
        go_wp2_with fail
        go_roundw
        case rel => exact ⟨k + 1, _, by omega, by omega, by go_num, by rw [HSn.out]; exact HG.out, HV4.out, HOT.out⟩
        case measure => simp [intOf]; omega
      · refine AllReadyH.cons (by simp only [List.getElem?_toArray, List.getElem?_cons_zero, List.getElem?_cons_succ]; rfl) (fun K hK => ?_) AllReadyH.nil
        go_simp
        refine hK.out _ _ ⟨a2, a0⟩ (fun hHeld => ?_)
        clear hK K
        try simp only [Act.put, List.setIfInBounds_toArray, List.set_cons_zero, List.set_cons_succ]
        refine wpAnyH_ready (rs := [4]) (by kernel_rfl) (by simp) ?_
        refine AllReadyH.cons (by simp only [List.getElem?_toArray, List.getElem?_cons_zero, List.getElem?_cons_succ]; rfl) (fun K hK => ?_) AllReadyH.nil
        go_simp
        refine hK.out _ _ (⟨a2, a0⟩) (fun hHeld => ?_)
        clear hK K
        try simp only [Act.put, List.setIfInBounds_toArray, List.set_cons_zero, List.set_cons_succ]
        refine wpAnyH_ready (rs := [13]) (by kernel_rfl) (by simp) ?_
        refine AllReadyH.cons (by simp only [List.getElem?_toArray, List.getElem?_cons_zero, List.getElem?_cons_succ]; rfl) (fun K hK => ?_) AllReadyH.nil
        rw [if_pos (by rfl)]
        refine wp_append_G typB _ _ rfl B (.slice AF sk.length cF) sk.length sk rfl HMA.out.rS (some ⟨wr.heap.size, 0, none⟩) 1 1 [x] rfl rfl HRow1.out (by simpa using hsl) (by have := HMA.out.hB; omega) (wr.alloc (.cells #[.int .u8 (x.toNat : Int)] 5)).drew.heap.size rfl ?_
        intro v4 w4 r4 g4 l4
        have hg := HMA.out.growS (sf' := sk ++ [x]) g4 (by rw [List.length_append]; exact r4) l4
        have hadb2 : ad.block < (wr.alloc (.cells #[.int .u8 (x.toNat : Int)] 5)).drew.heap.size := by omega
        have p2 := (World.cell?_of_block (a := { block := N, off := 2 }) (g4.block N HMA.out.lt (fun e => HMA.out.nS e.symm))).trans a2
        have p1 := (World.cell?_of_block (a := { block := N, off := 1 }) (g4.block N HMA.out.lt (fun e => HMA.out.nS e.symm))).trans a1
        have pF := (World.frozen?_of_block (a := { block := N, off := 1 }) (g4.block N HMA.out.lt (fun e => HMA.out.nS e.symm))).trans (HMA.out.frozen 1)
        have p0 := (World.cell?_of_block (a := ad.add k) (g4.block _ (by rw [add_block]; exact hadb2) (by rw [add_block]; exact fun e => HMA.out.apart ad.block e.symm rfl))).trans a0
        have hadN : ad.block ≠ N := fun e => HMA.out.nR (by rw [← e]; rfl)
        have q0 : (w4.setCell { block := N, off := 1 } v4).cell? (ad.add k) = some (.int .u8 (x.toNat : Int)) := (World.cell?_of_block (Below.heap_setCell _ _ _ _ (by rw [add_block]; exact hadN))).trans p0
        have q2 := hg.cells.2.2
        have oT : Only (footK N vS (.slice (some ad) rs.length cR)) w (w4.setCell { block := N, off := 1 } v4) := (((HO.out.alloc _).drew).grown g4 (fun y hy => by
          rcases HV.out y hy with h1 | h1
          · exact .inl (.inr (.inl h1))
          · exact .inr h1)).setCell (p := { block := N, off := 1 }) (.inl (.inl rfl)) v4
        have hv4 : ∀ y, v4.ownBlock = some y → vS.ownBlock = some y ∨ w.heap.size ≤ y := fun y hy => by
          rcases l4 y hy with h1 | h1
          · exact HV.out y h1
          · have := HO.out.size; exact .inr (by omega)
        obtain ⟨A4, c4, e4, _, _, _, _⟩ := r4.rd
        subst e4
        have HG := Lib.hid hg
        have HOT := Lib.hid oT
        have HV4 := Lib.hid hv4
        clear hg oT hv4 r4 g4 l4
        refine hK.out _ _ (⟨p2, p0⟩) (fun hHeld => ?_)
        clear hK K
        try simp only [Act.put, List.setIfInBounds_toArray, List.set_cons_zero, List.set_cons_succ]
        refine wpAnyH_take (i := 14) (v := ?_) (by simp only [List.getElem?_toArray, List.getElem?_cons_zero, List.getElem?_cons_succ]; rfl) (by kernel_rfl) (by kernel_rfl) (by kernel_rfl) (by exact fun _ _ _ h => h) (Or.inl ⟨by rfl, ?_⟩) (by assumption) ?_
        rotate_left
        · intro w hSw; (try dsimp only at hSw); go_simp; (try with_reducible rfl)
        try simp only [Act.put, List.setIfInBounds_toArray, List.set_cons_zero, List.set_cons_succ]
        refine wpAnyH_take (i := 15) (v := ?_) (by simp only [List.getElem?_toArray, List.getElem?_cons_zero, List.getElem?_cons_succ]; rfl) (by kernel_rfl) (by kernel_rfl) (by kernel_rfl) (by exact fun _ _ _ h => h) (Or.inl ⟨by rfl, ?_⟩) (by assumption) ?_
        rotate_left
        · intro w hSw; (try dsimp only at hSw); go_simp; (try with_reducible rfl)
        try simp only [Act.put, List.setIfInBounds_toArray, List.set_cons_zero, List.set_cons_succ]
        refine wpAnyH_ready (rs := [16]) (by kernel_rfl) (by simp) ?_
        refine AllReadyH.cons (by simp only [List.getElem?_toArray, List.getElem?_cons_zero, List.getElem?_cons_succ]; rfl) (fun K hK => ?_) AllReadyH.nil
        go_simp
        refine hK.out _ _ (⟨q2, q0⟩) (fun hHeld => ?_)
        clear hK K
        try simp only [Act.put, List.setIfInBounds_toArray, List.set_cons_zero, List.set_cons_succ]
        refine wpAnyH_done (by kernel_rfl) ?_ _
        go_wp2_with fail
        go_roundw
        case rel => exact ⟨k + 1, _, by omega, by omega, by go_num, by rw [HSn.out]; exact HG.out, HV4.out, HOT.out⟩
        case measure => simp [intOf]; omega
    · have hkeep : sf ++ rs.take k = sf ++ rs.take keep.toNat := by
        by_cases h1 : k < rs.length
        · have : k = keep.toNat := by omega
          rw [this]
        · rw [List.take_of_length_le (by omega), List.take_of_length_le (by omega)]
      have hsp : ¬ (k : Int) < (rs.length : Int) ∨ ((k : Int) < (rs.length : Int) ∧ ¬ (k : Int) < keep) := by omega
      have c2 := hK.cells.2.2
      have f2 := hK.frozen 2
      rw [hkeep] at hK
      have hput : RefK (wr.setCell { block := N, off := 2 } (.slice none 0 0)) B N room vS' (.slice none 0 0) (sf ++ rs.take keep.toNat) [] := by
        have hoN : Only (fun k => k = N) wr (wr.setCell { block := N, off := 2 } (.slice none 0 0)) := Only.setCell (S := fun k => k = N) (p := { block := N, off := 2 }) (Only.refl _ wr) (.inl rfl) _
        exact ⟨heap_setCell_same wr N 2 _ _ _ hK.cell, hK.hB, hK.rS.only hoN (fun g hg e => hK.nS (by rw [hg, e])), LayG.Row.nil _ _, hK.nS, (fun e => by cases e), fun g hg e => by cases e⟩
      have hoT := ho.setCell (p := { block := N, off := 2 }) (.inl (.inl rfl)) (.slice none 0 0)
      have HP := Lib.hid hput
      have HOT := Lib.hid hoT
      have HV := Lib.hid hv
      have HF : Hid (∀ x, footK N vS' (.slice none 0 0) x → footK N vS (.slice AR rs.length cR) x ∨ w.heap.size ≤ x) := Lib.hid (fun x hx => by
        rcases hx with h | h | h
        · exact .inl (.inl h)
        · rcases HV.out x h with h1 | h1
          · exact .inl (.inr (.inl h1))
          · exact .inr h1
        · cases h)
      clear hput hoT hv ho hK hkeep hlt
      rcases hsp with h1 | ⟨h1, h2⟩
      · go_wp2_with fail
        exact bodyPost_end (results_none rfl _ _ _) rfl ⟨rfl, ⟨vS', HP.out, HF.out⟩, HOT.out⟩
      · go_wp2_with fail
        exact bodyPost_end (results_none rfl _ _ _) rfl ⟨rfl, ⟨vS', HP.out, HF.out⟩, HOT.out⟩
end Go.Proofs.Ytebebbehiegleaa
