/- All that a table of epochs tells is the document's. -/
import Derived.Test.YtcklafaoijodbaaEpSpec
set_option linter.unusedVariables false
namespace Go.Proofs.Ytcklafaoijodbaa
open Go Go.RowKit

theorem cell_below {w w' : World} (hb : Below w.heap.size w w') {a : Addr} {v : Value} (h : w.cell? a = some v) : w'.cell? a = some v := (World.cell?_of_block (hb.block a.block (block_lt h))).trans h
def busyUpto (ins : List Int) (j : Nat) : List Int := ((List.range j).filter (fun k => decide (0 ≤ ins.getD k default))).map (fun (k : Nat) => (k : Int))
theorem busyUpto_succ (ins : List Int) (j : Nat) : busyUpto ins (j + 1) = busyUpto ins j ++ (if 0 ≤ ins.getD j default then [(j : Int)] else []) := by
  unfold busyUpto
  rw [List.range_succ, List.filter_append, List.map_append]
  congr 1
  by_cases h : 0 ≤ ins.getD j default
  · rw [if_pos h, List.filter_cons_of_pos (by simpa using h)]
    rfl
  · rw [if_neg h, List.filter_cons_of_neg (by simpa using h)]
    rfl
theorem busyUpto_prefix (ins : List Int) : ∀ (d j : Nat), ∃ r, busyUpto ins (j + d) = busyUpto ins j ++ r
  | 0, j => ⟨[], by simp⟩
  | d + 1, j => by
    obtain ⟨r, hr⟩ := busyUpto_prefix ins d j
    exact ⟨_, by rw [← Nat.add_assoc, busyUpto_succ, hr, List.append_assoc]⟩
/-- The next one that is busy. -/
theorem busyR_at {ins : List Int} {j : Nat} (hj : j < ins.length) (h : 0 ≤ ins.getD j default) : (busyUpto ins j).length < (busyR ins).length ∧ (busyR ins).getD (busyUpto ins j).length default = (j : Int) := by
  obtain ⟨r, hr⟩ := busyUpto_prefix ins (ins.length - (j + 1)) (j + 1)
  rw [show j + 1 + (ins.length - (j + 1)) = ins.length from by omega, busyUpto_succ, if_pos h] at hr
  have e : busyR ins = busyUpto ins j ++ [(j : Int)] ++ r := hr
  rw [e]
  refine ⟨by simp only [List.length_append, List.length_cons, List.length_nil]; omega, ?_⟩
  rw [List.getD_eq_getElem?_getD, List.append_assoc, List.getElem?_append_right (Nat.le_refl _), Nat.sub_self]
  rfl
theorem busyR_len (ins : List Int) : (busyR ins).length = (busyUpto ins ins.length).length := rfl
theorem busyR_few (ins : List Int) : (busyR ins).length ≤ ins.length := by
  unfold busyR
  rw [List.length_map]
  exact Nat.le_trans (List.length_filter_le _ _) (by rw [List.length_range]; exact Nat.le_refl _)
set_option maxHeartbeats 8000000 in
set_option maxRecDepth 100000 in
theorem told_any (C : EpSpec) (w : World) (B1 N1 B2 N2 : Nat) (vI : Value) (gl : Int) (ins : List Int) (S : Nat → Prop) (ha : C.At w B1 N1 gl ins S) (hr : RefT w B2 N2 vI gl ins) (hg : GoodT gl ins) :
    Calls Try.prog 16 #[.pointer (some ⟨N1, 0, none⟩), .pointer (some ⟨N2, 0, none⟩)] w fun e w' => e = .returned (.bool true) ∧ Below w.heap.size w w' := by
  have HA := Lib.hid ha
  have HR := Lib.hid hr
  have HG := Lib.hid hg
  have hlo := hg.lo
  have hhi := hg.hi
  have hfew := hg.few
  obtain ⟨hl1, hl2, hl3⟩ := hg.least
  obtain ⟨m, hm⟩ : ∃ m, leastR gl ins = m := ⟨_, rfl⟩
  rw [hm] at hl1 hl2 hl3
  have HM := Lib.hid hm
  obtain ⟨c0, c1, _, _⟩ := hr.cells
  have hbd : Below w.heap.size w w.drew := (Below.refl _ _).drew
  have HD := Lib.hid hbd
  have hdf : decide (1 < gl - m) = false := decide_eq_false (by omega)
  have hwr : IntKind.i64.wrap (gl - m) = gl - m := IntWalk.i64_in _ (by omega)
  have HGl := fun (W : World) (hb : Below w.heap.size w W) => C.global_ (C.below HA.out hb) HG.out
  have HLe := fun (W : World) (hb : Below w.heap.size w W) => C.least_ (C.below HA.out hb) HG.out
  rw [hm] at HLe
  have HGl := Lib.hid HGl
  have HLe := Lib.hid HLe
  clear ha hr hg hm hbd
  go_enter Try.func16, Try.ntmps16
  go_wp2_with fail
  refine wp_region_held_drew (S := (fun w' => w'.cell? { block := N2, off := 0 } = some (.int .i64 gl))) (by kernel_rfl) c0 (fun hHeld => ?_)
  refine wpAnyH_take (i := 0) (v := ?_) (by simp only [List.getElem?_toArray, List.getElem?_cons_zero]; rfl) (by kernel_rfl) (by kernel_rfl) (by kernel_rfl) (by exact fun _ _ _ h => h) (Or.inl ⟨by rfl, ?_⟩) (by assumption) ?_
  rotate_left
  · intro w hSw; (try dsimp only at hSw); go_simp; (try with_reducible rfl)
  try simp only [Act.put, List.setIfInBounds_toArray, List.set_cons_zero, List.set_cons_succ]
  refine wpAnyH_take (i := 2) (v := ?_) (by simp only [List.getElem?_toArray, List.getElem?_cons_zero, List.getElem?_cons_succ]; rfl) (by kernel_rfl) (by kernel_rfl) (by kernel_rfl) (by exact fun _ _ _ h => h) (Or.inl ⟨by rfl, ?_⟩) (by assumption) ?_
  rotate_left
  · intro w hSw; (try dsimp only at hSw); go_simp; (try with_reducible rfl)
  try simp only [Act.put, List.setIfInBounds_toArray, List.set_cons_zero, List.set_cons_succ]
  refine wpAnyH_take (i := 3) (v := ?_) (by simp only [List.getElem?_toArray, List.getElem?_cons_zero, List.getElem?_cons_succ]; rfl) (by kernel_rfl) (by kernel_rfl) (by kernel_rfl) (by exact fun _ _ _ h => h) (Or.inl ⟨by rfl, ?_⟩) (by assumption) ?_
  rotate_left
  · intro w hSw; (try dsimp only at hSw); go_simp; (try with_reducible rfl)
  try simp only [Act.put, List.setIfInBounds_toArray, List.set_cons_zero, List.set_cons_succ]
  refine wpAnyH_take (i := 4) (v := ?_) (by simp only [List.getElem?_toArray, List.getElem?_cons_zero, List.getElem?_cons_succ]; rfl) (by kernel_rfl) (by kernel_rfl) (by kernel_rfl) (by exact fun _ _ _ h => h) (Or.inl ⟨by rfl, ?_⟩) (by assumption) ?_
  rotate_left
  · intro w hSw; (try dsimp only at hSw); go_simp; (try with_reducible rfl)
  try simp only [Act.put, List.setIfInBounds_toArray, List.set_cons_zero, List.set_cons_succ]
  refine wpAnyH_take (i := 5) (v := ?_) (by simp only [List.getElem?_toArray, List.getElem?_cons_zero, List.getElem?_cons_succ]; rfl) (by kernel_rfl) (by kernel_rfl) (by kernel_rfl) (by exact fun _ _ _ h => h) (Or.inl ⟨by rfl, ?_⟩) (by assumption) ?_
  rotate_left
  · intro w hSw; (try dsimp only at hSw); go_simp; (try with_reducible rfl)
  try simp only [Act.put, List.setIfInBounds_toArray, List.set_cons_zero, List.set_cons_succ]
  refine wpAnyH_ready (rs := [1]) (by kernel_rfl) (by simp) ?_
  refine AllReadyH.cons (by simp only [List.getElem?_toArray, List.getElem?_cons_zero, List.getElem?_cons_succ]; rfl) (fun K hK => ?_) AllReadyH.nil
  go_simp
  refine (HGl.out _ HD.out).mono ?_
  rintro e y1 ⟨rfl, f⟩
  have HQ1 := Lib.hid (HD.out.trans (f.mono HD.out.size))
  clear f
  go_wp2_with fail
  refine hK.out _ _ ((HR.out.below HQ1.out).cells.1) (fun hHeld => ?_)
  clear hK K
  try simp only [Act.put, List.setIfInBounds_toArray, List.set_cons_zero, List.set_cons_succ]
  refine wpAnyH_take (i := 6) (v := ?_) (by simp only [List.getElem?_toArray, List.getElem?_cons_zero, List.getElem?_cons_succ]; rfl) (by kernel_rfl) (by kernel_rfl) (by kernel_rfl) (by exact fun _ _ _ h => h) (Or.inl ⟨by rfl, ?_⟩) (by assumption) ?_
  rotate_left
  · intro w hSw; (try dsimp only at hSw); go_simp; (try with_reducible rfl)
  try simp only [Act.put, List.setIfInBounds_toArray, List.set_cons_zero, List.set_cons_succ]
  refine wpAnyH_take (i := 7) (v := ?_) (by simp only [List.getElem?_toArray, List.getElem?_cons_zero, List.getElem?_cons_succ]; rfl) (by kernel_rfl) (by kernel_rfl) (by kernel_rfl) (by exact fun _ _ _ h => h) (Or.inl ⟨by rfl, ?_⟩) (by assumption) ?_
  rotate_left
  · intro w hSw; (try dsimp only at hSw); go_simp; (try with_reducible rfl)
  try simp only [Act.put, List.setIfInBounds_toArray, List.set_cons_zero, List.set_cons_succ]
  refine wpAnyH_take (i := 8) (v := ?_) (by simp only [List.getElem?_toArray, List.getElem?_cons_zero, List.getElem?_cons_succ]; rfl) (by kernel_rfl) (by kernel_rfl) (by kernel_rfl) (by exact fun _ _ _ h => h) (Or.inl ⟨by rfl, ?_⟩) (by assumption) ?_
  rotate_left
  · intro w hSw; (try dsimp only at hSw); go_simp; (try with_reducible rfl)
  try simp only [Act.put, List.setIfInBounds_toArray, List.set_cons_zero, List.set_cons_succ]
  refine wpAnyH_take (i := 10) (v := ?_) (by simp only [List.getElem?_toArray, List.getElem?_cons_zero, List.getElem?_cons_succ]; rfl) (by kernel_rfl) (by kernel_rfl) (by kernel_rfl) (by exact fun _ _ _ h => h) (Or.inl ⟨by rfl, ?_⟩) (by assumption) ?_
  rotate_left
  · intro w hSw; (try dsimp only at hSw); go_simp; (try with_reducible rfl)
  try simp only [Act.put, List.setIfInBounds_toArray, List.set_cons_zero, List.set_cons_succ]
  refine wpAnyH_ready (rs := [9]) (by kernel_rfl) (by simp) ?_
  refine AllReadyH.cons (by simp only [List.getElem?_toArray, List.getElem?_cons_zero, List.getElem?_cons_succ]; rfl) (fun K hK => ?_) AllReadyH.nil
  go_simp
  refine (HLe.out _ HQ1.out).mono ?_
  rintro e y2 ⟨rfl, f⟩
  have HQ2 := Lib.hid (HQ1.out.trans (f.mono HQ1.out.size))
  clear f
  go_wp2_with fail
  refine hK.out _ _ ((HR.out.below HQ2.out).cells.1) (fun hHeld => ?_)
  clear hK K
  try simp only [Act.put, List.setIfInBounds_toArray, List.set_cons_zero, List.set_cons_succ]
  have HRl := refLeast_any _ _ _ _ _ _ (HR.out.below HQ2.out) (by omega)
  rw [HM.out] at HRl
  have HRl := Lib.hid HRl
  refine wpAnyH_ready (rs := [11]) (by kernel_rfl) (by simp) ?_
  refine AllReadyH.cons (by simp only [List.getElem?_toArray, List.getElem?_cons_zero, List.getElem?_cons_succ]; rfl) (fun K hK => ?_) AllReadyH.nil
  go_simp
  refine (HRl.out).mono ?_
  rintro e y3 ⟨rfl, f⟩
  have HQ3 := Lib.hid (HQ2.out.trans (f.mono HQ2.out.size))
  clear f
  go_wp2_with fail
  refine hK.out _ _ ((HR.out.below HQ3.out).cells.1) (fun hHeld => ?_)
  clear hK K
  try simp only [Act.put, List.setIfInBounds_toArray, List.set_cons_zero, List.set_cons_succ]
  refine wpAnyH_take (i := 12) (v := ?_) (by simp only [List.getElem?_toArray, List.getElem?_cons_zero, List.getElem?_cons_succ]; rfl) (by kernel_rfl) (by kernel_rfl) (by kernel_rfl) (by exact fun _ _ _ h => h) (Or.inl ⟨by rfl, ?_⟩) (by assumption) ?_
  rotate_left
  · intro w hSw; (try dsimp only at hSw); go_simp; (try with_reducible rfl)
  try simp only [Act.put, List.setIfInBounds_toArray, List.set_cons_zero, List.set_cons_succ]
  refine wpAnyH_take (i := 13) (v := ?_) (by simp only [List.getElem?_toArray, List.getElem?_cons_zero, List.getElem?_cons_succ]; rfl) (by kernel_rfl) (by kernel_rfl) (by kernel_rfl) (by exact fun _ _ _ h => h) (Or.inl ⟨by rfl, ?_⟩) (by assumption) ?_
  rotate_left
  · intro w hSw; (try dsimp only at hSw); go_simp; (try with_reducible rfl)
  try simp only [Act.put, List.setIfInBounds_toArray, List.set_cons_zero, List.set_cons_succ]
  refine wpAnyH_take (i := 14) (v := ?_) (by simp only [List.getElem?_toArray, List.getElem?_cons_zero, List.getElem?_cons_succ]; rfl) (by kernel_rfl) (by kernel_rfl) (by kernel_rfl) (by exact fun _ _ _ h => h) (Or.inl ⟨by rfl, ?_⟩) (by assumption) ?_
  rotate_left
  · intro w hSw; (try dsimp only at hSw); go_simp; (try with_reducible rfl)
  try simp only [Act.put, List.setIfInBounds_toArray, List.set_cons_zero, List.set_cons_succ]
  refine wpAnyH_take (i := 15) (v := ?_) (by simp only [List.getElem?_toArray, List.getElem?_cons_zero, List.getElem?_cons_succ]; rfl) (by kernel_rfl) (by kernel_rfl) (by kernel_rfl) (by exact fun _ _ _ h => h) (Or.inl ⟨by rfl, ?_⟩) (by assumption) ?_
  rotate_left
  · intro w hSw; (try dsimp only at hSw); go_simp; (try with_reducible rfl)
  try simp only [Act.put, List.setIfInBounds_toArray, List.set_cons_zero, List.set_cons_succ]
  refine wpAnyH_take (i := 17) (v := ?_) (by simp only [List.getElem?_toArray, List.getElem?_cons_zero, List.getElem?_cons_succ]; rfl) (by kernel_rfl) (by kernel_rfl) (by kernel_rfl) (by exact fun _ _ _ h => h) (Or.inl ⟨by rfl, ?_⟩) (by assumption) ?_
  rotate_left
  · intro w hSw; (try dsimp only at hSw); go_simp; (try with_reducible rfl)
  try simp only [Act.put, List.setIfInBounds_toArray, List.set_cons_zero, List.set_cons_succ]
  refine wpAnyH_ready (rs := [16]) (by kernel_rfl) (by simp) ?_
  refine AllReadyH.cons (by simp only [List.getElem?_toArray, List.getElem?_cons_zero, List.getElem?_cons_succ]; rfl) (fun K hK => ?_) AllReadyH.nil
  go_simp
  refine (HGl.out _ HQ3.out).mono ?_
  rintro e y4 ⟨rfl, f⟩
  have HQ4 := Lib.hid (HQ3.out.trans (f.mono HQ3.out.size))
  clear f
  go_wp2_with fail
  refine hK.out _ _ ((HR.out.below HQ4.out).cells.1) (fun hHeld => ?_)
  clear hK K
  try simp only [Act.put, List.setIfInBounds_toArray, List.set_cons_zero, List.set_cons_succ]
  refine wpAnyH_ready (rs := [18]) (by kernel_rfl) (by simp) ?_
  refine AllReadyH.cons (by simp only [List.getElem?_toArray, List.getElem?_cons_zero, List.getElem?_cons_succ]; rfl) (fun K hK => ?_) AllReadyH.nil
  go_simp
  refine (HLe.out _ HQ4.out).mono ?_
  rintro e y5 ⟨rfl, f⟩
  have HQ5 := Lib.hid (HQ4.out.trans (f.mono HQ4.out.size))
  clear f
  go_wp2_with fail
  refine hK.out _ _ ((HR.out.below HQ5.out).cells.1) (fun hHeld => ?_)
  clear hK K
  try simp only [Act.put, List.setIfInBounds_toArray, List.set_cons_zero, List.set_cons_succ]
  refine wpAnyH_take (i := 19) (v := ?_) (by simp only [List.getElem?_toArray, List.getElem?_cons_zero, List.getElem?_cons_succ]; rfl) (by kernel_rfl) (by kernel_rfl) (by kernel_rfl) (by exact fun _ _ _ h => h) (Or.inl ⟨by rfl, ?_⟩) (by assumption) ?_
  rotate_left
  · intro w hSw; (try dsimp only at hSw); go_simp; (try with_reducible rfl)
  try simp only [Act.put, List.setIfInBounds_toArray, List.set_cons_zero, List.set_cons_succ]
  refine wpAnyH_take (i := 20) (v := ?_) (by simp only [List.getElem?_toArray, List.getElem?_cons_zero, List.getElem?_cons_succ]; rfl) (by kernel_rfl) (by kernel_rfl) (by kernel_rfl) (by exact fun _ _ _ h => h) (Or.inl ⟨by rfl, ?_⟩) (by assumption) ?_
  rotate_left
  · intro w hSw; (try dsimp only at hSw); go_simp; (try with_reducible rfl)
  try simp only [Act.put, List.setIfInBounds_toArray, List.set_cons_zero, List.set_cons_succ]
  refine wpAnyH_take (i := 21) (v := ?_) (by simp only [List.getElem?_toArray, List.getElem?_cons_zero, List.getElem?_cons_succ]; rfl) (by kernel_rfl) (by kernel_rfl) (by kernel_rfl) (by exact fun _ _ _ h => h) (Or.inl ⟨by rfl, ?_⟩) (by assumption) ?_
  rotate_left
  · intro w hSw; (try dsimp only at hSw); go_simp; (try with_reducible rfl)
  try simp only [Act.put, List.setIfInBounds_toArray, List.set_cons_zero, List.set_cons_succ]
  refine wpAnyH_done (by kernel_rfl) ?_ _
  have HBu := Lib.hid (C.busy_ (C.below HA.out HQ5.out) HG.out)
  clear c0 c1
  go_wp2_with fail
  refine HBu.out.mono ?_
  rintro e y6 ⟨v5, rfl, r5, b6⟩
  obtain ⟨A5, c5, rfl, hc5, z1, z2, z3⟩ := r5.rd
  clear z1 z2 z3
  have B6 := Lib.hid (HQ5.out.trans (b6.mono HQ5.out.size))
  have R5 := Lib.hid r5
  have hbf := busyR_few ins
  obtain ⟨L, hL⟩ : ∃ L, (busyR ins).length = L := ⟨_, rfl⟩
  rw [hL] at R5 hc5 hbf
  simp only [hL]
  have HL := Lib.hid hL
  clear r5 b6 hL
  go_wp2_with fail
  go_loopw [6, 7] (fun kv iv wr => ∃ (j q : Nat) (vi : Int), j ≤ ins.length + 2 ∧ kv = .int .i64 (q : Nat) ∧ q = (busyUpto ins (min (j - 1) ins.length)).length ∧ iv = .int .i64 vi ∧ vi = (j : Int) - 1 ∧ Below y6.heap.size y6 wr) (fun _ iv _ => ((ins.length : Int) + 1 - intOf iv).toNat)
  case atStart => exact ⟨0, 0, -1, Nat.zero_le _, rfl, by simp [busyUpto], rfl, rfl, Below.refl _ _⟩
  case round =>
    obtain ⟨j, q, vi, hj, rfl, hq, rfl, hvi, hbw⟩ := hrel
    have HQq := Lib.hid hq
    have B7 := Lib.hid (B6.out.trans (hbw.mono B6.out.size))
    obtain ⟨c0, c1, _, _⟩ := (HR.out.below B7.out).cells
    obtain ⟨AI, cI, eI, hcI, hrd, z1, z2⟩ := (HR.out.below B7.out).row.rd
    clear z1 z2
    rw [eI] at c1
    have HRd := Lib.hid hrd
    clear hq eI hrd c0
    by_cases hj2 : j < ins.length + 2
    · have hvl : vi ≤ (ins.length : Int) := by omega
      have HIn := C.in_ vi (C.below HA.out B7.out) HG.out ⟨by omega, by omega⟩
      by_cases hbusy : 0 ≤ vi ∧ vi < (ins.length : Int) ∧ 0 ≤ ins.getD vi.toNat default
      · obtain ⟨h0, h1, h2⟩ := hbusy
        obtain ⟨p, rfl⟩ : ∃ p : Nat, vi = (p : Int) := ⟨vi.toNat, by omega⟩
        have hp : p < ins.length := by omega
        rw [Int.toNat_natCast] at h2
        obtain ⟨b1, b2⟩ := busyR_at hp h2
        obtain ⟨ad, hae, _, hcell⟩ := layI_at HRd.out hp
        subst hae
        have hjp : min (j - 1) ins.length = p := by omega
        have hqe := HQq.out
        rw [hjp] at hqe
        rw [← hqe] at b1 b2
        rw [HL.out] at b1
        obtain ⟨A', c', eA, z0, rd5, z1, z2⟩ := (R5.out.below hbw).rd
        clear z0 z1 z2
        have e1 : A5 = A' := by injection eA
        subst e1
        obtain ⟨af, hae, _, hcell5⟩ := layI_at rd5 (k := q) (by rw [HL.out]; exact b1)
        subst hae
        rw [b2] at hcell5
        have hin : inR ins (p : Int) = (ins.getD p default, true) := by
          unfold inR
          rw [if_neg (fun h => h.elim (fun h => by omega) (fun h => by omega)), Int.toNat_natCast, if_pos h2]
        rw [hin] at HIn
        obtain ⟨x, hx⟩ : ∃ x, ins.getD p default = x := ⟨_, rfl⟩
        rw [hx] at hcell h2 HIn
        dsimp only at HIn
        have HI := Lib.hid HIn
        have hsucc : (busyUpto ins (min (j + 1 - 1) ins.length)).length = q + 1 := by
          rw [show min (j + 1 - 1) ins.length = p + 1 from by omega, busyUpto_succ, hx, if_pos h2, List.length_append, ← hqe]
          rfl
        have HSu := Lib.hid hsucc
        have hqL : (q : Int) < (L : Int) := by omega
        have HVi := Lib.hid hvi
        clear hin hx HIn hsucc hqe eA rd5 b2 b1 hvi hjp
        go_wp2_with fail
        refine HI.out.mono ?_
        rintro e y7 ⟨rfl, b8⟩
        have hce := cell_below b8 hcell
        have hce5 := cell_below b8 hcell5
        have hc1 := cell_below b8 c1
        clear hcell hcell5 c1
        go_wp2_with fail
        go_roundw
        case rel => exact ⟨j + 1, q + 1, (p : Int) + 1, by omega, by go_num, HSu.out.symm, rfl, by have := HVi.out; omega, hbw.trans (b8.mono hbw.size)⟩
        case measure => simp [intOf]; omega
      · have HVi := Lib.hid hvi
        have hin : inR ins vi = (0, false) := by
          unfold inR
          split
          · rfl
          · rename_i hn
            rw [if_neg (fun h => hbusy ⟨by unfold notIn at hn; omega, by unfold notIn at hn; omega, h⟩)]
        rw [hin] at HIn
        dsimp only at HIn
        have HI := Lib.hid HIn
        clear hin HIn
        rcases Int.lt_or_le vi 0 with h0 | h0
        · have hsucc : (busyUpto ins (min (j + 1 - 1) ins.length)).length = q := by
            rw [show min (j + 1 - 1) ins.length = min (j - 1) ins.length from by omega]
            exact HQq.out.symm
          have hv : vi = -1 := by omega
          have hj0 : j = 0 := by omega
          subst hv
          subst hj0
          have HSu := Lib.hid hsucc
          clear hsucc hbusy hvi h0
          go_wp2_with fail
          refine HI.out.mono ?_
          rintro e y7 ⟨rfl, b8⟩
          have hc1 := cell_below b8 c1
          clear c1
          go_wp2_with fail
          go_roundw
          case rel => exact ⟨1, q, 0, by omega, rfl, HSu.out.symm, rfl, rfl, hbw.trans (b8.mono hbw.size)⟩
          case measure => simp [intOf] <;> (try omega)
        · obtain ⟨p, rfl⟩ : ∃ p : Nat, vi = (p : Int) := ⟨vi.toNat, by omega⟩
          rw [Int.toNat_natCast] at hbusy
          by_cases hp : p < ins.length
          · have h2 : ¬ 0 ≤ ins.getD p default := fun h => hbusy ⟨h0, by omega, h⟩
            obtain ⟨ad, hae, z0, hcell⟩ := layI_at HRd.out hp
            subst hae
            obtain ⟨x, hx⟩ : ∃ x, ins.getD p default = x := ⟨_, rfl⟩
            rw [hx] at hcell h2
            have hsucc : (busyUpto ins (min (j + 1 - 1) ins.length)).length = q := by
              rw [show min (j + 1 - 1) ins.length = p + 1 from by omega, busyUpto_succ, hx, if_neg h2, List.append_nil, HQq.out, show min (j - 1) ins.length = p from by omega]
            have HSu := Lib.hid hsucc
            have hpl : (p : Int) < (ins.length : Int) := by omega
            clear hsucc hbusy hvi hx z0 h0
            go_wp2_with fail
            refine HI.out.mono ?_
            rintro e y7 ⟨rfl, b8⟩
            have hce := cell_below b8 hcell
            have hc1 := cell_below b8 c1
            clear hcell c1
            go_wp2_with fail
            go_roundw
            case rel => exact ⟨j + 1, q, (p : Int) + 1, by omega, rfl, HSu.out.symm, rfl, by have := HVi.out; omega, hbw.trans (b8.mono hbw.size)⟩
            case measure => simp [intOf]; omega
          · have hpe : p = ins.length := by omega
            subst hpe
            have hsucc : (busyUpto ins (min (j + 1 - 1) ins.length)).length = q := by
              rw [show min (j + 1 - 1) ins.length = min (j - 1) ins.length from by omega]
              exact HQq.out.symm
            have HSu := Lib.hid hsucc
            clear hsucc hbusy hvi h0 hp hvl
            go_wp2_with fail
            refine HI.out.mono ?_
            rintro e y7 ⟨rfl, b8⟩
            have hc1 := cell_below b8 c1
            clear c1
            go_wp2_with fail
            go_roundw
            case rel => exact ⟨j + 1, q, (ins.length : Int) + 1, by omega, rfl, HSu.out.symm, rfl, by have := HVi.out; omega, hbw.trans (b8.mono hbw.size)⟩
            case measure => simp [intOf]
    · have hqL : q = L := by
        rw [HQq.out, show min (j - 1) ins.length = ins.length from by omega, ← HL.out]
        rfl
      have hvl : ¬ vi ≤ (ins.length : Int) := by omega
      subst hqL
      clear hvi
      go_wp2_with fail
      go_ret
      exact ⟨rfl, B7.out⟩
end Go.Proofs.Ytcklafaoijodbaa
