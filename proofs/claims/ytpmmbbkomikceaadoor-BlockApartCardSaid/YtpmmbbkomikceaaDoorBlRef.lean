/- The document's own blocks: Pack, All. -/
import Derived.Test.YtpmmbbkomikceaaDoorBlSum
set_option linter.unusedVariables false
namespace Go.Proofs.YtpmmbbkomikceaaDoor
open Go Go.RowKit

/-- A block, as a value: its kind, its body. -/
structure BlZ where
  kind : UInt8
  body : BsZ
def BlZ.no : BlZ := ⟨0, BsZ.no⟩
instance : Inhabited BlZ := ⟨BlZ.no⟩
def BlZ.val (z : BlZ) : Value := .agg #[.int .u8 (z.kind.toNat : Int), z.body.val]
def layL : LayG BlZ := ⟨fun z => [.int .u8 (z.kind.toNat : Int), z.body.val], 2, by decide, fun _ => rfl, fun z u hu => by
  rcases List.mem_cons.1 hu with rfl | hu
  · rfl
  · rw [List.mem_singleton.1 hu]; rfl⟩
/-- What lies behind a slice of blocks. -/
def RdL (w : World) (A : Option Addr) (zs : List BlZ) : Prop := layL.Rd w A zs ∧ ∀ z ∈ zs, z.body.ok w
theorem RdL.below {w w' : World} {B : Nat} {A : Option Addr} {zs : List BlZ} (h : RdL w A zs) (hB : w.heap.size ≤ B) (hb : Below B w w') : RdL w' A zs := ⟨h.1.below hB hb, fun z hz => (h.2 z hz).below hB hb⟩
theorem mem_getDL {zs : List BlZ} {k : Nat} (h : k < zs.length) : zs.getD k default ∈ zs := by rw [List.getD_eq_getElem?_getD, List.getElem?_eq_getElem h]; exact List.getElem_mem h
theorem add_formL (a : Addr) (j : Nat) : a.add (j + 1) = { block := a.block, off := a.off + (j + 1) } := by unfold Addr.add; rw [if_neg (by omega)]
theorem layL_at {w : World} {A : Option Addr} {zs : List BlZ} (h : layL.Rd w A zs) {k : Nat} (hk : k < zs.length) : ∃ ad, A = some ad ∧ ad.block < w.heap.size ∧ w.cell? (ad.add (k * 2)) = some (.int .u8 ((zs.getD k default).kind.toNat : Int)) ∧
    w.cell? { block := (ad.add (k * 2)).block, off := (ad.add (k * 2)).off + 1 } = some (zs.getD k default).body.val := by
  obtain ⟨ad, e, hb, h0⟩ := h k hk
  have c0 := h0 0 _ rfl
  have c1 := h0 1 _ rfl
  refine ⟨ad, e, hb, c0, ?_⟩
  rw [← Go.Deep.add_add, add_formL] at c1
  exact c1
def headR (k : UInt8) (b : List UInt8) : List UInt8 := (203 :: k :: fourR b.length) ++ b
def packR (k : UInt8) (b : List UInt8) : List UInt8 := headR k b ++ fourR (sumC (headR k b))
theorem headR_len (k : UInt8) (b : List UInt8) : (headR k b).length = b.length + 6 := by
  unfold headR
  rw [List.length_append]
  show 6 + b.length = _
  omega
theorem packR_len (k : UInt8) (b : List UInt8) : (packR k b).length = b.length + 10 := by unfold packR; rw [List.length_append, headR_len, fourR_len]
def allR (zs : List BlZ) : List UInt8 := zs.flatMap (fun z => packR z.kind z.body.bs)
theorem allR_succ (zs : List BlZ) (k : Nat) (h : k < zs.length) : allR (zs.take (k + 1)) = allR (zs.take k) ++ packR (zs.getD k default).kind (zs.getD k default).body.bs := by
  unfold allR
  rw [List.take_succ_eq_append_getElem h, List.flatMap_append]
  simp [List.getD_eq_getElem?_getD, List.getElem?_eq_getElem h]
theorem allR_take (zs : List BlZ) (k : Nat) : (allR (zs.take k)).length ≤ (allR zs).length := by
  conv => rhs; rw [← List.take_append_drop k zs]
  unfold allR
  rw [List.flatMap_append, List.length_append]
  omega
theorem blkL {W : World} {k : Nat} {a b : Value} {t : TypeId} (h : W.heap[k]? = some (.cells #[a, b] t (0, 0))) : W.cell? { block := k, off := 0 } = some a ∧ W.cell? { block := k, off := 1 } = some b := by
  refine ⟨?_, ?_⟩
  · rw [cell_of_row W k 0 _ _ (0, 0) h]; rfl
  · rw [cell_of_row W k 1 _ _ (0, 0) h]; rfl
set_option maxHeartbeats 8000000 in
set_option maxRecDepth 100000 in
theorem refPack_any (k : UInt8) (A : Option Addr) (c : Nat) (b : List UInt8) (w : World) (hr : layB.Rd w A b) (hc : b.length ≤ c) (hl : b.length ≤ 900000) :
    Calls Tryd.prog 23 #[.agg #[.int .u8 (k.toNat : Int), .slice A b.length c]] w fun e w' => ∃ v, e = .returned v ∧ layB.Row 5 w' w.heap.size v (b.length + 10) (packR k b) ∧ Below w.heap.size w w' := by
  have HR := Lib.hid hr
  have hblk : (w.alloc (.cells #[.int .u8 (k.toNat : Int), .slice A b.length c] 40)).drew.heap[w.heap.size]? = some (.cells #[.int .u8 (k.toNat : Int), .slice A b.length c] 40 (0, 0)) := heap_alloc_new w _
  have hB0 : Below w.heap.size w (w.alloc (.cells #[.int .u8 (k.toNat : Int), .slice A b.length c] 40)).drew := ((Below.refl _ _).alloc (Nat.le_refl _) _).drew
  have hsz0 : (w.alloc (.cells #[.int .u8 (k.toNat : Int), .slice A b.length c] 40)).drew.heap.size = w.heap.size + 1 := by simp [World.drew]
  have hcv : (IntKind.u32.wrap (b.length : Int)) = (b.length : Int) := by
    simp [IntKind.wrap, IntKind.bits, IntKind.signed]
    omega
  clear hr
  go_enter Tryd.func23, Tryd.ntmps23
  go_wp2_with fail
  obtain ⟨s0, s1⟩ := blkL hblk
  refine wp_region_held_drew (S := (fun W => W.cell? { block := w.heap.size, off := 0 } = some (.int .u8 (k.toNat : Int)) ∧ W.cell? { block := w.heap.size, off := 1 } = some (.slice A b.length c))) (by kernel_rfl) ⟨s0, s1⟩ (fun hHeld => ?_)
  generalize (w.alloc (.cells #[.int .u8 (k.toNat : Int), .slice A b.length c] 40)).drew = W0 at *
  have HB0 := Lib.hid hB0
  have HBl0 := Lib.hid hblk
  clear hblk
  refine wpAnyH_take (i := 0) (v := ?_) (by simp only [List.getElem?_toArray, List.getElem?_cons_zero]; rfl) (by kernel_rfl) (by kernel_rfl) (by kernel_rfl) (by exact fun _ _ _ h => h) (Or.inl ⟨by rfl, ?_⟩) (by assumption) ?_
  rotate_left
  · intro w hSw; (try dsimp only at hSw); go_simp; (try with_reducible rfl)
  try simp only [Act.put, List.setIfInBounds_toArray, List.set_cons_zero, List.set_cons_succ]
  refine wpAnyH_take (i := 1) (v := ?_) (by simp only [List.getElem?_toArray, List.getElem?_cons_zero, List.getElem?_cons_succ]; rfl) (by kernel_rfl) (by kernel_rfl) (by kernel_rfl) (by exact fun _ _ _ h => h) (Or.inl ⟨by rfl, ?_⟩) (by assumption) ?_
  rotate_left
  · intro w hSw; (try dsimp only at hSw); go_simp; (try with_reducible rfl)
  try simp only [Act.put, List.setIfInBounds_toArray, List.set_cons_zero, List.set_cons_succ]
  refine wpAnyH_take (i := 3) (v := ?_) (by simp only [List.getElem?_toArray, List.getElem?_cons_zero, List.getElem?_cons_succ]; rfl) (by kernel_rfl) (by kernel_rfl) (by kernel_rfl) (by exact fun _ _ _ h => h) (Or.inl ⟨by rfl, ?_⟩) (by assumption) ?_
  rotate_left
  · intro w hSw; (try dsimp only at hSw); go_simp; (try with_reducible rfl)
  try simp only [Act.put, List.setIfInBounds_toArray, List.set_cons_zero, List.set_cons_succ]
  refine wpAnyH_take (i := 4) (v := ?_) (by simp only [List.getElem?_toArray, List.getElem?_cons_zero, List.getElem?_cons_succ]; rfl) (by kernel_rfl) (by kernel_rfl) (by kernel_rfl) (by exact fun _ _ _ h => h) (Or.inl ⟨by rfl, ?_⟩) (by assumption) ?_
  rotate_left
  · intro w hSw; (try dsimp only at hSw); go_simp; (try with_reducible rfl)
  try simp only [Act.put, List.setIfInBounds_toArray, List.set_cons_zero, List.set_cons_succ]
  refine wpAnyH_take (i := 5) (v := ?_) (by simp only [List.getElem?_toArray, List.getElem?_cons_zero, List.getElem?_cons_succ]; rfl) (by kernel_rfl) (by kernel_rfl) (by kernel_rfl) (by exact fun _ _ _ h => h) (Or.inl ⟨by rfl, ?_⟩) (by assumption) ?_
  rotate_left
  · intro w hSw; (try dsimp only at hSw); go_simp; (try with_reducible rfl)
  try simp only [Act.put, List.setIfInBounds_toArray, List.set_cons_zero, List.set_cons_succ]
  refine wpAnyH_take (i := 6) (v := ?_) (by simp only [List.getElem?_toArray, List.getElem?_cons_zero, List.getElem?_cons_succ]; rfl) (by kernel_rfl) (by kernel_rfl) (by kernel_rfl) (by exact fun _ _ _ h => h) (Or.inl ⟨by rfl, ?_⟩) (by assumption) ?_
  rotate_left
  · intro w hSw; (try dsimp only at hSw); go_simp; (try with_reducible rfl)
  try simp only [Act.put, List.setIfInBounds_toArray, List.set_cons_zero, List.set_cons_succ]
  refine wpAnyH_ready (rs := [2, 7]) (by kernel_rfl) (by simp) ?_
  refine AllReadyH.cons (by simp only [List.getElem?_toArray, List.getElem?_cons_zero, List.getElem?_cons_succ]; rfl) (fun K hK => ?_) ?_
  · have hbA := (Below.refl W0.heap.size W0).alloc (Nat.le_refl _) (.cells #[.int .u8 203, .int .u8 (k.toNat : Int)] 5)
    have hblA := (hbA.block w.heap.size (by omega)).trans HBl0.out
    obtain ⟨a0, a1⟩ := blkL hblA
    have rA : layB.Row 5 (W0.alloc (.cells #[.int .u8 203, .int .u8 (k.toNat : Int)] 5)) W0.heap.size (.slice (some ⟨W0.heap.size, 0, none⟩) 2 2) 2 [203, k] := LayG.Row.lit (L := layB) (E := 5) W0 #[.int .u8 203, .int .u8 (k.toNat : Int)] [203, k] rfl (by simp [maxLen])
    have hb1 := hB0.trans (hbA.mono (by omega))
    rw [hsz0] at rA
    go_simp
    refine hK.out _ _ ⟨a0, a1⟩ (fun hHeld => ?_)
    clear hK K
    try simp only [Act.put, List.setIfInBounds_toArray, List.set_cons_zero, List.set_cons_succ]
    generalize W0.alloc (.cells #[.int .u8 203, .int .u8 (k.toNat : Int)] 5) = WA at *
    refine wpAnyH_ready (rs := [7]) (by kernel_rfl) (by simp) ?_
    refine AllReadyH.cons (by simp only [List.getElem?_toArray, List.getElem?_cons_zero, List.getElem?_cons_succ]; rfl) (fun K hK => ?_) AllReadyH.nil
    go_simp
    refine (refFour_any b.length WA (by omega)).mono ?_
    rintro e y2 ⟨v1, rfl, r1, b1⟩
    obtain ⟨A1, c1, rfl, _, hrd1, _, _⟩ := r1.rd
    have hblB := (b1.block w.heap.size (by have := (Array.getElem?_eq_some_iff.1 hblA).1; exact this)).trans hblA
    have HBl := Lib.hid hblB
    obtain ⟨u0, u1⟩ := blkL hblB
    have R0 := Lib.hid ((rA.mono (B' := w.heap.size) (by omega)).only (S := NoB) (Below.only b1) (fun _ _ h => h))
    have HB2 := Lib.hid (hb1.trans (b1.mono hb1.size))
    clear r1 b1 hblB rA hblA hbA hb1 a0 a1
    go_wp2_with fail
    refine hK.out _ _ (⟨u0, u1⟩) (fun hHeld => ?_)
    clear hK K
    try simp only [Act.put, List.setIfInBounds_toArray, List.set_cons_zero, List.set_cons_succ]
    refine wpAnyH_ready (rs := [8]) (by kernel_rfl) (by simp) ?_
    refine AllReadyH.cons (by simp only [List.getElem?_toArray, List.getElem?_cons_zero, List.getElem?_cons_succ]; rfl) (fun K hK => ?_) AllReadyH.nil
    rw [if_pos (by rfl)]
    refine wp_append_G typB _ _ rfl w.heap.size (.slice (some ⟨w.heap.size + 1, 0, none⟩) 2 2) 2 [203, k] rfl R0.out A1 4 c1 (fourR b.length) rfl (fourR_len _) hrd1 (by rw [fourR_len]; decide) HB2.out.size y2.heap.size rfl ?_
    intro v3 y3 r3 g3 l3
    have hb3 := HB2.out.grown g3 HB2.out.size (fun g hg => (R0.out.lt g hg).1)
    have HR3 := Lib.hid r3
    obtain ⟨A3, c3, rfl, _, _, _, _⟩ := r3.rd
    have hbl3 := fun (W : World) (hW : W.heap[w.heap.size]? = y2.heap[w.heap.size]?) => hW.trans HBl.out
    have hk3 : y3.heap[w.heap.size]? = some (.cells #[.int .u8 (k.toNat : Int), .slice A b.length c] 40 (0, 0)) := (g3.block w.heap.size (by have := (Array.getElem?_eq_some_iff.1 HBl.out).1; exact this) (fun e => by have e2 := e.symm; simp [Value.ownBlock] at e2 <;> omega)).trans HBl.out
    obtain ⟨t0, t1⟩ := blkL hk3
    have HB3 := Lib.hid hb3
    have HK3 := Lib.hid hk3
    clear g3 l3 r3 hb3 hbl3 hk3 hrd1
    refine hK.out _ _ (⟨t0, t1⟩) (fun hHeld => ?_)
    clear hK K
    try simp only [Act.put, List.setIfInBounds_toArray, List.set_cons_zero, List.set_cons_succ]
    refine wpAnyH_take (i := 9) (v := ?_) (by simp only [List.getElem?_toArray, List.getElem?_cons_zero, List.getElem?_cons_succ]; rfl) (by kernel_rfl) (by kernel_rfl) (by kernel_rfl) (by exact fun _ _ _ h => h) (Or.inl ⟨by rfl, ?_⟩) (by assumption) ?_
    rotate_left
    · intro w hSw; (try dsimp only at hSw); go_simp; (try with_reducible rfl)
    try simp only [Act.put, List.setIfInBounds_toArray, List.set_cons_zero, List.set_cons_succ]
    refine wpAnyH_done (by kernel_rfl) ?_ _
    go_wp2_with (at_builtin; refine wpList_append_G typB rfl _ _ rfl w.heap.size (.slice A3 6 c3) 6 (203 :: k :: fourR b.length) rfl HR3.out A b.length c b rfl rfl (HR.out.below (Nat.le_refl _) HB3.out) (by omega) HB3.out.size y3.heap.size rfl ?_)
    intro v4 y4 r4 g4 l4
    have hb4 := HB3.out.grown g4 HB3.out.size (fun g hg => (HR3.out.lt g hg).1)
    have hhl : (headR k b).length = 6 + b.length := by rw [headR_len]; omega
    have HHl := Lib.hid hhl
    have hr4 : layB.Row 5 y4 w.heap.size v4 (6 + b.length) (headR k b) := r4
    have HR4 := Lib.hid hr4
    obtain ⟨A4, c4, rfl, hc4, hrd4, _, _⟩ := hr4.rd
    have HB4 := Lib.hid hb4
    have hSu := refSum_any A4 c4 (headR k b) y4 hrd4 hc4 (by rw [hhl]; omega)
    rw [hhl] at hSu
    have HSu := Lib.hid hSu
    clear r4 g4 l4 hb4 hr4 hrd4 hSu hhl t0 t1
    go_wp2_with fail
    refine HSu.out.mono ?_
    rintro e y5 ⟨rfl, rfl⟩
    have HF := Lib.hid (refFour_any (sumC (headR k b)) y4 (sumC_lt _))
    clear HSu
    go_wp2_with fail
    refine HF.out.mono ?_
    rintro e y6 ⟨v6, rfl, r6, b6⟩
    obtain ⟨A6, c6, rfl, _, rd6, _, _⟩ := r6.rd
    have hb6 := HB4.out.trans (b6.mono HB4.out.size)
    have hr46 := HR4.out.only (S := NoB) (Below.only b6) (fun _ _ h => h)
    have HRD6 := Lib.hid rd6
    have HR46 := Lib.hid hr46
    have HB6 := Lib.hid hb6
    clear r6 rd6 b6 hb6 hr46 HF
    go_wp2_with (at_builtin; refine wpList_append_G typB rfl _ _ rfl w.heap.size (.slice A4 (6 + b.length) c4) (6 + b.length) (headR k b) rfl HR46.out A6 4 c6 (fourR (sumC (headR k b))) rfl (fourR_len _) HRD6.out (by rw [fourR_len]; omega) HB6.out.size y6.heap.size rfl ?_)
    intro v7 y7 r7 g7 l7
    have hb7 := HB6.out.grown g7 HB6.out.size (fun g hg => (HR46.out.lt g hg).1)
    have hr7 : layB.Row 5 y7 w.heap.size v7 (b.length + 10) (packR k b) := by
      rw [show b.length + 10 = 6 + b.length + 4 from by omega]
      exact r7
    have HR7 := Lib.hid hr7
    clear r7 hr7 g7 l7
    go_wp2_with fail
    go_ret
    exact ⟨_, rfl, HR7.out, hb7⟩
  · refine AllReadyH.cons (by simp only [List.getElem?_toArray, List.getElem?_cons_zero, List.getElem?_cons_succ]; rfl) (fun K hK => ?_) AllReadyH.nil
    go_simp
    refine (refFour_any b.length W0 (by omega)).mono ?_
    rintro e y1 ⟨v1, rfl, r1, b1⟩
    obtain ⟨A1, c1, rfl, _, hrd0, _, _⟩ := r1.rd
    have hblA := (b1.block w.heap.size (by omega)).trans HBl0.out
    obtain ⟨a0, a1⟩ := blkL hblA
    have hb1 := hB0.trans (b1.mono (by omega))
    have hs1 := b1.size
    clear r1 b1
    go_wp2_with fail
    refine hK.out _ _ ⟨a0, a1⟩ (fun hHeld => ?_)
    clear hK K
    try simp only [Act.put, List.setIfInBounds_toArray, List.set_cons_zero, List.set_cons_succ]
    have hbB := (Below.refl y1.heap.size y1).alloc (Nat.le_refl _) (.cells #[.int .u8 203, .int .u8 (k.toNat : Int)] 5)
    have hblB := (hbB.block w.heap.size (by have := (Array.getElem?_eq_some_iff.1 hblA).1; exact this)).trans hblA
    obtain ⟨u0, u1⟩ := blkL hblB
    have rA : layB.Row 5 (y1.alloc (.cells #[.int .u8 203, .int .u8 (k.toNat : Int)] 5)) y1.heap.size (.slice (some ⟨y1.heap.size, 0, none⟩) 2 2) 2 [203, k] := LayG.Row.lit (L := layB) (E := 5) y1 #[.int .u8 203, .int .u8 (k.toNat : Int)] [203, k] rfl (by simp [maxLen])
    refine wpAnyH_ready (rs := [2]) (by kernel_rfl) (by simp) ?_
    refine AllReadyH.cons (by simp only [List.getElem?_toArray, List.getElem?_cons_zero, List.getElem?_cons_succ]; rfl) (fun K hK => ?_) AllReadyH.nil
    go_simp
    refine hK.out _ _ (⟨u0, u1⟩) (fun hHeld => ?_)
    clear hK K
    try simp only [Act.put, List.setIfInBounds_toArray, List.set_cons_zero, List.set_cons_succ]
    have hrd1 := hrd0.below (Nat.le_refl _) hbB
    have HB2 := Lib.hid (hb1.trans (hbB.mono hb1.size))
    have HBl := Lib.hid hblB
    have R0 := Lib.hid (rA.mono (B' := w.heap.size) hb1.size)
    clear hblB rA hbB hblA hrd0 a0 a1 hb1
    generalize y1.alloc (.cells #[.int .u8 203, .int .u8 (k.toNat : Int)] 5) = y2 at *
    refine wpAnyH_ready (rs := [8]) (by kernel_rfl) (by simp) ?_
    refine AllReadyH.cons (by simp only [List.getElem?_toArray, List.getElem?_cons_zero, List.getElem?_cons_succ]; rfl) (fun K hK => ?_) AllReadyH.nil
    rw [if_pos (by rfl)]
    refine wp_append_G typB _ _ rfl w.heap.size (.slice (some ⟨y1.heap.size, 0, none⟩) 2 2) 2 [203, k] rfl R0.out A1 4 c1 (fourR b.length) rfl (fourR_len _) hrd1 (by rw [fourR_len]; decide) HB2.out.size y2.heap.size rfl ?_
    intro v3 y3 r3 g3 l3
    have hb3 := HB2.out.grown g3 HB2.out.size (fun g hg => (R0.out.lt g hg).1)
    have HR3 := Lib.hid r3
    obtain ⟨A3, c3, rfl, _, _, _, _⟩ := r3.rd
    have hbl3 := fun (W : World) (hW : W.heap[w.heap.size]? = y2.heap[w.heap.size]?) => hW.trans HBl.out
    have hk3 : y3.heap[w.heap.size]? = some (.cells #[.int .u8 (k.toNat : Int), .slice A b.length c] 40 (0, 0)) := (g3.block w.heap.size (by have := (Array.getElem?_eq_some_iff.1 HBl.out).1; exact this) (fun e => by have e2 := e.symm; simp [Value.ownBlock] at e2 <;> omega)).trans HBl.out
    obtain ⟨t0, t1⟩ := blkL hk3
    have HB3 := Lib.hid hb3
    have HK3 := Lib.hid hk3
    clear g3 l3 r3 hb3 hbl3 hk3 hrd1
    refine hK.out _ _ (⟨t0, t1⟩) (fun hHeld => ?_)
    clear hK K
    try simp only [Act.put, List.setIfInBounds_toArray, List.set_cons_zero, List.set_cons_succ]
    refine wpAnyH_take (i := 9) (v := ?_) (by simp only [List.getElem?_toArray, List.getElem?_cons_zero, List.getElem?_cons_succ]; rfl) (by kernel_rfl) (by kernel_rfl) (by kernel_rfl) (by exact fun _ _ _ h => h) (Or.inl ⟨by rfl, ?_⟩) (by assumption) ?_
    rotate_left
    · intro w hSw; (try dsimp only at hSw); go_simp; (try with_reducible rfl)
    try simp only [Act.put, List.setIfInBounds_toArray, List.set_cons_zero, List.set_cons_succ]
    refine wpAnyH_done (by kernel_rfl) ?_ _
    go_wp2_with (at_builtin; refine wpList_append_G typB rfl _ _ rfl w.heap.size (.slice A3 6 c3) 6 (203 :: k :: fourR b.length) rfl HR3.out A b.length c b rfl rfl (HR.out.below (Nat.le_refl _) HB3.out) (by omega) HB3.out.size y3.heap.size rfl ?_)
    intro v4 y4 r4 g4 l4
    have hb4 := HB3.out.grown g4 HB3.out.size (fun g hg => (HR3.out.lt g hg).1)
    have hhl : (headR k b).length = 6 + b.length := by rw [headR_len]; omega
    have HHl := Lib.hid hhl
    have hr4 : layB.Row 5 y4 w.heap.size v4 (6 + b.length) (headR k b) := r4
    have HR4 := Lib.hid hr4
    obtain ⟨A4, c4, rfl, hc4, hrd4, _, _⟩ := hr4.rd
    have HB4 := Lib.hid hb4
    have hSu := refSum_any A4 c4 (headR k b) y4 hrd4 hc4 (by rw [hhl]; omega)
    rw [hhl] at hSu
    have HSu := Lib.hid hSu
    clear r4 g4 l4 hb4 hr4 hrd4 hSu hhl t0 t1
    go_wp2_with fail
    refine HSu.out.mono ?_
    rintro e y5 ⟨rfl, rfl⟩
    have HF := Lib.hid (refFour_any (sumC (headR k b)) y4 (sumC_lt _))
    clear HSu
    go_wp2_with fail
    refine HF.out.mono ?_
    rintro e y6 ⟨v6, rfl, r6, b6⟩
    obtain ⟨A6, c6, rfl, _, rd6, _, _⟩ := r6.rd
    have hb6 := HB4.out.trans (b6.mono HB4.out.size)
    have hr46 := HR4.out.only (S := NoB) (Below.only b6) (fun _ _ h => h)
    have HRD6 := Lib.hid rd6
    have HR46 := Lib.hid hr46
    have HB6 := Lib.hid hb6
    clear r6 rd6 b6 hb6 hr46 HF
    go_wp2_with (at_builtin; refine wpList_append_G typB rfl _ _ rfl w.heap.size (.slice A4 (6 + b.length) c4) (6 + b.length) (headR k b) rfl HR46.out A6 4 c6 (fourR (sumC (headR k b))) rfl (fourR_len _) HRD6.out (by rw [fourR_len]; omega) HB6.out.size y6.heap.size rfl ?_)
    intro v7 y7 r7 g7 l7
    have hb7 := HB6.out.grown g7 HB6.out.size (fun g hg => (HR46.out.lt g hg).1)
    have hr7 : layB.Row 5 y7 w.heap.size v7 (b.length + 10) (packR k b) := by
      rw [show b.length + 10 = 6 + b.length + 4 from by omega]
      exact r7
    have HR7 := Lib.hid hr7
    clear r7 hr7 g7 l7
    go_wp2_with fail
    go_ret
    exact ⟨_, rfl, HR7.out, hb7⟩
theorem body_le (zs : List BlZ) (k : Nat) (h : k < zs.length) : (zs.getD k default).body.bs.length + 10 ≤ (allR zs).length := by
  have h1 := allR_take zs (k + 1)
  rw [allR_succ zs k h, List.length_append, packR_len] at h1
  omega
set_option maxHeartbeats 8000000 in
set_option maxRecDepth 100000 in
theorem refAllB_any (A : Option Addr) (c : Nat) (zs : List BlZ) (w : World) (hr : RdL w A zs) (hc : zs.length ≤ c) (hl : zs.length ≤ 100000) (hs : (allR zs).length ≤ 900000) :
    Calls Tryd.prog 13 #[.slice A zs.length c] w fun e w' => ∃ v, e = .returned v ∧ layB.Row 5 w' w.heap.size v (allR zs).length (allR zs) ∧ Below w.heap.size w w' := by
  have HR := Lib.hid hr
  clear hr
  go_enter Tryd.func13, Tryd.ntmps13
  go_wp2_with fail
  go_loopw [3, 4] (fun v i wr => ∃ (k : Nat) (al : List UInt8), k ≤ zs.length ∧ i = .int .i64 (k : Nat) ∧ layB.Row 5 wr w.heap.size v al.length al ∧ al = allR (zs.take k) ∧ Below w.heap.size w wr) (fun _ i _ => zs.length - (intOf i).toNat)
  case atStart => exact ⟨0, [], Nat.zero_le _, rfl, LayG.Row.nil _ _, rfl, Below.refl _ _⟩
  case round =>
    obtain ⟨k, al, hk, rfl, hrow, hal, hbw⟩ := hrel
    obtain ⟨AV, cV, rfl, _, _, _, _⟩ := hrow.rd
    have HRow := Lib.hid hrow
    have HBw := Lib.hid hbw
    by_cases hlt : k < zs.length
    · have hrk := HR.out.below (Nat.le_refl _) hbw
      obtain ⟨ad, rfl, hblk, h0, h1⟩ := layL_at hrk.1 hlt
      have hzok := hrk.2 _ (mem_getDL hlt)
      have hble := body_le zs k hlt
      have hsu := allR_succ zs k hlt
      have hta := allR_take zs (k + 1)
      obtain ⟨z, hz⟩ : ∃ z, zs.getD k default = z := ⟨_, rfl⟩
      rw [hz] at h0 h1 hzok hble hsu
      obtain ⟨kd, za, zc, zb⟩ := z
      unfold BsZ.val at h1
      unfold BsZ.ok at hzok
      dsimp only at h0 h1 hzok hble hsu
      rw [hsu, List.length_append, packR_len, ← hal] at hta
      rw [← hal] at hsu
      have hal9 : al.length + (zb.length + 10) ≤ 1000000 := by omega
      have HP := Lib.hid (refPack_any kd za zc zb wr hzok.2 hzok.1 (by omega))
      have HSu := Lib.hid hsu
      have hki : (k : Int) < (zs.length : Int) := by omega
      clear hz hsu hta hrk hrow hal hbw hzok hble
      go_wp2_with fail
      refine HP.out.mono ?_
      rintro e w2 ⟨v2, rfl, r2, b2⟩
      obtain ⟨A2, c2, rfl, _, rd2, _, _⟩ := r2.rd
      have HB2 := Lib.hid (HBw.out.trans (b2.mono HBw.out.size))
      have HRow2 := Lib.hid (HRow.out.only (S := NoB) (Below.only b2) (fun _ _ h => h))
      have HRd2 := Lib.hid rd2
      clear r2 b2 rd2 HP
      go_wp2_with (at_builtin; refine wpList_append_G typB rfl _ _ rfl w.heap.size (.slice AV al.length cV) al.length al rfl HRow2.out A2 (zb.length + 10) c2 (packR kd zb) rfl (packR_len _ _) HRd2.out (by rw [packR_len]; exact hal9) HB2.out.size w2.heap.size rfl ?_)
      intro v3 w3 r3 g3 l3
      have HB3 := Lib.hid (HB2.out.grown g3 HB2.out.size (fun g hg => (HRow2.out.lt g hg).1))
      have HRow3 : Hid (layB.Row 5 w3 w.heap.size v3 (al ++ packR kd zb).length (al ++ packR kd zb)) := Lib.hid (by rw [List.length_append, packR_len]; exact r3)
      clear r3 g3 l3
      go_wp2_with fail
      go_roundw
      case rel => exact ⟨k + 1, al ++ packR kd zb, by omega, by go_num, HRow3.out, HSu.out.symm, HB3.out⟩
      case measure => simp [intOf]; omega
    · obtain rfl : k = zs.length := by omega
      rw [List.take_length] at hal
      have HAl := Lib.hid hal
      clear hal hrow hbw
      go_wp2_with fail
      go_ret
      exact ⟨_, rfl, by rw [← HAl.out]; exact HRow.out, HBw.out⟩
end Go.Proofs.YtpmmbbkomikceaaDoor
