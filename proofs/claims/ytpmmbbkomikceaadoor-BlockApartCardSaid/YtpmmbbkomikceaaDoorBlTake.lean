/- The document's own Take of a block. -/
import Derived.Test.YtpmmbbkomikceaaDoorBlRef
import Derived.Test.YtpmmbbkomikceaaDoorStrG
import Derived.Laws.Tables
set_option linter.unusedVariables false
namespace Go.Proofs.YtpmmbbkomikceaaDoor
open Go Go.RowKit

/-- The length that a block's head tells. -/
def lenR (bs : List UInt8) : Nat := (((bs.getD 2 default).toNat * 256 + (bs.getD 3 default).toNat) * 256 + (bs.getD 4 default).toNat) * 256 + (bs.getD 5 default).toNat
/-- The error. -/
def takeE (bs : List UInt8) : Nat :=
  if bs.length = 0 then 20 else if bs.getD 0 default ≠ 203 then 80 else if bs.length < 6 then 20 else if 1048576 < lenR bs then 82 else if bs.length < lenR bs + 10 then 20
  else if fourR (sumC (bs.take (lenR bs + 6))) ≠ (bs.drop (lenR bs + 6)).take 4 then 81 else 0
def TookR (A : Option Addr) (bs : List UInt8) (w : World) (e : Ending) (w' : World) : Prop :=
  (takeE bs ≠ 0 ∧ e = .returned (.tuple #[.agg #[.int .u8 0, .slice none 0 0], .int .i64 0, .int .i64 (takeE bs : Nat)]) ∧ Below w.heap.size w w') ∨
  (takeE bs = 0 ∧ (∃ a cc, e = .returned (.tuple #[.agg #[.int .u8 ((bs.getD 1 default).toNat : Int), .slice a (lenR bs) cc], .int .i64 ((lenR bs + 10 : Nat) : Int), .int .i64 0]) ∧ lenR bs ≤ cc ∧ (∀ V : World, layB.Rd V A bs → layB.Rd V a ((bs.drop 6).take (lenR bs)))) ∧ Below w.heap.size w w')
theorem took_err {A : Option Addr} {bs : List UInt8} {w w' : World} {q : Nat} (h : takeE bs = q) (hq : q ≠ 0) (hb : Below w.heap.size w w') : TookR A bs w (.returned (.tuple #[.agg #[.int .u8 0, .slice none 0 0], .int .i64 0, .int .i64 (q : Int)])) w' := .inl ⟨by rw [h]; exact hq, by rw [h], hb⟩
theorem slice_midB (W : World) (A : Option Addr) (n c i j : Nat) (hi : i ≤ j) (hj : j ≤ c) :
    (Instr.slice 24 (.slice A n c) (some (.int .i64 (i : Int))) (some (.int .i64 (j : Int))) none).run Tryd.prog W = .ok (.slice (fromA A c i) (j - i) (c - i)) W := by
  have he : Tryd.prog.elem 24 = 5 := by kernel_rfl
  rw [run_slice_lh (P := Tryd.prog) (w := W) 24 A n c (by rw [he]; exact Tryd.underlying24) .i64 .i64 (i : Int) (j : Int) (by omega) (by omega) (by omega), he, Tryd.sizeOf5]
  simp [Result.andThen, sliced, fromA]
theorem resL (w : World) : (w.alloc (.cells #[.int .u8 0, .slice none 0 0] 40)).heap[w.heap.size]? = some (.cells #[.int .u8 0, .slice none 0 0] 40 (0, 0)) := heap_alloc_new w _
theorem setL {W : World} {k : Nat} {a b : Value} {t : TypeId} (h : W.heap[k]? = some (.cells #[a, b] t (0, 0))) (u v : Value) :
    ((W.setCell { block := k, off := 0 } u).setCell { block := k, off := 1 } v).heap[k]? = some (.cells #[u, v] t (0, 0)) := heap_setCell_same _ k 1 _ _ v (heap_setCell_same W k 0 _ _ u h)
theorem frL {W : World} {k : Nat} {a b : Value} {t : TypeId} (h : W.heap[k]? = some (.cells #[a, b] t (0, 0))) : W.frozen? { block := k, off := 0 } = false ∧ W.frozen? { block := k, off := 1 } = false := ⟨frozen_of_row W k _ _ _ h, frozen_of_row W k _ _ _ h⟩
theorem belL {w W : World} (hb : Below w.heap.size w W) (u v : Value) : Below w.heap.size w ((W.setCell { block := w.heap.size, off := 0 } u).setCell { block := w.heap.size, off := 1 } v) :=
  (((Below.only hb : Only NoB w W).setCell (p := { block := w.heap.size, off := 0 }) (.inr (Nat.le_refl _)) u).setCell (p := { block := w.heap.size, off := 1 }) (.inr (Nat.le_refl _)) v).below (Nat.le_refl _) (fun x hx => hx.elim)
set_option maxHeartbeats 8000000 in
set_option maxRecDepth 100000 in
theorem refTake_any (A : Option Addr) (c : Nat) (bs : List UInt8) (w : World) (hr : layB.Rd w A bs) (hc : bs.length ≤ c) (hl : bs.length ≤ 900000) :
    Calls Tryd.prog 18 #[.slice A bs.length c] w (TookR A bs w) := by
  have HR := Lib.hid hr
  have hB := (Below.refl w.heap.size w).alloc (Nat.le_refl _) (.cells #[.int .u8 0, .slice none 0 0] 40)
  have HB := Lib.hid hB
  obtain ⟨r0, r1⟩ := blkL (resL w)
  clear hr hB
  go_enter Tryd.func18, Tryd.ntmps18
  by_cases h0 : bs.length = 0
  · have he : takeE bs = 20 := by unfold takeE; rw [if_pos h0]
    have HE := Lib.hid he
    have h0i : (bs.length : Int) = 0 := by omega
    clear he
    go_wp2_with fail
    exact bodyPost_ret (v := .tuple #[.agg #[.int .u8 0, .slice none 0 0], .int .i64 0, .int .i64 20]) (by simp [results, Tryd.results18, go_sem, r0, r1]) rfl (took_err HE.out (by decide) HB.out)
  · have h0i : ¬ ((bs.length : Int) = 0) := by omega
    obtain ⟨ad, rfl, hblk, k0⟩ := layB_at HR.out (k := 0) (by omega)
    rw [show ad.add 0 = ad from rfl] at k0
    have kk0 := (World.cell?_alloc_lt w (.cells #[.int .u8 0, .slice none 0 0] 40) ad hblk).trans k0
    by_cases h1 : bs.getD 0 default ≠ 203
    · have he : takeE bs = 80 := by unfold takeE; rw [if_neg h0, if_pos h1]
      have HE := Lib.hid he
      have h1i : ¬ (((bs.getD 0 default).toNat : Int) = 203) := fun e => h1 (UInt8.toNat_inj.1 (by show _ = 203; omega))
      have hpos : (0 : Int) < (bs.length : Int) := by omega
      obtain ⟨b0, hb0⟩ : ∃ b, bs.getD 0 default = b := ⟨_, rfl⟩
      rw [hb0] at k0 kk0 h1i
      clear he h1 hb0
      go_wp2_with fail
      exact bodyPost_ret (v := .tuple #[.agg #[.int .u8 0, .slice none 0 0], .int .i64 0, .int .i64 80]) (by simp [results, Tryd.results18, go_sem, r0, r1]) rfl (took_err HE.out (by decide) HB.out)
    · have h1e : bs.getD 0 default = 203 := Classical.not_not.1 h1
      rw [h1e] at k0 kk0
      have hpos : (0 : Int) < (bs.length : Int) := by omega
      have kk0 : (w.alloc (.cells #[.int .u8 0, .slice none 0 0] 40)).cell? ad = some (.int .u8 203) := kk0
      by_cases h6 : bs.length < 6
      · have he : takeE bs = 20 := by unfold takeE; rw [if_neg h0, if_neg h1, if_pos h6]
        have HE := Lib.hid he
        have h6i : (bs.length : Int) < 6 := by omega
        clear he h1 k0 h1e
        go_wp2_with fail
        exact bodyPost_ret (v := .tuple #[.agg #[.int .u8 0, .slice none 0 0], .int .i64 0, .int .i64 20]) (by simp [results, Tryd.results18, go_sem, r0, r1]) rfl (took_err HE.out (by decide) HB.out)
      · have h6i : ¬ ((bs.length : Int) < 6) := by omega
        have cl := fun (j : Nat) (hj : j < bs.length) => show (w.alloc (.cells #[.int .u8 0, .slice none 0 0] 40)).drew.cell? (ad.add j) = some (.int .u8 ((bs.getD j default).toNat : Int)) from by
          obtain ⟨ae, e, _, h⟩ := layB_at HR.out hj
          obtain rfl : ad = ae := by injection e
          exact (World.cell?_alloc_lt w _ (ad.add j) (by rw [add_block]; exact hblk)).trans h
        have g2 := cl 2 (by omega)
        rw [show ad.add 2 = { block := ad.block, off := ad.off + 2 } from add_formL ad 1] at g2
        have g3 := cl 3 (by omega)
        rw [show ad.add 3 = { block := ad.block, off := ad.off + 3 } from add_formL ad 2] at g3
        have g4 := cl 4 (by omega)
        rw [show ad.add 4 = { block := ad.block, off := ad.off + 4 } from add_formL ad 3] at g4
        have g5 := cl 5 (by omega)
        rw [show ad.add 5 = { block := ad.block, off := ad.off + 5 } from add_formL ad 4] at g5
        have HG1 := Lib.hid (cl 1 (by omega))
        have hlr : lenR bs = (((bs.getD 2 default).toNat * 256 + (bs.getD 3 default).toNat) * 256 + (bs.getD 4 default).toNat) * 256 + (bs.getD 5 default).toNat := rfl
        have hb2 := UInt8.toNat_lt (bs.getD 2 default)
        have hb3 := UInt8.toNat_lt (bs.getD 3 default)
        have hb4 := UInt8.toNat_lt (bs.getD 4 default)
        have hb5 := UInt8.toNat_lt (bs.getD 5 default)
        obtain ⟨b2, e2⟩ : ∃ b, (bs.getD 2 default).toNat = b := ⟨_, rfl⟩
        obtain ⟨b3, e3⟩ : ∃ b, (bs.getD 3 default).toNat = b := ⟨_, rfl⟩
        obtain ⟨b4, e4⟩ : ∃ b, (bs.getD 4 default).toNat = b := ⟨_, rfl⟩
        obtain ⟨b5, e5⟩ : ∃ b, (bs.getD 5 default).toNat = b := ⟨_, rfl⟩
        rw [e2] at g2 hb2 hlr
        rw [e3] at g3 hb3 hlr
        rw [e4] at g4 hb4 hlr
        rw [e5] at g5 hb5 hlr
        obtain ⟨n, hn⟩ : ∃ n, lenR bs = n := ⟨_, rfl⟩
        rw [hn] at hlr
        have HN := Lib.hid hn
        have w2 : IntKind.i64.wrap (b2 : Int) = (b2 : Int) := IntWalk.i64_in _ (by omega)
        have w3 : IntKind.i64.wrap (b3 : Int) = (b3 : Int) := IntWalk.i64_in _ (by omega)
        have w4 : IntKind.i64.wrap (b4 : Int) = (b4 : Int) := IntWalk.i64_in _ (by omega)
        have w5 : IntKind.i64.wrap (b5 : Int) = (b5 : Int) := IntWalk.i64_in _ (by omega)
        have m1 : IntKind.i64.wrap ((b2 : Int) * 256) = (b2 : Int) * 256 := IntWalk.i64_in _ (by omega)
        have m2 : IntKind.i64.wrap ((b2 : Int) * 256 + (b3 : Int)) = (b2 : Int) * 256 + (b3 : Int) := IntWalk.i64_in _ (by omega)
        have m3 : IntKind.i64.wrap (((b2 : Int) * 256 + (b3 : Int)) * 256) = ((b2 : Int) * 256 + (b3 : Int)) * 256 := IntWalk.i64_in _ (by omega)
        have m4 : IntKind.i64.wrap (((b2 : Int) * 256 + (b3 : Int)) * 256 + (b4 : Int)) = ((b2 : Int) * 256 + (b3 : Int)) * 256 + (b4 : Int) := IntWalk.i64_in _ (by omega)
        have m5 : IntKind.i64.wrap ((((b2 : Int) * 256 + (b3 : Int)) * 256 + (b4 : Int)) * 256) = (((b2 : Int) * 256 + (b3 : Int)) * 256 + (b4 : Int)) * 256 := IntWalk.i64_in _ (by omega)
        have m6 : IntKind.i64.wrap ((((b2 : Int) * 256 + (b3 : Int)) * 256 + (b4 : Int)) * 256 + (b5 : Int)) = (n : Int) := by rw [IntWalk.i64_in _ (by omega)]; omega
        have hn32 : n < 4294967296 := by omega
        have hq2 : (2 : Int) < (bs.length : Int) := by omega
        have hq3 : (3 : Int) < (bs.length : Int) := by omega
        have hq4 : (4 : Int) < (bs.length : Int) := by omega
        have hq5 : (5 : Int) < (bs.length : Int) := by omega
        have hres : (w.alloc (.cells #[.int .u8 0, .slice none 0 0] 40)).drew.heap[w.heap.size]? = some (.cells #[.int .u8 0, .slice none 0 0] 40 (0, 0)) := resL w
        have hBd : Below w.heap.size w (w.alloc (.cells #[.int .u8 0, .slice none 0 0] 40)).drew := HB.out.drew
        have hnE : takeE bs = if 1048576 < lenR bs then 82 else if bs.length < lenR bs + 10 then 20 else if fourR (sumC (bs.take (lenR bs + 6))) ≠ (bs.drop (lenR bs + 6)).take 4 then 81 else 0 := by unfold takeE; rw [if_neg h0, if_neg h1, if_neg h6]
        rw [hn] at hnE
        have HNE := Lib.hid hnE
        clear cl hlr hb2 hb3 hb4 hb5 e2 e3 e4 e5 hn k0 kk0 h1e h1 hnE r0 r1
        go_wp2_with fail
        refine wp_region_held_drew (S := (fun W => W.cell? { block := ad.block, off := ad.off + 2 } = some (.int .u8 (b2 : Int)) ∧ W.cell? { block := ad.block, off := ad.off + 3 } = some (.int .u8 (b3 : Int)) ∧ W.cell? { block := ad.block, off := ad.off + 4 } = some (.int .u8 (b4 : Int)) ∧ W.cell? { block := ad.block, off := ad.off + 5 } = some (.int .u8 (b5 : Int)))) (by kernel_rfl) ⟨g2, g3, g4, g5⟩ (fun hHeld => ?_)
        generalize (w.alloc (.cells #[.int .u8 0, .slice none 0 0] 40)).drew = W0 at *
        have HBd := Lib.hid hBd
        clear hBd
        refine wpAnyH_take (i := 0) (v := ?_) (by simp only [List.getElem?_toArray, List.getElem?_cons_zero]; rfl) (by kernel_rfl) (by kernel_rfl) (by kernel_rfl) (by exact fun _ _ _ h => h) (Or.inl ⟨by rfl, ?_⟩) (by assumption) ?_
        rotate_left
        · intro w hSw; (try dsimp only at hSw); go_simp; (try with_reducible rfl)
        try simp only [Act.put, List.setIfInBounds_toArray, List.set_cons_zero, List.set_cons_succ]
        refine wpAnyH_take (i := 1) (v := ?_) (by simp only [List.getElem?_toArray, List.getElem?_cons_zero, List.getElem?_cons_succ]; rfl) (by kernel_rfl) (by kernel_rfl) (by kernel_rfl) (by exact fun _ _ _ h => h) (Or.inl ⟨by rfl, ?_⟩) (by assumption) ?_
        rotate_left
        · intro w hSw; (try dsimp only at hSw); go_simp; (try with_reducible rfl)
        try simp only [Act.put, List.setIfInBounds_toArray, List.set_cons_zero, List.set_cons_succ]
        refine wpAnyH_take (i := 2) (v := ?_) (by simp only [List.getElem?_toArray, List.getElem?_cons_zero, List.getElem?_cons_succ]; rfl) (by kernel_rfl) (by kernel_rfl) (by kernel_rfl) (by exact fun _ _ _ h => h) (Or.inl ⟨by rfl, ?_⟩) (by assumption) ?_
        rotate_left
        · intro w hSw; (try dsimp only at hSw); go_simp; (try with_reducible rfl)
        try simp only [Act.put, List.setIfInBounds_toArray, List.set_cons_zero, List.set_cons_succ]
        refine wpAnyH_take (i := 3) (v := ?_) (by simp only [List.getElem?_toArray, List.getElem?_cons_zero, List.getElem?_cons_succ]; rfl) (by kernel_rfl) (by kernel_rfl) (by kernel_rfl) (by exact fun _ _ _ h => h) (Or.inl ⟨by rfl, ?_⟩) (by assumption) ?_
        rotate_left
        · intro w hSw; (try dsimp only at hSw); go_simp; (try with_reducible rfl)
        try simp only [Act.put, List.setIfInBounds_toArray, List.set_cons_zero, List.set_cons_succ]
        refine wpAnyH_take (i := 4) (v := ?_) (by simp only [List.getElem?_toArray, List.getElem?_cons_zero, List.getElem?_cons_succ]; rfl) (by kernel_rfl) (by kernel_rfl) (by kernel_rfl) (by exact fun _ _ _ h => h) (Or.inl ⟨by rfl, ?_⟩) (by assumption) ?_
        rotate_left
        · intro w hSw; (try dsimp only at hSw); go_simp; (try with_reducible rfl)
        try simp only [Act.put, List.setIfInBounds_toArray, List.set_cons_zero, List.set_cons_succ]
        refine wpAnyH_take (i := 5) (v := ?_) (by simp only [List.getElem?_toArray, List.getElem?_cons_zero, List.getElem?_cons_succ]; rfl) (by kernel_rfl) (by kernel_rfl) (by kernel_rfl) (by exact fun _ _ _ h => h) (Or.inl ⟨by rfl, ?_⟩) (by assumption) ?_
        rotate_left
        · intro w hSw; (try dsimp only at hSw); go_simp; (try with_reducible rfl)
        try simp only [Act.put, List.setIfInBounds_toArray, List.set_cons_zero, List.set_cons_succ]
        refine wpAnyH_take (i := 6) (v := ?_) (by simp only [List.getElem?_toArray, List.getElem?_cons_zero, List.getElem?_cons_succ]; rfl) (by kernel_rfl) (by kernel_rfl) (by kernel_rfl) (by exact fun _ _ _ h => h) (Or.inl ⟨by rfl, ?_⟩) (by assumption) ?_
        rotate_left
        · intro w hSw; (try dsimp only at hSw); go_simp; (try with_reducible rfl)
        try simp only [Act.put, List.setIfInBounds_toArray, List.set_cons_zero, List.set_cons_succ]
        refine wpAnyH_take (i := 7) (v := ?_) (by simp only [List.getElem?_toArray, List.getElem?_cons_zero, List.getElem?_cons_succ]; rfl) (by kernel_rfl) (by kernel_rfl) (by kernel_rfl) (by exact fun _ _ _ h => h) (Or.inl ⟨by rfl, ?_⟩) (by assumption) ?_
        rotate_left
        · intro w hSw; (try dsimp only at hSw); go_simp; (try with_reducible rfl)
        try simp only [Act.put, List.setIfInBounds_toArray, List.set_cons_zero, List.set_cons_succ]
        refine wpAnyH_take (i := 8) (v := ?_) (by simp only [List.getElem?_toArray, List.getElem?_cons_zero, List.getElem?_cons_succ]; rfl) (by kernel_rfl) (by kernel_rfl) (by kernel_rfl) (by exact fun _ _ _ h => h) (Or.inl ⟨by rfl, ?_⟩) (by assumption) ?_
        rotate_left
        · intro w hSw; (try dsimp only at hSw); go_simp; (try with_reducible rfl)
        try simp only [Act.put, List.setIfInBounds_toArray, List.set_cons_zero, List.set_cons_succ]
        refine wpAnyH_take (i := 9) (v := ?_) (by simp only [List.getElem?_toArray, List.getElem?_cons_zero, List.getElem?_cons_succ]; rfl) (by kernel_rfl) (by kernel_rfl) (by kernel_rfl) (by exact fun _ _ _ h => h) (Or.inl ⟨by rfl, ?_⟩) (by assumption) ?_
        rotate_left
        · intro w hSw; (try dsimp only at hSw); go_simp; (try with_reducible rfl)
        try simp only [Act.put, List.setIfInBounds_toArray, List.set_cons_zero, List.set_cons_succ]
        refine wpAnyH_take (i := 10) (v := ?_) (by simp only [List.getElem?_toArray, List.getElem?_cons_zero, List.getElem?_cons_succ]; rfl) (by kernel_rfl) (by kernel_rfl) (by kernel_rfl) (by exact fun _ _ _ h => h) (Or.inl ⟨by rfl, ?_⟩) (by assumption) ?_
        rotate_left
        · intro w hSw; (try dsimp only at hSw); go_simp; (try with_reducible rfl)
        try simp only [Act.put, List.setIfInBounds_toArray, List.set_cons_zero, List.set_cons_succ]
        refine wpAnyH_take (i := 11) (v := ?_) (by simp only [List.getElem?_toArray, List.getElem?_cons_zero, List.getElem?_cons_succ]; rfl) (by kernel_rfl) (by kernel_rfl) (by kernel_rfl) (by exact fun _ _ _ h => h) (Or.inl ⟨by rfl, ?_⟩) (by assumption) ?_
        rotate_left
        · intro w hSw; (try dsimp only at hSw); go_simp; (try with_reducible rfl)
        try simp only [Act.put, List.setIfInBounds_toArray, List.set_cons_zero, List.set_cons_succ]
        refine wpAnyH_take (i := 12) (v := ?_) (by simp only [List.getElem?_toArray, List.getElem?_cons_zero, List.getElem?_cons_succ]; rfl) (by kernel_rfl) (by kernel_rfl) (by kernel_rfl) (by exact fun _ _ _ h => h) (Or.inl ⟨by rfl, ?_⟩) (by assumption) ?_
        rotate_left
        · intro w hSw; (try dsimp only at hSw); go_simp; (try with_reducible rfl)
        try simp only [Act.put, List.setIfInBounds_toArray, List.set_cons_zero, List.set_cons_succ]
        refine wpAnyH_take (i := 13) (v := ?_) (by simp only [List.getElem?_toArray, List.getElem?_cons_zero, List.getElem?_cons_succ]; rfl) (by kernel_rfl) (by kernel_rfl) (by kernel_rfl) (by exact fun _ _ _ h => h) (Or.inl ⟨by rfl, ?_⟩) (by assumption) ?_
        rotate_left
        · intro w hSw; (try dsimp only at hSw); go_simp; (try with_reducible rfl)
        try simp only [Act.put, List.setIfInBounds_toArray, List.set_cons_zero, List.set_cons_succ]
        refine wpAnyH_take (i := 14) (v := ?_) (by simp only [List.getElem?_toArray, List.getElem?_cons_zero, List.getElem?_cons_succ]; rfl) (by kernel_rfl) (by kernel_rfl) (by kernel_rfl) (by exact fun _ _ _ h => h) (Or.inl ⟨by rfl, ?_⟩) (by assumption) ?_
        rotate_left
        · intro w hSw; (try dsimp only at hSw); go_simp; (try with_reducible rfl)
        try simp only [Act.put, List.setIfInBounds_toArray, List.set_cons_zero, List.set_cons_succ]
        refine wpAnyH_take (i := 15) (v := ?_) (by simp only [List.getElem?_toArray, List.getElem?_cons_zero, List.getElem?_cons_succ]; rfl) (by kernel_rfl) (by kernel_rfl) (by kernel_rfl) (by exact fun _ _ _ h => h) (Or.inl ⟨by rfl, ?_⟩) (by assumption) ?_
        rotate_left
        · intro w hSw; (try dsimp only at hSw); go_simp; (try with_reducible rfl)
        try simp only [Act.put, List.setIfInBounds_toArray, List.set_cons_zero, List.set_cons_succ]
        refine wpAnyH_take (i := 16) (v := ?_) (by simp only [List.getElem?_toArray, List.getElem?_cons_zero, List.getElem?_cons_succ]; rfl) (by kernel_rfl) (by kernel_rfl) (by kernel_rfl) (by exact fun _ _ _ h => h) (Or.inl ⟨by rfl, ?_⟩) (by assumption) ?_
        rotate_left
        · intro w hSw; (try dsimp only at hSw); go_simp; (try with_reducible rfl)
        try simp only [Act.put, List.setIfInBounds_toArray, List.set_cons_zero, List.set_cons_succ]
        refine wpAnyH_take (i := 17) (v := ?_) (by simp only [List.getElem?_toArray, List.getElem?_cons_zero, List.getElem?_cons_succ]; rfl) (by kernel_rfl) (by kernel_rfl) (by kernel_rfl) (by exact fun _ _ _ h => h) (Or.inl ⟨by rfl, ?_⟩) (by assumption) ?_
        rotate_left
        · intro w hSw; (try dsimp only at hSw); go_simp; (try with_reducible rfl)
        try simp only [Act.put, List.setIfInBounds_toArray, List.set_cons_zero, List.set_cons_succ]
        refine wpAnyH_take (i := 18) (v := ?_) (by simp only [List.getElem?_toArray, List.getElem?_cons_zero, List.getElem?_cons_succ]; rfl) (by kernel_rfl) (by kernel_rfl) (by kernel_rfl) (by exact fun _ _ _ h => h) (Or.inl ⟨by rfl, ?_⟩) (by assumption) ?_
        rotate_left
        · intro w hSw; (try dsimp only at hSw); go_simp; (try with_reducible rfl)
        try simp only [Act.put, List.setIfInBounds_toArray, List.set_cons_zero, List.set_cons_succ]
        refine wpAnyH_take (i := 19) (v := ?_) (by simp only [List.getElem?_toArray, List.getElem?_cons_zero, List.getElem?_cons_succ]; rfl) (by kernel_rfl) (by kernel_rfl) (by kernel_rfl) (by exact fun _ _ _ h => h) (Or.inl ⟨by rfl, ?_⟩) (by assumption) ?_
        rotate_left
        · intro w hSw; (try dsimp only at hSw); go_simp; (try with_reducible rfl)
        try simp only [Act.put, List.setIfInBounds_toArray, List.set_cons_zero, List.set_cons_succ]
        refine wpAnyH_take (i := 20) (v := ?_) (by simp only [List.getElem?_toArray, List.getElem?_cons_zero, List.getElem?_cons_succ]; rfl) (by kernel_rfl) (by kernel_rfl) (by kernel_rfl) (by exact fun _ _ _ h => h) (Or.inl ⟨by rfl, ?_⟩) (by assumption) ?_
        rotate_left
        · intro w hSw; (try dsimp only at hSw); go_simp; (try with_reducible rfl)
        try simp only [Act.put, List.setIfInBounds_toArray, List.set_cons_zero, List.set_cons_succ]
        refine wpAnyH_take (i := 21) (v := ?_) (by simp only [List.getElem?_toArray, List.getElem?_cons_zero, List.getElem?_cons_succ]; rfl) (by kernel_rfl) (by kernel_rfl) (by kernel_rfl) (by exact fun _ _ _ h => h) (Or.inl ⟨by rfl, ?_⟩) (by assumption) ?_
        rotate_left
        · intro w hSw; (try dsimp only at hSw); go_simp; (try with_reducible rfl)
        try simp only [Act.put, List.setIfInBounds_toArray, List.set_cons_zero, List.set_cons_succ]
        refine wpAnyH_take (i := 22) (v := ?_) (by simp only [List.getElem?_toArray, List.getElem?_cons_zero, List.getElem?_cons_succ]; rfl) (by kernel_rfl) (by kernel_rfl) (by kernel_rfl) (by exact fun _ _ _ h => h) (Or.inl ⟨by rfl, ?_⟩) (by assumption) ?_
        rotate_left
        · intro w hSw; (try dsimp only at hSw); go_simp; (try with_reducible rfl)
        try simp only [Act.put, List.setIfInBounds_toArray, List.set_cons_zero, List.set_cons_succ]
        refine wpAnyH_done (by kernel_rfl) ?_ _
        clear g2 g3 g4 g5 w2 w3 w4 w5 m1 m2 m3 m4 m5 m6 hq2 hq3 hq4 hq5
        by_cases hbig : 1048576 < n
        · have hE := HNE.out
          rw [if_pos hbig] at hE
          have HE := Lib.hid hE
          have hbi : (1048576 : Int) < (n : Int) := by omega
          obtain ⟨r0, r1⟩ := blkL hres
          obtain ⟨f0, f1⟩ := frL hres
          obtain ⟨s0, s1⟩ := blkL (setL hres (.int .u8 0) (.slice none 0 0))
          clear hE
          go_wp2_with fail
          exact bodyPost_ret (v := .tuple #[.agg #[.int .u8 0, .slice none 0 0], .int .i64 0, .int .i64 82]) (by simp [results, Tryd.results18, go_sem, s0, s1]) rfl (took_err HE.out (by decide) (belL HBd.out _ _))
        · have hbi : ¬ ((1048576 : Int) < (n : Int)) := by omega
          have hE := HNE.out
          rw [if_neg hbig] at hE
          by_cases hsh : bs.length < n + 10
          · rw [if_pos hsh] at hE
            have HE := Lib.hid hE
            have hsi : (bs.length : Int) < (n : Int) + 10 := by omega
            obtain ⟨r0, r1⟩ := blkL hres
            obtain ⟨f0, f1⟩ := frL hres
            obtain ⟨s0, s1⟩ := blkL (setL hres (.int .u8 0) (.slice none 0 0))
            clear hE
            go_wp2_with fail
            exact bodyPost_ret (v := .tuple #[.agg #[.int .u8 0, .slice none 0 0], .int .i64 0, .int .i64 20]) (by simp [results, Tryd.results18, go_sem, s0, s1]) rfl (took_err HE.out (by decide) (belL HBd.out _ _))
          · rw [if_neg hsh] at hE
            have hsi : ¬ ((bs.length : Int) < (n : Int) + 10) := by omega
            obtain ⟨n6, hn6⟩ : ∃ n6, n + 6 = n6 := ⟨_, rfl⟩
            obtain ⟨n10, hn10⟩ : ∃ n10, n + 10 = n10 := ⟨_, rfl⟩
            rw [hn6] at hE
            have hs6 : IntKind.i64.wrap ((n : Int) + 6) = (n6 : Int) := by rw [IntWalk.i64_in _ (by omega)]; omega
            have hs10 : IntKind.i64.wrap ((n : Int) + 10) = (n10 : Int) := by rw [IntWalk.i64_in _ (by omega)]; omega
            have hsi2 : ¬ ((bs.length : Int) < (n10 : Int)) := by omega
            have h6c : (n6 : Int) ≤ (c : Int) := by omega
            have h60 : (0 : Int) ≤ (n6 : Int) := by omega
            have hm4 := fun W => slice_midB W (some ad) bs.length c n6 n10 (by omega) (by omega)
            have hmb := fun W => slice_midB W (some ad) bs.length c 6 n6 (by omega) (by omega)
            rw [show n10 - n6 = 4 from by omega] at hm4
            rw [show n6 - 6 = n from by omega] at hmb
            obtain ⟨AM, hAM⟩ : ∃ A, fromA (some ad) c n6 = A := ⟨_, rfl⟩
            obtain ⟨AB, hAB⟩ : ∃ A, fromA (some ad) c 6 = A := ⟨_, rfl⟩
            rw [hAM] at hm4
            rw [hAB] at hmb
            have hmb : ∀ W : World, (Instr.slice 24 (.slice (some ad) bs.length c) (some (.int .i64 6)) (some (.int .i64 (n6 : Int))) none).run Tryd.prog W = .ok (.slice AB n (c - 6)) W := hmb
            have hrM := (rd_from (w := w) HR.out hc (K := n6) (by omega)).take 4
            have hrB := fun (V : World) (hV : layB.Rd V (some ad) bs) => (rd_from (w := V) hV hc (K := 6) (by omega)).take n
            rw [hAM] at hrM
            rw [hAB] at hrB
            obtain ⟨m4, hm4l⟩ : ∃ l, (bs.drop n6).take 4 = l := ⟨_, rfl⟩
            have hm4n : m4.length = 4 := by rw [← hm4l, List.length_take, List.length_drop]; omega
            rw [hm4l] at hE hrM
            have hSum := fun (W : World) (hW : layB.Rd W (some ad) bs) => refSum_any (some ad) c (bs.take n6) W (hW.take n6) (by rw [List.length_take]; omega) (by rw [List.length_take]; omega)
            rw [show (bs.take n6).length = n6 from by rw [List.length_take]; omega] at hSum
            have hsl := sumC_lt (bs.take n6)
            obtain ⟨sm, hsm⟩ : ∃ x, sumC (bs.take n6) = x := ⟨_, rfl⟩
            rw [hsm] at hE hSum hsl
            have HE := Lib.hid hE
            have HSum := Lib.hid hSum
            have HrM := Lib.hid hrM
            have HrB := Lib.hid hrB
            have HM4 := Lib.hid hm4n
            have HRes := Lib.hid hres
            have hBs : Below w.heap.size w W0.drew := HBd.out.drew
            have HSz := Lib.hid (show n6 = n + 6 ∧ n10 = n + 10 from ⟨hn6.symm, hn10.symm⟩)
            clear hE hSum hrM hrB hm4n hm4l hAM hAB hn6 hn10 hsm hres
            obtain ⟨l4, hl4⟩ : ∃ l, fourR sm = l := ⟨_, rfl⟩
            obtain ⟨b, hb⟩ : ∃ b, (l4 == m4) = b := ⟨_, rfl⟩
            have HL4 := Lib.hid hl4
            have HBb := Lib.hid hb
            clear hl4
            cases b with
            | false =>
              go_wp2_with fail
              refine wp_region_held_drew (S := (fun W => Below w.heap.size w W)) (by kernel_rfl) hBs (fun hHeld => ?_)
              refine wpAnyH_take (i := 0) (v := ?_) (by simp only [List.getElem?_toArray, List.getElem?_cons_zero]; rfl) (by kernel_rfl) (by kernel_rfl) (by kernel_rfl) (by exact fun _ _ _ h => h) (Or.inl ⟨by rfl, ?_⟩) (by assumption) ?_
              rotate_left
              · intro w hSw; (try dsimp only at hSw); go_simp; (try with_reducible rfl)
              try simp only [Act.put, List.setIfInBounds_toArray, List.set_cons_zero, List.set_cons_succ]
              refine wpAnyH_take (i := 1) (v := ?_) (by simp only [List.getElem?_toArray, List.getElem?_cons_zero, List.getElem?_cons_succ]; rfl) (by kernel_rfl) (by kernel_rfl) (by kernel_rfl) (by exact fun _ _ _ h => h) (Or.inl ⟨by rfl, ?_⟩) (by assumption) ?_
              rotate_left
              · intro w hSw; (try dsimp only at hSw); go_simp; (try with_reducible rfl)
              try simp only [Act.put, List.setIfInBounds_toArray, List.set_cons_zero, List.set_cons_succ]
              refine wpAnyH_take (i := 2) (v := ?_) (by simp only [List.getElem?_toArray, List.getElem?_cons_zero, List.getElem?_cons_succ]; rfl) (by kernel_rfl) (by kernel_rfl) (by kernel_rfl) (by exact fun _ _ _ h => h) (Or.inl ⟨by rfl, ?_⟩) (by assumption) ?_
              rotate_left
              · intro w hSw; (try dsimp only at hSw); go_simp; (try with_reducible rfl)
              try simp only [Act.put, List.setIfInBounds_toArray, List.set_cons_zero, List.set_cons_succ]
              refine wpAnyH_take (i := 3) (v := ?_) (by simp only [List.getElem?_toArray, List.getElem?_cons_zero, List.getElem?_cons_succ]; rfl) (by kernel_rfl) (by kernel_rfl) (by kernel_rfl) (by exact fun _ _ _ h => h) (Or.inl ⟨by rfl, ?_⟩) (by assumption) ?_
              rotate_left
              · intro w hSw; (try dsimp only at hSw); go_simp; (try with_reducible rfl)
              try simp only [Act.put, List.setIfInBounds_toArray, List.set_cons_zero, List.set_cons_succ]
              refine wpAnyH_take (i := 7) (v := ?_) (by simp only [List.getElem?_toArray, List.getElem?_cons_zero, List.getElem?_cons_succ]; rfl) (by kernel_rfl) (by kernel_rfl) (by kernel_rfl) (by exact fun _ _ _ h => h) (Or.inl ⟨by rfl, ?_⟩) (by assumption) ?_
              rotate_left
              · intro w hSw; (try dsimp only at hSw); go_simp; (try with_reducible rfl)
              try simp only [Act.put, List.setIfInBounds_toArray, List.set_cons_zero, List.set_cons_succ]
              refine wpAnyH_take (i := 8) (v := ?_) (by simp only [List.getElem?_toArray, List.getElem?_cons_zero, List.getElem?_cons_succ]; rfl) (by kernel_rfl) (by kernel_rfl) (by kernel_rfl) (by exact fun _ _ _ h => h) (Or.inl ⟨by rfl, ?_⟩) (by assumption) ?_
              rotate_left
              · intro w hSw; (try dsimp only at hSw); go_simp; (try with_reducible rfl)
              try simp only [Act.put, List.setIfInBounds_toArray, List.set_cons_zero, List.set_cons_succ]
              refine wpAnyH_take (i := 9) (v := ?_) (by simp only [List.getElem?_toArray, List.getElem?_cons_zero, List.getElem?_cons_succ]; rfl) (by kernel_rfl) (by kernel_rfl) (by kernel_rfl) (by exact fun _ _ _ h => h) (Or.inl ⟨by rfl, ?_⟩) (by assumption) ?_
              rotate_left
              · intro w hSw; (try dsimp only at hSw); go_simp; (try with_reducible rfl)
              try simp only [Act.put, List.setIfInBounds_toArray, List.set_cons_zero, List.set_cons_succ]
              refine wpAnyH_take (i := 10) (v := ?_) (by simp only [List.getElem?_toArray, List.getElem?_cons_zero, List.getElem?_cons_succ]; rfl) (by kernel_rfl) (by kernel_rfl) (by kernel_rfl) (by exact fun _ _ _ h => h) (Or.inl ⟨by rfl, ?_⟩) (by assumption) ?_
              rotate_left
              · intro w hSw; (try dsimp only at hSw); go_simp; (try with_reducible rfl)
              try simp only [Act.put, List.setIfInBounds_toArray, List.set_cons_zero, List.set_cons_succ]
              refine wpAnyH_take (i := 11) (v := ?_) (by simp only [List.getElem?_toArray, List.getElem?_cons_zero, List.getElem?_cons_succ]; rfl) (by kernel_rfl) (by kernel_rfl) (by kernel_rfl) (by exact fun _ _ _ h => h) (Or.inl ⟨by rfl, ?_⟩) (by assumption) ?_
              rotate_left
              · intro w hSw; (try dsimp only at hSw); go_simp; (try with_reducible rfl)
              try simp only [Act.put, List.setIfInBounds_toArray, List.set_cons_zero, List.set_cons_succ]
              refine wpAnyH_take (i := 12) (v := ?_) (by simp only [List.getElem?_toArray, List.getElem?_cons_zero, List.getElem?_cons_succ]; rfl) (by kernel_rfl) (by kernel_rfl) (by kernel_rfl) (by exact fun _ _ _ h => h) (Or.inl ⟨by rfl, ?_⟩) (by assumption) ?_
              rotate_left
              · intro w hSw; (try dsimp only at hSw); go_simp; (try with_reducible rfl)
              try simp only [Act.put, List.setIfInBounds_toArray, List.set_cons_zero, List.set_cons_succ]
              refine wpAnyH_take (i := 13) (v := ?_) (by simp only [List.getElem?_toArray, List.getElem?_cons_zero, List.getElem?_cons_succ]; rfl) (by kernel_rfl) (by kernel_rfl) (by kernel_rfl) (by exact fun _ _ _ h => h) (Or.inl ⟨by rfl, ?_⟩) (by assumption) ?_
              rotate_left
              · intro w hSw; (try dsimp only at hSw); have hcx := conv_rd (l := 4) (c := c - n6) (HrM.out.below (Nat.le_refl _) hSw) HM4.out; go_simp; (try with_reducible rfl)
              try simp only [Act.put, List.setIfInBounds_toArray, List.set_cons_zero, List.set_cons_succ]
              refine wpAnyH_ready (rs := [4]) (by kernel_rfl) (by simp) ?_
              refine AllReadyH.cons (by simp only [List.getElem?_toArray, List.getElem?_cons_zero, List.getElem?_cons_succ]; rfl) (fun K hK => ?_) AllReadyH.nil
              go_simp
              refine (HSum.out W0.drew (HR.out.below (Nat.le_refl _) hBs)).mono ?_
              rintro e y0 ⟨rfl, rfl⟩
              go_wp2_with fail
              refine hK.out _ _ (hBs) (fun hHeld => ?_)
              clear hK K
              try simp only [Act.put, List.setIfInBounds_toArray, List.set_cons_zero, List.set_cons_succ]
              refine wpAnyH_ready (rs := [5]) (by kernel_rfl) (by simp) ?_
              refine AllReadyH.cons (by simp only [List.getElem?_toArray, List.getElem?_cons_zero, List.getElem?_cons_succ]; rfl) (fun K hK => ?_) AllReadyH.nil
              go_simp
              refine (refFour_any sm W0.drew hsl).mono ?_
              rintro e y1 ⟨v1, rfl, r1, b1⟩
              rw [HL4.out] at r1
              obtain ⟨A1, c1, rfl, _, rd1, _, _⟩ := r1.rd
              have hcv := conv_rd (l := 4) (c := c1) rd1 (by rw [← HL4.out]; rfl)
              have hb1 := hBs.trans (b1.mono hBs.size)
              have HB1 := Lib.hid hb1
              have HRes1 : Hid (y1.heap[w.heap.size]? = some (.cells #[.int .u8 0, .slice none 0 0] 40 (0, 0))) := Lib.hid ((b1.block w.heap.size (Array.getElem?_eq_some_iff.1 HRes.out).1).trans HRes.out)
              clear r1 rd1 b1
              go_wp2_with fail
              refine hK.out _ _ (hb1) (fun hHeld => ?_)
              clear hK K
              try simp only [Act.put, List.setIfInBounds_toArray, List.set_cons_zero, List.set_cons_succ]
              refine wpAnyH_ready (rs := [6]) (by kernel_rfl) (by simp) ?_
              refine AllReadyH.cons (by simp only [List.getElem?_toArray, List.getElem?_cons_zero, List.getElem?_cons_succ]; rfl) (fun K hK => ?_) AllReadyH.nil
              go_simp
              refine hK.out _ _ (hb1) (fun hHeld => ?_)
              clear hK K
              try simp only [Act.put, List.setIfInBounds_toArray, List.set_cons_zero, List.set_cons_succ]
              refine wpAnyH_take (i := 14) (v := ?_) (by simp only [List.getElem?_toArray, List.getElem?_cons_zero, List.getElem?_cons_succ]; rfl) (by kernel_rfl) (by kernel_rfl) (by kernel_rfl) (by exact fun _ _ _ h => h) (Or.inl ⟨by rfl, ?_⟩) (by assumption) ?_
              rotate_left
              · intro w hSw; (try dsimp only at hSw); go_simp; (try with_reducible rfl)
              try simp only [Act.put, List.setIfInBounds_toArray, List.set_cons_zero, List.set_cons_succ]
              refine wpAnyH_done (by kernel_rfl) ?_ _
              obtain ⟨r0, r1⟩ := blkL (W := y1) HRes1.out
              obtain ⟨f0, f1⟩ := frL (W := y1) HRes1.out
              obtain ⟨s0, s1⟩ := blkL (setL (W := y1) HRes1.out (.int .u8 0) (.slice none 0 0))
              go_wp2_with fail
              have hE81 : takeE bs = 81 := by
                have := HE.out
                rw [HL4.out, if_pos (beq_eq_false_iff_ne.1 HBb.out)] at this
                exact this
              exact bodyPost_ret (v := .tuple #[.agg #[.int .u8 0, .slice none 0 0], .int .i64 0, .int .i64 81]) (by simp [results, Tryd.results18, go_sem, s0, s1]) rfl (took_err hE81 (by decide) (belL HB1.out _ _))
            | true =>
              go_wp2_with fail
              refine wp_region_held_drew (S := (fun W => Below w.heap.size w W)) (by kernel_rfl) hBs (fun hHeld => ?_)
              refine wpAnyH_take (i := 0) (v := ?_) (by simp only [List.getElem?_toArray, List.getElem?_cons_zero]; rfl) (by kernel_rfl) (by kernel_rfl) (by kernel_rfl) (by exact fun _ _ _ h => h) (Or.inl ⟨by rfl, ?_⟩) (by assumption) ?_
              rotate_left
              · intro w hSw; (try dsimp only at hSw); go_simp; (try with_reducible rfl)
              try simp only [Act.put, List.setIfInBounds_toArray, List.set_cons_zero, List.set_cons_succ]
              refine wpAnyH_take (i := 1) (v := ?_) (by simp only [List.getElem?_toArray, List.getElem?_cons_zero, List.getElem?_cons_succ]; rfl) (by kernel_rfl) (by kernel_rfl) (by kernel_rfl) (by exact fun _ _ _ h => h) (Or.inl ⟨by rfl, ?_⟩) (by assumption) ?_
              rotate_left
              · intro w hSw; (try dsimp only at hSw); go_simp; (try with_reducible rfl)
              try simp only [Act.put, List.setIfInBounds_toArray, List.set_cons_zero, List.set_cons_succ]
              refine wpAnyH_take (i := 2) (v := ?_) (by simp only [List.getElem?_toArray, List.getElem?_cons_zero, List.getElem?_cons_succ]; rfl) (by kernel_rfl) (by kernel_rfl) (by kernel_rfl) (by exact fun _ _ _ h => h) (Or.inl ⟨by rfl, ?_⟩) (by assumption) ?_
              rotate_left
              · intro w hSw; (try dsimp only at hSw); go_simp; (try with_reducible rfl)
              try simp only [Act.put, List.setIfInBounds_toArray, List.set_cons_zero, List.set_cons_succ]
              refine wpAnyH_take (i := 3) (v := ?_) (by simp only [List.getElem?_toArray, List.getElem?_cons_zero, List.getElem?_cons_succ]; rfl) (by kernel_rfl) (by kernel_rfl) (by kernel_rfl) (by exact fun _ _ _ h => h) (Or.inl ⟨by rfl, ?_⟩) (by assumption) ?_
              rotate_left
              · intro w hSw; (try dsimp only at hSw); go_simp; (try with_reducible rfl)
              try simp only [Act.put, List.setIfInBounds_toArray, List.set_cons_zero, List.set_cons_succ]
              refine wpAnyH_take (i := 7) (v := ?_) (by simp only [List.getElem?_toArray, List.getElem?_cons_zero, List.getElem?_cons_succ]; rfl) (by kernel_rfl) (by kernel_rfl) (by kernel_rfl) (by exact fun _ _ _ h => h) (Or.inl ⟨by rfl, ?_⟩) (by assumption) ?_
              rotate_left
              · intro w hSw; (try dsimp only at hSw); go_simp; (try with_reducible rfl)
              try simp only [Act.put, List.setIfInBounds_toArray, List.set_cons_zero, List.set_cons_succ]
              refine wpAnyH_take (i := 8) (v := ?_) (by simp only [List.getElem?_toArray, List.getElem?_cons_zero, List.getElem?_cons_succ]; rfl) (by kernel_rfl) (by kernel_rfl) (by kernel_rfl) (by exact fun _ _ _ h => h) (Or.inl ⟨by rfl, ?_⟩) (by assumption) ?_
              rotate_left
              · intro w hSw; (try dsimp only at hSw); go_simp; (try with_reducible rfl)
              try simp only [Act.put, List.setIfInBounds_toArray, List.set_cons_zero, List.set_cons_succ]
              refine wpAnyH_take (i := 9) (v := ?_) (by simp only [List.getElem?_toArray, List.getElem?_cons_zero, List.getElem?_cons_succ]; rfl) (by kernel_rfl) (by kernel_rfl) (by kernel_rfl) (by exact fun _ _ _ h => h) (Or.inl ⟨by rfl, ?_⟩) (by assumption) ?_
              rotate_left
              · intro w hSw; (try dsimp only at hSw); go_simp; (try with_reducible rfl)
              try simp only [Act.put, List.setIfInBounds_toArray, List.set_cons_zero, List.set_cons_succ]
              refine wpAnyH_take (i := 10) (v := ?_) (by simp only [List.getElem?_toArray, List.getElem?_cons_zero, List.getElem?_cons_succ]; rfl) (by kernel_rfl) (by kernel_rfl) (by kernel_rfl) (by exact fun _ _ _ h => h) (Or.inl ⟨by rfl, ?_⟩) (by assumption) ?_
              rotate_left
              · intro w hSw; (try dsimp only at hSw); go_simp; (try with_reducible rfl)
              try simp only [Act.put, List.setIfInBounds_toArray, List.set_cons_zero, List.set_cons_succ]
              refine wpAnyH_take (i := 11) (v := ?_) (by simp only [List.getElem?_toArray, List.getElem?_cons_zero, List.getElem?_cons_succ]; rfl) (by kernel_rfl) (by kernel_rfl) (by kernel_rfl) (by exact fun _ _ _ h => h) (Or.inl ⟨by rfl, ?_⟩) (by assumption) ?_
              rotate_left
              · intro w hSw; (try dsimp only at hSw); go_simp; (try with_reducible rfl)
              try simp only [Act.put, List.setIfInBounds_toArray, List.set_cons_zero, List.set_cons_succ]
              refine wpAnyH_take (i := 12) (v := ?_) (by simp only [List.getElem?_toArray, List.getElem?_cons_zero, List.getElem?_cons_succ]; rfl) (by kernel_rfl) (by kernel_rfl) (by kernel_rfl) (by exact fun _ _ _ h => h) (Or.inl ⟨by rfl, ?_⟩) (by assumption) ?_
              rotate_left
              · intro w hSw; (try dsimp only at hSw); go_simp; (try with_reducible rfl)
              try simp only [Act.put, List.setIfInBounds_toArray, List.set_cons_zero, List.set_cons_succ]
              refine wpAnyH_take (i := 13) (v := ?_) (by simp only [List.getElem?_toArray, List.getElem?_cons_zero, List.getElem?_cons_succ]; rfl) (by kernel_rfl) (by kernel_rfl) (by kernel_rfl) (by exact fun _ _ _ h => h) (Or.inl ⟨by rfl, ?_⟩) (by assumption) ?_
              rotate_left
              · intro w hSw; (try dsimp only at hSw); have hcx := conv_rd (l := 4) (c := c - n6) (HrM.out.below (Nat.le_refl _) hSw) HM4.out; go_simp; (try with_reducible rfl)
              try simp only [Act.put, List.setIfInBounds_toArray, List.set_cons_zero, List.set_cons_succ]
              refine wpAnyH_ready (rs := [4]) (by kernel_rfl) (by simp) ?_
              refine AllReadyH.cons (by simp only [List.getElem?_toArray, List.getElem?_cons_zero, List.getElem?_cons_succ]; rfl) (fun K hK => ?_) AllReadyH.nil
              go_simp
              refine (HSum.out W0.drew (HR.out.below (Nat.le_refl _) hBs)).mono ?_
              rintro e y0 ⟨rfl, rfl⟩
              go_wp2_with fail
              refine hK.out _ _ (hBs) (fun hHeld => ?_)
              clear hK K
              try simp only [Act.put, List.setIfInBounds_toArray, List.set_cons_zero, List.set_cons_succ]
              refine wpAnyH_ready (rs := [5]) (by kernel_rfl) (by simp) ?_
              refine AllReadyH.cons (by simp only [List.getElem?_toArray, List.getElem?_cons_zero, List.getElem?_cons_succ]; rfl) (fun K hK => ?_) AllReadyH.nil
              go_simp
              refine (refFour_any sm W0.drew hsl).mono ?_
              rintro e y1 ⟨v1, rfl, r1, b1⟩
              rw [HL4.out] at r1
              obtain ⟨A1, c1, rfl, _, rd1, _, _⟩ := r1.rd
              have hcv := conv_rd (l := 4) (c := c1) rd1 (by rw [← HL4.out]; rfl)
              have hb1 := hBs.trans (b1.mono hBs.size)
              have HB1 := Lib.hid hb1
              have HRes1 : Hid (y1.heap[w.heap.size]? = some (.cells #[.int .u8 0, .slice none 0 0] 40 (0, 0))) := Lib.hid ((b1.block w.heap.size (Array.getElem?_eq_some_iff.1 HRes.out).1).trans HRes.out)
              clear r1 rd1 b1
              go_wp2_with fail
              refine hK.out _ _ (hb1) (fun hHeld => ?_)
              clear hK K
              try simp only [Act.put, List.setIfInBounds_toArray, List.set_cons_zero, List.set_cons_succ]
              refine wpAnyH_ready (rs := [6]) (by kernel_rfl) (by simp) ?_
              refine AllReadyH.cons (by simp only [List.getElem?_toArray, List.getElem?_cons_zero, List.getElem?_cons_succ]; rfl) (fun K hK => ?_) AllReadyH.nil
              go_simp
              refine hK.out _ _ (hb1) (fun hHeld => ?_)
              clear hK K
              try simp only [Act.put, List.setIfInBounds_toArray, List.set_cons_zero, List.set_cons_succ]
              refine wpAnyH_take (i := 14) (v := ?_) (by simp only [List.getElem?_toArray, List.getElem?_cons_zero, List.getElem?_cons_succ]; rfl) (by kernel_rfl) (by kernel_rfl) (by kernel_rfl) (by exact fun _ _ _ h => h) (Or.inl ⟨by rfl, ?_⟩) (by assumption) ?_
              rotate_left
              · intro w hSw; (try dsimp only at hSw); go_simp; (try with_reducible rfl)
              try simp only [Act.put, List.setIfInBounds_toArray, List.set_cons_zero, List.set_cons_succ]
              refine wpAnyH_done (by kernel_rfl) ?_ _
              go_wp2_with fail
              have hE0 : takeE bs = 0 := by
                have := HE.out
                rw [HL4.out, if_neg (by rw [Classical.not_not]; exact eq_of_beq HBb.out)] at this
                exact this
              have HE0 := Lib.hid hE0
              have hd1 : y1.drew.cell? { block := ad.block, off := ad.off + 1 } = some (.int .u8 ((bs.getD 1 default).toNat : Int)) := by
                obtain ⟨ae, e, _, h⟩ := layB_at (HR.out.below (Nat.le_refl _) HB1.out.drew) (k := 1) (by omega)
                obtain rfl : ad = ae := by injection e
                rwa [add_formL ad 0] at h
              have hq1 : (1 : Int) < (bs.length : Int) := by omega
              obtain ⟨r0, r1⟩ := blkL (W := y1) HRes1.out
              obtain ⟨f0, f1⟩ := frL (W := y1) HRes1.out
              obtain ⟨kd, hkd⟩ : ∃ k, bs.getD 1 default = k := ⟨_, rfl⟩
              rw [hkd] at hd1
              have HKd := Lib.hid hkd
              have hbd := fun W => run_build (P := Tryd.prog) W 40 #[(0, .int .u8 (kd.toNat : Int)), (1, .slice AB n (c - 6))] #[.int .u8 (kd.toNat : Int), .slice AB n (c - 6)] (by kernel_rfl)
              have hadw : ad.block ≠ w.heap.size := by omega
              have hd2 : ((y1.drew.setCell { block := w.heap.size, off := 0 } (.int .u8 (kd.toNat : Int))).setCell { block := w.heap.size, off := 1 } (.slice AB n (c - 6))).cell? { block := ad.block, off := ad.off + 1 } = some (.int .u8 (kd.toNat : Int)) := (World.cell?_of_block (Below.heap_setCell _ _ _ _ hadw)).trans ((World.cell?_of_block (Below.heap_setCell _ _ _ _ hadw)).trans hd1)
              obtain ⟨s0, s1⟩ := blkL (setL (W := y1) HRes1.out (.int .u8 (kd.toNat : Int)) (.slice AB n (c - 6)))
              obtain ⟨t0, _⟩ := blkL (heap_setCell_same y1 w.heap.size 0 _ _ (.int .u8 (kd.toNat : Int)) HRes1.out)
              have hfin := belL HB1.out.drew (.int .u8 (kd.toNat : Int)) (.slice AB n (c - 6))
              have HFin := Lib.hid hfin
              clear hE0 hkd hb hfin
              refine wp_region_held_drew (S := (fun W => W.cell? { block := ad.block, off := ad.off + 1 } = some (.int .u8 (kd.toNat : Int)))) (by kernel_rfl) hd1 (fun hHeld => ?_)
              refine wpAnyH_take (i := 0) (v := ?_) (by simp only [List.getElem?_toArray, List.getElem?_cons_zero]; rfl) (by kernel_rfl) (by kernel_rfl) (by kernel_rfl) (by exact fun _ _ _ h => h) (Or.inl ⟨by rfl, ?_⟩) (by assumption) ?_
              rotate_left
              · intro w hSw; (try dsimp only at hSw); go_simp; (try with_reducible rfl)
              try simp only [Act.put, List.setIfInBounds_toArray, List.set_cons_zero, List.set_cons_succ]
              refine wpAnyH_take (i := 1) (v := ?_) (by simp only [List.getElem?_toArray, List.getElem?_cons_zero, List.getElem?_cons_succ]; rfl) (by kernel_rfl) (by kernel_rfl) (by kernel_rfl) (by exact fun _ _ _ h => h) (Or.inl ⟨by rfl, ?_⟩) (by assumption) ?_
              rotate_left
              · intro w hSw; (try dsimp only at hSw); go_simp; (try with_reducible rfl)
              try simp only [Act.put, List.setIfInBounds_toArray, List.set_cons_zero, List.set_cons_succ]
              refine wpAnyH_take (i := 2) (v := ?_) (by simp only [List.getElem?_toArray, List.getElem?_cons_zero, List.getElem?_cons_succ]; rfl) (by kernel_rfl) (by kernel_rfl) (by kernel_rfl) (by exact fun _ _ _ h => h) (Or.inl ⟨by rfl, ?_⟩) (by assumption) ?_
              rotate_left
              · intro w hSw; (try dsimp only at hSw); go_simp; (try with_reducible rfl)
              try simp only [Act.put, List.setIfInBounds_toArray, List.set_cons_zero, List.set_cons_succ]
              refine wpAnyH_take (i := 3) (v := ?_) (by simp only [List.getElem?_toArray, List.getElem?_cons_zero, List.getElem?_cons_succ]; rfl) (by kernel_rfl) (by kernel_rfl) (by kernel_rfl) (by exact fun _ _ _ h => h) (Or.inl ⟨by rfl, ?_⟩) (by assumption) ?_
              rotate_left
              · intro w hSw; (try dsimp only at hSw); go_simp; (try with_reducible rfl)
              try simp only [Act.put, List.setIfInBounds_toArray, List.set_cons_zero, List.set_cons_succ]
              refine wpAnyH_take (i := 4) (v := ?_) (by simp only [List.getElem?_toArray, List.getElem?_cons_zero, List.getElem?_cons_succ]; rfl) (by kernel_rfl) (by kernel_rfl) (by kernel_rfl) (by exact fun _ _ _ h => h) (Or.inl ⟨by rfl, ?_⟩) (by assumption) ?_
              rotate_left
              · intro w hSw; (try dsimp only at hSw); go_simp; (try with_reducible rfl)
              try simp only [Act.put, List.setIfInBounds_toArray, List.set_cons_zero, List.set_cons_succ]
              refine wpAnyH_take (i := 5) (v := ?_) (by simp only [List.getElem?_toArray, List.getElem?_cons_zero, List.getElem?_cons_succ]; rfl) (by kernel_rfl) (by kernel_rfl) (by kernel_rfl) (by exact fun _ _ _ h => h) (Or.inl ⟨by rfl, ?_⟩) (by assumption) ?_
              rotate_left
              · intro w hSw; (try dsimp only at hSw); go_simp; (try with_reducible rfl)
              try simp only [Act.put, List.setIfInBounds_toArray, List.set_cons_zero, List.set_cons_succ]
              refine wpAnyH_take (i := 6) (v := ?_) (by simp only [List.getElem?_toArray, List.getElem?_cons_zero, List.getElem?_cons_succ]; rfl) (by kernel_rfl) (by kernel_rfl) (by kernel_rfl) (by exact fun _ _ _ h => h) (Or.inl ⟨by rfl, ?_⟩) (by assumption) ?_
              rotate_left
              · intro w hSw; (try dsimp only at hSw); go_simp; (try with_reducible rfl)
              try simp only [Act.put, List.setIfInBounds_toArray, List.set_cons_zero, List.set_cons_succ]
              refine wpAnyH_take (i := 7) (v := ?_) (by simp only [List.getElem?_toArray, List.getElem?_cons_zero, List.getElem?_cons_succ]; rfl) (by kernel_rfl) (by kernel_rfl) (by kernel_rfl) (by exact fun _ _ _ h => h) (Or.inl ⟨by rfl, ?_⟩) (by assumption) ?_
              rotate_left
              · intro w hSw; (try dsimp only at hSw); go_simp; (try with_reducible rfl)
              try simp only [Act.put, List.setIfInBounds_toArray, List.set_cons_zero, List.set_cons_succ]
              refine wpAnyH_take (i := 8) (v := ?_) (by simp only [List.getElem?_toArray, List.getElem?_cons_zero, List.getElem?_cons_succ]; rfl) (by kernel_rfl) (by kernel_rfl) (by kernel_rfl) (by exact fun _ _ _ h => h) (Or.inl ⟨by rfl, ?_⟩) (by assumption) ?_
              rotate_left
              · intro w hSw; (try dsimp only at hSw); go_simp; (try with_reducible rfl)
              try simp only [Act.put, List.setIfInBounds_toArray, List.set_cons_zero, List.set_cons_succ]
              refine wpAnyH_take (i := 9) (v := ?_) (by simp only [List.getElem?_toArray, List.getElem?_cons_zero, List.getElem?_cons_succ]; rfl) (by kernel_rfl) (by kernel_rfl) (by kernel_rfl) (by exact fun _ _ _ h => h) (Or.inl ⟨by rfl, ?_⟩) (by assumption) ?_
              rotate_left
              · intro w hSw; (try dsimp only at hSw); go_simp; (try with_reducible rfl)
              try simp only [Act.put, List.setIfInBounds_toArray, List.set_cons_zero, List.set_cons_succ]
              refine wpAnyH_ready (rs := [10]) (by kernel_rfl) (by simp) ?_
              refine AllReadyH.cons (by simp only [List.getElem?_toArray, List.getElem?_cons_zero, List.getElem?_cons_succ]; rfl) (fun K hK => ?_) AllReadyH.nil
              go_simp
              refine hK.out _ _ (hd2) (fun hHeld => ?_)
              clear hK K
              try simp only [Act.put, List.setIfInBounds_toArray, List.set_cons_zero, List.set_cons_succ]
              refine wpAnyH_take (i := 11) (v := ?_) (by simp only [List.getElem?_toArray, List.getElem?_cons_zero, List.getElem?_cons_succ]; rfl) (by kernel_rfl) (by kernel_rfl) (by kernel_rfl) (by exact fun _ _ _ h => h) (Or.inl ⟨by rfl, ?_⟩) (by assumption) ?_
              rotate_left
              · intro w hSw; (try dsimp only at hSw); go_simp; (try with_reducible rfl)
              try simp only [Act.put, List.setIfInBounds_toArray, List.set_cons_zero, List.set_cons_succ]
              refine wpAnyH_take (i := 12) (v := ?_) (by simp only [List.getElem?_toArray, List.getElem?_cons_zero, List.getElem?_cons_succ]; rfl) (by kernel_rfl) (by kernel_rfl) (by kernel_rfl) (by exact fun _ _ _ h => h) (Or.inl ⟨by rfl, ?_⟩) (by assumption) ?_
              rotate_left
              · intro w hSw; (try dsimp only at hSw); go_simp; (try with_reducible rfl)
              try simp only [Act.put, List.setIfInBounds_toArray, List.set_cons_zero, List.set_cons_succ]
              refine wpAnyH_done (by kernel_rfl) ?_ _
              go_wp2_with fail
              exact bodyPost_ret (v := .tuple #[.agg #[.int .u8 (kd.toNat : Int), .slice AB n (c - 6)], .int .i64 (n10 : Int), .int .i64 0]) (by simp [results, Tryd.results18, go_sem, s1, t0]) rfl (.inr ⟨HE0.out, ⟨AB, c - 6, by rw [HN.out, HKd.out, ← HSz.out.2], by rw [HN.out]; have := HSz.out; omega, by rw [HN.out]; exact HrB.out⟩, HFin.out⟩)
end Go.Proofs.YtpmmbbkomikceaaDoor
