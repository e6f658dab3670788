/- The document's own table of epochs. -/
import Derived.Test.YtcklafaoijodbaaRowG
import Derived.Test.YtcklafaoijodbaaPass
import Derived.Test.YtcklafaoijodbaaNum
import Derived.LoopTactic
import Derived.Lib.Hide
import Derived.Lib.OthersKept
import Derived.Deep.RegionHeld3
import Derived.Deep.QuietTactic
import Derived.BigQuiet
set_option linter.unusedVariables false
namespace Go.Proofs.Ytcklafaoijodbaa
open Go Go.RowKit

theorem typI : TypG Try.prog 52 3 layI := by
  refine ⟨by kernel_rfl, ?_⟩
  have h : (Try.prog.info? 3).map (fun i => (i.zero, i.size, i.bytes)) = some (some (.int .i64 0), 1, 8) := by kernel_rfl
  cases hi : Try.prog.info? 3 with
  | none => rw [hi] at h; cases h
  | some i =>
    rw [hi] at h
    simp only [Option.map_some, Option.some.injEq, Prod.mk.injEq] at h
    exact ⟨i, _, rfl, h.1, h.2.1, by rw [h.2.2]; decide, rfl⟩
/-- The table: the global epoch, of each session its epoch, or -1. -/
structure RefT (w : World) (B N : Nat) (vI : Value) (gl : Int) (ins : List Int) : Prop where
  cell : w.heap[N]? = some (.cells #[.int .i64 gl, vI] 54 (0, 0))
  hB : B ≤ N
  row : layI.Row 3 w B vI ins.length ins
  nI : vI.ownBlock ≠ some N
def footT (N : Nat) (vI : Value) : Nat → Prop := fun k => k = N ∨ vI.ownBlock = some k
theorem RefT.lt {w : World} {B N : Nat} {vI : Value} {gl : Int} {ins : List Int} (h : RefT w B N vI gl ins) : N < w.heap.size := (Array.getElem?_eq_some_iff.1 h.cell).1
theorem RefT.foot_lt {w : World} {B N : Nat} {vI : Value} {gl : Int} {ins : List Int} (h : RefT w B N vI gl ins) : ∀ k, footT N vI k → B ≤ k ∧ k < w.heap.size := by
  intro k hk
  rcases hk with rfl | hk
  · exact ⟨h.hB, h.lt⟩
  · exact h.row.lt k hk
theorem RefT.only {w w' : World} {S : Nat → Prop} {B N : Nat} {vI : Value} {gl : Int} {ins : List Int} (h : RefT w B N vI gl ins) (ho : Only S w w') (hS : ∀ k, footT N vI k → ¬ S k) : RefT w' B N vI gl ins :=
  ⟨(ho.block N h.lt (hS N (.inl rfl))).trans h.cell, h.hB, h.row.only ho (fun g hg => hS g (.inr hg)), h.nI⟩
theorem RefT.below {w w' : World} {B N : Nat} {vI : Value} {gl : Int} {ins : List Int} (h : RefT w B N vI gl ins) (hb : Below w.heap.size w w') : RefT w' B N vI gl ins := h.only (S := NoB) (Below.only hb) (fun _ _ h => h)
theorem RefT.cells {w : World} {B N : Nat} {vI : Value} {gl : Int} {ins : List Int} (h : RefT w B N vI gl ins) :
    w.cell? { block := N, off := 0 } = some (.int .i64 gl) ∧ w.cell? { block := N, off := 1 } = some vI ∧ w.frozen? { block := N, off := 0 } = false ∧ w.frozen? { block := N, off := 1 } = false := by
  have hc := h.cell
  refine ⟨?_, ?_, ?_, ?_⟩
  · rw [cell_of_row w N 0 _ _ (0, 0) hc]; rfl
  · rw [cell_of_row w N 1 _ _ (0, 0) hc]; rfl
  all_goals exact frozen_of_row w N _ _ _ hc
/-- A session's epoch is written. -/
theorem RefT.set {w : World} {B N g c : Nat} {gl : Int} {ins : List Int} (h : RefT w B N (.slice (some ⟨g, 0, none⟩) ins.length c) gl ins) (k : Nat) (x : Int) :
    RefT (w.setCell ⟨g, k, none⟩ (.int .i64 x)) B N (.slice (some ⟨g, 0, none⟩) ins.length c) gl (ins.set k x) ∧ Only (footT N (.slice (some ⟨g, 0, none⟩) ins.length c)) w (w.setCell ⟨g, k, none⟩ (.int .i64 x)) := by
  obtain ⟨h1, h2⟩ := layI_set (k := k) h.row x
  have hg : g ≠ N := fun e => h.nI (by rw [← e]; rfl)
  refine ⟨⟨(h2.block N h.lt (fun e => hg e.symm)).trans h.cell, h.hB, by rw [List.length_set]; exact h1, h.nI⟩, h2.mono (fun b hb => .inr (by rw [hb]; rfl))⟩
theorem add_at (g k : Nat) : (⟨g, 0, none⟩ : Addr).add k = ⟨g, k, none⟩ := by unfold Addr.add; split <;> simp_all
theorem RefT.setAt {w : World} {B N c : Nat} {ad : Addr} {gl : Int} {ins : List Int} (h : RefT w B N (.slice (some ad) ins.length c) gl ins) (e : ad = ⟨ad.block, 0, none⟩) (k : Nat) (x : Int) :
    w.frozen? (ad.add k) = false ∧ RefT (w.setCell (ad.add k) (.int .i64 x)) B N (.slice (some ad) ins.length c) gl (ins.set k x) ∧ Only (footT N (.slice (some ad) ins.length c)) w (w.setCell (ad.add k) (.int .i64 x)) := by
  obtain ⟨g, rfl⟩ : ∃ g, ad = ⟨g, 0, none⟩ := ⟨_, e⟩
  rw [add_at]
  exact ⟨World.ownsRow.frozenAt (size := layI.size) h.row k, (h.set k x).1, (h.set k x).2⟩
/-- The global epoch is written. -/
theorem RefT.up {w : World} {B N : Nat} {vI : Value} {gl : Int} {ins : List Int} (h : RefT w B N vI gl ins) (x : Int) :
    RefT (w.setCell ⟨N, 0, none⟩ (.int .i64 x)) B N vI x ins ∧ Only (footT N vI) w (w.setCell ⟨N, 0, none⟩ (.int .i64 x)) := by
  have ho : Only (fun b => b = N) w (w.setCell ⟨N, 0, none⟩ (.int .i64 x)) := Only.setCell (S := fun b => b = N) (p := ⟨N, 0, none⟩) (Only.refl _ w) (.inl rfl) _
  exact ⟨⟨heap_setCell_same w N 0 _ _ _ h.cell, h.hB, h.row.only ho (fun g hg e => h.nI (by rw [hg, e])), h.nI⟩, ho.mono (fun b hb => .inl hb)⟩

def notIn (ins : List Int) (s : Int) : Prop := s < 0 ∨ (ins.length : Int) ≤ s
instance (ins : List Int) (s : Int) : Decidable (notIn ins s) := by unfold notIn; infer_instance
/-- Number, error, the row behind it. -/
def enterR (gl : Int) (ins : List Int) (s : Int) : Int × Int × List Int :=
  if notIn ins s then (0, 2, ins) else if 0 ≤ ins.getD s.toNat default then (0, 31, ins) else (gl, 0, ins.set s.toNat gl)
def leaveR (gl : Int) (ins : List Int) (s : Int) (again : Bool) : Int × Int × List Int :=
  if notIn ins s then (0, 2, ins) else if ins.getD s.toNat default < 0 then (0, 51, ins) else if again then (gl, 0, ins.set s.toNat gl) else (0, 0, ins.set s.toNat (-1))
def leastStep (m x : Int) : Int := if 0 ≤ x ∧ x < m then x else m
def leastR (gl : Int) (ins : List Int) : Int := ins.foldl leastStep gl
def advR (gl : Int) (ins : List Int) : Int × Int × Int := if gl = 2147483647 then (0, 40, gl) else if leastR gl ins ≠ gl then (0, 60, gl) else (gl + 1, 0, gl + 1)
theorem leastR_take (gl : Int) (ins : List Int) (k : Nat) (h : k < ins.length) : leastR gl (ins.take (k + 1)) = leastStep (leastR gl (ins.take k)) (ins.getD k default) := by
  unfold leastR
  rw [List.take_succ_eq_append_getElem h, List.foldl_append]
  simp [List.getD_eq_getElem?_getD, List.getElem?_eq_getElem h]
set_option maxHeartbeats 8000000 in
set_option maxRecDepth 100000 in
theorem refEnter_any (s : Int) (w : World) (B N : Nat) (vI : Value) (gl : Int) (ins : List Int) (h : RefT w B N vI gl ins) (hl : ins.length ≤ 1000) (hs : I64 s) :
    Calls Try.prog 10 #[.pointer (some ⟨N, 0, none⟩), .int .i64 s] w fun e w' => e = .returned (.tuple #[.int .i64 (enterR gl ins s).1, .int .i64 (enterR gl ins s).2.1]) ∧ RefT w' B N vI gl (enterR gl ins s).2.2 ∧ Only (footT N vI) w w' := by
  have HA := Lib.hid h
  have HE := Lib.hid (show enterR gl ins s = if notIn ins s then (0, 2, ins) else if 0 ≤ ins.getD s.toNat default then (0, 31, ins) else (gl, 0, ins.set s.toNat gl) from rfl)
  obtain ⟨c0, c1, f0, f1⟩ := h.cells
  obtain ⟨AI, cI, eI, hcI, hrd, hI, hI0⟩ := h.row.rd
  rw [eI] at c1
  have HeI := Lib.hid eI
  clear h hI0 eI
  obtain ⟨hs0, hs1⟩ := hs
  go_enter Try.func10, Try.ntmps10
  by_cases h0 : s < 0
  · go_wp2_with fail
    exact bodyPost_ret (v := .tuple #[.int .i64 0, .int .i64 2]) (by simp [results, Try.results10, go_sem]) rfl (by rw [HE.out, if_pos (.inl h0)]; exact ⟨rfl, HA.out, Only.refl _ _⟩)
  · by_cases h1 : (ins.length : Int) ≤ s
    · go_wp2_with fail
      exact bodyPost_ret (v := .tuple #[.int .i64 0, .int .i64 2]) (by simp [results, Try.results10, go_sem]) rfl (by rw [HE.out, if_pos (.inr h1)]; exact ⟨rfl, HA.out, Only.refl _ _⟩)
    · obtain ⟨k, rfl⟩ : ∃ k : Nat, s = (k : Int) := ⟨s.toNat, by omega⟩
      have hk : k < ins.length := by omega
      have hk2 : (k : Int) < (ins.length : Int) := by omega
      have hnot : ¬ notIn ins (k : Int) := fun h => h.elim (fun h => by omega) (fun h => by omega)
      obtain ⟨ad, rfl, hbl, hcell⟩ := layI_at hrd hk
      obtain ⟨ead, hown, _, _⟩ := hI ad rfl
      have HEad := Lib.hid ead
      obtain ⟨x, hx⟩ : ∃ x, ins.getD k default = x := ⟨_, rfl⟩
      rw [hx] at hcell
      have HX := Lib.hid hx
      have HN := Lib.hid hnot
      clear hx hnot hI hrd ead h0 h1 hown
      by_cases hx0 : 0 ≤ x
      · go_wp2_with fail
        exact bodyPost_ret (v := .tuple #[.int .i64 0, .int .i64 31]) (by simp [results, Try.results10, go_sem]) rfl (by rw [HE.out, if_neg HN.out, Int.toNat_natCast, if_pos (by rw [HX.out]; exact hx0)]; exact ⟨rfl, HA.out, Only.refl _ _⟩)
      · have HA1 := HA.out
        rw [HeI.out] at HA1
        obtain ⟨hfz, hset, hon⟩ := HA1.setAt HEad.out k gl
        obtain ⟨d0, d1, _, _⟩ := hset.cells
        have HSet := Lib.hid hset
        have HOn := Lib.hid hon
        clear HA1 hset hon
        go_wp2_with fail
        refine wp_region_held_drew (S := (fun w' => w'.cell? { block := N, off := 0 } = some (.int .i64 gl) ∧ w'.cell? { block := N, off := 1 } = some (.slice (some ad) ins.length cI))) (by kernel_rfl) ⟨c0, c1⟩ (fun hHeld => ?_)
        refine wpAnyH_take (i := 0) (v := ?_) (by simp only [List.getElem?_toArray, List.getElem?_cons_zero]; rfl) (by kernel_rfl) (by kernel_rfl) (by kernel_rfl) (by exact fun _ _ _ h => h) (Or.inl ⟨by rfl, ?_⟩) (by assumption) ?_
        rotate_left
        · intro w hSw; (try dsimp only at hSw); go_simp; (try with_reducible rfl)
        try simp only [Act.put, List.setIfInBounds_toArray, List.set_cons_zero, List.set_cons_succ]
        refine wpAnyH_take (i := 1) (v := ?_) (by simp only [List.getElem?_toArray, List.getElem?_cons_zero, List.getElem?_cons_succ]; rfl) (by kernel_rfl) (by kernel_rfl) (by kernel_rfl) (by exact fun _ _ _ h => h) (Or.inl ⟨by rfl, ?_⟩) (by assumption) ?_
        rotate_left
        · intro w hSw; (try dsimp only at hSw); go_simp; (try with_reducible rfl)
        try simp only [Act.put, List.setIfInBounds_toArray, List.set_cons_zero, List.set_cons_succ]
        refine wpAnyH_take (i := 2) (v := ?_) (by simp only [List.getElem?_toArray, List.getElem?_cons_zero, List.getElem?_cons_succ]; rfl) (by kernel_rfl) (by kernel_rfl) (by kernel_rfl) (by exact fun _ _ _ h => h) (Or.inl ⟨by rfl, ?_⟩) (by assumption) ?_
        rotate_left
        · intro w hSw; (try dsimp only at hSw); go_simp; (try with_reducible rfl)
        try simp only [Act.put, List.setIfInBounds_toArray, List.set_cons_zero, List.set_cons_succ]
        refine wpAnyH_take (i := 3) (v := ?_) (by simp only [List.getElem?_toArray, List.getElem?_cons_zero, List.getElem?_cons_succ]; rfl) (by kernel_rfl) (by kernel_rfl) (by kernel_rfl) (by exact fun _ _ _ h => h) (Or.inl ⟨by rfl, ?_⟩) (by assumption) ?_
        rotate_left
        · intro w hSw; (try dsimp only at hSw); go_simp; (try with_reducible rfl)
        try simp only [Act.put, List.setIfInBounds_toArray, List.set_cons_zero, List.set_cons_succ]
        refine wpAnyH_take (i := 4) (v := ?_) (by simp only [List.getElem?_toArray, List.getElem?_cons_zero, List.getElem?_cons_succ]; rfl) (by kernel_rfl) (by kernel_rfl) (by kernel_rfl) (by exact fun _ _ _ h => h) (Or.inl ⟨by rfl, ?_⟩) (by assumption) ?_
        rotate_left
        · intro w hSw; (try dsimp only at hSw); go_simp; (try with_reducible rfl)
        try simp only [Act.put, List.setIfInBounds_toArray, List.set_cons_zero, List.set_cons_succ]
        refine wpAnyH_take (i := 5) (v := ?_) (by simp only [List.getElem?_toArray, List.getElem?_cons_zero, List.getElem?_cons_succ]; rfl) (by kernel_rfl) (by kernel_rfl) (by kernel_rfl) (by exact fun _ _ _ h => h) (Or.inl ⟨by rfl, ?_⟩) (by assumption) ?_
        rotate_left
        · intro w hSw; (try dsimp only at hSw); go_simp; (try with_reducible rfl)
        try simp only [Act.put, List.setIfInBounds_toArray, List.set_cons_zero, List.set_cons_succ]
        refine wpAnyH_take (i := 6) (v := ?_) (by simp only [List.getElem?_toArray, List.getElem?_cons_zero, List.getElem?_cons_succ]; rfl) (by kernel_rfl) (by kernel_rfl) (by kernel_rfl) (by exact fun _ _ _ h => h) (Or.inl ⟨by rfl, ?_⟩) (by assumption) ?_
        rotate_left
        · intro w hSw; (try dsimp only at hSw); go_simp; (try with_reducible rfl)
        try simp only [Act.put, List.setIfInBounds_toArray, List.set_cons_zero, List.set_cons_succ]
        refine wpAnyH_take (i := 7) (v := ?_) (by simp only [List.getElem?_toArray, List.getElem?_cons_zero, List.getElem?_cons_succ]; rfl) (by kernel_rfl) (by kernel_rfl) (by kernel_rfl) (by exact fun _ _ _ h => h) (Or.inl ⟨by rfl, ?_⟩) (by assumption) ?_
        rotate_left
        · intro w hSw; (try dsimp only at hSw); go_simp; (try with_reducible rfl)
        try simp only [Act.put, List.setIfInBounds_toArray, List.set_cons_zero, List.set_cons_succ]
        refine wpAnyH_take (i := 8) (v := ?_) (by simp only [List.getElem?_toArray, List.getElem?_cons_zero, List.getElem?_cons_succ]; rfl) (by kernel_rfl) (by kernel_rfl) (by kernel_rfl) (by exact fun _ _ _ h => h) (Or.inl ⟨by rfl, ?_⟩) (by assumption) ?_
        rotate_left
        · intro w hSw; (try dsimp only at hSw); go_simp; (try with_reducible rfl)
        try simp only [Act.put, List.setIfInBounds_toArray, List.set_cons_zero, List.set_cons_succ]
        refine wpAnyH_take (i := 9) (v := ?_) (by simp only [List.getElem?_toArray, List.getElem?_cons_zero, List.getElem?_cons_succ]; rfl) (by kernel_rfl) (by kernel_rfl) (by kernel_rfl) (by exact fun _ _ _ h => h) (Or.inl ⟨by rfl, ?_⟩) (by assumption) ?_
        rotate_left
        · intro w hSw; (try dsimp only at hSw); go_simp; (try with_reducible rfl)
        try simp only [Act.put, List.setIfInBounds_toArray, List.set_cons_zero, List.set_cons_succ]
        refine wpAnyH_ready (rs := [10]) (by kernel_rfl) (by simp) ?_
        refine AllReadyH.cons (by simp only [List.getElem?_toArray, List.getElem?_cons_zero, List.getElem?_cons_succ]; rfl) (fun K hK => ?_) AllReadyH.nil
        go_simp
        refine hK.out _ _ (⟨d0, d1⟩) (fun hHeld => ?_)
        clear hK K
        try simp only [Act.put, List.setIfInBounds_toArray, List.set_cons_zero, List.set_cons_succ]
        refine wpAnyH_done (by kernel_rfl) ?_ _
        go_wp2_with fail
        exact bodyPost_ret (v := .tuple #[.int .i64 gl, .int .i64 0]) (by simp [results, Try.results10, go_sem]) rfl (by
          rw [HE.out, if_neg HN.out, Int.toNat_natCast, if_neg (by rw [HX.out]; omega)]
          refine ⟨rfl, ?_, ?_⟩
          · rw [HeI.out]
            exact HSet.out.below (Below.refl _ _).drew
          · rw [HeI.out]
            exact HOn.out.drew)
set_option maxHeartbeats 8000000 in
set_option maxRecDepth 100000 in
theorem refLeave_any (s : Int) (again : Bool) (w : World) (B N : Nat) (vI : Value) (gl : Int) (ins : List Int) (h : RefT w B N vI gl ins) (hl : ins.length ≤ 1000) (hs : I64 s) :
    Calls Try.prog 12 #[.pointer (some ⟨N, 0, none⟩), .int .i64 s, .bool again] w fun e w' => e = .returned (.tuple #[.int .i64 (leaveR gl ins s again).1, .int .i64 (leaveR gl ins s again).2.1]) ∧ RefT w' B N vI gl (leaveR gl ins s again).2.2 ∧ Only (footT N vI) w w' := by
  have HA := Lib.hid h
  have HE := Lib.hid (show leaveR gl ins s again = if notIn ins s then (0, 2, ins) else if ins.getD s.toNat default < 0 then (0, 51, ins) else if again then (gl, 0, ins.set s.toNat gl) else (0, 0, ins.set s.toNat (-1)) from rfl)
  obtain ⟨c0, c1, f0, f1⟩ := h.cells
  obtain ⟨AI, cI, eI, hcI, hrd, hI, hI0⟩ := h.row.rd
  rw [eI] at c1
  have HeI := Lib.hid eI
  clear h hI0 eI
  obtain ⟨hs0, hs1⟩ := hs
  go_enter Try.func12, Try.ntmps12
  by_cases h0 : s < 0
  · go_wp2_with fail
    exact bodyPost_ret (v := .tuple #[.int .i64 0, .int .i64 2]) (by simp [results, Try.results12, go_sem]) rfl (by rw [HE.out, if_pos (.inl h0)]; exact ⟨rfl, HA.out, Only.refl _ _⟩)
  · by_cases h1 : (ins.length : Int) ≤ s
    · go_wp2_with fail
      exact bodyPost_ret (v := .tuple #[.int .i64 0, .int .i64 2]) (by simp [results, Try.results12, go_sem]) rfl (by rw [HE.out, if_pos (.inr h1)]; exact ⟨rfl, HA.out, Only.refl _ _⟩)
    · obtain ⟨k, rfl⟩ : ∃ k : Nat, s = (k : Int) := ⟨s.toNat, by omega⟩
      have hk : k < ins.length := by omega
      have hk2 : (k : Int) < (ins.length : Int) := by omega
      have hnot : ¬ notIn ins (k : Int) := fun h => h.elim (fun h => by omega) (fun h => by omega)
      obtain ⟨ad, rfl, hbl, hcell⟩ := layI_at hrd hk
      obtain ⟨ead, hown, _, _⟩ := hI ad rfl
      have HEad := Lib.hid ead
      obtain ⟨x, hx⟩ : ∃ x, ins.getD k default = x := ⟨_, rfl⟩
      rw [hx] at hcell
      have HX := Lib.hid hx
      have HN := Lib.hid hnot
      clear hx hnot hI hrd ead h0 h1 hown
      by_cases hx0 : x < 0
      · go_wp2_with fail
        exact bodyPost_ret (v := .tuple #[.int .i64 0, .int .i64 51]) (by simp [results, Try.results12, go_sem]) rfl (by rw [HE.out, if_neg HN.out, Int.toNat_natCast, if_pos (by rw [HX.out]; exact hx0)]; exact ⟨rfl, HA.out, Only.refl _ _⟩)
      · have HA1 := HA.out
        rw [HeI.out] at HA1
        obtain ⟨hfz, hset, hon⟩ := HA1.setAt HEad.out k (-1)
        obtain ⟨d0, d1, _, _⟩ := hset.cells
        have hlen : (ins.set k (-1)).length = ins.length := List.length_set
        have hset2 : RefT (w.setCell (ad.add k) (.int .i64 (-1))) B N (.slice (some ad) (ins.set k (-1)).length cI) gl (ins.set k (-1)) := by rw [hlen]; exact hset
        obtain ⟨hfz2, hset3, hon3⟩ := hset2.setAt HEad.out k gl
        rw [hlen, List.set_set] at hset3
        rw [hlen] at hon3
        obtain ⟨g0, g1, _, _⟩ := hset3.cells
        have HSet := Lib.hid hset
        have HOn := Lib.hid hon
        have HSet3 := Lib.hid hset3
        have HOn3 := Lib.hid hon3
        clear HA1 hset hon hset2 hset3 hon3 hlen
        cases again with
        | false =>
          go_wp2_with fail
          exact bodyPost_ret (v := .tuple #[.int .i64 0, .int .i64 0]) (by simp [results, Try.results12, go_sem]) rfl (by
            rw [HE.out, if_neg HN.out, Int.toNat_natCast, if_neg (by rw [HX.out]; omega)]
            refine ⟨rfl, ?_, ?_⟩
            · rw [HeI.out]
              exact HSet.out
            · rw [HeI.out]
              exact HOn.out)
        | true =>
          go_wp2_with fail
          refine wp_region_held_drew (S := (fun w' => w'.cell? { block := N, off := 0 } = some (.int .i64 gl) ∧ w'.cell? { block := N, off := 1 } = some (.slice (some ad) ins.length cI))) (by kernel_rfl) ⟨d0, d1⟩ (fun hHeld => ?_)
          refine wpAnyH_take (i := 0) (v := ?_) (by simp only [List.getElem?_toArray, List.getElem?_cons_zero]; rfl) (by kernel_rfl) (by kernel_rfl) (by kernel_rfl) (by exact fun _ _ _ h => h) (Or.inl ⟨by rfl, ?_⟩) (by assumption) ?_
          rotate_left
          · intro w hSw; (try dsimp only at hSw); go_simp; (try with_reducible rfl)
          try simp only [Act.put, List.setIfInBounds_toArray, List.set_cons_zero, List.set_cons_succ]
          refine wpAnyH_take (i := 1) (v := ?_) (by simp only [List.getElem?_toArray, List.getElem?_cons_zero, List.getElem?_cons_succ]; rfl) (by kernel_rfl) (by kernel_rfl) (by kernel_rfl) (by exact fun _ _ _ h => h) (Or.inl ⟨by rfl, ?_⟩) (by assumption) ?_
          rotate_left
          · intro w hSw; (try dsimp only at hSw); go_simp; (try with_reducible rfl)
          try simp only [Act.put, List.setIfInBounds_toArray, List.set_cons_zero, List.set_cons_succ]
          refine wpAnyH_take (i := 2) (v := ?_) (by simp only [List.getElem?_toArray, List.getElem?_cons_zero, List.getElem?_cons_succ]; rfl) (by kernel_rfl) (by kernel_rfl) (by kernel_rfl) (by exact fun _ _ _ h => h) (Or.inl ⟨by rfl, ?_⟩) (by assumption) ?_
          rotate_left
          · intro w hSw; (try dsimp only at hSw); go_simp; (try with_reducible rfl)
          try simp only [Act.put, List.setIfInBounds_toArray, List.set_cons_zero, List.set_cons_succ]
          refine wpAnyH_take (i := 3) (v := ?_) (by simp only [List.getElem?_toArray, List.getElem?_cons_zero, List.getElem?_cons_succ]; rfl) (by kernel_rfl) (by kernel_rfl) (by kernel_rfl) (by exact fun _ _ _ h => h) (Or.inl ⟨by rfl, ?_⟩) (by assumption) ?_
          rotate_left
          · intro w hSw; (try dsimp only at hSw); go_simp; (try with_reducible rfl)
          try simp only [Act.put, List.setIfInBounds_toArray, List.set_cons_zero, List.set_cons_succ]
          refine wpAnyH_take (i := 4) (v := ?_) (by simp only [List.getElem?_toArray, List.getElem?_cons_zero, List.getElem?_cons_succ]; rfl) (by kernel_rfl) (by kernel_rfl) (by kernel_rfl) (by exact fun _ _ _ h => h) (Or.inl ⟨by rfl, ?_⟩) (by assumption) ?_
          rotate_left
          · intro w hSw; (try dsimp only at hSw); go_simp; (try with_reducible rfl)
          try simp only [Act.put, List.setIfInBounds_toArray, List.set_cons_zero, List.set_cons_succ]
          refine wpAnyH_take (i := 5) (v := ?_) (by simp only [List.getElem?_toArray, List.getElem?_cons_zero, List.getElem?_cons_succ]; rfl) (by kernel_rfl) (by kernel_rfl) (by kernel_rfl) (by exact fun _ _ _ h => h) (Or.inl ⟨by rfl, ?_⟩) (by assumption) ?_
          rotate_left
          · intro w hSw; (try dsimp only at hSw); go_simp; (try with_reducible rfl)
          try simp only [Act.put, List.setIfInBounds_toArray, List.set_cons_zero, List.set_cons_succ]
          refine wpAnyH_take (i := 6) (v := ?_) (by simp only [List.getElem?_toArray, List.getElem?_cons_zero, List.getElem?_cons_succ]; rfl) (by kernel_rfl) (by kernel_rfl) (by kernel_rfl) (by exact fun _ _ _ h => h) (Or.inl ⟨by rfl, ?_⟩) (by assumption) ?_
          rotate_left
          · intro w hSw; (try dsimp only at hSw); go_simp; (try with_reducible rfl)
          try simp only [Act.put, List.setIfInBounds_toArray, List.set_cons_zero, List.set_cons_succ]
          refine wpAnyH_take (i := 7) (v := ?_) (by simp only [List.getElem?_toArray, List.getElem?_cons_zero, List.getElem?_cons_succ]; rfl) (by kernel_rfl) (by kernel_rfl) (by kernel_rfl) (by exact fun _ _ _ h => h) (Or.inl ⟨by rfl, ?_⟩) (by assumption) ?_
          rotate_left
          · intro w hSw; (try dsimp only at hSw); go_simp; (try with_reducible rfl)
          try simp only [Act.put, List.setIfInBounds_toArray, List.set_cons_zero, List.set_cons_succ]
          refine wpAnyH_take (i := 8) (v := ?_) (by simp only [List.getElem?_toArray, List.getElem?_cons_zero, List.getElem?_cons_succ]; rfl) (by kernel_rfl) (by kernel_rfl) (by kernel_rfl) (by exact fun _ _ _ h => h) (Or.inl ⟨by rfl, ?_⟩) (by assumption) ?_
          rotate_left
          · intro w hSw; (try dsimp only at hSw); go_simp; (try with_reducible rfl)
          try simp only [Act.put, List.setIfInBounds_toArray, List.set_cons_zero, List.set_cons_succ]
          refine wpAnyH_take (i := 9) (v := ?_) (by simp only [List.getElem?_toArray, List.getElem?_cons_zero, List.getElem?_cons_succ]; rfl) (by kernel_rfl) (by kernel_rfl) (by kernel_rfl) (by exact fun _ _ _ h => h) (Or.inl ⟨by rfl, ?_⟩) (by assumption) ?_
          rotate_left
          · intro w hSw; (try dsimp only at hSw); go_simp; (try with_reducible rfl)
          try simp only [Act.put, List.setIfInBounds_toArray, List.set_cons_zero, List.set_cons_succ]
          refine wpAnyH_ready (rs := [10]) (by kernel_rfl) (by simp) ?_
          refine AllReadyH.cons (by simp only [List.getElem?_toArray, List.getElem?_cons_zero, List.getElem?_cons_succ]; rfl) (fun K hK => ?_) AllReadyH.nil
          go_simp
          refine hK.out _ _ (⟨g0, g1⟩) (fun hHeld => ?_)
          clear hK K
          try simp only [Act.put, List.setIfInBounds_toArray, List.set_cons_zero, List.set_cons_succ]
          refine wpAnyH_done (by kernel_rfl) ?_ _
          go_wp2_with fail
          exact bodyPost_ret (v := .tuple #[.int .i64 gl, .int .i64 0]) (by simp [results, Try.results12, go_sem]) rfl (by
            rw [HE.out, if_neg HN.out, Int.toNat_natCast, if_neg (by rw [HX.out]; omega)]
            refine ⟨rfl, ?_, ?_⟩
            · rw [HeI.out]
              exact HSet3.out.below (Below.refl _ _).drew
            · rw [HeI.out]
              exact (HOn.out.trans HOn3.out (fun x hx => .inl hx)).drew)
set_option maxHeartbeats 8000000 in
set_option maxRecDepth 100000 in
theorem refLeast_any (w : World) (B N : Nat) (vI : Value) (gl : Int) (ins : List Int) (h : RefT w B N vI gl ins) (hl : ins.length ≤ 1000) :
    Calls Try.prog 22 #[.pointer (some ⟨N, 0, none⟩)] w fun e w' => e = .returned (.int .i64 (leastR gl ins)) ∧ Below w.heap.size w w' := by
  have HA := Lib.hid h
  obtain ⟨c0, c1, f0, f1⟩ := h.cells
  clear h
  go_enter Try.func22, Try.ntmps22
  go_wp2_with fail
  go_loopw [3, 4] (fun t i wr => ∃ (k : Nat) (m : Int), k ≤ ins.length ∧ i = .int .i64 (k : Nat) ∧ t = .int .i64 m ∧ m = leastR gl (ins.take k) ∧ Below w.heap.size w wr) (fun _ i _ => ins.length - (intOf i).toNat)
  case atStart => exact ⟨0, gl, Nat.zero_le _, rfl, rfl, rfl, Below.refl _ _⟩
  case round =>
    clear c0 c1 f0 f1
    obtain ⟨k, m, hk, rfl, rfl, hm, hbw⟩ := hrel
    have hA := HA.out.below hbw
    obtain ⟨c0, c1, f0, f1⟩ := hA.cells
    obtain ⟨AI, cI, eI, hcI, hrd, hI, hI0⟩ := hA.row.rd
    rw [eI] at c1
    clear hI hI0 eI hA
    by_cases hlt : k < ins.length
    · have hlt2 : (k : Int) < (ins.length : Int) := by omega
      have hmt := leastR_take gl ins k hlt
      obtain ⟨ad, rfl, hbl, hcell⟩ := layI_at hrd hlt
      obtain ⟨x, hx⟩ : ∃ x, ins.getD k default = x := ⟨_, rfl⟩
      rw [hx] at hcell hmt
      rw [← hm] at hmt
      unfold leastStep at hmt
      have HM := Lib.hid hmt
      clear hmt hm hx hrd
      by_cases hc : 0 ≤ x ∧ x < m
      · obtain ⟨hc0, hc1⟩ := hc
        have HM2 := Lib.hid (HM.out.trans (if_pos ⟨hc0, hc1⟩))
        go_wp2_with fail
        go_roundw
        case rel => exact ⟨k + 1, x, by omega, by go_num, rfl, HM2.out.symm, hbw⟩
        case measure => simp [intOf]; omega
      · have HM2 := Lib.hid (HM.out.trans (if_neg hc))
        by_cases hc0 : 0 ≤ x
        · have hc1 : ¬ x < m := fun h => hc ⟨hc0, h⟩
          clear hc
          go_wp2_with fail
          go_roundw
          case rel => exact ⟨k + 1, m, by omega, by go_num, rfl, HM2.out.symm, hbw⟩
          case measure => simp [intOf]; omega
        · clear hc
          go_wp2_with fail
          go_roundw
          case rel => exact ⟨k + 1, m, by omega, by go_num, rfl, HM2.out.symm, hbw⟩
          case measure => simp [intOf]; omega
    · obtain rfl : k = ins.length := by omega
      rw [List.take_length] at hm
      subst hm
      clear hrd
      go_wp2_with fail
      go_ret
      exact ⟨rfl, hbw⟩
set_option maxHeartbeats 8000000 in
set_option maxRecDepth 100000 in
theorem refAdvance_any (w : World) (B N : Nat) (vI : Value) (gl : Int) (ins : List Int) (h : RefT w B N vI gl ins) (hl : ins.length ≤ 1000) (h0 : 0 ≤ gl) (h1 : gl ≤ 2147483647) :
    Calls Try.prog 15 #[.pointer (some ⟨N, 0, none⟩)] w fun e w' => e = .returned (.tuple #[.int .i64 (advR gl ins).1, .int .i64 (advR gl ins).2.1]) ∧ RefT w' B N vI (advR gl ins).2.2 ins ∧ Only (footT N vI) w w' := by
  have HA := Lib.hid h
  have HE := Lib.hid (show advR gl ins = if gl = 2147483647 then (0, 40, gl) else if leastR gl ins ≠ gl then (0, 60, gl) else (gl + 1, 0, gl + 1) from rfl)
  obtain ⟨c0, c1, f0, f1⟩ := h.cells
  clear h
  go_enter Try.func15, Try.ntmps15
  by_cases hm : gl = 2147483647
  · have HE0 := Lib.hid (HE.out.trans (if_pos hm))
    clear HE
    subst hm
    go_wp2_with fail
    exact bodyPost_ret (v := .tuple #[.int .i64 0, .int .i64 40]) (by simp [results, Try.results15, go_sem]) rfl (by rw [HE0.out]; exact ⟨rfl, HA.out, Only.refl _ _⟩)
  · have hbd : Below w.heap.size w w.drew := (Below.refl _ _).drew
    have HL := Lib.hid (refLeast_any _ _ _ _ _ _ (HA.out.below hbd) hl)
    have HD := Lib.hid hbd
    obtain ⟨m, hlm⟩ : ∃ m, leastR gl ins = m := ⟨_, rfl⟩
    rw [hlm] at HL
    have HLm := Lib.hid hlm
    clear hlm hbd
    go_wp2_with fail
    refine wp_region_held_drew (S := (fun w' => w'.cell? { block := N, off := 0 } = some (.int .i64 gl))) (by kernel_rfl) c0 (fun hHeld => ?_)
    refine wpAnyH_take (i := 0) (v := ?_) (by simp only [List.getElem?_toArray, List.getElem?_cons_zero]; rfl) (by kernel_rfl) (by kernel_rfl) (by kernel_rfl) (by exact fun _ _ _ h => h) (Or.inl ⟨by rfl, ?_⟩) (by assumption) ?_
    rotate_left
    · intro w hSw; (try dsimp only at hSw); go_simp; (try with_reducible rfl)
    try simp only [Act.put, List.setIfInBounds_toArray, List.set_cons_zero, List.set_cons_succ]
    refine wpAnyH_take (i := 2) (v := ?_) (by simp only [List.getElem?_toArray, List.getElem?_cons_zero, List.getElem?_cons_succ]; rfl) (by kernel_rfl) (by kernel_rfl) (by kernel_rfl) (by exact fun _ _ _ h => h) (Or.inl ⟨by rfl, ?_⟩) (by assumption) ?_
    rotate_left
    · intro w hSw; (try dsimp only at hSw); go_simp; (try with_reducible rfl)
    try simp only [Act.put, List.setIfInBounds_toArray, List.set_cons_zero, List.set_cons_succ]
    refine wpAnyH_take (i := 3) (v := ?_) (by simp only [List.getElem?_toArray, List.getElem?_cons_zero, List.getElem?_cons_succ]; rfl) (by kernel_rfl) (by kernel_rfl) (by kernel_rfl) (by exact fun _ _ _ h => h) (Or.inl ⟨by rfl, ?_⟩) (by assumption) ?_
    rotate_left
    · intro w hSw; (try dsimp only at hSw); go_simp; (try with_reducible rfl)
    try simp only [Act.put, List.setIfInBounds_toArray, List.set_cons_zero, List.set_cons_succ]
    refine wpAnyH_take (i := 4) (v := ?_) (by simp only [List.getElem?_toArray, List.getElem?_cons_zero, List.getElem?_cons_succ]; rfl) (by kernel_rfl) (by kernel_rfl) (by kernel_rfl) (by exact fun _ _ _ h => h) (Or.inl ⟨by rfl, ?_⟩) (by assumption) ?_
    rotate_left
    · intro w hSw; (try dsimp only at hSw); go_simp; (try with_reducible rfl)
    try simp only [Act.put, List.setIfInBounds_toArray, List.set_cons_zero, List.set_cons_succ]
    refine wpAnyH_take (i := 5) (v := ?_) (by simp only [List.getElem?_toArray, List.getElem?_cons_zero, List.getElem?_cons_succ]; rfl) (by kernel_rfl) (by kernel_rfl) (by kernel_rfl) (by exact fun _ _ _ h => h) (Or.inl ⟨by rfl, ?_⟩) (by assumption) ?_
    rotate_left
    · intro w hSw; (try dsimp only at hSw); go_simp; (try with_reducible rfl)
    try simp only [Act.put, List.setIfInBounds_toArray, List.set_cons_zero, List.set_cons_succ]
    refine wpAnyH_ready (rs := [1]) (by kernel_rfl) (by simp) ?_
    refine AllReadyH.cons (by simp only [List.getElem?_toArray, List.getElem?_cons_zero, List.getElem?_cons_succ]; rfl) (fun K hK => ?_) AllReadyH.nil
    go_simp
    refine HL.out.mono ?_
    rintro e y1 ⟨rfl, f2⟩
    have HQ := Lib.hid (HD.out.trans (f2.mono HD.out.size))
    clear f2
    go_wp2_with fail
    refine hK.out _ _ ((HA.out.below HQ.out).cells.1) (fun hHeld => ?_)
    clear hK K
    try simp only [Act.put, List.setIfInBounds_toArray, List.set_cons_zero, List.set_cons_succ]
    refine wpAnyH_take (i := 6) (v := ?_) (by simp only [List.getElem?_toArray, List.getElem?_cons_zero, List.getElem?_cons_succ]; rfl) (by kernel_rfl) (by kernel_rfl) (by kernel_rfl) (by exact fun _ _ _ h => h) (Or.inl ⟨by rfl, ?_⟩) (by assumption) ?_
    rotate_left
    · intro w hSw; (try dsimp only at hSw); go_simp; (try with_reducible rfl)
    try simp only [Act.put, List.setIfInBounds_toArray, List.set_cons_zero, List.set_cons_succ]
    refine wpAnyH_done (by kernel_rfl) ?_ _
    obtain ⟨d0, d1, e0, e1⟩ := (HA.out.below HQ.out).cells
    have HA2 := Lib.hid (HA.out.below HQ.out)
    clear c0 c1 f0 f1
    by_cases hne : m = gl
    · subst hne
      have hw : IntKind.i64.wrap (m + 1) = m + 1 := IntWalk.i64_in _ (by omega)
      obtain ⟨hup, hon⟩ := HA2.out.up (m + 1)
      obtain ⟨g0, _, _, _⟩ := hup.cells
      have HUp := Lib.hid hup
      have HOn := Lib.hid hon
      clear hup hon
      go_wp2_with fail
      exact bodyPost_ret (v := .tuple #[.int .i64 (m + 1), .int .i64 0]) (by simp [results, Try.results15, go_sem]) rfl (by
        rw [HE.out, if_neg hm, if_neg (by rw [HLm.out]; exact fun h => h rfl)]
        exact ⟨rfl, HUp.out, (Below.only HQ.out).trans HOn.out (fun x hx => .inl hx)⟩)
    · have hne2 : (m != gl) = true := bne_iff_ne.2 hne
      go_wp2_with fail
      exact bodyPost_ret (v := .tuple #[.int .i64 0, .int .i64 60]) (by simp [results, Try.results15, go_sem]) rfl (by
        rw [HE.out, if_neg hm, if_pos (by rw [HLm.out]; exact hne)]
        exact ⟨rfl, HA2.out, Below.only HQ.out⟩)
set_option maxHeartbeats 8000000 in
set_option maxRecDepth 100000 in
theorem refNew_any (n : Nat) (f : Int) (w : World) (hn : n ≤ 1000) :
    Calls Try.prog 8 #[.int .i64 (n : Nat), .int .i64 f] w fun e w' => ∃ vI, e = .returned (.pointer (some ⟨w.heap.size, 0, none⟩)) ∧ RefT w' w.heap.size w.heap.size vI f (List.replicate n (-1)) ∧ Below w.heap.size w w' := by
  have hb0 : Below w.heap.size w (w.alloc (.cells #[.int .i64 f, .slice none 0 0] 54)) := (Below.refl _ _).alloc (Nat.le_refl _) _
  have ha0 : RefT (w.alloc (.cells #[.int .i64 f, .slice none 0 0] 54)) w.heap.size w.heap.size (.slice none 0 0) f (List.replicate 0 (-1)) := ⟨heap_alloc_new _ _, Nat.le_refl _, LayG.Row.nil _ _, (fun e => by cases e)⟩
  go_enter Try.func8, Try.ntmps8
  go_wp2_with fail
  go_loopw [6] (fun i wr => ∃ (k : Nat) (vI : Value), k ≤ n ∧ i = .int .i64 (k : Nat) ∧ RefT wr w.heap.size w.heap.size vI f (List.replicate k (-1)) ∧ Below w.heap.size w wr) (fun i _ => n - (intOf i).toNat)
  case atStart => exact ⟨0, _, Nat.zero_le _, rfl, ha0, hb0⟩
  case round =>
    obtain ⟨k, vI, hk, rfl, hA, hbw⟩ := hrel
    have hN := hA.lt
    obtain ⟨c0, c1, f0, f1⟩ := hA.cells
    obtain ⟨AF, cF, eF, hcF, hrdF, hF, hF0⟩ := hA.row.rd
    rw [List.length_replicate] at eF
    subst eF
    have HA := Lib.hid hA
    by_cases hlt : k < n
    · have hlt2 : (k : Int) < (n : Int) := by omega
      have hA2 := hA.only (S := NoB) ((Only.refl _ wr).alloc (.cells #[.int .i64 (-1)] 3)) (fun _ _ h => h)
      have hrow := hA2.row
      rw [List.length_replicate] at hrow
      clear hA hF hF0 hrdF
      go_wp2_with (at_builtin; refine wpList_append_G typI rfl _ _ rfl w.heap.size _ k (List.replicate k (-1)) rfl hrow (some ⟨wr.heap.size, 0, none⟩) 1 1 [(-1 : Int)] rfl rfl (LayG.Rd.lit wr #[.int .i64 (-1)] [-1] rfl (by unfold maxLen; decide)) ?s2 ?s3 (wr.heap.size + 1) ?s4 ?_)
      case s2 => simp; omega
      case s3 => have := hbw.size; simp; omega
      case s4 => simp
      intro v4 w4 r4 g4 l4
      have hrep : List.replicate k (-1 : Int) ++ [-1] = List.replicate (k + 1) (-1) := by rw [List.replicate_succ']
      rw [hrep] at r4
      obtain ⟨A4, cv4, rfl, _, _, _, _⟩ := r4.rd
      have hnN : (Value.slice AF k cF).ownBlock ≠ some w.heap.size := hA2.nI
      have hblk := g4.block w.heap.size (by simp; omega) (fun e => hnN e.symm)
      have f14 : w4.frozen? { block := w.heap.size, off := 1 } = false := (World.frozen?_of_block (a := { block := w.heap.size, off := 1 }) hblk).trans hA2.cells.2.2.2
      have c14 : w4.cell? { block := w.heap.size, off := 1 } = some (.slice AF k cF) := (World.cell?_of_block (a := { block := w.heap.size, off := 1 }) hblk).trans hA2.cells.2.1
      have hn4 : ∀ g, (Value.slice A4 (k + 1) cv4).ownBlock = some g → g ≠ w.heap.size := fun g hg e => by
        rcases l4 g hg with h | h
        · exact hnN (by rw [h, e])
        · omega
      have hon : Only (fun b => b = w.heap.size) w4 (w4.setCell { block := w.heap.size, off := 1 } (.slice A4 (k + 1) cv4)) := Only.setCell (S := fun b => b = w.heap.size) (p := { block := w.heap.size, off := 1 }) (Only.refl _ w4) (.inl rfl) _
      have hA4 : RefT (w4.setCell { block := w.heap.size, off := 1 } (.slice A4 (k + 1) cv4)) w.heap.size w.heap.size (.slice A4 (k + 1) cv4) f (List.replicate (k + 1) (-1)) :=
        ⟨heap_setCell_same w4 w.heap.size 1 _ _ _ (hblk.trans hA2.cell), Nat.le_refl _, by rw [List.length_replicate]; exact r4.only hon (fun g hg e => hn4 g hg e), fun e => hn4 _ e rfl⟩
      have hb4 : Below w.heap.size w (w4.setCell { block := w.heap.size, off := 1 } (.slice A4 (k + 1) cv4)) :=
        ((hbw.alloc hbw.size _).grown g4 (by have := hbw.size; simp; omega) (fun g hg => (hrow.lt g hg).1)).setCell (p := { block := w.heap.size, off := 1 }) (Nat.le_refl _) _
      have HA4 := Lib.hid hA4
      have HB4 := Lib.hid hb4
      clear hA4 hb4 hon hn4 hrow r4 g4 l4 hblk hA2 hnN hrep
      go_wp2_with fail
      go_roundw
      case rel => exact ⟨k + 1, _, by omega, by go_num, HA4.out, HB4.out⟩
      case measure => simp [intOf]; omega
    · obtain rfl : k = n := by omega
      go_wp2_with fail
      go_ret
      exact ⟨_, rfl, HA.out, hbw⟩
end Go.Proofs.Ytcklafaoijodbaa
