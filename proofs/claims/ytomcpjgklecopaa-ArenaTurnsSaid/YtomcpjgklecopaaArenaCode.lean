/- The landed arena: what it is in memory; its small calls. -/
import Derived.Test.YtomcpjgklecopaaArenaSpec
import Derived.Test.YtomcpjgklecopaaMapK
import Derived.Test.YtomcpjgklecopaaPass
import Derived.Laws.Tables
import Derived.Carry
set_option linter.unusedVariables false
namespace Go.Proofs.Ytomcpjgklecopaa
open Go Go.RowKit

theorem intKeyed : Maps.Keyed Try.prog 3 := Maps.int_keyed Try.underlying3
theorem intZero (w : World) : (zeroValue 3).run Try.prog w = .ok (.int .i64 0) w := by kernel_rfl
abbrev MapI (w : World) (bm : Nat) (g : Int → Option Value) (sz : Nat) : Prop := MapK Try.prog 3 kInt w bm sz g sz
structure CodeM (w : World) (B N n bm : Nat) (vF : Value) (F : List H2) (fresh : Nat) (g : Int → Option Value) (sz : Nat) : Prop where
  cell : w.heap[N]? = some (.cells #[.int .i64 (n : Nat), .map (some bm), vF, .int .i64 (fresh : Nat)] 57 (0, 0))
  hB : B ≤ N
  hb : B ≤ bm
  ne : bm ≠ N
  row : HRow w B vF F.length F
  nN : vF.ownBlock ≠ some N
  nb : vF.ownBlock ≠ some bm
  mp : MapI w bm g sz
def footC (N bm : Nat) (vF : Value) : Nat → Prop := fun k => k = N ∨ k = bm ∨ vF.ownBlock = some k
section
variable {w w' : World} {B N n bm : Nat} {vF : Value} {F : List H2} {fresh : Nat} {g : Int → Option Value} {sz : Nat}
theorem CodeM.lt (h : CodeM w B N n bm vF F fresh g sz) : N < w.heap.size := (Array.getElem?_eq_some_iff.1 h.cell).1
theorem CodeM.foot_lt (h : CodeM w B N n bm vF F fresh g sz) : ∀ k, footC N bm vF k → B ≤ k ∧ k < w.heap.size := by
  intro k hk
  rcases hk with rfl | rfl | hk
  · exact ⟨h.hB, h.lt⟩
  · exact ⟨h.hb, h.mp.lt⟩
  · exact h.row.lt k hk
theorem CodeM.only {S : Nat → Prop} (h : CodeM w B N n bm vF F fresh g sz) (ho : Only S w w') (hS : ∀ k, footC N bm vF k → ¬ S k) : CodeM w' B N n bm vF F fresh g sz :=
  ⟨(ho.block N h.lt (hS N (.inl rfl))).trans h.cell, h.hB, h.hb, h.ne, h.row.only ho (fun g hg => hS g (.inr (.inr hg))), h.nN, h.nb, h.mp.only ho (hS bm (.inr (.inl rfl)))⟩
theorem CodeM.below (h : CodeM w B N n bm vF F fresh g sz) (hb : Below w.heap.size w w') : CodeM w' B N n bm vF F fresh g sz := h.only (S := NoB) (Below.only hb) (fun _ _ h => h)
theorem CodeM.alloc (h : CodeM w B N n bm vF F fresh g sz) (o : Obj) : CodeM (w.alloc o) B N n bm vF F fresh g sz := h.only (S := NoB) ((Only.refl _ w).alloc o) (fun _ _ h => h)
theorem CodeM.drew (h : CodeM w B N n bm vF F fresh g sz) : CodeM w.drew B N n bm vF F fresh g sz := h.only (S := NoB) ((Only.refl _ w).drew) (fun _ _ h => h)
theorem CodeM.cells (h : CodeM w B N n bm vF F fresh g sz) : w.cell? { block := N, off := 0 } = some (.int .i64 (n : Nat)) ∧ w.cell? { block := N, off := 1 } = some (.map (some bm)) ∧ w.cell? { block := N, off := 2 } = some vF ∧ w.cell? { block := N, off := 3 } = some (.int .i64 (fresh : Nat)) := by
  refine ⟨?_, ?_, ?_, ?_⟩
  · rw [cell_of_row w N 0 _ _ (0, 0) h.cell]; rfl
  · rw [cell_of_row w N 1 _ _ (0, 0) h.cell]; rfl
  · rw [cell_of_row w N 2 _ _ (0, 0) h.cell]; rfl
  · rw [cell_of_row w N 3 _ _ (0, 0) h.cell]; rfl
theorem CodeM.frozen (h : CodeM w B N n bm vF F fresh g sz) (j : Nat) : w.frozen? { block := N, off := j } = false := frozen_of_row w N _ _ _ h.cell
/-- The map was written. -/
theorem CodeM.put {g' : Int → Option Value} {m sz' : Nat} (h : CodeM w B N n bm vF F fresh g sz) (hm : MapK Try.prog 3 kInt w' bm m g' sz') (ho : Only (fun k => k = bm) w w') : CodeM w' B N n bm vF F fresh g' sz' :=
  ⟨(ho.block N h.lt (fun e => h.ne e.symm)).trans h.cell, h.hB, h.hb, h.ne, h.row.only ho (fun g hg e => h.nb (by rw [hg, e])), h.nN, h.nb, hm.tight⟩
/-- The stack's slice was written. -/
theorem CodeM.setF {vF' : Value} {F' : List H2} (h : CodeM w B N n bm vF F fresh g sz) (hr : HRow w B vF' F'.length F') (nN : vF'.ownBlock ≠ some N) (nb : vF'.ownBlock ≠ some bm) : CodeM (w.setCell { block := N, off := 2 } vF') B N n bm vF' F' fresh g sz := by
  have ho : Only (fun k => k = N) w (w.setCell { block := N, off := 2 } vF') := Only.setCell (S := fun k => k = N) (p := { block := N, off := 2 }) (Only.refl _ w) (.inl rfl) vF'
  refine ⟨heap_setCell_same w N 2 _ _ vF' h.cell, h.hB, h.hb, h.ne, hr.only ho (fun g hg e => nN (by rw [hg, e])), nN, nb, h.mp.only ho h.ne⟩
theorem CodeM.setN {fresh' : Nat} (h : CodeM w B N n bm vF F fresh g sz) : CodeM (w.setCell { block := N, off := 3 } (.int .i64 (fresh' : Nat))) B N n bm vF F fresh' g sz := by
  have ho : Only (fun k => k = N) w (w.setCell { block := N, off := 3 } (.int .i64 (fresh' : Nat))) := Only.setCell (S := fun k => k = N) (p := { block := N, off := 3 }) (Only.refl _ w) (.inl rfl) _
  refine ⟨heap_setCell_same w N 3 _ _ _ h.cell, h.hB, h.hb, h.ne, h.row.only ho (fun g hg e => h.nN (by rw [hg, e])), h.nN, h.nb, h.mp.only ho h.ne⟩
end
/-- A row cut to its first elements. -/
theorem HRow.shrink {w : World} {B n m c : Nat} {A : Option Addr} {zs : List H2} (h : HRow w B (.slice A n c) n zs) (hm : m ≤ n) (hA : A = none → m = 0 ∧ c = 0) : HRow w B (.slice A m c) m (zs.take m) := by
  have hl := h.len
  refine ⟨by rw [cellsH_len, List.length_take]; omega, ?_⟩
  rcases h.2 with ⟨hv, h0⟩ | ⟨g, cap, cur, hv, h2, h3, h4, h5, h6, h7⟩
  · injection hv with e1 e2 e3
    subst e1 e3
    exact .inl ⟨by rw [(hA rfl).1], (hA rfl).1⟩
  · injection hv with e1 e2 e3
    subst e1 e3
    refine .inr ⟨g, c, cur, rfl, h2, h3, by omega, h5, h6, ?_⟩
    have e : zs.take m = zs.take m := rfl
    have key : ∀ (l : List H2) (k : Nat), (l.take k).flatMap cellsH = (l.flatMap cellsH).take (k * 2) := by
      intro l
      induction l with
      | nil => intro k; simp
      | cons z r ih =>
        intro k
        cases k with
        | zero => simp
        | succ k => rw [List.take_succ_cons, List.flatMap_cons, List.flatMap_cons, ih, show (k + 1) * 2 = k * 2 + 1 + 1 from by omega]; rfl
    rw [key, ← h7, List.take_take, Nat.min_eq_left (by omega)]
set_option maxHeartbeats 4000000 in
set_option maxRecDepth 100000 in
theorem len_any {w : World} {B N n bm : Nat} {vF : Value} {F : List H2} {fresh : Nat} {g : Int → Option Value} {sz : Nat} (h : CodeM w B N n bm vF F fresh g sz) :
    Calls Try.prog 17 #[.pointer (some ⟨N, 0, none⟩)] w fun e w' => e = .returned (.int .i64 (sz : Nat)) ∧ w = w' := by
  obtain ⟨c0, c1, c2, c3⟩ := h.cells
  have hl := fun ty => h.mp.len (t := 55) Try.underlying55 ty
  clear h
  go_enter Try.func17, Try.ntmps17
  go_wp2_with fail
  exact bodyPost_ret (v := .int .i64 (sz : Nat)) (by simp [results, Try.results17, go_sem]) rfl ⟨rfl, rfl⟩
set_option maxHeartbeats 4000000 in
set_option maxRecDepth 100000 in
theorem room_any {w : World} {B N n bm : Nat} {vF : Value} {F : List H2} {fresh : Nat} {g : Int → Option Value} {sz : Nat} (h : CodeM w B N n bm vF F fresh g sz) :
    Calls Try.prog 18 #[.pointer (some ⟨N, 0, none⟩)] w fun e w' => e = .returned (.int .i64 (n : Nat)) ∧ w = w' := by
  obtain ⟨c0, c1, c2, c3⟩ := h.cells
  clear h
  go_enter Try.func18, Try.ntmps18
  go_wp2_with fail
  exact bodyPost_ret (v := .int .i64 (n : Nat)) (by simp [results, Try.results18, go_sem]) rfl ⟨rfl, rfl⟩
set_option maxHeartbeats 4000000 in
set_option maxRecDepth 100000 in
theorem newBad_any (n : Int) (w : World) (hn : n < 0 ∨ 1048576 < n) : Calls Try.prog 8 #[.int .i64 n] w fun e w' => e = .returned (.tuple #[.pointer none, .int .i64 2]) ∧ Below w.heap.size w w' := by
  go_enter Try.func8, Try.ntmps8
  by_cases h0 : n < 0
  · go_wp2_with fail
    exact bodyPost_ret (v := .tuple #[.pointer none, .int .i64 2]) (by simp [results, Try.results8, go_sem]) rfl ⟨rfl, Below.refl _ _⟩
  · have h1 : 1048576 < n := by omega
    go_wp2_with fail
    exact bodyPost_ret (v := .tuple #[.pointer none, .int .i64 2]) (by simp [results, Try.results8, go_sem]) rfl ⟨rfl, Below.refl _ _⟩
set_option maxHeartbeats 4000000 in
set_option maxRecDepth 100000 in
theorem new_any (n : Nat) (w : World) (hn : n ≤ 1048576) : Calls Try.prog 8 #[.int .i64 (n : Nat)] w fun e w' => e = .returned (.tuple #[.pointer (some ⟨w.heap.size + 1, 0, none⟩), .int .i64 0]) ∧ CodeM w' w.heap.size (w.heap.size + 1) n w.heap.size (.slice none 0 0) [] 0 (fun _ => none) 0 ∧ Below w.heap.size w w' := by
  have h0 : ¬ ((n : Int) < 0) := by omega
  have h1 : ¬ (1048576 < (n : Int)) := by omega
  have hb : Below w.heap.size w ((w.alloc (.map #[] 0)).alloc (.cells #[.int .i64 (n : Nat), .map (some w.heap.size), .slice none 0 0, .int .i64 0] 57)) := ((Below.refl _ _).alloc (Nat.le_refl _) _).alloc (by simp) _
  have hC : CodeM ((w.alloc (.map #[] 0)).alloc (.cells #[.int .i64 (n : Nat), .map (some w.heap.size), .slice none 0 0, .int .i64 0] 57)) w.heap.size (w.heap.size + 1) n w.heap.size (.slice none 0 0) [] 0 (fun _ => none) 0 := by
    refine ⟨?_, by omega, Nat.le_refl _, by omega, HRow.nil _ _, (fun e => by cases e), (fun e => by cases e), ?_⟩
    · have := heap_alloc_new (w.alloc (.map #[] 0)) (.cells #[.int .i64 (n : Nat), .map (some w.heap.size), .slice none 0 0, .int .i64 0] 57)
      simpa using this
    · exact (MapK.made w Try.prog 3 kInt).only (S := NoB) ((Only.refl _ _).alloc _) (fun h => h)
  have HB := Lib.hid hb
  have HC := Lib.hid hC
  have hbuild := run_build (P := Try.prog) (w.alloc (.map #[] 0)) 57 #[(0, .int .i64 (n : Nat)), (1, .map (some w.heap.size))] #[.int .i64 (n : Nat), .map (some w.heap.size), .slice none 0 0, .int .i64 0] (by kernel_rfl)
  have hmm := @run_makeMap Try.prog
  clear hb hC
  go_enter Try.func8, Try.ntmps8
  go_wp2_with fail
  exact bodyPost_ret (v := .tuple #[.pointer (some ⟨w.heap.size + 1, 0, none⟩), .int .i64 0]) (by simp [results, Try.results8, go_sem]) rfl ⟨rfl, HC.out, HB.out⟩
theorem res_cells (w1 : World) (m : Nat) (hm : w1.heap.size = m) (a b : Value) (t : TypeId) : (w1.alloc (.cells #[a, b] t)).cell? { block := m, off := 0 } = some a ∧ (w1.alloc (.cells #[a, b] t)).cell? { block := m, off := 1 } = some b := by
  subst hm
  exact ⟨by rw [World.cell?_alloc_mark]; rfl, by rw [World.cell?_alloc_mark]; rfl⟩
theorem res_cells2 (w1 : World) (m : Nat) (hm : w1.heap.size = m) (a b : Value) (t : TypeId) (o : Obj) : ((w1.alloc (.cells #[a, b] t)).alloc o).cell? { block := m, off := 0 } = some a ∧ ((w1.alloc (.cells #[a, b] t)).alloc o).cell? { block := m, off := 1 } = some b := by
  obtain ⟨h0, h1⟩ := res_cells w1 m hm a b t
  exact ⟨(World.cell?_alloc_lt _ o _ (by simp; omega)).trans h0, (World.cell?_alloc_lt _ o _ (by simp; omega)).trans h1⟩
set_option maxHeartbeats 4000000 in
set_option maxRecDepth 100000 in
theorem next_some {w : World} {B N n bm : Nat} {vF : Value} {F : List H2} {z : H2} {fresh : Nat} {g : Int → Option Value} {sz : Nat} (h : CodeM w B N n bm vF (F ++ [z]) fresh g sz) (hl : (F ++ [z]).length ≤ 1048576) :
    Calls Try.prog 22 #[.pointer (some ⟨N, 0, none⟩)] w fun e w' => ∃ vF', e = .returned (handV z) ∧ CodeM w' B N n bm vF' F fresh g sz ∧ Only (fun k => k = N) w w' ∧ vF'.ownBlock = vF.ownBlock := by
  have HA := Lib.hid h
  obtain ⟨c0, c1, c2, c3⟩ := h.cells
  obtain ⟨A, c, eF, hcF, hrd, hF, hF0⟩ := h.row.rd
  rw [List.length_append, List.length_singleton] at eF hcF hl
  have hzk : F.length < (F ++ [z]).length := by simp
  obtain ⟨ad, hA, hblk, h0, h1⟩ := hrd.at2 hzk
  have ez : (F ++ [z]).getD F.length H2.no = z := by simp
  rw [ez] at h0 h1
  subst hA
  have f2 := h.frozen 2
  have hNlt := h.lt
  have hr2 := h.row
  rw [eF, List.length_append, List.length_singleton] at hr2
  have hsh : HRow w B (.slice (some ad) F.length c) F.length F := by
    have := hr2.shrink (m := F.length) (by omega) (fun e => by cases e)
    rwa [List.take_left] at this
  rw [eF] at c2
  obtain ⟨za, zb⟩ := z
  dsimp only at h0 h1
  have k0 := (World.cell?_alloc_lt w (.cells #[.int .i64 0, .int .i64 0] 34) (ad.add (F.length * 2)) (by rw [add_block]; exact hblk)).trans h0
  have k1 := (World.cell?_alloc_lt w (.cells #[.int .i64 0, .int .i64 0] 34) { block := (ad.add (F.length * 2)).block, off := (ad.add (F.length * 2)).off + 1 } (by show (ad.add (F.length * 2)).block < _; rw [add_block]; exact hblk)).trans h1
  clear h hr2 hF hF0 hzk ez c0 c1 c3 h0 h1
  go_enter Try.func22, Try.ntmps22
  go_wp2_with fail
  have hC1 := HA.out.setF (vF' := .slice (some ad) F.length c) (F' := F) hsh (by have := HA.out.nN; rw [eF] at this; exact this) (by have := HA.out.nb; rw [eF] at this; exact this)
  have ho : Only (fun k => k = N) w (w.setCell { block := N, off := 2 } (.slice (some ad) F.length c)) := Only.setCell (S := fun k => k = N) (p := { block := N, off := 2 }) (Only.refl _ w) (.inl rfl) _
  obtain ⟨d0, d1⟩ := res_cells2 (w.setCell { block := N, off := 2 } (.slice (some ad) F.length c)) w.heap.size (by simp [World.setCell]) (.int .i64 za) (.int .i64 zb) 34 (.cells #[.int .i64 za, .int .i64 zb] 34)
  exact bodyPost_ret (v := handV (za, zb)) (by simp [results, Try.results22, go_sem, handV, d0, d1]) rfl ⟨_, rfl, (hC1.alloc _).alloc _, (ho.alloc _).alloc _, by rw [eF]; rfl⟩
set_option maxHeartbeats 4000000 in
set_option maxRecDepth 100000 in
theorem next_none {w : World} {B N n bm : Nat} {vF : Value} {fresh : Nat} {g : Int → Option Value} {sz : Nat} (h : CodeM w B N n bm vF [] fresh g sz) (hl : fresh ≤ 1048576) :
    Calls Try.prog 22 #[.pointer (some ⟨N, 0, none⟩)] w fun e w' => e = .returned (handV ((fresh : Nat), 0)) ∧ CodeM w' B N n bm vF [] (fresh + 1) g sz ∧ Only (fun k => k = N) w w' := by
  have HA := Lib.hid h
  obtain ⟨c0, c1, c2, c3⟩ := h.cells
  obtain ⟨A, c, eF, hcF, hrd, hF, hF0⟩ := h.row.rd
  rw [List.length_nil] at eF
  rw [eF] at c2
  have f3 := h.frozen 3
  have hNlt := h.lt
  clear h hF hF0 hrd c0 c1 hcF
  go_enter Try.func22, Try.ntmps22
  go_wp2_with fail
  have hC1 := HA.out.setN (fresh' := fresh + 1)
  have ho : Only (fun k => k = N) w (w.setCell { block := N, off := 3 } (.int .i64 (fresh + 1 : Nat))) := Only.setCell (S := fun k => k = N) (p := { block := N, off := 3 }) (Only.refl _ w) (.inl rfl) _
  obtain ⟨d0, d1⟩ := res_cells (w.setCell { block := N, off := 3 } (.int .i64 (fresh + 1 : Int))) w.heap.size (by simp [World.setCell]) (.int .i64 fresh) (.int .i64 0) 34
  exact bodyPost_ret (v := handV ((fresh : Nat), 0)) (by simp [results, Try.results22, go_sem, handV, d0, d1]) rfl ⟨rfl, hC1.alloc _, ho.alloc _⟩
def topF (F : List H2) (fresh : Nat) : H2 := F.getLast?.getD ((fresh : Nat), 0)
def freshF (F : List H2) (fresh : Nat) : Nat := if F.isEmpty then fresh + 1 else fresh
theorem next_any {w : World} {B N n bm : Nat} {vF : Value} {F : List H2} {fresh : Nat} {g : Int → Option Value} {sz : Nat} (h : CodeM w B N n bm vF F fresh g sz) (hl : F.length ≤ 1048576) (hf : fresh ≤ 1048576) :
    Calls Try.prog 22 #[.pointer (some ⟨N, 0, none⟩)] w fun e w' => ∃ vF', e = .returned (handV (topF F fresh)) ∧ CodeM w' B N n bm vF' F.dropLast (freshF F fresh) g sz ∧ Only (fun k => k = N) w w' ∧ vF'.ownBlock = vF.ownBlock := by
  rcases List.eq_nil_or_concat F with rfl | ⟨F', z, rfl⟩
  · exact (next_none h hf).mono (by
      rintro e w' ⟨h1, h2, h3⟩
      exact ⟨vF, h1, h2, h3, rfl⟩)
  · rw [List.concat_eq_append] at h hl ⊢
    have et : topF (F' ++ [z]) fresh = z := by unfold topF; simp
    have ef : freshF (F' ++ [z]) fresh = fresh := by unfold freshF; simp
    rw [et, ef, List.dropLast_concat]
    exact next_some h hl
end Go.Proofs.Ytomcpjgklecopaa
