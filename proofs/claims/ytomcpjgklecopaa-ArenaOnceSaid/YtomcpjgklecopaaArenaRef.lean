/- The document's own arena: what it is in memory; its Many. -/
import Derived.Test.YtomcpjgklecopaaHandRow
set_option linter.unusedVariables false
namespace Go.Proofs.Ytomcpjgklecopaa
open Go Go.RowKit

/-- The document's own arena: what is free, what is taken. -/
structure RefA (w : World) (B N : Nat) (vF vT : Value) (fr tk : List H2) : Prop where
  cell : w.heap[N]? = some (.cells #[vF, vT] 47 (0, 0))
  hB : B ≤ N
  rF : HRow w B vF fr.length fr
  rT : HRow w B vT tk.length tk
  nF : vF.ownBlock ≠ some N
  nT : vT.ownBlock ≠ some N
  apart : ∀ g, vF.ownBlock = some g → vT.ownBlock ≠ some g
/-- Its blocks. -/
def footA (N : Nat) (vF vT : Value) : Nat → Prop := fun k => k = N ∨ vF.ownBlock = some k ∨ vT.ownBlock = some k
theorem RefA.lt {w : World} {B N : Nat} {vF vT : Value} {fr tk : List H2} (h : RefA w B N vF vT fr tk) : N < w.heap.size := (Array.getElem?_eq_some_iff.1 h.cell).1
theorem RefA.foot_lt {w : World} {B N : Nat} {vF vT : Value} {fr tk : List H2} (h : RefA w B N vF vT fr tk) : ∀ k, footA N vF vT k → B ≤ k ∧ k < w.heap.size := by
  intro k hk
  rcases hk with rfl | hk | hk
  · exact ⟨h.hB, h.lt⟩
  · exact h.rF.lt k hk
  · exact h.rT.lt k hk
theorem RefA.only {w w' : World} {S : Nat → Prop} {B N : Nat} {vF vT : Value} {fr tk : List H2} (h : RefA w B N vF vT fr tk) (ho : Only S w w') (hS : ∀ k, footA N vF vT k → ¬ S k) : RefA w' B N vF vT fr tk :=
  ⟨(ho.block N h.lt (hS N (.inl rfl))).trans h.cell, h.hB, h.rF.only ho (fun g hg => hS g (.inr (.inl hg))), h.rT.only ho (fun g hg => hS g (.inr (.inr hg))), h.nF, h.nT, h.apart⟩
theorem RefA.cells {w : World} {B N : Nat} {vF vT : Value} {fr tk : List H2} (h : RefA w B N vF vT fr tk) :
    w.cell? { block := N, off := 0 } = some vF ∧ w.cell? { block := N, off := 1 } = some vT ∧ w.frozen? { block := N, off := 0 } = false ∧ w.frozen? { block := N, off := 1 } = false := by
  have hc := h.cell
  refine ⟨?_, ?_, ?_, ?_⟩
  · rw [cell_of_row w N 0 _ _ (0, 0) hc]; rfl
  · rw [cell_of_row w N 1 _ _ (0, 0) hc]; rfl
  all_goals exact frozen_of_row w N _ _ _ hc

def NoB : Nat → Prop := fun _ => False
theorem many_end {w w1 w2 w4 : World} {B N m : Nat} {vF vT v1 v2 v4 : Value} {fr tk : List H2} (HA : RefA w B N vF vT fr tk) (hm : m ≤ fr.length) (o1 : Only NoB w w1) (r1 : HRow w1 w.heap.size v1 m (fr.take m)) (l1 : ∀ g, v1.ownBlock = some g → g = w.heap.size)
    (o2 : Only NoB w1 w2) (r2 : HRow w2 w.heap.size v2 (fr.length - m) (fr.drop m)) (l2 : ∀ g, v2.ownBlock = some g → g = w1.heap.size)
    (r4 : HRow w4 B v4 (tk.length + m) (tk ++ fr.take m)) (g4 : (w2.setCell { block := N, off := 0 } v2).grownBy w4 vT.ownBlock) (l4 : ∀ g, v4.ownBlock = some g → vT.ownBlock = some g ∨ g = w2.heap.size) :
    HRow (w4.setCell { block := N, off := 1 } v4) w.heap.size v1 m (fr.take m) ∧ RefA (w4.setCell { block := N, off := 1 } v4) B N v2 v4 (fr.drop m) (tk ++ fr.take m) ∧ Only (footA N vF vT) w (w4.setCell { block := N, off := 1 } v4) ∧
      (∀ k, footA N v2 v4 k → footA N vF vT k ∨ w.heap.size ≤ k) ∧ (∀ g, v1.ownBlock = some g → ¬ footA N v2 v4 g) := by
  have hN := HA.lt
  have hTlt := HA.rT.lt
  have s1 := o1.size
  have s2 := o2.size
  have k1 := r1.lt
  have k2 := r2.lt
  have o3 : Only (fun k => k = N) w2 (w2.setCell { block := N, off := 0 } v2) := Only.setCell (S := fun k => k = N) (p := { block := N, off := 0 }) (Only.refl _ w2) (.inl rfl) v2
  have o4 : Only (fun k => k = N ∨ vT.ownBlock = some k) w2 w4 := (o3.mono (T := fun k => k = N ∨ vT.ownBlock = some k) (fun x hx => .inl hx)).grown g4 (fun k hk => .inl (.inr hk))
  have o5 : Only (fun k => k = N ∨ vT.ownBlock = some k) w2 (w4.setCell { block := N, off := 1 } v4) := o4.setCell (p := { block := N, off := 1 }) (.inl (.inl rfl)) v4
  have s4 := o4.size
  have o15 : Only (fun k => k = N ∨ vT.ownBlock = some k) w1 (w4.setCell { block := N, off := 1 } v4) := (o2.mono (T := fun k => k = N ∨ vT.ownBlock = some k) (fun x hx => hx.elim)).trans o5 (fun x hx => .inl hx)
  have o05 : Only (fun k => k = N ∨ vT.ownBlock = some k) w (w4.setCell { block := N, off := 1 } v4) := (o1.mono (T := fun k => k = N ∨ vT.ownBlock = some k) (fun x hx => hx.elim)).trans o15 (fun x hx => .inl hx)
  have nN : ∀ g, v4.ownBlock = some g → g ≠ N := fun g hg => by
    rcases l4 g hg with h | h
    · exact fun e => HA.nT (by rw [h, e])
    · omega
  refine ⟨?_, ⟨?_, HA.hB, ?_, ?_, ?_, ?_, ?_⟩, o05.mono (fun x hx => ?_), fun k hk => ?_, fun g hg => ?_⟩
  · refine r1.only o15 (fun g hg => ?_)
    have e := l1 g hg
    rintro (h | h)
    · omega
    · have := (hTlt g h).2; omega
  · have h2 : w2.heap[N]? = some (.cells #[vF, vT] 47 (0, 0)) := (o2.block N (by omega) id).trans ((o1.block N hN id).trans HA.cell)
    have h3 := heap_setCell_same w2 N 0 _ _ v2 h2
    have h4 := (g4.block N (by simp [World.setCell]; omega) (fun e => HA.nT e.symm)).trans h3
    exact heap_setCell_same w4 N 1 _ _ v4 h4
  · rw [List.length_drop]
    refine (r2.only o5 (fun g hg => ?_)).mono (Nat.le_trans HA.hB (by omega))
    have e := l2 g hg
    rintro (h | h)
    · omega
    · have := (hTlt g h).2; omega
  · rw [List.length_append, List.length_take, Nat.min_eq_left hm]
    exact r4.only (Only.setCell (S := fun k => k = N) (p := { block := N, off := 1 }) (Only.refl _ w4) (.inl rfl) v4) (fun g hg => nN g hg)
  · intro e; have := l2 N e; omega
  · intro e; exact nN N e rfl
  · intro g hg h4
    have e := l2 g hg
    have := (k2 g hg).2
    rcases l4 g h4 with h | h
    · have := (hTlt g h).2; omega
    · omega
  · rcases hx with h | h
    · exact .inl h
    · exact .inr (.inr h)
  · rcases hk with h | h | h
    · exact .inl (.inl h)
    · have := l2 k h; exact .inr (by omega)
    · rcases l4 k h with h | h
      · exact .inl (.inr (.inr h))
      · exact .inr (by omega)
  · have e := l1 g hg
    have hlt := (k1 g hg).2
    rintro (h | h | h)
    · omega
    · have := l2 g h; omega
    · rcases l4 g h with h | h
      · have := (hTlt g h).2; omega
      · omega

set_option maxHeartbeats 4000000 in
set_option maxRecDepth 100000 in
theorem refMany_any (n : Int) (w : World) (B N : Nat) (vF vT : Value) (fr tk : List H2) (h : RefA w B N vF vT fr tk) (hl : fr.length ≤ 1000) (hl2 : tk.length ≤ 1000) (m : Nat) (hn : n = (m : Nat)) (hm : m ≤ fr.length) :
    Calls Try.prog 11 #[.pointer (some ⟨N, 0, none⟩), .int .i64 n] w fun e w' => ∃ v vF' vT', e = .returned (.tuple #[v, .int .i64 0]) ∧ HRow w' w.heap.size v m (fr.take m) ∧ RefA w' B N vF' vT' (fr.drop m) (tk ++ fr.take m) ∧
      Only (footA N vF vT) w w' ∧ (∀ k, footA N vF' vT' k → footA N vF vT k ∨ w.heap.size ≤ k) ∧ (∀ g, v.ownBlock = some g → ¬ footA N vF' vT' g) := by
  have hlt := h.lt
  have HA := Lib.hid h
  obtain ⟨AF, cF, eF, hcF, hrdF, hF, hF0⟩ := h.rF.rd
  obtain ⟨AT, cT, eT, hcT, hrdT, hT, hT0⟩ := h.rT.rd
  obtain ⟨c0, c1, f0, f1⟩ := h.cells
  subst hn
  subst eT
  clear h
  rw [eF] at c0
  have h0 : ¬ ((m : Int) < 0) := by omega
  have h1 : ¬ ((fr.length : Int) < (m : Int)) := by omega
  have h2 : (m : Int) ≤ (cF : Int) := by omega
  have h3 : (m : Int) ≤ (fr.length : Int) := by omega
  have h4 : (0 : Int) ≤ (m : Int) := by omega
  go_enter Try.func11, Try.ntmps11
  go_wp2_with (at_builtin; refine wpList_append_hands rfl _ _ rfl w.heap.size _ 0 [] rfl (HRow.nil _ _) AF m cF (fr.take m) rfl (by rw [List.length_take]; omega) (hrdF.take m) (by rw [List.length_take]; omega) (Nat.le_refl _) w.heap.size rfl ?_)
  intro v1 w1 r1 g1 l1
  obtain ⟨A1, cv1, rfl, hcv1, hrd1, hA1, _⟩ := r1.rd
  have o1 : Only NoB w w1 := (Only.refl _ w).grown g1 (fun k e => by cases e)
  have hs1 := o1.size
  have c0' := (World.cell?_of_block (a := { block := N, off := 0 }) (o1.block N hlt id)).trans c0
  have c1' := (World.cell?_of_block (a := { block := N, off := 1 }) (o1.block N hlt id)).trans c1
  have f0' := (World.frozen?_of_block (a := { block := N, off := 0 }) (o1.block N hlt id)).trans f0
  have f1' := (World.frozen?_of_block (a := { block := N, off := 1 }) (o1.block N hlt id)).trans f1
  have hrdF1 := hrdF.only o1 (fun _ _ h => h)
  have HR1 := Lib.hid r1
  have hl1 : ∀ g, (Value.slice A1 m cv1).ownBlock = some g → g = w.heap.size := fun g hg => by
    rcases l1 g hg with h | h
    · cases h
    · exact h
  by_cases hcm : cF = m
  · have hd : fr.drop m = [] := List.drop_eq_nil_of_le (by omega)
    have hdl : fr.length - m = 0 := by omega
    go_wp2_with (at_builtin; refine wpList_append_hands rfl _ _ rfl w.heap.size _ 0 [] rfl (HRow.nil _ _) _ _ _ [] rfl ?q1 (RdH.nothing _) (by simp) hs1 w1.heap.size rfl ?_)
    case q1 => simp
    intro v2 w2 r2 g2 l2
    have r2 : HRow w2 w.heap.size v2 0 (fr.drop m) := by rw [hd]; simpa using r2
    obtain ⟨A2, cv2, rfl, _, _, _, _⟩ := r2.rd
    have o2 : Only NoB w1 w2 := (Only.refl _ w1).grown g2 (fun k e => by cases e)
    have hs2 := o2.size
    have o02 : Only NoB w w2 := o1.trans o2 (fun x hx => hx.elim)
    have c0'' := (World.cell?_of_block (a := { block := N, off := 0 }) (o02.block N hlt id)).trans c0
    have c1'' := (World.cell?_of_block (a := { block := N, off := 1 }) (o02.block N hlt id)).trans c1
    have f0'' := (World.frozen?_of_block (a := { block := N, off := 0 }) (o02.block N hlt id)).trans f0
    have f1'' := (World.frozen?_of_block (a := { block := N, off := 1 }) (o02.block N hlt id)).trans f1
    have hl2' : ∀ g, (Value.slice A2 0 cv2).ownBlock = some g → g = w1.heap.size := fun g hg => by
      rcases l2 g hg with h | h
      · cases h
      · exact h
    have o3 : Only (fun k => k = N) w2 (w2.setCell { block := N, off := 0 } (.slice A2 0 cv2)) := Only.setCell (S := fun k => k = N) (p := { block := N, off := 0 }) (Only.refl _ w2) (.inl rfl) _
    have o03 : Only (fun k => k = N) w (w2.setCell { block := N, off := 0 } (.slice A2 0 cv2)) := (o02.mono (T := fun k => k = N) (fun x hx => hx.elim)).trans o3 (fun x hx => .inl hx)
    have o13 : Only (fun k => k = N) w1 (w2.setCell { block := N, off := 0 } (.slice A2 0 cv2)) := (o2.mono (T := fun k => k = N) (fun x hx => hx.elim)).trans o3 (fun x hx => .inl hx)
    have rT3 := HA.out.rT.only o03 (fun g hg e => HA.out.nT (by rw [hg, e]))
    have hrd3 := hrd1.only o13 (fun ad e h => by have := hA1 ad e; have := hl1 _ this.1; omega)
    have c13 : (w2.setCell { block := N, off := 0 } (.slice A2 0 cv2)).cell? { block := N, off := 1 } = some (.slice AT tk.length cT) := by rw [World.cell?_setCell_other _ _ _ _ (by simp)]; exact c1''
    have f13 : (w2.setCell { block := N, off := 0 } (.slice A2 0 cv2)).frozen? { block := N, off := 1 } = false := by rw [World.frozen?_setCell]; exact f1''
    clear c0' c1' f0' f1' c1''
    go_wp2_with (at_builtin; refine wpList_append_hands rfl _ _ rfl B _ tk.length tk rfl rT3 A1 m cv1 (fr.take m) rfl ?s1 hrd3 ?s2 ?s3 w2.heap.size ?s4 ?_)
    case s1 => rw [List.length_take]; omega
    case s2 => rw [List.length_take]; omega
    case s3 => have := HA.out.hB; simp [World.setCell]; omega
    case s4 => simp [World.setCell]
    intro v4 w4 r4 g4 l4
    obtain ⟨A4, cv4, rfl, _, _, _, _⟩ := r4.rd
    have o4 : Only (fun k => k = N ∨ (Value.slice AT tk.length cT).ownBlock = some k) (w2.setCell { block := N, off := 0 } (.slice A2 0 cv2)) w4 := (Only.refl _ _).grown g4 (fun k hk => .inl (.inr hk))
    have f14 : w4.frozen? { block := N, off := 1 } = false := (World.frozen?_of_block (a := { block := N, off := 1 }) (g4.block N (by simp [World.setCell]; omega) (fun e => HA.out.nT e.symm))).trans f13
    have c14 : w4.cell? { block := N, off := 1 } = some (.slice AT tk.length cT) := (World.cell?_of_block (a := { block := N, off := 1 }) (g4.block N (by simp [World.setCell]; omega) (fun e => HA.out.nT e.symm))).trans c13
    obtain ⟨q1, q2, q3, q4, q5⟩ := many_end HA.out hm o1 HR1.out hl1 o2 (by rw [hdl]; exact r2) hl2' r4 g4 l4
    clear c13 f13 c0''
    go_wp2_with fail
    exact bodyPost_ret (v := .tuple #[.slice A1 m cv1, .int .i64 0]) (by simp [results, Try.results11, go_sem]) rfl ⟨_, _, _, rfl, q1, q2, q3, q4, q5⟩
  · obtain ⟨ad, rfl⟩ : ∃ ad, AF = some ad := by
      cases AF with
      | none => have := (hF0 rfl).2; omega
      | some ad => exact ⟨ad, rfl⟩
    go_wp2_with (at_builtin; refine wpList_append_hands rfl _ _ rfl w.heap.size _ 0 [] rfl (HRow.nil _ _) (some (ad.add (m * 2))) _ _ (fr.drop m) rfl ?q1 (hrdF1.drop m) ?q2 hs1 w1.heap.size rfl ?_)
    case q1 => simp
    case q2 => rw [List.length_drop]; omega
    intro v2 w2 r2 g2 l2
    have r2 : HRow w2 w.heap.size v2 (fr.length - m) (fr.drop m) := by simpa using r2
    obtain ⟨A2, cv2, rfl, _, _, _, _⟩ := r2.rd
    have o2 : Only NoB w1 w2 := (Only.refl _ w1).grown g2 (fun k e => by cases e)
    have hs2 := o2.size
    have o02 : Only NoB w w2 := o1.trans o2 (fun x hx => hx.elim)
    have c0'' := (World.cell?_of_block (a := { block := N, off := 0 }) (o02.block N hlt id)).trans c0
    have c1'' := (World.cell?_of_block (a := { block := N, off := 1 }) (o02.block N hlt id)).trans c1
    have f0'' := (World.frozen?_of_block (a := { block := N, off := 0 }) (o02.block N hlt id)).trans f0
    have f1'' := (World.frozen?_of_block (a := { block := N, off := 1 }) (o02.block N hlt id)).trans f1
    have hl2' : ∀ g, (Value.slice A2 (fr.length - m) cv2).ownBlock = some g → g = w1.heap.size := fun g hg => by
      rcases l2 g hg with h | h
      · cases h
      · exact h
    have o3 : Only (fun k => k = N) w2 (w2.setCell { block := N, off := 0 } (.slice A2 (fr.length - m) cv2)) := Only.setCell (S := fun k => k = N) (p := { block := N, off := 0 }) (Only.refl _ w2) (.inl rfl) _
    have o03 : Only (fun k => k = N) w (w2.setCell { block := N, off := 0 } (.slice A2 (fr.length - m) cv2)) := (o02.mono (T := fun k => k = N) (fun x hx => hx.elim)).trans o3 (fun x hx => .inl hx)
    have o13 : Only (fun k => k = N) w1 (w2.setCell { block := N, off := 0 } (.slice A2 (fr.length - m) cv2)) := (o2.mono (T := fun k => k = N) (fun x hx => hx.elim)).trans o3 (fun x hx => .inl hx)
    have rT3 := HA.out.rT.only o03 (fun g hg e => HA.out.nT (by rw [hg, e]))
    have hrd3 := hrd1.only o13 (fun ad e h => by have := hA1 ad e; have := hl1 _ this.1; omega)
    have c13 : (w2.setCell { block := N, off := 0 } (.slice A2 (fr.length - m) cv2)).cell? { block := N, off := 1 } = some (.slice AT tk.length cT) := by rw [World.cell?_setCell_other _ _ _ _ (by simp)]; exact c1''
    have f13 : (w2.setCell { block := N, off := 0 } (.slice A2 (fr.length - m) cv2)).frozen? { block := N, off := 1 } = false := by rw [World.frozen?_setCell]; exact f1''
    clear c0' c1' f0' f1' c1''
    go_wp2_with (at_builtin; refine wpList_append_hands rfl _ _ rfl B _ tk.length tk rfl rT3 A1 m cv1 (fr.take m) rfl ?s1 hrd3 ?s2 ?s3 w2.heap.size ?s4 ?_)
    case s1 => rw [List.length_take]; omega
    case s2 => rw [List.length_take]; omega
    case s3 => have := HA.out.hB; simp [World.setCell]; omega
    case s4 => simp [World.setCell]
    intro v4 w4 r4 g4 l4
    obtain ⟨A4, cv4, rfl, _, _, _, _⟩ := r4.rd
    have o4 : Only (fun k => k = N ∨ (Value.slice AT tk.length cT).ownBlock = some k) (w2.setCell { block := N, off := 0 } (.slice A2 (fr.length - m) cv2)) w4 := (Only.refl _ _).grown g4 (fun k hk => .inl (.inr hk))
    have f14 : w4.frozen? { block := N, off := 1 } = false := (World.frozen?_of_block (a := { block := N, off := 1 }) (g4.block N (by simp [World.setCell]; omega) (fun e => HA.out.nT e.symm))).trans f13
    have c14 : w4.cell? { block := N, off := 1 } = some (.slice AT tk.length cT) := (World.cell?_of_block (a := { block := N, off := 1 }) (g4.block N (by simp [World.setCell]; omega) (fun e => HA.out.nT e.symm))).trans c13
    obtain ⟨q1, q2, q3, q4, q5⟩ := many_end HA.out hm o1 HR1.out hl1 o2 r2 hl2' r4 g4 l4
    clear c13 f13 c0''
    go_wp2_with fail
    exact bodyPost_ret (v := .tuple #[.slice A1 m cv1, .int .i64 0]) (by simp [results, Try.results11, go_sem]) rfl ⟨_, _, _, rfl, q1, q2, q3, q4, q5⟩
end Go.Proofs.Ytomcpjgklecopaa
