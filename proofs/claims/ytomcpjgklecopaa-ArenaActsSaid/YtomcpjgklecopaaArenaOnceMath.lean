/- Plain Lean: slots are taken and freed; a handle that was freed is never live again. -/
import Derived.Test.YtomcpjgklecopaaArenaMath
set_option linter.unusedVariables false
namespace Go.Proofs.Ytomcpjgklecopaa
open Go Go.RowKit

/-- What holds of an arena (free, taken), of the handles held (live) and of those freed (gone). -/
structure OnceI (n m : Nat) (fr tk live gone : List H2) : Prop where
  slots : ((fr ++ tk).map Prod.fst).Nodup
  perm : live.Perm tk
  past : ∀ z ∈ gone, ∀ y ∈ fr ++ tk, y.1 = z.1 → z.2 < y.2
  count : fr.length + tk.length = n
  gens : ∀ y ∈ fr ++ tk, 0 ≤ y.2 ∧ y.2 ≤ (m : Int)
  back : ∀ z ∈ gone, ∃ y ∈ fr ++ tk, y.1 = z.1
theorem OnceI.start (n : Nat) : OnceI n 0 (slotsR n) [] [] [] := by
  refine ⟨?_, List.Perm.refl _, (fun z hz => by cases hz), by rw [slotsR_len]; rfl, fun y hy => ?_, (fun z hz => by cases hz)⟩
  · rw [List.append_nil]
    unfold slotsR
    rw [List.map_map]
    unfold List.Nodup
    rw [List.pairwise_map]
    refine List.Pairwise.imp ?_ List.nodup_range
    intro a b hab e
    have : (a : Int) = (b : Int) := e
    omega
  · rw [List.append_nil] at hy
    have := slotsR_zero hy
    omega
theorem OnceI.mono {n m m' : Nat} {fr tk live gone : List H2} (h : OnceI n m fr tk live gone) (hm : m ≤ m') : OnceI n m' fr tk live gone :=
  ⟨h.slots, h.perm, h.past, h.count, fun y hy => by have := h.gens y hy; omega, h.back⟩
theorem moveP (h : H2) (fr tk : List H2) : (fr ++ (tk ++ [h])).Perm ((h :: fr) ++ tk) := by
  rw [← List.append_assoc]
  exact (List.perm_append_comm (l₁ := fr ++ tk) (l₂ := [h]))
theorem OnceI.take {n m : Nat} {fr tk live gone : List H2} {h : H2} (o : OnceI n m (h :: fr) tk live gone) : OnceI n m fr (tk ++ [h]) (live ++ [h]) gone := by
  have p := moveP h fr tk
  refine ⟨(List.Perm.nodup_iff (p.map Prod.fst)).2 o.slots, o.perm.append_right _, fun z hz y hy => o.past z hz y (p.mem_iff.1 hy), ?_, fun y hy => o.gens y (p.mem_iff.1 hy), fun z hz => by obtain ⟨y, hy, e⟩ := o.back z hz; exact ⟨y, p.mem_iff.2 hy, e⟩⟩
  have := o.count
  rw [List.length_cons] at this
  rw [List.length_append, List.length_singleton]
  omega
theorem OnceI.apart {n m : Nat} {fr tk live gone : List H2} {h : H2} (o : OnceI n m (h :: fr) tk live gone) : ∀ z ∈ live, z.1 ≠ h.1 := by
  intro z hz e
  have hs := o.slots
  rw [List.cons_append, List.map_cons, List.nodup_cons] at hs
  exact hs.1 (by rw [← e]; exact List.mem_map_of_mem (List.mem_append_right _ (o.perm.mem_iff.1 hz)))
theorem OnceI.nodup {n m : Nat} {fr tk live gone : List H2} (o : OnceI n m fr tk live gone) : tk.Nodup := by
  have hs := o.slots
  unfold List.Nodup at hs ⊢
  rw [List.map_append, List.pairwise_append] at hs
  have := hs.2.1
  rw [List.pairwise_map] at this
  exact this.imp (fun h e => h (by rw [e]))
theorem OnceI.dead {n m : Nat} {fr tk live gone : List H2} (o : OnceI n m fr tk live gone) : ∀ z ∈ gone, z ∉ tk := fun z hz h => by
  have := o.past z hz z (List.mem_append_right _ h) rfl
  omega
theorem perm_filter_one {tk : List H2} {h : H2} (hn : tk.Nodup) (hm : h ∈ tk) : tk.Perm (h :: tk.filter (fun z => !(decide (z = h)))) := by
  induction tk with
  | nil => cases hm
  | cons a r ih =>
    have hr := List.nodup_cons.1 hn
    by_cases e : a = h
    · subst e
      rw [List.filter_cons_of_neg (by simp), List.filter_eq_self.2 (fun z hz => by
        have : z ≠ a := fun e => hr.1 (by rw [← e]; exact hz)
        simp [this])]
    · rw [List.filter_cons_of_pos (by simp [e])]
      exact ((ih hr.2 ((List.mem_cons.1 hm).resolve_left (fun e2 => e e2.symm))).cons a).trans (List.Perm.swap _ _ _)
theorem OnceI.free {n m : Nat} {fr tk live live' gone : List H2} {h : H2} (o : OnceI n m fr tk live gone) (hl : live.Perm (h :: live')) : OnceI n (m + 1) (bump h :: fr) (tk.filter (fun z => !(decide (z = h)))) live' (gone ++ [h]) := by
  have hm : h ∈ tk := o.perm.mem_iff.1 (hl.mem_iff.2 List.mem_cons_self)
  have p1 := perm_filter_one o.nodup hm
  have pu : (fr ++ tk).Perm (h :: (fr ++ tk.filter (fun z => !(decide (z = h))))) := (List.Perm.append_left fr p1).trans List.perm_middle
  have hs : ((h :: (fr ++ tk.filter (fun z => !(decide (z = h))))).map Prod.fst).Nodup := (List.Perm.nodup_iff (pu.map Prod.fst)).1 o.slots
  have hs2 := hs
  rw [List.map_cons, List.nodup_cons] at hs2
  have hg := o.gens h (List.mem_append_right _ hm)
  refine ⟨?_, ?_, fun z hz y hy e => ?_, ?_, fun y hy => ?_, fun z hz => ?_⟩
  · rw [List.cons_append, List.map_cons]
    rw [List.map_cons] at hs
    exact hs
  · exact (List.Perm.cons_inv ((hl.symm.trans o.perm).trans p1))
  · rw [List.cons_append] at hy
    rcases List.mem_append.1 hz with hz | hz
    · rcases List.mem_cons.1 hy with rfl | hy
      · have := o.past z hz h (List.mem_append_right _ hm) e
        show z.2 < h.2 + 1
        omega
      · exact o.past z hz y (pu.mem_iff.2 (List.mem_cons_of_mem _ hy)) e
    · obtain rfl := List.mem_singleton.1 hz
      rcases List.mem_cons.1 hy with rfl | hy
      · show z.2 < z.2 + 1
        omega
      · exact absurd (by rw [← e]; exact List.mem_map_of_mem hy) hs2.1
  · have := o.count
    have h2 := p1.length_eq
    rw [List.length_cons] at h2
    rw [List.length_cons]
    omega
  · rw [List.cons_append] at hy
    rcases List.mem_cons.1 hy with rfl | hy
    · show 0 ≤ h.2 + 1 ∧ h.2 + 1 ≤ ((m + 1 : Nat) : Int)
      omega
    · have := o.gens y (pu.mem_iff.2 (List.mem_cons_of_mem _ hy))
      omega
  · rcases List.mem_append.1 hz with hz | hz
    · obtain ⟨y, hy, e⟩ := o.back z hz
      rcases List.mem_cons.1 (pu.mem_iff.1 hy) with rfl | hy
      · exact ⟨bump y, by rw [List.cons_append]; exact List.mem_cons_self, e⟩
      · exact ⟨y, by rw [List.cons_append]; exact List.mem_cons_of_mem _ hy, e⟩
    · obtain rfl := List.mem_singleton.1 hz
      exact ⟨bump z, by rw [List.cons_append]; exact List.mem_cons_self, rfl⟩
/-- A list without its k-th. -/
theorem perm_without {live : List H2} {k : Nat} (h : k < live.length) : live.Perm (live.getD k H2.no :: (live.take k ++ live.drop (k + 1))) := by
  have e : live = live.take k ++ (live.getD k H2.no :: live.drop (k + 1)) := by
    conv => lhs; rw [← List.take_append_drop k live]
    rw [dropH live k h]
  conv => lhs; rw [e]
  exact List.perm_middle
end Go.Proofs.Ytomcpjgklecopaa
