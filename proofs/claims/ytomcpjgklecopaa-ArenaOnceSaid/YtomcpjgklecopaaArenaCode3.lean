/- The landed arena: what its numbers and lists mean; its calls over them. -/
import Derived.Test.YtomcpjgklecopaaArenaCode2
import Derived.Test.YtomcpjgklecopaaArenaMath
set_option linter.unusedVariables false
namespace Go.Proofs.Ytomcpjgklecopaa
open Go Go.RowKit

def IsT (g : Int → Option Value) (tk : List H2) : Prop := ∀ z : H2, z ∈ tk ↔ g z.1 = some (.int .i64 z.2)
def IsI (g : Int → Option Value) : Prop := ∀ x v, g x = some v → ∃ i, v = .int .i64 i
theorem IsT.nil : IsT (fun _ => none) [] := fun z => ⟨fun h => (by cases h), fun h => (by cases h)⟩
theorem IsI.nil : IsI (fun _ => none) := fun x v h => by cases h
theorem IsI.put {g : Int → Option Value} (h : IsI g) (x i : Int) : IsI (putK g x (some (.int .i64 i))) := by
  intro y v hv
  by_cases e : y = x
  · subst e; rw [putK_same] at hv; exact ⟨i, (Option.some.inj hv).symm⟩
  · rw [putK_other _ _ _ _ e] at hv; exact h y v hv
theorem IsI.drop {g : Int → Option Value} (h : IsI g) (x : Int) : IsI (putK g x none) := by
  intro y v hv
  by_cases e : y = x
  · subst e; rw [putK_same] at hv; cases hv
  · rw [putK_other _ _ _ _ e] at hv; exact h y v hv
theorem IsT.none_of {g : Int → Option Value} {tk : List H2} (h : IsT g tk) (hI : IsI g) (x : Int) (hx : ∀ z ∈ tk, z.1 ≠ x) : g x = none := by
  cases hg : g x with
  | none => rfl
  | some v =>
    obtain ⟨i, rfl⟩ := hI x v hg
    exact absurd rfl (hx (x, i) ((h (x, i)).2 hg))
theorem IsT.put {g : Int → Option Value} {tk : List H2} (h : IsT g tk) (z : H2) (hz : ∀ y ∈ tk, y.1 ≠ z.1) : IsT (putK g z.1 (some (.int .i64 z.2))) (tk ++ [z]) := by
  intro y
  by_cases e : y.1 = z.1
  · rw [e, putK_same]
    constructor
    · intro hy
      rcases List.mem_append.1 hy with hy | hy
      · exact absurd e (hz y hy)
      · rw [List.mem_singleton.1 hy]
    · intro hy
      injection hy with hy
      injection hy with _ hy
      exact List.mem_append_right _ (List.mem_singleton.2 (Prod.ext e hy.symm))
  · rw [putK_other _ _ _ _ e, ← h y]
    constructor
    · intro hy
      rcases List.mem_append.1 hy with hy | hy
      · exact hy
      · exact absurd (by rw [List.mem_singleton.1 hy]) e
    · exact fun hy => List.mem_append_left _ hy
theorem slot_one {tk : List H2} (hn : (tk.map Prod.fst).Nodup) {y z : H2} (hy : y ∈ tk) (hz : z ∈ tk) (e : y.1 = z.1) : y = z := by
  induction tk with
  | nil => cases hy
  | cons a r ih =>
    rw [List.map_cons, List.nodup_cons] at hn
    rcases List.mem_cons.1 hy with rfl | hy' <;> rcases List.mem_cons.1 hz with rfl | hz'
    · rfl
    · exact absurd (by rw [e]; exact List.mem_map_of_mem hz') hn.1
    · exact absurd (by rw [← e]; exact List.mem_map_of_mem hy') hn.1
    · exact ih hn.2 hy' hz'
theorem IsT.drop {g : Int → Option Value} {tk : List H2} (h : IsT g tk) (hn : (tk.map Prod.fst).Nodup) {z : H2} (hz : z ∈ tk) : IsT (putK g z.1 none) (tk.filter (fun y => !(decide (y = z)))) := by
  intro y
  rw [List.mem_filter]
  by_cases e : y.1 = z.1
  · rw [e, putK_same]
    refine ⟨fun hy => ?_, fun hy => by cases hy⟩
    have := slot_one hn hy.1 hz e
    subst this
    simp at hy
  · rw [putK_other _ _ _ _ e, ← h y]
    refine ⟨fun hy => hy.1, fun hy => ⟨hy, ?_⟩⟩
    have : y ≠ z := fun e2 => e (by rw [e2])
    simp [this]
structure CodeI (n : Nat) (F : List H2) (fresh : Nat) (g : Int → Option Value) (fr tk : List H2) : Prop where
  hfr : fr = F.reverse ++ (slotsR n).drop fresh
  hn : n ≤ 1000000
  hf : fresh ≤ n
  slots : ((fr ++ tk).map Prod.fst).Nodup
  cnt : fr.length + tk.length = n
  rng : ∀ z ∈ fr ++ tk, 0 ≤ z.1 ∧ z.1 < (n : Int)
  isT : IsT g tk
  isI : IsI g
theorem slotsR_rng {n : Nat} {z : H2} (h : z ∈ slotsR n) : 0 ≤ z.1 ∧ z.1 < (n : Int) := by
  unfold slotsR at h
  obtain ⟨i, hi, rfl⟩ := List.mem_map.1 h
  have := List.mem_range.1 hi
  exact ⟨by show (0 : Int) ≤ (i : Int); omega, by show (i : Int) < (n : Int); omega⟩
theorem CodeI.start {n : Nat} (hn : n ≤ 1000000) : CodeI n [] 0 (fun _ => none) (slotsR n) [] := by
  refine ⟨by simp, hn, Nat.zero_le _, ?_, by rw [slotsR_len]; rfl, fun z hz => ?_, IsT.nil, IsI.nil⟩
  · rw [List.append_nil]
    unfold slotsR
    rw [List.map_map]
    unfold List.Nodup
    rw [List.pairwise_map]
    refine List.Pairwise.imp ?_ List.nodup_range
    intro a b hab e
    have : (a : Int) = (b : Int) := e
    omega
  · rw [List.append_nil] at hz; exact slotsR_rng hz
section
variable {n : Nat} {F : List H2} {fresh : Nat} {g : Int → Option Value} {fr tk : List H2}
theorem CodeI.tknd (h : CodeI n F fresh g fr tk) : (tk.map Prod.fst).Nodup := by
  have := h.slots
  rw [List.map_append] at this
  exact this.sublist (List.sublist_append_right _ _)
theorem CodeI.lenF (h : CodeI n F fresh g fr tk) : F.length ≤ 1000000 := by
  have h1 := h.cnt
  have h2 := h.hn
  rw [h.hfr, List.length_append, List.length_reverse] at h1
  omega
theorem CodeI.i64 (h : CodeI n F fresh g fr tk) : ∀ z ∈ fr ++ tk, I64H z.1 := fun z hz => by
  have h1 := h.rng z hz
  have h2 := h.hn
  unfold I64H
  omega
theorem CodeI.empty (h : CodeI n F fresh g fr tk) : fr.isEmpty = true ↔ tk.length = n := by
  have := h.cnt
  rw [List.isEmpty_iff]
  constructor
  · intro e; rw [e] at this; simpa using this
  · intro e; exact List.length_eq_zero_iff.1 (by omega)
theorem CodeI.pop (h : CodeI n F fresh g fr tk) (hne : fr ≠ []) : fr = topF F fresh :: (F.dropLast.reverse ++ (slotsR n).drop (freshF F fresh)) ∧ freshF F fresh ≤ n := by
  have h1 := h.hfr
  have h2 := h.hf
  rcases List.eq_nil_or_concat F with rfl | ⟨F', z, rfl⟩
  · rw [List.reverse_nil, List.nil_append] at h1
    have hlt : fresh < n := by
      rcases Nat.lt_or_ge fresh n with h3 | h3
      · exact h3
      · exact absurd (by rw [h1]; exact List.drop_eq_nil_of_le (by rw [slotsR_len]; exact h3)) hne
    refine ⟨?_, by unfold freshF; simp; omega⟩
    rw [h1, List.drop_eq_getElem_cons (by rw [slotsR_len]; exact hlt)]
    have e := slotsR_get (n := n) (k := fresh) hlt
    rw [List.getD_eq_getElem?_getD, List.getElem?_eq_getElem (by rw [slotsR_len]; exact hlt)] at e
    have e2 : (slotsR n)[fresh]'(by rw [slotsR_len]; exact hlt) = ((fresh : Int), 0) := e
    rw [e2]
    unfold topF freshF
    simp
  · rw [List.concat_eq_append] at h1 ⊢
    refine ⟨?_, by unfold freshF; simp; exact h2⟩
    rw [h1]
    unfold topF freshF
    simp
theorem CodeI.take (h : CodeI n F fresh g fr tk) (hne : fr ≠ []) : topF F fresh = fr.headD H2.no ∧ I64H (topF F fresh).1 ∧ g (topF F fresh).1 = none ∧
    CodeI n F.dropLast (freshF F fresh) (putK g (topF F fresh).1 (some (.int .i64 (topF F fresh).2))) fr.tail (tk ++ fr.take 1) := by
  obtain ⟨hp, hf2⟩ := h.pop hne
  obtain ⟨z, hz⟩ : ∃ z, topF F fresh = z := ⟨_, rfl⟩
  obtain ⟨r, hr⟩ : ∃ r, fr.tail = r := ⟨_, rfl⟩
  rw [hz] at hp ⊢
  have hr2 : r = F.dropLast.reverse ++ (slotsR n).drop (freshF F fresh) := by rw [← hr, hp]; rfl
  have hc : fr = z :: r := by rw [hp, hr2]
  have hap : ∀ y ∈ tk, y.1 ≠ z.1 := by
    intro y hy e
    have hs := h.slots
    rw [hc, List.cons_append, List.map_cons, List.nodup_cons] at hs
    exact hs.1 (by rw [← e]; exact List.mem_map_of_mem (List.mem_append_right _ hy))
  have p : (r ++ (tk ++ [z])).Perm (fr ++ tk) := by
    rw [hc, ← List.append_assoc]
    exact (List.perm_append_comm (l₁ := r ++ tk) (l₂ := [z]))
  rw [hr, hc]
  refine ⟨rfl, h.i64 z (by rw [hc]; simp), h.isT.none_of h.isI _ hap, hr2, h.hn, hf2, (List.Perm.nodup_iff (p.map Prod.fst)).2 h.slots, ?_, fun y hy => h.rng y (p.mem_iff.1 hy), h.isT.put z hap, h.isI.put _ _⟩
  have := h.cnt
  rw [hc, List.length_cons] at this
  show r.length + (tk ++ [z]).length = n
  rw [List.length_append, List.length_singleton]
  omega
end
/-- The reading of the code's memory. -/
def AtC (w : World) (B N n : Nat) (fr tk : List H2) (S : Nat → Prop) : Prop :=
  ∃ bm vF F fresh g, CodeM w B N n bm vF F fresh g tk.length ∧ CodeI n F fresh g fr tk ∧ S = footC N bm vF
section
variable {w w' : World} {B N n : Nat} {fr tk : List H2} {S T : Nat → Prop}
theorem AtC.foot (h : AtC w B N n fr tk S) : ∀ k, S k → B ≤ k ∧ k < w.heap.size := by
  obtain ⟨bm, vF, F, fresh, g, hM, hI, rfl⟩ := h
  exact hM.foot_lt
theorem AtC.only (h : AtC w B N n fr tk S) (ho : Only T w w') (hS : ∀ k, S k → ¬ T k) : AtC w' B N n fr tk S := by
  obtain ⟨bm, vF, F, fresh, g, hM, hI, rfl⟩ := h
  exact ⟨bm, vF, F, fresh, g, hM.only ho hS, hI, rfl⟩
theorem AtC.rng (h : AtC w B N n fr tk S) : ∀ z ∈ fr ++ tk, I64H z.1 := by
  obtain ⟨bm, vF, F, fresh, g, hM, hI, rfl⟩ := h
  exact hI.i64
theorem AtC.below (h : AtC w B N n fr tk S) (hb : Below w.heap.size w w') : AtC w' B N n fr tk S := h.only (T := NoB) (Below.only hb) (fun _ _ h => h)
theorem AtC.new (n : Nat) (w : World) (hn : n ≤ 1000000) : Calls Try.prog 8 #[.int .i64 (n : Nat)] w fun e w' => ∃ N S, e = .returned (.tuple #[.pointer (some ⟨N, 0, none⟩), .int .i64 0]) ∧ AtC w' w.heap.size N n (slotsR n) [] S ∧ Below w.heap.size w w' :=
  (new_any n w (by omega)).mono (by
    rintro e w' ⟨h1, h2, h3⟩
    exact ⟨_, _, h1, ⟨_, _, _, _, _, h2, CodeI.start hn, rfl⟩, h3⟩)
theorem AtC.len (h : AtC w B N n fr tk S) : Calls Try.prog 17 #[.pointer (some ⟨N, 0, none⟩)] w fun e w' => e = .returned (.int .i64 (tk.length : Nat)) ∧ w = w' := by
  obtain ⟨bm, vF, F, fresh, g, hM, hI, rfl⟩ := h
  exact len_any hM
theorem AtC.room (h : AtC w B N n fr tk S) : Calls Try.prog 18 #[.pointer (some ⟨N, 0, none⟩)] w fun e w' => e = .returned (.int .i64 (n : Nat)) ∧ w = w' := by
  obtain ⟨bm, vF, F, fresh, g, hM, hI, rfl⟩ := h
  exact room_any hM
theorem live_code {w : World} {B N n bm : Nat} {vF : Value} {F : List H2} {fresh : Nat} {g : Int → Option Value} {sz : Nat} {tk : List H2} (h : CodeM w B N n bm vF F fresh g sz) (hT : IsT g tk) (hI : IsI g) (z : H2) (hi : I64H z.1) :
    Calls Try.prog 19 #[.pointer (some ⟨N, 0, none⟩), handV z] w fun e w' => e = .returned (.bool (decide (z ∈ tk))) ∧ Below w.heap.size w w' := by
  have ht := hT z
  cases hg : g z.1 with
  | none =>
    have e : decide (z ∈ tk) = false := decide_eq_false (fun hz => by rw [ht, hg] at hz; cases hz)
    rw [e]
    exact live_no h z hi hg
  | some v =>
    obtain ⟨i, rfl⟩ := hI _ _ hg
    have e : decide (z ∈ tk) = (i == z.2) := by
      rw [hg] at ht
      by_cases hz : i = z.2
      · rw [decide_eq_true (ht.2 (by rw [hz])), hz]; simp
      · rw [decide_eq_false (fun h1 => hz (by injection (ht.1 h1) with h2; injection h2)), beq_eq_false_iff_ne.2 hz]
    rw [e]
    exact live_yes h z hi i hg
theorem AtC.live (z : H2) (hi : I64H z.1) (h : AtC w B N n fr tk S) : Calls Try.prog 19 #[.pointer (some ⟨N, 0, none⟩), handV z] w fun e w' => e = .returned (.bool (decide (z ∈ tk))) ∧ Below w.heap.size w w' := by
  obtain ⟨bm, vF, F, fresh, g, hM, hI, rfl⟩ := h
  exact live_code hM hI.isT hI.isI z hi
theorem AtC.take (h : AtC w B N n fr tk S) : Calls Try.prog 10 #[.pointer (some ⟨N, 0, none⟩)] w fun e w' =>
    ∃ S', e = .returned (.tuple #[handV (fr.headD H2.no), .int .i64 (if fr.isEmpty then 50 else 0)]) ∧ AtC w' B N n fr.tail (tk ++ fr.take 1) S' ∧ Moved S S' w w' := by
  obtain ⟨bm, vF, F, fresh, g, hM, hI, rfl⟩ := h
  by_cases he : tk.length = n
  · have e := hI.empty.2 he
    have e2 := List.isEmpty_iff.1 e
    subst e2
    have hM2 := hM
    rw [he] at hM
    refine (take_full hM).mono ?_
    rintro e w' ⟨h1, h2⟩
    refine ⟨_, h1, ⟨_, _, _, _, _, ?_, (by simpa using hI), rfl⟩, Only.mono (S := NoB) (Below.only h2) (fun x hx => hx.elim), fun k hk => .inl hk⟩
    simpa using hM2.below h2
  · have hne : fr ≠ [] := fun e => he (hI.empty.1 (by rw [e]; rfl))
    obtain ⟨t1, t2, t3, t4⟩ := hI.take hne
    have h1 := hI.lenF
    have h2 := hI.hf
    have h3 := hI.hn
    have h4 := hI.cnt
    refine (take_free hM (by omega) (by omega) he (topF F fresh) rfl t2 t3 (by omega)).mono ?_
    rintro e w' ⟨vF', q1, q2, q3, q4⟩
    have hl : tk.length + 1 = (tk ++ fr.take 1).length := by
      rw [List.length_append, List.length_take]
      have := List.length_pos_iff.2 hne
      omega
    refine ⟨footC N bm vF', ?_, ⟨bm, vF', F.dropLast, freshF F fresh, _, by rw [← hl]; exact q2, t4, rfl⟩, q3.mono (fun x hx => ?_), fun k hk => .inl ?_⟩
    · rw [q1, t1]
      cases fr with
      | nil => exact absurd rfl hne
      | cons a r => rfl
    · rcases hx with h | h
      · exact .inl h
      · exact .inr (.inl h)
    · rcases hk with h | h | h
      · exact .inl h
      · exact .inr (.inl h)
      · exact .inr (.inr (by rw [← q4]; exact h))
end
end Go.Proofs.Ytomcpjgklecopaa
