/- What the walks of layer 4 lean on: locks, absences and stamps as numbers. -/
import Derived.Test.YtphbckddcckgdaaWordAwake
import Derived.Test.YtphbckddcckgdaaOpenN
set_option linter.unusedVariables false
namespace Go.Proofs.Ytphbckddcckgdaa
open Go Go.RowKit

def lockTo (x : Int) : Int := if lockW x then x else lockedW x
theorem lockTo_in {x : Int} (h : U64 x) : U64 (lockTo x) := by
  have := h.1; have := h.2
  unfold lockTo lockedW
  split
  · exact h
  · exact ⟨by omega, by omega⟩
theorem lockTo_facts {x : Int} (h : U64 x) : lockW (lockTo x) = true ∧ absW (lockTo x) = absW x ∧ stampW (lockTo x) = stampW x := by
  have h0 := h.1; have h1 := h.2
  unfold lockTo
  cases hl : lockW x with
  | true => exact ⟨by simpa using hl, rfl, rfl⟩
  | false =>
    simp only [Bool.false_eq_true, if_false]
    unfold lockW absW stampW lockedW at *
    rw [beq_eq_false_iff_ne] at hl
    refine ⟨?_, ?_, by omega⟩
    · rw [beq_iff_eq]; omega
    · rw [Bool.eq_iff_iff, beq_iff_eq, beq_iff_eq]; omega
theorem unlock_in {x : Int} (h : U64 x) : U64 (unlockedW x) := by
  have := h.1; have := h.2
  unfold unlockedW
  exact ⟨by omega, by omega⟩
theorem unlock_facts {x : Int} (h : U64 x) : lockW (unlockedW x) = false ∧ absW (unlockedW x) = absW x ∧ stampW (unlockedW x) = stampW x := by
  have h0 := h.1; have h1 := h.2
  unfold lockW absW stampW unlockedW
  refine ⟨?_, ?_, by omega⟩
  · rw [beq_eq_false_iff_ne]; omega
  · rw [Bool.eq_iff_iff, beq_iff_eq, beq_iff_eq]; omega
theorem absent_in {x : Int} (h : U64 x) (b : Bool) : U64 (absentW x b) := by
  have := h.1; have := h.2
  unfold absentW
  cases b <;> simp only [Bool.false_eq_true, if_false, if_true] <;> exact ⟨by omega, by omega⟩
theorem absent_facts {x : Int} (h : U64 x) (b : Bool) : lockW (absentW x b) = lockW x ∧ absW (absentW x b) = b ∧ stampW (absentW x b) = stampW x := by
  have h0 := h.1; have h1 := h.2
  unfold lockW absW stampW absentW
  cases b
  all_goals
    simp only [Bool.false_eq_true, if_false, if_true]
    refine ⟨?_, ?_, by omega⟩
    · rw [Bool.eq_iff_iff, beq_iff_eq, beq_iff_eq]; omega
    · first
      | (rw [beq_eq_false_iff_ne]; omega)
      | (rw [beq_iff_eq]; omega)
theorem pack_in {e s : Int} (h : rightT e s = true) (l a : Bool) : U64 (packT e s l a) := by
  obtain ⟨h0, h1, h2, h3⟩ := right_iff.1 h
  unfold packT
  cases l <;> cases a <;> simp only [Bool.false_eq_true, if_false, if_true] <;> exact ⟨by omega, by omega⟩
theorem pack_facts {e s : Int} (h : rightT e s = true) (l a : Bool) : okW (packT e s l a) = true ∧ epochW (packT e s l a) = e ∧ seqW (packT e s l a) = s ∧ lockW (packT e s l a) = l ∧ absW (packT e s l a) = a ∧ stampW (packT e s l a) = e * 2147483648 + s := by
  obtain ⟨h0, h1, h2, h3⟩ := right_iff.1 h
  unfold okW epochW seqW lockW absW stampW packT
  rw [decide_eq_true_iff]
  cases l <;> cases a <;> simp only [Bool.false_eq_true, if_false, if_true]
  all_goals
    refine ⟨by omega, by omega, by omega, ?_, ?_, by omega⟩
    · first
      | (rw [beq_eq_false_iff_ne]; omega)
      | (rw [beq_iff_eq]; omega)
    · first
      | (rw [beq_eq_false_iff_ne]; omega)
      | (rw [beq_iff_eq]; omega)
theorem parts_in {x : Int} (h : U64 x) : 0 ≤ epochW x ∧ epochW x ≤ 2147483647 ∧ 0 ≤ seqW x ∧ seqW x ≤ 2147483647 ∧ stampW x = epochW x * 2147483648 + seqW x := by
  have := h.1
  unfold epochW seqW stampW
  omega
/-- A Tid in a block of its own. -/
structure BoxT (W : World) (N : Nat) (e s : Int) (l a : Bool) : Prop where
  c0 : W.cell? { block := N, off := 0 } = some (.int .i64 e)
  c1 : W.cell? { block := N, off := 1 } = some (.int .i64 s)
  c2 : W.cell? { block := N, off := 2 } = some (.bool l)
  c3 : W.cell? { block := N, off := 3 } = some (.bool a)
theorem BoxT.new (w : World) (e s : Int) (l a : Bool) : BoxT (w.alloc (.cells #[.int .i64 e, .int .i64 s, .bool l, .bool a] 23)) w.heap.size e s l a := by
  constructor
  · rw [World.cell?_alloc_mark]; rfl
  · rw [World.cell?_alloc_mark]; rfl
  · rw [World.cell?_alloc_mark]; rfl
  · rw [World.cell?_alloc_mark]; rfl
theorem BoxT.below {W W' : World} {N B : Nat} {e s : Int} {l a : Bool} (h : BoxT W N e s l a) (hN : N < B) (hb : Below B W W') : BoxT W' N e s l a := by
  have q := hb.block N hN
  exact ⟨(World.cell?_of_block q).trans h.c0, (World.cell?_of_block q).trans h.c1, (World.cell?_of_block q).trans h.c2, (World.cell?_of_block q).trans h.c3⟩
theorem most_from : ∀ (zs : List Int) (m : Int), m ≤ zs.foldl (fun m x => max m (stampW x)) m ∧ (∀ x ∈ zs, stampW x ≤ zs.foldl (fun m x => max m (stampW x)) m) ∧
    (zs.foldl (fun m x => max m (stampW x)) m = m ∨ ∃ x ∈ zs, stampW x = zs.foldl (fun m x => max m (stampW x)) m)
  | [], m => ⟨Int.le_refl _, (fun x hx => by cases hx), .inl rfl⟩
  | z :: r, m => by
    obtain ⟨h1, h2, h3⟩ := most_from r (max m (stampW z))
    rw [List.foldl_cons]
    refine ⟨by omega, fun x hx => ?_, ?_⟩
    · rcases List.mem_cons.1 hx with rfl | hx
      · omega
      · exact h2 x hx
    · rcases h3 with h3 | ⟨x, hx, h3⟩
      · by_cases hm : stampW z ≤ m
        · exact .inl (by rw [h3]; omega)
        · exact .inr ⟨z, List.mem_cons_self, by rw [h3]; omega⟩
      · exact .inr ⟨x, List.mem_cons_of_mem _ hx, h3⟩
theorem most_nonneg (zs : List Int) : 0 ≤ mostW zs := (most_from zs 0).1
theorem most_ge {zs : List Int} {x : Int} (h : x ∈ zs) : stampW x ≤ mostW zs := (most_from zs 0).2.1 x h
theorem words_mem {zs : List Int} (h : Words zs) {x : Int} (hx : x ∈ zs) : U64 x := by
  obtain ⟨i, hi, rfl⟩ := List.getElem_of_mem hx
  have := h i hi
  rwa [List.getD_eq_getElem?_getD, List.getElem?_eq_getElem hi] at this
theorem most_mem {zs : List Int} (h : Words zs) (hne : zs ≠ []) : ∃ x ∈ zs, stampW x = mostW zs := by
  rcases (most_from zs 0).2.2 with h1 | h1
  · cases zs with
    | nil => exact absurd rfl hne
    | cons z r =>
      have h2 := most_ge (zs := z :: r) (x := z) List.mem_cons_self
      have h3 := (stampW_in (words_mem h (x := z) List.mem_cons_self)).1
      have h4 : mostW (z :: r) = 0 := h1
      exact ⟨z, List.mem_cons_self, by omega⟩
  · exact h1
theorem most_in {zs : List Int} (h : Words zs) : 0 ≤ mostW zs ∧ mostW zs < 4611686018427387904 := by
  refine ⟨most_nonneg zs, ?_⟩
  by_cases hne : zs = []
  · subst hne; exact (by decide : mostW [] < 4611686018427387904)
  · obtain ⟨x, hx, e⟩ := most_mem h hne
    rw [← e]
    exact (stampW_in (words_mem h hx)).2
/-- What a next stamp is. -/
theorem next_facts {x e : Int} (h : U64 x) (he : (nextW x e).2 = 0) : U64 (nextW x e).1 ∧ okW (nextW x e).1 = true ∧ epochW (nextW x e).1 = e ∧ 1 ≤ seqW (nextW x e).1 ∧ lockW (nextW x e).1 = false ∧ absW (nextW x e).1 = false ∧ stampW x < (nextW x e).1 ∧ seqW (nextW x e).1 = (nextW x e).1 - e * 2147483648 := by
  obtain ⟨p0, p1, p2, p3, p4⟩ := parts_in h
  have key : ∀ s : Int, 0 ≤ e → e ≤ 2147483647 → 1 ≤ s → s ≤ 1073741823 → stampW x < e * 2147483648 + s → U64 (e * 2147483648 + s) ∧ okW (e * 2147483648 + s) = true ∧ epochW (e * 2147483648 + s) = e ∧ 1 ≤ seqW (e * 2147483648 + s) ∧ lockW (e * 2147483648 + s) = false ∧ absW (e * 2147483648 + s) = false ∧ stampW x < e * 2147483648 + s ∧ seqW (e * 2147483648 + s) = e * 2147483648 + s - e * 2147483648 := fun s h0 h1 h2 h3 h4 => by
    have hr : rightT e s = true := right_iff.2 ⟨h0, h1, by omega, h3⟩
    have hp : packT e s false false = e * 2147483648 + s := by unfold packT; simp
    have q0 := pack_in hr false false
    have q1 := pack_facts hr false false
    rw [hp] at q0 q1
    exact ⟨q0, q1.1, q1.2.1, by rw [q1.2.2.1]; exact h2, q1.2.2.2.1, q1.2.2.2.2.1, h4, by rw [q1.2.2.1]; omega⟩
  unfold nextW at he ⊢
  by_cases c1 : e < 0 ∨ 2147483647 < e
  · rw [if_pos c1] at he; exact absurd he (by decide)
  · rw [if_neg c1] at he ⊢
    by_cases c2 : e < epochW x
    · rw [if_pos c2] at he; exact absurd he (by decide)
    · rw [if_neg c2] at he ⊢
      by_cases c3 : epochW x < e
      · rw [if_pos c3]
        exact key 1 (by omega) (by omega) (by omega) (by omega) (by omega)
      · rw [if_neg c3] at he ⊢
        by_cases c4 : 1073741823 ≤ seqW x
        · rw [if_pos c4] at he; exact absurd he (by decide)
        · rw [if_neg c4, Int.add_assoc]
          exact key (seqW x + 1) (by omega) (by omega) (by omega) (by omega) (by omega)
theorem tmod_in (a m : Int) (hm : 0 < m) : -m < a.tmod m ∧ a.tmod m < m := by
  have h1 := Int.emod_lt_of_pos a hm
  have h2 := Int.emod_nonneg a (by omega : m ≠ 0)
  rcases Int.lt_or_le a 0 with h | h
  · have e : a.tmod m = -((-a) % m) := by
      rw [← Int.tmod_eq_emod_of_nonneg (by omega : 0 ≤ -a), Int.neg_tmod, Int.neg_neg]
    have h3 := Int.emod_lt_of_pos (-a) hm
    have h4 := Int.emod_nonneg (-a) (by omega : m ≠ 0)
    omega
  · rw [Int.tmod_eq_emod_of_nonneg h]; omega
theorem epoch_in (a : Int) : 0 ≤ (wrap64 (a.tmod 1000000 + 1000000)).tmod 1000000 ∧ (wrap64 (a.tmod 1000000 + 1000000)).tmod 1000000 < 1000000 := by
  obtain ⟨h1, h2⟩ := tmod_in a 1000000 (by decide)
  have hw : wrap64 (a.tmod 1000000 + 1000000) = a.tmod 1000000 + 1000000 := by
    unfold wrap64
    omega
  rw [hw, Int.tmod_eq_emod_of_nonneg (by omega)]
  omega
theorem next_run {l e s : Int} (he0 : 1 ≤ e) (he1 : e ≤ 2147483647) (hs0 : 0 ≤ s) (hs1 : s < 1073741823) (h : epochW l < e ∧ s = 0 ∨ l = e * 2147483648 + s ∧ 1 ≤ s) : nextW l e = (e * 2147483648 + (s + 1), 0) := by
  unfold nextW
  rcases h with ⟨h1, h2⟩ | ⟨h1, h2⟩
  · subst h2
    rw [if_neg (by omega), if_neg (by omega), if_pos h1]
    rfl
  · have e1 : epochW l = e := by rw [h1]; unfold epochW; omega
    have e2 : seqW l = s := by rw [h1]; unfold seqW; omega
    rw [e1, e2, if_neg (by omega), if_neg (by omega), if_neg (by omega), if_neg (by omega), Int.add_assoc]
theorem run_facts {e s : Int} (he0 : 0 ≤ e) (he1 : e ≤ 2147483647) (hs0 : 0 ≤ s) (hs1 : s ≤ 1073741823) : U64 (e * 2147483648 + s) ∧ partsV (e * 2147483648 + s) = .tuple #[.agg #[.int .i64 e, .int .i64 s, .bool false, .bool false], .bool true] := by
  have hr : rightT e s = true := right_iff.2 ⟨he0, he1, hs0, hs1⟩
  have hp : packT e s false false = e * 2147483648 + s := by unfold packT; simp
  have q0 := pack_in hr false false
  obtain ⟨q1, q2, q3, q4, q5, _⟩ := pack_facts hr false false
  rw [hp] at q0 q1 q2 q3 q4 q5
  refine ⟨q0, ?_⟩
  unfold partsV
  rw [q1, q2, q3, q4, q5]
  rfl
end Go.Proofs.Ytphbckddcckgdaa
