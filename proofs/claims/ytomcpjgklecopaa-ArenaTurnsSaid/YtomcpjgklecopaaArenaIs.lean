/- The landed arena is as the laws ask. -/
import Derived.Test.YtomcpjgklecopaaArenaCode6
set_option linter.unusedVariables false
namespace Go.Proofs.Ytomcpjgklecopaa
open Go Go.RowKit

theorem fst_bump (hs : List H2) : (hs.map bump).map Prod.fst = hs.map Prod.fst := by rw [List.map_map]; rfl
theorem CodeI.free {n : Nat} {F : List H2} {fresh : Nat} {g g' : Int → Option Value} {fr tk hs : List H2} (h : CodeI n F fresh g fr tk) (hT : IsT g' (freeR fr tk hs).2) (hI : IsI g') (hp : tk.Perm (hs ++ (freeR fr tk hs).2)) :
    CodeI n (F ++ hs.map bump) fresh g' (freeR fr tk hs).1 (freeR fr tk hs).2 := by
  obtain ⟨t, ht⟩ : ∃ t, (freeR fr tk hs).2 = t := ⟨_, rfl⟩
  rw [ht] at hT hp ⊢
  rw [freeR_map]
  have p0 : (((hs.map bump).reverse ++ fr ++ t).map Prod.fst).Perm ((fr ++ tk).map Prod.fst) := by
    rw [List.map_append, List.map_append, List.map_append, List.map_reverse, fst_bump]
    have q1 : ((hs.map Prod.fst).reverse ++ fr.map Prod.fst ++ t.map Prod.fst).Perm (fr.map Prod.fst ++ ((hs.map Prod.fst) ++ t.map Prod.fst)) := by
      rw [← List.append_assoc]
      exact ((List.Perm.append_right _ (List.reverse_perm _)).trans List.perm_append_comm).append_right _
    refine q1.trans (List.Perm.append_left _ ?_)
    rw [← List.map_append]
    exact (hp.map Prod.fst).symm
  refine ⟨?_, h.hn, h.hf, (List.Perm.nodup_iff p0).2 h.slots, ?_, fun z hz => ?_, hT, hI⟩
  · rw [List.reverse_append, List.append_assoc, ← h.hfr]
  · have h1 := p0.length_eq
    have h2 := h.cnt
    simp only [List.length_map, List.length_append] at h1
    simp only [List.length_append]
    omega
  · have h1 : z.1 ∈ (fr ++ tk).map Prod.fst := p0.mem_iff.1 (List.mem_map_of_mem hz)
    obtain ⟨y, hy, e⟩ := List.mem_map.1 h1
    rw [← e]
    exact h.rng y hy
theorem AtC.free {w : World} {B N n : Nat} {fr tk : List H2} {S : Nat → Prop} (A : Option Addr) (c : Nat) (hs : List H2) (h : AtC w B N n fr tk S) (hr : RdH w A hs) (hA : hs ≠ [] → ∀ ad, A = some ad → ¬ S ad.block) (hc : hs.length ≤ c) (hl : hs.length ≤ 2000) (hg : ∀ z ∈ tk, 0 ≤ z.2 ∧ z.2 ≤ 1000000000) (hi : ∀ z ∈ hs, I64H z.1) :
    Calls Try.prog 14 #[.pointer (some ⟨N, 0, none⟩), .slice A hs.length c] w fun e w' => ∃ S', Moved S S' w w' ∧
      ((goodF tk hs ∧ e = .returned (.int .i64 0) ∧ AtC w' B N n (freeR fr tk hs).1 (freeR fr tk hs).2 S') ∨ (¬ goodF tk hs ∧ e = .returned (.int .i64 51) ∧ AtC w' B N n fr tk S')) := by
  obtain ⟨bm, vF, F, fresh, g, hM, hI, rfl⟩ := h
  refine (free_code A c hs hM hI hr hA hc hl hg hi).mono ?_
  rintro e w' (⟨hgood, he, ⟨vF', g', q1, q2, q3, q4, q5⟩, ho⟩ | ⟨hbad, he, ⟨g', q1, q2, q3⟩, ho⟩)
  · refine ⟨footC N bm vF', ⟨ho, fun k hk => ?_⟩, .inl ⟨hgood, he, bm, vF', F ++ hs.map bump, fresh, g', ?_, hI.free q2 q3 q4, rfl⟩⟩
    · rcases hk with h | h | h
      · exact .inl (.inl h)
      · exact .inl (.inr (.inl h))
      · rcases q5 k h with h1 | h1
        · exact .inl (.inr (.inr h1))
        · exact .inr h1
    · have h1 := q4.length_eq
      rw [List.length_append] at h1
      rw [show (freeR fr tk hs).2.length = tk.length - hs.length from by omega]
      exact q1
  · exact ⟨footC N bm vF, ⟨ho, fun k hk => .inl hk⟩, .inr ⟨hbad, he, bm, vF, F, fresh, g', q1, ⟨hI.hfr, hI.hn, hI.hf, hI.slots, hI.cnt, hI.rng, q2, q3⟩, rfl⟩⟩
theorem arSpec_is : Nonempty ArSpec := ⟨{
  At := AtC
  foot := fun h => h.foot
  only := fun h ho hS => h.only ho hS
  rng := fun h => h.rng
  new_ := fun n w hn => AtC.new n w hn
  newBad := fun n w hn => newBad_any n w hn
  take_ := fun h => h.take
  many_ := fun m h hm => h.many m hm
  manyBad := fun m h hi hb => h.manyBad m hi hb
  freeAny := fun A c hs h hr hA hc hl hg hi => h.free A c hs hr hA hc hl hg hi
  live_ := fun z hi h => h.live z hi
  len_ := fun h => h.len.mono (by rintro e w' ⟨h1, rfl⟩; exact ⟨h1, Below.refl _ _⟩)
  room_ := fun h => h.room.mono (by rintro e w' ⟨h1, rfl⟩; exact ⟨h1, Below.refl _ _⟩) }⟩
end Go.Proofs.Ytomcpjgklecopaa
