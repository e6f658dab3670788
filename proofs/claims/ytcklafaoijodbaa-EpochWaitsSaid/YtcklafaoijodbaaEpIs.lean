/- The landed epoch is as the laws ask. -/
import Derived.Test.YtcklafaoijodbaaEpCode2
set_option linter.unusedVariables false
namespace Go.Proofs.Ytcklafaoijodbaa
open Go Go.RowKit

/-- What the map holds. -/
def gE (ins : List Int) (s : Int) : Option Value := if notIn ins s then none else if 0 ≤ ins.getD s.toNat default then some (.int .i64 (ins.getD s.toNat default)) else none
def cntE (ins : List Int) : Nat := ins.countP (fun x => decide (0 ≤ x))
theorem hasB_iff (ins : List Int) (s : Int) : hasB ins.length s = !decide (notIn ins s) := by
  by_cases h : notIn ins s
  · rw [decide_eq_true h]
    unfold hasB
    rcases h with h | h
    · rw [decide_eq_false (show ¬ (0 : Int) ≤ s by omega)]; rfl
    · rw [decide_eq_false (show ¬ s < (ins.length : Int) by omega)]; simp
  · rw [decide_eq_false h]
    unfold notIn at h
    unfold hasB
    rw [decide_eq_true (show (0 : Int) ≤ s by omega), decide_eq_true (show s < (ins.length : Int) by omega)]
    rfl
theorem gE_at {ins : List Int} {k : Nat} (hk : k < ins.length) : gE ins (k : Int) = if 0 ≤ ins.getD k default then some (.int .i64 (ins.getD k default)) else none := by
  unfold gE
  rw [if_neg (show ¬ notIn ins (k : Int) from fun h => h.elim (fun h => by omega) (fun h => by omega)), Int.toNat_natCast]
theorem gE_out {ins : List Int} {s : Int} (h : notIn ins s) : gE ins s = none := by unfold gE; rw [if_pos h]
theorem gE_int {ins : List Int} : ∀ x v, gE ins x = some v → ∃ e, v = .int .i64 e := by
  intro x v h
  unfold gE at h
  split at h
  · cases h
  · split at h
    · injection h with h; exact ⟨_, h.symm⟩
    · cases h
theorem nat_of {ins : List Int} {s : Int} (h : ¬ notIn ins s) : ∃ k : Nat, s = (k : Int) ∧ k < ins.length := by
  unfold notIn at h
  exact ⟨s.toNat, by omega, by omega⟩
theorem getD_set (ins : List Int) (k j : Nat) (x : Int) (hk : k < ins.length) : (ins.set k x).getD j default = if j = k then x else ins.getD j default := by
  rw [List.getD_eq_getElem?_getD, List.getD_eq_getElem?_getD, List.getElem?_set]
  by_cases e : j = k
  · subst e; rw [if_pos rfl, if_pos rfl, if_pos hk]; rfl
  · rw [if_neg (fun h => e h.symm), if_neg e]
theorem gE_set {ins : List Int} {k : Nat} (hk : k < ins.length) (x : Int) : gE (ins.set k x) = putK (gE ins) (k : Int) (if 0 ≤ x then some (.int .i64 x) else none) := by
  funext s
  by_cases hn : notIn ins s
  · have hn2 : notIn (ins.set k x) s := by unfold notIn at hn ⊢; rw [List.length_set]; exact hn
    rw [gE_out hn2, putK_other _ _ _ _ (fun e => by subst e; unfold notIn at hn; omega), gE_out hn]
  · obtain ⟨j, rfl, hj⟩ := nat_of hn
    rw [gE_at (by rw [List.length_set]; exact hj), getD_set _ _ _ _ hk]
    by_cases e : j = k
    · subst e; rw [if_pos rfl, putK_same]
    · rw [if_neg e, putK_other _ _ _ _ (fun h => e (by omega)), gE_at hj]
theorem cnt_set {ins : List Int} {k : Nat} (hk : k < ins.length) (x : Int) : cntE (ins.set k x) = cntE ins - (if 0 ≤ ins.getD k default then 1 else 0) + (if 0 ≤ x then 1 else 0) := by
  unfold cntE
  rw [List.countP_set hk, List.getD_eq_getElem?_getD, List.getElem?_eq_getElem hk]
  simp
theorem cnt_le (ins : List Int) : cntE ins ≤ ins.length := List.countP_le_length
theorem cnt_pos {ins : List Int} {k : Nat} (hk : k < ins.length) (h : 0 ≤ ins.getD k default) : 1 ≤ cntE ins := by
  unfold cntE
  exact List.countP_pos_iff.2 ⟨_, getD_mem hk, by simpa using h⟩
theorem cnt_room {ins : List Int} {k : Nat} (hk : k < ins.length) (h : ¬ 0 ≤ ins.getD k default) : cntE ins + 1 ≤ ins.length := by
  have h1 := cnt_set hk 0
  have h2 := cnt_le (ins.set k 0)
  rw [List.length_set] at h2
  rw [if_neg h, if_pos (by decide)] at h1
  omega

def AtE (w : World) (B N : Nat) (gl : Int) (ins : List Int) (S : Nat → Prop) : Prop := ∃ bm sz, CodeE w B N ins.length bm (gE ins) sz gl ∧ sz ≤ cntE ins ∧ S = footE N bm
theorem entered_eq {ins : List Int} {s : Int} : enteredC ins.length (gE ins) s = if notIn ins s then 2 else if ins.getD s.toNat default < 0 then 51 else 0 := by
  unfold enteredC
  rw [hasB_iff]
  by_cases h : notIn ins s
  · rw [if_pos h, decide_eq_true h]; rfl
  · rw [if_neg h, decide_eq_false h]
    obtain ⟨k, rfl, hk⟩ := nat_of h
    rw [Int.toNat_natCast]
    by_cases h0 : 0 ≤ ins.getD k default
    · have e : (gE ins (k : Int)).isSome = true := by rw [gE_at hk, if_pos h0]; rfl
      rw [e, if_neg (show ¬ ins.getD k default < 0 by omega)]; rfl
    · have e : (gE ins (k : Int)).isSome = false := by rw [gE_at hk, if_neg h0]; rfl
      rw [e, if_pos (show ins.getD k default < 0 by omega)]; rfl
theorem least_eq {gl m : Int} {ins : List Int} (hg : GoodT gl ins) (h : LeastG gl (gE ins) (fun _ => false) m) : m = leastR gl ins := by
  obtain ⟨h1, h2⟩ := leastR_le gl ins
  have h3 := leastR_or gl ins
  have hm : m ≤ leastR gl ins := by
    rcases h3 with e | ⟨x, hx, h0, e⟩
    · rw [e]; exact h.le
    · rw [e]
      obtain ⟨k, hk, rfl⟩ := List.getElem_of_mem hx
      refine h.all (k : Int) _ ?_ rfl
      have e2 : ins.getD k default = ins[k] := by rw [List.getD_eq_getElem?_getD, List.getElem?_eq_getElem hk]; rfl
      rw [gE_at hk, e2, if_pos h0]
  have hm2 : leastR gl ins ≤ m := by
    rcases h.one with e | ⟨x, hx⟩
    · rw [e]; exact h1
    · by_cases hn : notIn ins x
      · rw [gE_out hn] at hx; cases hx
      · obtain ⟨k, rfl, hk⟩ := nat_of hn
        rw [gE_at hk] at hx
        split at hx
        · rename_i h0
          injection hx with hx
          injection hx with _ hx
          rw [← hx]
          exact h2 _ (getD_mem hk) h0
        · cases hx
  omega
theorem busy_eq (ins : List Int) : busyC (gE ins) ins.length = busyR ins := by
  unfold busyC busyR
  congr 1
  refine List.filter_congr (fun k hk => ?_)
  rw [List.mem_range] at hk
  rw [gE_at hk]
  by_cases h0 : 0 ≤ ins.getD k default
  · rw [if_pos h0, decide_eq_true h0]; rfl
  · rw [if_neg h0, decide_eq_false h0]; rfl
section
variable {w : World} {B N : Nat} {gl : Int} {ins : List Int} {S : Nat → Prop}
theorem AtE.enter (h : AtE w B N gl ins S) (hg : GoodT gl ins) (s : Int) (hs : I64 s) : Calls Try.prog 9 #[.pointer (some ⟨N, 0, none⟩), .int .i64 s] w fun e w' =>
    ∃ S', e = .returned (.tuple #[.int .i64 (enterR gl ins s).1, .int .i64 (enterR gl ins s).2.1]) ∧ AtE w' B N gl (enterR gl ins s).2.2 S' ∧ Moved S S' w w' := by
  obtain ⟨bm, sz, hC, hsz, rfl⟩ := h
  have hfew := hg.few
  have hcl := cnt_le ins
  by_cases hn : notIn ins s
  · have e1 : enterR gl ins s = (0, 2, ins) := by unfold enterR; rw [if_pos hn]
    rw [e1]
    refine (codeEnter_no hC hs (by rw [hasB_iff, decide_eq_true hn]; rfl)).mono ?_
    rintro e w' ⟨rfl, rfl⟩
    exact ⟨_, rfl, ⟨bm, sz, hC, hsz, rfl⟩, Moved.refl _ _⟩
  · obtain ⟨k, rfl, hk⟩ := nat_of hn
    by_cases h0 : 0 ≤ ins.getD k default
    · have e1 : enterR gl ins (k : Int) = (0, 31, ins) := by unfold enterR; rw [if_neg hn, Int.toNat_natCast, if_pos h0]
      rw [e1]
      refine (codeEnter_twice hC hs (by rw [hasB_iff, decide_eq_false hn]; rfl) (by rw [gE_at hk, if_pos h0]; rfl)).mono ?_
      rintro e w' ⟨rfl, rfl⟩
      exact ⟨_, rfl, ⟨bm, sz, hC, hsz, rfl⟩, Moved.refl _ _⟩
    · have e1 : enterR gl ins (k : Int) = (gl, 0, ins.set k gl) := by unfold enterR; rw [if_neg hn, Int.toNat_natCast, if_neg h0]
      rw [e1]
      refine (codeEnter_yes hC (by omega) hs (by rw [hasB_iff, decide_eq_false hn]; rfl) (by rw [gE_at hk, if_neg h0]; rfl)).mono ?_
      rintro e w' ⟨rfl, hC', ho⟩
      refine ⟨footE N bm, rfl, ⟨bm, sz + 1, ?_, ?_, rfl⟩, ho, fun x hx => .inl hx⟩
      · rw [List.length_set, gE_set hk, if_pos hg.lo]; exact hC'
      · rw [cnt_set hk, if_neg h0, if_pos hg.lo]; omega
theorem AtE.leave (h : AtE w B N gl ins S) (hg : GoodT gl ins) (s : Int) (hs : I64 s) : Calls Try.prog 11 #[.pointer (some ⟨N, 0, none⟩), .int .i64 s] w fun e w' =>
    ∃ S', e = .returned (.int .i64 (leaveR gl ins s false).2.1) ∧ AtE w' B N gl (leaveR gl ins s false).2.2 S' ∧ Moved S S' w w' := by
  obtain ⟨bm, sz, hC, hsz, rfl⟩ := h
  have he := entered_eq (ins := ins) (s := s)
  by_cases hn : notIn ins s
  · have e1 : leaveR gl ins s false = (0, 2, ins) := by unfold leaveR; rw [if_pos hn]
    rw [e1]
    rw [if_pos hn] at he
    refine (codeLeave_no hC hs he (by decide)).mono ?_
    rintro e w' ⟨rfl, rfl⟩
    exact ⟨_, rfl, ⟨bm, sz, hC, hsz, rfl⟩, Moved.refl _ _⟩
  · obtain ⟨k, rfl, hk⟩ := nat_of hn
    rw [if_neg hn, Int.toNat_natCast] at he
    by_cases h0 : ins.getD k default < 0
    · have e1 : leaveR gl ins (k : Int) false = (0, 51, ins) := by unfold leaveR; rw [if_neg hn, Int.toNat_natCast, if_pos h0]
      rw [e1]
      rw [if_pos h0] at he
      refine (codeLeave_no hC hs he (by decide)).mono ?_
      rintro e w' ⟨rfl, rfl⟩
      exact ⟨_, rfl, ⟨bm, sz, hC, hsz, rfl⟩, Moved.refl _ _⟩
    · have e1 : leaveR gl ins (k : Int) false = (0, 0, ins.set k (-1)) := by unfold leaveR; rw [if_neg hn, Int.toNat_natCast, if_neg h0]; rfl
      rw [e1]
      rw [if_neg h0] at he
      have h1 : 0 ≤ ins.getD k default := by omega
      refine (codeLeave_yes hC hs he (by rw [gE_at hk, if_pos h1]; rfl)).mono ?_
      rintro e w' ⟨rfl, hC', ho⟩
      refine ⟨footE N bm, rfl, ⟨bm, sz - 1, ?_, ?_, rfl⟩, ho, fun x hx => .inl hx⟩
      · rw [List.length_set, gE_set hk, if_neg (by decide)]; exact hC'
      · rw [cnt_set hk, if_pos h1, if_neg (by decide)]; omega
theorem AtE.refresh (h : AtE w B N gl ins S) (hg : GoodT gl ins) (s : Int) (hs : I64 s) : Calls Try.prog 13 #[.pointer (some ⟨N, 0, none⟩), .int .i64 s] w fun e w' =>
    ∃ S', e = .returned (.tuple #[.int .i64 (leaveR gl ins s true).1, .int .i64 (leaveR gl ins s true).2.1]) ∧ AtE w' B N gl (leaveR gl ins s true).2.2 S' ∧ Moved S S' w w' := by
  obtain ⟨bm, sz, hC, hsz, rfl⟩ := h
  have hfew := hg.few
  have hcl := cnt_le ins
  have he := entered_eq (ins := ins) (s := s)
  by_cases hn : notIn ins s
  · have e1 : leaveR gl ins s true = (0, 2, ins) := by unfold leaveR; rw [if_pos hn]
    rw [e1]
    rw [if_pos hn] at he
    refine (codeRefresh_no hC hs he (by decide)).mono ?_
    rintro e w' ⟨rfl, rfl⟩
    exact ⟨_, rfl, ⟨bm, sz, hC, hsz, rfl⟩, Moved.refl _ _⟩
  · obtain ⟨k, rfl, hk⟩ := nat_of hn
    rw [if_neg hn, Int.toNat_natCast] at he
    by_cases h0 : ins.getD k default < 0
    · have e1 : leaveR gl ins (k : Int) true = (0, 51, ins) := by unfold leaveR; rw [if_neg hn, Int.toNat_natCast, if_pos h0]
      rw [e1]
      rw [if_pos h0] at he
      refine (codeRefresh_no hC hs he (by decide)).mono ?_
      rintro e w' ⟨rfl, rfl⟩
      exact ⟨_, rfl, ⟨bm, sz, hC, hsz, rfl⟩, Moved.refl _ _⟩
    · have e1 : leaveR gl ins (k : Int) true = (gl, 0, ins.set k gl) := by unfold leaveR; rw [if_neg hn, Int.toNat_natCast, if_neg h0]; rfl
      rw [e1]
      rw [if_neg h0] at he
      have h1 : 0 ≤ ins.getD k default := by omega
      refine (codeRefresh_yes hC (by omega) hs he (by rw [gE_at hk, if_pos h1]; rfl)).mono ?_
      rintro e w' ⟨rfl, hC', ho⟩
      refine ⟨footE N bm, rfl, ⟨bm, sz, ?_, ?_, rfl⟩, ho, fun x hx => .inl hx⟩
      · rw [List.length_set, gE_set hk, if_pos hg.lo]; exact hC'
      · have := cnt_pos hk h1
        rw [cnt_set hk, if_pos h1, if_pos hg.lo]; omega
theorem AtE.advance (h : AtE w B N gl ins S) (hg : GoodT gl ins) : Calls Try.prog 14 #[.pointer (some ⟨N, 0, none⟩)] w fun e w' =>
    ∃ S', e = .returned (.tuple #[.int .i64 (advR gl ins).1, .int .i64 (advR gl ins).2.1]) ∧ AtE w' B N (advR gl ins).2.2 ins S' ∧ Moved S S' w w' := by
  obtain ⟨bm, sz, hC, hsz, rfl⟩ := h
  by_cases hm : gl = 2147483647
  · have e1 : advR gl ins = (0, 40, gl) := by unfold advR; rw [if_pos hm]
    rw [e1]
    refine (codeAdv_spent hC hm).mono ?_
    rintro e w' ⟨rfl, rfl⟩
    exact ⟨_, rfl, ⟨bm, sz, hC, hsz, rfl⟩, Moved.refl _ _⟩
  · refine (codeAdv hC gE_int hm hg.lo hg.hi).mono ?_
    rintro e w' ⟨m, hl, hx⟩
    have em := least_eq hg hl
    have hle := (leastR_le gl ins).1
    rcases hx with ⟨hlt, rfl, hb⟩ | ⟨hlt, rfl, hC', ho⟩
    · have e1 : advR gl ins = (0, 60, gl) := by unfold advR; rw [if_neg hm, if_pos (by omega)]
      rw [e1]
      exact ⟨_, rfl, ⟨bm, sz, hC.only (S := NoB) (Below.only hb) (fun _ _ h => h), hsz, rfl⟩, Moved.of_below hb⟩
    · have e1 : advR gl ins = (gl + 1, 0, gl + 1) := by unfold advR; rw [if_neg hm, if_neg (by omega)]
      rw [e1]
      exact ⟨footE N bm, rfl, ⟨bm, sz, hC', hsz, rfl⟩, ho, fun x hx => .inl hx⟩
end
theorem epSpec_is : Nonempty EpSpec := ⟨{
  At := AtE
  foot := fun h => by obtain ⟨bm, sz, hC, _, rfl⟩ := h; exact hC.foot_lt
  only := fun h ho hS => by obtain ⟨bm, sz, hC, hsz, rfl⟩ := h; exact ⟨bm, sz, hC.only ho hS, hsz, rfl⟩
  new_ := fun n f w h0 h1 h2 h3 => (codeNew n f w h0 h1 h2 h3).mono (by
    rintro e w' ⟨rfl, hC, hb⟩
    have e1 : gE (List.replicate n (-1)) = fun _ => none := by
      funext s
      by_cases hn : notIn (List.replicate n (-1)) s
      · exact gE_out hn
      · obtain ⟨k, rfl, hk⟩ := nat_of hn
        have e2 : (List.replicate n (-1 : Int)).getD k default = -1 := List.eq_of_mem_replicate (getD_mem hk)
        rw [gE_at hk, e2, if_neg (by decide)]
    exact ⟨_, _, rfl, ⟨w.heap.size, 0, by rw [List.length_replicate, e1]; exact hC, Nat.zero_le _, rfl⟩, hb⟩)
  newBad := fun n f w _ _ h => codeNewBad n f w h
  enter_ := fun s h hg hs => h.enter hg s hs
  leave_ := fun s h hg hs => h.leave hg s hs
  refresh_ := fun s h hg hs => h.refresh hg s hs
  advance_ := fun h hg => h.advance hg
  global_ := fun h hg => by
    obtain ⟨bm, sz, hC, _, rfl⟩ := h
    exact (codeGlobal_any hC).mono (by rintro e w' ⟨rfl, rfl⟩; exact ⟨rfl, Below.refl _ _⟩)
  least_ := fun h hg => by
    obtain ⟨bm, sz, hC, _, rfl⟩ := h
    exact (codeLeast hC gE_int).mono (by rintro e w' ⟨m, rfl, hm, hb⟩; rw [least_eq hg hm]; exact ⟨rfl, hb⟩)
  in_ := fun {w B N gl ins S} s h hg hs => by
    obtain ⟨bm, sz, hC, _, rfl⟩ := h
    refine (codeIn_any hC hs).mono ?_
    rintro e w' ⟨rfl, rfl⟩
    refine ⟨?_, Below.refl _ _⟩
    unfold inR
    by_cases hn : notIn ins s
    · rw [gE_out hn, if_pos hn]; rfl
    · rw [if_neg hn]
      obtain ⟨k, rfl, hk⟩ := nat_of hn
      rw [gE_at hk, Int.toNat_natCast]
      by_cases h0 : 0 ≤ ins.getD k default
      · rw [if_pos h0, if_pos h0]; rfl
      · rw [if_neg h0, if_neg h0]; rfl
  busy_ := fun {w B N gl ins S} h hg => by
    obtain ⟨bm, sz, hC, _, rfl⟩ := h
    have hfew := hg.few
    refine (codeBusy hC (by omega)).mono ?_
    rintro e w' ⟨v, rfl, hr, hb⟩
    rw [busy_eq] at hr
    exact ⟨v, rfl, hr, hb⟩ }⟩
end Go.Proofs.Ytcklafaoijodbaa
