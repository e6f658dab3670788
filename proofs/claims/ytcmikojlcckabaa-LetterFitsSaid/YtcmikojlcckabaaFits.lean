/- Patterns, as the program looks: for each beginning of the pattern whether the runes so far fit it. -/
import Derived.Test.YtcmikojlcckabaaSlice
import Derived.Laws.IdiomStrings
set_option linter.unusedVariables false
namespace Go.Proofs.Ytcmikojlcckabaa
open Go Go.RowKit

/-- The first k + 1 of n answers. -/
def part (f : Nat → Bool) (n k : Nat) : List Bool := (List.range n).map (fun j => decide (j ≤ k) && f j)
theorem part_length (f : Nat → Bool) (n k : Nat) : (part f n k).length = n := by simp [part]
theorem part_at (f : Nat → Bool) (n k j : Nat) (hj : j < n) (hk : j ≤ k) : (part f n k).getD j false = f j := by
  unfold part
  rw [List.getD_eq_getElem?_getD, List.getElem?_map, List.getElem?_range hj]
  simp [hk]
theorem part_succ (f : Nat → Bool) (n k : Nat) : part f n (k + 1) = (part f n k).set (k + 1) (f (k + 1)) := by
  apply List.ext_getElem
  · simp [part_length]
  · intro j h1 h2
    rw [List.getElem_set]
    split
    · rename_i h; subst h; simp [part]
    · rename_i h
      simp only [part, List.getElem_map, List.getElem_range]
      have e : decide (j ≤ k + 1) = decide (j ≤ k) := by rw [decide_eq_decide]; omega
      rw [e]
theorem part_set0 (f : Nat → Bool) (n : Nat) : (List.replicate n false).set 0 (f 0) = part f n 0 := by
  apply List.ext_getElem
  · simp [part_length]
  · intro j h1 h2
    rw [List.getElem_set]
    split
    · rename_i h; subst h; simp [part]
    · rename_i h
      have e : decide (j ≤ 0) = false := by rw [decide_eq_false_iff_not]; omega
      simp only [part, List.getElem_map, List.getElem_range, e, List.getElem_replicate, Bool.false_and]
theorem part_zero (f : Nat → Bool) (n : Nat) (h : f 0 = false) : List.replicate n false = part f n 0 := by
  rw [← part_set0, h]
  apply List.ext_getElem
  · simp
  · intro j h1 h2
    rw [List.getElem_set]
    split <;> simp
theorem part_full (f : Nat → Bool) (n k : Nat) (h : n ≤ k + 1) : part f n k = (List.range n).map f := by
  unfold part
  apply List.map_congr_left
  intro j hj
  rw [List.mem_range] at hj
  have e : decide (j ≤ k) = true := decide_eq_true (by omega)
  rw [e, Bool.true_and]

/-- Which beginnings of the pattern the runes (the last ahead) fit. -/
def reachF (s ps : List Int) (j : Nat) : Bool := fitsL s (ps.take j).reverse
def reach (s ps : List Int) : List Bool := (List.range (ps.length + 1)).map (reachF s ps)
theorem reach_length (s ps : List Int) : (reach s ps).length = ps.length + 1 := by simp [reach]
theorem reach_at (s ps : List Int) (j : Nat) (h : j ≤ ps.length) : (reach s ps).getD j false = reachF s ps j := by
  unfold reach
  rw [List.getD_eq_getElem?_getD, List.getElem?_map, List.getElem?_range (by omega)]
  rfl
theorem take_rev (ps : List Int) (k : Nat) (h : k < ps.length) : (ps.take (k + 1)).reverse = ps.getD k 0 :: (ps.take k).reverse := by
  rw [List.take_succ_eq_append_getElem h]
  simp [List.getD_eq_getElem?_getD, List.getElem?_eq_getElem h]
theorem reach_nil_zero (ps : List Int) : reachF [] ps 0 = true := by simp [reachF, fitsL]
theorem reach_cons_zero (c : Int) (s ps : List Int) : reachF (c :: s) ps 0 = false := by simp [reachF, fitsL]
theorem reach_nil_succ (ps : List Int) (k : Nat) (h : k < ps.length) : reachF [] ps (k + 1) = (reachF [] ps k && (ps.getD k 0 == 42)) := by
  unfold reachF
  rw [take_rev ps k h]
  conv => lhs; unfold fitsL
  rw [Bool.and_comm]
theorem reach_star (c : Int) (s ps : List Int) (k : Nat) (h : k < ps.length) (h42 : ps.getD k 0 = 42) : reachF (c :: s) ps (k + 1) = (reachF (c :: s) ps k || reachF s ps (k + 1)) := by
  unfold reachF
  rw [take_rev ps k h]
  conv => lhs; unfold fitsL
  rw [if_pos h42]
theorem reach_one (c : Int) (s ps : List Int) (k : Nat) (h : k < ps.length) (h42 : ps.getD k 0 ≠ 42) : reachF (c :: s) ps (k + 1) = ((ps.getD k 0 == 63 || ps.getD k 0 == c) && reachF s ps k) := by
  unfold reachF
  rw [take_rev ps k h]
  conv => lhs; unfold fitsL
  rw [if_neg h42]

/-- A row of bools that the call owns; what lies at an address on: these bools. -/
def RowB (w : World) (B g : Nat) (bs : List Bool) : Prop := w.ownsRow B 4 1 (.slice (some ⟨g, 0, none⟩) bs.length bs.length) bs.length (bs.map Value.bool)
theorem RowB.cellAt {w : World} {B g : Nat} {bs : List Bool} (h : RowB w B g bs) {k : Nat} (hk : k < bs.length) : w.cell? ⟨g, k, none⟩ = some (.bool (bs.getD k false)) := by
  unfold RowB at h
  rw [World.ownsRow.cellAt h k (by omega)]
  simp [List.getD_eq_getElem?_getD, List.getElem?_eq_getElem hk]
theorem RowB.free {w : World} {B g : Nat} {bs : List Bool} (h : RowB w B g bs) (k : Nat) : w.frozen? ⟨g, k, none⟩ = false := by
  unfold RowB at h
  exact World.ownsRow.frozenAt h k
theorem RowB.stored {w : World} {B g : Nat} {bs : List Bool} (h : RowB w B g bs) (k : Nat) (x : Bool) : RowB (w.setCell ⟨g, k, none⟩ (.bool x)) B g (bs.set k x) := by
  unfold RowB at h ⊢
  have := (World.ownsRow.stored h k (.bool x)).1
  rw [List.length_set]
  simpa [List.map_set] using this
theorem RowB.lt {w : World} {B g : Nat} {bs : List Bool} (h : RowB w B g bs) : B ≤ g ∧ g < w.heap.size := World.ownsRow.lt h g rfl
theorem RowB.below {w w' : World} {B B' g : Nat} {bs : List Bool} (h : RowB w B g bs) (hb : Below B' w w') (hg : g < B') : RowB w' B g bs := by
  unfold RowB at h ⊢
  rcases h.2 with ⟨hv, _⟩ | ⟨g', cap, cur, hv, hB, hgg, hrest⟩
  · cases hv
  · have e : g = g' := by injection hv with hv; injection hv with hv; injection hv
    subst e
    exact ⟨h.1, .inr ⟨g, cap, cur, hv, hB, (hb.block g hg).trans hgg, hrest⟩⟩
theorem RowB.low {w : World} {B B' g : Nat} {bs : List Bool} (h : RowB w B g bs) (hB : B' ≤ B) : RowB w B' g bs := by
  unfold RowB at h ⊢
  rcases h.2 with hv | ⟨g', cap, cur, hv, hb, hrest⟩
  · exact ⟨h.1, .inl hv⟩
  · exact ⟨h.1, .inr ⟨g', cap, cur, hv, by omega, hrest⟩⟩
theorem RowB.eq {w : World} {B g : Nat} {bs bs' : List Bool} (h : RowB w B g bs) (e : bs = bs') : RowB w B g bs' := e ▸ h
theorem Rd.below {w w' : World} {B : Nat} {A : Option Addr} {rs : List Int} (h : Rd w A rs) (hB : w.heap.size ≤ B) (hb : Below B w w') : Rd w' A rs := by
  intro k hk
  obtain ⟨ad, e, hlt, hc⟩ := h k hk
  refine ⟨ad, e, Nat.lt_of_lt_of_le hlt hb.size, ?_⟩
  have hbl : (ad.add k).block = ad.block := by unfold Addr.add; split <;> rfl
  rw [World.cell?_of_block (hb.block _ (by omega))]
  exact hc
theorem Rd.at1 {w : World} {A : Option Addr} {rs : List Int} (h : Rd w A rs) {k : Nat} (hk : k < rs.length) : ∃ ad, A = some ad ∧ w.cell? (ad.add k) = some (.int .i32 (rs.getD k 0)) := by
  obtain ⟨ad, e, _, hc⟩ := h k hk
  exact ⟨ad, e, hc⟩
def BoolsPost (w : World) (bs : List Bool) (e : Ending) (w' : World) : Prop := ∃ g, e = .returned (.slice (some ⟨g, 0, none⟩) bs.length bs.length) ∧ RowB w' w.heap.size g bs ∧ Below w.heap.size w w'

theorem ret_bools {g n : Nat} {bs : List Bool} (h : bs.length = n) : Ending.returned (.slice (some ⟨g, 0, none⟩) n n) = .returned (.slice (some ⟨g, 0, none⟩) bs.length bs.length) := by rw [h]
theorem bool_info : (Try.prog.info? 4).map (fun i => (i.zero, i.size, i.bytes)) = some (some (.bool false), 1, 1) := by kernel_rfl
theorem make_bools (w : World) (n : Nat) (h : n ≤ 1000000000) : ∃ w1, (Instr.makeSlice 52 (.int .i64 (n : Int)) (.int .i64 (n : Int))).run Try.prog w = .ok (.slice (some ⟨w.heap.size, 0, none⟩) n n) w1 ∧
    RowB w1 w.heap.size w.heap.size (List.replicate n false) ∧ Below w.heap.size w w1 := by
  obtain ⟨i0, hi, hz0, hz1, hz2⟩ := info_parts bool_info
  obtain ⟨w1, hr, hown, hg⟩ := run_make_full (P := Try.prog) w w.heap.size 52 4 i0 (.bool false) 1 Try.underlying52 hi hz0 hz1 .i64 .i64 n (by rw [hz2]; omega) (by unfold maxLen; omega) (Nat.le_refl _)
  refine ⟨w1, hr, ?_, (Below.refl _ _).grown hg (Nat.le_refl _) (by simp)⟩
  unfold RowB
  have e : (madeCells (Value.bool false).cells (n * 1)).toList = (List.replicate n false).map Value.bool := by
    have : (Value.bool false).cells = #[.bool false] := rfl
    rw [this, toList_madeCells_one]
    simp
  rw [← e, List.length_replicate]
  exact hown

set_option maxHeartbeats 1000000 in
set_option maxRecDepth 100000 in
theorem fittingNone_any (A : Option Addr) (c : Nat) (ps : List Int) (w : World) (h : Rd w A ps) (hc : ps.length ≤ c) (hlen : ps.length ≤ 1000000) :
    Calls Try.prog 35 #[.slice A ps.length c] w (BoolsPost w (reach [] ps)) := by
  obtain ⟨w1, hrun, hrow, hb⟩ := make_bools w (ps.length + 1) (by omega)
  have hrun' : (Instr.makeSlice 52 (.int .i64 ((ps.length : Int) + 1)) (.int .i64 ((ps.length : Int) + 1))).run Try.prog w = .ok (.slice (some ⟨w.heap.size, 0, none⟩) (ps.length + 1) (ps.length + 1)) w1 := by
    rw [show ((ps.length : Int) + 1) = ((ps.length + 1 : Nat) : Int) from by omega]; exact hrun
  clear hrun
  have hc0 := hrow.cellAt (k := 0) (by simp)
  have hf0 := hrow.free 0
  have hrow1 : RowB (w1.setCell ⟨w.heap.size, 0, none⟩ (.bool true)) w.heap.size w.heap.size (part (reachF [] ps) (ps.length + 1) 0) := by
    refine (hrow.stored 0 true).eq ?_
    rw [← reach_nil_zero ps]
    exact part_set0 _ _
  have hb1 : Below w.heap.size w (w1.setCell ⟨w.heap.size, 0, none⟩ (.bool true)) := hb.setCell (p := ⟨w.heap.size, 0, none⟩) (Nat.le_refl _) _
  have HRow := Lib.hid hrow1
  have HRd := Lib.hid h
  clear hrow h hrow1
  go_enter Try.func35, Try.ntmps35
  go_wp2
  clear hrun' hc0 hf0 hb
  go_loopw [14] (fun i wr => ∃ k : Nat, k ≤ ps.length ∧ i = .int .i64 (k : Nat) ∧ RowB wr w.heap.size w.heap.size (part (reachF [] ps) (ps.length + 1) k) ∧ Below w.heap.size w wr) (fun i _ => ps.length - (intOf i).toNat)
  case atStart => exact ⟨0, Nat.zero_le _, rfl, HRow.out, hb1⟩
  case round =>
    obtain ⟨k, hk, rfl, hrow', hb'⟩ := hrel
    clear HRow hb1
    by_cases hlt : k < ps.length
    · obtain ⟨ad, rfl, hcp⟩ := (HRd.out.below (Nat.le_refl _) hb').at1 hlt
      have hck := hrow'.cellAt (k := k) (by rw [part_length]; omega)
      have hcs := hrow'.cellAt (k := k + 1) (by rw [part_length]; omega)
      have hfs := hrow'.free (k + 1)
      rw [part_at _ _ _ _ (by omega) (Nat.le_refl _)] at hck
      have hst := hrow'.stored (k + 1)
      have hsu := reach_nil_succ ps k hlt
      obtain ⟨r, hr⟩ : ∃ r, ps.getD k 0 = r := ⟨_, rfl⟩
      rw [hr] at hcp hsu
      have HSu := Lib.hid hsu
      have HSt := Lib.hid hst
      clear hsu hst hr
      cases hbk : reachF [] ps k
      all_goals (cases h42 : (r == 42))
      all_goals (rw [hbk] at hck)
      all_goals (have HBk := Lib.hid hbk; clear hbk)
      all_goals go_wp2
      all_goals go_roundw
      all_goals first
        | (exact ⟨k + 1, by omega, by go_num, (HSt.out _).eq (by rw [part_succ, HSu.out, HBk.out, h42]; rfl), hb'.setCell (p := ⟨w.heap.size, k + 1, none⟩) (Nat.le_refl _) _⟩)
        | (simp [intOf]; omega)
    · obtain rfl : k = ps.length := by omega
      have hpf := part_full (reachF [] ps) (ps.length + 1) ps.length (Nat.le_refl _)
      go_wp2
      go_ret
      have hrl := reach_length [] ps
      exact ⟨w.heap.size, ret_bools hrl, hrow'.eq hpf, hb'⟩

set_option maxHeartbeats 4000000 in
set_option maxRecDepth 100000 in
theorem fittingNext_any (A : Option Addr) (c g m B : Nat) (s ps : List Int) (r : Int) (w : World) (h : Rd w A ps) (hm : m = ps.length + 1) (hr : RowB w B g (reach s ps)) (hc : ps.length ≤ c) (hlen : ps.length ≤ 1000000) :
    Calls Try.prog 36 #[.slice (some ⟨g, 0, none⟩) m m, .slice A ps.length c, .int .i32 r] w (BoolsPost w (reach (r :: s) ps)) := by
  subst hm
  obtain ⟨w1, hrun, hrow, hb⟩ := make_bools w (ps.length + 1) (by omega)
  have hrun' : (Instr.makeSlice 52 (.int .i64 ((ps.length : Int) + 1)) (.int .i64 ((ps.length : Int) + 1))).run Try.prog w = .ok (.slice (some ⟨w.heap.size, 0, none⟩) (ps.length + 1) (ps.length + 1)) w1 := by
    rw [show ((ps.length : Int) + 1) = ((ps.length + 1 : Nat) : Int) from by omega]; exact hrun
  clear hrun
  have hglt := hr.lt.2
  have HOld := Lib.hid hr
  have HRow := Lib.hid (hrow.eq (part_zero (reachF (r :: s) ps) (ps.length + 1) (reach_cons_zero r s ps)))
  have HRd := Lib.hid h
  clear hrow h hr
  go_enter Try.func36, Try.ntmps36
  go_wp2
  clear hrun'
  go_loopw [15] (fun i wr => ∃ k : Nat, k ≤ ps.length ∧ i = .int .i64 (k : Nat) ∧ RowB wr w.heap.size w.heap.size (part (reachF (r :: s) ps) (ps.length + 1) k) ∧ Below w.heap.size w wr) (fun i _ => ps.length - (intOf i).toNat)
  case atStart => exact ⟨0, Nat.zero_le _, rfl, HRow.out, hb⟩
  case round =>
    obtain ⟨k, hk, rfl, hrow', hb'⟩ := hrel
    clear HRow hb
    by_cases hlt : k < ps.length
    · obtain ⟨ad, rfl, hcp⟩ := (HRd.out.below (Nat.le_refl _) hb').at1 hlt
      have hold := HOld.out.below hb' hglt
      have ho0 := hold.cellAt (k := k) (by rw [reach_length]; omega)
      have ho1 := hold.cellAt (k := k + 1) (by rw [reach_length]; omega)
      rw [reach_at _ _ _ (by omega)] at ho0 ho1
      have hck := hrow'.cellAt (k := k) (by rw [part_length]; omega)
      have hcs := hrow'.cellAt (k := k + 1) (by rw [part_length]; omega)
      have hfs := hrow'.free (k + 1)
      rw [part_at _ _ _ _ (by omega) (Nat.le_refl _)] at hck
      have hst := hrow'.stored (k + 1)
      have h1 := reach_star r s ps k hlt
      have h2 := reach_one r s ps k hlt
      obtain ⟨p, hp⟩ : ∃ p, ps.getD k 0 = p := ⟨_, rfl⟩
      rw [hp] at hcp h1 h2
      have H1 := Lib.hid h1
      have H2 := Lib.hid h2
      have HSt := Lib.hid hst
      clear h1 h2 hst hp hold
      by_cases h42 : p = 42
      · have e42 : (p == 42) = true := beq_iff_eq.2 h42
        have H3 := Lib.hid (H1.out h42)
        clear h42 H1 H2
        cases hbk : reachF (r :: s) ps k
        all_goals (cases hbo : reachF s ps (k + 1))
        all_goals (rw [hbk] at hck)
        all_goals (rw [hbo] at ho1)
        all_goals (have HBk := Lib.hid hbk; have HBo := Lib.hid hbo; clear hbk hbo ho0)
        all_goals go_wp2
        all_goals go_roundw
        all_goals first
          | (exact ⟨k + 1, by omega, by go_num, (HSt.out _).eq (by rw [part_succ, H3.out, HBk.out, HBo.out]; rfl), hb'.setCell (p := ⟨w.heap.size, k + 1, none⟩) (Nat.le_refl _) _⟩)
          | (simp [intOf]; omega)
      · have e42 : (p == 42) = false := beq_eq_false_iff_ne.2 h42
        have H3 := Lib.hid (H2.out h42)
        clear h42 H1 H2
        cases hbo : reachF s ps k
        all_goals (cases e63 : (p == 63))
        all_goals (cases epr : (p == r))
        all_goals (rw [hbo] at ho0)
        all_goals (have HBo := Lib.hid hbo; clear hbo ho1 hck)
        all_goals go_wp2
        all_goals go_roundw
        all_goals first
          | (exact ⟨k + 1, by omega, by go_num, (HSt.out _).eq (by rw [part_succ, H3.out, HBo.out, e63, epr]; rfl), hb'.setCell (p := ⟨w.heap.size, k + 1, none⟩) (Nat.le_refl _) _⟩)
          | (simp [intOf]; omega)
    · obtain rfl : k = ps.length := by omega
      have hpf := part_full (reachF (r :: s) ps) (ps.length + 1) ps.length (Nat.le_refl _)
      have hrl := reach_length (r :: s) ps
      have HPf := Lib.hid hpf
      have HRl := Lib.hid hrl
      clear hpf hrl
      go_wp2
      go_ret
      exact ⟨w.heap.size, ret_bools HRl.out, hrow'.eq HPf.out, hb'⟩
end Go.Proofs.Ytcmikojlcckabaa
