/- The document's own Fold: the runes turned in place, then a text again. -/
import Derived.Test.YtcmikojlcckabaaRef
set_option linter.unusedVariables false
namespace Go.Proofs.Ytcmikojlcckabaa
open Go Go.RowKit

def folded (rs : List Int) (k : Nat) : List Int := (rs.take k).map foldR ++ rs.drop k
theorem folded_length (rs : List Int) (k : Nat) : (folded rs k).length = rs.length := by
  unfold folded
  rw [List.length_append, List.length_map, ← List.length_append, List.take_append_drop]
theorem folded_at (rs : List Int) (k : Nat) (h : k < rs.length) : (folded rs k).getD k 0 = rs.getD k 0 := by
  unfold folded
  have hl : ((rs.take k).map foldR).length = k := by rw [List.length_map, List.length_take]; omega
  rw [List.getD_eq_getElem?_getD, List.getElem?_append_right (by omega), hl, Nat.sub_self, List.getElem?_drop]
  simp [List.getD_eq_getElem?_getD]
theorem folded_succ (rs : List Int) (k : Nat) (h : k < rs.length) : folded rs (k + 1) = (folded rs k).set k (foldR (rs.getD k 0)) := by
  unfold folded
  have hl : ((rs.take k).map foldR).length = k := by rw [List.length_map, List.length_take]; omega
  rw [List.set_append_right _ _ (by omega), hl, Nat.sub_self, List.drop_eq_getElem_cons h, List.set_cons_zero, List.take_succ_eq_append_getElem h, List.map_append, List.append_assoc]
  simp [List.getD_eq_getElem?_getD, List.getElem?_eq_getElem h]
theorem set_same (l : List Int) (k : Nat) (x : Int) (h : k < l.length) (e : l.getD k 0 = x) : l.set k x = l := by
  apply List.ext_getElem
  · simp
  · intro i h1 h2
    rw [List.getElem_set]
    split
    · rename_i hki
      subst hki
      rw [← e]
      simp [List.getD_eq_getElem?_getD, List.getElem?_eq_getElem h]
    · rfl
theorem folded_keep (rs : List Int) (k : Nat) (h : k < rs.length) (e : foldR (rs.getD k 0) = rs.getD k 0) : folded rs (k + 1) = folded rs k := by
  rw [folded_succ rs k h, e]
  exact set_same _ _ _ (by rw [folded_length]; exact h) (folded_at rs k h)

/-- The spans in which every test of Fold is decided. -/
theorem foldSpans {p : Prop} (r : Int) (h1 : r < 65 → (r == 215) = false → (r != 215) = true → foldR r = r → p) (h2 : 65 ≤ r → r ≤ 90 → (r == 215) = false → (r != 215) = true → foldR r = r + 32 → p)
    (h3 : 91 ≤ r → r < 192 → (r == 215) = false → (r != 215) = true → foldR r = r → p) (h4 : 192 ≤ r → r ≤ 222 → (r == 215) = false → (r != 215) = true → foldR r = r + 32 → p)
    (h5 : 192 ≤ r → r ≤ 222 → (r == 215) = true → (r != 215) = false → foldR r = r → p) (h6 : 223 ≤ r → (r == 215) = false → (r != 215) = true → foldR r = r → p) : p := by
  by_cases a5 : r = 215
  · subst a5; exact h5 (by omega) (by omega) rfl rfl (foldR_no (by omega))
  have b1 : (r == 215) = false := beq_eq_false_iff_ne.2 a5
  have b2 : (r != 215) = true := bne_iff_ne.2 a5
  by_cases a1 : r < 65
  · exact h1 a1 b1 b2 (foldR_no (by omega))
  by_cases a2 : r ≤ 90
  · exact h2 (by omega) a2 b1 b2 (foldR_yes (by omega))
  by_cases a3 : r < 192
  · exact h3 (by omega) a3 b1 b2 (foldR_no (by omega))
  by_cases a4 : r ≤ 222
  · exact h4 (by omega) a4 b1 b2 (foldR_yes (by omega))
  · exact h6 (by omega) b1 b2 (foldR_no (by omega))

theorem Row.cellAt {w : World} {B g n c : Nat} {rs : List Int} (h : Row w B (.slice (some ⟨g, 0, none⟩) n c) rs) {k : Nat} (hk : k < rs.length) : w.cell? ⟨g, k, none⟩ = some (.int .i32 (rs.getD k 0)) := by
  unfold Row at h
  obtain rfl : n = rs.length := by
    rcases h.2 with ⟨hv, _⟩ | ⟨g', cap', cur, hv, _⟩
    · cases hv
    · injection hv
  rw [World.ownsRow.cellAt h k (by omega)]
  simp [List.getD_eq_getElem?_getD, List.getElem?_eq_getElem hk]
theorem Row.stored {w : World} {B g n c : Nat} {rs : List Int} (h : Row w B (.slice (some ⟨g, 0, none⟩) n c) rs) (k : Nat) (x : Int) : Row (w.setCell ⟨g, k, none⟩ (.int .i32 x)) B (.slice (some ⟨g, 0, none⟩) n c) (rs.set k x) := by
  unfold Row at h ⊢
  obtain rfl : n = rs.length := by
    rcases h.2 with ⟨hv, _⟩ | ⟨g', cap', cur, hv, _⟩
    · cases hv
    · injection hv
  have := (World.ownsRow.stored h k (.int .i32 x)).1
  rw [List.length_set]
  simpa [List.map_set] using this

set_option maxHeartbeats 2000000 in
set_option maxRecDepth 100000 in
theorem refFold_any (s : ByteArray) (w : World) (hs : s.size ≤ 1000000) :
    Calls Try.prog 11 #[.string s] w fun e w' => e = .returned (.string ⟨(foldL s.data.toList).toArray⟩) ∧ Below w.heap.size w w' := by
  have hrl := runes_le s
  have hok := okR_runes s.data.toList
  have hRunes := fun W => refRunes_any s W hs
  have HF : Hid (foldL s.data.toList = text ((runes s.data.toList).map foldR)) := Lib.hid rfl
  generalize foldL s.data.toList = out at *
  generalize runes s.data.toList = rs at *
  have HRunes := Lib.hid hRunes
  have HOk := Lib.hid hok
  clear hRunes hok
  have hlen : rs.length ≤ 1000000 := by omega
  clear hrl
  go_enter Try.func11, Try.ntmps11
  go_wp2_with (go_at_call 13; refine (HRunes.out _).mono ?_; rintro e w1 ⟨v, rfl, hrow, hb⟩; obtain ⟨A, c, rfl, hnc, hrd⟩ := hrow.rd)
  clear hrd
  go_loopw [4] (fun i wr => ∃ k : Nat, k ≤ rs.length ∧ i = .int .i64 (k : Nat) ∧ Row wr (w.heap.size + 1) (.slice A rs.length c) (folded rs k) ∧ Below w.heap.size w wr) (fun i _ => rs.length - (intOf i).toNat)
  case atStart => exact ⟨0, Nat.zero_le _, rfl, by simpa [folded] using hrow, hb⟩
  case round =>
    obtain ⟨k, hk, rfl, hrow', hb'⟩ := hrel
    clear hrow hb
    by_cases hlt : k < rs.length
    · obtain ⟨g, rfl, hg⟩ : ∃ g, A = some ⟨g, 0, none⟩ ∧ w.heap.size ≤ g := by
        have hrr := hrow'
        unfold Row at hrr
        rcases hrr.2 with ⟨hv, hl⟩ | ⟨g, cap, cur, hv, hB, _⟩
        · rw [folded_length] at hl; omega
        · injection hv with hv
          exact ⟨g, hv, by omega⟩
      have hcell := hrow'.cellAt (k := k) (by rw [folded_length]; exact hlt)
      have hfz : wr.frozen? ⟨g, k, none⟩ = false := World.ownsRow.frozenAt (by have h2 := hrow'; unfold Row at h2; rw [folded_length] at h2; exact h2) k
      rw [folded_at rs k hlt] at hcell
      have hsu := folded_succ rs k hlt
      have hke := folded_keep rs k hlt
      have hrok : okR (rs.getD k 0) = true := HOk.out _ (by rw [List.getD_eq_getElem?_getD, List.getElem?_eq_getElem hlt]; exact List.getElem_mem hlt)
      obtain ⟨r, hr⟩ : ∃ r, rs.getD k 0 = r := ⟨_, rfl⟩
      rw [hr] at hcell hsu hke hrok
      have hr1 := okR_range hrok
      obtain ⟨hr0, hr1⟩ := hr1
      have HSu := Lib.hid hsu
      have HKe := Lib.hid hke
      clear hsu hke hr hrok
      refine foldSpans r ?_ ?_ ?_ ?_ ?_ ?_
      all_goals intros
      all_goals (rename_i hfr; have HFr := Lib.hid hfr; clear hfr)
      all_goals go_wp2
      all_goals go_roundw
      all_goals first
        | (exact ⟨k + 1, by omega, by go_num, by rw [HKe.out HFr.out]; exact hrow', hb'⟩)
        | (exact ⟨k + 1, by omega, by go_num, by rw [HSu.out, HFr.out]; exact hrow'.stored k _, hb'.setCell (p := ⟨g, k, none⟩) hg _⟩)
        | (simp [intOf]; omega)
    · obtain rfl : k = rs.length := by omega
      have hfl : folded rs rs.length = rs.map foldR := by simp [folded]
      rw [hfl] at hrow'
      have hrd := hrow'.rd
      obtain ⟨A', c', he, hnc', hrd⟩ := hrd
      obtain ⟨rfl, hm, rfl⟩ : A = A' ∧ rs.length = (rs.map foldR).length ∧ c = c' := by injection he with e1 e2 e3; exact ⟨e1, e2, e3⟩
      have hmt : Calls Try.prog 24 #[.slice A rs.length c] wr fun e w' => e = .returned (.string ⟨out.toArray⟩) ∧ wr = w' := by
        rw [HF.out]
        have := refText_any A c (rs.map foldR) wr hrd hnc' (by rw [← hm]; exact hlen)
        rw [← hm] at this
        exact this
      have HT := Lib.hid hmt
      clear hmt he hm hfl hrd
      go_wp2_with (go_at_call 24; refine HT.out.mono ?_; rintro e w2 ⟨rfl, rfl⟩)
      go_ret
      exact ⟨rfl, hb'⟩
end Go.Proofs.Ytcmikojlcckabaa
