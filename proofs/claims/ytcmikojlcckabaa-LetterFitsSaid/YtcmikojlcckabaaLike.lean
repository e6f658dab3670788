/- Whether a text fits a pattern: the program's fits and Like. -/
import Derived.Test.YtcmikojlcckabaaFits
set_option linter.unusedVariables false
namespace Go.Proofs.Ytcmikojlcckabaa
open Go Go.RowKit

theorem RowB.iterAt {w : World} {B g K : Nat} {bs : List Bool} {s : ByteArray} {pos : Nat} (h : RowB w B g bs) (hk : w.heap[K]? = some (.stringIter s pos)) (p : Nat) : RowB (w.iterAt K s p) B g bs := by
  unfold RowB at h ⊢
  rcases h.2 with ⟨hv, _⟩ | ⟨g', cap, cur, hv, hB, hgg, hrest⟩
  · cases hv
  · have e : g = g' := by injection hv with hv; injection hv with hv; injection hv
    subst e
    have hne : g ≠ K := by
      intro e1
      rw [e1, hk] at hgg
      cases hgg
    exact ⟨h.1, .inr ⟨g, cap, cur, hv, hB, (Lib.iterAt_other w K g s p hne).trans hgg, hrest⟩⟩
theorem iter_keep {w w' : World} {K : Nat} {s : ByteArray} {pos : Nat} (hk : w.heap[K]? = some (.stringIter s pos)) (hb : Below w.heap.size w w') : w'.heap[K]? = some (.stringIter s pos) :=
  (hb.block K (Array.getElem?_eq_some_iff.1 hk).1).trans hk
theorem reach_last (s ps : List Int) : reachF s ps ps.length = fitsL s ps.reverse := by unfold reachF; rw [List.take_length]

set_option maxHeartbeats 1000000 in
set_option maxRecDepth 100000 in
theorem fits_any (s : ByteArray) (A : Option Addr) (c n : Nat) (ps : List Int) (w : World) (hs : s.size ≤ 1000000) (h : Rd w A ps) (hn : n = ps.length) (hc : ps.length ≤ c) (hlen : ps.length ≤ 1000000) :
    Calls Try.prog 27 #[.string s, .slice A n c] w fun e w' => e = .returned (.bool (fitsL (runes s.data.toList).reverse ps.reverse)) ∧ Below w.heap.size w w' := by
  subst hn
  have HRd := Lib.hid h
  have hnone := fun W (hW : Rd W A ps) => fittingNone_any A c ps W hW hc hlen
  have HNone := Lib.hid hnone
  clear hnone
  have hrl0 := reach_length [] ps
  go_enter Try.func27, Try.ntmps27
  go_wp2_with (go_at_call 35; refine (HNone.out _ h).mono ?_; rintro e w1 ⟨g0, rfl, hrow0, hb1⟩; clear h; rw [hrl0]; have HRow0 := Lib.hid hrow0; have HRl0 := Lib.hid hrl0; clear hrow0 hrl0)
  go_loopw [5] (fun x wr => ∃ (pos g : Nat) (done : List Int), x = .slice (some ⟨g, 0, none⟩) (ps.length + 1) (ps.length + 1) ∧ RowB wr w.heap.size g (reach done.reverse ps) ∧ wr.heap[w1.heap.size]? = some (.stringIter s pos) ∧ Below w.heap.size w wr ∧ done ++ runes (s.data.toList.drop pos) = runes s.data.toList) (fun _ wr => s.size - wr.iterPos w1.heap.size)
  case atStart => exact ⟨0, g0, [], rfl, HRow0.out.below (iter_below w1 s 0) HRow0.out.lt.2, World.iter_heap w1 s 0, hb1.trans ((iter_below w1 s 0).mono hb1.size), by simp⟩
  case round =>
    obtain ⟨pos, g, done, rfl, hrow, hit, hbw, hacc⟩ := hrel
    have hsz : w1.heap.size < wr.heap.size := (Array.getElem?_eq_some_iff.1 hit).1
    have hsz1 := hb1.size
    have hwd := width_pos s pos
    have HA := Lib.hid hacc
    clear hacc HRow0
    by_cases hp : pos < s.size
    · have hnx : ∀ ty, (Instr.next (.pointer (some ⟨w1.heap.size, 0, none⟩)) true ty).run Try.prog wr = _ := fun ty => Lib.run_next_any_at wr w1.heap.size s pos ty hit hp
      have HS := Lib.hid (runes_at s pos hp)
      have hit2 := Lib.iterAt_heap wr w1.heap.size s pos (pos + (Utf8.decode s pos).2) hit
      have hbw2 := Lib.below_iterAt hbw (k := w1.heap.size) (by omega) s (pos + (Utf8.decode s pos).2)
      have hrow2 := hrow.iterAt hit (pos + (Utf8.decode s pos).2)
      have hpw : wr.iterPos w1.heap.size = pos := by simp only [World.iterPos, hit]
      have HPw := Lib.hid hpw
      clear hpw
      generalize hwi : wr.iterAt w1.heap.size s (pos + (Utf8.decode s pos).2) = wi at *
      have HW := Lib.hid hwi
      have HRow2 := Lib.hid hrow2
      clear hwi hrow hrow2
      have hnext := fittingNext_any A c g (ps.length + 1) w.heap.size done.reverse ps ((Utf8.decode s pos).1 : Int) wi (HRd.out.below (Nat.le_refl _) hbw2) rfl HRow2.out hc hlen
      have hrl := reach_length (((Utf8.decode s pos).1 : Int) :: done.reverse) ps
      have HNext := Lib.hid hnext
      have HRl := Lib.hid hrl
      clear hnext hrl
      go_wp2_with (go_at_call 36; refine HNext.out.mono ?_; rintro e w3 ⟨g3, rfl, hrow3, hb3⟩; rw [HRl.out])
      have hit3 := iter_keep hit2 hb3
      go_roundw
      case rel =>
        refine ⟨pos + (Utf8.decode s pos).2, g3, done ++ [((Utf8.decode s pos).1 : Int)], rfl, ?_, hit3, hbw2.trans (hb3.mono hbw2.size), ?_⟩
        · rw [List.reverse_append]
          exact hrow3.low hbw2.size
        · rw [← HA.out, HS.out, List.append_assoc]
          rfl
      case measure =>
        simp only [World.iterPos, hit3, hit]
        omega
    · have hnx : ∀ ty, (Instr.next (.pointer (some ⟨w1.heap.size, 0, none⟩)) true ty).run Try.prog wr = _ := fun ty => Lib.run_next_end_at wr w1.heap.size s pos ty hit hp
      have hcl := hrow.cellAt (k := ps.length) (by rw [reach_length]; omega)
      rw [reach_at _ _ _ (Nat.le_refl _), reach_last] at hcl
      obtain ⟨b, hbe⟩ : ∃ b, fitsL done.reverse ps.reverse = b := ⟨_, rfl⟩
      rw [hbe] at hcl
      have HBe := Lib.hid hbe
      clear hbe
      go_wp2
      go_ret
      refine ⟨ret_bool ?_, hbw⟩
      have h5 := HA.out
      rw [runes_end s pos hp, List.append_nil] at h5
      rw [← h5]
      exact HBe.out.symm

/-! ### '[]rune(s)' -/
theorem runesFrom_eq (s : ByteArray) : ∀ (bound i : Nat) (acc : Array Value), s.size - i ≤ bound → Conv.runesFrom s bound i acc = acc ++ ((runes (s.data.toList.drop i)).map (Value.int .i32)).toArray
  | 0, i, acc, h => by
    rw [runes_end s i (by omega)]
    simp [Conv.runesFrom]
  | bound + 1, i, acc, h => by
    unfold Conv.runesFrom
    by_cases hi : i < s.size
    · have hw := width_pos s i
      rw [if_pos hi]
      dsimp only
      rw [runesFrom_eq s bound _ _ (by omega), runes_at s i hi]
      simp
    · rw [if_neg hi, runes_end s i hi]
      simp
theorem runesFrom_all (s : ByteArray) : Conv.runesFrom s s.size 0 #[] = ((runes s.data.toList).map (Value.int .i32)).toArray := by
  rw [runesFrom_eq s s.size 0 #[] (by omega)]
  simp
def runeCap (W : World) (n : Nat) : Nat := grownCap W n 0 21
def runeObj (W : World) (rs : List Int) : Obj := .cells ((rs.map (Value.int .i32)).toArray ++ Array.replicate (runeCap W rs.length - rs.length) (.int .i32 0)) 21
theorem runeCap_ge (W : World) (n : Nat) : n ≤ runeCap W n := grownCap_ge W n 0 _
theorem conv_runes (s : ByteArray) (rs : List Int) (h : runes s.data.toList = rs) (hs : s.size ≤ 1000000) (W : World) :
    (convert 9 29 (.string s)).run Try.prog W = .ok (.slice (some ⟨W.heap.size, 0, none⟩) rs.length (runeCap W rs.length)) (W.drew.alloc (runeObj W rs)) := by
  subst h
  have hl := runes_le s
  have hr := run_runes_of_string (P := Try.prog) W 9 29 21 s Try.underlying9 Try.underlying29 Try.underlying21 (by rw [runesFrom_all]; simp; omega)
  rw [runesFrom_all] at hr
  simp only [List.size_toArray, List.length_map] at hr
  exact hr
theorem runeObj_rd (W V : World) (rs : List Int) : Rd (W.alloc (runeObj V rs)) (some ⟨W.heap.size, 0, none⟩) rs := by
  intro k hk
  refine ⟨_, rfl, by simp, ?_⟩
  have h1 : (⟨W.heap.size, 0, none⟩ : Addr).add k = ⟨W.heap.size, k, none⟩ := by
    unfold Addr.add
    split
    · rename_i h0; subst h0; rfl
    · simp
  rw [h1]
  unfold runeObj
  rw [World.cell?_alloc_mark]
  rw [Array.getElem?_append_left (by simpa using hk)]
  simp [List.getD_eq_getElem?_getD, List.getElem?_eq_getElem hk]

theorem runeObj_rdd (W V : World) (rs : List Int) : Rd (W.alloc (runeObj V rs)).drew (some ⟨W.heap.size, 0, none⟩) rs := runeObj_rd W V rs
theorem bt {w a b : World} (h1 : Below w.heap.size w a) (h2 : Below a.heap.size a b) : Below w.heap.size w b := h1.trans (h2.mono h1.size)
theorem below_rune (W V : World) (rs : List Int) : Below W.heap.size W (W.alloc (runeObj V rs)).drew := ((Below.refl _ _).alloc (Nat.le_refl _) _).drew
theorem ret_two {a b : Bool} {n : Int} (h : a = b) : Ending.returned (.tuple #[.bool a, .int .i64 n]) = .returned (.tuple #[.bool b, .int .i64 n]) := by rw [h]
def likeR (s p : List Int) : Value := if 200 < s.length ∨ 200 < p.length then .tuple #[.bool false, .int .i64 32] else .tuple #[.bool (fitsL s.reverse p.reverse), .int .i64 0]

set_option maxHeartbeats 1000000 in
set_option maxRecDepth 100000 in
theorem like_any (s p : ByteArray) (w : World) (hs : s.size ≤ 1000000) (hp : p.size ≤ 1000000) :
    Calls Try.prog 16 #[.string s, .string p] w fun e w' => e = .returned (likeR (runes s.data.toList) (runes p.data.toList)) ∧ Below w.heap.size w w' := by
  have hl1 := runes_le s
  have hl2 := runes_le p
  have hc1 : ∀ W, Calls Try.prog 12 #[.string s] W fun e w' => e = .returned (.int .i64 (runes s.data.toList).length) ∧ Below W.heap.size W w' := fun W => count_any s W hs
  have hc2 : ∀ W, Calls Try.prog 12 #[.string p] W fun e w' => e = .returned (.int .i64 (runes p.data.toList).length) ∧ Below W.heap.size W w' := fun W => count_any p W hp
  have hcv := fun W => conv_runes p (runes p.data.toList) rfl hp W
  have hft := fun (A : Option Addr) (c : Nat) (W : World) (hR : Rd W A (runes p.data.toList)) (hc : (runes p.data.toList).length ≤ c) => fits_any s A c _ _ W hs hR rfl hc (by omega)
  generalize runes s.data.toList = rs at *
  generalize runes p.data.toList = ps at *
  have HFt := Lib.hid hft
  have HC1 := Lib.hid hc1
  have HC2 := Lib.hid hc2
  have g1 : rs.length ≤ 1000000 := by omega
  have g2 : ps.length ≤ 1000000 := by omega
  clear hft hc1 hc2 hl1 hl2
  by_cases h1 : 200 < rs.length
  · have HL : Hid (likeR rs ps = .tuple #[.bool false, .int .i64 32]) := Lib.hid (by unfold likeR; rw [if_pos (.inl h1)])
    clear hcv
    go_enter Try.func16, Try.ntmps16
    go_wp2_with fail
    refine (HC1.out _).mono ?_
    rintro e w1 ⟨rfl, hb1⟩
    go_wp2_with fail
    go_ret2
    exact ⟨by rw [HL.out]; rfl, hb1⟩
  · by_cases h2 : 200 < ps.length
    · have HL : Hid (likeR rs ps = .tuple #[.bool false, .int .i64 32]) := Lib.hid (by unfold likeR; rw [if_pos (.inr h2)])
      clear hcv
      go_enter Try.func16, Try.ntmps16
      go_wp2_with fail
      refine (HC1.out _).mono ?_
      rintro e w1 ⟨rfl, hb1⟩
      go_wp2_with fail
      refine (HC2.out _).mono ?_
      rintro e w2 ⟨rfl, hb2⟩
      go_wp2_with fail
      go_ret2
      exact ⟨by rw [HL.out]; rfl, hb1.trans (hb2.mono hb1.size)⟩
    · have HL : Hid (likeR rs ps = .tuple #[.bool (fitsL rs.reverse ps.reverse), .int .i64 0]) := Lib.hid (by unfold likeR; rw [if_neg (by omega)])
      go_enter Try.func16, Try.ntmps16
      go_wp2_with fail
      refine (HC1.out _).mono ?_
      rintro e w1 ⟨rfl, hb1⟩
      go_wp2_with fail
      refine (HC2.out _).mono ?_
      rintro e w2 ⟨rfl, hb2⟩
      go_wp2_with fail
      refine (HFt.out _ _ _ (runeObj_rdd _ _ _) (runeCap_ge _ _)).mono ?_
      rintro e w3 ⟨rfl, hb3⟩
      go_wp2_with fail
      go_ret2
      exact ⟨by rw [HL.out]; rfl, bt (bt hb1 hb2) (bt (below_rune w2 w2 ps) hb3)⟩
end Go.Proofs.Ytcmikojlcckabaa
