/- The document's own functions on lists of runes: Runes, Text, Cut, Right, Fold. -/
import Derived.Test.YtgacphpkgaobkaaDoorRun
import Derived.WalkSmall
import Derived.Laws.OwnMore
set_option linter.unusedVariables false
namespace Go.Proofs.YtgacphpkgaobkaaDoor
open Go Go.RowKit

/-- What lies at an address on: these runes. -/
def Rd (w : World) (A : Option Addr) (rs : List Int) : Prop := ∀ k, k < rs.length → ∃ ad, A = some ad ∧ ad.block < w.heap.size ∧ w.cell? (ad.add k) = some (.int .i32 (rs.getD k 0))
/-- A row of runes that the call owns. -/
def Row (w : World) (B : Nat) (v : Value) (rs : List Int) : Prop := w.ownsRow B 21 1 v rs.length (rs.map (Value.int .i32))
theorem Row.rd {w : World} {B : Nat} {v : Value} {rs : List Int} (h : Row w B v rs) : ∃ A c, v = .slice A rs.length c ∧ rs.length ≤ c ∧ Rd w A rs := by
  unfold Row at h
  rcases h.2 with ⟨hv, hl⟩ | ⟨g, cap, cur, hv, hB, hg, hnc, hrest⟩
  · refine ⟨none, 0, by rw [hv, hl], by omega, ?_⟩
    intro k hk; omega
  · refine ⟨some ⟨g, 0, none⟩, cap, hv, hnc, ?_⟩
    intro k hk
    have hlt := h.lt g (by rw [hv]; rfl)
    refine ⟨_, rfl, hlt.2, ?_⟩
    refine h.cells (g := g) (by rw [hv]; rfl) k _ ?_
    simp [List.getD_eq_getElem?_getD, List.getElem?_eq_getElem hk]

theorem text_snoc (rs : List Int) (k : Nat) (h : k < rs.length) : text (rs.take (k + 1)) = text (rs.take k) ++ Lib.encodeRune (rs.getD k 0) := by
  rw [List.take_succ_eq_append_getElem h, text_append]
  simp [text, List.getD_eq_getElem?_getD, List.getElem?_eq_getElem h]
theorem encode_model (r : Int) : (Utf8.encode r).data.toList = Lib.encodeRune r := by
  by_cases hv : okR r = true
  · have h := hv
    unfold okR at h
    rw [decide_eq_true_eq] at h
    have hval : Utf8.valid r = true := by rw [validRune_eq]; unfold validRune; exact hv
    unfold Utf8.encode
    simp only [hval, if_true]
    by_cases c1 : r ≤ 127
    · rw [encode_one (by omega) c1, if_pos (by omega)]
    · by_cases c2 : r ≤ 2047
      · rw [encode_two (by omega) c2, if_neg (by omega), if_pos (by omega)]
        have e1 : (192 + r / 64).toNat = 192 + r.toNat / 64 := by omega
        have e2 : (128 + r % 64).toNat = 128 + r.toNat % 64 := by omega
        rw [e1, e2]
      · by_cases c3 : r ≤ 65535
        · rw [encode_three (by omega), if_neg (by omega), if_neg (by omega), if_pos (by omega)]
          have e1 : (224 + r / 4096).toNat = 224 + r.toNat / 4096 := by omega
          have e2 : (128 + r / 64 % 64).toNat = 128 + r.toNat / 64 % 64 := by omega
          have e3 : (128 + r % 64).toNat = 128 + r.toNat % 64 := by omega
          rw [e1, e2, e3]
        · rw [encode_four (by omega) (by omega), if_neg (by omega), if_neg (by omega), if_neg (by omega)]
          have e1 : (240 + r / 262144).toNat = 240 + r.toNat / 262144 := by omega
          have e2 : (128 + r / 4096 % 64).toNat = 128 + r.toNat / 4096 % 64 := by omega
          have e3 : (128 + r / 64 % 64).toNat = 128 + r.toNat / 64 % 64 := by omega
          have e4 : (128 + r % 64).toNat = 128 + r.toNat % 64 := by omega
          rw [e1, e2, e3, e4]
  · have hv' : okR r = false := by simpa using hv
    have hval : Utf8.valid r = false := by rw [validRune_eq]; unfold validRune; exact hv'
    rw [encode_bad hv']
    unfold Utf8.encode
    simp only [hval]
    rfl
theorem str_app (a : List UInt8) (b : ByteArray) : (⟨a.toArray⟩ : ByteArray) ++ b = ⟨(a ++ b.data.toList).toArray⟩ := by
  apply ByteArray.ext
  rw [ByteArray.data_append]
  simp

theorem rune_info : (Tryd.prog.info? 21).map (fun i => (i.zero, i.size, i.bytes)) = some (some (.int .i32 0), 1, 4) := by kernel_rfl
def RunesPost (w : World) (rs : List Int) (e : Ending) (w' : World) : Prop := ∃ v, e = .returned v ∧ Row w' (w.heap.size + 1) v rs ∧ Below w.heap.size w w'
theorem Row.snoc {w : World} {B n : Nat} {v : Value} {rs : List Int} {r : Int} (h : w.ownsRow B 21 1 v n (rs.map (Value.int .i32) ++ [.int .i32 r])) (hn : n = rs.length + 1) : Row w B v (rs ++ [r]) := by
  subst hn
  unfold Row
  simpa using h

set_option maxHeartbeats 1000000 in
set_option maxRecDepth 100000 in
theorem refRunes_any (s : ByteArray) (w : World) (hs : s.size ≤ 1000000) :
    Calls Tryd.prog 56 #[.string s] w (RunesPost w (runes s.data.toList)) := by
  have hrl := runes_le s
  have HRL := Lib.hid hrl
  clear hrl
  obtain ⟨i0, hi, hz0, hz1, hz2⟩ := info_parts rune_info
  go_enter Tryd.func56, Tryd.ntmps56
  go_wp2
  go_loopw [3] (fun x wr => ∃ (v : Value) (pos : Nat) (done : List Int), x = v ∧ Row wr (w.heap.size + 1) v done ∧ wr.heap[w.heap.size]? = some (.stringIter s pos) ∧ Below w.heap.size w wr ∧ done ++ runes (s.data.toList.drop pos) = runes s.data.toList) (fun _ wr => s.size - wr.iterPos w.heap.size)
  case atStart => exact ⟨_, 0, [], rfl, World.ownsRow_nil _ _ _ _, World.iter_heap w s 0, iter_below w s 0, by simp⟩
  case round =>
    obtain ⟨v, pos, done, rfl, hrow, hit, hbw, hacc⟩ := hrel
    have hsz : w.heap.size < wr.heap.size := (Array.getElem?_eq_some_iff.1 hit).1
    have hwd := width_pos s pos
    have HA := Lib.hid hacc
    have hal : done.length ≤ 1000000 := by
      have := HRL.out
      rw [← hacc, List.length_append] at this
      omega
    clear hacc
    by_cases hp : pos < s.size
    · have hnx : ∀ ty, (Instr.next (.pointer (some ⟨w.heap.size, 0, none⟩)) true ty).run Tryd.prog wr = _ := fun ty => Lib.run_next_any_at wr w.heap.size s pos ty hit hp
      have HS := Lib.hid (runes_at s pos hp)
      have hit2 := Lib.iterAt_heap wr w.heap.size s pos (pos + (Utf8.decode s pos).2) hit
      have hbw2 := Lib.below_iterAt hbw (k := w.heap.size) (by omega) s (pos + (Utf8.decode s pos).2)
      have hsz2 : w.heap.size + 1 ≤ (wr.iterAt w.heap.size s (pos + (Utf8.decode s pos).2)).heap.size := by rw [Lib.iterAt_size]; omega
      have hr2 := ownsRow_iterAt hrow (k := w.heap.size) (by omega) s (pos + (Utf8.decode s pos).2)
      generalize hwi : wr.iterAt w.heap.size s (pos + (Utf8.decode s pos).2) = wi at *
      have HW := Lib.hid hwi
      clear hwi
      go_wp2_with (at_builtin; refine wpList_append_own _ rfl _ _ 81 rfl (w.heap.size + 1) 21 i0 (.int .i32 0) 1 4 Tryd.underlying81 hi hz0 hz1 hz2 rfl (by decide) _ _ _ rfl (hr2.alloc _) ⟨wi.heap.size, 0, none⟩ 1 1 [.int .i32 ((Utf8.decode s pos).1 : Int)] rfl rfl ?c1 ?c2 ?c3 ?c4 ?c5 ?_)
      case c1 =>
        intro j u hj
        match j, hj with
        | 0, hj => simp at hj; subst hj; simp [Addr.add]
      case c2 => intro u hu; simp at hu; subst hu; rfl
      case c3 => unfold maxLen; omega
      case c4 => omega
      case c5 => simp; omega
      intro v' w2 hown' hgrow _
      have hit3 : w2.heap[w.heap.size]? = some (.stringIter s (pos + (Utf8.decode s pos).2)) := by
        rw [hgrow.block w.heap.size (by simp; omega) (fun e => by have := (hr2.lt _ e.symm).1; omega), Lib.alloc_old wi _ _ (by omega)]
        exact hit2
      have hbw3 : Below w.heap.size w w2 := (hbw2.alloc (by omega) _).grown hgrow (by simp; omega) (fun k hk => by have := (hr2.lt k hk).1; omega)
      go_wp2
      go_roundw
      case rel =>
        refine ⟨v', pos + (Utf8.decode s pos).2, done ++ [((Utf8.decode s pos).1 : Int)], rfl, Row.snoc hown' rfl, hit3, hbw3, ?_⟩
        rw [← HA.out, HS.out, List.append_assoc]
        rfl
      case measure =>
        simp only [World.iterPos, hit3, hit]
        omega
    · have hnx : ∀ ty, (Instr.next (.pointer (some ⟨w.heap.size, 0, none⟩)) true ty).run Tryd.prog wr = _ := fun ty => Lib.run_next_end_at wr w.heap.size s pos ty hit hp
      go_wp2
      go_ret
      have h5 := HA.out
      rw [runes_end s pos hp, List.append_nil] at h5
      rw [← h5]
      exact ⟨_, rfl, hrow, hbw⟩
end Go.Proofs.YtgacphpkgaobkaaDoor
