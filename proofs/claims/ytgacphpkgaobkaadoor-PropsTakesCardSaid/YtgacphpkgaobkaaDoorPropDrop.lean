/- The document's own answers for lists of properties: what is dropped. -/
import Derived.Test.YtgacphpkgaobkaaDoorPropRef
import Derived.Laws.AppendOwn
set_option linter.unusedVariables false
namespace Go.Proofs.YtgacphpkgaobkaaDoor
open Go Go.RowKit

theorem prop_info : (Tryd.prog.info? 41).map (fun i => (i.zero, i.size, i.bytes)) = some (some (.agg #[.string ⟨#[]⟩, .int .i64 0, .int .i64 0, .string ⟨#[]⟩]), 4, 48) := by kernel_rfl
def cellsP (z : Prop4) : List Value := [.string z.1, .int .i64 z.2.1, .int .i64 z.2.2.1, .string z.2.2.2]
/-- A row of properties that the call has made: maybe none yet. -/
def PRow (w : World) (B : Nat) (v : Value) (n : Nat) (zs : List Prop4) : Prop := w.ownsRow B 41 4 v n (zs.flatMap cellsP)
theorem PRow.below {w w' : World} {B B' n : Nat} {v : Value} {zs : List Prop4} (h : PRow w B v n zs) (hb : Below B' w w') (hg : w.heap.size ≤ B') : PRow w' B v n zs := by
  have hlt := World.ownsRow.lt h
  unfold PRow at h ⊢
  rcases h.2 with hv | ⟨g', cap, cur, hv, hB, hgg, hrest⟩
  · exact ⟨h.1, .inl hv⟩
  · have h1 := hlt g' (by subst hv; rfl)
    exact ⟨h.1, .inr ⟨g', cap, cur, hv, hB, (hb.block g' (by omega)).trans hgg, hrest⟩⟩
def goneK (keys : List ByteArray) (z : Prop4) : Bool := keys.any (fun y => y.toList == z.1.toList)
def dropP (zs : List Prop4) (keys : List ByteArray) : List Prop4 := zs.filter (fun z => !goneK keys z)
theorem take_succ_getD (zs : List Prop4) (k : Nat) (h : k < zs.length) : zs.take (k + 1) = zs.take k ++ [zs.getD k Prop4.no] := by
  rw [List.take_succ_eq_append_getElem h]
  simp [List.getD_eq_getElem?_getD, List.getElem?_eq_getElem h]
theorem take_succ_key (zs : List ByteArray) (k : Nat) (h : k < zs.length) : zs.take (k + 1) = zs.take k ++ [zs.getD k ByteArray.empty] := by
  rw [List.take_succ_eq_append_getElem h]
  simp [List.getD_eq_getElem?_getD, List.getElem?_eq_getElem h]
def ListPost (w : World) (zs : List Prop4) (e : Ending) (w' : World) : Prop := ∃ v, e = .returned v ∧ PRow w' w.heap.size v zs.length zs ∧ Below w.heap.size w w'

set_option maxHeartbeats 2000000 in
set_option maxRecDepth 100000 in
theorem refDrop_any (A K : Option Addr) (c d : Nat) (zs : List Prop4) (keys : List ByteArray) (w : World) (h : RdP w A zs) (g : RdS w K keys) (hc : zs.length ≤ c) (hd : keys.length ≤ d) (hlen : zs.length ≤ 1000000) (hlen2 : keys.length ≤ 1000000) :
    Calls Tryd.prog 18 #[.slice A zs.length c, .slice K keys.length d] w (ListPost w (dropP zs keys)) := by
  have HRd := Lib.hid h
  have HRk := Lib.hid g
  clear h g
  obtain ⟨i0, hi, hz0, hz1, hz2⟩ := info_parts prop_info
  go_enter Tryd.func18, Tryd.ntmps18
  go_wp2_with fail
  go_loopw [5, 6] (fun x i wr => ∃ (v : Value) (k l : Nat), x = v ∧ i = .int .i64 (k : Nat) ∧ k ≤ zs.length ∧ l ≤ k ∧ l = (dropP (zs.take k) keys).length ∧ PRow wr w.heap.size v l (dropP (zs.take k) keys) ∧ Below w.heap.size w wr) (fun _ i _ => zs.length - (intOf i).toNat)
  case atStart => exact ⟨_, 0, 0, rfl, rfl, Nat.zero_le _, Nat.zero_le _, rfl, World.ownsRow_nil _ _ _ _, Below.refl _ _⟩
  case round =>
    obtain ⟨v, k, l, rfl, rfl, hk, hlk, hl, hrow, hbw⟩ := hrel
    have HL := Lib.hid hl
    clear hl
    have hbs := hbw.size
    by_cases hlt : k < zs.length
    · have htk := take_succ_getD zs k hlt
      obtain ⟨wk, hwk⟩ : ∃ x, x = wr := ⟨_, rfl⟩
      subst hwk
      have HRow := Lib.hid hrow
      clear hrow
      obtain ⟨z, hz⟩ : ∃ z, zs.getD k Prop4.no = z := ⟨_, rfl⟩
      rw [hz] at htk
      have HTk := Lib.hid htk
      have HZ := Lib.hid hz
      clear htk hz
      go_wp2_with fail
      go_loopw [7, 8] (fun o j wx => ∃ (b : Bool) (m : Nat), o = .bool b ∧ j = .int .i64 (m : Nat) ∧ m ≤ keys.length ∧ goneK (keys.take m) z = b ∧ Below wk.heap.size wk wx) (fun _ j _ => keys.length - (intOf j).toNat)
      case atStart => exact ⟨false, 0, rfl, rfl, Nat.zero_le _, rfl, Below.refl _ _⟩
      case round =>
        obtain ⟨b, m, rfl, rfl, hm, hgone, hbx⟩ := hrel
        have HG := Lib.hid hgone
        clear hgone
        have hbwx := btV hbw hbx
        obtain ⟨ad, rfl, hblk, h0, h1, h2, h3⟩ := (HRd.out.below (Nat.le_refl _) hbwx).at4 hlt
        rw [HZ.out] at h0 h1 h2 h3
        by_cases hm2 : m < keys.length
        · obtain ⟨ak, rfl, hky⟩ := (HRk.out.below (Nat.le_refl _) hbwx).at1 hm2
          have hks := take_succ_key keys m hm2
          obtain ⟨y, hy⟩ : ∃ y, keys.getD m ByteArray.empty = y := ⟨_, rfl⟩
          rw [hy] at hky hks
          obtain ⟨q, hq⟩ : ∃ q, (y.toList == z.1.toList) = q := ⟨_, rfl⟩
          have hgs : goneK (keys.take (m + 1)) z = (b || q) := by
            rw [hks, ← hq, ← HG.out]
            unfold goneK
            rw [List.any_append]
            simp
          have HGs := Lib.hid hgs
          clear hgs hks hy
          cases b
          · go_wp2_with fail
            go_quiet (fail)
            go_wp2_with fail
            go_roundw
            case rel => exact ⟨q, m + 1, rfl, by go_num, by omega, HGs.out, below_drewN hbx _⟩
            case measure => simp [intOf]; omega
          · go_wp2_with fail
            go_quiet (fail)
            go_wp2_with fail
            go_roundw
            case rel => exact ⟨true, m + 1, rfl, by go_num, by omega, HGs.out, below_drewN hbx _⟩
            case measure => simp [intOf]; omega
        · obtain rfl : m = keys.length := by omega
          have hgk : goneK keys z = b := by have := HG.out; rwa [List.take_length] at this
          have hrow := HRow.out.below hbx (Nat.le_refl _)
          cases b
          · have hdr : dropP (zs.take (k + 1)) keys = dropP (zs.take k) keys ++ [z] := by
              rw [HTk.out]
              unfold dropP
              rw [List.filter_append]
              simp [hgk]
            have HDr := Lib.hid hdr
            clear hdr hgk
            obtain ⟨a, kk, n, s⟩ := z
            dsimp only at h0 h1 h2 h3
            go_wp2_with (at_builtin; refine wpList_append_own _ rfl _ _ 22 rfl w.heap.size 41 i0 _ 4 48 Tryd.underlying22 hi hz0 hz1 hz2 rfl (by decide) _ _ _ rfl (hrow.alloc _) ⟨wr.heap.size, 0, none⟩ 1 1 (cellsP (a, kk, n, s)) rfl rfl ?a1 ?b1 ?c1 ?d1 ?e1 ?_)
            try (case a1 => exact (World.ownsRow_lit (base := wr.heap.size) (e := 41) (size := 4) wr #[.string a, .int .i64 kk, .int .i64 n, .string s] 1 (Nat.le_refl _) (by decide) rfl).cells rfl)
            try (case b1 => intro u' hu'; simp [cellsP] at hu'; rcases hu' with rfl | rfl | rfl | rfl <;> rfl)
            try (case c1 => unfold maxLen; omega)
            try (case d1 => omega)
            try (case e1 => have := hbwx.size; simp; omega)
            intro v' w4 hown' hgrow _
            have hsx := hbwx.size
            have hbw4 : Below w.heap.size w w4 := (hbwx.alloc hsx _).grown hgrow (by simp; omega) (fun k' hk' => (hrow.lt k' hk').1)
            go_wp2_with fail
            go_roundw
            case rel =>
              refine ⟨v', k + 1, l + 1, rfl, by go_num, by omega, by omega, by rw [HDr.out, List.length_append, ← HL.out]; rfl, ?_, hbw4⟩
              unfold PRow
              rw [HDr.out, List.flatMap_append]
              simpa using hown'
            case measure => simp [intOf]; omega
          · have hdr : dropP (zs.take (k + 1)) keys = dropP (zs.take k) keys := by
              rw [HTk.out]
              unfold dropP
              rw [List.filter_append]
              simp [hgk]
            have HDr := Lib.hid hdr
            clear hdr hgk
            go_wp2_with fail
            go_roundw
            case rel => exact ⟨_, k + 1, l, rfl, by go_num, by omega, by omega, by rw [HDr.out]; exact HL.out, by rw [HDr.out]; exact hrow, hbwx⟩
            case measure => simp [intOf]; omega
    · obtain rfl : k = zs.length := by omega
      go_wp2_with fail
      go_ret
      have e : dropP (zs.take zs.length) keys = dropP zs keys := by rw [List.take_length]
      rw [e] at hrow
      have el := HL.out
      rw [e] at el
      exact ⟨_, rfl, by rw [← el]; exact hrow, hbw⟩
end Go.Proofs.YtgacphpkgaobkaaDoor
