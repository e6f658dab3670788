/- The document's own answers for values: their bytes. -/
import Derived.Test.YtgacphpkgaobkaaDoorValRef
import Derived.Laws.OwnMore
import Derived.Laws.AppendOwn
set_option linter.unusedVariables false
namespace Go.Proofs.YtgacphpkgaobkaaDoor
open Go Go.RowKit

def u8v (b : UInt8) : Value := .int .u8 (b.toNat : Int)
/-- A row of bytes that the call has made. -/
def URow (w : World) (B : Nat) (v : Value) (n : Nat) (bs : List UInt8) : Prop := w.ownsRow B 5 1 v n (bs.map u8v)
theorem byte_infoV : (Tryd.prog.info? 5).map (fun i => (i.zero, i.size, i.bytes)) = some (some (.int .u8 0), 1, 1) := by kernel_rfl
def bytesV (k n : Int) (s : ByteArray) : List UInt8 := if k = 1 then numB n else textB s.data.toList
theorem URow.form {w : World} {B n : Nat} {v : Value} {bs : List UInt8} (h : URow w B v n bs) (hn : 0 < n) : ∃ g cap, v = .slice (some ⟨g, 0, none⟩) n cap := by
  unfold URow at h
  rcases h.2 with ⟨hv, h0⟩ | ⟨g', cap, cur, hv, hB, hgg, hrest⟩
  · omega
  · exact ⟨g', cap, hv⟩
theorem URow.forms {w : World} {B n : Nat} {v : Value} {bs : List UInt8} (h : URow w B v n bs) : (v = .slice none 0 0 ∧ n = 0) ∨ ∃ g cap, v = .slice (some ⟨g, 0, none⟩) n cap := by
  unfold URow at h
  rcases h.2 with ⟨hv, h0⟩ | ⟨g', cap, cur, hv, hB, hgg, hrest⟩
  · exact .inl ⟨hv, h0⟩
  · exact .inr ⟨g', cap, hv⟩
theorem u8v_ofNat (U : Nat) : u8v (UInt8.ofNat U) = .int .u8 ((U : Int) % 256) := by
  unfold u8v
  simp
theorem u8v_one (bs : List UInt8) : ∀ u ∈ bs.map u8v, u.oneCell' = true := by
  intro u hu
  obtain ⟨b, _, rfl⟩ := List.mem_map.1 hu
  rfl
theorem flip_wrap (n : Int) (h0 : -9223372036854775808 ≤ n) (h1 : n ≤ 9223372036854775807) : IntKind.u64.wrap (IntKind.u64.wrap n + 9223372036854775808) = ((flip n : Nat) : Int) := by
  unfold flip
  simp [IntKind.wrap, IntKind.bits, IntKind.signed]
  omega
def BytesPost (w : World) (bs : List UInt8) (e : Ending) (w' : World) : Prop := ∃ v, e = .returned v ∧ URow w' (w.heap.size + 1) v bs.length bs ∧ Below w.heap.size w w'

set_option maxHeartbeats 1000000 in
set_option maxRecDepth 100000 in
theorem refBytes_any (k n : Int) (s : ByteArray) (w : World) (hn0 : -9223372036854775808 ≤ n) (hn1 : n ≤ 9223372036854775807) (hs : s.size ≤ 1000000) :
    Calls Tryd.prog 48 #[valV k n s] w (BytesPost w (bytesV k n s)) := by
  obtain ⟨i0, hi, hz0, hz1, hz2⟩ := info_parts byte_infoV
  unfold valV
  by_cases h1 : k = 1
  · subst h1
    go_enter Tryd.func48, Tryd.ntmps48
    go_wp2_with fail
    rw [show IntKind.u64.wrap (IntKind.u64.wrap n + 9223372036854775808) = ((flip n : Nat) : Int) from flip_wrap n hn0 hn1]
    have hfl := flip_lt n hn1
    have p8 : (256 : Nat) ^ 8 = 18446744073709551616 := by decide
    rw [p8] at hfl
    obtain ⟨m, hm⟩ : ∃ m, flip n = m := ⟨_, rfl⟩
    rw [hm] at hfl ⊢
    have HM := Lib.hid hm
    clear hm p8
    have hb0 : Below w.heap.size w (w.alloc (.cells #[.int .i64 1, .int .i64 n, .string s] 36)) := (Below.refl _ _).alloc (Nat.le_refl _) _
    have hsz0 : (w.alloc (.cells #[.int .i64 1, .int .i64 n, .string s] 36)).heap.size = w.heap.size + 1 := by simp
    go_loopw [3, 4, 5] (fun u x i wr => ∃ (j U : Nat) (v : Value), u = .int .u64 (U : Int) ∧ x = v ∧ i = .int .i64 (j : Nat) ∧ j ≤ 8 ∧ U = m / 256 ^ j ∧ URow wr (w.heap.size + 1) v j (beN j m) ∧ Below (w.heap.size + 1) (w.alloc (.cells #[.int .i64 1, .int .i64 n, .string s] 36)) wr) (fun _ _ i _ => 8 - (intOf i).toNat)
    case atStart => exact ⟨0, m, _, rfl, rfl, rfl, by omega, by simp, World.ownsRow_nil _ _ _ _, Below.refl _ _⟩
    case round =>
      obtain ⟨j, U, v, rfl, rfl, rfl, hj, hU, hrow, hbw⟩ := hrel
      have hU1 : U ≤ m := by rw [hU]; exact Nat.div_le_self _ _
      have HU := Lib.hid hU
      clear hU
      have hbs : w.heap.size + 1 ≤ wr.heap.size := by have := hbw.size; rw [hsz0] at this; exact this
      have hun : U / 256 = m / 256 ^ (j + 1) := by rw [HU.out, Nat.div_div_eq_div_mul, ← Nat.pow_succ]
      have hbe : beN (j + 1) m = UInt8.ofNat U :: beN j m := by rw [HU.out]; rfl
      have HUn := Lib.hid hun
      have HBe := Lib.hid hbe
      clear hun hbe
      by_cases hlt : j < 8
      · have hx := u8v_ofNat U
        have HX := Lib.hid hx
        clear hx
        rcases URow.forms hrow with ⟨rfl, rfl⟩ | ⟨g, cap, rfl⟩
        · have hnil : ∀ (x : Value), (Builtin.append_ #[43, 43] 43 #[.slice (some ⟨wr.heap.size, 0, none⟩) 1 1, .slice none 0 0]).run Tryd.prog (wr.alloc (.cells #[x] 5)) = .ok (.slice (some ⟨wr.heap.size, 0, none⟩) 1 1) (wr.alloc (.cells #[x] 5)) := fun x =>
            run_append_owned_none _ (w.heap.size + 1) 43 43 5 i0 1 Tryd.underlying43 hi _ 1 [x] (World.ownsRow_lit wr #[x] 1 (by omega) (by decide) rfl)
          go_wp2_with fail
          go_roundw
          case rel =>
            refine ⟨1, U / 256, _, by rw [Int.natCast_ediv]; rfl, rfl, rfl, by omega, HUn.out, ?_, hbw.alloc (by omega) _⟩
            unfold URow
            rw [HBe.out, List.map_cons, HX.out]
            exact World.ownsRow_lit wr #[.int .u8 ((U : Int) % 256)] 1 (by omega) (by decide) rfl
          case measure => simp [intOf]
        · go_wp2_with (at_builtin; refine wpList_append_own _ rfl _ _ 43 rfl (w.heap.size + 1) 5 i0 (.int .u8 0) 1 1 Tryd.underlying43 hi hz0 hz1 hz2 rfl (by decide) _ 1 _ rfl (World.ownsRow_lit wr _ 1 (by omega) (by decide) rfl) ⟨g, 0, none⟩ j cap ((beN j m).map u8v) rfl ?a2 ?b2 ?c2 ?d2 ?e2 ?f2 ?_)
          try (case a2 => rw [List.length_map, beN_length, Nat.mul_one])
          try (case b2 => exact (World.ownsRow.alloc hrow _).cells rfl)
          try (case c2 => exact u8v_one _)
          try (case d2 => unfold maxLen; omega)
          try (case e2 => omega)
          try (case f2 => simp; omega)
          intro v' w4 hown' hgrow _
          have hbw4 : Below (w.heap.size + 1) (w.alloc (.cells #[.int .i64 1, .int .i64 n, .string s] 36)) w4 := (hbw.alloc (by omega) _).grown hgrow (by simp; omega) (fun k' hk' => by cases hk'; exact hbs)
          go_wp2_with fail
          go_roundw
          case rel =>
            refine ⟨j + 1, U / 256, v', by rw [Int.natCast_ediv]; rfl, rfl, by go_num, by omega, HUn.out, ?_, hbw4⟩
            unfold URow
            rw [HBe.out, List.map_cons, HX.out, Nat.add_comm j 1]
            exact hown'
          case measure => simp [intOf]; omega
      · obtain rfl : j = 8 := by omega
        clear hj hlt
        obtain ⟨g, cap, rfl⟩ := URow.form hrow (by omega)
        go_wp2_with (at_builtin; refine wpList_append_own _ rfl _ _ 43 rfl (w.heap.size + 1) 5 i0 (.int .u8 0) 1 1 Tryd.underlying43 hi hz0 hz1 hz2 rfl (by decide) _ 1 _ rfl (World.ownsRow_lit wr _ 1 (by omega) (by decide) rfl) ⟨g, 0, none⟩ 8 cap ((beN 8 m).map u8v) rfl ?a3 ?b3 ?c3 ?d3 ?e3 ?f3 ?_)
        try (case a3 => rw [List.length_map, beN_length])
        try (case b3 => exact (World.ownsRow.alloc hrow _).cells rfl)
        try (case c3 => exact u8v_one _)
        try (case d3 => unfold maxLen; omega)
        try (case e3 => omega)
        try (case f3 => simp; omega)
        intro v' w4 hown' hgrow _
        have hbw4 : Below (w.heap.size + 1) (w.alloc (.cells #[.int .i64 1, .int .i64 n, .string s] 36)) w4 := (hbw.alloc (by omega) _).grown hgrow (by simp; omega) (fun k' hk' => by cases hk'; exact hbs)
        go_wp2_with fail
        go_ret
        refine ⟨v', rfl, ?_, hb0.trans (hbw4.mono (by omega))⟩
        have e : bytesV 1 n s = 1 :: beN 8 m := by unfold bytesV numB; rw [if_pos rfl, HM.out]
        have el : (bytesV 1 n s).length = 1 + 8 := by rw [e, List.length_cons, beN_length]
        unfold URow
        rw [el, e]
        exact hown'
  · have hb0 : Below w.heap.size w (w.alloc (.cells #[.int .i64 k, .int .i64 n, .string s] 36)) := (Below.refl _ _).alloc (Nat.le_refl _) _
    have hsz0 : (w.alloc (.cells #[.int .i64 k, .int .i64 n, .string s] 36)).heap.size = w.heap.size + 1 := by simp
    have hcell0 : (w.alloc (.cells #[.int .i64 k, .int .i64 n, .string s] 36)).cell? ⟨w.heap.size, 2, none⟩ = some (.string s) := by simp [World.cell?_alloc_mark]
    have HC0 := Lib.hid hcell0
    clear hcell0
    have hk1 : (k == 1) = false := by simpa using h1
    go_enter Tryd.func48, Tryd.ntmps48
    go_wp2_with fail
    go_loopw [6, 7] (fun x i wr => ∃ (j l : Nat) (v : Value), x = v ∧ i = .int .i64 (j : Nat) ∧ j ≤ s.size ∧ l = 1 + (esc0 (s.data.toList.take j)).length ∧ URow wr (w.heap.size + 1) v l (2 :: esc0 (s.data.toList.take j)) ∧ Below (w.heap.size + 1) (w.alloc (.cells #[.int .i64 k, .int .i64 n, .string s] 36)) wr) (fun _ i _ => s.size - (intOf i).toNat)
    case atStart => exact ⟨0, 1, _, rfl, rfl, Nat.zero_le _, rfl, by have h2 := World.ownsRow_lit (base := w.heap.size + 1) (e := 5) (size := 1) (w.alloc (.cells #[.int .i64 k, .int .i64 n, .string s] 36)) #[.int .u8 2] 1 (by rw [hsz0]; exact Nat.le_refl _) (by decide) rfl; rw [hsz0] at h2; exact h2, (Below.refl _ _).alloc (by rw [hsz0]; exact Nat.le_refl _) _⟩
    case round =>
      obtain ⟨j, l, v, rfl, rfl, hj, hl, hrow, hbw⟩ := hrel
      have hbs : w.heap.size + 1 ≤ wr.heap.size := by have := hbw.size; rw [hsz0] at this; exact this
      have hcell : wr.cell? ⟨w.heap.size, 2, none⟩ = some (.string s) := (World.cell?_of_block (hbw.block w.heap.size (by omega))).trans HC0.out
      have hlen := (esc0_length (s.data.toList.take j)).2
      have htl : (s.data.toList.take j).length ≤ 1000000 := by rw [List.length_take]; omega
      have hl2 : l ≤ 2000001 := by omega
      have HL := Lib.hid hl
      clear hl hlen htl
      by_cases hlt : j < s.size
      · have htk : s.data.toList.take (j + 1) = s.data.toList.take j ++ [s[j]] := by
          have h2 : j < s.data.toList.length := by rw [Array.length_toList]; exact hlt
          rw [List.take_succ_eq_append_getElem h2]
          rfl
        have HTk := Lib.hid htk
        clear htk
        by_cases c0 : s[j] = 0
        · have hx : (s[j]).toNat = 0 := by rw [c0]; rfl
          have HE : Hid (esc0 (s.data.toList.take (j + 1)) = esc0 (s.data.toList.take j) ++ [0, 255]) := Lib.hid (by rw [HTk.out, esc0_append, c0]; rfl)
          clear c0
          go_wp2_with (at_builtin; refine wpList_append_own _ rfl _ _ 43 rfl (w.heap.size + 1) 5 i0 (.int .u8 0) 1 1 Tryd.underlying43 hi hz0 hz1 hz2 rfl (by decide) _ _ _ rfl (hrow.alloc _) ⟨wr.heap.size, 0, none⟩ 2 2 [.int .u8 0, .int .u8 255] rfl rfl ?a4 ?b4 ?c4 ?d4 ?e4 ?_)
          try (case a4 => exact (World.ownsRow_lit (base := wr.heap.size) (e := 5) (size := 1) wr #[.int .u8 0, .int .u8 255] 2 (Nat.le_refl _) (by decide) rfl).cells rfl)
          try (case b4 => intro u' hu'; simp at hu'; rcases hu' with rfl | rfl <;> rfl)
          try (case b4 => intro u' hu'; simp at hu'; subst hu'; rfl)
          try (case c4 => unfold maxLen; omega)
          try (case d4 => omega)
          try (case e4 => simp; omega)
          intro v' w4 hown' hgrow _
          have hbw4 : Below (w.heap.size + 1) (w.alloc (.cells #[.int .i64 k, .int .i64 n, .string s] 36)) w4 := (hbw.alloc (by omega) _).grown hgrow (by simp; omega) (fun k' hk' => (hrow.lt k' hk').1)
          go_wp2_with fail
          go_roundw
          case rel =>
            refine ⟨j + 1, l + 2, v', rfl, by go_num, by omega, ?_, ?_, hbw4⟩
            · rw [HE.out, List.length_append, HL.out]; simp only [List.length_cons, List.length_nil]; omega
            · unfold URow
              rw [HE.out, ← List.cons_append, List.map_append]
              exact hown'
          case measure => first | (simp [intOf]; omega) | simp [intOf]
        · have hx0 : (s[j]).toNat ≠ 0 := fun h => c0 (UInt8.toNat_inj.1 (h.trans rfl))
          have HE : Hid (esc0 (s.data.toList.take (j + 1)) = esc0 (s.data.toList.take j) ++ [s[j]]) := Lib.hid (by rw [HTk.out, esc0_append, esc0_other _ c0]; rfl)
          clear c0
          obtain ⟨x, hx⟩ : ∃ x, (s[j]).toNat = x := ⟨_, rfl⟩
          rw [hx] at hx0
          have hxb : ((x : Int) == 0) = false := by simp; omega
          go_wp2_with (at_builtin; refine wpList_append_own _ rfl _ _ 43 rfl (w.heap.size + 1) 5 i0 (.int .u8 0) 1 1 Tryd.underlying43 hi hz0 hz1 hz2 rfl (by decide) _ _ _ rfl (hrow.alloc _) ⟨wr.heap.size, 0, none⟩ 1 1 [.int .u8 (x : Int)] rfl rfl ?a5 ?b5 ?c5 ?d5 ?e5 ?_)
          try (case a5 => exact (World.ownsRow_lit (base := wr.heap.size) (e := 5) (size := 1) wr #[.int .u8 (x : Int)] 1 (Nat.le_refl _) (by decide) rfl).cells rfl)
          try (case b5 => intro u' hu'; simp at hu'; rcases hu' with rfl | rfl <;> rfl)
          try (case b5 => intro u' hu'; simp at hu'; subst hu'; rfl)
          try (case c5 => unfold maxLen; omega)
          try (case d5 => omega)
          try (case e5 => simp; omega)
          intro v' w4 hown' hgrow _
          have hbw4 : Below (w.heap.size + 1) (w.alloc (.cells #[.int .i64 k, .int .i64 n, .string s] 36)) w4 := (hbw.alloc (by omega) _).grown hgrow (by simp; omega) (fun k' hk' => (hrow.lt k' hk').1)
          go_wp2_with fail
          go_roundw
          case rel =>
            refine ⟨j + 1, l + 1, v', rfl, by go_num, by omega, ?_, ?_, hbw4⟩
            · rw [HE.out, List.length_append, HL.out]; simp only [List.length_cons, List.length_nil]; omega
            · unfold URow
              rw [HE.out, ← List.cons_append, List.map_append]
              rw [show [s[j]].map u8v = [Value.int .u8 (x : Int)] from by unfold u8v; rw [List.map_cons, hx]; rfl]; exact hown'
          case measure => first | (simp [intOf]; omega) | simp [intOf]
      · obtain rfl : j = s.size := by omega
        go_wp2_with (at_builtin; refine wpList_append_own _ rfl _ _ 43 rfl (w.heap.size + 1) 5 i0 (.int .u8 0) 1 1 Tryd.underlying43 hi hz0 hz1 hz2 rfl (by decide) _ _ _ rfl (hrow.alloc _) ⟨wr.heap.size, 0, none⟩ 2 2 [.int .u8 0, .int .u8 0] rfl rfl ?a6 ?b6 ?c6 ?d6 ?e6 ?_)
        try (case a6 => exact (World.ownsRow_lit (base := wr.heap.size) (e := 5) (size := 1) wr #[.int .u8 0, .int .u8 0] 2 (Nat.le_refl _) (by decide) rfl).cells rfl)
        try (case b6 => intro u' hu'; simp at hu'; rcases hu' with rfl | rfl <;> rfl)
        try (case b6 => intro u' hu'; simp at hu'; subst hu'; rfl)
        try (case c6 => unfold maxLen; omega)
        try (case d6 => omega)
        try (case e6 => simp; omega)
        intro v' w4 hown' hgrow _
        have hbw4 : Below (w.heap.size + 1) (w.alloc (.cells #[.int .i64 k, .int .i64 n, .string s] 36)) w4 := (hbw.alloc (by omega) _).grown hgrow (by simp; omega) (fun k' hk' => (hrow.lt k' hk').1)
        go_wp2_with fail
        go_ret
        refine ⟨v', rfl, ?_, hb0.trans (hbw4.mono (by omega))⟩
        have e : bytesV k n s = (2 :: esc0 s.data.toList) ++ [0, 0] := by unfold bytesV textB; rw [if_neg h1]; rfl
        have et : s.data.toList.take s.size = s.data.toList := List.take_of_length_le (by rw [Array.length_toList]; exact Nat.le_refl _)
        rw [et] at hown'
        have el : (bytesV k n s).length = l + 2 := by rw [e, HL.out, et, List.length_append, List.length_cons, List.length_cons, List.length_cons, List.length_nil]; omega
        unfold URow
        rw [el, e, List.map_append]
        exact hown'
end Go.Proofs.YtgacphpkgaobkaaDoor
