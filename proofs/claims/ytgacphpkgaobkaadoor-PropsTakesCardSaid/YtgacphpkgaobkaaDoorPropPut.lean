/- The document's own answers for lists of properties: one property put into a list. -/
import Derived.Test.YtgacphpkgaobkaaDoorPropDrop
import Derived.Test.YtgacphpkgaobkaaDoorPropRight
set_option linter.unusedVariables false
namespace Go.Proofs.YtgacphpkgaobkaaDoor
open Go Go.RowKit

/-- A property in a block of its own. -/
structure BoxP (W : World) (N : Nat) (a : ByteArray) (k n : Int) (s : ByteArray) : Prop where
  c0 : W.cell? { block := N, off := 0 } = some (.string a)
  c1 : W.cell? { block := N, off := 1 } = some (.int .i64 k)
  c2 : W.cell? { block := N, off := 2 } = some (.int .i64 n)
  c3 : W.cell? { block := N, off := 3 } = some (.string s)
theorem BoxP.new (w : World) (a : ByteArray) (k n : Int) (s : ByteArray) : BoxP (w.alloc (.cells #[.string a, .int .i64 k, .int .i64 n, .string s] 41)) w.heap.size a k n s := by
  constructor
  · rw [World.cell?_alloc_mark]; rfl
  · rw [World.cell?_alloc_mark]; rfl
  · rw [World.cell?_alloc_mark]; rfl
  · rw [World.cell?_alloc_mark]; rfl
theorem BoxP.block {W W' : World} {N : Nat} {a : ByteArray} {k n : Int} {s : ByteArray} (h : BoxP W N a k n s) (e : W'.heap[N]? = W.heap[N]?) : BoxP W' N a k n s :=
  ⟨(World.cell?_of_block e).trans h.c0, (World.cell?_of_block e).trans h.c1, (World.cell?_of_block e).trans h.c2, (World.cell?_of_block e).trans h.c3⟩
def putFrom : Bool → List Prop4 → Prop4 → List Prop4
  | done, [], p => if done then [] else [p]
  | done, z :: r, p => (if 0 ≤ cmpK z.1 p.1 ∧ done = false then [p] else []) ++ ((if cmpK z.1 p.1 = 0 then [] else [z]) ++ putFrom (done || decide (0 ≤ cmpK z.1 p.1)) r p)
theorem PRow.snoc {w : World} {B m n : Nat} {v : Value} {zs : List Prop4} {z : Prop4} (h : w.ownsRow B 41 4 v m (zs.flatMap cellsP ++ cellsP z)) (hm : m = n) : PRow w B v n (zs ++ [z]) := by
  subst hm
  unfold PRow
  rw [List.flatMap_append]
  simpa using h

set_option maxHeartbeats 4000000 in
set_option maxRecDepth 100000 in
theorem refPut_any (A : Option Addr) (c : Nat) (zs : List Prop4) (pa : ByteArray) (pk pn : Int) (ps : ByteArray) (w : World) (h : RdP w A zs) (hc : zs.length ≤ c) (hlen : zs.length ≤ 1000000) (hs : ∀ k, k < zs.length → (zs.getD k Prop4.no).1.size ≤ 1000000) (hpa : pa.size ≤ 1000000) :
    Calls Tryd.prog 33 #[.slice A zs.length c, .agg #[.string pa, .int .i64 pk, .int .i64 pn, .string ps]] w fun e w' => ∃ v l, e = .returned v ∧ l = (putFrom false zs (pa, pk, pn, ps)).length ∧ PRow w' (w.heap.size + 1) v l (putFrom false zs (pa, pk, pn, ps)) ∧ Below w.heap.size w w' := by
  have HS := Lib.hid hs
  have hb0 : Below w.heap.size w (w.alloc (.cells #[.string pa, .int .i64 pk, .int .i64 pn, .string ps] 41)) := (Below.refl _ _).alloc (Nat.le_refl _) _
  have hsz0 : (w.alloc (.cells #[.string pa, .int .i64 pk, .int .i64 pn, .string ps] 41)).heap.size = w.heap.size + 1 := by simp
  have HRd1 := Lib.hid (h.below (Nat.le_refl _) hb0)
  have HBox := Lib.hid (BoxP.new w pa pk pn ps)
  clear hs h
  obtain ⟨i0, hi, hz0, hz1, hz2⟩ := info_parts prop_info
  obtain ⟨P, hP⟩ : ∃ P : Prop4, (pa, pk, pn, ps) = P := ⟨_, rfl⟩
  have HP := Lib.hid hP
  rw [hP]
  clear hP
  go_enter Tryd.func33, Tryd.ntmps33
  go_wp2_with fail
  go_loopw [5, 6, 7] (fun x o i wr => ∃ (v : Value) (done : Bool) (k l : Nat) (out : List Prop4), x = v ∧ o = .bool done ∧ i = .int .i64 (k : Nat) ∧ k ≤ zs.length ∧ l ≤ 2 * k ∧ l = out.length ∧ out ++ putFrom done (zs.drop k) P = putFrom false zs P ∧ PRow wr (w.heap.size + 1) v l out ∧ Below (w.heap.size + 1) (w.alloc (.cells #[.string pa, .int .i64 pk, .int .i64 pn, .string ps] 41)) wr) (fun _ _ i _ => zs.length - (intOf i).toNat)
  case atStart => exact ⟨_, false, 0, 0, [], rfl, rfl, rfl, Nat.zero_le _, Nat.zero_le _, rfl, rfl, World.ownsRow_nil _ _ _ _, Below.refl _ _⟩
  case round =>
    obtain ⟨v, done, k, l, out, rfl, rfl, rfl, hk, hlk, hl, hacc, hrow, hbw⟩ := hrel
    have hbs : w.heap.size + 1 ≤ wr.heap.size := by have := hbw.size; rw [hsz0] at this; exact this
    have HL := Lib.hid hl
    clear hl
    by_cases hlt : k < zs.length
    · rw [drop_getD zs k hlt] at hacc
      have hkz := HS.out k hlt
      have hrdw := (HRd1.out.below (by rw [hsz0]; exact Nat.le_refl _) hbw)
      obtain ⟨ad, rfl, hblk, q0, _⟩ := hrdw.at4 hlt
      obtain ⟨z, hz⟩ : ∃ z, zs.getD k Prop4.no = z := ⟨_, rfl⟩
      rw [hz] at q0 hacc hkz
      have HZ := Lib.hid hz
      clear hz
      obtain ⟨a, kk, n, s⟩ := z
      dsimp only at q0 hkz
      have cC := fun W => refCompare_any a pa W hkz hpa
      obtain ⟨vc, hvc⟩ : ∃ x, cmpL (runes a.data.toList) (runes pa.data.toList) = x := ⟨_, rfl⟩
      rw [hvc] at cC
      have CC := Lib.hid cC
      have hst : out ++ ((if 0 ≤ vc ∧ done = false then [P] else []) ++ ((if vc = 0 then [] else [(a, kk, n, s)]) ++ putFrom (done || decide (0 ≤ vc)) (zs.drop (k + 1)) P)) = putFrom false zs P := by
        rw [← hacc, ← hvc, ← HP.out]
        rfl
      have HSt := Lib.hid hst
      clear cC hvc hst hacc
      obtain ⟨p0, _, _, _⟩ := HBox.out.block (hbw.block w.heap.size (by omega))
      have HRow := Lib.hid hrow
      clear hrow
      go_wp2_with fail
      go_region_held3 (fun w' => w'.cell? (ad.add (k * 4)) = some (.string a) ∧ w'.cell? { block := w.heap.size, off := 0 } = some (.string pa) ∧ Below (w.heap.size + 1) (w.alloc (.cells #[.string pa, .int .i64 pk, .int .i64 pn, .string ps] 41)) w' ∧ PRow w' (w.heap.size + 1) u5 l out) (first | exact ⟨t0, t1, b6, t2⟩ | exact ⟨q0, p0, Below.drew hbw, HRow.out⟩ | exact ⟨q0, p0, hbw, HRow.out⟩ | exact ⟨by assumption, by assumption, by assumption, by assumption⟩) ((first
        | (go_at_call 38; refine (CC.out _).mono ?_; rintro e w5 ⟨rfl, b5⟩; have b6 : Below (w.heap.size + 1) (w.alloc (.cells #[.string pa, .int .i64 pk, .int .i64 pn, .string ps] 41)) w5 := (Below.drew hbw).trans (b5.mono hbs); have t0 := (World.cell?_of_block (b5.block _ (by rw [add_block]; exact hblk))).trans q0; have t1 := (World.cell?_of_block (b5.block w.heap.size (by show w.heap.size < wr.heap.size; omega))).trans p0; have t2 := PRow.below (w := wr) HRow.out (((Below.refl wr.heap.size wr).drew).trans b5) (Nat.le_refl _))))
      clear q0 p0 t0 t1
      have hbs5 : w.heap.size + 1 ≤ w5.heap.size := by have := b6.size; rw [hsz0] at this; exact this
      by_cases hv : 0 ≤ vc
      · have d1 : decide (0 ≤ vc) = true := decide_eq_true hv
        by_cases he : vc = 0
        · have d2 : (vc != 0) = false := by simp [he]
          cases done
          · skip
            have hout : (out ++ [P]) ++ putFrom true (zs.drop (k + 1)) P = putFrom false zs P := by rw [← HSt.out]; simp [he]
            have HO := Lib.hid hout
            clear hout HSt
            obtain ⟨r0, r1, r2, r3⟩ := HBox.out.block (b6.block w.heap.size (by omega))
            go_wp2_with (at_builtin; refine wpList_append_own _ rfl _ _ 22 rfl (w.heap.size + 1) 41 i0 _ 4 48 Tryd.underlying22 hi hz0 hz1 hz2 rfl (by decide) _ _ _ rfl (t2.alloc _) ⟨w5.heap.size, 0, none⟩ 1 1 (cellsP (pa, pk, pn, ps)) rfl rfl ?a1 ?b1 ?c1 ?d1 ?e1 ?_)
            try (case a1 => first | exact (World.ownsRow_lit (base := w5.heap.size) (e := 41) (size := 4) w5 #[.string pa, .int .i64 pk, .int .i64 pn, .string ps] 1 (Nat.le_refl _) (by decide) rfl).cells rfl | exact fun _ _ hj' => hj')
            try (case b1 => intro u' hu'; simp [cellsP] at hu'; rcases hu' with rfl | rfl | rfl | rfl <;> rfl)
            try (case c1 => unfold maxLen; omega)
            try (case d1 => omega)
            try (case e1 => have := b6.size; rw [hsz0] at this; simp; omega)
            intro v7 w7 own7 grow7 _
            have bw7 : Below (w.heap.size + 1) (w.alloc (.cells #[.string pa, .int .i64 pk, .int .i64 pn, .string ps] 41)) w7 := (b6.alloc (by have := b6.size; rw [hsz0] at this; omega) _).grown grow7 (by have := b6.size; rw [hsz0] at this; simp; omega) (fun k' hk' => (t2.lt k' hk').1)
            go_wp2_with fail
            go_roundw
            case rel =>
              first
              | exact ⟨v7, true, k + 1, l + 1, out ++ [P], rfl, rfl, by go_num, by omega, by omega, by rw [List.length_append, ← HL.out]; rfl, HO.out, by rw [← HP.out]; exact PRow.snoc own7 rfl, bw7⟩
              | ((repeat apply Exists.intro); refine ⟨?_, rfl⟩; exact ⟨v7, true, k + 1, l + 1, out ++ [P], rfl, rfl, by go_num, by omega, by omega, by rw [List.length_append, ← HL.out]; rfl, HO.out, by rw [← HP.out]; exact PRow.snoc own7 rfl, bw7⟩)
            case measure => first | (simp [intOf]; omega) | simp [intOf]
          · skip
            have hout : out ++ putFrom true (zs.drop (k + 1)) P = putFrom false zs P := by rw [← HSt.out]; simp [he]
            have HO := Lib.hid hout
            clear hout HSt
            go_wp2_with fail
            go_roundw
            case rel =>
              first
              | exact ⟨_, true, k + 1, l, out, rfl, rfl, by go_num, by omega, by omega, HL.out, HO.out, t2, b6⟩
              | ((repeat apply Exists.intro); refine ⟨?_, rfl⟩; exact ⟨_, true, k + 1, l, out, rfl, rfl, by go_num, by omega, by omega, HL.out, HO.out, t2, b6⟩)
            case measure => first | (simp [intOf]; omega) | simp [intOf]
        · have d2 : (vc != 0) = true := by simp [he]
          cases done
          · skip
            obtain ⟨o8, ho8⟩ : ∃ o8, out ++ [P] = o8 := ⟨_, rfl⟩
            have hout : (o8 ++ [(a, kk, n, s)]) ++ putFrom true (zs.drop (k + 1)) P = putFrom false zs P := by rw [← HSt.out, ← ho8]; simp [hv, he]
            have HO := Lib.hid hout
            clear hout HSt
            have hl8 : l + 1 = o8.length := by rw [← ho8, List.length_append, ← HL.out]; rfl
            have HL8 := Lib.hid hl8
            have HO8 := Lib.hid ho8
            clear hl8 ho8
            obtain ⟨r0, r1, r2, r3⟩ := HBox.out.block (b6.block w.heap.size (by omega))
            go_wp2_with (at_builtin; refine wpList_append_own _ rfl _ _ 22 rfl (w.heap.size + 1) 41 i0 _ 4 48 Tryd.underlying22 hi hz0 hz1 hz2 rfl (by decide) _ _ _ rfl (t2.alloc _) ⟨w5.heap.size, 0, none⟩ 1 1 (cellsP (pa, pk, pn, ps)) rfl rfl ?a2 ?b2 ?c2 ?d2 ?e2 ?_)
            try (case a2 => first | exact (World.ownsRow_lit (base := w5.heap.size) (e := 41) (size := 4) w5 #[.string pa, .int .i64 pk, .int .i64 pn, .string ps] 1 (Nat.le_refl _) (by decide) rfl).cells rfl | exact fun _ _ hj' => hj')
            try (case b2 => intro u' hu'; simp [cellsP] at hu'; rcases hu' with rfl | rfl | rfl | rfl <;> rfl)
            try (case c2 => unfold maxLen; omega)
            try (case d2 => omega)
            try (case e2 => have := b6.size; rw [hsz0] at this; simp; omega)
            intro v8 w8 own8 grow8 _
            have bw8 : Below (w.heap.size + 1) (w.alloc (.cells #[.string pa, .int .i64 pk, .int .i64 pn, .string ps] 41)) w8 := (b6.alloc (by have := b6.size; rw [hsz0] at this; omega) _).grown grow8 (by have := b6.size; rw [hsz0] at this; simp; omega) (fun k' hk' => (t2.lt k' hk').1)
            have hrow8 : PRow w8 (w.heap.size + 1) v8 (l + 1) o8 := by rw [← HO8.out, ← HP.out]; exact PRow.snoc own8 rfl
            have hbs8 : w.heap.size + 1 ≤ w8.heap.size := by have := bw8.size; rw [hsz0] at this; exact this
            clear r0 r1 r2 r3
            obtain ⟨r0, r1, r2, r3⟩ := HBox.out.block (bw8.block w.heap.size (by omega))
            obtain ⟨ae, hae, _, h0, h1, h2, h3⟩ := (HRd1.out.below (by rw [hsz0]; exact Nat.le_refl _) bw8).at4 hlt
            obtain rfl : ad = ae := by injection hae
            rw [HZ.out] at h0 h1 h2 h3
            dsimp only at h0 h1 h2 h3
            clear hae
            go_wp2_with (at_builtin; refine wpList_append_own _ rfl _ _ 22 rfl (w.heap.size + 1) 41 i0 _ 4 48 Tryd.underlying22 hi hz0 hz1 hz2 rfl (by decide) _ _ _ rfl (hrow8.alloc _) ⟨w8.heap.size, 0, none⟩ 1 1 (cellsP (a, kk, n, s)) rfl rfl ?a3 ?b3 ?c3 ?d3 ?e3 ?_)
            try (case a3 => first | exact (World.ownsRow_lit (base := w8.heap.size) (e := 41) (size := 4) w8 #[.string a, .int .i64 kk, .int .i64 n, .string s] 1 (Nat.le_refl _) (by decide) rfl).cells rfl | exact fun _ _ hj' => hj')
            try (case b3 => intro u' hu'; simp [cellsP] at hu'; rcases hu' with rfl | rfl | rfl | rfl <;> rfl)
            try (case c3 => unfold maxLen; omega)
            try (case d3 => omega)
            try (case e3 => have := bw8.size; rw [hsz0] at this; simp; omega)
            intro v9 w9 own9 grow9 _
            have bw9 : Below (w.heap.size + 1) (w.alloc (.cells #[.string pa, .int .i64 pk, .int .i64 pn, .string ps] 41)) w9 := (bw8.alloc (by have := bw8.size; rw [hsz0] at this; omega) _).grown grow9 (by have := bw8.size; rw [hsz0] at this; simp; omega) (fun k' hk' => (hrow8.lt k' hk').1)
            go_wp2_with fail
            go_roundw
            case rel =>
              first
              | exact ⟨v9, true, k + 1, l + 1 + 1, o8 ++ [(a, kk, n, s)], rfl, rfl, by go_num, by omega, by omega, by rw [List.length_append, ← HL8.out]; rfl, HO.out, PRow.snoc own9 rfl, bw9⟩
              | ((repeat apply Exists.intro); refine ⟨?_, rfl⟩; exact ⟨v9, true, k + 1, l + 1 + 1, o8 ++ [(a, kk, n, s)], rfl, rfl, by go_num, by omega, by omega, by rw [List.length_append, ← HL8.out]; rfl, HO.out, PRow.snoc own9 rfl, bw9⟩)
            case measure => first | (simp [intOf]; omega) | simp [intOf]
          · skip
            have hout : (out ++ [(a, kk, n, s)]) ++ putFrom true (zs.drop (k + 1)) P = putFrom false zs P := by rw [← HSt.out]; simp [hv, he]
            have HO := Lib.hid hout
            clear hout HSt
            obtain ⟨r0, r1, r2, r3⟩ := HBox.out.block (b6.block w.heap.size (by omega))
            obtain ⟨ae, hae, _, h0, h1, h2, h3⟩ := (HRd1.out.below (by rw [hsz0]; exact Nat.le_refl _) b6).at4 hlt
            obtain rfl : ad = ae := by injection hae
            rw [HZ.out] at h0 h1 h2 h3
            dsimp only at h0 h1 h2 h3
            clear hae
            go_wp2_with (at_builtin; refine wpList_append_own _ rfl _ _ 22 rfl (w.heap.size + 1) 41 i0 _ 4 48 Tryd.underlying22 hi hz0 hz1 hz2 rfl (by decide) _ _ _ rfl (t2.alloc _) ⟨w5.heap.size, 0, none⟩ 1 1 (cellsP (a, kk, n, s)) rfl rfl ?a4 ?b4 ?c4 ?d4 ?e4 ?_)
            try (case a4 => first | exact (World.ownsRow_lit (base := w5.heap.size) (e := 41) (size := 4) w5 #[.string a, .int .i64 kk, .int .i64 n, .string s] 1 (Nat.le_refl _) (by decide) rfl).cells rfl | exact fun _ _ hj' => hj')
            try (case b4 => intro u' hu'; simp [cellsP] at hu'; rcases hu' with rfl | rfl | rfl | rfl <;> rfl)
            try (case c4 => unfold maxLen; omega)
            try (case d4 => omega)
            try (case e4 => have := b6.size; rw [hsz0] at this; simp; omega)
            intro v10 w10 own10 grow10 _
            have bw10 : Below (w.heap.size + 1) (w.alloc (.cells #[.string pa, .int .i64 pk, .int .i64 pn, .string ps] 41)) w10 := (b6.alloc (by have := b6.size; rw [hsz0] at this; omega) _).grown grow10 (by have := b6.size; rw [hsz0] at this; simp; omega) (fun k' hk' => (t2.lt k' hk').1)
            go_wp2_with fail
            go_roundw
            case rel =>
              first
              | exact ⟨v10, true, k + 1, l + 1, out ++ [(a, kk, n, s)], rfl, rfl, by go_num, by omega, by omega, by rw [List.length_append, ← HL.out]; rfl, HO.out, PRow.snoc own10 rfl, bw10⟩
              | ((repeat apply Exists.intro); refine ⟨?_, rfl⟩; exact ⟨v10, true, k + 1, l + 1, out ++ [(a, kk, n, s)], rfl, rfl, by go_num, by omega, by omega, by rw [List.length_append, ← HL.out]; rfl, HO.out, PRow.snoc own10 rfl, bw10⟩)
            case measure => first | (simp [intOf]; omega) | simp [intOf]
      · have d1 : decide (0 ≤ vc) = false := decide_eq_false hv
        have d2 : (vc != 0) = true := by simp; omega
        have hne : vc ≠ 0 := by omega
        have hout : (out ++ [(a, kk, n, s)]) ++ putFrom done (zs.drop (k + 1)) P = putFrom false zs P := by rw [← HSt.out]; simp [hv, hne]
        have HO := Lib.hid hout
        clear hout HSt
        obtain ⟨r0, r1, r2, r3⟩ := HBox.out.block (b6.block w.heap.size (by omega))
        obtain ⟨ae, hae, _, h0, h1, h2, h3⟩ := (HRd1.out.below (by rw [hsz0]; exact Nat.le_refl _) b6).at4 hlt
        obtain rfl : ad = ae := by injection hae
        rw [HZ.out] at h0 h1 h2 h3
        dsimp only at h0 h1 h2 h3
        clear hae
        go_wp2_with (at_builtin; refine wpList_append_own _ rfl _ _ 22 rfl (w.heap.size + 1) 41 i0 _ 4 48 Tryd.underlying22 hi hz0 hz1 hz2 rfl (by decide) _ _ _ rfl (t2.alloc _) ⟨w5.heap.size, 0, none⟩ 1 1 (cellsP (a, kk, n, s)) rfl rfl ?a5 ?b5 ?c5 ?d5 ?e5 ?_)
        try (case a5 => first | exact (World.ownsRow_lit (base := w5.heap.size) (e := 41) (size := 4) w5 #[.string a, .int .i64 kk, .int .i64 n, .string s] 1 (Nat.le_refl _) (by decide) rfl).cells rfl | exact fun _ _ hj' => hj')
        try (case b5 => intro u' hu'; simp [cellsP] at hu'; rcases hu' with rfl | rfl | rfl | rfl <;> rfl)
        try (case c5 => unfold maxLen; omega)
        try (case d5 => omega)
        try (case e5 => have := b6.size; rw [hsz0] at this; simp; omega)
        intro v11 w11 own11 grow11 _
        have bw11 : Below (w.heap.size + 1) (w.alloc (.cells #[.string pa, .int .i64 pk, .int .i64 pn, .string ps] 41)) w11 := (b6.alloc (by have := b6.size; rw [hsz0] at this; omega) _).grown grow11 (by have := b6.size; rw [hsz0] at this; simp; omega) (fun k' hk' => (t2.lt k' hk').1)
        go_wp2_with fail
        go_roundw
        case rel =>
          first
          | exact ⟨v11, done, k + 1, l + 1, out ++ [(a, kk, n, s)], rfl, rfl, by go_num, by omega, by omega, by rw [List.length_append, ← HL.out]; rfl, HO.out, PRow.snoc own11 rfl, bw11⟩
          | ((repeat apply Exists.intro); refine ⟨?_, rfl⟩; exact ⟨v11, done, k + 1, l + 1, out ++ [(a, kk, n, s)], rfl, rfl, by go_num, by omega, by omega, by rw [List.length_append, ← HL.out]; rfl, HO.out, PRow.snoc own11 rfl, bw11⟩)
        case measure => first | (simp [intOf]; omega) | simp [intOf]
    · obtain rfl : k = zs.length := by omega
      have hac := hacc
      rw [List.drop_eq_nil_of_le (Nat.le_refl _)] at hac
      cases done
      · have hout : out ++ [P] = putFrom false zs P := hac
        have HO := Lib.hid hout
        clear hout hac hacc
        obtain ⟨r0, r1, r2, r3⟩ := HBox.out.block (hbw.block w.heap.size (by omega))
        go_wp2_with (at_builtin; refine wpList_append_own _ rfl _ _ 22 rfl (w.heap.size + 1) 41 i0 _ 4 48 Tryd.underlying22 hi hz0 hz1 hz2 rfl (by decide) _ _ _ rfl (hrow.alloc _) ⟨wr.heap.size, 0, none⟩ 1 1 (cellsP (pa, pk, pn, ps)) rfl rfl ?a6 ?b6 ?c6 ?d6 ?e6 ?_)
        try (case a6 => first | exact (World.ownsRow_lit (base := wr.heap.size) (e := 41) (size := 4) wr #[.string pa, .int .i64 pk, .int .i64 pn, .string ps] 1 (Nat.le_refl _) (by decide) rfl).cells rfl | exact fun _ _ hj' => hj')
        try (case b6 => intro u' hu'; simp [cellsP] at hu'; rcases hu' with rfl | rfl | rfl | rfl <;> rfl)
        try (case c6 => unfold maxLen; omega)
        try (case d6 => omega)
        try (case e6 => have := hbw.size; rw [hsz0] at this; simp; omega)
        intro v6 w6 own6 grow6 _
        have bw6 : Below (w.heap.size + 1) (w.alloc (.cells #[.string pa, .int .i64 pk, .int .i64 pn, .string ps] 41)) w6 := (hbw.alloc (by have := hbw.size; rw [hsz0] at this; omega) _).grown grow6 (by have := hbw.size; rw [hsz0] at this; simp; omega) (fun k' hk' => (hrow.lt k' hk').1)
        go_wp2_with fail
        go_ret
        refine ⟨_, l + 1, rfl, by rw [← HO.out, List.length_append, ← HL.out]; rfl, ?_, hb0.trans (bw6.mono (by omega))⟩
        rw [← HO.out, ← HP.out]
        exact PRow.snoc own6 rfl
      · have hout : out = putFrom false zs P := by rw [← hac]; simp [putFrom]
        have HO := Lib.hid hout
        clear hout hac hacc
        go_wp2_with fail
        go_ret
        exact ⟨_, l, rfl, by rw [← HO.out]; exact HL.out, by rw [← HO.out]; exact hrow, hb0.trans (hbw.mono (by omega))⟩
end Go.Proofs.YtgacphpkgaobkaaDoor
