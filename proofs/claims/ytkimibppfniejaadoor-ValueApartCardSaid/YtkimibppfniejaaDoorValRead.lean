/- A text as a value: the code's own. -/
import Derived.Test.YtkimibppfniejaaDoorValPrint
import Derived.Test.YtkimibppfniejaaDoorValRight
import Derived.Test.YtkimibppfniejaaDoorValEq
import Derived.Test.YtkimibppfniejaaDoorUnquote2
import Derived.Lib.AtoiErrMem
set_option linter.unusedVariables false
namespace Go.Proofs.YtkimibppfniejaaDoor
open Go Go.RowKit

/-- What a text may mean, and what Read says of it. -/
def meantV (s : ByteArray) : Val3 :=
  match Lib.atoiAll s.data.toList with
  | .ok v => (1, v, ⟨#[]⟩)
  | _ => match unquoteL s.data.toList with
    | some t => (2, 0, ⟨t.toArray⟩)
    | none => (0, 0, ⟨#[]⟩)
def readOk (s : ByteArray) : Bool := rightV (meantV s).1 (meantV s).2.1 (meantV s).2.2 && (printR (meantV s).1 (meantV s).2.1 (meantV s).2.2).toList == s.toList
def readV (s : ByteArray) : Val3 := if readOk s then meantV s else (0, 0, ⟨#[]⟩)
def readE (s : ByteArray) : Int := if readOk s then 0 else 10

theorem atoi_ok (s : ByteArray) (hs : s.size ≤ 1000000) (v : Int) (h : Lib.atoiAll s.data.toList = .ok v) (w : World) :
    Calls Tryd.prog 50 #[.string s] w fun e w' => e = .returned (.tuple #[.int .i64 v, .nilIface]) ∧ Below w.heap.size w w' := by
  refine (Tryd.strconv_Atoi_ok s (by omega) v h w).mono ?_
  rintro e w' ⟨rfl, hw⟩
  refine ⟨rfl, ?_⟩
  rcases hw with rfl | ⟨t, rfl⟩
  · exact Below.refl _ _
  · exact Lib.bytesWorld_below _ _ _
theorem atoi_no (s : ByteArray) (hs : s.size ≤ 1000000) (h : ∀ v, Lib.atoiAll s.data.toList ≠ .ok v) (w : World) (hw : Std w) :
    Calls Tryd.prog 50 #[.string s] w fun e w' => (∃ x N, e = .returned (.tuple #[.int .i64 x, .iface 91 (.pointer (some ⟨N, 0, none⟩))])) ∧ Below w.heap.size w w' := by
  obtain ⟨hu, hp, ⟨t1, p1, h1⟩, t2, p2, h2⟩ := hw
  cases h3 : Lib.atoiAll s.data.toList with
  | ok v => exact absurd h3 (h v)
  | «syntax» =>
    refine (Tryd.strconv_Atoi_syntax_var s (by omega) h3 t1 p1 w h1).mono ?_
    rintro e w' ⟨N, rfl, _, _, hb⟩
    exact ⟨⟨_, N, rfl⟩, hb⟩
  | range =>
    refine (Tryd.strconv_Atoi_range_var s (by omega) h3 t2 p2 w h2).mono ?_
    rintro e w' ⟨N, rfl, _, _, hb⟩
    exact ⟨⟨_, N, rfl⟩, hb⟩

set_option maxHeartbeats 1000000 in
set_option maxRecDepth 100000 in
theorem meant_any (s : ByteArray) (w : World) (hs : s.size ≤ 1000000) (hw : Std w) :
    Calls Tryd.prog 42 #[.string s] w fun e w' => e = .returned (valV (meantV s).1 (meantV s).2.1 (meantV s).2.2) ∧ Below w.heap.size w w' := by
  have hb0 : Below w.heap.size w (w.alloc (.cells #[.int .i64 0, .int .i64 0, .string ⟨#[]⟩] 23)) := (Below.refl _ _).alloc (Nat.le_refl _) _
  have hsz0 : (w.alloc (.cells #[.int .i64 0, .int .i64 0, .string ⟨#[]⟩] 23)).heap.size = w.heap.size + 1 := by simp
  have HRes := Lib.hid (Res.new w)
  have hex : (∃ v, Lib.atoiAll s.data.toList = .ok v) ∨ ∀ v, Lib.atoiAll s.data.toList ≠ .ok v := by
    cases Lib.atoiAll s.data.toList with
    | ok v => exact .inl ⟨v, rfl⟩
    | «syntax» => exact .inr (fun v h => by cases h)
    | range => exact .inr (fun v h => by cases h)
  rcases hex with ⟨v, hv⟩ | hv
  · have HM : Hid (meantV s = (1, v, ⟨#[]⟩)) := Lib.hid (by unfold meantV; rw [hv])
    have HA := Lib.hid (fun W => atoi_ok s hs v hv W)
    clear hv
    go_enter Tryd.func42, Tryd.ntmps42
    go_wp2_with fail
    refine (HA.out _).mono ?_
    rintro e w1 ⟨rfl, b1⟩
    have HRes1 := Lib.hid (HRes.out.block (b1.block w.heap.size (by rw [hsz0]; omega)))
    obtain ⟨r0, r1, r2, q0, q1, q2⟩ := HRes1.out
    go_wp2_with fail
    have s0 := fun x => (Res.set HRes1.out x x x).1
    have s1 := fun x y => (Res.set HRes1.out x y y).2.1
    have s2 := fun x y z => (Res.set HRes1.out x y z).2.2
    exact bodyPost_ret (v := valV 1 v ⟨#[]⟩) (by simp [results, Tryd.results42, go_sem, valV, s0, s1, s2]) rfl ⟨by rw [HM.out], (((btV hb0 b1).setCell (p := ⟨w.heap.size, 0, none⟩) (Nat.le_refl _) _).setCell (p := ⟨w.heap.size, 1, none⟩) (Nat.le_refl _) _).setCell (p := ⟨w.heap.size, 2, none⟩) (Nat.le_refl _) _⟩
  · have HA := Lib.hid (fun W hW => atoi_no s hs hv W hW)
    have HU := Lib.hid (fun W hW => unquote_any s W hs hW)
    cases hu : unquoteL s.data.toList with
    | some t =>
      have HM : Hid (meantV s = (2, 0, ⟨t.toArray⟩)) := Lib.hid (by
        unfold meantV
        cases h3 : Lib.atoiAll s.data.toList with
        | ok v => exact absurd h3 (hv v)
        | «syntax» => show (match unquoteL s.data.toList with | some t => ((2, 0, ⟨t.toArray⟩) : Val3) | none => (0, 0, ⟨#[]⟩)) = _; rw [hu]
        | range => show (match unquoteL s.data.toList with | some t => ((2, 0, ⟨t.toArray⟩) : Val3) | none => (0, 0, ⟨#[]⟩)) = _; rw [hu])
      rw [hu] at HU
      unfold unescV at HU
      obtain ⟨T, hT⟩ : ∃ T : ByteArray, (⟨t.toArray⟩ : ByteArray) = T := ⟨_, rfl⟩
      simp only [hT] at HU
      clear hv hu
      go_enter Tryd.func42, Tryd.ntmps42
      go_wp2_with fail
      refine (HA.out _ (hw.below hb0)).mono ?_
      rintro e w1 ⟨⟨x, N, rfl⟩, b1⟩
      go_wp2_with fail
      refine (HU.out _ (hw.below (btV hb0 b1)).u).mono ?_
      rintro e w2 ⟨rfl, b2⟩
      have HRes2 := Lib.hid ((HRes.out.block (b1.block w.heap.size (by rw [hsz0]; omega))).block (b2.block w.heap.size (by have := b1.size; rw [hsz0] at this; omega)))
      obtain ⟨r0, r1, r2, q0, q1, q2⟩ := HRes2.out
      go_wp2_with fail
      have s0 := fun x => (Res.set HRes2.out x x x).1
      have s1 := fun x y => (Res.set HRes2.out x y y).2.1
      have s2 := fun x y z => (Res.set HRes2.out x y z).2.2
      exact bodyPost_ret (v := valV 2 0 T) (by simp [results, Tryd.results42, go_sem, valV, s0, s1, s2]) rfl ⟨by rw [HM.out, hT], (((btV (btV hb0 b1) b2).setCell (p := ⟨w.heap.size, 0, none⟩) (Nat.le_refl _) _).setCell (p := ⟨w.heap.size, 1, none⟩) (Nat.le_refl _) _).setCell (p := ⟨w.heap.size, 2, none⟩) (Nat.le_refl _) _⟩
    | none =>
      have HM : Hid (meantV s = (0, 0, ⟨#[]⟩)) := Lib.hid (by
        unfold meantV
        cases h3 : Lib.atoiAll s.data.toList with
        | ok v => exact absurd h3 (hv v)
        | «syntax» => show (match unquoteL s.data.toList with | some t => ((2, 0, ⟨t.toArray⟩) : Val3) | none => (0, 0, ⟨#[]⟩)) = _; rw [hu]
        | range => show (match unquoteL s.data.toList with | some t => ((2, 0, ⟨t.toArray⟩) : Val3) | none => (0, 0, ⟨#[]⟩)) = _; rw [hu])
      rw [hu] at HU
      unfold unescV at HU
      clear hv hu
      go_enter Tryd.func42, Tryd.ntmps42
      go_wp2_with fail
      refine (HA.out _ (hw.below hb0)).mono ?_
      rintro e w1 ⟨⟨x, N, rfl⟩, b1⟩
      go_wp2_with fail
      refine (HU.out _ (hw.below (btV hb0 b1)).u).mono ?_
      rintro e w2 ⟨rfl, b2⟩
      have HRes2 := Lib.hid ((HRes.out.block (b1.block w.heap.size (by rw [hsz0]; omega))).block (b2.block w.heap.size (by have := b1.size; rw [hsz0] at this; omega)))
      obtain ⟨r0, r1, r2, q0, q1, q2⟩ := HRes2.out
      go_wp2_with fail
      have s0 := fun x => (Res.set HRes2.out x x x).1
      have s1 := fun x y => (Res.set HRes2.out x y y).2.1
      have s2 := fun x y z => (Res.set HRes2.out x y z).2.2
      exact bodyPost_ret (v := valV 0 0 ⟨#[]⟩) (by simp [results, Tryd.results42, go_sem, valV, s0, s1, s2]) rfl ⟨by rw [HM.out], (((btV (btV hb0 b1) b2).setCell (p := ⟨w.heap.size, 0, none⟩) (Nat.le_refl _) _).setCell (p := ⟨w.heap.size, 1, none⟩) (Nat.le_refl _) _).setCell (p := ⟨w.heap.size, 2, none⟩) (Nat.le_refl _) _⟩

theorem readV_yes {s : ByteArray} {z : Val3} (hm : meantV s = z) (h1 : rightV z.1 z.2.1 z.2.2 = true) (h2 : printR z.1 z.2.1 z.2.2 = s) : readV s = z ∧ readE s = 0 := by
  have h : readOk s = true := by unfold readOk; rw [hm, h1, h2]; simp
  unfold readV readE
  rw [h, hm]
  exact ⟨rfl, rfl⟩
theorem readV_no {s : ByteArray} {z : Val3} (hm : meantV s = z) (h : rightV z.1 z.2.1 z.2.2 = false ∨ printR z.1 z.2.1 z.2.2 ≠ s) : readV s = (0, 0, ⟨#[]⟩) ∧ readE s = 10 := by
  have h : readOk s = false := by
    unfold readOk
    rw [hm]
    rcases h with h | h
    · rw [h]; rfl
    · rw [str_diff h, Bool.and_false]
  unfold readV readE
  rw [h]
  exact ⟨rfl, rfl⟩

set_option maxHeartbeats 2000000 in
set_option maxRecDepth 100000 in
theorem read_any (s : ByteArray) (w : World) (hs : s.size ≤ 1000000) (hw : Std w) :
    Calls Tryd.prog 23 #[.string s] w fun e w' => e = .returned (.tuple #[valV (readV s).1 (readV s).2.1 (readV s).2.2, .int .i64 (readE s)]) ∧ Below w.heap.size w w' := by
  have hb0 : Below w.heap.size w (w.alloc (.cells #[.int .i64 0, .int .i64 0, .string ⟨#[]⟩] 23)) := (Below.refl _ _).alloc (Nat.le_refl _) _
  have hsz0 : (w.alloc (.cells #[.int .i64 0, .int .i64 0, .string ⟨#[]⟩] 23)).heap.size = w.heap.size + 1 := by simp
  have HRes := Lib.hid (Res.new w)
  have HM := Lib.hid (fun W hW => meant_any s W hs hW)
  have hnb : -9223372036854775808 ≤ (meantV s).2.1 ∧ (meantV s).2.1 ≤ 9223372036854775807 := by
    unfold meantV
    cases h : Lib.atoiAll s.data.toList with
    | ok v => exact Lib.atoiAll_bounds h
    | «syntax» => cases unquoteL s.data.toList <;> exact ⟨by simp, by simp⟩
    | range => cases unquoteL s.data.toList <;> exact ⟨by simp, by simp⟩
  obtain ⟨⟨k, n, t⟩, hm⟩ : ∃ z, meantV s = z := ⟨_, rfl⟩
  rw [hm] at HM hnb
  have HMe := Lib.hid hm
  have hn0 := hnb.1
  have hn1 := hnb.2
  clear hm hnb
  unfold valV at HM
  go_enter Tryd.func23, Tryd.ntmps23
  go_wp2_with fail
  refine (HM.out _ (hw.below hb0)).mono ?_
  rintro e w1 ⟨rfl, b1⟩
  have HBL := Lib.hid (btV hb0 b1)
  have hsz1 : w.heap.size + 1 ≤ w1.heap.size := by have := b1.size; rw [hsz0] at this; exact this
  have HRes1 := Lib.hid (HRes.out.block (b1.block w.heap.size (by rw [hsz0]; omega)))
  obtain ⟨r0, r1, r2, q0, q1, q2⟩ := Res.new w1
  go_wp2_with fail
  clear r0 r1 r2 q0 q1 q2
  have hbx1 := Box.new w1 k n t
  have hsz2 : (w1.alloc (.cells #[.int .i64 k, .int .i64 n, .string t] 23)).heap.size = w1.heap.size + 1 := by simp
  have hbx2 := Box.new (w1.alloc (.cells #[.int .i64 k, .int .i64 n, .string t] 23)) k n t
  rw [hsz2] at hbx2
  have hsz3 : ((w1.alloc (.cells #[.int .i64 k, .int .i64 n, .string t] 23)).alloc (.cells #[.int .i64 k, .int .i64 n, .string t] 23)).heap.size = w1.heap.size + 2 := by simp
  have b2 : Below w1.heap.size w1 ((w1.alloc (.cells #[.int .i64 k, .int .i64 n, .string t] 23)).alloc (.cells #[.int .i64 k, .int .i64 n, .string t] 23)) := ((Below.refl _ _).alloc (Nat.le_refl _) _).alloc (by simp) _
  have hbx3 : Box ((w1.alloc (.cells #[.int .i64 k, .int .i64 n, .string t] 23)).alloc (.cells #[.int .i64 k, .int .i64 n, .string t] 23)) w1.heap.size k n t := hbx1.block (Lib.alloc_old _ _ _ (by simp))
  have hRt := valRight_one k n t (w1.heap.size + 1) _ hbx2 (by rw [hsz3]; omega)
  have HBL2 := Lib.hid (btV HBL.out b2)
  have HRes2 := Lib.hid (HRes1.out.block (b2.block w.heap.size (by omega)))
  generalize ((w1.alloc (.cells #[.int .i64 k, .int .i64 n, .string t] 23)).alloc (.cells #[.int .i64 k, .int .i64 n, .string t] 23)) = W2 at *
  have HBx := Lib.hid hbx3
  clear hbx1 hbx2 hbx3 hsz2 b2
  cases hri : rightV k n t with
  | false =>
    have HV := Lib.hid (readV_no HMe.out (.inl hri))
    rw [hri] at hRt
    clear hri
    refine hRt.mono ?_
    rintro e w3 ⟨rfl, b3⟩
    have HRes3 := Lib.hid (HRes2.out.block (b3.block w.heap.size (by omega)))
    obtain ⟨r0, r1, r2, q0, q1, q2⟩ := HRes3.out
    go_wp2_with fail
    have s0 := fun x => (Res.set HRes3.out x x x).1
    have s1 := fun x y => (Res.set HRes3.out x y y).2.1
    have s2 := fun x y z => (Res.set HRes3.out x y z).2.2
    exact bodyPost_ret (v := .tuple #[valV 0 0 ⟨#[]⟩, .int .i64 10]) (by simp [results, Tryd.results23, go_sem, valV, s0, s1, s2]) rfl ⟨by rw [HV.out.1, HV.out.2], (((btV HBL2.out b3).setCell (p := ⟨w.heap.size, 0, none⟩) (Nat.le_refl _) _).setCell (p := ⟨w.heap.size, 1, none⟩) (Nat.le_refl _) _).setCell (p := ⟨w.heap.size, 2, none⟩) (Nat.le_refl _) _⟩
  | true =>
    have HP := Lib.hid (fun W hW => print_any k n t W hW hn0 hn1)
    unfold valV at HP
    rw [hri] at hRt
    by_cases heq : printR k n t = s
    · have HV := Lib.hid (readV_yes HMe.out hri heq)
      have hq := str_same heq
      have hq2 : (!((printR k n t).toList == s.toList)) = false := by rw [hq]; rfl
      generalize hpg : printR k n t = pt at *
      clear hri heq hpg
      refine hRt.mono ?_
      rintro e w3 ⟨rfl, b3⟩
      obtain ⟨c0, c1, c2⟩ := HBx.out.below (by omega) b3
      go_wp2_with fail
      refine (HP.out _ (hw.below (btV HBL2.out b3))).mono ?_
      rintro e w4 ⟨rfl, b4⟩
      have s34 := b3.size
      have HRes4 := Lib.hid ((HRes2.out.block (b3.block w.heap.size (by omega))).block (b4.block w.heap.size (by omega)))
      obtain ⟨d0, d1, d2⟩ := (HBx.out.below (by omega) b3).below (by omega) b4
      obtain ⟨r0, r1, r2, q0, q1, q2⟩ := HRes4.out
      go_wp2_with fail
      have s0 := fun x => (Res.set HRes4.out x x x).1
      have s1 := fun x y => (Res.set HRes4.out x y y).2.1
      have s2 := fun x y z => (Res.set HRes4.out x y z).2.2
      exact bodyPost_ret (v := .tuple #[valV k n t, .int .i64 0]) (by simp [results, Tryd.results23, go_sem, valV, s0, s1, s2]) rfl ⟨by rw [HV.out.1, HV.out.2], (((btV (btV HBL2.out b3) b4).setCell (p := ⟨w.heap.size, 0, none⟩) (Nat.le_refl _) _).setCell (p := ⟨w.heap.size, 1, none⟩) (Nat.le_refl _) _).setCell (p := ⟨w.heap.size, 2, none⟩) (Nat.le_refl _) _⟩
    · have HV := Lib.hid (readV_no HMe.out (.inr heq))
      have hq := str_diff heq
      generalize hpg : printR k n t = pt at *
      clear hri heq hpg
      refine hRt.mono ?_
      rintro e w3 ⟨rfl, b3⟩
      obtain ⟨c0, c1, c2⟩ := HBx.out.below (by omega) b3
      go_wp2_with fail
      refine (HP.out _ (hw.below (btV HBL2.out b3))).mono ?_
      rintro e w4 ⟨rfl, b4⟩
      have s34 := b3.size
      have HRes4 := Lib.hid ((HRes2.out.block (b3.block w.heap.size (by omega))).block (b4.block w.heap.size (by omega)))
      obtain ⟨r0, r1, r2, q0, q1, q2⟩ := HRes4.out
      go_wp2_with fail
      have s0 := fun x => (Res.set HRes4.out x x x).1
      have s1 := fun x y => (Res.set HRes4.out x y y).2.1
      have s2 := fun x y z => (Res.set HRes4.out x y z).2.2
      exact bodyPost_ret (v := .tuple #[valV 0 0 ⟨#[]⟩, .int .i64 10]) (by simp [results, Tryd.results23, go_sem, valV, s0, s1, s2]) rfl ⟨by rw [HV.out.1, HV.out.2], (((btV (btV HBL2.out b3) b4).setCell (p := ⟨w.heap.size, 0, none⟩) (Nat.le_refl _) _).setCell (p := ⟨w.heap.size, 1, none⟩) (Nat.le_refl _) _).setCell (p := ⟨w.heap.size, 2, none⟩) (Nat.le_refl _) _⟩
end Go.Proofs.YtkimibppfniejaaDoor
