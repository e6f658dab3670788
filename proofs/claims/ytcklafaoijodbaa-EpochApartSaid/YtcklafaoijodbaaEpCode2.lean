/- The landed epoch: Least, Advance, Busy; it is as the laws ask. -/
import Derived.Test.YtcklafaoijodbaaEpCode
import Derived.Test.YtcklafaoijodbaaEpAwake
import Derived.Test.YtcklafaoijodbaaMapR
set_option linter.unusedVariables false
namespace Go.Proofs.Ytcklafaoijodbaa
open Go Go.RowKit

/-- The least so far: of those that are no longer to come. -/
structure LeastG (gl : Int) (g : Int → Option Value) (left : Int → Bool) (m : Int) : Prop where
  le : m ≤ gl
  all : ∀ x e, g x = some (.int .i64 e) → left x = false → m ≤ e
  one : m = gl ∨ ∃ x, g x = some (.int .i64 m)
theorem LeastG.lower {gl m e x : Int} {g : Int → Option Value} {left : Int → Bool} (h : LeastG gl g left m) (hx : g x = some (.int .i64 e)) (hlt : e < m) : LeastG gl g (fun y => left y && !decide (y = x)) e := by
  refine ⟨by have := h.le; omega, fun y f hy hl => ?_, .inr ⟨x, hx⟩⟩
  by_cases hyx : y = x
  · subst hyx
    rw [hx] at hy
    injection hy with hy
    injection hy with _ hy
    omega
  · have := h.all y f hy (by simpa [hyx] using hl)
    omega
theorem LeastG.stay {gl m e x : Int} {g : Int → Option Value} {left : Int → Bool} (h : LeastG gl g left m) (hx : g x = some (.int .i64 e)) (hlt : ¬ e < m) : LeastG gl g (fun y => left y && !decide (y = x)) m := by
  refine ⟨h.le, fun y f hy hl => ?_, h.one⟩
  by_cases hyx : y = x
  · subst hyx
    rw [hx] at hy
    injection hy with hy
    injection hy with _ hy
    omega
  · exact h.all y f hy (by simpa [hyx] using hl)
set_option maxHeartbeats 8000000 in
set_option maxRecDepth 100000 in
theorem codeLeast {w : World} {B N n bm sz : Nat} {g : Int → Option Value} {gl : Int} (h : CodeE w B N n bm g sz gl) (hg : ∀ x v, g x = some v → ∃ e, v = .int .i64 e) :
    Calls Try.prog 18 #[.pointer (some ⟨N, 0, none⟩)] w fun e w' => ∃ m, e = .returned (.int .i64 m) ∧ LeastG gl g (fun _ => false) m ∧ Below w.heap.size w w' := by
  have HA := Lib.hid h
  have HG := Lib.hid hg
  obtain ⟨c0, c1, c2⟩ := h.cells
  clear h hg
  go_enter Try.func18, Try.ntmps18
  go_wp2_with (first
    | (at_range; refine wpList_rangeK rfl _ 49 rfl HA.out.mp intKeyed Try.underlying49 rfl ?_; intro w0 hrg0 ho0 hs0)
    | go_in)
  go_frame
  have HR0 := Lib.hid hrg0
  have HO0 := Lib.hid ho0
  have hsz0 : w.heap.size ≤ w0.heap.size := by omega
  clear hrg0 ho0 hs0
  go_loopw [3] (fun v wr => ∃ (m : Int) (left : Int → Bool) (cnt : Nat), v = .int .i64 m ∧ RangeK Try.prog 3 wr bm w.heap.size sz g left cnt ∧ LeastG gl g left m ∧ Below w.heap.size w wr) (fun _ wr => wr.rangeLeft bm w.heap.size)
  case atStart =>
    exact ⟨gl, _, _, rfl, HR0.out, ⟨Int.le_refl _, fun x e hx hl => (by rw [hx] at hl; cases hl), .inl rfl⟩, HO0.out.below (Nat.le_refl _) (fun _ h => h.elim)⟩
  case round =>
    obtain ⟨m, left, cnt, rfl, hrg, hm, hb⟩ := hrel
    have HRg := Lib.hid hrg
    have HM := Lib.hid hm
    have HB := Lib.hid hb
    clear hrg hm hb
    go_wp2_with (first
      | (at_next; refine wpList_nextK rfl _ rfl intKeyed Try.underlying3 rfl HRg.out ?_ ?_)
      | go_in)
    · intro hl
      have e0 : left = fun _ => false := funext hl
      have HM2 := Lib.hid (e0 ▸ HM.out)
      clear hl e0
      go_wp2_with fail
      exact bodyPost_ret (v := .int .i64 m) (by simp [results, Try.results18, go_sem]) rfl ⟨m, rfl, HM2.out, HB.out⟩
    · intro x v w1 cnt1 hlx hgx hrg1 hlt ho1 hs1 hen
      obtain ⟨e, rfl⟩ := HG.out x v hgx
      have HX := Lib.hid hgx
      have HR1 := Lib.hid hrg1
      have HB1 := Lib.hid (HB.out.trans ((ho1.below (B := w.heap.size) HB.out.size (fun k hk => by rw [hk]; exact Nat.le_refl _))))
      have HLt := Lib.hid hlt
      clear hgx hrg1 ho1 hs1 hlx hlt
      by_cases hc : e < m
      · go_wp2_with fail
        go_roundw
        case rel => exact ⟨e, _, cnt1, rfl, HR1.out, HM.out.lower HX.out hc, HB1.out⟩
        case measure => rw [HR1.out.left_eq, HRg.out.left_eq]; exact HLt.out
      · go_wp2_with fail
        go_roundw
        case rel => exact ⟨m, _, cnt1, rfl, HR1.out, HM.out.stay HX.out hc, HB1.out⟩
        case measure => rw [HR1.out.left_eq, HRg.out.left_eq]; exact HLt.out
def busyC (g : Int → Option Value) (k : Nat) : List Int := ((List.range k).filter (fun j => (g (j : Nat)).isSome)).map (fun (j : Nat) => (j : Int))
theorem busyC_yes {g : Int → Option Value} {k : Nat} (h : (g (k : Nat)).isSome = true) : busyC g k ++ [(k : Int)] = busyC g (k + 1) := by
  unfold busyC
  rw [List.range_succ, List.filter_append, List.map_append]
  simp [h]
theorem busyC_no {g : Int → Option Value} {k : Nat} (h : (g (k : Nat)).isSome = false) : busyC g k = busyC g (k + 1) := by
  unfold busyC
  rw [List.range_succ, List.filter_append, List.map_append]
  simp [h]
theorem busyC_len (g : Int → Option Value) (k : Nat) : (busyC g k).length ≤ k := by
  unfold busyC
  rw [List.length_map]
  exact Nat.le_trans (List.length_filter_le _ _) (by rw [List.length_range]; exact Nat.le_refl _)
set_option maxHeartbeats 8000000 in
set_option maxRecDepth 100000 in
theorem codeBusy {w : World} {B N n bm sz : Nat} {g : Int → Option Value} {gl : Int} (h : CodeE w B N n bm g sz gl) (hn : n ≤ 1000) :
    Calls Try.prog 23 #[.pointer (some ⟨N, 0, none⟩)] w fun e w' => ∃ v, e = .returned v ∧ layI.Row 3 w' w.heap.size v (busyC g n).length (busyC g n) ∧ Below w.heap.size w w' := by
  have HA := Lib.hid h
  obtain ⟨c0, c1, c2⟩ := h.cells
  clear h c1 c2
  go_enter Try.func23, Try.ntmps23
  go_wp2_with fail
  go_loopw [3, 11] (fun v i wr => ∃ k : Nat, k ≤ n ∧ i = .int .i64 (k : Nat) ∧ layI.Row 3 wr w.heap.size v (busyC g k).length (busyC g k) ∧ Below w.heap.size w wr) (fun _ i _ => n - (intOf i).toNat)
  case atStart => exact ⟨0, Nat.zero_le _, rfl, LayG.Row.nil _ _, Below.refl _ _⟩
  case round =>
    obtain ⟨k, hk, rfl, hr, hb⟩ := hrel
    obtain ⟨A, c, rfl, hc, hrd, hAx, hA0⟩ := hr.rd
    have HR := Lib.hid hr
    have HB := Lib.hid hb
    have hE := HA.out.only (S := NoB) (Below.only hb) (fun _ _ h => h)
    obtain ⟨d0, d1, d2⟩ := hE.cells
    have HE := Lib.hid hE
    have hlen := busyC_len g k
    clear hr hb hE hrd hAx hA0 hc d1
    by_cases hlt : k < n
    · have hlt2 : (k : Int) < (n : Int) := by omega
      have hlook := HE.out.look (s := (k : Int)) ⟨by omega, by omega⟩
      obtain ⟨v, hv⟩ : ∃ v, (g (k : Int)).getD (.int .i64 0) = v := ⟨_, rfl⟩
      obtain ⟨q, hq⟩ : ∃ q, (g (k : Int)).isSome = q := ⟨_, rfl⟩
      rw [hv, hq] at hlook
      have HQ := Lib.hid hq
      clear hv hq
      cases q
      · have HN := Lib.hid (busyC_no HQ.out)
        go_wp2_with fail
        go_roundw
        case rel => exact ⟨k + 1, by omega, by go_num, by rw [← HN.out]; exact HR.out, HB.out⟩
        case measure => simp [intOf]; omega
      · have HY := Lib.hid (busyC_yes HQ.out)
        go_wp2_with (at_builtin; refine wpList_append_G typI rfl _ _ rfl w.heap.size _ (busyC g k).length (busyC g k) rfl (HR.out.only (S := NoB) ((Only.refl _ wr).alloc (.cells #[.int .i64 (k : Nat)] 3)) (fun _ _ h => h)) (some ⟨wr.heap.size, 0, none⟩) 1 1 [(k : Int)] rfl rfl (LayG.Rd.lit wr #[.int .i64 (k : Nat)] [(k : Int)] rfl (by unfold maxLen; simp)) ?s2 ?s3 (wr.heap.size + 1) ?s4 ?_)
        case s2 => simp; omega
        case s3 => have := HB.out.size; simp; omega
        case s4 => simp
        intro v4 w4 r4 g4 l4
        rw [HY.out] at r4
        have e4 : (busyC g k).length + 1 = (busyC g (k + 1)).length := by rw [← HY.out]; simp
        rw [e4] at r4
        have HR4 := Lib.hid r4
        have HB4 := Lib.hid ((HB.out.alloc HB.out.size (.cells #[.int .i64 (k : Nat)] 3)).grown g4 (by have := HB.out.size; simp; omega) (fun j hj => (HR.out.lt j hj).1))
        clear r4 g4 l4 e4
        go_wp2_with fail
        go_roundw
        case rel => exact ⟨k + 1, by omega, by go_num, HR4.out, HB4.out⟩
        case measure => simp [intOf]; omega
    · obtain rfl : k = n := by omega
      go_wp2_with fail
      exact bodyPost_ret (v := .slice A (busyC g k).length c) (by simp [results, Try.results23, go_sem]) rfl ⟨_, rfl, HR.out, HB.out⟩
set_option maxHeartbeats 8000000 in
set_option maxRecDepth 100000 in
theorem codeAdv_spent {w : World} {B N n bm sz : Nat} {g : Int → Option Value} {gl : Int} (h : CodeE w B N n bm g sz gl) (hs : gl = 2147483647) :
    Calls Try.prog 14 #[.pointer (some ⟨N, 0, none⟩)] w fun e w' => e = .returned (.tuple #[.int .i64 0, .int .i64 40]) ∧ w = w' := by
  subst hs
  obtain ⟨c0, c1, c2⟩ := h.cells
  clear h
  go_enter Try.func14, Try.ntmps14
  go_wp2_with fail
  exact bodyPost_ret (v := .tuple #[.int .i64 0, .int .i64 40]) (by simp [results, Try.results14, go_sem]) rfl ⟨rfl, rfl⟩
-- ADVANCE
set_option maxHeartbeats 8000000 in
set_option maxRecDepth 100000 in
theorem codeAdv {w : World} {B N n bm sz : Nat} {g : Int → Option Value} {gl : Int} (h : CodeE w B N n bm g sz gl) (hg : ∀ x v, g x = some v → ∃ e, v = .int .i64 e) (hs : gl ≠ 2147483647) (h0 : 0 ≤ gl) (h1 : gl ≤ 2147483647) :
    Calls Try.prog 14 #[.pointer (some ⟨N, 0, none⟩)] w fun e w' => ∃ m, LeastG gl g (fun _ => false) m ∧ ((m < gl ∧ e = .returned (.tuple #[.int .i64 0, .int .i64 60]) ∧ Below w.heap.size w w') ∨
      (¬ m < gl ∧ e = .returned (.tuple #[.int .i64 (gl + 1), .int .i64 0]) ∧ CodeE w' B N n bm g sz (gl + 1) ∧ Only (footE N bm) w w')) := by
  have HA := Lib.hid h
  have HG := Lib.hid hg
  obtain ⟨c0, c1, c2⟩ := h.cells
  clear h hg
  go_enter Try.func14, Try.ntmps14
  go_wp2_with fail
  refine wp_region_held_drew (S := (fun w' => w'.cell? { block := N, off := 1 } = some (.int .i64 gl))) (by kernel_rfl) c1 (fun hHeld => ?_)
  refine wpAnyH_take (i := 0) (v := ?_) (by simp only [List.getElem?_toArray, List.getElem?_cons_zero]; rfl) (by kernel_rfl) (by kernel_rfl) (by kernel_rfl) (by exact fun _ _ _ h => h) (Or.inl ⟨by rfl, ?_⟩) (by assumption) ?_
  rotate_left
  · intro w hSw; (try dsimp only at hSw); go_simp; (try with_reducible rfl)
  try simp only [Act.put, List.setIfInBounds_toArray, List.set_cons_zero, List.set_cons_succ]
  refine wpAnyH_take (i := 2) (v := ?_) (by simp only [List.getElem?_toArray, List.getElem?_cons_zero, List.getElem?_cons_succ]; rfl) (by kernel_rfl) (by kernel_rfl) (by kernel_rfl) (by exact fun _ _ _ h => h) (Or.inl ⟨by rfl, ?_⟩) (by assumption) ?_
  rotate_left
  · intro w hSw; (try dsimp only at hSw); go_simp; (try with_reducible rfl)
  try simp only [Act.put, List.setIfInBounds_toArray, List.set_cons_zero, List.set_cons_succ]
  refine wpAnyH_take (i := 3) (v := ?_) (by simp only [List.getElem?_toArray, List.getElem?_cons_zero, List.getElem?_cons_succ]; rfl) (by kernel_rfl) (by kernel_rfl) (by kernel_rfl) (by exact fun _ _ _ h => h) (Or.inl ⟨by rfl, ?_⟩) (by assumption) ?_
  rotate_left
  · intro w hSw; (try dsimp only at hSw); go_simp; (try with_reducible rfl)
  try simp only [Act.put, List.setIfInBounds_toArray, List.set_cons_zero, List.set_cons_succ]
  refine wpAnyH_take (i := 4) (v := ?_) (by simp only [List.getElem?_toArray, List.getElem?_cons_zero, List.getElem?_cons_succ]; rfl) (by kernel_rfl) (by kernel_rfl) (by kernel_rfl) (by exact fun _ _ _ h => h) (Or.inl ⟨by rfl, ?_⟩) (by assumption) ?_
  rotate_left
  · intro w hSw; (try dsimp only at hSw); go_simp; (try with_reducible rfl)
  try simp only [Act.put, List.setIfInBounds_toArray, List.set_cons_zero, List.set_cons_succ]
  refine wpAnyH_take (i := 5) (v := ?_) (by simp only [List.getElem?_toArray, List.getElem?_cons_zero, List.getElem?_cons_succ]; rfl) (by kernel_rfl) (by kernel_rfl) (by kernel_rfl) (by exact fun _ _ _ h => h) (Or.inl ⟨by rfl, ?_⟩) (by assumption) ?_
  rotate_left
  · intro w hSw; (try dsimp only at hSw); go_simp; (try with_reducible rfl)
  try simp only [Act.put, List.setIfInBounds_toArray, List.set_cons_zero, List.set_cons_succ]
  refine wpAnyH_ready (rs := [1]) (by kernel_rfl) (by simp) ?_
  refine AllReadyH.cons (by simp only [List.getElem?_toArray, List.getElem?_cons_zero, List.getElem?_cons_succ]; rfl) (fun K hK => ?_) AllReadyH.nil
  go_simp
  refine (codeLeast HA.out.drew HG.out).mono ?_
  rintro e w2 ⟨m, rfl, hm, hb2⟩
  have hE2 := HA.out.drew.only (S := NoB) (Below.only hb2) (fun _ _ h => h)
  obtain ⟨d0, d1, d2⟩ := hE2.cells
  have HE2 := Lib.hid hE2
  have HB2 := Lib.hid ((Below.refl w.heap.size w).drew.trans hb2)
  have HM := Lib.hid hm
  have hfz := hE2.frozen 1
  have hlt1 := hE2.lt
  clear hE2 hb2 hm
  go_wp2_with fail
  refine hK.out _ _ (d1) (fun hHeld => ?_)
  clear hK K
  try simp only [Act.put, List.setIfInBounds_toArray, List.set_cons_zero, List.set_cons_succ]
  by_cases hc : m < gl
  · refine wpAnyH_take (i := 6) (v := ?_) (by simp only [List.getElem?_toArray, List.getElem?_cons_zero, List.getElem?_cons_succ]; rfl) (by kernel_rfl) (by kernel_rfl) (by kernel_rfl) (by exact fun _ _ _ h => h) (Or.inl ⟨by rfl, ?_⟩) (by assumption) ?_
    rotate_left
    · intro w hSw; (try dsimp only at hSw); go_simp; (try with_reducible rfl)
    try simp only [Act.put, List.setIfInBounds_toArray, List.set_cons_zero, List.set_cons_succ]
    refine wpAnyH_take (i := 7) (v := ?_) (by simp only [List.getElem?_toArray, List.getElem?_cons_zero, List.getElem?_cons_succ]; rfl) (by kernel_rfl) (by kernel_rfl) (by kernel_rfl) (by exact fun _ _ _ h => h) (Or.inl ⟨by rfl, ?_⟩) (by assumption) ?_
    rotate_left
    · intro w hSw; (try dsimp only at hSw); go_simp; (try with_reducible rfl)
    try simp only [Act.put, List.setIfInBounds_toArray, List.set_cons_zero, List.set_cons_succ]
    refine wpAnyH_done (by kernel_rfl) ?_ _
    go_wp2_with fail
    exact bodyPost_ret (v := .tuple #[.int .i64 0, .int .i64 60]) (by simp [results, Try.results14, go_sem]) rfl ⟨m, HM.out, .inl ⟨hc, rfl, HB2.out⟩⟩
  · obtain ⟨hu, ou⟩ := HE2.out.up (gl + 1)
    obtain ⟨e0, e1, e2⟩ := hu.cells
    have HU := Lib.hid hu
    have HO := Lib.hid ((Only.mono (S := NoB) (Below.only HB2.out) (fun _ h => h.elim)).trans ou (fun x hx => .inl hx))
    clear hu ou
    refine wpAnyH_take (i := 6) (v := ?_) (by simp only [List.getElem?_toArray, List.getElem?_cons_zero, List.getElem?_cons_succ]; rfl) (by kernel_rfl) (by kernel_rfl) (by kernel_rfl) (by exact fun _ _ _ h => h) (Or.inl ⟨by rfl, ?_⟩) (by assumption) ?_
    rotate_left
    · intro w hSw; (try dsimp only at hSw); go_simp; (try with_reducible rfl)
    try simp only [Act.put, List.setIfInBounds_toArray, List.set_cons_zero, List.set_cons_succ]
    refine wpAnyH_take (i := 7) (v := ?_) (by simp only [List.getElem?_toArray, List.getElem?_cons_zero, List.getElem?_cons_succ]; rfl) (by kernel_rfl) (by kernel_rfl) (by kernel_rfl) (by exact fun _ _ _ h => h) (Or.inl ⟨by rfl, ?_⟩) (by assumption) ?_
    rotate_left
    · intro w hSw; (try dsimp only at hSw); go_simp; (try with_reducible rfl)
    try simp only [Act.put, List.setIfInBounds_toArray, List.set_cons_zero, List.set_cons_succ]
    refine wpAnyH_done (by kernel_rfl) ?_ _
    go_wp2_with fail
    exact bodyPost_ret (v := .tuple #[.int .i64 (gl + 1), .int .i64 0]) (by simp [results, Try.results14, go_sem]) rfl ⟨m, HM.out, .inr ⟨hc, rfl, HU.out, HO.out⟩⟩
end Go.Proofs.Ytcklafaoijodbaa
