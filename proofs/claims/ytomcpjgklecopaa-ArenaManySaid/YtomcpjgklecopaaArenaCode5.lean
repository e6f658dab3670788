/- The landed arena: Many. -/
import Derived.Test.YtomcpjgklecopaaArenaCode4
import Derived.OwnWalk
import Derived.Laws.OwnMore
set_option linter.unusedVariables false
namespace Go.Proofs.Ytomcpjgklecopaa
open Go Go.RowKit

set_option maxHeartbeats 8000000 in
set_option maxRecDepth 100000 in
theorem AtC.manyBad {w : World} {B N n : Nat} {fr tk : List H2} {S : Nat → Prop} (m : Int) (h : AtC w B N n fr tk S) (hm : I64H m) (hb : m < 0 ∨ (fr.length : Int) < m) :
    Calls Try.prog 12 #[.pointer (some ⟨N, 0, none⟩), .int .i64 m] w fun e w' => ∃ v, e = .returned (.tuple #[v, .int .i64 (if m < 0 then 2 else 50)]) ∧ HRow w' w.heap.size v 0 [] ∧ Below w.heap.size w w' := by
  by_cases h0 : m < 0
  · rw [if_pos h0]
    clear h
    go_enter Try.func12, Try.ntmps12
    go_wp2_with fail
    exact bodyPost_ret (v := .tuple #[.slice none 0 0, .int .i64 2]) (by simp [results, Try.results12, go_sem]) rfl ⟨_, rfl, HRow.nil _ _, Below.refl _ _⟩
  · rw [if_neg h0]
    have h1 : (fr.length : Int) < m := by omega
    obtain ⟨bm, vF, F, fresh, g, hM, hI, rfl⟩ := h
    have hc := hI.cnt
    have hn := hI.hn
    have hsub : (n : Int) - (tk.length : Int) = (fr.length : Int) := by omega
    have hwr : IntKind.i64.wrap ((n : Int) - (tk.length : Int)) = (fr.length : Int) := by rw [hsub]; exact IntWalk.i64_in _ (by omega)
    have h2 := hM.drew
    have c0 := h2.cells.1
    have HA := Lib.hid h2
    have hb : Below w.heap.size w w.drew := (Below.refl _ _).drew
    have HB := Lib.hid hb
    clear hM hI h2 hb hc hn hsub
    go_enter Try.func12, Try.ntmps12
    go_wp2_with fail
    refine wp_region_held_drew (S := (fun w' => w'.cell? { block := N, off := 0 } = some (.int .i64 (n : Nat)))) (by kernel_rfl) c0 (fun hHeld => ?_)
    refine wpAnyH_take (i := 0) (v := ?_) (by simp only [List.getElem?_toArray, List.getElem?_cons_zero]; rfl) (by kernel_rfl) (by kernel_rfl) (by kernel_rfl) (by exact fun _ _ _ h => h) (Or.inl ⟨by rfl, ?_⟩) (by assumption) ?_
    rotate_left
    · intro w hSw; (try dsimp only at hSw); go_simp; (try with_reducible rfl)
    try simp only [Act.put, List.setIfInBounds_toArray, List.set_cons_zero, List.set_cons_succ]
    refine wpAnyH_take (i := 1) (v := ?_) (by simp only [List.getElem?_toArray, List.getElem?_cons_zero, List.getElem?_cons_succ]; rfl) (by kernel_rfl) (by kernel_rfl) (by kernel_rfl) (by exact fun _ _ _ h => h) (Or.inl ⟨by rfl, ?_⟩) (by assumption) ?_
    rotate_left
    · intro w hSw; (try dsimp only at hSw); go_simp; (try with_reducible rfl)
    try simp only [Act.put, List.setIfInBounds_toArray, List.set_cons_zero, List.set_cons_succ]
    refine wpAnyH_take (i := 2) (v := ?_) (by simp only [List.getElem?_toArray, List.getElem?_cons_zero, List.getElem?_cons_succ]; rfl) (by kernel_rfl) (by kernel_rfl) (by kernel_rfl) (by exact fun _ _ _ h => h) (Or.inl ⟨by rfl, ?_⟩) (by assumption) ?_
    rotate_left
    · intro w hSw; (try dsimp only at hSw); go_simp; (try with_reducible rfl)
    try simp only [Act.put, List.setIfInBounds_toArray, List.set_cons_zero, List.set_cons_succ]
    refine wpAnyH_take (i := 3) (v := ?_) (by simp only [List.getElem?_toArray, List.getElem?_cons_zero, List.getElem?_cons_succ]; rfl) (by kernel_rfl) (by kernel_rfl) (by kernel_rfl) (by exact fun _ _ _ h => h) (Or.inl ⟨by rfl, ?_⟩) (by assumption) ?_
    rotate_left
    · intro w hSw; (try dsimp only at hSw); go_simp; (try with_reducible rfl)
    try simp only [Act.put, List.setIfInBounds_toArray, List.set_cons_zero, List.set_cons_succ]
    refine wpAnyH_take (i := 4) (v := ?_) (by simp only [List.getElem?_toArray, List.getElem?_cons_zero, List.getElem?_cons_succ]; rfl) (by kernel_rfl) (by kernel_rfl) (by kernel_rfl) (by exact fun _ _ _ h => h) (Or.inl ⟨by rfl, ?_⟩) (by assumption) ?_
    rotate_left
    · intro w hSw; (try dsimp only at hSw); go_simp; (try with_reducible rfl)
    try simp only [Act.put, List.setIfInBounds_toArray, List.set_cons_zero, List.set_cons_succ]
    refine wpAnyH_take (i := 5) (v := ?_) (by simp only [List.getElem?_toArray, List.getElem?_cons_zero, List.getElem?_cons_succ]; rfl) (by kernel_rfl) (by kernel_rfl) (by kernel_rfl) (by exact fun _ _ _ h => h) (Or.inl ⟨by rfl, ?_⟩) (by assumption) ?_
    rotate_left
    · intro w hSw; (try dsimp only at hSw); go_simp; (try with_reducible rfl)
    try simp only [Act.put, List.setIfInBounds_toArray, List.set_cons_zero, List.set_cons_succ]
    refine wpAnyH_ready (rs := [6]) (by kernel_rfl) (by simp) ?_
    refine AllReadyH.cons (by simp only [List.getElem?_toArray, List.getElem?_cons_zero, List.getElem?_cons_succ]; rfl) (fun K hK => ?_) AllReadyH.nil
    go_simp
    refine (len_any HA.out).mono ?_
    rintro e w2 ⟨rfl, rfl⟩
    go_wp2_with fail
    refine hK.out _ _ (c0) (fun hHeld => ?_)
    clear hK K
    try simp only [Act.put, List.setIfInBounds_toArray, List.set_cons_zero, List.set_cons_succ]
    refine wpAnyH_take (i := 7) (v := ?_) (by simp only [List.getElem?_toArray, List.getElem?_cons_zero, List.getElem?_cons_succ]; rfl) (by kernel_rfl) (by kernel_rfl) (by kernel_rfl) (by exact fun _ _ _ h => h) (Or.inl ⟨by rfl, ?_⟩) (by assumption) ?_
    rotate_left
    · intro w hSw; (try dsimp only at hSw); go_simp; (try with_reducible rfl)
    try simp only [Act.put, List.setIfInBounds_toArray, List.set_cons_zero, List.set_cons_succ]
    refine wpAnyH_take (i := 8) (v := ?_) (by simp only [List.getElem?_toArray, List.getElem?_cons_zero, List.getElem?_cons_succ]; rfl) (by kernel_rfl) (by kernel_rfl) (by kernel_rfl) (by exact fun _ _ _ h => h) (Or.inl ⟨by rfl, ?_⟩) (by assumption) ?_
    rotate_left
    · intro w hSw; (try dsimp only at hSw); go_simp; (try with_reducible rfl)
    try simp only [Act.put, List.setIfInBounds_toArray, List.set_cons_zero, List.set_cons_succ]
    refine wpAnyH_take (i := 9) (v := ?_) (by simp only [List.getElem?_toArray, List.getElem?_cons_zero, List.getElem?_cons_succ]; rfl) (by kernel_rfl) (by kernel_rfl) (by kernel_rfl) (by exact fun _ _ _ h => h) (Or.inl ⟨by rfl, ?_⟩) (by assumption) ?_
    rotate_left
    · intro w hSw; (try dsimp only at hSw); go_simp; (try with_reducible rfl)
    try simp only [Act.put, List.setIfInBounds_toArray, List.set_cons_zero, List.set_cons_succ]
    refine wpAnyH_done (by kernel_rfl) ?_ _
    go_wp2_with fail
    exact bodyPost_ret (v := .tuple #[.slice none 0 0, .int .i64 50]) (by simp [results, Try.results12, go_sem]) rfl ⟨_, rfl, HRow.nil _ _, HB.out⟩
theorem madeH (m : Nat) : (madeCells (Value.agg #[.int .i64 0, .int .i64 0]).cells (m * 2)).toList = (List.replicate m H2.no).flatMap cellsH := by
  have key : ∀ m : Nat, (List.range (m * 2)).map (fun j => (#[Value.int .i64 0, Value.int .i64 0] : Array Value)[j % 2]!) = (List.replicate m H2.no).flatMap cellsH := by
    intro m
    induction m with
    | zero => rfl
    | succ k ih =>
      rw [show (k + 1) * 2 = k * 2 + 1 + 1 from by omega, List.range_succ, List.range_succ, List.map_append, List.map_append, ih, List.replicate_succ', List.flatMap_append, List.append_assoc]
      congr 1
      have e0 : k * 2 % 2 = 0 := by omega
      have e1 : (k * 2 + 1) % 2 = 1 := by omega
      simp [e0, e1]
      rfl
  rw [← key m]
  simp [madeCells, Value.cells]
theorem flatH_set : ∀ (zs : List H2) (k : Nat) (z : H2), k < zs.length → ((zs.flatMap cellsH).set (k * 2) (.int .i64 z.1)).set (k * 2 + 1) (.int .i64 z.2) = (zs.set k z).flatMap cellsH
  | [], k, z, h => by cases h
  | a :: r, 0, z, _ => rfl
  | a :: r, k + 1, z, h => by
    have ih := flatH_set r k z (by simpa using h)
    rw [List.set_cons_succ, List.flatMap_cons, List.flatMap_cons, ← ih, show (k + 1) * 2 = k * 2 + 1 + 1 from by omega]
    rfl
theorem hrow_set {w : World} {B n c k g : Nat} {zs : List H2} (h : HRow w B (.slice (some ⟨g, 0, none⟩) n c) n zs) (z : H2) (hk : k < zs.length) :
    HRow ((w.setCell ⟨g, k * 2, none⟩ (.int .i64 z.1)).setCell ⟨g, k * 2 + 1, none⟩ (.int .i64 z.2)) B (.slice (some ⟨g, 0, none⟩) n c) n (zs.set k z) := by
  unfold HRow
  rw [← flatH_set zs k z hk]
  exact (World.ownsRow.stored (World.ownsRow.stored h (k * 2) (.int .i64 z.1)).1 (k * 2 + 1) (.int .i64 z.2)).1
theorem take_set (fr : List H2) (m k : Nat) (hk : k < m) (hm : m ≤ fr.length) : (fr.take k ++ List.replicate (m - k) H2.no).set k (fr.getD k H2.no) = fr.take (k + 1) ++ List.replicate (m - (k + 1)) H2.no := by
  have hkl : k < fr.length := by omega
  have hl : (fr.take k).length = k := by rw [List.length_take]; omega
  rw [List.set_append_right _ _ (by omega), hl, Nat.sub_self, show m - k = (m - (k + 1)) + 1 from by omega, List.replicate_succ, List.set_cons_zero, List.take_succ_eq_append_getElem hkl, List.append_assoc, List.getD_eq_getElem?_getD, List.getElem?_eq_getElem hkl]
  rfl
set_option maxHeartbeats 8000000 in
set_option maxRecDepth 100000 in
theorem AtC.many {w : World} {B N n : Nat} {fr tk : List H2} {S : Nat → Prop} (m : Nat) (h : AtC w B N n fr tk S) (hm : m ≤ fr.length) :
    Calls Try.prog 12 #[.pointer (some ⟨N, 0, none⟩), .int .i64 (m : Nat)] w fun e w' =>
    ∃ v S', e = .returned (.tuple #[v, .int .i64 0]) ∧ HRow w' w.heap.size v m (fr.take m) ∧ AtC w' B N n (fr.drop m) (tk ++ fr.take m) S' ∧ Moved S S' w w' ∧ (∀ g, v.ownBlock = some g → ¬ S' g) := by
  have h0 : ¬ ((m : Int) < 0) := by omega
  have h1 : ¬ ((fr.length : Int) < (m : Int)) := by omega
  have h1n : ¬ (fr.length < m) := by omega
  have HW := Lib.hid h
  have hfl : fr.length ≤ 1000000 := by
    obtain ⟨bm, vF, F, fresh, g, hM, hI, hS⟩ := h
    have hc := hI.cnt
    have hn := hI.hn
    omega
  have HLen : Hid (∃ sz : Nat, IntKind.i64.wrap ((n : Int) - (sz : Int)) = (fr.length : Int) ∧ w.drew.cell? { block := N, off := 0 } = some (.int .i64 (n : Nat)) ∧ Calls Try.prog 17 #[.pointer (some ⟨N, 0, none⟩)] w.drew fun e w' => e = .returned (.int .i64 (sz : Nat)) ∧ w.drew = w') := Lib.hid (by
    obtain ⟨bm, vF, F, fresh, g, hM, hI, hS⟩ := h
    have hc := hI.cnt
    have hn := hI.hn
    have hsub : (n : Int) - (tk.length : Int) = (fr.length : Int) := by omega
    exact ⟨tk.length, by rw [hsub]; exact IntWalk.i64_in _ (by omega), hM.drew.cells.1, len_any hM.drew⟩)
  obtain ⟨sz, hwr, c0, hlen⟩ := HLen.out
  have HL := Lib.hid hlen
  have hb : Only NoB w w.drew := (Only.refl _ _).drew
  have HB := Lib.hid hb
  obtain ⟨i0, hi0, hz0, hz1, hz2⟩ := info_partsH info_hand
  clear HLen h hb hlen
  go_enter Try.func12, Try.ntmps12
  go_wp2_with fail
  refine wp_region_held_drew (S := (fun w' => w'.cell? { block := N, off := 0 } = some (.int .i64 (n : Nat)))) (by kernel_rfl) c0 (fun hHeld => ?_)
  refine wpAnyH_take (i := 0) (v := ?_) (by simp only [List.getElem?_toArray, List.getElem?_cons_zero]; rfl) (by kernel_rfl) (by kernel_rfl) (by kernel_rfl) (by exact fun _ _ _ h => h) (Or.inl ⟨by rfl, ?_⟩) (by assumption) ?_
  rotate_left
  · intro w hSw; (try dsimp only at hSw); go_simp; (try with_reducible rfl)
  try simp only [Act.put, List.setIfInBounds_toArray, List.set_cons_zero, List.set_cons_succ]
  refine wpAnyH_take (i := 1) (v := ?_) (by simp only [List.getElem?_toArray, List.getElem?_cons_zero, List.getElem?_cons_succ]; rfl) (by kernel_rfl) (by kernel_rfl) (by kernel_rfl) (by exact fun _ _ _ h => h) (Or.inl ⟨by rfl, ?_⟩) (by assumption) ?_
  rotate_left
  · intro w hSw; (try dsimp only at hSw); go_simp; (try with_reducible rfl)
  try simp only [Act.put, List.setIfInBounds_toArray, List.set_cons_zero, List.set_cons_succ]
  refine wpAnyH_take (i := 2) (v := ?_) (by simp only [List.getElem?_toArray, List.getElem?_cons_zero, List.getElem?_cons_succ]; rfl) (by kernel_rfl) (by kernel_rfl) (by kernel_rfl) (by exact fun _ _ _ h => h) (Or.inl ⟨by rfl, ?_⟩) (by assumption) ?_
  rotate_left
  · intro w hSw; (try dsimp only at hSw); go_simp; (try with_reducible rfl)
  try simp only [Act.put, List.setIfInBounds_toArray, List.set_cons_zero, List.set_cons_succ]
  refine wpAnyH_take (i := 3) (v := ?_) (by simp only [List.getElem?_toArray, List.getElem?_cons_zero, List.getElem?_cons_succ]; rfl) (by kernel_rfl) (by kernel_rfl) (by kernel_rfl) (by exact fun _ _ _ h => h) (Or.inl ⟨by rfl, ?_⟩) (by assumption) ?_
  rotate_left
  · intro w hSw; (try dsimp only at hSw); go_simp; (try with_reducible rfl)
  try simp only [Act.put, List.setIfInBounds_toArray, List.set_cons_zero, List.set_cons_succ]
  refine wpAnyH_take (i := 4) (v := ?_) (by simp only [List.getElem?_toArray, List.getElem?_cons_zero, List.getElem?_cons_succ]; rfl) (by kernel_rfl) (by kernel_rfl) (by kernel_rfl) (by exact fun _ _ _ h => h) (Or.inl ⟨by rfl, ?_⟩) (by assumption) ?_
  rotate_left
  · intro w hSw; (try dsimp only at hSw); go_simp; (try with_reducible rfl)
  try simp only [Act.put, List.setIfInBounds_toArray, List.set_cons_zero, List.set_cons_succ]
  refine wpAnyH_take (i := 5) (v := ?_) (by simp only [List.getElem?_toArray, List.getElem?_cons_zero, List.getElem?_cons_succ]; rfl) (by kernel_rfl) (by kernel_rfl) (by kernel_rfl) (by exact fun _ _ _ h => h) (Or.inl ⟨by rfl, ?_⟩) (by assumption) ?_
  rotate_left
  · intro w hSw; (try dsimp only at hSw); go_simp; (try with_reducible rfl)
  try simp only [Act.put, List.setIfInBounds_toArray, List.set_cons_zero, List.set_cons_succ]
  refine wpAnyH_ready (rs := [6]) (by kernel_rfl) (by simp) ?_
  refine AllReadyH.cons (by simp only [List.getElem?_toArray, List.getElem?_cons_zero, List.getElem?_cons_succ]; rfl) (fun K hK => ?_) AllReadyH.nil
  go_simp
  refine (HL.out).mono ?_
  rintro e w2 ⟨rfl, rfl⟩
  go_wp2_with fail
  refine hK.out _ _ (c0) (fun hHeld => ?_)
  clear hK K
  try simp only [Act.put, List.setIfInBounds_toArray, List.set_cons_zero, List.set_cons_succ]
  refine wpAnyH_take (i := 7) (v := ?_) (by simp only [List.getElem?_toArray, List.getElem?_cons_zero, List.getElem?_cons_succ]; rfl) (by kernel_rfl) (by kernel_rfl) (by kernel_rfl) (by exact fun _ _ _ h => h) (Or.inl ⟨by rfl, ?_⟩) (by assumption) ?_
  rotate_left
  · intro w hSw; (try dsimp only at hSw); go_simp; (try with_reducible rfl)
  try simp only [Act.put, List.setIfInBounds_toArray, List.set_cons_zero, List.set_cons_succ]
  refine wpAnyH_take (i := 8) (v := ?_) (by simp only [List.getElem?_toArray, List.getElem?_cons_zero, List.getElem?_cons_succ]; rfl) (by kernel_rfl) (by kernel_rfl) (by kernel_rfl) (by exact fun _ _ _ h => h) (Or.inl ⟨by rfl, ?_⟩) (by assumption) ?_
  rotate_left
  · intro w hSw; (try dsimp only at hSw); go_simp; (try with_reducible rfl)
  try simp only [Act.put, List.setIfInBounds_toArray, List.set_cons_zero, List.set_cons_succ]
  refine wpAnyH_take (i := 9) (v := ?_) (by simp only [List.getElem?_toArray, List.getElem?_cons_zero, List.getElem?_cons_succ]; rfl) (by kernel_rfl) (by kernel_rfl) (by kernel_rfl) (by exact fun _ _ _ h => h) (Or.inl ⟨by rfl, ?_⟩) (by assumption) ?_
  rotate_left
  · intro w hSw; (try dsimp only at hSw); go_simp; (try with_reducible rfl)
  try simp only [Act.put, List.setIfInBounds_toArray, List.set_cons_zero, List.set_cons_succ]
  refine wpAnyH_done (by kernel_rfl) ?_ _
  go_wp2_with (at_make; refine wpList_make_full _ rfl _ _ _ rfl w.heap.size 34 i0 _ 2 Try.underlying30 hi0 hz0 hz1 .i64 .i64 _ _ m rfl rfl rfl rfl (by rw [hz2]; omega) (by unfold maxLen; omega) (Nat.le_refl _) ?_)
  intro w1 r1 g1
  have HR1 : Hid (HRow w1 w.heap.size (.slice (some ⟨w.heap.size, 0, none⟩) m m) m (List.replicate m H2.no)) := Lib.hid (by unfold HRow; rw [← madeH]; exact r1)
  have o1 : Only NoB w w1 := HB.out.grown g1 (fun k e => by cases e)
  have HO1 := Lib.hid o1
  clear r1 g1 o1 hz0 hz1 hz2 hi0
  go_wp2_with fail
  go_loopw [25] (fun i wr => ∃ (k : Nat) (S' : Nat → Prop), k ≤ m ∧ i = .int .i64 (k : Nat) ∧ AtC wr B N n (fr.drop k) (tk ++ fr.take k) S' ∧ HRow wr w.heap.size (.slice (some ⟨w.heap.size, 0, none⟩) m m) m (fr.take k ++ List.replicate (m - k) H2.no) ∧ Moved S S' w wr ∧ ¬ S' w.heap.size) (fun i _ => m - (intOf i).toNat)
  case atStart => exact ⟨0, S, Nat.zero_le _, rfl, by simpa using HW.out.only HO1.out (fun _ _ h => h), by simpa using HR1.out, ⟨HO1.out.mono (fun x hx => hx.elim), fun k hk => .inl hk⟩, fun h => by have := (HW.out.foot _ h).2; omega⟩
  case round =>
    obtain ⟨k, S1, hk, rfl, hA, hR, hMv, hnS⟩ := hrel
    have HA := Lib.hid hA
    have HR := Lib.hid hR
    have HMv := Lib.hid hMv
    have HnS := Lib.hid hnS
    clear hA hR hMv hnS
    by_cases hlt : k < m
    · have ht := HA.out.take
      have hfrk : k < fr.length := by omega
      have e1 : (fr.drop k).headD H2.no = fr.getD k H2.no := by rw [List.getD_eq_getElem?_getD, ← List.head?_drop]; cases fr.drop k <;> rfl
      have e2 : (fr.drop k).isEmpty = false := by cases h : fr.drop k with | nil => exact absurd (List.drop_eq_nil_iff.1 h) (by omega) | cons a r => rfl
      have e3 : (fr.drop k).tail = fr.drop (k + 1) := by rw [List.tail_drop]
      have e4 : tk ++ fr.take k ++ (fr.drop k).take 1 = tk ++ fr.take (k + 1) := by rw [List.append_assoc, ← List.take_add]
      rw [e1, e2, e3, e4] at ht
      have hset := take_set fr m k hlt hm
      obtain ⟨z, hz⟩ : ∃ z, fr.getD k H2.no = z := ⟨_, rfl⟩
      rw [hz] at ht hset
      obtain ⟨za, zb⟩ := z
      unfold handV at ht
      dsimp only at ht
      have HT := Lib.hid ht
      have HSet := Lib.hid hset
      have hki : (k : Int) < (m : Int) := by omega
      clear ht hset e1 e2 e3 e4 hz
      go_wp2_with fail
      refine HT.out.mono ?_
      rintro e w2 ⟨S2, rfl, h2, m2⟩
      have hR2 := HR.out.only m2.1 (fun g hg hs => HnS.out (by
        have e : w.heap.size = g := by simpa [Value.ownBlock] using hg
        rw [e]; exact hs))
      have hrw := hrow_set hR2 (za, zb) (k := k) (by rw [List.length_append, List.length_take, List.length_replicate]; omega)
      rw [HSet.out] at hrw
      have hblk := World.ownsRow.lt hR2 w.heap.size rfl
      have hrb := hR2
      have cj := fun j (hj : j < m * 2) => World.ownsRow.cellAt hR2 j hj
      have fz := fun j => World.ownsRow.frozenAt hR2 j
      have HR2 := Lib.hid hR2
      have HRw := Lib.hid hrw
      have HA2 := Lib.hid h2
      have HM2 := Lib.hid m2
      have f0 := fz (k * 2)
      have f1 := fz (k * 2 + 1)
      obtain ⟨za0, zb0, hq⟩ : ∃ a b, w2.cell? { block := w.heap.size, off := k * 2 } = some (.int .i64 a) ∧ w2.cell? { block := w.heap.size, off := k * 2 + 1 } = some (.int .i64 b) := by
        have hat := cellsH_at (fr.take k ++ List.replicate (m - k) H2.no) k (by rw [List.length_append, List.length_take, List.length_replicate]; omega)
        exact ⟨_, _, (cj (k * 2) (by omega)).trans hat.1, (cj (k * 2 + 1) (by omega)).trans hat.2⟩
      obtain ⟨q0, q1⟩ := hq
      clear h2 m2 hR2 hrw hrb cj fz
      go_wp2_with fail
      have os : Only (fun x => x = w.heap.size) w2 ((w2.setCell { block := w.heap.size, off := k * 2 } (.int .i64 za)).setCell { block := w.heap.size, off := k * 2 + 1 } (.int .i64 zb)) :=
        (Only.setCell (S := fun x => x = w.heap.size) (p := { block := w.heap.size, off := k * 2 }) (Only.refl _ w2) (.inl rfl) _).setCell (p := { block := w.heap.size, off := k * 2 + 1 }) (.inl rfl) _
      have hrl := (World.ownsRow.lt HR.out w.heap.size rfl).2
      have hnS2 : ¬ S2 w.heap.size := fun h => by
        rcases HM2.out.2 _ h with h1 | h1
        · exact HnS.out h1
        · omega
      go_roundw
      case rel => exact ⟨k + 1, S2, by omega, by go_num, HA2.out.only os (fun x hx e => hnS2 (by rw [← e]; exact hx)), HRw.out,
        ⟨((HMv.out.1.trans HM2.out.1 HMv.out.2).setCell (p := { block := w.heap.size, off := k * 2 }) (.inr (Nat.le_refl _)) _).setCell (p := { block := w.heap.size, off := k * 2 + 1 }) (.inr (Nat.le_refl _)) _, fun x hx => by
          rcases HM2.out.2 x hx with h1 | h1
          · exact HMv.out.2 x h1
          · have := HMv.out.1.size; exact .inr (by omega)⟩, hnS2⟩
      case measure => simp [intOf]; omega
    · obtain rfl : k = m := by omega
      have hR := HR.out
      rw [Nat.sub_self, List.replicate_zero, List.append_nil] at hR
      have HR2 := Lib.hid hR
      clear hR
      go_wp2_with fail
      exact bodyPost_ret (v := .tuple #[.slice (some ⟨w.heap.size, 0, none⟩) k k, .int .i64 0]) (by simp [results, Try.results12, go_sem]) rfl ⟨_, S1, rfl, HR2.out, HA.out, HMv.out, fun g hg => by
        have e : w.heap.size = g := by simpa [Value.ownBlock] using hg
        rw [← e]; exact HnS.out⟩
end Go.Proofs.Ytomcpjgklecopaa
