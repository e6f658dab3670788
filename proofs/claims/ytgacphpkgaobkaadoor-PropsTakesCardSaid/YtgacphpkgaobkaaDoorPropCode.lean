/- The code's own: which lists of properties are right. The code's own Right of lists of properties. The code's own Right of lists of properties: the whole list. A property in a block of its own, written to; a copy of it: the code's copied. A list copied one by one, and the first fault of a list: the code's own. A list copied one by one: the code's own. Where a property belongs in a list in order: the code's own search. One property laid into a row of the call's own: copies of four cells an element. One property laid into a row of the call's own: the library's Insert. One property laid into a row of the call's own: the library's Insert, in place. One property laid into a row of the call's own: the library's Insert, into new memory. Plain Lean: lists of properties in order, and one put into such a list. One property put into a list in order: the code's own put. What is set: the code's own Set. What is set: the code's own Set. -/
import Derived.Test.YtgacphpkgaobkaaDoorPropRight
import Derived.Test.YtgacphpkgaobkaaDoorCompare
import Derived.Test.YtgacphpkgaobkaaDoorValRight
import Derived.Test.YtgacphpkgaobkaaDoorPropSet
import Derived.Laws.AppendOwnNone
import Derived.Laws.OwnMore
import Derived.Lib.SliceRun
import Derived.Laws.CopyOwn
import Derived.Lib.Overlaps
import Derived.Lib.AppendZerosOnto
import Derived.Laws.NewBlocks
set_option linter.unusedVariables false
namespace Go.Proofs.YtgacphpkgaobkaaDoor
open Go Go.RowKit

theorem grown_of_below {w w' : World} (h : Below w.heap.size w w') (row : Option Nat) : w.grownBy w' row := ⟨h.os, h.tape, h.output, h.size, fun k hk _ => h.block k hk⟩
theorem grown_trans {a b c : World} {row : Option Nat} (h : a.grownBy b row) (k : b.grownBy c row) : a.grownBy c row :=
  ⟨k.os.trans h.os, k.tape.trans h.tape, k.output.trans h.output, Nat.le_trans h.size k.size, fun i hi hne => (k.block i (Nat.lt_of_lt_of_le hi h.size) hne).trans (h.block i hi hne)⟩
theorem below_of_grown {w w' : World} {N B : Nat} (h : w.grownBy w' (some N)) (hB : B ≤ N) (hB2 : B ≤ w.heap.size) : Below B w w' :=
  ⟨h.os, h.tape, h.output, h.size, fun k hk => h.block k (by omega) (by simp; omega)⟩
theorem grown_cell {w w' : World} {N : Nat} (h : w.grownBy w' (some N)) {a : Addr} {v : Value} (hc : w.cell? a = some v) (hne : a.block ≠ N) : w'.cell? a = some v := h.cell hc (by simpa using hne)
theorem RdP.grown {w w' : World} {A : Option Addr} {zs : List Prop4} {N : Nat} (h : RdP w A zs) (hg : w.grownBy w' (some N)) (hA : ∀ ad, A = some ad → ad.block ≠ N) : RdP w' A zs := by
  intro k hk
  obtain ⟨ad, e, hlt, h0, h1, h2, h3⟩ := h k hk
  have hbl : ∀ j, (ad.add j).block ≠ N := fun j => by rw [add_block]; exact hA ad e
  exact ⟨ad, e, Nat.lt_of_lt_of_le hlt hg.size, grown_cell hg h0 (hbl _), grown_cell hg h1 (hbl _), grown_cell hg h2 (hbl _), grown_cell hg h3 (hbl _)⟩
theorem frozen_set (W : World) (a x : Addr) (v : Value) : (W.setCell a v).frozen? x = W.frozen? x := by
  rw [World.frozen?_setCell]
theorem grown_set {w w1 : World} {N o : Nat} (h : w.grownBy w1 (some N)) (u : Value) : w.grownBy (w1.setCell { block := N, off := o } u) (some N) :=
  ⟨h.os, h.tape, h.output, by simpa using h.size, fun k hk hne => (Below.heap_setCell w1 _ u k (by intro e; exact hne (by rw [e]))).trans (h.block k hk hne)⟩
def climbB (p key : ByteArray) : Bool := nameB key && decide (0 < cmpK key p)

set_option maxHeartbeats 1000000 in
set_option maxRecDepth 100000 in
theorem climb_any (key p : ByteArray) (N : Nat) (w : World) (hk : key.size ≤ 1000000) (hp : p.size ≤ 1000000) (hN : w.cell? { block := N, off := 0 } = some (.string p)) (hf : w.frozen? { block := N, off := 0 } = false) (hT : Tabs w) :
    Calls Tryd.prog 58 #[.string key, .pointer (some ⟨N, 0, none⟩)] w fun e w' => e = .returned (.bool (climbB p key)) ∧ w'.cell? { block := N, off := 0 } = some (.string key) ∧ w'.frozen? { block := N, off := 0 } = false ∧ w.grownBy w' (some N) := by
  have hNlt : N < w.heap.size := World.block_lt_of_cell? w _ hN
  have cR := right_new w key _ rfl hk
  obtain ⟨b, hb⟩ : ∃ b, nameB key = b := ⟨_, rfl⟩
  rw [hb] at cR
  have CR := Lib.hid cR
  have HT := Lib.hid hT
  have HB := Lib.hid hb
  have HN := Lib.hid hN
  have HF := Lib.hid hf
  clear cR hT hb hN hf
  go_enter Tryd.func58, Tryd.ntmps58
  go_wp2_with fail
  refine CR.out.mono ?_
  rintro e w1 ⟨rfl, b1⟩
  have hN1 := (World.cell?_of_block (b1.block N hNlt)).trans HN.out
  have hf1 := (World.frozen?_of_block (b1.block N hNlt)).trans HF.out
  have g1 : w.grownBy w1 (some N) := grown_of_below b1 _
  cases b
  · have hout : climbB p key = false := by unfold climbB; rw [HB.out]; rfl
    have HO := Lib.hid hout
    clear hout
    go_wp2_with fail
    go_ret
    exact ⟨ret_boolV HO.out.symm, World.cell?_setCell_same _ _ _ hN1, by rw [frozen_set]; exact hf1, grown_set g1 _⟩
  · have hout : climbB p key = decide (0 < cmpK key p) := by unfold climbB; rw [HB.out]; rfl
    have HO := Lib.hid hout
    have cC := compare_any key p w1 hk hp (Utf8Tabs_below HT.out b1)
    have CC := Lib.hid cC
    clear hout cC
    go_wp2_with fail
    refine CC.out.mono ?_
    rintro e w2 ⟨rfl, b2⟩
    have hs1 := b1.size
    have hN2 := (World.cell?_of_block (b2.block N (Nat.lt_of_lt_of_le hNlt b1.size))).trans hN1
    have hf2 := (World.frozen?_of_block (b2.block N (Nat.lt_of_lt_of_le hNlt b1.size))).trans hf1
    go_wp2_with fail
    go_ret
    exact ⟨ret_boolV (by rw [HO.out]; rfl), World.cell?_setCell_same _ _ _ hN2, by rw [frozen_set]; exact hf2, grown_set (grown_trans g1 (grown_of_below b2 _)) _⟩

abbrev climbF (N : Nat) : Value := .func (.func 58) #[] #[.pointer (some ⟨N, 0, none⟩)]
def StepPost (w : World) (N : Nat) (a : ByteArray) (b : Bool) (e : Ending) (w' : World) : Prop := e = .returned (.bool b) ∧ w'.cell? { block := N, off := 0 } = some (.string a) ∧ w'.frozen? { block := N, off := 0 } = false ∧ w.grownBy w' (some N)
set_option maxHeartbeats 1000000 in
set_option maxRecDepth 100000 in
theorem right1_any (a p : ByteArray) (k n : Int) (s : ByteArray) (N M : Nat) (w : World) (ha : a.size ≤ 1000000) (hp : p.size ≤ 1000000) (hN : w.cell? { block := N, off := 0 } = some (.string p)) (hf : w.frozen? { block := N, off := 0 } = false)
    (hM : w.cell? { block := M, off := 0 } = some (climbF N)) (hT : Tabs w) :
    Calls Tryd.prog 36 #[.agg #[.string a, .int .i64 k, .int .i64 n, .string s], .pointer (some ⟨M, 0, none⟩)] w (StepPost w N a (!(climbB p a && rightV k n s))) := by
  have hNlt : N < w.heap.size := World.block_lt_of_cell? w _ hN
  have hMlt : M < w.heap.size := World.block_lt_of_cell? w _ hM
  have hb0 : Below w.heap.size w (w.alloc (.cells #[.string a, .int .i64 k, .int .i64 n, .string s] 41)) := (Below.refl _ _).alloc (Nat.le_refl _) _
  have hN0 := (World.cell?_of_block (hb0.block N hNlt)).trans hN
  have hf0 := (World.frozen?_of_block (hb0.block N hNlt)).trans hf
  have hM0 := (World.cell?_of_block (hb0.block M hMlt)).trans hM
  have hbx := BoxP.new w a k n s
  have hsz0 : (w.alloc (.cells #[.string a, .int .i64 k, .int .i64 n, .string s] 41)).heap.size = w.heap.size + 1 := by simp
  have cC := climb_any a p N _ ha hp hN0 hf0 (Utf8Tabs_below hT hb0)
  obtain ⟨b, hb⟩ : ∃ b, climbB p a = b := ⟨_, rfl⟩
  rw [hb] at cC ⊢
  have CC := Lib.hid cC
  have HB := Lib.hid hbx
  have HM := Lib.hid hM
  have g0 := grown_of_below hb0 (some N)
  obtain ⟨r, hr⟩ : ∃ r, rightV k n s = r := ⟨_, rfl⟩
  have HR := Lib.hid hr
  rw [hr]
  clear cC hbx hM hb hN0 hf0 hN hf hr hM0
  have hM0 := (World.cell?_of_block (hb0.block M hMlt)).trans HM.out
  clear hb0
  go_enter Tryd.func36, Tryd.ntmps36
  go_wp2_with fail
  refine CC.out.mono ?_
  rintro e w1 ⟨rfl, c1, f1, g1⟩
  have gg := grown_trans g0 g1
  cases b
  · go_wp2_with fail
    go_ret
    exact ⟨by rfl, c1, f1, gg⟩
  · obtain ⟨p0, p1, p2, p3⟩ := HB.out.block (g1.block w.heap.size (by omega) (by simp; omega))
    have hs1 := g1.size
    have hbV := fun W' o (ho : o = (.cells #[.int .i64 k, .int .i64 n, .string s] 36 : Obj)) (hW : W' = w1.alloc o) => valRight_one k n s w1.heap.size W' (by subst hW; subst ho; exact Box.new w1 k n s) (by subst hW; simp)
    have cV := hbV _ _ rfl rfl
    rw [HR.out] at cV
    have CV := Lib.hid cV
    clear cV hbV
    go_wp2_with fail
    refine CV.out.mono ?_
    rintro e w2 ⟨rfl, b2⟩
    have hx : Below w1.heap.size w1 w2 := ((Below.refl _ w1).alloc (Nat.le_refl _) _).trans (b2.mono (by simp))
    have hN1 : N < w1.heap.size := by omega
    go_wp2_with fail
    go_ret
    exact ⟨by simp, (World.cell?_of_block (hx.block N hN1)).trans c1, (World.frozen?_of_block (hx.block N hN1)).trans f1, grown_trans gg (grown_of_below hx _)⟩

def climbAll : ByteArray → List Prop4 → Bool
  | _, [] => true
  | p, z :: r => climbB p z.1 && okK z && climbAll z.1 r
theorem climbAll_from : ∀ (zs : List Prop4) (p : ByteArray), climbAll p zs = rightFrom (some p) zs
  | [], _ => rfl
  | z :: r, p => by
    have h : decide (0 < cmpK z.1 p) = decide (cmpK p z.1 < 0) := by
      have := cmpL_neg (runes p.data.toList) (runes z.1.data.toList)
      unfold cmpK
      rw [this]
      congr 1
      apply propext
      omega
    unfold climbAll rightFrom climbB
    rw [climbAll_from r z.1, h]
    show (nameK z && aboveK (some p) z && okK z && _) = _
    cases nameK z <;> cases aboveK (some p) z <;> cases okK z <;> rfl
theorem cmpK_empty (a : ByteArray) (h : nameB a = true) : cmpK ByteArray.empty a < 0 := by
  unfold cmpK
  have e : runes (ByteArray.empty).data.toList = [] := rfl
  rw [e]
  unfold nameB at h
  cases hr : runes a.data.toList with
  | nil => rw [hr] at h; cases h
  | cons x r => show (-1 : Int) < 0; decide
theorem climbAll_right (zs : List Prop4) : climbAll ByteArray.empty zs = rightFrom none zs := by
  rw [climbAll_from]
  cases zs with
  | nil => rfl
  | cons z r =>
    unfold rightFrom
    cases hn : nameK z with
    | false => rfl
    | true =>
      have h : aboveK (some ByteArray.empty) z = true := decide_eq_true (cmpK_empty z.1 hn)
      rw [h]
      rfl

set_option maxHeartbeats 1000000 in
set_option maxRecDepth 100000 in
theorem indexRight_any (A : Option Addr) (c : Nat) (zs : List Prop4) (p0 : ByteArray) (N M : Nat) (w0 w : World) (h : RdP w0 A zs) (hz : ∀ k, k < zs.length → (zs.getD k Prop4.no).1.size ≤ 1000000) (hp0 : p0.size ≤ 1000000) (hl : zs.length ≤ 1000000)
    (hb : Below w0.heap.size w0 w) (hN0 : w0.heap.size ≤ N) (hM0 : w0.heap.size ≤ M) (hne : M ≠ N) (hN : w.cell? { block := N, off := 0 } = some (.string p0)) (hf : w.frozen? { block := N, off := 0 } = false)
    (hM : w.cell? { block := M, off := 0 } = some (climbF N)) (hT : Tabs w0) :
    Calls Tryd.prog 43 #[.slice A zs.length c, .func (.func 36) #[] #[.pointer (some ⟨M, 0, none⟩)]] w
      fun e w' => (∃ r : Int, e = .returned (.int .i64 r) ∧ decide (0 ≤ r) = !climbAll p0 zs) ∧ Below w0.heap.size w0 w' := by
  have HRd := Lib.hid h
  have HZ := Lib.hid hz
  have HT := Lib.hid hT
  have HN := Lib.hid hN
  have HF := Lib.hid hf
  have HM := Lib.hid hM
  clear h hz hT hN hf hM
  go_enter Tryd.func43, Tryd.ntmps43
  go_wp2_with fail
  go_loopw [8] (fun i wr => ∃ (j : Nat) (p : ByteArray), j ≤ zs.length ∧ i = .int .i64 (j : Nat) ∧ climbAll p (zs.drop j) = climbAll p0 zs ∧ p.size ≤ 1000000 ∧ wr.cell? { block := N, off := 0 } = some (.string p) ∧ wr.frozen? { block := N, off := 0 } = false ∧ wr.cell? { block := M, off := 0 } = some (climbF N) ∧ Below w0.heap.size w0 wr) (fun i _ => zs.length - (intOf i).toNat)
  case atStart => exact ⟨0, p0, Nat.zero_le _, rfl, by simp, hp0, HN.out, HF.out, HM.out, hb⟩
  case round =>
    obtain ⟨j, p, hj, rfl, hacc, hp, hcN, hcF, hcM, hbw⟩ := hrel
    by_cases hlt : j < zs.length
    · rw [drop_getD zs j hlt] at hacc
      have hkz := HZ.out j hlt
      obtain ⟨ad, rfl, hblk, q0, q1, q2, q3⟩ := (HRd.out.below (Nat.le_refl _) hbw).at4 hlt
      obtain ⟨z, hzj⟩ : ∃ z, zs.getD j Prop4.no = z := ⟨_, rfl⟩
      rw [hzj] at q0 q1 q2 q3 hacc hkz
      clear hzj
      obtain ⟨a, k, n, s⟩ := z
      dsimp only at q0 q1 q2 q3 hkz
      have cR := right1_any a p k n s N M wr hkz hp hcN hcF hcM (Utf8Tabs_below HT.out hbw)
      have hst : (climbB p a && rightV k n s && climbAll a (zs.drop (j + 1))) = climbAll p0 zs := hacc
      have HSt := Lib.hid hst
      have HcM := Lib.hid hcM
      obtain ⟨b, hbb⟩ : ∃ b, (climbB p a && rightV k n s) = b := ⟨_, rfl⟩
      rw [hbb] at cR
      have HB := Lib.hid hbb
      have CR := Lib.hid cR
      clear cR hst hacc hcN hcF hcM hbb
      cases b
      · have hout : climbAll p0 zs = false := by rw [← HSt.out, HB.out]; rfl
        have HO := Lib.hid hout
        clear hout
        go_wp2_with fail
        refine CR.out.mono ?_
        rintro e w1 ⟨rfl, c1, f1, g1⟩
        go_wp2_with fail
        go_ret
        exact ⟨⟨_, rfl, by rw [HO.out]; simp⟩, hbw.trans (below_of_grown g1 hN0 hbw.size)⟩
      · have hout : climbAll a (zs.drop (j + 1)) = climbAll p0 zs := by rw [← HSt.out, HB.out]; rfl
        have HO := Lib.hid hout
        clear hout
        go_wp2_with fail
        refine CR.out.mono ?_
        rintro e w1 ⟨rfl, c1, f1, g1⟩
        have hM1 := grown_cell g1 HcM.out hne
        go_wp2_with fail
        go_roundw
        case rel => exact ⟨j + 1, a, by omega, by go_num, HO.out, hkz, c1, f1, hM1, hbw.trans (below_of_grown g1 hN0 hbw.size)⟩
        case measure => simp [intOf]; omega
    · obtain rfl : j = zs.length := by omega
      have hout : climbAll p0 zs = true := by rw [← hacc, List.drop_eq_nil_of_le (Nat.le_refl _)]; rfl
      have HO := Lib.hid hout
      clear hout
      go_wp2_with fail
      go_ret
      exact ⟨⟨_, rfl, by rw [HO.out]; rfl⟩, hbw⟩

set_option maxHeartbeats 1000000 in
set_option maxRecDepth 100000 in
theorem containsRight_any (A : Option Addr) (c : Nat) (zs : List Prop4) (p0 : ByteArray) (N M : Nat) (w0 w : World) (h : RdP w0 A zs) (hz : ∀ k, k < zs.length → (zs.getD k Prop4.no).1.size ≤ 1000000) (hp0 : p0.size ≤ 1000000) (hl : zs.length ≤ 1000000)
    (hb : Below w0.heap.size w0 w) (hN0 : w0.heap.size ≤ N) (hM0 : w0.heap.size ≤ M) (hne : M ≠ N) (hN : w.cell? { block := N, off := 0 } = some (.string p0)) (hf : w.frozen? { block := N, off := 0 } = false)
    (hM : w.cell? { block := M, off := 0 } = some (climbF N)) (hT : Tabs w0) :
    Calls Tryd.prog 35 #[.slice A zs.length c, .func (.func 36) #[] #[.pointer (some ⟨M, 0, none⟩)]] w
      fun e w' => e = .returned (.bool (!climbAll p0 zs)) ∧ Below w0.heap.size w0 w' := by
  have HI := Lib.hid (indexRight_any A c zs p0 N M w0 w h hz hp0 hl hb hN0 hM0 hne hN hf hM hT)
  clear h hz hN hf hM hT
  go_enter Tryd.func35, Tryd.ntmps35
  go_wp2_with fail
  refine HI.out.mono ?_
  rintro e w1 ⟨⟨r, rfl, hr⟩, b1⟩
  go_wp2_with fail
  go_ret
  exact ⟨by rw [← hr]; rfl, b1⟩

set_option maxHeartbeats 1000000 in
set_option maxRecDepth 100000 in
theorem climbing_any (w : World) :
    Calls Tryd.prog 34 #[] w fun e w' => e = .returned (.func (.func 58) #[] #[.pointer (some ⟨w.heap.size, 0, none⟩)]) ∧ w' = w.alloc (.cells #[.string ⟨#[]⟩] 9) := by
  have hc : (w.alloc (.cells #[.string ⟨#[]⟩] 9)).cell? { block := w.heap.size, off := 0 } = some (.string ⟨#[]⟩) := by rw [World.cell?_alloc_mark]; rfl
  have hf : (w.alloc (.cells #[.string ⟨#[]⟩] 9)).frozen? { block := w.heap.size, off := 0 } = false := by unfold World.frozen?; rw [heap_alloc_new]; rfl
  go_enter Tryd.func34, Tryd.ntmps34
  go_wp2_with fail
  go_ret
  exact ⟨rfl, rfl⟩

theorem two_cells (w : World) (u v : Value) (t t' : TypeId) : ((w.alloc (.cells #[u] t)).alloc (.cells #[v] t')).cell? { block := w.heap.size + 1, off := 0 } = some v ∧ ((w.alloc (.cells #[u] t)).alloc (.cells #[v] t')).frozen? { block := w.heap.size + 1, off := 0 } = false ∧
    ((w.alloc (.cells #[u] t)).alloc (.cells #[v] t')).cell? { block := w.heap.size, off := 0 } = some u ∧ ((w.alloc (.cells #[u] t)).alloc (.cells #[v] t')).frozen? { block := w.heap.size, off := 0 } = false := by
  have hs : (w.alloc (.cells #[u] t)).heap.size = w.heap.size + 1 := by simp
  have h1 : ((w.alloc (.cells #[u] t)).alloc (.cells #[v] t')).heap[w.heap.size + 1]? = some (.cells #[v] t' (0, 0)) := by rw [← hs]; exact heap_alloc_new _ _
  have h2 : ((w.alloc (.cells #[u] t)).alloc (.cells #[v] t')).heap[w.heap.size]? = some (.cells #[u] t (0, 0)) := (Lib.alloc_old _ _ _ (by omega)).trans (heap_alloc_new _ _)
  exact ⟨by rw [cell_of_row _ _ 0 _ _ (0, 0) h1]; rfl, frozen_of_row _ _ _ _ _ h1, by rw [cell_of_row _ _ 0 _ _ (0, 0) h2]; rfl, frozen_of_row _ _ _ _ _ h2⟩

theorem store_run {W : World} {a : Addr} {v u : Value} (h1 : v.oneCell' = true) (hc : W.cell? a = some u) (hf : W.frozen? a = false) : (store a v).run Tryd.prog W = .ok () (W.setCell a v) := by
  rw [run_store Tryd.prog W a v _ h1, hc]
  simp [hf]

set_option maxHeartbeats 1000000 in
set_option maxRecDepth 100000 in
theorem propsRight_any (A : Option Addr) (c : Nat) (zs : List Prop4) (w : World) (h : RdP w A zs) (hz : ∀ k, k < zs.length → (zs.getD k Prop4.no).1.size ≤ 1000000) (hl : zs.length ≤ 1000000) (hT : Tabs w) :
    Calls Tryd.prog 14 #[.slice A zs.length c] w fun e w' => e = .returned (.bool (rightP zs)) ∧ Below w.heap.size w w' := by
  by_cases hlen : zs.length ≤ 16
  · have HP : Hid (rightP zs = climbAll ByteArray.empty zs) := Lib.hid (by unfold rightP; rw [decide_eq_true hlen, Bool.true_and, climbAll_right])
    go_enter Tryd.func14, Tryd.ntmps14
    go_wp2_with fail
    refine (climbing_any _).mono ?_
    rintro e w1 ⟨rfl, rfl⟩
    obtain ⟨t0, t1, t2, t3⟩ := two_cells w (.string ⟨#[]⟩) .nilFunc 9 59
    have hst := store_run (v := .func (.func 58) #[] #[.pointer (some ⟨w.heap.size, 0, none⟩)]) rfl t0 t1
    have hb2 : Below w.heap.size w ((w.alloc (.cells #[.string ⟨#[]⟩] 9)).alloc (.cells #[.func (.func 58) #[] #[.pointer (some ⟨w.heap.size, 0, none⟩)]] 59)) := ((Below.refl _ w).alloc (Nat.le_refl _) _).alloc (by simp) _
    obtain ⟨s0, s1, s2, s3⟩ := two_cells w (.string ⟨#[]⟩) (.func (.func 58) #[] #[.pointer (some ⟨w.heap.size, 0, none⟩)]) 9 59
    have CI := Lib.hid (containsRight_any A c zs ⟨#[]⟩ w.heap.size (w.heap.size + 1) w _ h hz (by decide) hl hb2 (Nat.le_refl _) (by omega) (by omega) s2 s3 s0 hT)
    clear h hz hT hb2 s0 s1 s2 s3
    go_wp2_with fail
    refine CI.out.mono ?_
    rintro e w3 ⟨rfl, b3⟩
    go_wp2_with fail
    go_ret
    exact ⟨ret_boolV (by rw [HP.out]; rfl), b3⟩
  · have HP : Hid (rightP zs = false) := Lib.hid (by unfold rightP; rw [decide_eq_false hlen, Bool.false_and])
    go_enter Tryd.func14, Tryd.ntmps14
    go_wp2_with fail
    refine (climbing_any _).mono ?_
    rintro e w1 ⟨rfl, rfl⟩
    obtain ⟨t0, t1, t2, t3⟩ := two_cells w (.string ⟨#[]⟩) .nilFunc 9 59
    have hst := store_run (v := .func (.func 58) #[] #[.pointer (some ⟨w.heap.size, 0, none⟩)]) rfl t0 t1
    go_wp2_with fail
    go_ret
    exact ⟨ret_boolV HP.out.symm, ((Below.refl _ w).alloc (Nat.le_refl _) _).alloc (by simp) _⟩

/-- A block that holds just this property, and may be written. -/
def HoldP (W : World) (N : Nat) (z : Prop4) : Prop := W.heap[N]? = some (.cells #[.string z.1, .int .i64 z.2.1, .int .i64 z.2.2.1, .string z.2.2.2] 41 (0, 0))
theorem HoldP.new (w : World) (a : ByteArray) (k n : Int) (s : ByteArray) : HoldP (w.alloc (.cells #[.string a, .int .i64 k, .int .i64 n, .string s] 41)) w.heap.size (a, k, n, s) := heap_alloc_new w _
theorem HoldP.at {W : World} {N : Nat} {z : Prop4} (h : HoldP W N z) : (W.cell? { block := N, off := 0 } = some (.string z.1) ∧ W.cell? { block := N, off := 1 } = some (.int .i64 z.2.1) ∧ W.cell? { block := N, off := 2 } = some (.int .i64 z.2.2.1) ∧ W.cell? { block := N, off := 3 } = some (.string z.2.2.2)) ∧
    W.frozen? { block := N, off := 0 } = false ∧ W.frozen? { block := N, off := 1 } = false ∧ W.frozen? { block := N, off := 2 } = false ∧ W.frozen? { block := N, off := 3 } = false := by
  unfold HoldP at h
  refine ⟨⟨?_, ?_, ?_, ?_⟩, ?_, ?_, ?_, ?_⟩
  · rw [cell_of_row W N 0 _ _ (0, 0) h]; rfl
  · rw [cell_of_row W N 1 _ _ (0, 0) h]; rfl
  · rw [cell_of_row W N 2 _ _ (0, 0) h]; rfl
  · rw [cell_of_row W N 3 _ _ (0, 0) h]; rfl
  all_goals exact frozen_of_row W N _ _ _ h
theorem HoldP.block {W W' : World} {N : Nat} {z : Prop4} (h : HoldP W N z) (e : W'.heap[N]? = W.heap[N]?) : HoldP W' N z := e.trans h
theorem HoldP.lt {W : World} {N : Nat} {z : Prop4} (h : HoldP W N z) : N < W.heap.size := (Array.getElem?_eq_some_iff.1 h).1
theorem HoldP.below {W W' : World} {B N : Nat} {z : Prop4} (h : HoldP W N z) (hb : Below B W W') (hN : N < B) : HoldP W' N z := h.block (hb.block N hN)
theorem HoldP.other {W : World} {N : Nat} {z : Prop4} (h : HoldP W N z) (M o : Nat) (u : Value) (hne : N ≠ M) : HoldP (W.setCell { block := M, off := o } u) N z := h.block (Below.heap_setCell W _ u N hne)
theorem HoldP.set0 {W : World} {N : Nat} {z : Prop4} (h : HoldP W N z) (a : ByteArray) : HoldP (W.setCell { block := N, off := 0 } (.string a)) N (a, z.2) := heap_setCell_same W N 0 _ _ (.string a) h
theorem HoldP.set3 {W : World} {N : Nat} {z : Prop4} (h : HoldP W N z) (s : ByteArray) : HoldP (W.setCell { block := N, off := 3 } (.string s)) N (z.1, z.2.1, z.2.2.1, s) := heap_setCell_same W N 3 _ _ (.string s) h
def put4 (W : World) (N o : Nat) (z : Prop4) : World := (((W.setCell { block := N, off := o } (.string z.1)).setCell { block := N, off := o + 1 } (.int .i64 z.2.1)).setCell { block := N, off := o + 2 } (.int .i64 z.2.2.1)).setCell { block := N, off := o + 3 } (.string z.2.2.2)
theorem HoldP.set4 {W : World} {N : Nat} {z : Prop4} (h : HoldP W N z) (y : Prop4) : HoldP (put4 W N 0 y) N y := by
  have h0 := heap_setCell_same W N 0 _ _ (.string y.1) h
  have h1 := heap_setCell_same _ N 1 _ _ (.int .i64 y.2.1) h0
  have h2 := heap_setCell_same _ N 2 _ _ (.int .i64 y.2.2.1) h1
  exact heap_setCell_same _ N 3 _ _ (.string y.2.2.2) h2

theorem two_new (w : World) (a : ByteArray) (k n : Int) (s : ByteArray) (W : World) (hW : W = (w.alloc (.cells #[.string a, .int .i64 k, .int .i64 n, .string s] 41)).alloc (.cells #[.string ⟨#[]⟩, .int .i64 0, .int .i64 0, .string ⟨#[]⟩] 41)) :
    HoldP W w.heap.size (a, k, n, s) ∧ HoldP W (w.heap.size + 1) (⟨#[]⟩, 0, 0, ⟨#[]⟩) ∧ Below w.heap.size w W ∧ W.heap.size = w.heap.size + 2 := by
  subst hW
  have hs : (w.alloc (.cells #[.string a, .int .i64 k, .int .i64 n, .string s] 41)).heap.size = w.heap.size + 1 := by simp
  refine ⟨(HoldP.new w a k n s).block (Lib.alloc_old _ _ _ (by omega)), ?_, ((Below.refl _ w).alloc (Nat.le_refl _) _).alloc (by omega) _, by simp⟩
  rw [← hs]
  exact HoldP.new _ _ _ _ _

set_option maxHeartbeats 1000000 in
set_option maxRecDepth 100000 in
theorem copied_any (a : ByteArray) (k n : Int) (s : ByteArray) (w : World) (ha : a.size ≤ 1000000) (hs : s.size ≤ 1000000) :
    Calls Tryd.prog 30 #[.agg #[.string a, .int .i64 k, .int .i64 n, .string s]] w fun e w' => e = .returned (.agg #[.string a, .int .i64 k, .int .i64 n, .string s]) ∧ Below w.heap.size w w' := by
  obtain ⟨hH1, hM0, hb1, hsb⟩ := two_new w a k n s _ rfl
  have cA := fun W => clone_any a W ha
  have cS := fun W => clone_any s W hs
  have CA := Lib.hid cA
  have CS := Lib.hid cS
  clear cA cS
  obtain ⟨⟨x0, x1, x2, x3⟩, y0, y1, y2, y3⟩ := hH1.at
  have HH := Lib.hid hH1
  have HM := Lib.hid hM0
  clear hH1 hM0
  go_enter Tryd.func30, Tryd.ntmps30
  go_wp2_with fail
  refine (CA.out _).mono ?_
  rintro e w1 ⟨rfl, b1⟩
  clear x0 x1 x2 x3 y0 y1 y2 y3
  have hs1 := b1.size
  rw [hsb] at hs1
  have h1 := HH.out.below b1 (by omega)
  have m1 := HM.out.below b1 (by omega)
  obtain ⟨⟨x0, x1, x2, x3⟩, y0, y1, y2, y3⟩ := h1.at
  have h2 := h1.set0 a
  obtain ⟨⟨u0, u1, u2, u3⟩, z0, z1, z2, z3⟩ := h2.at
  have HH2 := Lib.hid h2
  have HM1 := Lib.hid m1
  clear h1 h2 m1
  go_wp2_with fail
  refine (CS.out _).mono ?_
  rintro e w3 ⟨rfl, b3⟩
  clear x0 x1 x2 x3 y0 y1 y2 y3 u0 u1 u2 u3 z0 z1 z2 z3
  have hs3 := b3.size
  rw [show (w1.setCell { block := w.heap.size, off := 0 } (.string a)).heap.size = w1.heap.size from by simp] at hs3
  have h3 := HH2.out.below b3 (by simp; omega)
  have m3 := (HM1.out.other w.heap.size 0 (.string a) (by omega)).below b3 (by simp; omega)
  obtain ⟨⟨x0, x1, x2, x3⟩, y0, y1, y2, y3⟩ := h3.at
  have h4 := h3.set3 s
  obtain ⟨⟨u0, u1, u2, u3⟩, z0, z1, z2, z3⟩ := h4.at
  have m4 := m3.other w.heap.size 3 (.string s) (by omega)
  obtain ⟨⟨p0, p1, p2, p3⟩, q0, q1, q2, q3⟩ := m4.at
  obtain ⟨⟨r0, r1, r2, r3⟩, _⟩ := (m4.set4 (a, k, n, s)).at
  have R0 := Lib.hid r0
  have R1 := Lib.hid r1
  have R2 := Lib.hid r2
  have R3 := Lib.hid r3
  have HB3 := Lib.hid b3
  clear h3 m3 h4 m4 r0 r1 r2 r3 b3
  go_wp2_with fail
  have r0 := R0.out
  have r1 := R1.out
  have r2 := R2.out
  have r3 := R3.out
  simp only [put4, Nat.zero_add] at r0 r1 r2 r3
  refine bodyPost_ret (v := .agg #[.string a, .int .i64 k, .int .i64 n, .string s]) (by simp [results, Tryd.results30, go_sem, r0, r1, r2, r3]) rfl ⟨rfl, ?_⟩
  have e1 : Below w.heap.size w w1 := hb1.trans (b1.mono (by omega))
  have e2 : Below w.heap.size w w3 := (e1.setCell (p := ⟨w.heap.size, 0, none⟩) (Nat.le_refl _) _).trans (HB3.out.mono (by simp; omega))
  exact ((((e2.setCell (p := ⟨w.heap.size, 3, none⟩) (Nat.le_refl _) _).setCell (p := ⟨w.heap.size + 1, 0, none⟩) (Nat.le_succ _) _).setCell (p := ⟨w.heap.size + 1, 1, none⟩) (Nat.le_succ _) _).setCell (p := ⟨w.heap.size + 1, 2, none⟩) (Nat.le_succ _) _).setCell (p := ⟨w.heap.size + 1, 3, none⟩) (Nat.le_succ _) _

/-- In a row of the call's own, one property written. -/
theorem PRow.put {w : World} {B g n cap : Nat} {zs : List Prop4} (h : PRow w B (.slice (some ⟨g, 0, none⟩) n cap) n zs) (i : Nat) (z : Prop4) :
    PRow (put4 w g (i * 4) z) B (.slice (some ⟨g, 0, none⟩) n cap) n (zs.set i z) := by
  unfold PRow at h ⊢
  have h0 := (World.ownsRow.stored h (i * 4) (.string z.1)).1
  have h1 := (World.ownsRow.stored h0 (i * 4 + 1) (.int .i64 z.2.1)).1
  have h2 := (World.ownsRow.stored h1 (i * 4 + 2) (.int .i64 z.2.2.1)).1
  have h3 := (World.ownsRow.stored h2 (i * 4 + 3) (.string z.2.2.2)).1
  have e : ∀ (zs : List Prop4) (i : Nat), ((((zs.flatMap cellsP).set (i * 4) (.string z.1)).set (i * 4 + 1) (.int .i64 z.2.1)).set (i * 4 + 2) (.int .i64 z.2.2.1)).set (i * 4 + 3) (.string z.2.2.2) = (zs.set i z).flatMap cellsP := by
    intro zs
    induction zs with
    | nil => intro i; simp
    | cons y r ih =>
      intro i
      cases i with
      | zero => simp [cellsP]
      | succ i =>
        have e4 : (i + 1) * 4 = i * 4 + 4 := by omega
        rw [e4]
        have := ih i
        simpa [cellsP, Nat.add_assoc] using this
  rw [← e]
  exact h3
theorem PRow.at {w : World} {B n : Nat} {g cap : Nat} {zs : List Prop4} (h : PRow w B (.slice (some ⟨g, 0, none⟩) n cap) n zs) {k : Nat} (hk : k < zs.length) :
    (w.cell? { block := g, off := k * 4 } = some (.string (zs.getD k Prop4.no).1) ∧ w.cell? { block := g, off := k * 4 + 1 } = some (.int .i64 (zs.getD k Prop4.no).2.1) ∧ w.cell? { block := g, off := k * 4 + 2 } = some (.int .i64 (zs.getD k Prop4.no).2.2.1) ∧ w.cell? { block := g, off := k * 4 + 3 } = some (.string (zs.getD k Prop4.no).2.2.2)) ∧
    w.frozen? { block := g, off := k * 4 } = false ∧ w.frozen? { block := g, off := k * 4 + 1 } = false ∧ w.frozen? { block := g, off := k * 4 + 2 } = false ∧ w.frozen? { block := g, off := k * 4 + 3 } = false := by
  unfold PRow at h
  have hn := h.1
  rw [cellsP_len] at hn
  obtain ⟨c0, c1, c2, c3⟩ := cellsP_at zs k hk
  refine ⟨⟨?_, ?_, ?_, ?_⟩, ?_, ?_, ?_, ?_⟩
  · rw [h.cellAt _ (by omega)]; exact c0
  · rw [h.cellAt _ (by omega)]; exact c1
  · rw [h.cellAt _ (by omega)]; exact c2
  · rw [h.cellAt _ (by omega)]; exact c3
  all_goals exact h.frozenAt _
theorem PRow.len {w : World} {B n : Nat} {v : Value} {zs : List Prop4} (h : PRow w B v n zs) : zs.length = n := by
  have hn := h.1
  rw [cellsP_len] at hn
  omega
theorem PRow.forms {w : World} {B n : Nat} {v : Value} {zs : List Prop4} (h : PRow w B v n zs) : (v = .slice none 0 0 ∧ zs = []) ∨ ∃ g cap, v = .slice (some ⟨g, 0, none⟩) n cap ∧ B ≤ g ∧ g < w.heap.size ∧ n ≤ cap := by
  have hl := h.len
  have hlt := World.ownsRow.lt h
  unfold PRow at h
  rcases h.2 with ⟨hv, hn⟩ | ⟨g, cap, cur, hv, hB, hg, hc, _⟩
  · exact .inl ⟨hv, List.length_eq_zero_iff.1 (by omega)⟩
  · exact .inr ⟨g, cap, hv, hB, (hlt g (by rw [hv]; rfl)).2, hc⟩

set_option maxHeartbeats 1000000 in
set_option maxRecDepth 100000 in
theorem cloneP_any (A : Option Addr) (c : Nat) (zs : List Prop4) (w : World) (h : RdP w A zs) (hA : A = none → c = 0) (hc : zs.length ≤ c) (hl : zs.length ≤ 1000000) :
    Calls Tryd.prog 50 #[.slice A zs.length c] w (ListPost w zs) := by
  obtain ⟨i0, hi, hz0, hz1, hz2⟩ := info_parts prop_info
  cases A with
  | none =>
    have hc0 := hA rfl
    obtain rfl : zs = [] := List.length_eq_zero_iff.1 (by omega)
    subst hc0
    have hn := fun W => Lib.run_eql_slice_nil (P := Tryd.prog) W 22 41 none 0 0 0 0 Tryd.underlying22
    go_enter Tryd.func50, Tryd.ntmps50
    go_wp2_with fail
    go_ret
    exact ⟨_, rfl, World.ownsRow_nil _ _ _ _, Below.refl _ _⟩
  | some ad =>
    have hcell := h.cells
    have HC := Lib.hid hcell
    have hblk : 0 < zs.length → ad.block < w.heap.size := fun hp => by
      obtain ⟨ae, he, hb, _⟩ := h 0 hp
      obtain rfl : ad = ae := by injection he
      exact hb
    have HBk := Lib.hid hblk
    clear h hcell hblk hA
    have hn := fun W => Lib.run_eql_slice_nil (P := Tryd.prog) W 22 41 (some ad) zs.length c 0 0 Tryd.underlying22
    go_enter Tryd.func50, Tryd.ntmps50
    go_wp2_with (at_builtin; refine wpList_append_own _ rfl _ _ 22 rfl w.heap.size 41 i0 _ 4 48 Tryd.underlying22 hi hz0 hz1 hz2 rfl (by decide) _ 0 [] rfl ?a0 ad zs.length c (zs.flatMap cellsP) rfl (cellsP_len zs) ?b1 (cellsP_one zs) (by unfold maxLen; omega) (by omega) ?e1 ?_)
    case a0 => exact World.ownsRow_lit (base := w.heap.size) (e := 41) (size := 4) w #[] 0 (Nat.le_refl _) (by decide) rfl
    case b1 =>
      intro j u hu
      have hlt : j < (zs.flatMap cellsP).length := by
        rcases Nat.lt_or_ge j ((zs.flatMap cellsP).length) with h1 | h1
        · exact h1
        · rw [List.getElem?_eq_none h1] at hu; cases hu
      rw [cellsP_len] at hlt
      have := HC.out j u hu
      exact (World.cell?_of_block (Lib.alloc_old w _ _ (by rw [add_block]; exact HBk.out (by omega)))).trans this
    case e1 => simp
    intro v' w' hown hgrow _
    go_wp2_with fail
    go_ret
    refine ⟨_, rfl, ?_, ((Below.refl _ w).alloc (Nat.le_refl _) _).grown hgrow (by simp) (fun k' hk' => by simp [Value.ownBlock] at hk'; omega)⟩
    unfold PRow
    simpa using hown

theorem PRow.alloc' {w : World} {B n : Nat} {v : Value} {zs : List Prop4} (h : PRow w B v n zs) (o : Obj) : PRow (w.alloc o) B v n zs := World.ownsRow.alloc h o

set_option maxHeartbeats 1000000 in
set_option maxRecDepth 100000 in
theorem copies_any (A : Option Addr) (c : Nat) (zs : List Prop4) (w : World) (h : RdP w A zs) (hA : A = none → c = 0) (hc : zs.length ≤ c) (hl : zs.length ≤ 1000000) (hz : ∀ z ∈ zs, z.1.size ≤ 1000000 ∧ z.2.2.2.size ≤ 1000000) :
    Calls Tryd.prog 28 #[.slice A zs.length c] w (ListPost w zs) := by
  have CC := Lib.hid (cloneP_any A c zs w h hA hc hl)
  have HZ := Lib.hid hz
  clear h hA hz
  go_enter Tryd.func28, Tryd.ntmps28
  go_wp2_with fail
  refine CC.out.mono ?_
  rintro e w1 ⟨v, rfl, hrow, b1⟩
  rcases hrow.forms with ⟨rfl, rfl⟩ | ⟨g, cap, rfl, hBg, hgs, hcap⟩
  · have HRow := Lib.hid hrow
    clear hrow
    go_wp2_with fail
    go_loopw [10] (fun i wr => i = .int .i64 0 ∧ wr = w1) (fun i _ => 0)
    case atStart => exact ⟨rfl, rfl⟩
    case round =>
      obtain ⟨rfl, rfl⟩ := hrel
      go_wp2_with fail
      go_ret
      exact ⟨_, rfl, HRow.out, b1⟩
  · have HRow := Lib.hid hrow
    clear hrow
    go_wp2_with fail
    go_loopw [10] (fun i wr => ∃ k : Nat, k ≤ zs.length ∧ i = .int .i64 (k : Nat) ∧ PRow wr w.heap.size (.slice (some ⟨g, 0, none⟩) zs.length cap) zs.length zs ∧ Below w.heap.size w wr) (fun i _ => zs.length - (intOf i).toNat)
    case atStart => exact ⟨0, Nat.zero_le _, rfl, HRow.out, b1⟩
    case round =>
      obtain ⟨k, hk, rfl, hrow, hbw⟩ := hrel
      have hlt0 := hrow.forms
      by_cases hlt : k < zs.length
      · obtain ⟨⟨c0, c1, c2, c3⟩, f0, f1, f2, f3⟩ := hrow.at hlt
        have hkz := HZ.out (zs.getD k Prop4.no) (by rw [List.getD_eq_getElem?_getD, List.getElem?_eq_getElem hlt]; exact List.getElem_mem hlt)
        have hset : zs.set k (zs.getD k Prop4.no) = zs := by
          rw [List.getD_eq_getElem?_getD, List.getElem?_eq_getElem hlt]; simp
        obtain ⟨z, hzk⟩ : ∃ z, zs.getD k Prop4.no = z := ⟨_, rfl⟩
        rw [hzk] at c0 c1 c2 c3 hkz hset
        clear hzk
        obtain ⟨a, kk, n, s⟩ := z
        dsimp only at c0 c1 c2 c3 hkz
        have CP := Lib.hid (fun W => copied_any a kk n s W hkz.1 hkz.2)
        go_wp2_with fail
        refine (CP.out _).mono ?_
        rintro e w2 ⟨rfl, b2⟩
        have hbw2 : Below w.heap.size w w2 := (hbw.alloc hbw.size _).trans (b2.mono (by simp; exact Nat.le_trans hbw.size (Nat.le_succ _)))
        have hrow2 := PRow.below (PRow.alloc' hrow _) b2 (Nat.le_refl _)
        clear c0 c1 c2 c3 f0 f1 f2 f3
        obtain ⟨⟨c0, c1, c2, c3⟩, f0, f1, f2, f3⟩ := hrow2.at hlt
        have hput := PRow.put hrow2 k (a, kk, n, s)
        rw [hset] at hput
        have HPut := Lib.hid hput
        clear hput
        go_wp2_with fail
        go_roundw
        case rel => exact ⟨k + 1, by omega, by go_num, HPut.out, (((hbw2.setCell (p := ⟨g, k * 4, none⟩) hBg _).setCell (p := ⟨g, k * 4 + 1, none⟩) hBg _).setCell (p := ⟨g, k * 4 + 2, none⟩) hBg _).setCell (p := ⟨g, k * 4 + 3, none⟩) hBg _⟩
        case measure => simp [intOf]; omega
      · obtain rfl : k = zs.length := by omega
        go_wp2_with fail
        go_ret
        exact ⟨_, rfl, hrow, hbw⟩

set_option maxHeartbeats 1000000 in
set_option maxRecDepth 100000 in
theorem put1_any (a : ByteArray) (k n : Int) (s key : ByteArray) (w : World) (ha : a.size ≤ 1000000) (hk : key.size ≤ 1000000) (hT : Tabs w) :
    Calls Tryd.prog 52 #[.agg #[.string a, .int .i64 k, .int .i64 n, .string s], .string key] w fun e w' => e = .returned (.int .i64 (cmpK a key)) ∧ Below w.heap.size w w' := by
  have hb0 : Below w.heap.size w (w.alloc (.cells #[.string a, .int .i64 k, .int .i64 n, .string s] 41)) := (Below.refl _ _).alloc (Nat.le_refl _) _
  obtain ⟨c0, c1, c2, c3⟩ := BoxP.new w a k n s
  have CC := Lib.hid (compare_any a key _ ha hk (Utf8Tabs_below hT hb0))
  clear hT
  go_enter Tryd.func52, Tryd.ntmps52
  go_wp2_with fail
  refine CC.out.mono ?_
  rintro e w1 ⟨rfl, b1⟩
  go_wp2_with fail
  go_ret
  exact ⟨rfl, btV hb0 b1⟩
def before (zs : List Prop4) (key : ByteArray) (i : Nat) : Prop := ∀ k, k < i → k < zs.length → cmpK (zs.getD k Prop4.no).1 key < 0
def behind (zs : List Prop4) (key : ByteArray) (i : Nat) : Prop := ∀ k, i ≤ k → k < zs.length → 0 ≤ cmpK (zs.getD k Prop4.no).1 key
def level (zs : List Prop4) (key : ByteArray) : Prop := ∀ a b, a ≤ b → b < zs.length → cmpK (zs.getD b Prop4.no).1 key < 0 → cmpK (zs.getD a Prop4.no).1 key < 0
def FoundPost (w : World) (zs : List Prop4) (key : ByteArray) (e : Ending) (w' : World) : Prop := ∃ (i : Nat) (b : Bool), e = .returned (.tuple #[.int .i64 (i : Nat), .bool b]) ∧ i ≤ zs.length ∧ before zs key i ∧ behind zs key i ∧ (b = true ↔ i < zs.length ∧ cmpK (zs.getD i Prop4.no).1 key = 0) ∧ Below w.heap.size w w'

set_option maxHeartbeats 2000000 in
set_option maxRecDepth 100000 in
theorem search_any (A : Option Addr) (c : Nat) (zs : List Prop4) (key : ByteArray) (w : World) (h : RdP w A zs) (hl : zs.length ≤ 1000000) (hz : ∀ k, k < zs.length → (zs.getD k Prop4.no).1.size ≤ 1000000) (hk : key.size ≤ 1000000) (hT : Tabs w) (hm : level zs key) :
    Calls Tryd.prog 51 #[.slice A zs.length c, .string key, .func (.func 52) #[] #[]] w (FoundPost w zs key) := by
  have HRd := Lib.hid h
  have HZ := Lib.hid hz
  have HT := Lib.hid hT
  have HM := Lib.hid hm
  clear h hz hT hm
  go_enter Tryd.func51, Tryd.ntmps51
  go_wp2_with fail
  go_loopw [9, 10] (fun x y wr => ∃ (i j : Nat), x = .int .i64 (i : Nat) ∧ y = .int .i64 (j : Nat) ∧ i ≤ j ∧ j ≤ zs.length ∧ before zs key i ∧ behind zs key j ∧ Below w.heap.size w wr) (fun x y _ => (intOf y).toNat - (intOf x).toNat)
  case atStart => exact ⟨0, zs.length, rfl, rfl, Nat.zero_le _, Nat.le_refl _, fun k h => absurd h (by omega), fun k h1 h2 => absurd h2 (by omega), Below.refl _ _⟩
  case round =>
    obtain ⟨i, j, rfl, rfl, hij, hj, hbe, hbh, hbw⟩ := hrel
    have HBe := Lib.hid hbe
    have HBh := Lib.hid hbh
    clear hbe hbh
    by_cases hlt : i < j
    · have hsum : IntKind.i64.wrap ((i : Int) + (j : Int)) = (i : Int) + (j : Int) := by rw [IntKind.wrap_i64]; omega
      obtain ⟨m, hmid⟩ : ∃ m : Nat, (i + j) / 2 = m := ⟨_, rfl⟩
      have h1 : i ≤ m := by omega
      have h2 : m < j := by omega
      have hdiv : ((i : Int) + (j : Int)) / 2 = (m : Int) := by omega
      obtain ⟨ad, rfl, hblk, q0, q1, q2, q3⟩ := (HRd.out.below (Nat.le_refl _) hbw).at4 (k := m) (by omega)
      have hkz := HZ.out m (by omega)
      obtain ⟨z, hzm⟩ : ∃ z, zs.getD m Prop4.no = z := ⟨_, rfl⟩
      rw [hzm] at q0 q1 q2 q3 hkz
      obtain ⟨a, kk, n, s⟩ := z
      dsimp only at q0 q1 q2 q3 hkz
      have HZm := Lib.hid hzm
      have CP := Lib.hid (put1_any a kk n s key wr hkz hk (Utf8Tabs_below HT.out hbw))
      clear hzm
      by_cases hc : cmpK a key < 0
      · have hnx : before zs key (m + 1) := fun k hk1 hk2 => HM.out k m (by omega) (by omega) (by rw [HZm.out]; exact hc)
        have HNx := Lib.hid hnx
        have d1 : decide (cmpK a key < 0) = true := decide_eq_true hc
        clear hnx
        go_wp2_with fail
        refine CP.out.mono ?_
        rintro e w1 ⟨rfl, b1⟩
        go_wp2_with fail
        go_roundw
        case rel => exact ⟨m + 1, j, by go_num, rfl, by omega, hj, HNx.out, HBh.out, btV hbw b1⟩
        case measure => simp [intOf]; omega
      · have hnx : behind zs key m := fun k hk1 hk2 => by
          rcases Int.lt_or_le (cmpK (zs.getD k Prop4.no).1 key) 0 with h | h
          · have := HM.out m k hk1 hk2 h
            rw [HZm.out] at this
            exact absurd this hc
          · exact h
        have HNx := Lib.hid hnx
        have d1 : decide (cmpK a key < 0) = false := decide_eq_false hc
        clear hnx
        go_wp2_with fail
        refine CP.out.mono ?_
        rintro e w1 ⟨rfl, b1⟩
        go_wp2_with fail
        go_roundw
        case rel => exact ⟨i, m, rfl, rfl, h1, by omega, HBe.out, HNx.out, btV hbw b1⟩
        case measure => simp [intOf]; omega
    · obtain rfl : i = j := by omega
      by_cases hin : i < zs.length
      · obtain ⟨ad, rfl, hblk, q0, q1, q2, q3⟩ := (HRd.out.below (Nat.le_refl _) hbw).at4 (k := i) (by omega)
        have hkz := HZ.out i (by omega)
        obtain ⟨z, hzm⟩ : ∃ z, zs.getD i Prop4.no = z := ⟨_, rfl⟩
        rw [hzm] at q0 q1 q2 q3 hkz
        obtain ⟨a, kk, n, s⟩ := z
        dsimp only at q0 q1 q2 q3 hkz
        have HZm := Lib.hid hzm
        have CP := Lib.hid (put1_any a kk n s key wr hkz hk (Utf8Tabs_below HT.out hbw))
        clear hzm
        go_wp2_with fail
        refine CP.out.mono ?_
        rintro e w1 ⟨rfl, b1⟩
        go_wp2_with fail
        exact bodyPost_ret (v := .tuple #[.int .i64 (i : Nat), .bool (cmpK a key == 0)]) (by simp [results, Tryd.results51, go_sem]) rfl
          ⟨i, _, rfl, hj, HBe.out, HBh.out, by rw [HZm.out]; simp [hin], btV hbw b1⟩
      · go_wp2_with fail
        exact bodyPost_ret (v := .tuple #[.int .i64 (i : Nat), .bool false]) (by simp [results, Tryd.results51, go_sem]) rfl
          ⟨i, _, rfl, hj, HBe.out, HBh.out, by simp [hin], hbw⟩

theorem drop_addL {α : Type} (L Y : List α) (j : Nat) : (L ++ Y).drop (L.length + j) = Y.drop j := by rw [List.drop_append, List.drop_eq_nil_of_le (Nat.le_add_right _ _), List.nil_append, Nat.add_sub_cancel_left]
theorem take_addL {α : Type} (L Y : List α) (j : Nat) : (L ++ Y).take (L.length + j) = L ++ Y.take j := by rw [List.take_append, List.take_of_length_le (Nat.le_add_right _ _), Nat.add_sub_cancel_left]
theorem take_lenL {α : Type} (L Y : List α) : (L ++ Y).take L.length = L := by simp
theorem splice_at {α : Type} (L Y C : List α) (j : Nat) : splice (L ++ Y) (L.length + j) C = L ++ splice Y j C := by
  unfold splice
  rw [take_addL, List.append_assoc, Nat.add_assoc, drop_addL]
theorem splice_ins {α : Type} (L1 L2 M X : List α) (m : Nat) (hm : M.length = m) (hX : m ≤ X.length) (k : Nat) (hk : L1.length = k) :
    splice (splice (L1 ++ (L2 ++ X)) (k + m) L2) k M = L1 ++ (M ++ (L2 ++ X.drop m)) := by
  subst hk
  rw [splice_at]
  have e2 := splice_at L1 (splice (L2 ++ X) m L2) M 0
  rw [Nat.add_zero] at e2
  rw [e2]
  congr 1
  have hlen : ((L2 ++ X).take m).length = m := by rw [List.length_take, List.length_append]; omega
  have e3 : (L2 ++ X).drop (m + L2.length) = X.drop m := by rw [Nat.add_comm, drop_addL]
  unfold splice
  rw [e3, List.take_zero, List.nil_append, Nat.zero_add, hm]
  congr 1
  have e4 := drop_addL ((L2 ++ X).take m) (L2 ++ X.drop m) 0
  rw [Nat.add_zero, hlen, List.drop_zero] at e4
  exact e4
theorem splice_grow {α : Type} (L1 L2 M Z : List α) (m : Nat) (hm : M.length = m) (k : Nat) (hk : L1.length = k) (hZ : m + L2.length ≤ Z.length) :
    splice (splice (L1 ++ Z) k M) (k + m) L2 = L1 ++ (M ++ (L2 ++ Z.drop (m + L2.length))) := by
  subst hk
  have e1 := splice_at L1 Z M 0
  rw [Nat.add_zero] at e1
  rw [e1, splice_at]
  congr 1
  unfold splice
  rw [List.take_zero, List.nil_append, Nat.zero_add, hm]
  subst hm
  rw [take_lenL, drop_addL, List.drop_drop]

theorem run_copy4 (w : World) (dT sT ty : TypeId) (hu : Tryd.prog.underlying dT = some (.slice 41)) (g o dLen dCap : Nat) (a : Addr) (sLen sCap : Nat) (cur : List Value) (t : TypeId) (cs : List Value)
    (hg : w.heap[g]? = some (.cells cur.toArray t (0, 0))) (hn : cs.length = Nat.min sLen dLen * 4)
    (hsrc : ∀ j v, cs[j]? = some v → w.cell? (a.add j) = some v) (hfit : o + cs.length ≤ cur.length) (h1 : ∀ v ∈ cs, v.oneCell' = true) :
    (Builtin.copy_ #[dT, sT] ty #[.slice (some ⟨g, o, none⟩) dLen dCap, .slice (some a) sLen sCap]).run Tryd.prog w = .ok (goInt (Nat.min sLen dLen)) (w.setRow g (splice cur o cs).toArray) := by
  have hl := run_loadCells_list (P := Tryd.prog) w a cs hsrc
  have hst := run_storeCells_at Tryd.prog g o t cs 0 cur.toArray w hg (by simpa using hfit) h1
  obtain ⟨i0, hi, hz0, hz1, hz2⟩ := info_parts prop_info
  simp only [Nat.add_zero] at hst
  have hsp : cur.take o ++ cs ++ cur.drop (o + cs.length) = splice cur o cs := by unfold splice; rw [List.append_assoc]
  rw [hsp] at hst
  simp [Builtin.copy_, run_underlying hu, Builtin.lenOf, Builtin.firstCells, sizeOf, typeInfo, hi, hz1, ← hn, hl, hst]

theorem wpList_copy4 {w : World} {ops : Array Oper} {rest : List Oper} {o : Oper} {a : Act} {Q : Exit → Act → World → Prop} (hgd : o.guard = none) (d s : Operand) (dT sT : TypeId)
    (ho : o.op = .call { callee := .builtin .copy, args := #[d, s], argTypes := #[dT, sT] }) (hu : Tryd.prog.underlying dT = some (.slice 41))
    (g off dLen dCap : Nat) (ad : Addr) (sLen sCap : Nat) (hd : a.eval d = .slice (some ⟨g, off, none⟩) dLen dCap) (hs : a.eval s = .slice (some ad) sLen sCap)
    (cur : List Value) (t : TypeId) (hg : w.heap[g]? = some (.cells cur.toArray t (0, 0))) (cs : List Value) (hn : cs.length = Nat.min sLen dLen * 4)
    (hsrc : ∀ j v, cs[j]? = some v → w.cell? (ad.add j) = some v) (hfit : off + cs.length ≤ cur.length) (h1 : ∀ v ∈ cs, v.oneCell' = true) (B : Nat) (w0 : World) (hb : Below B w0 w) (hBg : B ≤ g)
    (h : ∀ w', Hid (w'.heap[g]? = some (.cells (splice cur off cs).toArray t (0, 0))) → Below B w0 w' → Hid (∀ k, k ≠ g → w'.heap[k]? = w.heap[k]?) → wpList Tryd.prog ops Q rest (a.put o.dst (goInt (Nat.min sLen dLen))) w') : wpList Tryd.prog ops Q (o :: rest) a w := by
  refine wpList_plain hgd fun K hK => ?_
  have hrun := run_copy4 w dT sT o.type hu g off dLen dCap ad sLen sCap cur t cs hg hn hsrc hfit h1
  unfold Oper.wp
  simp [execOp, ho, resolve, invoke, builtin, hd, hs, hrun, Result.andThen]
  exact hK _ _ (h _ (show _ = _ from setRow_heap w g _ _ t _ hg) (below_setRow hb hBg _) (show _ from fun k hk => setRow_other w g k _ hk))
theorem step_copy4 {ops : Array Oper} {o : Oper} {a : Act} {w : World} {K : Act → World → Prop} {Q : Exit → Act → World → Prop} {E : Prop} (hgd : o.guard = none) (d s : Operand) (dT sT : TypeId)
    (ho : o.op = .call { callee := .builtin .copy, args := #[d, s], argTypes := #[dT, sT] }) (hu : Tryd.prog.underlying dT = some (.slice 41))
    (g off dLen dCap : Nat) (ad : Addr) (sLen sCap : Nat) (hd : a.eval d = .slice (some ⟨g, off, none⟩) dLen dCap) (hs : a.eval s = .slice (some ad) sLen sCap)
    (cur : List Value) (t : TypeId) (hg : w.heap[g]? = some (.cells cur.toArray t (0, 0))) (cs : List Value) (hn : cs.length = Nat.min sLen dLen * 4)
    (hsrc : ∀ j v, cs[j]? = some v → w.cell? (ad.add j) = some v) (hfit : off + cs.length ≤ cur.length) (h1 : ∀ v ∈ cs, v.oneCell' = true) (B : Nat) (w0 : World) (hb : Below B w0 w) (hBg : B ≤ g)
    (h : ∀ w', Hid (w'.heap[g]? = some (.cells (splice cur off cs).toArray t (0, 0))) → Below B w0 w' → Hid (∀ k, k ≠ g → w'.heap[k]? = w.heap[k]?) → K (a.put o.dst (goInt (Nat.min sLen dLen))) w') :
    if Region.wanted o (yielded ops a.tmps) = true then Oper.wp Tryd.prog o a w K Q else E := by
  have hw : Region.wanted o (yielded ops a.tmps) = true := by simp [Region.wanted, hgd]
  rw [if_pos hw]
  have hrun := run_copy4 w dT sT o.type hu g off dLen dCap ad sLen sCap cur t cs hg hn hsrc hfit h1
  unfold Oper.wp
  simp [execOp, ho, resolve, invoke, builtin, hd, hs, hrun, Result.andThen]
  exact h _ (show _ = _ from setRow_heap w g _ _ t _ hg) (below_setRow hb hBg _) (show _ from fun k hk => setRow_other w g k _ hk)

def RowOut (w : World) (B : Nat) (zs : List Prop4) (e : Ending) (w' : World) : Prop := ∃ v, e = .returned v ∧ PRow w' B v zs.length zs ∧ Below B w w'
theorem ins_len (zs : List Prop4) (i : Nat) (z : Prop4) (h : i ≤ zs.length) : (zs.take i ++ z :: zs.drop i).length = zs.length + 1 := by
  rw [List.length_append, List.length_cons, List.length_take, List.length_drop]; omega
theorem cellsP_ins (zs : List Prop4) (i : Nat) (z : Prop4) : (zs.take i ++ z :: zs.drop i).flatMap cellsP = (zs.take i).flatMap cellsP ++ (cellsP z ++ (zs.drop i).flatMap cellsP) := by
  rw [List.flatMap_append, List.flatMap_cons]
theorem cellsP_cut (zs : List Prop4) (i : Nat) : (zs.take i).flatMap cellsP ++ (zs.drop i).flatMap cellsP = zs.flatMap cellsP := by
  rw [← List.flatMap_append, List.take_append_drop]
theorem cellsP_z (z : Prop4) : ∀ u ∈ cellsP z, u.oneCell' = true := by
  intro u hu
  simp only [cellsP, List.mem_cons, List.not_mem_nil, or_false] at hu
  rcases hu with rfl | rfl | rfl | rfl <;> rfl
theorem HoldP.cells {W : World} {N : Nat} {z : Prop4} (h : HoldP W N z) (j : Nat) (u : Value) (hu : (cellsP z)[j]? = some u) : W.cell? ((⟨N, 0, none⟩ : Addr).add j) = some u := by
  have e : (⟨N, 0, none⟩ : Addr).add j = ⟨N, j, none⟩ := by unfold Addr.add; split <;> simp_all
  rw [e, cell_of_row W N j _ _ (0, 0) h]
  simpa [cellsP] using hu

set_option maxHeartbeats 2000000 in
set_option maxRecDepth 100000 in
/-- At the end: an append. -/
theorem insert_end (v : Value) (zs : List Prop4) (z : Prop4) (B vb : Nat) (w : World) (h : PRow w B v zs.length zs) (hv : HoldP w vb z) (hB : B ≤ w.heap.size) (hl : zs.length ≤ 1000000) :
    Calls Tryd.prog 54 #[v, .int .i64 (zs.length : Nat), .slice (some ⟨vb, 0, none⟩) 1 1] w (RowOut w B (zs ++ [z])) := by
  obtain ⟨i0, hi, hz0, hz1, hz2⟩ := info_parts prop_info
  have HRow := Lib.hid h
  have hf := h.forms
  have hlt := World.ownsRow.lt h
  have HLt := Lib.hid hlt
  have HV := Lib.hid hv
  clear h hv hlt
  have hfin : ∀ v' w', w'.ownsRow B 41 4 v' (zs.length + 1) (zs.flatMap cellsP ++ cellsP z) → w.grownBy w' v.ownBlock → RowOut w B (zs ++ [z]) (.returned v') w' := fun v' w' hown hg =>
    ⟨v', rfl, by
      have := PRow.snoc (n := (zs ++ [z]).length) hown (by simp)
      exact this, (Below.refl B w).grown hg hB (fun k hk => (HLt.out k hk).1)⟩
  have HFin := Lib.hid hfin
  clear hfin
  rcases hf with ⟨rfl, rfl⟩ | ⟨g, cap, rfl, hBg, hgs, hcap⟩
  · go_enter Tryd.func54, Tryd.ntmps54
    go_wp2_with (at_builtin; refine wpList_append_own _ rfl _ _ 22 rfl B 41 i0 _ 4 48 Tryd.underlying22 hi hz0 hz1 hz2 rfl (by decide) _ _ _ rfl HRow.out ⟨vb, 0, none⟩ 1 1 (cellsP z) rfl rfl HV.out.cells (cellsP_z z) (by unfold maxLen; simp) (by simp) hB ?_)
    intro v' w' hown hgrow _
    go_wp2_with fail
    go_ret
    exact HFin.out _ _ hown hgrow
  · go_enter Tryd.func54, Tryd.ntmps54
    go_wp2_with (at_builtin; refine wpList_append_own _ rfl _ _ 22 rfl B 41 i0 _ 4 48 Tryd.underlying22 hi hz0 hz1 hz2 rfl (by decide) _ _ _ rfl HRow.out ⟨vb, 0, none⟩ 1 1 (cellsP z) rfl rfl HV.out.cells (cellsP_z z) (by unfold maxLen; omega) (by omega) hB ?_)
    all_goals (try (intro v' w' hown hgrow _; go_wp2_with fail; go_ret; exact HFin.out _ _ hown hgrow))

set_option maxHeartbeats 4000000 in
set_option maxRecDepth 100000 in
theorem insert_shift (g cap i : Nat) (zs : List Prop4) (z : Prop4) (B vb : Nat) (w : World) (h : PRow w B (.slice (some ⟨g, 0, none⟩) zs.length cap) zs.length zs) (hv : HoldP w vb z) (hvg : vb ≠ g) (hB : B ≤ w.heap.size) (hl : zs.length ≤ 1000000)
    (hi : i < zs.length) (hroom : zs.length + 1 ≤ cap) (hc63 : cap ≤ 9223372036854775807) :
    Calls Tryd.prog 54 #[.slice (some ⟨g, 0, none⟩) zs.length cap, .int .i64 (i : Nat), .slice (some ⟨vb, 0, none⟩) 1 1] w (RowOut w B (zs.take i ++ z :: zs.drop i)) := by
  have h0 := h
  unfold PRow at h0
  obtain ⟨hfl, h1⟩ := h0
  rcases h1 with ⟨hx, _⟩ | ⟨g', cap', cur, hx, hBg, hg, hnc, hcm, hcs, htk⟩
  · simp at hx
  simp only [Value.slice.injEq, Option.some.injEq, Addr.mk.injEq, and_true, true_and] at hx
  obtain ⟨rfl, rfl⟩ := hx
  obtain ⟨X, hX⟩ : ∃ X, cur.toList = (zs.take i).flatMap cellsP ++ ((zs.drop i).flatMap cellsP ++ X) := ⟨cur.toList.drop (zs.length * 4), by rw [← List.append_assoc, cellsP_cut, ← htk, List.take_append_drop]⟩
  have hcurA : cur = ((zs.take i).flatMap cellsP ++ ((zs.drop i).flatMap cellsP ++ X)).toArray := by rw [← hX]
  have hk1 : ((zs.take i).flatMap cellsP).length = i * 4 := by rw [cellsP_len, List.length_take, Nat.min_eq_left (by omega)]
  have hk2 : ((zs.drop i).flatMap cellsP).length = (zs.length - i) * 4 := by rw [cellsP_len, List.length_drop]
  have hXl : X.length = (cap - zs.length) * 4 := by
    have := congrArg List.length hX
    rw [List.length_append, List.length_append, hk1, hk2, Array.length_toList, hcs] at this
    omega
  have hsz : ∀ W, (Go.sizeOf 41).run Tryd.prog W = .ok 4 W := Tryd.sizeOf41
  have hov : ∀ lb cb, (callFunc 71 #[.slice (some ⟨vb, 0, none⟩) 1 1, .slice (some ⟨g, (i + 1) * 4, none⟩) lb cb]).run Tryd.prog w = .ok (.value (.bool false)) w := fun lb cb => by
    rw [run_callFunc_extern Tryd.func71 (by kernel_rfl) (by kernel_rfl) (by kernel_rfl) (e := Extern.SlicesOverlaps.overlaps #[22, 22] #[4]) (by kernel_rfl),
      Lib.run_overlaps_apart w 22 4 41 Tryd.underlying22 4 hsz ⟨vb, 0, none⟩ ⟨g, (i + 1) * 4, none⟩ 1 1 lb cb hvg 41 41 4 (cap * 4) (by unfold HoldP at hv; simp [World.shape?, hv]) (by simp [World.shape?, hg, hcs]) (by omega) hv.at.2.1 (frozen_of_row w vb 4 _ _ hv)]
    rfl
  have hw1 : IntKind.i64.wrap ((i : Int) + 1) = (i : Int) + 1 := by rw [IntKind.wrap_i64]; omega
  have hw2 : IntKind.i64.wrap ((zs.length : Int) + 1) = (zs.length : Int) + 1 := by rw [IntKind.wrap_i64]; omega
  have hz2 : ¬ ((i : Int) = (zs.length : Int)) := by omega
  have hz3 : ¬ ((cap : Int) < (zs.length : Int) + 1) := by omega
  have htn : ((i : Int) + 1).toNat = i + 1 := by omega
  have htn2 : ((zs.length : Int) + 1).toNat = zs.length + 1 := by omega
  have hb2 : ¬ (cap = i + 1) := by omega
  have hb4 : ¬ (cap = i) := by omega
  have hb1 : (0 : Int) ≤ (i : Int) + 1 := by omega
  have hb3 : (i : Int) + 1 ≤ (zs.length : Int) + 1 := by omega
  have hb5 : (i : Int) ≤ (zs.length : Int) + 1 := by omega
  have mixed : Tryd.prog.follows .mixedOrders = true := by kernel_rfl
  have hcell : ∀ j u, ((zs.drop i).flatMap cellsP)[j]? = some u → w.cell? ((⟨g, i * 4, none⟩ : Addr).add j) = some u := fun j u hu => by
    have e : (⟨g, i * 4, none⟩ : Addr).add j = ⟨g, i * 4 + j, none⟩ := by unfold Addr.add; split <;> simp_all
    have hj : j < ((zs.drop i).flatMap cellsP).length := by
      rcases Nat.lt_or_ge j (((zs.drop i).flatMap cellsP).length) with h1 | h1
      · exact h1
      · rw [List.getElem?_eq_none h1] at hu; cases hu
    rw [e, cell_of_row w g _ _ _ (0, 0) hg, hcurA, List.getElem?_toArray, List.getElem?_append_right (by omega), hk1, Nat.add_sub_cancel_left, List.getElem?_append_left hj]
    exact hu
  obtain ⟨L1, hL1⟩ : ∃ L, (zs.take i).flatMap cellsP = L := ⟨_, rfl⟩
  obtain ⟨L2, hL2⟩ : ∃ L, (zs.drop i).flatMap cellsP = L := ⟨_, rfl⟩
  have h1c : ∀ v ∈ L2, v.oneCell' = true := by rw [← hL2]; exact cellsP_one _
  have hfin : (zs.take i ++ z :: zs.drop i).flatMap cellsP = L1 ++ (cellsP z ++ L2) := by rw [cellsP_ins, hL1, hL2]
  rw [hL1] at hcurA hk1
  rw [hL2] at hcurA hk2 hcell
  have hgL : w.heap[g]? = some (.cells (L1 ++ (L2 ++ X)).toArray 41 (0, 0)) := by rw [← hcurA]; exact hg
  have hmin : Nat.min (zs.length + 1 - i) (zs.length + 1 - (i + 1)) = zs.length - i := by show min _ _ = _; omega
  have HG := Lib.hid hgL
  have HC := Lib.hid hcell
  have H1 := Lib.hid h1c
  have HF := Lib.hid hfin
  have HV := Lib.hid hv
  have HK1 := Lib.hid hk1
  have HK2 := Lib.hid hk2
  have HXl := Lib.hid hXl
  have HMn := Lib.hid hmin
  clear hX hcurA htk h hfl hcell hgL hg hcs hL1 hL2 h1c hfin hv hk1 hk2 hXl hmin
  go_enter Tryd.func54, Tryd.ntmps54
  go_wp2_with (simp only [hov])
  go_region_law_o (refine step_copy4 rfl _ _ 22 22 rfl Tryd.underlying22 g ((i + 1) * 4) (zs.length + 1 - (i + 1)) (cap - (i + 1)) ⟨g, i * 4, none⟩ (zs.length + 1 - i) (cap - i) (by simp [Act.eval, Act.put]) (by simp [Act.eval, Act.put]) (L1 ++ (L2 ++ X)) 41 HG.out L2 (by rw [HMn.out, HK2.out]) HC.out (by have := HK1.out; have := HK2.out; have := HXl.out; simp only [List.length_append]; omega) H1.out B w ((Below.refl B w).drew) hBg ?_; intro w2 hg2 hbw2 ho2)
  have hv2 := HV.out.block (ho2.out vb hvg)
  have HV2 := Lib.hid hv2
  clear hv2
  have hsl : (splice (L1 ++ (L2 ++ X)) ((i + 1) * 4) L2).length = (L1 ++ (L2 ++ X)).length := length_splice _ _ _ (by have := HK1.out; have := HK2.out; have := HXl.out; simp only [List.length_append]; omega)
  have hfit2 : i * 4 + (cellsP z).length ≤ (splice (L1 ++ (L2 ++ X)) ((i + 1) * 4) L2).length := by
    rw [hsl]
    have := HK1.out
    have := HK2.out
    have := HXl.out
    simp only [List.length_append, cellsP, List.length_cons, List.length_nil]
    omega
  have HFt := Lib.hid hfit2
  have hmin2 : Nat.min 1 (zs.length + 1 - i) = 1 := by show min _ _ = _; omega
  have HMn2 := Lib.hid hmin2
  have hsp : splice (splice (L1 ++ (L2 ++ X)) ((i + 1) * 4) L2) (i * 4) (cellsP z) = L1 ++ (cellsP z ++ (L2 ++ X.drop 4)) := by
    have := splice_ins L1 L2 (cellsP z) X 4 rfl (by have := HXl.out; omega) (i * 4) HK1.out
    rw [show (i + 1) * 4 = i * 4 + 4 from by omega]
    exact this
  have HSp := Lib.hid hsp
  clear hsl hfit2 hmin2 hsp
  have hcp := fun ty => run_copy4 w2 22 22 ty Tryd.underlying22 g (i * 4) (zs.length + 1 - i) (cap - i) ⟨vb, 0, none⟩ 1 1 (splice (L1 ++ (L2 ++ X)) ((i + 1) * 4) L2) 41 (cellsP z) hg2.out (by rw [HMn2.out]; rfl) HV2.out.cells HFt.out (cellsP_z z)
  rw [HMn2.out, HSp.out] at hcp
  have hg3 := setRow_heap w2 g _ (L1 ++ (cellsP z ++ (L2 ++ X.drop 4))).toArray _ _ hg2.out
  have hbw3 := below_setRow hbw2 hBg (L1 ++ (cellsP z ++ (L2 ++ X.drop 4))).toArray
  obtain ⟨w3, hw3⟩ : ∃ w3, w2.setRow g (L1 ++ (cellsP z ++ (L2 ++ X.drop 4))).toArray = w3 := ⟨_, rfl⟩
  rw [hw3] at hcp hg3 hbw3
  have HG3 := Lib.hid hg3
  clear hw3 hg3
  go_wp2_with fail
  go_ret
  have hlen := ins_len zs i z (by omega)
  refine ⟨_, rfl, ?_, hbw3⟩
  unfold PRow
  rw [HF.out, hlen]
  have h3 := HG3.out
  have k1 := HK1.out
  have k2 := HK2.out
  have kx := HXl.out
  refine ⟨by simp only [List.length_append, cellsP, List.length_cons, List.length_nil]; omega, .inr ⟨g, cap, _, rfl, hBg, h3, hroom, hcm, ?_, ?_⟩⟩
  · simp only [List.size_toArray, List.length_append, List.length_drop, cellsP, List.length_cons, List.length_nil]
    omega
  · show (L1 ++ (cellsP z ++ (L2 ++ X.drop 4))).take ((zs.length + 1) * 4) = _
    have e : (zs.length + 1) * 4 = (L1 ++ (cellsP z ++ L2)).length := by simp only [List.length_append, cellsP, List.length_cons, List.length_nil]; omega
    rw [e, show L1 ++ (cellsP z ++ (L2 ++ X.drop 4)) = (L1 ++ (cellsP z ++ L2)) ++ X.drop 4 from by simp only [List.append_assoc], take_lenL]

set_option maxHeartbeats 4000000 in
set_option maxRecDepth 100000 in
theorem insert_grow (g cap i : Nat) (zs : List Prop4) (z : Prop4) (B vb : Nat) (w : World) (h : PRow w B (.slice (some ⟨g, 0, none⟩) zs.length cap) zs.length zs) (hv : HoldP w vb z) (hvg : vb ≠ g) (hB : B ≤ w.heap.size) (hl : zs.length ≤ 1000000)
    (hi : i < zs.length) (hroom : cap < zs.length + 1) :
    Calls Tryd.prog 54 #[.slice (some ⟨g, 0, none⟩) zs.length cap, .int .i64 (i : Nat), .slice (some ⟨vb, 0, none⟩) 1 1] w (RowOut w B (zs.take i ++ z :: zs.drop i)) := by
  have h0 := h
  unfold PRow at h0
  obtain ⟨hfl, h1⟩ := h0
  rcases h1 with ⟨hx, _⟩ | ⟨g', cap', cur, hx, hBg, hg, hnc, hcm, hcs, htk⟩
  · simp at hx
  simp only [Value.slice.injEq, Option.some.injEq, Addr.mk.injEq, and_true, true_and] at hx
  obtain ⟨rfl, rfl⟩ := hx
  obtain ⟨X, hX⟩ : ∃ X, cur.toList = (zs.take i).flatMap cellsP ++ ((zs.drop i).flatMap cellsP ++ X) := ⟨cur.toList.drop (zs.length * 4), by rw [← List.append_assoc, cellsP_cut, ← htk, List.take_append_drop]⟩
  have hcurA : cur = ((zs.take i).flatMap cellsP ++ ((zs.drop i).flatMap cellsP ++ X)).toArray := by rw [← hX]
  have hk1 : ((zs.take i).flatMap cellsP).length = i * 4 := by rw [cellsP_len, List.length_take, Nat.min_eq_left (by omega)]
  have hk2 : ((zs.drop i).flatMap cellsP).length = (zs.length - i) * 4 := by rw [cellsP_len, List.length_drop]
  have hXl : X.length = (cap - zs.length) * 4 := by
    have := congrArg List.length hX
    rw [List.length_append, List.length_append, hk1, hk2, Array.length_toList, hcs] at this
    omega
  have hcell : ∀ j u, ((zs.drop i).flatMap cellsP)[j]? = some u → w.cell? ((⟨g, i * 4, none⟩ : Addr).add j) = some u := fun j u hu => by
    have e : (⟨g, i * 4, none⟩ : Addr).add j = ⟨g, i * 4 + j, none⟩ := by unfold Addr.add; split <;> simp_all
    have hj : j < ((zs.drop i).flatMap cellsP).length := by
      rcases Nat.lt_or_ge j (((zs.drop i).flatMap cellsP).length) with h1 | h1
      · exact h1
      · rw [List.getElem?_eq_none h1] at hu; cases hu
    rw [e, cell_of_row w g _ _ _ (0, 0) hg, hcurA, List.getElem?_toArray, List.getElem?_append_right (by omega), hk1, Nat.add_sub_cancel_left, List.getElem?_append_left hj]
    exact hu
  have hcell0 : ∀ j u, ((zs.take i).flatMap cellsP)[j]? = some u → w.cell? ((⟨g, 0, none⟩ : Addr).add j) = some u := fun j u hu => by
    have e : (⟨g, 0, none⟩ : Addr).add j = ⟨g, j, none⟩ := by unfold Addr.add; split <;> simp_all
    have hj : j < ((zs.take i).flatMap cellsP).length := by
      rcases Nat.lt_or_ge j (((zs.take i).flatMap cellsP).length) with h1 | h1
      · exact h1
      · rw [List.getElem?_eq_none h1] at hu; cases hu
    rw [e, cell_of_row w g _ _ _ (0, 0) hg, hcurA, List.getElem?_toArray, List.getElem?_append_left hj]
    exact hu
  obtain ⟨L1, hL1⟩ : ∃ L, (zs.take i).flatMap cellsP = L := ⟨_, rfl⟩
  obtain ⟨L2, hL2⟩ : ∃ L, (zs.drop i).flatMap cellsP = L := ⟨_, rfl⟩
  have h1c : ∀ v ∈ L2, v.oneCell' = true := by rw [← hL2]; exact cellsP_one _
  have hfin : (zs.take i ++ z :: zs.drop i).flatMap cellsP = L1 ++ (cellsP z ++ L2) := by rw [cellsP_ins, hL1, hL2]
  rw [hL1] at hk1 hcell0
  rw [hL2] at hk2 hcell
  obtain ⟨i0, hi0, hz0, hz1, hz2⟩ := info_parts prop_info
  have hgs : g < w.heap.size := (Array.getElem?_eq_some_iff.1 hg).1
  have hvs : vb < w.heap.size := hv.lt
  have hold : (Builtin.firstCells i0.size i (.slice (some ⟨g, 0, none⟩) i cap)).run Tryd.prog w.drew = .ok L1.toArray w.drew := by
    rw [hz1]
    exact run_firstCells_some w.drew 4 i ⟨g, 0, none⟩ i cap L1 hk1 hcell0
  have hik : i + (zs.length + 1 - i) = zs.length + 1 := by omega
  have hkk : (zs.length : Int) + 1 - (i : Int) = ((zs.length + 1 - i : Nat) : Int) := by omega
  obtain ⟨G, hG⟩ : ∃ G, G = grownCap w (zs.length + 1) cap 41 := ⟨_, rfl⟩
  obtain ⟨Z, hZ⟩ : ∃ Z : List Value, Z = (Builtin.zeroCells (Value.agg #[.string ⟨#[]⟩, .int .i64 0, .int .i64 0, .string ⟨#[]⟩]).cells (zs.length + 1 - i)).toList ++ (Builtin.zeroCells (Value.agg #[.string ⟨#[]⟩, .int .i64 0, .int .i64 0, .string ⟨#[]⟩]).cells (G - (zs.length + 1))).toList := ⟨_, rfl⟩
  have hGn : zs.length + 1 ≤ G := by rw [hG]; exact grownCap_ge w _ _ _
  have hG63 : G ≤ maxLen := by rw [hG]; exact grownCap_le_maxLen w _ _ _ (by unfold maxLen; omega)
  have hG64 : G ≤ 9223372036854775807 := by unfold maxLen at hG63; omega
  have hZl : Z.length = (G - i) * 4 := by
    have zl : ∀ (c : Array Value) (n : Nat), (Builtin.zeroCells c n).toList.length = n * c.size := fun c n => by rw [Array.length_toList, size_zeroCells]
    rw [hZ, List.length_append, zl, zl]
    have e : (Value.agg #[.string ⟨#[]⟩, .int .i64 0, .int .i64 0, .string ⟨#[]⟩]).cells.size = 4 := rfl
    rw [e]
    omega
  have hrz : ∀ ty, (Builtin.append_ #[22, 3] ty #[.slice (some ⟨g, 0, none⟩) i cap, .int .i64 ((zs.length : Int) + 1 - (i : Int))]).run Tryd.prog w =
      .ok (.slice (some ⟨w.heap.size, 0, none⟩) (zs.length + 1) G) (w.drew.alloc (.cells (L1 ++ Z).toArray 41)) := fun ty => by
    have h := Lib.run_append_grow_zeros (P := Tryd.prog) w 22 3 ty 41 i0 _ .i64 .i64 Tryd.underlying22 Tryd.underlying3 hi0 hz0 (some ⟨g, 0, none⟩) i cap L1 hold (zs.length + 1 - i) (by omega) (by omega) (by omega) (by omega) (by rw [hz2]; omega) (by rw [hz2, hik]; exact growslice_fits hroom (by omega))
    rw [hik, ← hG] at h
    rw [hkk, h, hZ]
    congr 2
    simp
  obtain ⟨W1, hW1⟩ : ∃ W1, W1 = w.drew.alloc (.cells (L1 ++ Z).toArray 41) := ⟨_, rfl⟩
  have hg1 : W1.heap[w.heap.size]? = some (.cells (L1 ++ Z).toArray 41 (0, 0)) := by rw [hW1]; exact heap_alloc_new w.drew _
  have hold1 : ∀ k, k < w.heap.size → W1.heap[k]? = w.heap[k]? := fun k hk => by rw [hW1]; exact Lib.alloc_old w.drew _ k hk
  have hbw1 : Below B w W1 := by rw [hW1]; exact (Below.refl B w).drew.alloc hB _
  rw [← hW1] at hrz
  clear hW1
  have hmin2 : Nat.min 1 (zs.length + 1 - i) = 1 := by show min _ _ = _; omega
  have hcpA := fun ty => run_copy4 W1 22 22 ty Tryd.underlying22 w.heap.size (i * 4) (zs.length + 1 - i) (G - i) ⟨vb, 0, none⟩ 1 1 (L1 ++ Z) 41 (cellsP z) hg1 (by rw [hmin2]; rfl) (hv.block (hold1 vb hvs)).cells (by simp only [List.length_append, cellsP, List.length_cons, List.length_nil]; omega) (cellsP_z z)
  rw [hmin2] at hcpA
  have hg2 := setRow_heap W1 w.heap.size _ (splice (L1 ++ Z) (i * 4) (cellsP z)).toArray _ _ hg1
  have hold2 : ∀ k, k < w.heap.size → (W1.setRow w.heap.size (splice (L1 ++ Z) (i * 4) (cellsP z)).toArray).heap[k]? = w.heap[k]? := fun k hk => (setRow_other W1 _ k _ (by omega)).trans (hold1 k hk)
  have hbw2 := below_setRow hbw1 hB (splice (L1 ++ Z) (i * 4) (cellsP z)).toArray
  obtain ⟨W2, hW2⟩ : ∃ W2, W1.setRow w.heap.size (splice (L1 ++ Z) (i * 4) (cellsP z)).toArray = W2 := ⟨_, rfl⟩
  rw [hW2] at hcpA hg2 hold2 hbw2
  clear hW2
  have hcell2 : ∀ j u, L2[j]? = some u → W2.cell? ((⟨g, i * 4, none⟩ : Addr).add j) = some u := fun j u hu => by
    have h := hcell j u hu
    rwa [World.cell?_of_block (hold2 ((⟨g, i * 4, none⟩ : Addr).add j).block (by rw [add_block]; exact hgs))]
  have hsl : (splice (L1 ++ Z) (i * 4) (cellsP z)).length = (L1 ++ Z).length := length_splice _ _ _ (by simp only [List.length_append, cellsP, List.length_cons, List.length_nil]; omega)
  have hfit2 : (i + 1) * 4 + L2.length ≤ (splice (L1 ++ Z) (i * 4) (cellsP z)).length := by rw [hsl, List.length_append]; omega
  have hmin : Nat.min (zs.length - i) (zs.length + 1 - (i + 1)) = zs.length - i := by show min _ _ = _; omega
  have hsp : splice (splice (L1 ++ Z) (i * 4) (cellsP z)) ((i + 1) * 4) L2 = L1 ++ (cellsP z ++ (L2 ++ Z.drop (4 + L2.length))) := by
    have := splice_grow L1 L2 (cellsP z) Z 4 rfl (i * 4) hk1 (by omega)
    rw [show (i + 1) * 4 = i * 4 + 4 from by omega]
    exact this
  have hw1 : IntKind.i64.wrap ((i : Int) + 1) = (i : Int) + 1 := by rw [IntKind.wrap_i64]; omega
  have hw2 : IntKind.i64.wrap ((zs.length : Int) + 1) = (zs.length : Int) + 1 := by rw [IntKind.wrap_i64]; omega
  have hw3 : IntKind.i64.wrap ((zs.length : Int) + 1 - (i : Int)) = (zs.length : Int) + 1 - (i : Int) := by rw [IntKind.wrap_i64]; omega
  have hz2' : ¬ ((i : Int) = (zs.length : Int)) := by omega
  have hz3 : (cap : Int) < (zs.length : Int) + 1 := by omega
  have htn : ((i : Int) + 1).toNat = i + 1 := by omega
  have htn2 : ((zs.length : Int) + 1).toNat = zs.length + 1 := by omega
  have hb2 : ¬ (G = i + 1) := by omega
  have hb4 : ¬ (G = i) := by omega
  have hb6 : ¬ (cap = i) := by omega
  have hb1 : (0 : Int) ≤ (i : Int) + 1 := by omega
  have hb3 : (i : Int) + 1 ≤ (zs.length : Int) + 1 := by omega
  have hb5 : (i : Int) ≤ (zs.length : Int) + 1 := by omega
  have hb7 : (i : Int) ≤ (zs.length : Int) := by omega
  have mixed : Tryd.prog.follows .mixedOrders = true := by kernel_rfl
  have HG2 := Lib.hid hg2
  have HC2 := Lib.hid hcell2
  have H1 := Lib.hid h1c
  have HF := Lib.hid hfin
  have HFt := Lib.hid hfit2
  have HK1 := Lib.hid hk1
  have HK2 := Lib.hid hk2
  have HZl := Lib.hid hZl
  have HMn := Lib.hid hmin
  have HSp := Lib.hid hsp
  clear hX hcurA htk h hfl hcell hcell0 hg hcs hL1 hL2 h1c hfin hv hk1 hk2 hXl hmin hg2 hcell2 hfit2 hZl hsp hsl hmin2 hold2 hold1 hg1 hZ hG hold hkk hik
  go_enter Tryd.func54, Tryd.ntmps54
  go_wp2_with (first
    | (at_builtin; refine Lib.wpList_append_run _ rfl _ _ _ _ rfl _ _ rfl rfl _ _ (hrz _) ?_)
    | simp only [hcpA])
  go_region_law_o (refine step_copy4 rfl _ _ 22 22 rfl Tryd.underlying22 w.heap.size ((i + 1) * 4) (zs.length + 1 - (i + 1)) (G - (i + 1)) ⟨g, i * 4, none⟩ (zs.length - i) (cap - i) (by simp [Act.eval, Act.put]) (by simp [Act.eval, Act.put]) (splice (L1 ++ Z) (i * 4) (cellsP z)) 41 HG2.out L2 (by rw [HMn.out, HK2.out]) HC2.out HFt.out H1.out B w hbw2.drew hB ?_; intro w3 hg3 hbw3 ho3)
  go_wp2_with fail
  go_ret
  have hlen := ins_len zs i z (by omega)
  refine ⟨_, rfl, ?_, hbw3⟩
  unfold PRow
  rw [HF.out, hlen]
  have h3 := hg3.out
  rw [HSp.out] at h3
  have k1 := HK1.out
  have k2 := HK2.out
  have kx := HZl.out
  refine ⟨by simp only [List.length_append, cellsP, List.length_cons, List.length_nil]; omega, .inr ⟨w.heap.size, G, _, rfl, hB, h3, hGn, hG63, ?_, ?_⟩⟩
  · simp only [List.size_toArray, List.length_append, List.length_drop, cellsP, List.length_cons, List.length_nil]
    omega
  · show (L1 ++ (cellsP z ++ (L2 ++ Z.drop (4 + L2.length)))).take ((zs.length + 1) * 4) = _
    have e : (zs.length + 1) * 4 = (L1 ++ (cellsP z ++ L2)).length := by simp only [List.length_append, cellsP, List.length_cons, List.length_nil]; omega
    rw [e, show L1 ++ (cellsP z ++ (L2 ++ Z.drop (4 + L2.length))) = (L1 ++ (cellsP z ++ L2)) ++ Z.drop (4 + L2.length) from by simp only [List.append_assoc], take_lenL]

theorem cmpK_neg (a b : ByteArray) : cmpK b a = - cmpK a b := cmpL_neg _ _
theorem cmpK_zero {a b : ByteArray} (h : cmpK a b = 0) : runes a.data.toList = runes b.data.toList := (cmpL_zero _ _).1 h
theorem cmpK_left {a b : ByteArray} (h : cmpK a b = 0) (c : ByteArray) : cmpK a c = cmpK b c := by unfold cmpK; rw [cmpK_zero h]
theorem cmpK_right {a b : ByteArray} (h : cmpK a b = 0) (c : ByteArray) : cmpK c a = cmpK c b := by unfold cmpK; rw [cmpK_zero h]
theorem cmpK_trans {a b c : ByteArray} (h1 : cmpK a b < 0) (h2 : cmpK b c ≤ 0) : cmpK a c < 0 := by
  have h := cmpL_trans _ _ _ (show cmpL (runes a.data.toList) (runes b.data.toList) ≤ 0 from Int.le_of_lt h1) h2
  have h' : cmpK a c ≤ 0 := h
  rcases Int.lt_or_eq_of_le h' with h3 | h3
  · exact h3
  · have e := cmpK_left h3 b
    have n := cmpK_neg b c
    omega
theorem cmpK_trans' {a b c : ByteArray} (h1 : cmpK a b ≤ 0) (h2 : cmpK b c < 0) : cmpK a c < 0 := by
  have h := cmpL_trans _ _ _ (show cmpL (runes a.data.toList) (runes b.data.toList) ≤ 0 from h1) (Int.le_of_lt h2)
  have h' : cmpK a c ≤ 0 := h
  rcases Int.lt_or_eq_of_le h' with h3 | h3
  · exact h3
  · have e := cmpK_left h3 b
    have n := cmpK_neg b c
    have n2 := cmpK_neg a b
    have e2 := cmpK_right h3 b
    omega
def Asc (zs : List Prop4) : Prop := zs.Pairwise (fun a b => cmpK a.1 b.1 < 0)
theorem rightFrom_iff : ∀ (zs : List Prop4) (p : Option ByteArray), rightFrom p zs = true ↔ (∀ z ∈ zs, nameK z = true ∧ okK z = true) ∧ Asc zs ∧ (∀ q, p = some q → ∀ z ∈ zs, cmpK q z.1 < 0)
  | [], p => by simp [rightFrom, Asc]
  | z :: r, p => by
    unfold rightFrom
    rw [Bool.and_eq_true, Bool.and_eq_true, Bool.and_eq_true, rightFrom_iff r (some z.1)]
    unfold Asc
    rw [List.pairwise_cons]
    constructor
    · rintro ⟨h1, h2, h3, h4, h5, h6⟩
      have h7 := h6 z.1 rfl
      refine ⟨fun y hy => ?_, ⟨h7, h5⟩, fun q hq y hy => ?_⟩
      · rcases List.mem_cons.1 hy with rfl | hy
        · exact ⟨h1, h2⟩
        · exact h4 y hy
      · subst hq
        have h8 : cmpK q z.1 < 0 := by simpa [aboveK] using h3
        rcases List.mem_cons.1 hy with rfl | hy
        · exact h8
        · exact cmpK_trans h8 (Int.le_of_lt (h7 y hy))
    · rintro ⟨h1, ⟨h2, h3⟩, h4⟩
      refine ⟨(h1 z List.mem_cons_self).1, (h1 z List.mem_cons_self).2, ?_, fun y hy => h1 y (List.mem_cons_of_mem _ hy), h3, fun q hq y hy => by injection hq with hq; subst hq; exact h2 y hy⟩
      cases p with
      | none => rfl
      | some q => exact decide_eq_true (h4 q rfl z List.mem_cons_self)
theorem rightP_iff (zs : List Prop4) : rightP zs = true ↔ zs.length ≤ 16 ∧ (∀ z ∈ zs, nameK z = true ∧ okK z = true) ∧ Asc zs := by
  unfold rightP
  rw [Bool.and_eq_true, decide_eq_true_iff, rightFrom_iff]
  constructor
  · rintro ⟨h1, h2, h3, _⟩; exact ⟨h1, h2, h3⟩
  · rintro ⟨h1, h2, h3⟩; exact ⟨h1, h2, h3, fun q hq => by cases hq⟩
theorem Asc.lt {zs : List Prop4} (h : Asc zs) {a b : Nat} (hab : a < b) (hb : b < zs.length) : cmpK (zs.getD a Prop4.no).1 (zs.getD b Prop4.no).1 < 0 := by
  rw [List.getD_eq_getElem?_getD, List.getD_eq_getElem?_getD, List.getElem?_eq_getElem (show a < zs.length by omega), List.getElem?_eq_getElem hb]
  exact List.pairwise_iff_getElem.1 h a b _ _ hab
theorem Asc.level {zs : List Prop4} (h : Asc zs) (key : ByteArray) : level zs key := by
  intro a b hab hb hc
  rcases Nat.lt_or_eq_of_le hab with h1 | rfl
  · exact cmpK_trans (h.lt h1 hb) (Int.le_of_lt hc)
  · exact hc
theorem putFrom_true : ∀ (zs : List Prop4) (p : Prop4), (∀ z ∈ zs, cmpK z.1 p.1 ≠ 0) → putFrom true zs p = zs
  | [], p, _ => rfl
  | z :: r, p, h => by
    unfold putFrom
    rw [if_neg (fun h => by cases h.2), if_neg (h z List.mem_cons_self), Bool.true_or, putFrom_true r p (fun y hy => h y (List.mem_cons_of_mem _ hy))]
    rfl
/-- Where one belongs in a list in order. -/
theorem putFrom_at : ∀ (zs : List Prop4) (p : Prop4) (i : Nat), Asc zs → i ≤ zs.length → before zs p.1 i → behind zs p.1 i →
    (i < zs.length ∧ cmpK (zs.getD i Prop4.no).1 p.1 = 0 → putFrom false zs p = zs.set i p) ∧ (¬ (i < zs.length ∧ cmpK (zs.getD i Prop4.no).1 p.1 = 0) → putFrom false zs p = zs.take i ++ p :: zs.drop i)
  | [], p, i, _, hi, _, _ => by
    have h0 : i = 0 := by simpa using hi
    subst h0
    exact ⟨fun h => absurd h.1 (by simp), fun _ => rfl⟩
  | z :: r, p, 0, ha, _, _, hb => by
    have h0 : 0 ≤ cmpK z.1 p.1 := hb 0 (Nat.le_refl _) (by simp)
    have hr : ∀ y ∈ r, cmpK y.1 p.1 ≠ 0 := fun y hy e => by
      have h1 := (List.pairwise_cons.1 ha).1 y hy
      rw [cmpK_right e] at h1
      omega
    have e : putFrom false (z :: r) p = [p] ++ ((if cmpK z.1 p.1 = 0 then [] else [z]) ++ r) := by
      unfold putFrom
      rw [if_pos ⟨h0, rfl⟩, decide_eq_true h0, Bool.false_or, putFrom_true r p hr]
    rw [e]
    constructor
    · rintro ⟨_, hc⟩
      have hc' : cmpK z.1 p.1 = 0 := hc
      rw [if_pos hc']
      rfl
    · intro hc
      have hc' : cmpK z.1 p.1 ≠ 0 := fun h => hc ⟨by simp, h⟩
      rw [if_neg hc']
      rfl
  | z :: r, p, i + 1, ha, hi, hbe, hb => by
    have h0 : cmpK z.1 p.1 < 0 := hbe 0 (by omega) (by simp)
    have ih := putFrom_at r p i (List.pairwise_cons.1 ha).2 (by simpa using hi) (fun k h1 h2 => hbe (k + 1) (by omega) (by simpa using h2)) (fun k h1 h2 => hb (k + 1) (by omega) (by simpa using h2))
    have e : putFrom false (z :: r) p = z :: putFrom false r p := by
      rw [show putFrom false (z :: r) p = (if 0 ≤ cmpK z.1 p.1 ∧ false = false then [p] else []) ++ ((if cmpK z.1 p.1 = 0 then [] else [z]) ++ putFrom (false || decide (0 ≤ cmpK z.1 p.1)) r p) from rfl]
      rw [if_neg (fun h => by omega), if_neg (by omega), decide_eq_false (by omega)]
      rfl
    have g : (z :: r).getD (i + 1) Prop4.no = r.getD i Prop4.no := by simp
    rw [e, g]
    constructor
    · rintro ⟨h1, h2⟩
      rw [ih.1 ⟨by simpa using h1, h2⟩]
      rfl
    · intro h
      rw [ih.2 (fun h' => h ⟨by simpa using h'.1, h'.2⟩)]
      rfl
theorem putFrom_left : ∀ (zs : List Prop4) (p : Prop4) (d : Bool), Asc zs → (∀ z ∈ putFrom d zs p, z = p ∨ z ∈ zs) := fun zs p d _ z hz => (putFrom_mem zs d p z hz).symm
/-- One put into a list in order leaves a list in order. -/
theorem putFrom_asc : ∀ (zs : List Prop4) (p : Prop4), Asc zs → Asc (putFrom false zs p) ∧ (∀ q : ByteArray, cmpK q p.1 < 0 → (∀ z ∈ zs, cmpK q z.1 < 0) → ∀ z ∈ putFrom false zs p, cmpK q z.1 < 0)
  | [], p, _ => by
    refine ⟨List.pairwise_singleton _ _, fun q h1 _ z hz => ?_⟩
    have : z = p := by simpa [putFrom] using hz
    rw [this]; exact h1
  | z :: r, p, ha => by
    have ih := putFrom_asc r p (List.pairwise_cons.1 ha).2
    have hz := (List.pairwise_cons.1 ha).1
    refine ⟨?_, fun q h1 h2 y hy => ?_⟩
    · by_cases h0 : 0 ≤ cmpK z.1 p.1
      · have hr : ∀ y ∈ r, cmpK y.1 p.1 ≠ 0 := fun y hy e => by
          have h1 := hz y hy
          rw [cmpK_right e] at h1
          omega
        have e : putFrom false (z :: r) p = [p] ++ ((if cmpK z.1 p.1 = 0 then [] else [z]) ++ r) := by
          unfold putFrom
          rw [if_pos ⟨h0, rfl⟩, decide_eq_true h0, Bool.false_or, putFrom_true r p hr]
        have hp : cmpK p.1 z.1 ≤ 0 := by have := cmpK_neg z.1 p.1; omega
        have hpr : ∀ y ∈ r, cmpK p.1 y.1 < 0 := fun y hy => cmpK_trans' hp (hz y hy)
        rw [e]
        by_cases hc : cmpK z.1 p.1 = 0
        · rw [if_pos hc]
          exact List.pairwise_cons.2 ⟨hpr, (List.pairwise_cons.1 ha).2⟩
        · rw [if_neg hc]
          refine List.pairwise_cons.2 ⟨fun y hy => ?_, ha⟩
          rcases List.mem_cons.1 hy with rfl | hy
          · have := cmpK_neg y.1 p.1; omega
          · exact hpr y hy
      · have e : putFrom false (z :: r) p = z :: putFrom false r p := by
          rw [show putFrom false (z :: r) p = (if 0 ≤ cmpK z.1 p.1 ∧ false = false then [p] else []) ++ ((if cmpK z.1 p.1 = 0 then [] else [z]) ++ putFrom (false || decide (0 ≤ cmpK z.1 p.1)) r p) from rfl]
          rw [if_neg (fun h => by omega), if_neg (by omega), decide_eq_false (by omega)]
          rfl
        rw [e]
        exact List.pairwise_cons.2 ⟨ih.2 z.1 (by omega) hz, ih.1⟩
    · rcases putFrom_mem _ _ _ _ hy with h | h
      · exact h2 y h
      · rw [h]; exact h1

theorem insert_any (v : Value) (i : Nat) (zs : List Prop4) (z : Prop4) (B vb : Nat) (w : World) (h : PRow w B v zs.length zs) (hv : HoldP w vb z) (hvg : ∀ g, v.ownBlock = some g → vb ≠ g) (hB : B ≤ w.heap.size) (hl : zs.length ≤ 1000000) (hi : i ≤ zs.length) :
    Calls Tryd.prog 54 #[v, .int .i64 (i : Nat), .slice (some ⟨vb, 0, none⟩) 1 1] w (RowOut w B (zs.take i ++ z :: zs.drop i)) := by
  by_cases he : i = zs.length
  · subst he
    have := insert_end v zs z B vb w h hv hB hl
    rwa [List.take_of_length_le (Nat.le_refl _), List.drop_eq_nil_of_le (Nat.le_refl _)]
  · rcases h.forms with ⟨rfl, rfl⟩ | ⟨g, cap, rfl, hBg, hgs, hcap⟩
    · exact absurd (by simpa using hi) he
    · by_cases hr : zs.length + 1 ≤ cap
      · have hc : cap ≤ 9223372036854775807 := by
          have h0 := h
          unfold PRow at h0
          rcases h0.2 with ⟨hx, _⟩ | ⟨g', cap', cur, hx, _, _, _, hcm, _⟩
          · cases hx
          · simp only [Value.slice.injEq, Option.some.injEq, Addr.mk.injEq, and_true, true_and] at hx
            obtain ⟨rfl, rfl⟩ := hx
            unfold maxLen at hcm
            omega
        exact insert_shift g cap i zs z B vb w h hv (hvg g rfl) hB hl (by omega) hr hc
      · exact insert_grow g cap i zs z B vb w h hv (hvg g rfl) hB hl (by omega) (by omega)

set_option maxHeartbeats 4000000 in
set_option maxRecDepth 100000 in
theorem putC_any (v : Value) (zs : List Prop4) (a : ByteArray) (k n : Int) (s : ByteArray) (B : Nat) (w : World) (h : PRow w B v zs.length zs) (hB : B ≤ w.heap.size) (hl : zs.length ≤ 1000000) (hz : ∀ z ∈ zs, z.1.size ≤ 1000000) (ha : a.size ≤ 1000000) (hT : Tabs w) (hasc : Asc zs) :
    Calls Tryd.prog 29 #[v, .agg #[.string a, .int .i64 k, .int .i64 n, .string s]] w (RowOut w B (putFrom false zs (a, k, n, s))) := by
  obtain ⟨A, c, rfl, hcap, hA, hrd⟩ := h.rd
  have hb0 : Below w.heap.size w (w.alloc (.cells #[.string a, .int .i64 k, .int .i64 n, .string s] 41)) := (Below.refl _ _).alloc (Nat.le_refl _) _
  have hs0 : (w.alloc (.cells #[.string a, .int .i64 k, .int .i64 n, .string s] 41)).heap.size = w.heap.size + 1 := by simp
  have hH := HoldP.new w a k n s
  have HH := Lib.hid hH
  obtain ⟨⟨x0, x1, x2, x3⟩, _⟩ := hH.at
  have CS := Lib.hid (search_any A c zs a _ (hrd.below (Nat.le_refl _) hb0) hl (fun j hj => hz _ (by rw [List.getD_eq_getElem?_getD, List.getElem?_eq_getElem hj]; exact List.getElem_mem hj)) ha (Utf8Tabs_below hT hb0) (hasc.level a))
  have hrow0 := PRow.alloc' h (.cells #[.string a, .int .i64 k, .int .i64 n, .string s] 41)
  have HRow := Lib.hid hrow0
  have HAsc := Lib.hid hasc
  have HLt := Lib.hid (World.ownsRow.lt h)
  clear hH hT hrd h hrow0 hasc hz
  go_enter Tryd.func29, Tryd.ntmps29
  go_wp2_with fail
  refine CS.out.mono ?_
  rintro e w1 ⟨i, b, rfl, hi, hbe, hbh, hb, b1⟩
  have hs1 := b1.size
  rw [hs0] at hs1
  have hrow1 := PRow.below HRow.out b1 (Nat.le_refl _)
  have h1 := HH.out.below b1 (by rw [hs0]; omega)
  have hat := putFrom_at zs (a, k, n, s) i HAsc.out hi hbe hbh
  have hbw1 : Below B w w1 := (hb0.trans (b1.mono (by rw [hs0]; omega))).mono hB
  have HRow1 := Lib.hid hrow1
  have HBb := Lib.hid hb
  have HAt := Lib.hid hat
  have HH1 := Lib.hid h1
  clear x0 x1 x2 x3 hb hat hbe hbh hrow1
  obtain ⟨⟨x0, x1, x2, x3⟩, _⟩ := h1.at
  clear h1
  cases b
  · have hout : putFrom false zs (a, k, n, s) = zs.take i ++ (a, k, n, s) :: zs.drop i := HAt.out.2 (fun hc => by have := HBb.out.2 hc; cases this)
    have HO := Lib.hid hout
    have hN := HoldP.new w1 a k n s
    have CI := Lib.hid (insert_any (.slice A zs.length c) i zs (a, k, n, s) B w1.heap.size _ (PRow.alloc' HRow1.out _) hN (fun g hg => by have := HLt.out g hg; omega) (by simp; omega) hl hi)
    clear hout hN
    go_wp2_with fail
    refine CI.out.mono ?_
    rintro e w2 ⟨v2, rfl, hrow2, b2⟩
    go_wp2_with fail
    go_ret
    exact ⟨_, rfl, by rw [HO.out]; exact hrow2, (hbw1.alloc (by omega) _).trans b2⟩
  · obtain ⟨hin, hc0⟩ := HBb.out.1 rfl
    have hout : putFrom false zs (a, k, n, s) = zs.set i (a, k, n, s) := HAt.out.1 ⟨hin, hc0⟩
    have HO := Lib.hid hout
    rcases HRow1.out.forms with ⟨hx, h0⟩ | ⟨g, cap, hx, hBg, hgs, hcap2⟩
    · rw [h0] at hin; simp at hin
    · simp only [Value.slice.injEq, true_and] at hx
      obtain ⟨rfl, rfl⟩ := hx
      obtain ⟨⟨c0, c1, c2, c3⟩, f0, f1, f2, f3⟩ := HRow1.out.at hin
      have hput := PRow.put HRow1.out i (a, k, n, s)
      have HPut := Lib.hid hput
      clear hout hput hc0
      go_wp2_with fail
      go_ret
      refine ⟨_, rfl, ?_, (((hbw1.setCell (p := ⟨g, i * 4, none⟩) hBg _).setCell (p := ⟨g, i * 4 + 1, none⟩) hBg _).setCell (p := ⟨g, i * 4 + 2, none⟩) hBg _).setCell (p := ⟨g, i * 4 + 3, none⟩) hBg _⟩
      rw [HO.out, List.length_set]
      exact HPut.out

def faultP : List Prop4 → Int
  | [] => 0
  | y :: r => if nameK y then (if okK y then faultP r else 22) else 30

set_option maxHeartbeats 1000000 in
set_option maxRecDepth 100000 in
theorem firstFault_any (A : Option Addr) (c : Nat) (zs : List Prop4) (w : World) (h : RdP w A zs) (hl : zs.length ≤ 1000000) (hz : ∀ k, k < zs.length → (zs.getD k Prop4.no).1.size ≤ 1000000) :
    Calls Tryd.prog 27 #[.slice A zs.length c] w fun e w' => e = .returned (.int .i64 (faultP zs)) ∧ Below w.heap.size w w' := by
  have HRd := Lib.hid h
  have HZ := Lib.hid hz
  clear h hz
  go_enter Tryd.func27, Tryd.ntmps27
  go_wp2_with fail
  go_loopw [7] (fun i wr => ∃ k : Nat, k ≤ zs.length ∧ i = .int .i64 (k : Nat) ∧ faultP (zs.drop k) = faultP zs ∧ Below w.heap.size w wr) (fun i _ => zs.length - (intOf i).toNat)
  case atStart => exact ⟨0, Nat.zero_le _, rfl, by simp, Below.refl _ _⟩
  case round =>
    obtain ⟨k, hk, rfl, hacc, hbw⟩ := hrel
    by_cases hlt : k < zs.length
    · rw [drop_getD zs k hlt] at hacc
      have hkz := HZ.out k hlt
      obtain ⟨ad, rfl, hblk, q0, q1, q2, q3⟩ := (HRd.out.below (Nat.le_refl _) hbw).at4 hlt
      obtain ⟨z, hzk⟩ : ∃ z, zs.getD k Prop4.no = z := ⟨_, rfl⟩
      rw [hzk] at q0 q1 q2 q3 hacc hkz
      clear hzk
      obtain ⟨a, kk, n, s⟩ := z
      dsimp only at q0 q1 q2 q3 hkz
      have hst : (if nameB a = true then (if rightV kk n s = true then faultP (zs.drop (k + 1)) else 22) else 30) = faultP zs := hacc
      have HSt := Lib.hid hst
      have hb1 : Below w.heap.size w (wr.alloc (.cells #[.string a, .int .i64 kk, .int .i64 n, .string s] 41)) := hbw.alloc hbw.size _
      have hs1 : (wr.alloc (.cells #[.string a, .int .i64 kk, .int .i64 n, .string s] 41)).heap.size = wr.heap.size + 1 := by simp
      have hH := HoldP.new wr a kk n s
      have HH := Lib.hid hH
      obtain ⟨⟨x0, x1, x2, x3⟩, _⟩ := hH.at
      have cR := right_new (wr.alloc (.cells #[.string a, .int .i64 kk, .int .i64 n, .string s] 41)) a _ rfl hkz
      rw [hs1] at cR
      obtain ⟨bn, hbn⟩ : ∃ b, nameB a = b := ⟨_, rfl⟩
      obtain ⟨bv, hbv⟩ : ∃ b, rightV kk n s = b := ⟨_, rfl⟩
      rw [hbn] at cR
      have CR := Lib.hid cR
      have HBn := Lib.hid hbn
      have HBv := Lib.hid hbv
      clear hst hacc cR hbn hH
      cases bn
      · have hout : faultP zs = 30 := by rw [← HSt.out, HBn.out]; rfl
        have HO := Lib.hid hout
        clear hout
        go_wp2_with fail
        refine CR.out.mono ?_
        rintro e w1 ⟨rfl, b1⟩
        go_wp2_with fail
        go_ret
        exact ⟨ret_intV HO.out.symm, hb1.trans (b1.mono (by have := hbw.size; omega))⟩
      · go_wp2_with fail
        refine CR.out.mono ?_
        rintro e w1 ⟨rfl, b1⟩
        have hs2 := b1.size
        have hbw1 : Below w.heap.size w w1 := hb1.trans (b1.mono (by have := hbw.size; omega))
        clear x0 x1 x2 x3
        obtain ⟨⟨x0, x1, x2, x3⟩, _⟩ := (HH.out.below b1 (by omega)).at
        have cV := valRight_one kk n s w1.heap.size (w1.alloc (.cells #[.int .i64 kk, .int .i64 n, .string s] 36)) (Box.new w1 kk n s) (by simp)
        rw [hbv] at cV
        have CV := Lib.hid cV
        clear cV hbv
        cases bv
        · have hout : faultP zs = 22 := by rw [← HSt.out, HBn.out, HBv.out]; rfl
          have HO := Lib.hid hout
          clear hout
          go_wp2_with fail
          refine CV.out.mono ?_
          rintro e w2 ⟨rfl, b2⟩
          go_wp2_with fail
          go_ret
          exact ⟨ret_intV HO.out.symm, (hbw1.alloc hbw1.size _).trans (b2.mono (by simp; have := hbw1.size; omega))⟩
        · have hout : faultP (zs.drop (k + 1)) = faultP zs := by rw [← HSt.out, HBn.out, HBv.out]; rfl
          have HO := Lib.hid hout
          clear hout
          go_wp2_with fail
          refine CV.out.mono ?_
          rintro e w2 ⟨rfl, b2⟩
          go_wp2_with fail
          go_roundw
          case rel => exact ⟨k + 1, by omega, by go_num, HO.out, (hbw1.alloc hbw1.size _).trans (b2.mono (by simp; have := hbw1.size; omega))⟩
          case measure => simp [intOf]; omega
    · obtain rfl : k = zs.length := by omega
      have hout : faultP zs = 0 := by rw [← hacc, List.drop_eq_nil_of_le (Nat.le_refl _)]; rfl
      have HO := Lib.hid hout
      clear hout
      go_wp2_with fail
      go_ret
      exact ⟨ret_intV HO.out.symm, hbw⟩

theorem putFrom_ge : ∀ (zs : List Prop4) (p : Prop4), Asc zs → zs.length ≤ (putFrom false zs p).length
  | [], p, _ => Nat.zero_le _
  | z :: r, p, ha => by
    have ih := putFrom_ge r p (List.pairwise_cons.1 ha).2
    by_cases h0 : 0 ≤ cmpK z.1 p.1
    · have hr : ∀ y ∈ r, cmpK y.1 p.1 ≠ 0 := fun y hy e => by
        have h1 := (List.pairwise_cons.1 ha).1 y hy
        rw [cmpK_right e] at h1
        omega
      have e : putFrom false (z :: r) p = [p] ++ ((if cmpK z.1 p.1 = 0 then [] else [z]) ++ r) := by
        unfold putFrom
        rw [if_pos ⟨h0, rfl⟩, decide_eq_true h0, Bool.false_or, putFrom_true r p hr]
      rw [e, List.length_append, List.length_append, List.length_cons]
      simp only [List.length_cons, List.length_nil]
      omega
    · have e : putFrom false (z :: r) p = z :: putFrom false r p := by
        rw [show putFrom false (z :: r) p = (if 0 ≤ cmpK z.1 p.1 ∧ false = false then [p] else []) ++ ((if cmpK z.1 p.1 = 0 then [] else [z]) ++ putFrom (false || decide (0 ≤ cmpK z.1 p.1)) r p) from rfl]
        rw [if_neg (fun h => by omega), if_neg (by omega), decide_eq_false (by omega)]
        rfl
      rw [e, List.length_cons, List.length_cons]
      omega
theorem faultP_ok {y : Prop4} {r : List Prop4} (h : faultP (y :: r) = 0) : nameK y = true ∧ okK y = true ∧ faultP r = 0 := by
  unfold faultP at h
  by_cases h1 : nameK y = true
  · rw [if_pos h1] at h
    by_cases h2 : okK y = true
    · rw [if_pos h2] at h
      exact ⟨h1, h2, h⟩
    · rw [if_neg h2] at h; exact absurd h (by decide)
  · rw [if_neg h1] at h; exact absurd h (by decide)
theorem setFrom_bad : ∀ (ys acc : List Prop4), faultP ys ≠ 0 → setFrom acc ys = (faultP ys, [])
  | [], acc, h => absurd rfl h
  | y :: r, acc, h => by
    unfold faultP at h ⊢
    unfold setFrom
    by_cases h1 : nameK y = true
    · rw [if_pos h1] at h ⊢
      rw [if_pos h1]
      by_cases h2 : okK y = true
      · rw [if_pos h2] at h ⊢
        rw [if_pos h2]
        exact setFrom_bad r _ h
      · rw [if_neg h2, if_neg h2]
    · rw [if_neg h1, if_neg h1]
theorem setFrom_step {y : Prop4} {r acc : List Prop4} (h : faultP (y :: r) = 0) : setFrom acc (y :: r) = setFrom (putFrom false acc y) r := by
  obtain ⟨h1, h2, _⟩ := faultP_ok h
  show (if nameK y then (if okK y then setFrom (putFrom false acc y) r else (22, [])) else (30, [])) = _
  rw [if_pos h1, if_pos h2]
theorem setFrom_many : ∀ (ys acc : List Prop4), faultP ys = 0 → Asc acc → 16 < acc.length → setFrom acc ys = (32, [])
  | [], acc, _, _, h => by unfold setFrom; rw [if_neg (by omega)]
  | y :: r, acc, hf, ha, h => by
    rw [setFrom_step hf]
    exact setFrom_many r _ (faultP_ok hf).2.2 (putFrom_asc acc y ha).1 (Nat.lt_of_lt_of_le h (putFrom_ge acc y ha))

set_option maxHeartbeats 2000000 in
set_option maxRecDepth 100000 in
theorem propsSet_any (A B : Option Addr) (c d : Nat) (zs ys : List Prop4) (w : World) (h : RdP w A zs) (hA : A = none → c = 0) (g : RdP w B ys) (hc : zs.length ≤ c) (hd : ys.length ≤ d) (hl : zs.length ≤ 1000000) (hl2 : ys.length ≤ 1000)
    (hz : ∀ z ∈ zs, z.1.size ≤ 1000000 ∧ z.2.2.2.size ≤ 1000000) (hy : ∀ z ∈ ys, z.1.size ≤ 1000000 ∧ z.2.2.2.size ≤ 1000000) (hT : Tabs w) :
    Calls Tryd.prog 11 #[.slice A zs.length c, .slice B ys.length d] w (SetPost w (setP zs ys)) := by
  have HRd := Lib.hid h
  have HRe := Lib.hid g
  have HZ := Lib.hid hz
  have HY := Lib.hid hy
  have HT := Lib.hid hT
  have CR := Lib.hid (propsRight_any A c zs w h (fun k hk => (hz _ (by rw [List.getD_eq_getElem?_getD, List.getElem?_eq_getElem hk]; exact List.getElem_mem hk)).1) hl hT)
  clear h g hz hy hT
  obtain ⟨br, hbr⟩ : ∃ b, rightP zs = b := ⟨_, rfl⟩
  rw [hbr] at CR
  have HBr := Lib.hid hbr
  clear hbr
  go_enter Tryd.func11, Tryd.ntmps11
  go_wp2_with fail
  refine CR.out.mono ?_
  rintro e w1 ⟨rfl, b1⟩
  cases br
  · have hout : setP zs ys = (2, []) := by unfold setP; rw [if_neg (by rw [HBr.out]; decide)]
    have HO := Lib.hid hout
    clear hout
    go_wp2_with fail
    exact bodyPost_ret (v := .tuple #[.slice none 0 0, .int .i64 2]) (by simp [results, Tryd.results11, go_sem]) rfl ⟨_, by rw [HO.out], by rw [HO.out]; exact World.ownsRow_nil _ _ _ _, b1⟩
  · have hP : setP zs ys = setFrom zs ys := by unfold setP; rw [if_pos HBr.out]
    have HP := Lib.hid hP
    have hri := (rightP_iff zs).1 HBr.out
    have hl16 := hri.1
    have HAsc := Lib.hid hri.2.2
    have CF := Lib.hid (firstFault_any B d ys w1 (HRe.out.below (Nat.le_refl _) b1) (by omega) (fun k hk => (HY.out _ (by rw [List.getD_eq_getElem?_getD, List.getElem?_eq_getElem hk]; exact List.getElem_mem hk)).1))
    obtain ⟨f, hf⟩ : ∃ f, faultP ys = f := ⟨_, rfl⟩
    rw [hf] at CF
    have HF := Lib.hid hf
    clear hP hri hf
    by_cases hf0 : f = 0
    · subst hf0
      go_wp2_with fail
      refine CF.out.mono ?_
      rintro e w2 ⟨rfl, b2⟩
      have b12 := btV b1 b2
      have CC := Lib.hid (copies_any A c zs w2 (HRd.out.below (Nat.le_refl _) b12) hA hc hl HZ.out)
      go_wp2_with fail
      refine CC.out.mono ?_
      rintro e w3 ⟨v, rfl, hrow0, b3⟩
      have b13 := btV b12 b3
      have HRow0 := Lib.hid (hrow0.base b12.size)
      clear hrow0
      go_wp2_with fail
      go_loopw [7, 22] (fun x i wr => ∃ (acc : List Prop4) (k : Nat) (v : Value), v = x ∧ i = .int .i64 (k : Nat) ∧ k ≤ ys.length ∧ PRow wr w.heap.size v acc.length acc ∧ (∀ z ∈ acc, z.1.size ≤ 1000000) ∧ acc.length ≤ 16 ∧ Asc acc ∧ faultP (ys.drop k) = 0 ∧ setFrom acc (ys.drop k) = setFrom zs ys ∧ Below w.heap.size w wr) (fun _ i _ => ys.length - (intOf i).toNat)
      case atStart => exact ⟨zs, 0, _, rfl, rfl, Nat.zero_le _, HRow0.out, fun z hz => (HZ.out z hz).1, hl16, HAsc.out, by simpa using HF.out, by simp, b13⟩
      case round =>
        obtain ⟨acc, k, v, rfl, rfl, hk, hrow, hkeys, hal, hasc, hfk, hacc, hbw⟩ := hrel
        have HRow := Lib.hid hrow
        have HKs := Lib.hid hkeys
        have HAs := Lib.hid hasc
        clear hrow hkeys hasc
        by_cases hlt : k < ys.length
        · rw [drop_getD ys k hlt] at hacc hfk
          rw [setFrom_step hfk] at hacc
          have hfk2 := (faultP_ok hfk).2.2
          obtain ⟨ad, rfl, _, h0, h1, h2, h3⟩ := (HRe.out.below (Nat.le_refl _) hbw).at4 hlt
          have hkz := HY.out (ys.getD k Prop4.no) (by rw [List.getD_eq_getElem?_getD, List.getElem?_eq_getElem hlt]; exact List.getElem_mem hlt)
          obtain ⟨z, hz⟩ : ∃ z, ys.getD k Prop4.no = z := ⟨_, rfl⟩
          rw [hz] at h0 h1 h2 h3 hacc hkz
          clear hz hfk
          obtain ⟨a, kk, n, s⟩ := z
          dsimp only at h0 h1 h2 h3 hkz
          have HFk := Lib.hid hfk2
          have HAc := Lib.hid hacc
          clear hfk2 hacc
          have CD := Lib.hid (fun W => copied_any a kk n s W hkz.1 hkz.2)
          go_wp2_with fail
          refine (CD.out _).mono ?_
          rintro e w4 ⟨rfl, b4⟩
          have hbw4 : Below w.heap.size w w4 := (hbw.alloc hbw.size _).trans (b4.mono (by simp; have := hbw.size; omega))
          have hrow4 := PRow.below (PRow.alloc' HRow.out _) b4 (Nat.le_refl _)
          have CP := Lib.hid (putC_any v acc a kk n s w.heap.size w4 hrow4 hbw4.size (by omega) HKs.out hkz.1 (Utf8Tabs_below HT.out hbw4) HAs.out)
          have hpa := (putFrom_asc acc (a, kk, n, s) HAs.out).1
          have hpg := putFrom_ge acc (a, kk, n, s) HAs.out
          have hpm := fun z hz => putFrom_mem acc false (a, kk, n, s) z hz
          obtain ⟨nw, hnw⟩ : ∃ x, putFrom false acc (a, kk, n, s) = x := ⟨_, rfl⟩
          rw [hnw] at CP hpa hpg hpm
          have HAc2 : Hid (setFrom nw (ys.drop (k + 1)) = setFrom zs ys) := Lib.hid (by rw [← hnw]; exact HAc.out)
          have HPa := Lib.hid hpa
          have HPm := Lib.hid hpm
          clear hpa hpm hnw hrow4 HAc
          go_wp2_with fail
          refine CP.out.mono ?_
          rintro e w5 ⟨v5, rfl, hrow5, b5⟩
          have hbw5 : Below w.heap.size w w5 := hbw4.trans b5
          have HRow5 := Lib.hid hrow5
          obtain ⟨A5, c5, rfl, _⟩ := hrow5.rd
          clear hrow5
          by_cases hm : nw.length ≤ 16
          · have hm2 : ¬ ((16 : Int) < (nw.length : Int)) := by omega
            go_wp2_with fail
            go_roundw
            case rel =>
              refine ⟨nw, k + 1, .slice A5 nw.length c5, rfl, by go_num, by omega, HRow5.out, ?_, hm, HPa.out, HFk.out, HAc2.out, hbw5⟩
              intro z hz
              rcases HPm.out z hz with hz | hz
              · exact HKs.out z hz
              · rw [hz]; exact hkz.1
            case measure => simp [intOf]; omega
          · have hm2 : (16 : Int) < (nw.length : Int) := by omega
            have hout : setP zs ys = (32, []) := by rw [HP.out, ← HAc2.out]; exact setFrom_many _ _ HFk.out HPa.out (by omega)
            have HO := Lib.hid hout
            clear hout
            go_wp2_with fail
            exact bodyPost_ret (v := .tuple #[.slice none 0 0, .int .i64 32]) (by simp [results, Tryd.results11, go_sem]) rfl ⟨_, by rw [HO.out], by rw [HO.out]; exact World.ownsRow_nil _ _ _ _, hbw5⟩
        · obtain rfl : k = ys.length := by omega
          rw [List.drop_eq_nil_of_le (Nat.le_refl _)] at hacc
          have hout : setP zs ys = (0, acc) := by rw [HP.out, ← hacc]; unfold setFrom; rw [if_pos hal]
          have HO := Lib.hid hout
          obtain ⟨A', c', rfl, _⟩ := HRow.out.rd
          clear hout hacc
          go_wp2_with fail
          exact bodyPost_ret (v := .tuple #[.slice A' acc.length c', .int .i64 0]) (by simp [results, Tryd.results11, go_sem]) rfl ⟨_, by rw [HO.out], by rw [HO.out]; exact HRow.out, hbw⟩
    · have hout : setP zs ys = (f, []) := by rw [HP.out, setFrom_bad ys zs (by rw [HF.out]; exact hf0), HF.out]
      have HO := Lib.hid hout
      have hf1 : (f != 0) = true := by simpa using hf0
      clear hout
      go_wp2_with fail
      refine CF.out.mono ?_
      rintro e w2 ⟨rfl, b2⟩
      go_wp2_with fail
      exact bodyPost_ret (v := .tuple #[.slice none 0 0, .int .i64 f]) (by simp [results, Tryd.results11, go_sem]) rfl ⟨_, by rw [HO.out], by rw [HO.out]; exact World.ownsRow_nil _ _ _ _, btV b1 b2⟩
end Go.Proofs.YtgacphpkgaobkaaDoor
