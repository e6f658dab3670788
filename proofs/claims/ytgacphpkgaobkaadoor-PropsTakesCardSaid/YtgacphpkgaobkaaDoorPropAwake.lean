/- The document's examples for lists of properties. -/
import Derived.Test.YtgacphpkgaobkaaDoorPropBytesC
import Derived.Test.YtgacphpkgaobkaaDoorValTaken
set_option linter.unusedVariables false
namespace Go.Proofs.YtgacphpkgaobkaaDoor
open Go Go.RowKit

theorem RdP.of_block {W : World} {g : Nat} {zs : List Prop4} {t : TypeId} (h : W.heap[g]? = some (.cells (zs.flatMap cellsP).toArray t (0, 0))) : RdP W (some ⟨g, 0, none⟩) zs := by
  intro k hk
  obtain ⟨c0, c1, c2, c3⟩ := cellsP_at zs k hk
  have e : ∀ j, (⟨g, 0, none⟩ : Addr).add j = ⟨g, j, none⟩ := fun j => by unfold Addr.add; split <;> simp_all
  have hg : g < W.heap.size := (Array.getElem?_eq_some_iff.1 h).1
  refine ⟨_, rfl, hg, ?_, ?_, ?_, ?_⟩
  · rw [e, cell_of_row W g _ _ _ (0, 0) h]; simpa using c0
  · rw [e, cell_of_row W g _ _ _ (0, 0) h]; simpa using c1
  · rw [e, cell_of_row W g _ _ _ (0, 0) h]; simpa using c2
  · rw [e, cell_of_row W g _ _ _ (0, 0) h]; simpa using c3

set_option maxHeartbeats 1000000 in
set_option maxRecDepth 100000 in
theorem num_any (key : ByteArray) (n : Int) (w : World) : Calls Tryd.prog 25 #[.string key, .int .i64 n] w fun e w' => e = .returned (.agg #[.string key, .int .i64 1, .int .i64 n, .string ⟨#[]⟩]) ∧ Below w.heap.size w w' := by
  obtain ⟨x0, x1, x2, x3⟩ := BoxP.new w key 1 n ⟨#[]⟩
  go_enter Tryd.func25, Tryd.ntmps25
  go_wp2_with fail
  exact bodyPost_ret (v := .agg #[.string key, .int .i64 1, .int .i64 n, .string ⟨#[]⟩]) (by simp [results, Tryd.results25, go_sem, x0, x1, x2, x3]) rfl ⟨rfl, (Below.refl _ _).alloc (Nat.le_refl _) _⟩
set_option maxHeartbeats 1000000 in
set_option maxRecDepth 100000 in
theorem text_any (key s : ByteArray) (w : World) : Calls Tryd.prog 26 #[.string key, .string s] w fun e w' => e = .returned (.agg #[.string key, .int .i64 2, .int .i64 0, .string s]) ∧ Below w.heap.size w w' := by
  obtain ⟨x0, x1, x2, x3⟩ := BoxP.new w key 2 0 s
  go_enter Tryd.func26, Tryd.ntmps26
  go_wp2_with fail
  exact bodyPost_ret (v := .agg #[.string key, .int .i64 2, .int .i64 0, .string s]) (by simp [results, Tryd.results26, go_sem, x0, x1, x2, x3]) rfl ⟨rfl, (Below.refl _ _).alloc (Nat.le_refl _) _⟩

set_option maxHeartbeats 1000000 in
set_option maxRecDepth 100000 in
theorem copiedL_any (A : Option Addr) (c : Nat) (zs : List Prop4) (w : World) (h : RdP w A zs) (hA : A = none → c = 0) (hc : zs.length ≤ c) (hl : zs.length ≤ 1000000) :
    Calls Tryd.prog 10 #[.slice A zs.length c] w (ListPost w zs) := by
  obtain ⟨i0, hi, hz0, hz1, hz2⟩ := info_parts prop_info
  have hr0 := World.ownsRow_lit (base := w.heap.size) (e := 41) (size := 4) w #[] 0 (Nat.le_refl _) (by decide) rfl
  cases A with
  | none =>
    have hc0 := hA rfl
    obtain rfl : zs = [] := List.length_eq_zero_iff.1 (by omega)
    subst hc0
    go_enter Tryd.func10, Tryd.ntmps10
    go_wp2_with (at_builtin; refine wpList_append_own_none rfl _ _ 22 rfl w.heap.size 41 i0 4 Tryd.underlying22 hi _ 0 [] rfl hr0 rfl ?_)
    go_ret
    exact ⟨_, rfl, by unfold PRow; exact hr0, (Below.refl _ _).alloc (Nat.le_refl _) _⟩
  | some ad =>
    have hcell := h.cells
    have HC := Lib.hid hcell
    have hblk : 0 < zs.length → ad.block < w.heap.size := fun hp => by
      obtain ⟨ae, he, hb, _⟩ := h 0 hp
      obtain rfl : ad = ae := by injection he
      exact hb
    have hnews : ∀ j u, (zs.flatMap cellsP)[j]? = some u → (w.alloc (.cells #[] 41)).cell? (ad.add j) = some u := fun j u hu => by
      have hlt : j < (zs.flatMap cellsP).length := by
        rcases Nat.lt_or_ge j ((zs.flatMap cellsP).length) with h1 | h1
        · exact h1
        · rw [List.getElem?_eq_none h1] at hu; cases hu
      rw [cellsP_len] at hlt
      exact (World.cell?_of_block (Lib.alloc_old w _ _ (by rw [add_block]; exact hblk (by omega)))).trans (HC.out j u hu)
    have HNw := Lib.hid hnews
    clear h hcell hblk hA hnews
    go_enter Tryd.func10, Tryd.ntmps10
    go_wp2_with (at_builtin; refine wpList_append_own _ rfl _ _ 22 rfl w.heap.size 41 i0 _ 4 48 Tryd.underlying22 hi hz0 hz1 hz2 rfl (by decide) _ 0 [] rfl hr0 ad zs.length c (zs.flatMap cellsP) rfl (cellsP_len zs) HNw.out (cellsP_one zs) (by unfold maxLen; omega) (by omega) (by simp) ?_)
    intro v' w' hown hgrow _
    go_wp2_with fail
    go_ret
    refine ⟨_, rfl, ?_, ((Below.refl _ w).alloc (Nat.le_refl _) _).grown hgrow (by simp) (fun k' hk' => by simp [Value.ownBlock] at hk'; omega)⟩
    unfold PRow
    simpa using hown

def awA : Prop4 := (⟨#[98]⟩, 1, 1, ⟨#[]⟩)
def awB : Prop4 := (⟨#[97]⟩, 2, 0, ⟨#[120]⟩)
def awC : Prop4 := (⟨#[98]⟩, 1, 2, ⟨#[]⟩)
theorem aw_set : setP [awA] [awB, awC] = (0, [awB, awC]) := by decide +kernel
theorem aw_right : rightP [awB, awC] = true := by decide +kernel
theorem aw_bytes : propsB [awB, awC] = [2, 1, 97, 2, 120, 0, 0, 1, 98, 1, 128, 0, 0, 0, 0, 0, 0, 2] := by decide +kernel
theorem aw_str : ((⟨([2, 1, 97, 2, 120, 0, 0, 1, 98, 1, 128, 0, 0, 0, 0, 0, 0, 2] : List UInt8).toArray⟩ : ByteArray).toList == (⟨#[2, 1, 97, 2, 120, 0, 0, 1, 98, 1, 128, 0, 0, 0, 0, 0, 0, 2]⟩ : ByteArray).toList) = true := str_same rfl
theorem aw_small : ∀ z ∈ [awB, awC], SmallP z := by
  intro z hz
  simp only [List.mem_cons, List.not_mem_nil, or_false] at hz
  rcases hz with rfl | rfl
  · unfold SmallP awB; decide
  · unfold SmallP awC; decide

set_option maxHeartbeats 2000000 in
set_option maxRecDepth 100000 in
theorem awake_any (w : World) (hT : Tabs w) : Calls Tryd.prog 8 #[] w fun e w' => e = .returned (.bool true) ∧ Below w.heap.size w w' := by
  have HT := Lib.hid hT
  clear hT
  go_enter Tryd.func8, Tryd.ntmps8
  go_wp2_with fail
  refine (num_any _ _ _).mono ?_
  rintro e w1 ⟨rfl, b1⟩
  go_wp2_with fail
  refine (text_any _ _ _).mono ?_
  rintro e w2 ⟨rfl, b2⟩
  go_wp2_with fail
  refine (num_any _ _ _).mono ?_
  rintro e w3 ⟨rfl, b3⟩
  go_wp2_with fail
  have hz : ∀ (z : Prop4) (zs : List Prop4), z ∈ zs → (∀ y ∈ zs, y = awA ∨ y = awB ∨ y = awC) → z.1.size ≤ 1000000 ∧ z.2.2.2.size ≤ 1000000 := fun z zs hz h => by
    rcases h z hz with rfl | rfl | rfl
    · unfold awA; decide
    · unfold awB; decide
    · unfold awC; decide
  have e1 : (w1.alloc (.cells #[.string ⟨#[98]⟩, .int .i64 1, .int .i64 1, .string ⟨#[]⟩] 41)).heap.size = w1.heap.size + 1 := by simp
  have hs2 := b2.size
  rw [e1] at hs2
  have hs3 := b3.size
  have r1 : RdP (w1.alloc (.cells #[.string ⟨#[98]⟩, .int .i64 1, .int .i64 1, .string ⟨#[]⟩] 41)) (some ⟨w1.heap.size, 0, none⟩) [awA] := RdP.of_block (heap_alloc_new w1 _)
  have b4 : Below w3.heap.size w3 (w3.alloc (.cells #[.string ⟨#[97]⟩, .int .i64 2, .int .i64 0, .string ⟨#[120]⟩, .string ⟨#[98]⟩, .int .i64 1, .int .i64 2, .string ⟨#[]⟩] 41)) := (Below.refl _ _).alloc (Nat.le_refl _) _
  have r2 : RdP (w3.alloc (.cells #[.string ⟨#[97]⟩, .int .i64 2, .int .i64 0, .string ⟨#[120]⟩, .string ⟨#[98]⟩, .int .i64 1, .int .i64 2, .string ⟨#[]⟩] 41)) (some ⟨w3.heap.size, 0, none⟩) [awB, awC] := RdP.of_block (heap_alloc_new w3 _)
  have r1' := ((r1.below (Nat.le_refl _) b2).below (Nat.le_refl _) b3).below (Nat.le_refl _) b4
  have B1 : Below w.heap.size w (w1.alloc (.cells #[.string ⟨#[98]⟩, .int .i64 1, .int .i64 1, .string ⟨#[]⟩] 41)) := b1.alloc b1.size _
  have B4 := btV (btV (btV B1 b2) b3) b4
  have cS := propsSet_any (some ⟨w1.heap.size, 0, none⟩) (some ⟨w3.heap.size, 0, none⟩) 1 2 [awA] [awB, awC] _ r1' (fun e => by cases e) r2 (Nat.le_refl _) (Nat.le_refl _) (by decide) (by decide) (fun z h => hz z _ h (by simp)) (fun z h => hz z _ h (by simp)) (Utf8Tabs_below HT.out B4)
  rw [aw_set] at cS
  have CS := Lib.hid cS
  clear cS r1 r2 r1' hz b1 b2 b3
  go_wp2_with fail
  refine CS.out.mono ?_
  rintro e w5 ⟨v, rfl, hrow, b5⟩
  have B5 := btV B4 b5
  obtain ⟨A5, c5, rfl, hc5, hA5, hrd5⟩ := hrow.rd
  have cB := propsBytes_any A5 c5 [awB, awC] w5 hrd5 (by decide) aw_small (Utf8Tabs_below HT.out B5)
  unfold PBytesPost at cB
  rw [aw_right, aw_bytes] at cB
  have CB := Lib.hid cB
  have HRd := Lib.hid hrd5
  clear cB hrd5 hrow
  go_wp2_with fail
  refine CB.out.mono ?_
  rintro e w6 ⟨vb, rfl, hv6, b6⟩
  have B6 := btV B5 b6
  obtain ⟨gb, cb, rfl⟩ := URow.form hv6 (by decide)
  have HV6 := Lib.hid hv6
  have HRd6 := Lib.hid (HRd.out.below (Nat.le_refl _) b6)
  clear hv6
  go_wp2_with fail
  refine (text_any _ _ _).mono ?_
  rintro e w7 ⟨rfl, b7⟩
  go_wp2_with fail
  refine (num_any _ _ _).mono ?_
  rintro e w8 ⟨rfl, b8⟩
  have r3 : RdP (w8.alloc (.cells #[.string ⟨#[97]⟩, .int .i64 2, .int .i64 0, .string ⟨#[120]⟩, .string ⟨#[98]⟩, .int .i64 1, .int .i64 2, .string ⟨#[]⟩] 41)) (some ⟨w8.heap.size, 0, none⟩) [awB, awC] := RdP.of_block (heap_alloc_new w8 _)
  have b9 : Below w8.heap.size w8 (w8.alloc (.cells #[.string ⟨#[97]⟩, .int .i64 2, .int .i64 0, .string ⟨#[120]⟩, .string ⟨#[98]⟩, .int .i64 1, .int .i64 2, .string ⟨#[]⟩] 41)) := (Below.refl _ _).alloc (Nat.le_refl _) _
  have B9 := btV (btV (btV B6 b7) b8) b9
  have hrd9 := ((HRd6.out.below (Nat.le_refl _) b7).below (Nat.le_refl _) b8).below (Nat.le_refl _) b9
  have hv9 := ((HV6.out.belowP b7).belowP b8).belowP b9
  have cE := refSame_any A5 (some ⟨w8.heap.size, 0, none⟩) c5 2 [awB, awC] [awB, awC] _ hrd9 r3 hc5 (Nat.le_refl _) (by decide) (by decide)
  rw [decide_eq_true (rfl : [awB, awC] = [awB, awC])] at cE
  have CE := Lib.hid cE
  have HV9 := Lib.hid hv9
  clear cE hv9 hrd9 r3
  go_wp2_with fail
  refine CE.out.mono ?_
  rintro e w10 ⟨rfl, b10⟩
  have hcv : (convert 43 9 (.slice (some ⟨gb, 0, none⟩) 18 cb)).run Tryd.prog w10 = .ok (.string ⟨([2, 1, 97, 2, 120, 0, 0, 1, 98, 1, 128, 0, 0, 0, 0, 0, 0, 2] : List UInt8).toArray⟩) w10 := conv_rowT (HV9.out.belowP b10)
  have hst := aw_str
  go_wp2_with fail
  go_ret
  exact ⟨rfl, btV B9 b10⟩
end Go.Proofs.YtgacphpkgaobkaaDoor
