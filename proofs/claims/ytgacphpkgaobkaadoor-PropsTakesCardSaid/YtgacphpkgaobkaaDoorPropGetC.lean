/- What a name has: the code's own Get. -/
import Derived.Test.YtgacphpkgaobkaaDoorPropIdx
set_option linter.unusedVariables false
namespace Go.Proofs.YtgacphpkgaobkaaDoor
open Go Go.RowKit

theorem get_new (w : World) (key : ByteArray) (W : World) (hW : W = (w.alloc (.cells #[.string key] 9)).alloc (.cells #[.int .i64 0, .int .i64 0, .string ⟨#[]⟩] 36)) :
    W.cell? { block := w.heap.size, off := 0 } = some (.string key) ∧ Res W (w.heap.size + 1) ∧ Below w.heap.size w W ∧ W.heap.size = w.heap.size + 2 := by
  subst hW
  have hs : (w.alloc (.cells #[.string key] 9)).heap.size = w.heap.size + 1 := by simp
  refine ⟨?_, ?_, ((Below.refl _ w).alloc (Nat.le_refl _) _).alloc (by omega) _, by simp⟩
  · rw [World.cell?_of_block (Lib.alloc_old _ _ w.heap.size (by omega)), World.cell?_alloc_mark]; rfl
  · rw [← hs]; exact Res.new _

theorem field_val (a : ByteArray) (k n : Int) (s : ByteArray) (W : World) : (Instr.field 41 (.agg #[.string a, .int .i64 k, .int .i64 n, .string s]) 1).run Tryd.prog W = .ok (.agg #[.int .i64 k, .int .i64 n, .string s]) W := by kernel_rfl
set_option maxHeartbeats 1000000 in
set_option maxRecDepth 100000 in
theorem propsGet_any (A : Option Addr) (c : Nat) (zs : List Prop4) (key : ByteArray) (w : World) (h : RdP w A zs) (hl : zs.length ≤ 1000000) (hz : ∀ z ∈ zs, z.1.size ≤ 1000000 ∧ z.2.2.2.size ≤ 1000000) :
    Calls Tryd.prog 19 #[.slice A zs.length c, .string key] w fun e w' => e = .returned (.tuple #[valV (getP key zs).1.1 (getP key zs).1.2.1 (getP key zs).1.2.2, .bool (getP key zs).2]) ∧ Below w.heap.size w w' := by
  obtain ⟨hk0, hres, hb0, hs0⟩ := get_new w key _ rfl
  have eg : ∀ args w, (callFunc 44 args).run Tryd.prog w = .ok (.enter 44 args) w := enters_of Tryd.func44 (by kernel_rfl) rfl
  have CI := Lib.hid (indexP_any A c zs _ _ _ _ (h.below (Nat.le_refl _) hb0) hl (get1_any w.heap.size key _ hk0) eg)
  have HRd := Lib.hid h
  have HZ := Lib.hid hz
  have HRes := Lib.hid hres
  clear h hz hk0 hres eg
  go_enter Tryd.func19, Tryd.ntmps19
  go_wp2_with fail
  refine CI.out.mono ?_
  rintro e w1 ⟨⟨r, rfl, hr⟩, b1⟩
  have hs1 := b1.size
  rw [hs0] at hs1
  have hb1 : Below w.heap.size w w1 := hb0.trans (b1.mono (by omega))
  have hres1 := HRes.out.block (b1.block (w.heap.size + 1) (by omega))
  rcases hr with ⟨rfl, hno⟩ | ⟨i, hi, rfl, hyes, hbef⟩
  · have hout : getP key zs = ((0, 0, ByteArray.empty), false) := getP_no zs key (fun k hk => keyB_false.1 (hno k hk))
    have HO := Lib.hid hout
    obtain ⟨r0, r1, r2, q0, q1, q2⟩ := hres1
    have HRes1 : Hid (Res w1 (w.heap.size + 1)) := Lib.hid ⟨r0, r1, r2, q0, q1, q2⟩
    clear hout hno
    go_wp2_with fail
    have s0 := fun x => (Res.set HRes1.out x x x).1
    have s1 := fun x y => (Res.set HRes1.out x y y).2.1
    have s2 := fun x y z => (Res.set HRes1.out x y z).2.2
    exact bodyPost_ret (v := .tuple #[valV 0 0 ⟨#[]⟩, .bool false]) (by simp [results, Tryd.results19, go_sem, valV, s0, s1, s2]) rfl ⟨by rw [HO.out]; rfl, ((hb1.setCell (p := ⟨w.heap.size + 1, 0, none⟩) (Nat.le_succ _) _).setCell (p := ⟨w.heap.size + 1, 1, none⟩) (Nat.le_succ _) _).setCell (p := ⟨w.heap.size + 1, 2, none⟩) (Nat.le_succ _) _⟩
  · have hout : getP key zs = ((zs.getD i Prop4.no).2, true) := getP_at zs key i hi (keyB_true.1 hyes) (fun k hk => keyB_false.1 (hbef k hk))
    obtain ⟨ad, rfl, hblk, p0, p1, p2, p3⟩ := (HRd.out.below (Nat.le_refl _) hb1).at4 hi
    have hkz := HZ.out (zs.getD i Prop4.no) (by rw [List.getD_eq_getElem?_getD, List.getElem?_eq_getElem hi]; exact List.getElem_mem hi)
    obtain ⟨z, hzi⟩ : ∃ z, zs.getD i Prop4.no = z := ⟨_, rfl⟩
    rw [hzi] at p0 p1 p2 p3 hkz hout
    clear hzi
    obtain ⟨a, k, n, s⟩ := z
    dsimp only at p0 p1 p2 p3 hkz hout
    have HO := Lib.hid hout
    have HRes1 := Lib.hid hres1
    have CD := Lib.hid (fun W => copied_any a k n s W hkz.1 hkz.2)
    clear hout hyes hbef hres1
    go_wp2_with fail
    refine (CD.out _).mono ?_
    rintro e w2 ⟨rfl, b2⟩
    have hb2 := btV hb1 b2
    have hres2 := HRes1.out.block (b2.block (w.heap.size + 1) (by omega))
    obtain ⟨r0, r1, r2, q0, q1, q2⟩ := hres2
    have HRes2 : Hid (Res w2 (w.heap.size + 1)) := Lib.hid ⟨r0, r1, r2, q0, q1, q2⟩
    have hfd := fun W => field_val a k n s W
    go_wp2_with fail
    have s0 := fun x => (Res.set HRes2.out x x x).1
    have s1 := fun x y => (Res.set HRes2.out x y y).2.1
    have s2 := fun x y z => (Res.set HRes2.out x y z).2.2
    exact bodyPost_ret (v := .tuple #[valV k n s, .bool true]) (by simp [results, Tryd.results19, go_sem, valV, s0, s1, s2]) rfl ⟨by rw [HO.out], ((hb2.setCell (p := ⟨w.heap.size + 1, 0, none⟩) (Nat.le_succ _) _).setCell (p := ⟨w.heap.size + 1, 1, none⟩) (Nat.le_succ _) _).setCell (p := ⟨w.heap.size + 1, 2, none⟩) (Nat.le_succ _) _⟩
end Go.Proofs.YtgacphpkgaobkaaDoor
