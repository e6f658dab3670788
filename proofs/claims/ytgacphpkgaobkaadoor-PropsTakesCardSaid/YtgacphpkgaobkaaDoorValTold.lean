/- What the code's Bytes hands back. -/
import Derived.Test.YtgacphpkgaobkaaDoorValThing
import Derived.Test.YtgacphpkgaobkaaDoorValLay
set_option linter.unusedVariables false
namespace Go.Proofs.YtgacphpkgaobkaaDoor
open Go Go.RowKit

/-! ### which thing it is -/
theorem as_num_int (n : Int) (W : World) : (Instr.typeAssert (.iface 3 (.int .i64 n)) 20 3 true).run Tryd.prog W = .ok (.tuple #[.int .i64 n, .bool true]) W := by simp [Instr.typeAssert, go_sem]
theorem as_num_str (n : Int) (W : World) : (Instr.typeAssert (.iface 3 (.int .i64 n)) 20 9 true).run Tryd.prog W = .ok (.tuple #[.string ⟨#[]⟩, .bool false]) W := by simp [Instr.typeAssert, go_sem]
theorem as_str_int (s : ByteArray) (W : World) : (Instr.typeAssert (.iface 9 (.string s)) 20 3 true).run Tryd.prog W = .ok (.tuple #[.int .i64 0, .bool false]) W := by simp [Instr.typeAssert, go_sem]
theorem as_str_str (s : ByteArray) (W : World) : (Instr.typeAssert (.iface 9 (.string s)) 20 9 true).run Tryd.prog W = .ok (.tuple #[.string s, .bool true]) W := by simp [Instr.typeAssert, go_sem]
theorem as_nil_int (W : World) : (Instr.typeAssert .nilIface 20 3 true).run Tryd.prog W = .ok (.tuple #[.int .i64 0, .bool false]) W := by simp [Instr.typeAssert, go_sem]
theorem as_nil_str (W : World) : (Instr.typeAssert .nilIface 20 9 true).run Tryd.prog W = .ok (.tuple #[.string ⟨#[]⟩, .bool false]) W := by simp [Instr.typeAssert, go_sem]

theorem URow.mono {w : World} {B B' n : Nat} {v : Value} {bs : List UInt8} (h : URow w B v n bs) (hb : B' ≤ B) : URow w B' v n bs := by
  unfold URow at h ⊢
  refine ⟨h.1, ?_⟩
  rcases h.2 with h2 | ⟨g, cap, cur, h1, h2, h3⟩
  · exact .inl h2
  · exact .inr ⟨g, cap, cur, h1, Nat.le_trans hb h2, h3⟩
theorem int_kind {k : Int} {s : ByteArray} (h : isIntV k s = true) : k = 1 := by
  unfold isIntV at h
  simp at h
  exact h.1
theorem text_kind {k n : Int} {s : ByteArray} (h : isTextV k n s = true) : k = 2 := by
  unfold isTextV at h
  simp at h
  exact h.1.1
def bytesR (k n : Int) (s : ByteArray) : List UInt8 := if rightV k n s then bytesV k n s else []
/-- What Bytes hands back. -/
def ValBytesPost (w : World) (k n : Int) (s : ByteArray) (e : Ending) (w' : World) : Prop := ∃ v, e = .returned (.tuple #[v, .int .i64 (thingE k n s)]) ∧ URow w' w.heap.size v (bytesR k n s).length (bytesR k n s) ∧ Below w.heap.size w w'

set_option maxHeartbeats 1000000 in
set_option maxRecDepth 100000 in
theorem toldBytes_any (k n : Int) (s : ByteArray) (w : World) (hn0 : -9223372036854775808 ≤ n) (hn1 : n ≤ 9223372036854775807) :
    Calls Tryd.prog 65 #[valV k n s, .func (.func 66) #[] #[], .func (.func 67) #[] #[]] w (ValBytesPost w k n s) := by
  have hT := fun W => thing_any k n s W
  have hb0 : Below w.heap.size w (w.alloc (.cells #[.int .i64 k, .int .i64 n, .string s] 36)) := (Below.refl _ _).alloc (Nat.le_refl _) _
  cases h1 : isIntV k s with
  | true =>
    have hk := int_kind h1
    have h0 : thing0 k n s = numT n := by unfold thing0; rw [h1]; rfl
    have hR : bytesR k n s = numB n := by unfold bytesR bytesV; rw [rightV_eq, h1, hk]; rfl
    rw [h0] at hT
    have HT := Lib.hid hT
    have HL := Lib.hid (fun W => layInt_any n W hn0 hn1)
    have HR := Lib.hid hR
    have HE : Hid (thingE k n s = 0) := Lib.hid (by unfold thingE; rw [rightV_eq, h1]; rfl)
    clear hT h0 h1 hk hR
    have t1 := fun W => as_num_int n W
    unfold valV at HT ⊢
    unfold numT at HT
    go_enter Tryd.func65, Tryd.ntmps65
    go_wp2_with fail
    refine (HT.out _).mono ?_
    rintro e w1 ⟨rfl, b1⟩
    go_wp2_with fail
    refine (HL.out _).mono ?_
    rintro e w2 ⟨v, rfl, hv, b2⟩
    go_wp2_with fail
    go_ret2
    refine ⟨v, by rw [HE.out]; rfl, ?_, btV (btV hb0 b1) b2⟩
    rw [HR.out]
    exact hv.mono (Nat.le_trans hb0.size b1.size)
  | false =>
    cases h2 : isTextV k n s with
    | true =>
      have hk := text_kind h2
      have hs := isTextV_size h2
      have h0 : thing0 k n s = strT s := by unfold thing0; rw [h1, h2]; rfl
      have hR : bytesR k n s = textB s.data.toList := by unfold bytesR bytesV; rw [rightV_eq, h1, h2, hk]; rfl
      have HE : Hid (thingE k n s = 0) := Lib.hid (by unfold thingE; rw [rightV_eq, h1, h2]; rfl)
      rw [h0] at hT
      have HT := Lib.hid hT
      have HL := Lib.hid (fun W => layText_any s W (by omega))
      have HR := Lib.hid hR
      clear hT h0 h1 h2 hk hR
      have t1 := fun W => as_str_int s W
      have t2 := fun W => as_str_str s W
      unfold valV at HT ⊢
      unfold strT at HT
      go_enter Tryd.func65, Tryd.ntmps65
      go_wp2_with fail
      refine (HT.out _).mono ?_
      rintro e w1 ⟨rfl, b1⟩
      go_wp2_with fail
      refine (HL.out _).mono ?_
      rintro e w2 ⟨v, rfl, hv, b2⟩
      go_wp2_with fail
      go_ret2
      refine ⟨v, by rw [HE.out]; rfl, ?_, btV (btV hb0 b1) b2⟩
      rw [HR.out]
      exact hv.mono (Nat.le_trans hb0.size b1.size)
    | false =>
      have h0 : thing0 k n s = .nilIface := by unfold thing0; rw [h1, h2]; rfl
      have hR : bytesR k n s = [] := by unfold bytesR; rw [rightV_eq, h1, h2]; rfl
      rw [h0] at hT
      have HT := Lib.hid hT
      have HR := Lib.hid hR
      clear hT h0 h1 h2 hR
      have t1 := fun W => as_nil_int W
      have t2 := fun W => as_nil_str W
      unfold valV at HT ⊢
      go_enter Tryd.func65, Tryd.ntmps65
      go_wp2_with fail
      refine (HT.out _).mono ?_
      rintro e w1 ⟨rfl, b1⟩
      go_wp2_with fail
      go_ret2
      refine ⟨.slice none 0 0, rfl, ?_, btV hb0 b1⟩
      rw [HR.out]
      exact World.ownsRow_nil _ _ _ _

set_option maxHeartbeats 1000000 in
set_option maxRecDepth 100000 in
theorem valBytes_any (k n : Int) (s : ByteArray) (w : World) (hn0 : -9223372036854775808 ≤ n) (hn1 : n ≤ 9223372036854775807) :
    Calls Tryd.prog 47 #[valV k n s] w (ValBytesPost w k n s) := by
  have hT := fun W => toldBytes_any k n s W hn0 hn1
  have hb0 : Below w.heap.size w (w.alloc (.cells #[.int .i64 k, .int .i64 n, .string s] 36)) := (Below.refl _ _).alloc (Nat.le_refl _) _
  unfold valV at hT ⊢
  have HT := Lib.hid hT
  clear hT
  go_enter Tryd.func47, Tryd.ntmps47
  go_wp2_with fail
  refine (HT.out _).mono ?_
  rintro e w1 ⟨v, rfl, hv, b1⟩
  go_wp2_with fail
  go_ret2
  exact ⟨v, rfl, hv.mono hb0.size, btV hb0 b1⟩
end Go.Proofs.YtgacphpkgaobkaaDoor
