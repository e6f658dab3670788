/- A value as a text: the code's own. -/
import Derived.Test.YtkimibppfniejaaDoorValTold
import Derived.Test.YtkimibppfniejaaDoorValStd
import Derived.Test.YtkimibppfniejaaDoorQuote
set_option linter.unusedVariables false
namespace Go.Proofs.YtkimibppfniejaaDoor
open Go Go.RowKit

/-- A value as a text: what told hands back, and what Print says. -/
def textR (k n : Int) (s : ByteArray) : ByteArray := if isIntV k s then ⟨(Lib.itoa n).toArray⟩ else if isTextV k n s then ⟨(quoteL s.data.toList).toArray⟩ else ⟨#[]⟩
def printR (k n : Int) (s : ByteArray) : ByteArray := if rightV k n s then textR k n s else ⟨#[63]⟩
def TextPost (w : World) (k n : Int) (s : ByteArray) (e : Ending) (w' : World) : Prop := e = .returned (.tuple #[.string (textR k n s), .int .i64 (thingE k n s)]) ∧ Below w.heap.size w w'
theorem itoa_any (n : Int) (h0 : -9223372036854775808 ≤ n) (h1 : n ≤ 9223372036854775807) (w : World) (h : PowT w) :
    Calls Tryd.prog 44 #[.int .i64 n] w fun e w' => e = .returned (.string ⟨(Lib.itoa n).toArray⟩) ∧ Below w.heap.size w w' := by
  refine (Tryd.strconv_Itoa n h0 h1 w h).mono ?_
  rintro e w' ⟨rfl, k, os, rfl⟩
  exact ⟨rfl, rfl, rfl, rfl, by show w.heap.size ≤ (w.heap ++ os).size; rw [Array.size_append]; omega, fun j hj => by show (w.heap ++ os)[j]? = w.heap[j]?; exact Array.getElem?_append_left hj⟩

set_option maxHeartbeats 1000000 in
set_option maxRecDepth 100000 in
theorem toldText_any (k n : Int) (s : ByteArray) (w : World) (hw : Std w) (hn0 : -9223372036854775808 ≤ n) (hn1 : n ≤ 9223372036854775807) :
    Calls Tryd.prog 43 #[valV k n s, .func (.func 44) #[] #[], .func (.func 45) #[] #[]] w (TextPost w k n s) := by
  have hT := fun W => thing_any k n s W
  have hb0 : Below w.heap.size w (w.alloc (.cells #[.int .i64 k, .int .i64 n, .string s] 23)) := (Below.refl _ _).alloc (Nat.le_refl _) _
  cases h1 : isIntV k s with
  | true =>
    have hk := int_kind h1
    have h0 : thing0 k n s = numT n := by unfold thing0; rw [h1]; rfl
    have hR : textR k n s = ⟨(Lib.itoa n).toArray⟩ := by unfold textR; rw [h1]; rfl
    rw [h0] at hT
    have HT := Lib.hid hT
    have HL := Lib.hid (fun W hW => itoa_any n hn0 hn1 W hW)
    have HR := Lib.hid hR
    have HE : Hid (thingE k n s = 0) := Lib.hid (by unfold thingE; rw [rightV_eq, h1]; rfl)
    clear hT h0 h1 hk hR
    have t1 := fun W => as_num_int n W
    unfold valV at HT ⊢
    unfold numT at HT
    go_enter Tryd.func43, Tryd.ntmps43
    go_wp2_with fail
    refine (HT.out _).mono ?_
    rintro e w1 ⟨rfl, b1⟩
    go_wp2_with fail
    refine (HL.out _ (hw.below (btV hb0 b1)).p).mono ?_
    rintro e w2 ⟨rfl, b2⟩
    go_wp2_with fail
    go_ret2
    exact ⟨by rw [HE.out, HR.out]; rfl, btV (btV hb0 b1) b2⟩
  | false =>
    cases h2 : isTextV k n s with
    | true =>
      have hk := text_kind h2
      have hs := isTextV_size h2
      have h0 : thing0 k n s = strT s := by unfold thing0; rw [h1, h2]; rfl
      have hR : textR k n s = ⟨(quoteL s.data.toList).toArray⟩ := by unfold textR; rw [h1, h2]; rfl
      have HE : Hid (thingE k n s = 0) := Lib.hid (by unfold thingE; rw [rightV_eq, h1, h2]; rfl)
      rw [h0] at hT
      have HT := Lib.hid hT
      have HL := Lib.hid (fun W => quote_any s W (by omega))
      have HR := Lib.hid hR
      clear hT h0 h1 h2 hk hR
      have t1 := fun W => as_str_int s W
      have t2 := fun W => as_str_str s W
      unfold valV at HT ⊢
      unfold strT at HT
      go_enter Tryd.func43, Tryd.ntmps43
      go_wp2_with fail
      refine (HT.out _).mono ?_
      rintro e w1 ⟨rfl, b1⟩
      go_wp2_with fail
      refine (HL.out _).mono ?_
      rintro e w2 ⟨rfl, b2⟩
      go_wp2_with fail
      go_ret2
      exact ⟨by rw [HE.out, HR.out]; rfl, btV (btV hb0 b1) b2⟩
    | false =>
      have h0 : thing0 k n s = .nilIface := by unfold thing0; rw [h1, h2]; rfl
      have hR : textR k n s = ⟨#[]⟩ := by unfold textR; rw [h1, h2]; rfl
      rw [h0] at hT
      have HT := Lib.hid hT
      have HR := Lib.hid hR
      clear hT h0 h1 h2 hR
      have t1 := fun W => as_nil_int W
      have t2 := fun W => as_nil_str W
      unfold valV at HT ⊢
      go_enter Tryd.func43, Tryd.ntmps43
      go_wp2_with fail
      refine (HT.out _).mono ?_
      rintro e w1 ⟨rfl, b1⟩
      go_wp2_with fail
      go_ret2
      exact ⟨by rw [HR.out]; rfl, btV hb0 b1⟩

set_option maxHeartbeats 1000000 in
set_option maxRecDepth 100000 in
theorem print_any (k n : Int) (s : ByteArray) (w : World) (hw : Std w) (hn0 : -9223372036854775808 ≤ n) (hn1 : n ≤ 9223372036854775807) :
    Calls Tryd.prog 24 #[valV k n s] w fun e w' => e = .returned (.string (printR k n s)) ∧ Below w.heap.size w w' := by
  have hT := fun W hW => toldText_any k n s W hW hn0 hn1
  have hb0 : Below w.heap.size w (w.alloc (.cells #[.int .i64 k, .int .i64 n, .string s] 23)) := (Below.refl _ _).alloc (Nat.le_refl _) _
  unfold TextPost valV at hT
  unfold valV
  cases hr : rightV k n s with
  | true =>
    have he : thingE k n s = 0 := by unfold thingE; rw [hr]; rfl
    have HP : Hid (printR k n s = textR k n s) := Lib.hid (by unfold printR; rw [hr]; rfl)
    rw [he] at hT
    have HT := Lib.hid hT
    clear hT he hr
    go_enter Tryd.func24, Tryd.ntmps24
    go_wp2_with fail
    refine (HT.out _ (hw.below hb0)).mono ?_
    rintro e w1 ⟨rfl, b1⟩
    go_wp2_with fail
    go_ret
    exact ⟨by rw [HP.out]; rfl, btV hb0 b1⟩
  | false =>
    have he : thingE k n s = 22 := by unfold thingE; rw [hr]; rfl
    have HP : Hid (printR k n s = ⟨#[63]⟩) := Lib.hid (by unfold printR; rw [hr]; rfl)
    rw [he] at hT
    have HT := Lib.hid hT
    clear hT he hr
    go_enter Tryd.func24, Tryd.ntmps24
    go_wp2_with fail
    refine (HT.out _ (hw.below hb0)).mono ?_
    rintro e w1 ⟨rfl, b1⟩
    go_wp2_with fail
    go_ret
    exact ⟨by rw [HP.out]; rfl, btV hb0 b1⟩
end Go.Proofs.YtkimibppfniejaaDoor
