/- Plain Lean: lists of properties are read back from their bytes; none are how another one's begin. -/
import Derived.Test.YtgacphpkgaobkaaDoorPropLaws
import Derived.Test.YtgacphpkgaobkaaDoorPropTakeMath
import Derived.Test.YtgacphpkgaobkaaDoorValRowS
set_option linter.unusedVariables false
namespace Go.Proofs.YtgacphpkgaobkaaDoor
open Go Go.RowKit

theorem name_size {a : ByteArray} (h : nameB a = true) : a.size < 256 := by
  have h1 := text_runes _ (validD_plain _ (name_runes h))
  have h2 := text_length_le (runes a.data.toList)
  rw [h1] at h2
  have h3 : (runes a.data.toList).length ≤ 32 := by
    unfold nameB at h
    cases hr : runes a.data.toList with
    | nil => simp
    | cons x r =>
      rw [hr] at h
      unfold nameL at h
      rw [Bool.and_eq_true, decide_eq_true_iff] at h
      rw [List.length_cons]
      omega
  have h4 : a.data.toList.length = a.size := Array.length_toList
  omega
theorem tvP_back (k n : Int) (s : ByteArray) (z : List UInt8) (h : rightV k n s = true) (h0 : -9223372036854775808 ≤ n) (h1 : n ≤ 9223372036854775807) : tvP (bytesV k n s ++ z) = ((k, n, s), (bytesV k n s).length, 0) := by
  have hb : bytesR k n s = bytesV k n s := by unfold bytesR; rw [h]; rfl
  have ht := takeV_bytes k n s z h h0 h1
  rw [hb, takeV_tv] at ht
  obtain ⟨⟨⟨a, b, c⟩, m, e⟩, hp⟩ : ∃ p, tvP (bytesV k n s ++ z) = p := ⟨_, rfl⟩
  rw [hp] at ht ⊢
  unfold valV at ht
  simp only [Value.tuple.injEq, Array.mk.injEq, List.cons.injEq, Value.agg.injEq, Value.int.injEq, Value.string.injEq, true_and, and_true] at ht
  obtain ⟨⟨rfl, rfl, rfl⟩, h5, rfl⟩ := ht
  have h6 : m = (bytesV a b c).length := by omega
  rw [h6]
/-- What a list's properties must be to be read back. -/
def Fair (zs : List Prop4) : Prop := ∀ z ∈ zs, -9223372036854775808 ≤ z.2.2.1 ∧ z.2.2.1 ≤ 9223372036854775807
theorem ofNat_toNat {m : Nat} (h : m < 256) : (UInt8.ofNat m).toNat = m := by
  rw [UInt8.toNat_ofNat']
  exact Nat.mod_eq_of_lt h
theorem getD_at (pre Y : List UInt8) (c : UInt8) : (pre ++ c :: Y).getD pre.length 0 = c := by
  rw [List.getD_eq_getElem?_getD, List.getElem?_append_right (Nat.le_refl _), Nat.sub_self]
  rfl
theorem drop_past (pre Y : List UInt8) (c : UInt8) (j : Nat) : (pre ++ c :: Y).drop (pre.length + 1 + j) = Y.drop j := by
  rw [Nat.add_assoc, drop_addL, Nat.add_comm, List.drop_succ_cons]
theorem takeFrom_back : ∀ (zs : List Prop4) (pre r : List UInt8) (acc : List Prop4), Fair zs → rightFrom (lastK acc) zs = true →
    takeFrom (pre ++ (propsL zs ++ r)) zs.length pre.length acc = (0, (pre ++ propsL zs).length, acc ++ zs)
  | [], pre, r, acc, _, _ => by
    unfold takeFrom
    simp [propsL]
  | z :: rest, pre, r, acc, hf, hr => by
    unfold rightFrom at hr
    rw [Bool.and_eq_true, Bool.and_eq_true, Bool.and_eq_true] at hr
    obtain ⟨hn, hk, ha, hrr⟩ := hr
    have hz := hf z List.mem_cons_self
    have hsz := name_size (a := z.1) hn
    have hkl : z.1.data.toList.length = z.1.size := Array.length_toList
    have hbs : pre ++ (propsL (z :: rest) ++ r) = pre ++ UInt8.ofNat z.1.size :: (z.1.data.toList ++ (bytesV z.2.1 z.2.2.1 z.2.2.2 ++ (propsL rest ++ r))) := by
      unfold propsL
      rw [List.flatMap_cons]
      unfold propB
      simp
    obtain ⟨bs, hbs2⟩ : ∃ bs, pre ++ (propsL (z :: rest) ++ r) = bs := ⟨_, rfl⟩
    have hg : (bs.getD pre.length 0).toNat = z.1.size := by rw [← hbs2, hbs, getD_at, ofNat_toNat hsz]
    have hlen : bs.length = pre.length + 1 + z.1.size + (bytesV z.2.1 z.2.2.1 z.2.2.2 ++ (propsL rest ++ r)).length := by
      rw [← hbs2, hbs, List.length_append, List.length_cons, List.length_append, hkl]; omega
    have hkey : keyAt bs pre.length = z.1 := by
      unfold keyAt
      rw [hg, ← hbs2, hbs]
      have e : (pre ++ UInt8.ofNat z.1.size :: (z.1.data.toList ++ (bytesV z.2.1 z.2.2.1 z.2.2.2 ++ (propsL rest ++ r)))).drop (pre.length + 1) = z.1.data.toList ++ (bytesV z.2.1 z.2.2.1 z.2.2.2 ++ (propsL rest ++ r)) := drop_past pre _ _ 0
      rw [e, ← hkl, take_lenL]
    have hdr : bs.drop (pre.length + 1 + z.1.size) = bytesV z.2.1 z.2.2.1 z.2.2.2 ++ (propsL rest ++ r) := by
      rw [← hbs2, hbs, drop_past, ← hkl]
      exact drop_addL z.1.data.toList _ 0
    have htv := tvP_back z.2.1 z.2.2.1 z.2.2.2 (propsL rest ++ r) hk hz.1 hz.2
    have hab : aboveK (lastK acc) (z.1, 0, 0, ⟨#[]⟩) = true := by
      cases hlk : lastK acc with
      | none => rfl
      | some q => rw [hlk] at ha; exact ha
    have hlast : lastK (acc ++ [z]) = some z.1 := by
      unfold lastK
      rw [if_neg (by simp)]
      congr 2
      simp
    have ih := takeFrom_back rest (pre ++ propB z) r (acc ++ [z]) (fun y hy => hf y (List.mem_cons_of_mem _ hy)) (by rw [hlast]; exact hrr)
    have hpl : (pre ++ propB z).length = pre.length + 1 + z.1.size + (bytesV z.2.1 z.2.2.1 z.2.2.2).length := by
      unfold propB
      rw [List.length_append, List.length_cons, List.length_append, hkl]; omega
    have hbs3 : (pre ++ propB z) ++ (propsL rest ++ r) = bs := by
      rw [← hbs2]; unfold propsL; rw [List.flatMap_cons]; simp
    rw [hbs3, hpl] at ih
    rw [hbs2, List.length_cons]
    unfold takeFrom
    rw [if_neg (by omega), hg, if_neg (by omega), hkey]
    rw [if_neg (by rw [show nameL (runes z.1.data.toList) = true from hn]; decide), hab, if_neg (by decide), hdr]
    simp only [htv]
    rw [if_neg (by decide)]
    rw [ih]
    congr 2
    · unfold propsL; rw [List.flatMap_cons]; simp
    · simp
theorem takeP_back (zs : List Prop4) (r : List UInt8) (hf : Fair zs) (hr : rightP zs = true) : takeP (propsB zs ++ r) = (0, (propsB zs).length, zs) := by
  have hri := (rightP_iff zs).1 hr
  have hrf : rightFrom none zs = true := by unfold rightP at hr; rw [Bool.and_eq_true] at hr; exact hr.2
  have e : propsB zs ++ r = [UInt8.ofNat zs.length] ++ (propsL zs ++ r) := by unfold propsB; simp
  have hb := takeFrom_back zs [UInt8.ofNat zs.length] r [] hf hrf
  have hg : ((propsB zs ++ r).getD 0 0).toNat = zs.length := by
    unfold propsB
    show (UInt8.ofNat zs.length).toNat = zs.length
    exact ofNat_toNat (by omega)
  unfold takeP
  rw [if_neg (by unfold propsB; simp), hg, if_neg (by omega), e]
  exact hb
theorem propsB_apart {a b : List Prop4} (ha : Fair a) (hb : Fair b) (ra : rightP a = true) (rb : rightP b = true) (h : (propsB a).take (min (propsB a).length (propsB b).length) = (propsB b).take (min (propsB a).length (propsB b).length)) : a = b := by
  rcases Nat.le_total (propsB a).length (propsB b).length with hl | hl
  · rw [Nat.min_eq_left hl, List.take_of_length_le (Nat.le_refl _)] at h
    have h1 := takeP_back b [] hb rb
    have h2 := takeP_back a ((propsB b).drop (propsB a).length) ha ra
    have e : propsB a ++ (propsB b).drop (propsB a).length = propsB b ++ [] := by
      rw [List.append_nil]
      exact (congrArg (fun l => l ++ (propsB b).drop (propsB a).length) h).trans (List.take_append_drop _ _)
    rw [e, h1] at h2
    exact (congrArg (fun p => p.2.2) h2).symm
  · rw [Nat.min_eq_right hl, List.take_of_length_le (l := propsB b) (Nat.le_refl _)] at h
    have h1 := takeP_back a [] ha ra
    have h2 := takeP_back b ((propsB a).drop (propsB b).length) hb rb
    have e : propsB b ++ (propsB a).drop (propsB b).length = propsB a ++ [] := by
      rw [List.append_nil]
      exact (congrArg (fun l => l ++ (propsB a).drop (propsB b).length) h.symm).trans (List.take_append_drop _ _)
    rw [e, h1] at h2
    exact congrArg (fun p => p.2.2) h2
end Go.Proofs.YtgacphpkgaobkaaDoor
