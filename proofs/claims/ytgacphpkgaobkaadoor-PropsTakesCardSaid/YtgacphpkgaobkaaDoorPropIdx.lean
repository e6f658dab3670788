/- The first property of which something holds: the library's IndexFunc; the code's own Get and Same. -/
import Derived.Test.YtgacphpkgaobkaaDoorPropCode
set_option linter.unusedVariables false
namespace Go.Proofs.YtgacphpkgaobkaaDoor
open Go Go.RowKit

/-- A closure over one captured variable, asked of properties. -/
def AskP (g : Nat) (u : Value) (p : Prop4 → Bool) (w : World) : Prop := ∀ (W : World) (a : ByteArray) (k n : Int) (s : ByteArray), Below w.heap.size w W →
  Calls Tryd.prog g #[.agg #[.string a, .int .i64 k, .int .i64 n, .string s], u] W fun e w' => e = .returned (.bool (p (a, k, n, s))) ∧ Below W.heap.size W w'
theorem AskP.below {g : Nat} {u : Value} {p : Prop4 → Bool} {w w' : World} (h : AskP g u p w) (hb : Below w.heap.size w w') : AskP g u p w' := fun W a k n s hW => h W a k n s (btV hb hW)
def FirstP (p : Prop4 → Bool) (zs : List Prop4) (r : Int) : Prop := (r = -1 ∧ ∀ k, k < zs.length → p (zs.getD k Prop4.no) = false) ∨ ∃ i : Nat, i < zs.length ∧ r = (i : Nat) ∧ p (zs.getD i Prop4.no) = true ∧ ∀ k, k < i → p (zs.getD k Prop4.no) = false

set_option maxHeartbeats 1000000 in
set_option maxRecDepth 100000 in
theorem indexP_any (A : Option Addr) (c : Nat) (zs : List Prop4) (g : Nat) (u : Value) (p : Prop4 → Bool) (w : World) (h : RdP w A zs) (hl : zs.length ≤ 1000000) (hp : AskP g u p w) (eg : ∀ args w, (callFunc g args).run Tryd.prog w = .ok (.enter g args) w) :
    Calls Tryd.prog 43 #[.slice A zs.length c, .func (.func g) #[] #[u]] w
      fun e w' => (∃ r : Int, e = .returned (.int .i64 r) ∧ FirstP p zs r) ∧ Below w.heap.size w w' := by
  have HRd := Lib.hid h
  have HP := Lib.hid hp
  clear h hp
  go_enter Tryd.func43, Tryd.ntmps43
  go_wp2_with fail
  go_loopw [8] (fun i wr => ∃ (j : Nat), j ≤ zs.length ∧ i = .int .i64 (j : Nat) ∧ (∀ k, k < j → p (zs.getD k Prop4.no) = false) ∧ Below w.heap.size w wr) (fun i _ => zs.length - (intOf i).toNat)
  case atStart => exact ⟨0, Nat.zero_le _, rfl, fun k hk => absurd hk (by omega), Below.refl _ _⟩
  case round =>
    obtain ⟨j, hj, rfl, hacc, hbw⟩ := hrel
    have HA := Lib.hid hacc
    clear hacc
    by_cases hlt : j < zs.length
    · obtain ⟨ad, rfl, hblk, q0, q1, q2, q3⟩ := (HRd.out.below (Nat.le_refl _) hbw).at4 hlt
      obtain ⟨z, hzj⟩ : ∃ z, zs.getD j Prop4.no = z := ⟨_, rfl⟩
      rw [hzj] at q0 q1 q2 q3
      have HZ := Lib.hid hzj
      clear hzj
      obtain ⟨a, k, n, s⟩ := z
      dsimp only at q0 q1 q2 q3
      have cR := HP.out wr a k n s hbw
      obtain ⟨b, hbb⟩ : ∃ b, p (a, k, n, s) = b := ⟨_, rfl⟩
      rw [hbb] at cR
      have HB := Lib.hid hbb
      have CR := Lib.hid cR
      clear cR hbb
      cases b
      · go_wp2_with (go_at_fn g; refine CR.out.mono ?_; rintro e w1 ⟨rfl, b1⟩)
        go_roundw
        case rel =>
          refine ⟨j + 1, by omega, by go_num, fun i hi => ?_, btV hbw b1⟩
          rcases Nat.lt_or_eq_of_le (Nat.le_of_lt_succ hi) with h | h
          · exact HA.out i h
          · rw [h, HZ.out]; exact HB.out
        case measure => simp [intOf]; omega
      · go_wp2_with (go_at_fn g; refine CR.out.mono ?_; rintro e w1 ⟨rfl, b1⟩)
        go_ret
        exact ⟨⟨_, rfl, .inr ⟨j, hlt, rfl, by rw [HZ.out]; exact HB.out, HA.out⟩⟩, btV hbw b1⟩
    · obtain rfl : j = zs.length := by omega
      go_wp2_with fail
      go_ret
      exact ⟨⟨_, rfl, .inl ⟨rfl, HA.out⟩⟩, hbw⟩

def getP (key : ByteArray) : List Prop4 → Val3 × Bool
  | [] => ((0, 0, ByteArray.empty), false)
  | z :: r => if z.1 = key then (z.2, true) else getP key r
theorem getP_no : ∀ (zs : List Prop4) (key : ByteArray), (∀ k, k < zs.length → (zs.getD k Prop4.no).1 ≠ key) → getP key zs = ((0, 0, ByteArray.empty), false)
  | [], key, _ => rfl
  | z :: r, key, h => by
    unfold getP
    rw [if_neg (show z.1 ≠ key from h 0 (by simp))]
    exact getP_no r key (fun k hk => h (k + 1) (by simpa using hk))
theorem getP_at : ∀ (zs : List Prop4) (key : ByteArray) (i : Nat), i < zs.length → (zs.getD i Prop4.no).1 = key → (∀ k, k < i → (zs.getD k Prop4.no).1 ≠ key) → getP key zs = ((zs.getD i Prop4.no).2, true)
  | [], key, i, h, _, _ => by simp at h
  | z :: r, key, 0, _, h, _ => by
    unfold getP
    have h' : z.1 = key := h
    rw [if_pos h']
    rfl
  | z :: r, key, i + 1, hi, h, hb => by
    unfold getP
    rw [if_neg (show z.1 ≠ key from hb 0 (by omega))]
    exact getP_at r key i (by simpa using hi) h (fun k hk => hb (k + 1) (by omega))
def keyB (key : ByteArray) (z : Prop4) : Bool := z.1.toList == key.toList
theorem keyB_true {key : ByteArray} {z : Prop4} : keyB key z = true ↔ z.1 = key := by
  unfold keyB
  constructor
  · intro h
    rcases Classical.em (z.1 = key) with e | e
    · exact e
    · rw [str_diff e] at h; cases h
  · intro h; exact str_same h
theorem keyB_false {key : ByteArray} {z : Prop4} : keyB key z = false ↔ z.1 ≠ key := by
  rw [← Bool.not_eq_true, keyB_true]

set_option maxHeartbeats 1000000 in
set_option maxRecDepth 100000 in
theorem get1_any (N : Nat) (key : ByteArray) (w : World) (hN : w.cell? { block := N, off := 0 } = some (.string key)) :
    AskP 44 (.pointer (some ⟨N, 0, none⟩)) (keyB key) w := by
  intro W a k n s hW
  have hNlt := World.block_lt_of_cell? w _ hN
  have hb0 : Below W.heap.size W (W.alloc (.cells #[.string a, .int .i64 k, .int .i64 n, .string s] 41)) := (Below.refl _ _).alloc (Nat.le_refl _) _
  have hN1 := (World.cell?_of_block (hb0.block N (Nat.lt_of_lt_of_le hNlt hW.size))).trans ((World.cell?_of_block (hW.block N hNlt)).trans hN)
  obtain ⟨c0, c1, c2, c3⟩ := BoxP.new W a k n s
  clear hN
  go_enter Tryd.func44, Tryd.ntmps44
  go_wp2_with fail
  go_ret
  exact ⟨rfl, hb0⟩

set_option maxHeartbeats 1000000 in
set_option maxRecDepth 100000 in
theorem equalP_any (A B : Option Addr) (c d : Nat) (zs ys : List Prop4) (w : World) (h : RdP w A zs) (g : RdP w B ys) (hlen : zs.length ≤ 1000000) (hlen2 : ys.length ≤ 1000000) :
    Calls Tryd.prog 39 #[.slice A zs.length c, .slice B ys.length d] w fun e w' => e = .returned (.bool (decide (zs = ys))) ∧ Below w.heap.size w w' := by
  have HRd := Lib.hid h
  have HRe := Lib.hid g
  clear h g
  by_cases hl : zs.length = ys.length
  · have hne0 : ((zs.length : Int) != (ys.length : Int)) = false := by simp [hl]
    go_enter Tryd.func39, Tryd.ntmps39
    go_wp2_with fail
    go_loopw [13] (fun i wr => ∃ k : Nat, k ≤ zs.length ∧ i = .int .i64 (k : Nat) ∧ decide (zs.drop k = ys.drop k) = decide (zs = ys) ∧ Below w.heap.size w wr) (fun i _ => zs.length - (intOf i).toNat)
    case atStart => exact ⟨0, Nat.zero_le _, rfl, by simp, Below.refl _ _⟩
    case round =>
      obtain ⟨k, hk, rfl, hacc, hbw⟩ := hrel
      have HA := Lib.hid hacc
      clear hacc
      by_cases hlt : k < zs.length
      · obtain ⟨ad, rfl, _, h0, h1, h2, h3⟩ := (HRd.out.below (Nat.le_refl _) hbw).at4 hlt
        obtain ⟨ae, rfl, _, g0, g1, g2, g3⟩ := (HRe.out.below (Nat.le_refl _) hbw).at4 (k := k) (by omega)
        obtain ⟨z, hz⟩ : ∃ z, zs.getD k Prop4.no = z := ⟨_, rfl⟩
        obtain ⟨y, hy⟩ : ∃ y, ys.getD k Prop4.no = y := ⟨_, rfl⟩
        have hdz := drop_getD zs k hlt
        have hdy := drop_getD ys k (by omega)
        rw [hz] at h0 h1 h2 h3 hdz
        rw [hy] at g0 g1 g2 g3 hdy
        have hst := HA.out
        rw [hdz, hdy] at hst
        clear hz hy hdz hdy HA
        have hq := sameP4_iff z y
        obtain ⟨ka, kk, kn, ks⟩ := z
        obtain ⟨la, lk, ln, ls⟩ := y
        have hne := fun W => neq_prop ka kk kn ks la lk ln ls W
        obtain ⟨b, hb⟩ : ∃ b, (ka.toList == la.toList && sameV kk kn ks lk ln ls) = b := ⟨_, rfl⟩
        have hb2 : decide ((ka, kk, kn, ks) = (la, lk, ln, ls)) = b := by rw [← hq]; exact hb
        rw [hb] at hne
        have HSt := Lib.hid hst
        have HB2 := Lib.hid hb2
        clear hst hb2 hb hq
        dsimp only at h0 h1 h2 h3 g0 g1 g2 g3
        cases b
        · have hout : decide (zs = ys) = false := by
            rw [← HSt.out, decide_eq_false_iff_not]
            intro e
            have := HB2.out
            rw [decide_eq_false_iff_not] at this
            exact this (List.cons.inj e).1
          have HO := Lib.hid hout
          clear hout
          go_wp2_with fail
          go_quiet (fail)
          go_wp2_with fail
          go_ret
          exact ⟨ret_boolV HO.out.symm, below_drewN hbw _⟩
        · have hout : decide (zs.drop (k + 1) = ys.drop (k + 1)) = decide (zs = ys) := by
            rw [← HSt.out, Bool.eq_iff_iff, decide_eq_true_iff, decide_eq_true_iff]
            have := HB2.out
            rw [decide_eq_true_iff] at this
            rw [this]
            simp
          have HO := Lib.hid hout
          clear hout
          go_wp2_with fail
          go_quiet (fail)
          go_wp2_with fail
          go_roundw
          case rel => exact ⟨k + 1, by omega, by go_num, HO.out, below_drewN hbw _⟩
          case measure => simp [intOf]; omega
      · obtain rfl : k = zs.length := by omega
        have hout : decide (zs = ys) = true := by rw [← HA.out, List.drop_eq_nil_of_le (Nat.le_refl _), List.drop_eq_nil_of_le (by omega)]; rfl
        have HO := Lib.hid hout
        clear hout
        go_wp2_with fail
        go_ret
        exact ⟨ret_boolV HO.out.symm, hbw⟩
  · have hout : decide (zs = ys) = false := by
      rw [decide_eq_false_iff_not]
      intro e
      exact hl (by rw [e])
    have HO := Lib.hid hout
    have hne0 : ((zs.length : Int) != (ys.length : Int)) = true := by simp; omega
    clear hout
    go_enter Tryd.func39, Tryd.ntmps39
    go_wp2_with fail
    go_ret
    exact ⟨ret_boolV HO.out.symm, Below.refl _ _⟩
set_option maxRecDepth 100000 in
theorem propsSame_any (A B : Option Addr) (c d : Nat) (zs ys : List Prop4) (w : World) (h : RdP w A zs) (g : RdP w B ys) (hlen : zs.length ≤ 1000000) (hlen2 : ys.length ≤ 1000000) :
    Calls Tryd.prog 16 #[.slice A zs.length c, .slice B ys.length d] w fun e w' => e = .returned (.bool (decide (zs = ys))) ∧ Below w.heap.size w w' := by
  have CE := Lib.hid (equalP_any A B c d zs ys w h g hlen hlen2)
  clear h g
  go_enter Tryd.func16, Tryd.ntmps16
  go_wp2_with fail
  refine CE.out.mono ?_
  rintro e w1 ⟨rfl, b1⟩
  go_wp2_with fail
  go_ret
  exact ⟨rfl, b1⟩
end Go.Proofs.YtgacphpkgaobkaaDoor
