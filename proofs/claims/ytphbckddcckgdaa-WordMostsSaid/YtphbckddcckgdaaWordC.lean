/- The code's words: Pack, Parts, Stamp, Lock, Unlock, Absent, Next, as numbers. -/
import Derived.Test.YtphbckddcckgdaaWordRef
set_option linter.unusedVariables false
namespace Go.Proofs.Ytphbckddcckgdaa
open Go Go.RowKit

theorem btW {w a b : World} (h1 : Below w.heap.size w a) (h2 : Below a.heap.size a b) : Below w.heap.size w b := h1.trans (h2.mono h1.size)
def lockedW (x : Int) : Int := x % 9223372036854775808 + 9223372036854775808
def unlockedW (x : Int) : Int := x % 9223372036854775808
def absentW (x : Int) (is : Bool) : Int := x - x / 4611686018427387904 % 2 * 4611686018427387904 + (if is then 4611686018427387904 else 0)
def okW (x : Int) : Bool := decide (seqW x ≤ 1073741823)
/-- Its parts. -/
def partsV (x : Int) : Value := .tuple #[if okW x then tidV (epochW x) (seqW x) (lockW x) (absW x) else tidV 0 0 false false, .bool (okW x)]
def packV (e s : Int) (l a : Bool) : Value := .tuple #[.int .u64 (if rightT e s then packT e s l a else 0), .int .i64 (if rightT e s then 0 else 2)]

/-- A result of parts in the call's own memory. -/
structure ResT (W : World) (N : Nat) : Prop where
  c0 : W.cell? { block := N, off := 0 } = some (.int .i64 0)
  c1 : W.cell? { block := N, off := 1 } = some (.int .i64 0)
  c2 : W.cell? { block := N, off := 2 } = some (.bool false)
  c3 : W.cell? { block := N, off := 3 } = some (.bool false)
  f0 : W.frozen? { block := N, off := 0 } = false
  f1 : W.frozen? { block := N, off := 1 } = false
  f2 : W.frozen? { block := N, off := 2 } = false
  f3 : W.frozen? { block := N, off := 3 } = false
theorem ResT.new (w : World) : ResT (w.alloc (.cells #[.int .i64 0, .int .i64 0, .bool false, .bool false] 23)) w.heap.size := by
  constructor
  · rw [World.cell?_alloc_mark]; rfl
  · rw [World.cell?_alloc_mark]; rfl
  · rw [World.cell?_alloc_mark]; rfl
  · rw [World.cell?_alloc_mark]; rfl
  all_goals (unfold World.frozen?; rw [heap_alloc_new]; rfl)
theorem ResT.block {W W' : World} {N : Nat} (h : ResT W N) (e : W'.heap[N]? = W.heap[N]?) : ResT W' N :=
  ⟨(World.cell?_of_block e).trans h.c0, (World.cell?_of_block e).trans h.c1, (World.cell?_of_block e).trans h.c2, (World.cell?_of_block e).trans h.c3, (World.frozen?_of_block e).trans h.f0, (World.frozen?_of_block e).trans h.f1, (World.frozen?_of_block e).trans h.f2, (World.frozen?_of_block e).trans h.f3⟩
def setT (W : World) (N : Nat) (x y z u : Value) : World := (((W.setCell { block := N, off := 0 } x).setCell { block := N, off := 1 } y).setCell { block := N, off := 2 } z).setCell { block := N, off := 3 } u
theorem ResT.set {W : World} {N : Nat} (h : ResT W N) (x y z u : Value) :
    (setT W N x y z u).cell? { block := N, off := 0 } = some x ∧ (setT W N x y z u).cell? { block := N, off := 1 } = some y ∧ (setT W N x y z u).cell? { block := N, off := 2 } = some z ∧ (setT W N x y z u).cell? { block := N, off := 3 } = some u := by
  have o : ∀ (W : World) (a b : Nat) (v : Value), a ≠ b → (W.setCell { block := N, off := a } v).cell? { block := N, off := b } = W.cell? { block := N, off := b } := fun W a b v hab => World.cell?_setCell_other _ _ _ _ (by simp)
  unfold setT
  refine ⟨?_, ?_, ?_, World.cell?_setCell_same _ _ _ (u := .bool false) ?_⟩
  · rw [o _ 3 0 _ (by decide), o _ 2 0 _ (by decide), o _ 1 0 _ (by decide)]
    exact World.cell?_setCell_same _ _ _ h.c0
  · rw [o _ 3 1 _ (by decide), o _ 2 1 _ (by decide)]
    exact World.cell?_setCell_same _ _ _ (u := .int .i64 0) (by rw [o _ 0 1 _ (by decide)]; exact h.c1)
  · rw [o _ 3 2 _ (by decide)]
    exact World.cell?_setCell_same _ _ _ (u := .bool false) (by rw [o _ 1 2 _ (by decide), o _ 0 2 _ (by decide)]; exact h.c2)
  · rw [o _ 2 3 _ (by decide), o _ 1 3 _ (by decide), o _ 0 3 _ (by decide)]
    exact h.c3
theorem below_setT {B : Nat} {w W : World} {N : Nat} (h : Below B w W) (hN : B ≤ N) (x y z u : Value) : Below B w (setT W N x y z u) :=
  (((h.setCell (p := ⟨N, 0, none⟩) hN _).setCell (p := ⟨N, 1, none⟩) hN _).setCell (p := ⟨N, 2, none⟩) hN _).setCell (p := ⟨N, 3, none⟩) hN _
set_option maxHeartbeats 2000000 in
set_option maxRecDepth 100000 in
theorem wordStamp_any (x : Int) (w : World) (h : U64 x) :
    Calls Try.prog 12 #[.int .u64 x] w fun r w' => r = .returned (.int .u64 (stampW x)) ∧ Below w.heap.size w w' := by
  have hb := u64_not_both x h.1 h.2
  unfold stampW
  go_enter Try.func12, Try.ntmps12
  go_wp2_with fail
  go_ret
  exact ⟨rfl, Below.refl _ _⟩
set_option maxHeartbeats 2000000 in
set_option maxRecDepth 100000 in
theorem wordUnlock_any (x : Int) (w : World) (h : U64 x) :
    Calls Try.prog 17 #[.int .u64 x] w fun r w' => r = .returned (.int .u64 (unlockedW x)) ∧ Below w.heap.size w w' := by
  have hb := u64_not_lock x h.1 h.2
  unfold unlockedW
  go_enter Try.func17, Try.ntmps17
  go_wp2_with fail
  go_ret
  exact ⟨rfl, Below.refl _ _⟩
set_option maxHeartbeats 2000000 in
set_option maxRecDepth 100000 in
theorem wordAbsent_any (x : Int) (is : Bool) (w : World) (h : U64 x) :
    Calls Try.prog 18 #[.int .u64 x, .bool is] w fun r w' => r = .returned (.int .u64 (absentW x is)) ∧ Below w.heap.size w w' := by
  have hb := u64_not_absent x h.1 h.2
  have hc := u64_or_absent x h.1 h.2
  unfold absentW
  cases is
  all_goals
    go_enter Try.func18, Try.ntmps18
    go_wp2_with fail
    go_ret
    exact ⟨by simp, Below.refl _ _⟩
theorem lockW_iff {x : Int} (h : U64 x) : lockW x = decide (9223372036854775808 ≤ x) := by
  unfold lockW
  obtain ⟨h0, h1⟩ := h
  rw [Bool.eq_iff_iff, beq_iff_eq, decide_eq_true_iff]
  omega
set_option maxHeartbeats 2000000 in
set_option maxRecDepth 100000 in
theorem wordLock_any (x : Int) (w : World) (h : U64 x) :
    Calls Try.prog 16 #[.int .u64 x] w fun r w' => r = .returned (.tuple #[.int .u64 (if lockW x then x else lockedW x), .bool (!lockW x)]) ∧ Below w.heap.size w w' := by
  have hb := u64_and_lock x h.1 h.2
  have hc := u64_or_lock x h.1 h.2
  obtain ⟨h0, h1⟩ := h
  unfold lockedW
  cases hl : lockW x with
  | false =>
    unfold lockW at hl
    have hz : x / 9223372036854775808 * 9223372036854775808 = 0 := by
      rw [beq_eq_false_iff_ne] at hl
      omega
    rw [hz] at hb
    go_enter Try.func16, Try.ntmps16
    go_wp2_with fail
    exact bodyPost_ret (v := .tuple #[.int .u64 (x % 9223372036854775808 + 9223372036854775808), .bool true]) (by simp [results, Try.results16, go_sem]) rfl ⟨rfl, Below.refl _ _⟩
  | true =>
    unfold lockW at hl
    have hz : x / 9223372036854775808 * 9223372036854775808 = 9223372036854775808 := by
      rw [beq_iff_eq] at hl
      omega
    rw [hz] at hb
    rw [show x % 9223372036854775808 + 9223372036854775808 = x from by omega] at hc
    go_enter Try.func16, Try.ntmps16
    go_wp2_with fail
    exact bodyPost_ret (v := .tuple #[.int .u64 x, .bool false]) (by simp [results, Try.results16, go_sem]) rfl ⟨rfl, Below.refl _ _⟩
/-- A box of a Tid, at a later world. -/
structure BoxTid (W : World) (N : Nat) (e s : Int) (l a : Bool) : Prop where
  c0 : W.cell? { block := N, off := 0 } = some (.int .i64 e)
  c1 : W.cell? { block := N, off := 1 } = some (.int .i64 s)
  c2 : W.cell? { block := N, off := 2 } = some (.bool l)
  c3 : W.cell? { block := N, off := 3 } = some (.bool a)
theorem BoxTid.new {w w' : World} (e s : Int) (l a : Bool) (h : w'.heap[w.heap.size]? = (w.alloc (.cells #[.int .i64 e, .int .i64 s, .bool l, .bool a] 23)).heap[w.heap.size]?) : BoxTid w' w.heap.size e s l a := by
  constructor
  all_goals rw [World.cell?_of_block (a := ⟨w.heap.size, _, none⟩) h, World.cell?_alloc_mark]; rfl
set_option maxHeartbeats 2000000 in
set_option maxRecDepth 100000 in
theorem wordRight_any (e s : Int) (l a : Bool) (w : World) :
    Calls Try.prog 22 #[tidV e s l a] w fun r w' => r = .returned (.bool (rightT e s)) ∧ Below w.heap.size w w' := by
  unfold tidV
  have hb : Below w.heap.size w (w.alloc (.cells #[.int .i64 e, .int .i64 s, .bool l, .bool a] 23)) := (Below.refl _ _).alloc (Nat.le_refl _) _
  go_enter Try.func22, Try.ntmps22
  go_wp2_with fail
  all_goals
    go_ret
    refine ⟨ret_boolW ?_, hb⟩
    unfold rightT
    first
    | (symm; rw [decide_eq_false_iff_not]; omega)
    | (symm; rw [decide_eq_true_iff]; omega)
    | (rw [decide_eq_decide]; omega)
set_option maxHeartbeats 4000000 in
set_option maxRecDepth 100000 in
theorem wordPack_any (e s : Int) (l a : Bool) (w : World) (he : I64 e) (hs : I64 s) :
    Calls Try.prog 13 #[tidV e s l a] w fun r w' => r = .returned (packV e s l a) ∧ Below w.heap.size w w' := by
  unfold tidV packV
  have hb : Below w.heap.size w (w.alloc (.cells #[.int .i64 e, .int .i64 s, .bool l, .bool a] 23)) := (Below.refl _ _).alloc (Nat.le_refl _) _
  have CR := Lib.hid (fun W => wordRight_any e s l a W)
  unfold tidV at CR
  cases hr : rightT e s with
  | false =>
    rw [hr] at CR
    simp only [Bool.false_eq_true, if_false]
    go_enter Try.func13, Try.ntmps13
    go_wp2_with fail
    refine (CR.out _).mono ?_
    rintro r w1 ⟨rfl, b1⟩
    go_wp2_with fail
    exact bodyPost_ret (v := .tuple #[.int .u64 0, .int .i64 2]) (by simp [results, Try.results13, go_sem]) rfl ⟨rfl, hb.trans (b1.mono (by simp))⟩
  | true =>
    obtain ⟨h0, h1, h2, h3⟩ := right_iff.1 hr
    rw [hr] at CR
    have e1 : IntKind.u64.wrap e = e := wraps_u64 _ h0 (by omega)
    have e2 : IntKind.u64.wrap s = s := wraps_u64 _ h2 (by omega)
    have e3 : IntKind.u64.wrap (e * 2147483648) = e * 2147483648 := wraps_u64 _ (by omega) (by omega)
    have e4 := u64_join31 (e * 2147483648) s (by omega) (by omega) (by omega) h2 (by omega)
    have hu : U64 (e * 2147483648 + s) := ⟨by omega, by omega⟩
    have e5 := u64_or_lock (e * 2147483648 + s) hu.1 hu.2
    rw [show (e * 2147483648 + s) % 9223372036854775808 = e * 2147483648 + s from by omega] at e5
    have c1 := fun W => wordAbsent_any (e * 2147483648 + s) a W hu
    have c2 := fun W => wordAbsent_any (e * 2147483648 + s + 9223372036854775808) a W ⟨by omega, by omega⟩
    have C1 := Lib.hid c1
    have C2 := Lib.hid c2
    have hp : ∀ b : Bool, packT e s b a = absentW (e * 2147483648 + s + (if b then 9223372036854775808 else 0)) a := fun b => by
      unfold packT absentW
      cases b <;> cases a <;> simp <;> omega
    have HP := Lib.hid hp
    clear c1 c2 hr hu hp
    simp only [if_true]
    have m1 : 0 ≤ e * 2147483648 + s := by omega
    have m2 : e * 2147483648 + s < 4611686018427387904 := by omega
    generalize hm : e * 2147483648 + s = m at *
    clear hm
    cases l with
    | false =>
      go_enter Try.func13, Try.ntmps13
      go_wp2_with fail
      refine (CR.out _).mono ?_
      rintro r w1 ⟨rfl, b1⟩
      obtain ⟨k0, k1, k2, k3⟩ := BoxTid.new e s false a (b1.block w.heap.size (by simp))
      go_wp2_with fail
      refine (C1.out _).mono ?_
      rintro r w2 ⟨rfl, b2⟩
      go_wp2_with fail
      exact bodyPost_ret (v := .tuple #[.int .u64 (absentW m a), .int .i64 0]) (by simp [results, Try.results13, go_sem]) rfl ⟨by rw [HP.out]; simp, btW (hb.trans (b1.mono (by simp))) b2⟩
    | true =>
      go_enter Try.func13, Try.ntmps13
      go_wp2_with fail
      refine (CR.out _).mono ?_
      rintro r w1 ⟨rfl, b1⟩
      obtain ⟨k0, k1, k2, k3⟩ := BoxTid.new e s true a (b1.block w.heap.size (by simp))
      go_wp2_with fail
      refine (C2.out _).mono ?_
      rintro r w2 ⟨rfl, b2⟩
      go_wp2_with fail
      exact bodyPost_ret (v := .tuple #[.int .u64 (absentW (m + 9223372036854775808) a), .int .i64 0]) (by simp [results, Try.results13, go_sem]) rfl ⟨by rw [HP.out]; simp, btW (hb.trans (b1.mono (by simp))) b2⟩
set_option maxHeartbeats 4000000 in
set_option maxRecDepth 100000 in
theorem wordParts_any (x : Int) (w : World) (h : U64 x) :
    Calls Try.prog 11 #[.int .u64 x] w fun r w' => r = .returned (partsV x) ∧ Below w.heap.size w w' := by
  have b1 := u64_and_31 x h.1 h.2
  have b2 := u64_and_lock x h.1 h.2
  have b3 := u64_and_absent x h.1 h.2
  have b0 := u64_and_31 (x / 2147483648) (by have := h.1; omega) (by have := h.1; have := h.2; omega)
  have es : x % 2147483648 = seqW x := by unfold seqW; have := h.1; omega
  have ee : x / 2147483648 % 2147483648 = epochW x := by unfold epochW; have := h.1; omega
  rw [es] at b1
  rw [ee] at b0
  have hr := ResT.new w
  have hb0 : Below w.heap.size w (w.alloc (.cells #[.int .i64 0, .int .i64 0, .bool false, .bool false] 23)) := (Below.refl _ _).alloc (Nat.le_refl _) _
  have hs0 : 0 ≤ seqW x := by unfold seqW; have := h.1; omega
  have hs1 : seqW x ≤ 2147483647 := by unfold seqW; omega
  have hx0 : 0 ≤ epochW x := by unfold epochW; have := h.1; omega
  have hx1 : epochW x ≤ 2147483647 := by unfold epochW; have := h.1; omega
  have eL : (x / 9223372036854775808 * 9223372036854775808 != 0) = lockW x := by
    unfold lockW
    have := h.1; have := h.2
    rw [Bool.eq_iff_iff, bne_iff_ne, beq_iff_eq]
    omega
  have eA : (x / 4611686018427387904 % 2 * 4611686018427387904 != 0) = absW x := by
    unfold absW
    rw [Bool.eq_iff_iff, bne_iff_ne, beq_iff_eq]
    omega
  have w1 : IntKind.i64.wrap (epochW x) = epochW x := IntWalk.i64_in _ (by omega)
  have w2 : IntKind.i64.wrap (seqW x) = seqW x := IntWalk.i64_in _ (by omega)
  have CR := Lib.hid (fun W => wordRight_any (epochW x) (seqW x) (lockW x) (absW x) W)
  have hok : rightT (epochW x) (seqW x) = okW x := by unfold rightT okW; rw [decide_eq_decide]; omega
  rw [hok] at CR
  clear hok
  unfold tidV at CR
  have HP := Lib.hid (show partsV x = .tuple #[if okW x then tidV (epochW x) (seqW x) (lockW x) (absW x) else tidV 0 0 false false, .bool (okW x)] from rfl)
  clear es ee
  generalize okW x = ok at *
  generalize lockW x = lk at *
  generalize absW x = ab at *
  generalize seqW x = sq at *
  generalize epochW x = ep at *
  have hb1 : Below w.heap.size w ((w.alloc (.cells #[.int .i64 0, .int .i64 0, .bool false, .bool false] 23)).alloc (.cells #[.int .i64 ep, .int .i64 sq, .bool lk, .bool ab] 23)) := hb0.alloc (by simp) _
  have hr1 : ResT ((w.alloc (.cells #[.int .i64 0, .int .i64 0, .bool false, .bool false] 23)).alloc (.cells #[.int .i64 ep, .int .i64 sq, .bool lk, .bool ab] 23)) w.heap.size := hr.block (((Below.refl _ _).alloc (Nat.le_refl _) _).block _ (by simp))
  go_enter Try.func11, Try.ntmps11
  go_wp2_with fail
  refine (CR.out _).mono ?_
  rintro r w3 ⟨rfl, b4⟩
  have hr2 := hr1.block (b4.block w.heap.size (by simp; omega))
  obtain ⟨k0, k1, k2, k3⟩ := BoxTid.new (w := w.alloc (.cells #[.int .i64 0, .int .i64 0, .bool false, .bool false] 23)) ep sq lk ab (b4.block _ (by simp))
  rw [show (w.alloc (.cells #[.int .i64 0, .int .i64 0, .bool false, .bool false] 23)).heap.size = w.heap.size + 1 from by simp] at k0 k1 k2 k3
  obtain ⟨c0, c1, c2, c3, f0, f1, f2, f3⟩ := hr2
  have hbw : Below w.heap.size w w3 := hb1.trans (b4.mono (by simp; omega))
  have s0 := fun x y z u => (ResT.set ⟨c0, c1, c2, c3, f0, f1, f2, f3⟩ x y z u).1
  have s1 := fun x y z u => (ResT.set ⟨c0, c1, c2, c3, f0, f1, f2, f3⟩ x y z u).2.1
  have s2 := fun x y z u => (ResT.set ⟨c0, c1, c2, c3, f0, f1, f2, f3⟩ x y z u).2.2.1
  have s3 := fun x y z u => (ResT.set ⟨c0, c1, c2, c3, f0, f1, f2, f3⟩ x y z u).2.2.2
  unfold setT at s0 s1 s2 s3
  have HS0 := Lib.hid s0; have HS1 := Lib.hid s1; have HS2 := Lib.hid s2; have HS3 := Lib.hid s3
  clear s0 s1 s2 s3
  cases ok with
  | false =>
    go_wp2_with fail
    have s0 := HS0.out; have s1 := HS1.out; have s2 := HS2.out; have s3 := HS3.out
    exact bodyPost_ret (v := .tuple #[tidV 0 0 false false, .bool false]) (by simp [results, Try.results11, go_sem, tidV, s0, s1, s2, s3]) rfl ⟨by rw [HP.out]; rfl, below_setT hbw (Nat.le_refl _) _ _ _ _⟩
  | true =>
    go_wp2_with fail
    have s0 := HS0.out; have s1 := HS1.out; have s2 := HS2.out; have s3 := HS3.out
    exact bodyPost_ret (v := .tuple #[tidV ep sq lk ab, .bool true]) (by simp [results, Try.results11, go_sem, tidV, s0, s1, s2, s3]) rfl ⟨by rw [HP.out]; rfl, below_setT hbw (Nat.le_refl _) _ _ _ _⟩
set_option maxHeartbeats 4000000 in
set_option maxRecDepth 100000 in
theorem wordNext_any (x e : Int) (w : World) (h : U64 x) (he : I64 e) :
    Calls Try.prog 19 #[.int .u64 x, .int .i64 e] w fun r w' => r = .returned (.tuple #[.int .u64 (nextW x e).1, .int .i64 (nextW x e).2]) ∧ Below w.heap.size w w' := by
  have hx0 : 0 ≤ epochW x := by unfold epochW; have := h.1; omega
  have hx1 : epochW x ≤ 2147483647 := by unfold epochW; have := h.1; omega
  have hs0 : 0 ≤ seqW x := by unfold seqW; have := h.1; omega
  have hs1 : seqW x ≤ 2147483647 := by unfold seqW; have := h.1; omega
  have HC := Lib.hid (fun W => wordStamp_any x W h)
  have hst : stampW x = epochW x * 2147483648 + seqW x := by unfold stampW epochW seqW; omega
  have CP := Lib.hid (fun W => wordPack_any e 1 false false W he ⟨by decide, by decide⟩)
  unfold tidV at CP
  have hpk : packV e 1 false false = if e < 0 ∨ 2147483647 < e then .tuple #[.int .u64 0, .int .i64 2] else .tuple #[.int .u64 (e * 2147483648 + 1), .int .i64 0] := by
    unfold packV packT
    by_cases c : e < 0 ∨ 2147483647 < e
    · rw [if_pos c, show rightT e 1 = false from by unfold rightT; rw [decide_eq_false_iff_not]; omega]
      rfl
    · rw [if_neg c, show rightT e 1 = true from by unfold rightT; rw [decide_eq_true_iff]; omega]
      simp
  rw [hpk] at CP
  clear hpk
  generalize hE : epochW x = E at *
  generalize hS : seqW x = S at *
  have hn : nextW x e = if e < 0 ∨ 2147483647 < e then (0, 2) else if e < E then (0, 40) else if E < e then (e * 2147483648 + 1, 0) else if 1073741823 ≤ S then (0, 40) else (e * 2147483648 + S + 1, 0) := by unfold nextW; rw [hE, hS]
  rw [hst] at HC
  have HN := Lib.hid hn
  clear hn hE hS h hst
  obtain ⟨he0, he1⟩ := he
  go_enter Try.func19, Try.ntmps19
  by_cases c1 : e < 0 ∨ 2147483647 < e
  · rw [if_pos c1] at CP
    go_wp2_with fail
    refine (CP.out _).mono ?_
    rintro r w1 ⟨rfl, b1⟩
    go_wp2_with fail
    exact bodyPost_ret (v := .tuple #[.int .u64 0, .int .i64 2]) (by simp [results, Try.results19, go_sem]) rfl ⟨by rw [HN.out, if_pos c1], b1⟩
  · rw [if_neg c1] at CP
    have d0 : 0 ≤ e := by omega
    have d1 : e ≤ 2147483647 := by omega
    have w3 : IntKind.u64.wrap (E * 2147483648 + S + 1) = E * 2147483648 + S + 1 := wraps_u64 _ (by omega) (by omega)
    go_wp2_with fail
    refine (CP.out _).mono ?_
    rintro r w1 ⟨rfl, b1⟩
    go_wp2_with fail
    refine (HC.out _).mono ?_
    rintro r w2 ⟨rfl, b2⟩
    have b4 : Below w.heap.size w w2 := b1.trans (b2.mono b1.size)
    rcases Int.lt_trichotomy e E with c2 | c2 | c2
    · have hmx : max (e * 2147483648 + 1) (E * 2147483648 + S + 1) = E * 2147483648 + S + 1 := by omega
      have w4 : IntKind.u64.wrap (E * 2147483648 + S + 1 - (e * 2147483648 + 1)) = E * 2147483648 + S + 1 - (e * 2147483648 + 1) := wraps_u64 _ (by omega) (by omega)
      have w5 : 1073741823 ≤ E * 2147483648 + S + 1 - (e * 2147483648 + 1) := by omega
      go_wp2_with fail
      exact bodyPost_ret (v := .tuple #[.int .u64 0, .int .i64 40]) (by simp [results, Try.results19, go_sem]) rfl ⟨by rw [HN.out, if_neg c1, if_pos c2], b4⟩
    · subst c2
      have hmx : max (e * 2147483648 + 1) (e * 2147483648 + S + 1) = e * 2147483648 + S + 1 := by omega
      have w4 : IntKind.u64.wrap (e * 2147483648 + S + 1 - (e * 2147483648 + 1)) = e * 2147483648 + S + 1 - (e * 2147483648 + 1) := wraps_u64 _ (by omega) (by omega)
      have hS : S = 0 ∨ 1 ≤ S := by omega
      have w6 : IntKind.u64.wrap (e * 2147483648 + 1) = e * 2147483648 + 1 := wraps_u64 _ (by omega) (by omega)
      by_cases c3 : 1073741823 ≤ S
      · have w5 : 1073741823 ≤ e * 2147483648 + S + 1 - (e * 2147483648 + 1) := by omega
        go_wp2_with fail
        exact bodyPost_ret (v := .tuple #[.int .u64 0, .int .i64 40]) (by simp [results, Try.results19, go_sem]) rfl ⟨by rw [HN.out, if_neg c1, if_neg (by omega), if_neg (by omega), if_pos c3], b4⟩
      · have w5 : ¬ 1073741823 ≤ e * 2147483648 + S + 1 - (e * 2147483648 + 1) := by omega
        rcases hS with rfl | hS
        · go_wp2_with fail
          exact bodyPost_ret (v := .tuple #[.int .u64 (e * 2147483648 + 1), .int .i64 0]) (by simp [results, Try.results19, go_sem]) rfl ⟨by rw [HN.out, if_neg c1, if_neg (by omega), if_neg (by omega), if_neg (by omega), Int.add_zero], b4⟩
        · go_wp2_with fail
          exact bodyPost_ret (v := .tuple #[.int .u64 (e * 2147483648 + S + 1), .int .i64 0]) (by simp [results, Try.results19, go_sem]) rfl ⟨by rw [HN.out, if_neg c1, if_neg (by omega), if_neg (by omega), if_neg (by omega)], b4⟩
    · have hmx : max (e * 2147483648 + 1) (E * 2147483648 + S + 1) = e * 2147483648 + 1 := by omega
      have w4 : IntKind.u64.wrap (e * 2147483648 + 1 - (e * 2147483648 + 1)) = 0 := by rw [Int.sub_self]; rfl
      go_wp2_with fail
      exact bodyPost_ret (v := .tuple #[.int .u64 (e * 2147483648 + 1), .int .i64 0]) (by simp [results, Try.results19, go_sem]) rfl ⟨by rw [HN.out, if_neg c1, if_neg (by omega), if_pos c2], b4⟩
end Go.Proofs.Ytphbckddcckgdaa
