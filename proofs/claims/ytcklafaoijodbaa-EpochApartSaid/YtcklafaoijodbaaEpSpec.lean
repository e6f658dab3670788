/- What the laws of layer 6 ask of a table of epochs: a reading of its memory, and what each call answers (to be shown of the code). -/
import Derived.Test.YtcklafaoijodbaaEpRef
set_option linter.unusedVariables false
namespace Go.Proofs.Ytcklafaoijodbaa
open Go Go.RowKit

/-- Of each session -1, or an epoch that is the global one or the one below it. -/
structure GoodT (gl : Int) (ins : List Int) : Prop where
  lo : 0 ≤ gl
  hi : gl ≤ 2147483647
  few : ins.length ≤ 64
  each : ∀ x ∈ ins, x = -1 ∨ (0 ≤ x ∧ gl - 1 ≤ x ∧ x ≤ gl)
def inR (ins : List Int) (s : Int) : Int × Bool := if notIn ins s then (0, false) else if 0 ≤ ins.getD s.toNat default then (ins.getD s.toNat default, true) else (0, false)
def busyR (ins : List Int) : List Int := ((List.range ins.length).filter (fun k => decide (0 ≤ ins.getD k default))).map (fun (k : Nat) => (k : Int))
structure EpSpec where
  /-- world, base, block, the global epoch, each session's, its blocks -/
  At : World → Nat → Nat → Int → List Int → (Nat → Prop) → Prop
  foot : ∀ {w : World} {B N : Nat} {gl : Int} {ins : List Int} {S : Nat → Prop}, At w B N gl ins S → ∀ k, S k → B ≤ k ∧ k < w.heap.size
  only : ∀ {w w' : World} {B N : Nat} {gl : Int} {ins : List Int} {S T : Nat → Prop}, At w B N gl ins S → Only T w w' → (∀ k, S k → ¬ T k) → At w' B N gl ins S
  new_ : ∀ (n : Nat) (f : Int) (w : World), 1 ≤ n → n ≤ 64 → 0 ≤ f → f ≤ 2147483647 → Calls Try.prog 7 #[.int .i64 (n : Nat), .int .i64 f] w fun e w' => ∃ N S, e = .returned (.tuple #[.pointer (some ⟨N, 0, none⟩), .int .i64 0]) ∧ At w' w.heap.size N f (List.replicate n (-1)) S ∧ Below w.heap.size w w'
  newBad : ∀ (n f : Int) (w : World), I64 n → I64 f → (n < 1 ∨ 64 < n ∨ f < 0 ∨ 2147483647 < f) → Calls Try.prog 7 #[.int .i64 n, .int .i64 f] w fun e w' => e = .returned (.tuple #[.pointer none, .int .i64 2]) ∧ Below w.heap.size w w'
  enter_ : ∀ {w : World} {B N : Nat} {gl : Int} {ins : List Int} {S : Nat → Prop} (s : Int), At w B N gl ins S → GoodT gl ins → I64 s → Calls Try.prog 9 #[.pointer (some ⟨N, 0, none⟩), .int .i64 s] w fun e w' =>
    ∃ S', e = .returned (.tuple #[.int .i64 (enterR gl ins s).1, .int .i64 (enterR gl ins s).2.1]) ∧ At w' B N gl (enterR gl ins s).2.2 S' ∧ Moved S S' w w'
  leave_ : ∀ {w : World} {B N : Nat} {gl : Int} {ins : List Int} {S : Nat → Prop} (s : Int), At w B N gl ins S → GoodT gl ins → I64 s → Calls Try.prog 11 #[.pointer (some ⟨N, 0, none⟩), .int .i64 s] w fun e w' =>
    ∃ S', e = .returned (.int .i64 (leaveR gl ins s false).2.1) ∧ At w' B N gl (leaveR gl ins s false).2.2 S' ∧ Moved S S' w w'
  refresh_ : ∀ {w : World} {B N : Nat} {gl : Int} {ins : List Int} {S : Nat → Prop} (s : Int), At w B N gl ins S → GoodT gl ins → I64 s → Calls Try.prog 13 #[.pointer (some ⟨N, 0, none⟩), .int .i64 s] w fun e w' =>
    ∃ S', e = .returned (.tuple #[.int .i64 (leaveR gl ins s true).1, .int .i64 (leaveR gl ins s true).2.1]) ∧ At w' B N gl (leaveR gl ins s true).2.2 S' ∧ Moved S S' w w'
  advance_ : ∀ {w : World} {B N : Nat} {gl : Int} {ins : List Int} {S : Nat → Prop}, At w B N gl ins S → GoodT gl ins → Calls Try.prog 14 #[.pointer (some ⟨N, 0, none⟩)] w fun e w' =>
    ∃ S', e = .returned (.tuple #[.int .i64 (advR gl ins).1, .int .i64 (advR gl ins).2.1]) ∧ At w' B N (advR gl ins).2.2 ins S' ∧ Moved S S' w w'
  global_ : ∀ {w : World} {B N : Nat} {gl : Int} {ins : List Int} {S : Nat → Prop}, At w B N gl ins S → GoodT gl ins → Calls Try.prog 17 #[.pointer (some ⟨N, 0, none⟩)] w fun e w' => e = .returned (.int .i64 gl) ∧ Below w.heap.size w w'
  least_ : ∀ {w : World} {B N : Nat} {gl : Int} {ins : List Int} {S : Nat → Prop}, At w B N gl ins S → GoodT gl ins → Calls Try.prog 18 #[.pointer (some ⟨N, 0, none⟩)] w fun e w' => e = .returned (.int .i64 (leastR gl ins)) ∧ Below w.heap.size w w'
  in_ : ∀ {w : World} {B N : Nat} {gl : Int} {ins : List Int} {S : Nat → Prop} (s : Int), At w B N gl ins S → GoodT gl ins → I64 s → Calls Try.prog 19 #[.pointer (some ⟨N, 0, none⟩), .int .i64 s] w fun e w' => e = .returned (.tuple #[.int .i64 (inR ins s).1, .bool (inR ins s).2]) ∧ Below w.heap.size w w'
  busy_ : ∀ {w : World} {B N : Nat} {gl : Int} {ins : List Int} {S : Nat → Prop}, At w B N gl ins S → GoodT gl ins → Calls Try.prog 23 #[.pointer (some ⟨N, 0, none⟩)] w fun e w' => ∃ v, e = .returned v ∧ layI.Row 3 w' w.heap.size v (busyR ins).length (busyR ins) ∧ Below w.heap.size w w'
theorem EpSpec.below (C : EpSpec) {w w' : World} {B N : Nat} {gl : Int} {ins : List Int} {S : Nat → Prop} (h : C.At w B N gl ins S) (hb : Below w.heap.size w w') : C.At w' B N gl ins S := C.only (T := NoB) h (Below.only hb) (fun _ _ h => h)
theorem EpSpec.alloc (C : EpSpec) {w : World} {B N : Nat} {gl : Int} {ins : List Int} {S : Nat → Prop} (h : C.At w B N gl ins S) (o : Obj) : C.At (w.alloc o) B N gl ins S := C.below h ((Below.refl _ _).alloc (Nat.le_refl _) o)

/-! ### what stays good -/
theorem getD_mem {ins : List Int} {k : Nat} (h : k < ins.length) : ins.getD k default ∈ ins := by rw [List.getD_eq_getElem?_getD, List.getElem?_eq_getElem h]; exact List.getElem_mem h
theorem GoodT.set {gl : Int} {ins : List Int} (h : GoodT gl ins) (k : Nat) {x : Int} (hx : x = -1 ∨ x = gl) : GoodT gl (ins.set k x) := by
  refine ⟨h.lo, h.hi, by rw [List.length_set]; exact h.few, fun y hy => ?_⟩
  rcases List.mem_or_eq_of_mem_set hy with h1 | h1
  · exact h.each y h1
  · have := h.lo
    rcases hx with hx | hx
    · exact .inl (h1.trans hx)
    · exact .inr (by omega)
theorem GoodT.enter {gl : Int} {ins : List Int} (h : GoodT gl ins) (s : Int) : GoodT gl (enterR gl ins s).2.2 := by
  unfold enterR
  split
  · exact h
  · split
    · exact h
    · exact h.set _ (.inr rfl)
theorem GoodT.leave {gl : Int} {ins : List Int} (h : GoodT gl ins) (s : Int) (a : Bool) : GoodT gl (leaveR gl ins s a).2.2 := by
  unfold leaveR
  split
  · exact h
  · split
    · exact h
    · split
      · exact h.set _ (.inr rfl)
      · exact h.set _ (.inl rfl)
theorem leastR_le (gl : Int) (ins : List Int) : leastR gl ins ≤ gl ∧ ∀ x ∈ ins, 0 ≤ x → leastR gl ins ≤ x := by
  unfold leastR
  induction ins generalizing gl with
  | nil => exact ⟨Int.le_refl _, fun x hx => by cases hx⟩
  | cons y r ih =>
    rw [List.foldl_cons]
    obtain ⟨h1, h2⟩ := ih (leastStep gl y)
    have h3 : leastStep gl y ≤ gl ∧ (0 ≤ y → leastStep gl y ≤ y) := by unfold leastStep; split <;> omega
    refine ⟨by omega, fun x hx h0 => ?_⟩
    rcases List.mem_cons.1 hx with rfl | hx
    · have := h3.2 h0; omega
    · exact h2 x hx h0
theorem leastR_or (gl : Int) (ins : List Int) : leastR gl ins = gl ∨ ∃ x ∈ ins, 0 ≤ x ∧ leastR gl ins = x := by
  unfold leastR
  induction ins generalizing gl with
  | nil => exact .inl rfl
  | cons y r ih =>
    rw [List.foldl_cons]
    rcases ih (leastStep gl y) with h | ⟨x, hx, h0, h⟩
    · rw [h]
      by_cases hc : 0 ≤ y ∧ y < gl
      · exact .inr ⟨y, List.mem_cons_self, hc.1, by unfold leastStep; rw [if_pos hc]⟩
      · exact .inl (by unfold leastStep; rw [if_neg hc])
    · exact .inr ⟨x, List.mem_cons_of_mem _ hx, h0, h⟩
theorem GoodT.least {gl : Int} {ins : List Int} (h : GoodT gl ins) : gl - 1 ≤ leastR gl ins ∧ leastR gl ins ≤ gl ∧ 0 ≤ leastR gl ins := by
  have h1 := (leastR_le gl ins).1
  have h2 := h.lo
  rcases leastR_or gl ins with e | ⟨x, hx, h0, e⟩
  · omega
  · rcases h.each x hx with h3 | h3
    · omega
    · omega
theorem GoodT.adv {gl : Int} {ins : List Int} (h : GoodT gl ins) : GoodT (advR gl ins).2.2 ins := by
  unfold advR
  split
  · exact h
  · rename_i h1
    split
    · exact h
    · rename_i h2
      have h3 : leastR gl ins = gl := Classical.byContradiction (fun e => h2 e)
      have h4 := (leastR_le gl ins).2
      have := h.lo
      have := h.hi
      refine ⟨by show 0 ≤ gl + 1; omega, by show gl + 1 ≤ 2147483647; omega, h.few, fun x hx => ?_⟩
      rcases h.each x hx with h5 | h5
      · exact .inl h5
      · have := h4 x hx h5.1
        exact .inr (by show 0 ≤ x ∧ gl + 1 - 1 ≤ x ∧ x ≤ gl + 1; omega)
theorem GoodT.start {n : Nat} {f : Int} (h0 : 0 ≤ f) (h1 : f ≤ 2147483647) (hn : n ≤ 64) : GoodT f (List.replicate n (-1)) := ⟨h0, h1, by rw [List.length_replicate]; exact hn, fun x hx => .inl (List.eq_of_mem_replicate hx)⟩
end Go.Proofs.Ytcklafaoijodbaa
