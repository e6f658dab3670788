/- What a call leaves that writes to certain blocks alone, and makes new ones. -/
import Derived.Test.YtpmmbbkomikceaaDoorProg
import Derived.Below
import Derived.Laws.AppendOwn
import Derived.Laws.Rows
set_option linter.unusedVariables false
namespace Go.Proofs.YtpmmbbkomikceaaDoor
open Go Go.RowKit

/-- No block. -/
def NoB : Nat → Prop := fun _ => False
/-- Blocks that stood are as they were, but those of S. -/
structure Only (S : Nat → Prop) (w w' : World) : Prop where
  os : w'.os = w.os
  tape : w'.tape = w.tape
  output : w'.output = w.output
  size : w.heap.size ≤ w'.heap.size
  block : ∀ k, k < w.heap.size → ¬ S k → w'.heap[k]? = w.heap[k]?
theorem Only.refl (S : Nat → Prop) (w : World) : Only S w w := ⟨rfl, rfl, rfl, Nat.le_refl _, fun _ _ _ => rfl⟩
theorem Only.trans {S T : Nat → Prop} {a b c : World} (h : Only S a b) (k : Only T b c) (hT : ∀ x, T x → S x ∨ a.heap.size ≤ x) : Only S a c :=
  ⟨k.os.trans h.os, k.tape.trans h.tape, k.output.trans h.output, Nat.le_trans h.size k.size, fun i hi hn =>
    (k.block i (Nat.lt_of_lt_of_le hi h.size) (fun ht => by
      rcases hT i ht with h1 | h1
      · exact hn h1
      · omega)).trans (h.block i hi hn)⟩
theorem Only.mono {S T : Nat → Prop} {a b : World} (h : Only S a b) (hS : ∀ x, S x → T x) : Only T a b := ⟨h.os, h.tape, h.output, h.size, fun i hi hn => h.block i hi (fun hs => hn (hS i hs))⟩
theorem Only.below {S : Nat → Prop} {a b : World} {B : Nat} (h : Only S a b) (hB : B ≤ a.heap.size) (hS : ∀ x, S x → B ≤ x) : Below B a b :=
  ⟨h.os, h.tape, h.output, h.size, fun k hk => h.block k (by omega) (fun hs => by have := hS k hs; omega)⟩
theorem Below.only {S : Nat → Prop} {a b : World} (h : Below a.heap.size a b) : Only S a b := ⟨h.os, h.tape, h.output, h.size, fun k hk _ => h.block k hk⟩
theorem Only.alloc {S : Nat → Prop} {a w : World} (h : Only S a w) (o : Obj) : Only S a (w.alloc o) :=
  ⟨h.os, h.tape, h.output, Nat.le_trans h.size (by simp), fun k hk hn => (Below.heap_alloc _ _ _ (Nat.lt_of_lt_of_le hk h.size)).trans (h.block k hk hn)⟩
theorem Only.setCell {S : Nat → Prop} {a w : World} (h : Only S a w) {p : Addr} (hp : S p.block ∨ a.heap.size ≤ p.block) (u : Value) : Only S a (w.setCell p u) :=
  ⟨h.os, h.tape, h.output, Nat.le_trans h.size (by simp [World.setCell]), fun k hk hn => (Below.heap_setCell _ _ _ _ (fun e => by
    rcases hp with h1 | h1
    · exact hn (by rw [e]; exact h1)
    · omega)).trans (h.block k hk hn)⟩
theorem Only.drew {S : Nat → Prop} {a w : World} (h : Only S a w) : Only S a w.drew := ⟨h.os, h.tape, h.output, h.size, h.block⟩
theorem Only.grown {S : Nat → Prop} {a w w' : World} {row : Option Nat} (h : Only S a w) (hg : w.grownBy w' row) (hr : ∀ k, row = some k → S k ∨ a.heap.size ≤ k) : Only S a w' :=
  ⟨hg.os.trans h.os, hg.tape.trans h.tape, hg.output.trans h.output, Nat.le_trans h.size hg.size, fun k hk hn => (hg.block k (Nat.lt_of_lt_of_le hk h.size) (fun e => by
    rcases hr k e.symm with h1 | h1
    · exact hn h1
    · omega)).trans (h.block k hk hn)⟩
/-- A row of the call's own outside S stays. -/
theorem ownsRow_only {S : Nat → Prop} {w w' : World} {base : Nat} {e : TypeId} {size n : Nat} {v : Value} {xs : List Value} (h : w.ownsRow base e size v n xs) (ho : Only S w w') (hv : ∀ g, v.ownBlock = some g → ¬ S g) : w'.ownsRow base e size v n xs := by
  refine ⟨h.1, ?_⟩
  have hlt := World.ownsRow.lt h
  rcases h.2 with h2 | ⟨g, cap, cur, h1, h2, h3, h4⟩
  · exact .inl h2
  · subst h1
    refine .inr ⟨g, cap, cur, rfl, h2, ?_, h4⟩
    rw [ho.block g (hlt g rfl).2 (hv g rfl)]
    exact h3
/-- Only these blocks were written; those of the reading behind it are these or new. -/
def Moved (S S' : Nat → Prop) (w w' : World) : Prop := Only S w w' ∧ ∀ k, S' k → S k ∨ w.heap.size ≤ k
theorem Moved.below {w0 w w' : World} {S S' : Nat → Prop} (m : Moved S S' w w') (hb : Below w0.heap.size w0 w) (hS : ∀ k, S k → w0.heap.size ≤ k) : Below w0.heap.size w0 w' := hb.trans (m.1.below hb.size hS)
theorem Moved.refl (S : Nat → Prop) (w : World) : Moved S S w w := ⟨Only.refl _ _, fun _ h => .inl h⟩
theorem Moved.of_below {S : Nat → Prop} {w w' : World} (h : Below w.heap.size w w') : Moved S S w w' := ⟨Only.mono (S := NoB) (Below.only h) (fun x hx => hx.elim), fun _ h => .inl h⟩
theorem Moved.trans {S S' S'' : Nat → Prop} {a b c : World} (h : Moved S S' a b) (k : Moved S' S'' b c) : Moved S S'' a c :=
  ⟨h.1.trans k.1 h.2, fun x hx => by
    rcases k.2 x hx with h1 | h1
    · exact h.2 x h1
    · exact .inr (Nat.le_trans h.1.size h1)⟩
/-- What is said of blocks of S alone. -/
def Stable (R : World → Prop) (S : Nat → Prop) : Prop := ∀ (w w' : World) (T : Nat → Prop), R w → Only T w w' → (∀ k, S k → ¬ T k) → R w'
theorem Stable.below {R : World → Prop} {S : Nat → Prop} (h : Stable R S) {w w' : World} (hr : R w) (hb : Below w.heap.size w w') : R w' := h w w' NoB hr (Below.only hb) (fun _ _ h => h)
/-- Two objects side by side, both made since w0. -/
structure Duo (w0 w : World) (R1 R2 : World → Prop) (S1 S2 : Nat → Prop) : Prop where
  a : R1 w
  b : R2 w
  fa : ∀ k, S1 k → w0.heap.size ≤ k ∧ k < w.heap.size
  fb : ∀ k, S2 k → w0.heap.size ≤ k ∧ k < w.heap.size
  ap : ∀ k, S1 k → ¬ S2 k
  bel : Below w0.heap.size w0 w
section
variable {w0 w w' : World} {R1 R2 R' : World → Prop} {S1 S2 S' : Nat → Prop}
theorem Duo.below (h : Duo w0 w R1 R2 S1 S2) (h1 : Stable R1 S1) (h2 : Stable R2 S2) (hb : Below w.heap.size w w') : Duo w0 w' R1 R2 S1 S2 :=
  ⟨h1.below h.a hb, h2.below h.b hb, fun k hk => ⟨(h.fa k hk).1, Nat.lt_of_lt_of_le (h.fa k hk).2 hb.size⟩, fun k hk => ⟨(h.fb k hk).1, Nat.lt_of_lt_of_le (h.fb k hk).2 hb.size⟩, h.ap, h.bel.trans (hb.mono h.bel.size)⟩
/-- The first one moved. -/
theorem Duo.moveA (h : Duo w0 w R1 R2 S1 S2) (h2 : Stable R2 S2) (hr : R' w') (hf : ∀ k, S' k → k < w'.heap.size) (m : Moved S1 S' w w') : Duo w0 w' R' R2 S' S2 := by
  refine ⟨hr, h2 w w' S1 h.b m.1 (fun k hk hs => h.ap k hs hk), fun k hk => ⟨?_, hf k hk⟩, fun k hk => ⟨(h.fb k hk).1, Nat.lt_of_lt_of_le (h.fb k hk).2 m.1.size⟩, fun k hk hk2 => ?_, m.below h.bel (fun k hk => (h.fa k hk).1)⟩
  · rcases m.2 k hk with h1 | h1
    · exact (h.fa k h1).1
    · exact Nat.le_trans h.bel.size h1
  · rcases m.2 k hk with h1 | h1
    · exact h.ap k h1 hk2
    · have := (h.fb k hk2).2; omega
/-- The second one moved. -/
theorem Duo.moveB (h : Duo w0 w R1 R2 S1 S2) (h1 : Stable R1 S1) (hr : R' w') (hf : ∀ k, S' k → k < w'.heap.size) (m : Moved S2 S' w w') : Duo w0 w' R1 R' S1 S' := by
  refine ⟨h1 w w' S2 h.a m.1 (fun k hk hs => h.ap k hk hs), hr, fun k hk => ⟨(h.fa k hk).1, Nat.lt_of_lt_of_le (h.fa k hk).2 m.1.size⟩, fun k hk => ⟨?_, hf k hk⟩, fun k hk hk2 => ?_, m.below h.bel (fun k hk => (h.fb k hk).1)⟩
  · rcases m.2 k hk with h1 | h1
    · exact (h.fb k h1).1
    · exact Nat.le_trans h.bel.size h1
  · rcases m.2 k hk2 with h1 | h1
    · exact h.ap k hk h1
    · have := (h.fa k hk).2; omega
end
end Go.Proofs.YtpmmbbkomikceaaDoor
