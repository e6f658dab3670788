/- What the laws of layer 5 ask of an arena: a reading of its memory, and what each call answers (to be shown of the code). -/
import Derived.Test.YtomcpjgklecopaaArenaNamed
set_option linter.unusedVariables false
namespace Go.Proofs.Ytomcpjgklecopaa
open Go Go.RowKit

/-- Only these blocks were written; those of the reading behind it are these or new. -/
def Moved (S S' : Nat → Prop) (w w' : World) : Prop := Only S w w' ∧ ∀ k, S' k → S k ∨ w.heap.size ≤ k
def I64H (x : Int) : Prop := -9223372036854775808 ≤ x ∧ x ≤ 9223372036854775807
theorem one64 {a b : Int} (h : I64H a) : ∀ z ∈ [((a, b) : H2)], I64H z.1 := fun z hz => by rw [List.mem_singleton.1 hz]; exact h
structure ArSpec where
  /-- world, base, block, room, what is free (the next one first), what is taken, its blocks -/
  At : World → Nat → Nat → Nat → List H2 → List H2 → (Nat → Prop) → Prop
  foot : ∀ {w : World} {B N n : Nat} {fr tk : List H2} {S : Nat → Prop}, At w B N n fr tk S → ∀ k, S k → B ≤ k ∧ k < w.heap.size
  only : ∀ {w w' : World} {B N n : Nat} {fr tk : List H2} {S T : Nat → Prop}, At w B N n fr tk S → Only T w w' → (∀ k, S k → ¬ T k) → At w' B N n fr tk S
  rng : ∀ {w : World} {B N n : Nat} {fr tk : List H2} {S : Nat → Prop}, At w B N n fr tk S → ∀ z ∈ fr ++ tk, I64H z.1
  new_ : ∀ (n : Nat) (w : World), n ≤ 1000000 → Calls Try.prog 8 #[.int .i64 (n : Nat)] w fun e w' => ∃ N S, e = .returned (.tuple #[.pointer (some ⟨N, 0, none⟩), .int .i64 0]) ∧ At w' w.heap.size N n (slotsR n) [] S ∧ Below w.heap.size w w'
  newBad : ∀ (n : Int) (w : World), n < 0 ∨ 1048576 < n → Calls Try.prog 8 #[.int .i64 n] w fun e w' => e = .returned (.tuple #[.pointer none, .int .i64 2]) ∧ Below w.heap.size w w'
  take_ : ∀ {w : World} {B N n : Nat} {fr tk : List H2} {S : Nat → Prop}, At w B N n fr tk S → Calls Try.prog 10 #[.pointer (some ⟨N, 0, none⟩)] w fun e w' =>
    ∃ S', e = .returned (.tuple #[handV (fr.headD H2.no), .int .i64 (if fr.isEmpty then 50 else 0)]) ∧ At w' B N n fr.tail (tk ++ fr.take 1) S' ∧ Moved S S' w w'
  many_ : ∀ {w : World} {B N n : Nat} {fr tk : List H2} {S : Nat → Prop} (m : Nat), At w B N n fr tk S → m ≤ fr.length → Calls Try.prog 12 #[.pointer (some ⟨N, 0, none⟩), .int .i64 (m : Nat)] w fun e w' =>
    ∃ v S', e = .returned (.tuple #[v, .int .i64 0]) ∧ HRow w' w.heap.size v m (fr.take m) ∧ At w' B N n (fr.drop m) (tk ++ fr.take m) S' ∧ Moved S S' w w' ∧ (∀ g, v.ownBlock = some g → ¬ S' g)
  manyBad : ∀ {w : World} {B N n : Nat} {fr tk : List H2} {S : Nat → Prop} (m : Int), At w B N n fr tk S → I64H m → m < 0 ∨ (fr.length : Int) < m → Calls Try.prog 12 #[.pointer (some ⟨N, 0, none⟩), .int .i64 m] w fun e w' =>
    ∃ v, e = .returned (.tuple #[v, .int .i64 (if m < 0 then 2 else 50)]) ∧ HRow w' w.heap.size v 0 [] ∧ Below w.heap.size w w'
  freeAny : ∀ {w : World} {B N n : Nat} {fr tk : List H2} {S : Nat → Prop} (A : Option Addr) (c : Nat) (hs : List H2), At w B N n fr tk S → RdH w A hs → (hs ≠ [] → ∀ ad, A = some ad → ¬ S ad.block) → hs.length ≤ c → hs.length ≤ 2000 → (∀ z ∈ tk, 0 ≤ z.2 ∧ z.2 ≤ 1000000000) → (∀ z ∈ hs, I64H z.1) →
    Calls Try.prog 14 #[.pointer (some ⟨N, 0, none⟩), .slice A hs.length c] w fun e w' => ∃ S', Moved S S' w w' ∧
      ((goodF tk hs ∧ e = .returned (.int .i64 0) ∧ At w' B N n (freeR fr tk hs).1 (freeR fr tk hs).2 S') ∨ (¬ goodF tk hs ∧ e = .returned (.int .i64 51) ∧ At w' B N n fr tk S'))
  live_ : ∀ {w : World} {B N n : Nat} {fr tk : List H2} {S : Nat → Prop} (z : H2), I64H z.1 → At w B N n fr tk S → Calls Try.prog 19 #[.pointer (some ⟨N, 0, none⟩), handV z] w fun e w' => e = .returned (.bool (decide (z ∈ tk))) ∧ Below w.heap.size w w'
  len_ : ∀ {w : World} {B N n : Nat} {fr tk : List H2} {S : Nat → Prop}, At w B N n fr tk S → Calls Try.prog 17 #[.pointer (some ⟨N, 0, none⟩)] w fun e w' => e = .returned (.int .i64 (tk.length : Nat)) ∧ Below w.heap.size w w'
  room_ : ∀ {w : World} {B N n : Nat} {fr tk : List H2} {S : Nat → Prop}, At w B N n fr tk S → Calls Try.prog 18 #[.pointer (some ⟨N, 0, none⟩)] w fun e w' => e = .returned (.int .i64 (n : Nat)) ∧ Below w.heap.size w w'
theorem ArSpec.free_ (C : ArSpec) {w : World} {B N n : Nat} {fr tk : List H2} {S : Nat → Prop} (A : Option Addr) (c : Nat) (hs : List H2) (h : C.At w B N n fr tk S) (hr : RdH w A hs) (hA : ∀ ad, A = some ad → ¬ S ad.block) (hc : hs.length ≤ c) (hl : hs.length ≤ 2000) (hg : ∀ z ∈ tk, 0 ≤ z.2 ∧ z.2 ≤ 1000000000) (hi : ∀ z ∈ hs, I64H z.1) :
    Calls Try.prog 14 #[.pointer (some ⟨N, 0, none⟩), .slice A hs.length c] w fun e w' => ∃ S', Moved S S' w w' ∧
      ((goodF tk hs ∧ e = .returned (.int .i64 0) ∧ C.At w' B N n (freeR fr tk hs).1 (freeR fr tk hs).2 S') ∨ (¬ goodF tk hs ∧ e = .returned (.int .i64 51) ∧ C.At w' B N n fr tk S')) := C.freeAny A c hs h hr (fun _ => hA) hc hl hg hi
/-- A handle in a block of its own, apart from an arena's. -/
def BoxH (W : World) (k : Nat) (z : H2) (S : Nat → Prop) : Prop := W.heap[k]? = some (.cells #[.int .i64 z.1, .int .i64 z.2] 34 (0, 0)) ∧ ¬ S k
theorem BoxH.new {w : World} {S : Nat → Prop} (hS : ∀ k, S k → k < w.heap.size) (z : H2) : BoxH (w.alloc (.cells #[.int .i64 z.1, .int .i64 z.2] 34)) w.heap.size z S := ⟨heap_alloc_new _ _, fun h => by have := hS _ h; omega⟩
theorem BoxH.lt {W : World} {k : Nat} {z : H2} {S : Nat → Prop} (h : BoxH W k z S) : k < W.heap.size := (Array.getElem?_eq_some_iff.1 h.1).1
theorem BoxH.moved {W W' : World} {k : Nat} {z : H2} {S S' : Nat → Prop} (h : BoxH W k z S) (m : Moved S S' W W') : BoxH W' k z S' :=
  ⟨(m.1.block k h.lt h.2).trans h.1, fun hs => by
    rcases m.2 k hs with h1 | h1
    · exact h.2 h1
    · have := h.lt; omega⟩
theorem BoxH.below {W W' : World} {k : Nat} {z : H2} {S : Nat → Prop} (h : BoxH W k z S) (m : Below W.heap.size W W') : BoxH W' k z S := ⟨(m.block k h.lt).trans h.1, h.2⟩
theorem BoxH.cells {W : World} {k : Nat} {z : H2} {S : Nat → Prop} (h : BoxH W k z S) : W.cell? { block := k, off := 0 } = some (.int .i64 z.1) ∧ W.cell? { block := k, off := 1 } = some (.int .i64 z.2) := by
  refine ⟨?_, ?_⟩
  · rw [cell_of_row W k 0 _ _ (0, 0) h.1]; rfl
  · rw [cell_of_row W k 1 _ _ (0, 0) h.1]; rfl
theorem BoxH.alloc {W : World} {k : Nat} {z : H2} {S : Nat → Prop} (h : BoxH W k z S) (o : Obj) : BoxH (W.alloc o) k z S := ⟨(Below.heap_alloc _ _ _ h.lt).trans h.1, h.2⟩
theorem ArSpec.alloc (C : ArSpec) {w : World} {B N n : Nat} {fr tk : List H2} {S : Nat → Prop} (h : C.At w B N n fr tk S) (o : Obj) : C.At (w.alloc o) B N n fr tk S := C.only (T := NoB) h ((Only.refl _ w).alloc o) (fun _ _ h => h)
theorem ArSpec.below (C : ArSpec) {w w' : World} {B N n : Nat} {fr tk : List H2} {S : Nat → Prop} (h : C.At w B N n fr tk S) (hb : Below w.heap.size w w') : C.At w' B N n fr tk S := C.only (T := NoB) h (Below.only hb) (fun _ _ h => h)
theorem Moved.below {w0 w w' : World} {S S' : Nat → Prop} (m : Moved S S' w w') (hb : Below w0.heap.size w0 w) (hS : ∀ k, S k → w0.heap.size ≤ k) : Below w0.heap.size w0 w' := hb.trans (m.1.below hb.size hS)
set_option maxHeartbeats 2000000 in
set_option maxRecDepth 100000 in
theorem handle_any (a b : Int) (w : World) : Calls Try.prog 21 #[.int .i64 a, .int .i64 b] w fun e w' => e = .returned (handV (a, b)) ∧ Below w.heap.size w w' := by
  have hb : Below w.heap.size w (w.alloc (.cells #[.int .i64 a, .int .i64 b] 34)) := (Below.refl _ _).alloc (Nat.le_refl _) _
  have d0 : (w.alloc (.cells #[.int .i64 a, .int .i64 b] 34)).cell? { block := w.heap.size, off := 0 } = some (.int .i64 a) := by rw [World.cell?_alloc_mark]; rfl
  have d1 : (w.alloc (.cells #[.int .i64 a, .int .i64 b] 34)).cell? { block := w.heap.size, off := 1 } = some (.int .i64 b) := by rw [World.cell?_alloc_mark]; rfl
  go_enter Try.func21, Try.ntmps21
  go_wp2_with fail
  exact bodyPost_ret (v := handV (a, b)) (by simp [results, Try.results21, go_sem, handV, d0, d1]) rfl ⟨rfl, hb⟩
end Go.Proofs.Ytomcpjgklecopaa
