/- What the laws of layer 7 ask of a disk: a reading of its memory, and what each call answers (to be shown of the code). -/
import Derived.Test.YtebebbehiegleaaDiRef
set_option linter.unusedVariables false
namespace Go.Proofs.Ytebebbehiegleaa
open Go Go.RowKit

/-- How many stay behind a crash. -/
def keepR (bs : List UInt8) (sf : Nat) (keep : Int) : Nat := sf + min keep.toNat (bs.length - sf)
structure DiSpec where
  /-- world, base, block, room, bytes, how many are safe, its blocks -/
  At : World → Nat → Nat → Nat → List UInt8 → Nat → (Nat → Prop) → Prop
  foot : ∀ {w : World} {B N n : Nat} {bs : List UInt8} {sf : Nat} {S : Nat → Prop}, At w B N n bs sf S → ∀ k, S k → B ≤ k ∧ k < w.heap.size
  only : ∀ {w w' : World} {B N n : Nat} {bs : List UInt8} {sf : Nat} {S T : Nat → Prop}, At w B N n bs sf S → Only T w w' → (∀ k, S k → ¬ T k) → At w' B N n bs sf S
  inv : ∀ {w : World} {B N n : Nat} {bs : List UInt8} {sf : Nat} {S : Nat → Prop}, At w B N n bs sf S → sf ≤ bs.length ∧ bs.length ≤ n ∧ n ≤ 1073741824
  new_ : ∀ (n : Nat) (w : World), n ≤ 1073741824 → Calls Try.prog 8 #[.int .i64 (n : Nat)] w fun e w' => ∃ N S, e = .returned (.tuple #[.pointer (some ⟨N, 0, none⟩), .int .i64 0]) ∧ At w' w.heap.size N n [] 0 S ∧ Below w.heap.size w w'
  newBad : ∀ (n : Int) (w : World), I64 n → n < 0 ∨ 1073741824 < n → Calls Try.prog 8 #[.int .i64 n] w fun e w' => e = .returned (.tuple #[.pointer none, .int .i64 2]) ∧ Below w.heap.size w w'
  app_ : ∀ {w : World} {B N n : Nat} {bs : List UInt8} {sf : Nat} {S : Nat → Prop} (A : Option Addr) (c : Nat) (zs : List BsZ), At w B N n bs sf S → RdS w A zs → FreeS S A zs → zs.length ≤ c → zs.length ≤ 1000 → (catS zs).length ≤ 300000 → bs.length ≤ 300000 → bs.length + (catS zs).length ≤ n →
    Calls Try.prog 9 #[.pointer (some ⟨N, 0, none⟩), .slice A zs.length c] w fun e w' => ∃ S', e = .returned (.int .i64 0) ∧ At w' B N n (bs ++ catS zs) sf S' ∧ Moved S S' w w'
  appFull : ∀ {w : World} {B N n : Nat} {bs : List UInt8} {sf : Nat} {S : Nat → Prop} (A : Option Addr) (c : Nat) (zs : List BsZ), At w B N n bs sf S → RdS w A zs → FreeS S A zs → zs.length ≤ c → zs.length ≤ 1000 → (catS zs).length ≤ 300000 → bs.length ≤ 300000 → ¬ bs.length + (catS zs).length ≤ n →
    Calls Try.prog 9 #[.pointer (some ⟨N, 0, none⟩), .slice A zs.length c] w fun e w' => ∃ S', e = .returned (.int .i64 50) ∧ At w' B N n bs sf S' ∧ Moved S S' w w'
  flush_ : ∀ {w : World} {B N n : Nat} {bs : List UInt8} {sf : Nat} {S : Nat → Prop}, At w B N n bs sf S → Calls Try.prog 12 #[.pointer (some ⟨N, 0, none⟩)] w fun e w' => ∃ S', e = .returned (.int .i64 (bs.length : Nat)) ∧ At w' B N n bs bs.length S' ∧ Moved S S' w w'
  crash_ : ∀ {w : World} {B N n : Nat} {bs : List UInt8} {sf : Nat} {S : Nat → Prop} (keep : Int), At w B N n bs sf S → I64 keep → bs.length ≤ 600000 → Calls Try.prog 13 #[.pointer (some ⟨N, 0, none⟩), .int .i64 keep] w fun e w' =>
    ∃ S', e = .returned (.int .i64 (keepR bs sf keep : Nat)) ∧ At w' B N n (bs.take (keepR bs sf keep)) (keepR bs sf keep) S' ∧ Moved S S' w w'
  cut_ : ∀ {w : World} {B N n : Nat} {bs : List UInt8} {sf : Nat} {S : Nat → Prop} (m : Nat), At w B N n bs sf S → m ≤ bs.length → bs.length ≤ 600000 → Calls Try.prog 14 #[.pointer (some ⟨N, 0, none⟩), .int .i64 (m : Nat)] w fun e w' =>
    ∃ S', e = .returned (.int .i64 0) ∧ At w' B N n (bs.take m) m S' ∧ Moved S S' w w'
  cutBad : ∀ {w : World} {B N n : Nat} {bs : List UInt8} {sf : Nat} {S : Nat → Prop} (m : Int), At w B N n bs sf S → I64 m → m < 0 ∨ (bs.length : Int) < m → bs.length ≤ 600000 → Calls Try.prog 14 #[.pointer (some ⟨N, 0, none⟩), .int .i64 m] w fun e w' =>
    ∃ S', e = .returned (.int .i64 2) ∧ At w' B N n bs sf S' ∧ Moved S S' w w'
  bytes_ : ∀ {w : World} {B N n : Nat} {bs : List UInt8} {sf : Nat} {S : Nat → Prop}, At w B N n bs sf S → bs.length ≤ 600000 → Calls Try.prog 16 #[.pointer (some ⟨N, 0, none⟩)] w fun e w' => ∃ v, e = .returned v ∧ layB.Row 5 w' w.heap.size v bs.length bs ∧ Below w.heap.size w w'
  len_ : ∀ {w : World} {B N n : Nat} {bs : List UInt8} {sf : Nat} {S : Nat → Prop}, At w B N n bs sf S → Calls Try.prog 17 #[.pointer (some ⟨N, 0, none⟩)] w fun e w' => e = .returned (.int .i64 (bs.length : Nat)) ∧ Below w.heap.size w w'
  safe_ : ∀ {w : World} {B N n : Nat} {bs : List UInt8} {sf : Nat} {S : Nat → Prop}, At w B N n bs sf S → Calls Try.prog 18 #[.pointer (some ⟨N, 0, none⟩)] w fun e w' => e = .returned (.int .i64 (sf : Nat)) ∧ Below w.heap.size w w'
  left_ : ∀ {w : World} {B N n : Nat} {bs : List UInt8} {sf : Nat} {S : Nat → Prop}, At w B N n bs sf S → Calls Try.prog 19 #[.pointer (some ⟨N, 0, none⟩)] w fun e w' => e = .returned (.int .i64 ((n - bs.length : Nat) : Int)) ∧ Below w.heap.size w w'
theorem DiSpec.st (C : DiSpec) (B N n : Nat) (bs : List UInt8) (sf : Nat) (S : Nat → Prop) : Stable (fun w => C.At w B N n bs sf S) S := fun w w' T h ho hS => C.only h ho hS
theorem RefK.st (B N room : Nat) (vS vR : Value) (sf rs : List UInt8) : Stable (fun w => RefK w B N room vS vR sf rs) (footK N vS vR) := fun w w' T h ho hS => h.only ho hS
theorem DiSpec.below (C : DiSpec) {w w' : World} {B N n : Nat} {bs : List UInt8} {sf : Nat} {S : Nat → Prop} (h : C.At w B N n bs sf S) (hb : Below w.heap.size w w') : C.At w' B N n bs sf S := (C.st B N n bs sf S).below h hb
theorem DiSpec.alloc (C : DiSpec) {w : World} {B N n : Nat} {bs : List UInt8} {sf : Nat} {S : Nat → Prop} (h : C.At w B N n bs sf S) (o : Obj) : C.At (w.alloc o) B N n bs sf S := C.below h ((Below.refl _ _).alloc (Nat.le_refl _) o)
theorem DiSpec.drew (C : DiSpec) {w : World} {B N n : Nat} {bs : List UInt8} {sf : Nat} {S : Nat → Prop} (h : C.At w B N n bs sf S) : C.At w.drew B N n bs sf S := C.below h (Below.refl _ _).drew
end Go.Proofs.Ytebebbehiegleaa
