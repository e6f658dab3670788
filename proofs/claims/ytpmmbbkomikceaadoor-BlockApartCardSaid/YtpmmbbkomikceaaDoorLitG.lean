/- Slices of bytes in literals; '[]byte("..")' of a constant. -/
import Derived.Test.YtpmmbbkomikceaaDoorBytesG
import Derived.Lib.SlBytesConst
set_option linter.unusedVariables false
namespace Go.Proofs.YtpmmbbkomikceaaDoor
open Go Go.RowKit

/-- One slice of bytes in a literal: '..([]byte{..})'. -/
theorem lit_one (w : World) (bs : List UInt8) (A : Option Addr) (c : Nat) (hc : bs.length ≤ c) (hr : layB.Rd w A bs) (hb : bs ≠ [] → ∀ ad, A = some ad → ad.block < w.heap.size) :
    RdS (w.alloc (.cells #[.slice A bs.length c] 24)) (some ⟨w.heap.size, 0, none⟩) [⟨A, c, bs⟩] := by
  refine ⟨LayG.Rd.lit (L := layS) (E := 24) w #[.slice A bs.length c] [⟨A, c, bs⟩] rfl (by simp [maxLen]), fun z hz => ?_⟩
  rw [List.mem_singleton.1 hz]
  exact ⟨hc, hr.below (Nat.le_refl _) ((Below.refl _ _).alloc (Nat.le_refl _) _)⟩
theorem FreeS.new {w : World} {S : Nat → Prop} (hS : ∀ k, S k → k < w.heap.size) {A : Option Addr} {zs : List BsZ} (h1 : ∀ ad, A = some ad → w.heap.size ≤ ad.block) (h2 : ∀ z ∈ zs, ∀ ad, z.adr = some ad → w.heap.size ≤ ad.block) : FreeS S A zs :=
  ⟨fun _ ad e hs => by have := hS _ hs; have := h1 ad e; omega, fun z hz _ ad e hs => by have := hS _ hs; have := h2 z hz ad e; omega⟩
theorem conv_const (w : World) (C : Array Value) (n c : Nat) : (convert 24 24 (.slice (some ⟨w.heap.size, 0, none⟩) n c)).run Tryd.prog (w.alloc (.cells C 5)) = .ok (.slice (some ⟨w.heap.size, 0, none⟩) n c) (w.alloc (.cells C 5 (C.size, C.size + 1))) :=
  Lib.run_convert_bytes_const w 24 5 C n c Tryd.underlying24 Tryd.underlying5
/-- A literal's bytes, marked. -/
theorem rd_mark (w : World) (cs : Array Value) (bs : List UInt8) (e : TypeId) (fr : Nat × Nat) (he : cs.toList = bs.flatMap layB.enc) : layB.Rd (w.alloc (.cells cs e fr)) (some ⟨w.heap.size, 0, none⟩) bs := by
  intro k hk
  refine ⟨_, rfl, by simp, fun j u hu => ?_⟩
  cases j with
  | succ j => cases hu
  | zero =>
    have hu2 : u = .int .u8 ((bs.getD k default).toNat : Int) := (Option.some.inj hu).symm
    have ea : (⟨w.heap.size, 0, none⟩ : Addr).add (k * layB.size + 0) = ⟨w.heap.size, k, none⟩ := by
      rw [show k * layB.size + 0 = k from by show k * 1 + 0 = k; omega]
      unfold Addr.add
      split
      · next h => rw [h]
      · simp
    rw [ea, World.cell?_alloc_mark, ← Array.getElem?_toList, he, layB_flat, List.getElem?_map, List.getElem?_eq_getElem hk, hu2, List.getD_eq_getElem?_getD, List.getElem?_eq_getElem hk]
    rfl
/-- '[]byte("..")' of a constant as the one argument: the world, and what lies there. -/
theorem const_arg (w : World) (cs : Array Value) (bs : List UInt8) (he : cs.toList = bs.flatMap layB.enc) :
    RdS ((w.alloc (.cells cs 5 (cs.size, cs.size + 1))).alloc (.cells #[.slice (some ⟨w.heap.size, 0, none⟩) bs.length bs.length] 24)) (some ⟨w.heap.size + 1, 0, none⟩) [⟨some ⟨w.heap.size, 0, none⟩, bs.length, bs⟩] := by
  have h1 := rd_mark w cs bs 5 (cs.size, cs.size + 1) he
  have := lit_one (w.alloc (.cells cs 5 (cs.size, cs.size + 1))) bs (some ⟨w.heap.size, 0, none⟩) bs.length (Nat.le_refl _) h1 (fun _ ad e => by
    injection e with e
    rw [← e]
    simp)
  rwa [show (w.alloc (.cells cs 5 (cs.size, cs.size + 1))).heap.size = w.heap.size + 1 from by simp] at this
/-- Two slices of bytes in a literal. -/
theorem lit_two (w : World) (z y : BsZ) (hz : z.ok w) (hy : y.ok w) :
    RdS (w.alloc (.cells #[z.val, y.val] 24)) (some ⟨w.heap.size, 0, none⟩) [z, y] := by
  refine ⟨LayG.Rd.lit (L := layS) (E := 24) w #[z.val, y.val] [z, y] rfl (by simp [maxLen]), fun x hx => ?_⟩
  have hb := (Below.refl w.heap.size w).alloc (Nat.le_refl _) (.cells #[z.val, y.val] 24)
  rcases List.mem_cons.1 hx with rfl | hx
  · exact hz.below (Nat.le_refl _) hb
  · rw [List.mem_singleton.1 hx]; exact hy.below (Nat.le_refl _) hb
end Go.Proofs.YtpmmbbkomikceaaDoor
