/- A disk that a walk holds: each call, its memory carried along. -/
import Derived.Test.YtebebbehiegleaaDiAwake
set_option linter.unusedVariables false
namespace Go.Proofs.Ytebebbehiegleaa
open Go Go.RowKit

structure HoldD (C : DiSpec) (w0 W : World) (B N n : Nat) (bs : List UInt8) (sf : Nat) (S : Nat → Prop) : Prop where
  at_ : C.At W B N n bs sf S
  lo : ∀ k, S k → w0.heap.size ≤ k
  bel : Below w0.heap.size w0 W
section
variable {C : DiSpec} {w0 W W' : World} {B N n : Nat} {bs : List UInt8} {sf : Nat} {S S' : Nat → Prop}
theorem HoldD.below (h : HoldD C w0 W B N n bs sf S) (hb : Below W.heap.size W W') : HoldD C w0 W' B N n bs sf S := ⟨C.below h.at_ hb, h.lo, h.bel.trans (hb.mono h.bel.size)⟩
theorem HoldD.alloc (h : HoldD C w0 W B N n bs sf S) (o : Obj) : HoldD C w0 (W.alloc o) B N n bs sf S := h.below ((Below.refl _ _).alloc (Nat.le_refl _) o)
theorem HoldD.drew (h : HoldD C w0 W B N n bs sf S) : HoldD C w0 W.drew B N n bs sf S := h.below (Below.refl _ _).drew
theorem HoldD.moved {bs' : List UInt8} {sf' : Nat} (h : HoldD C w0 W B N n bs sf S) (a : C.At W' B N n bs' sf' S') (m : Moved S S' W W') : HoldD C w0 W' B N n bs' sf' S' :=
  ⟨a, fun k hk => by
    rcases m.2 k hk with h1 | h1
    · exact h.lo k h1
    · exact Nat.le_trans h.bel.size h1, m.below h.bel h.lo⟩
theorem HoldD.new (C : DiSpec) (w0 W : World) (hb : Below w0.heap.size w0 W) (n : Nat) (hn : n ≤ 1073741824) : Calls Try.prog 8 #[.int .i64 (n : Nat)] W fun e w' => ∃ N S, e = .returned (.tuple #[.pointer (some ⟨N, 0, none⟩), .int .i64 0]) ∧ HoldD C w0 w' W.heap.size N n [] 0 S :=
  (C.new_ n W hn).mono (by
    rintro e w' ⟨N, S, he, ha, hb2⟩
    exact ⟨N, S, he, ha, fun k hk => Nat.le_trans hb.size (C.foot ha k hk).1, hb.trans (hb2.mono hb.size)⟩)
theorem HoldD.app (h : HoldD C w0 W B N n bs sf S) (A : Option Addr) (c : Nat) (zs : List BsZ) (hr : RdS W A zs) (hf : FreeS S A zs) (hc : zs.length ≤ c) (hl : zs.length ≤ 1000) (hz : (catS zs).length ≤ 300000) (hbl : bs.length ≤ 300000) (hn : bs.length + (catS zs).length ≤ n) :
    Calls Try.prog 9 #[.pointer (some ⟨N, 0, none⟩), .slice A zs.length c] W fun e w' => ∃ S', e = .returned (.int .i64 0) ∧ HoldD C w0 w' B N n (bs ++ catS zs) sf S' :=
  (C.app_ A c zs h.at_ hr hf hc hl hz hbl hn).mono (by
    rintro e w' ⟨S', he, ha, hm⟩
    exact ⟨S', he, h.moved ha hm⟩)
theorem HoldD.appFull (h : HoldD C w0 W B N n bs sf S) (A : Option Addr) (c : Nat) (zs : List BsZ) (hr : RdS W A zs) (hf : FreeS S A zs) (hc : zs.length ≤ c) (hl : zs.length ≤ 1000) (hz : (catS zs).length ≤ 300000) (hbl : bs.length ≤ 300000) (hn : ¬ bs.length + (catS zs).length ≤ n) :
    Calls Try.prog 9 #[.pointer (some ⟨N, 0, none⟩), .slice A zs.length c] W fun e w' => ∃ S', e = .returned (.int .i64 50) ∧ HoldD C w0 w' B N n bs sf S' :=
  (C.appFull A c zs h.at_ hr hf hc hl hz hbl hn).mono (by
    rintro e w' ⟨S', he, ha, hm⟩
    exact ⟨S', he, h.moved ha hm⟩)
/-- One slice that lies below w0, or in a block that is none of the disk's. -/
theorem HoldD.free1 (h : HoldD C w0 W B N n bs sf S) (A : Option Addr) (c : Nat) (zs : List UInt8) (hA : zs ≠ [] → ∀ ad, A = some ad → ¬ S ad.block) : FreeS S (some ⟨W.heap.size, 0, none⟩) [⟨A, c, zs⟩] := by
  refine ⟨fun _ ad e hs => ?_, fun z hz hne ad e => ?_⟩
  · injection e with e
    rw [← e] at hs
    exact Nat.lt_irrefl _ (C.foot h.at_ _ hs).2
  · rw [List.mem_singleton.1 hz] at hne e
    exact hA hne ad e
theorem HoldD.app1 (h : HoldD C w0 W B N n bs sf S) (A : Option Addr) (c : Nat) (zs : List UInt8) (hr : layB.Rd W A zs) (hA : zs ≠ [] → ∀ ad, A = some ad → ¬ S ad.block) (hc : zs.length ≤ c) (hz : zs.length ≤ 300000) (hbl : bs.length ≤ 300000) (hn : bs.length + zs.length ≤ n) (l : Nat) (hl : zs.length = l) :
    Calls Try.prog 9 #[.pointer (some ⟨N, 0, none⟩), .slice (some ⟨W.heap.size, 0, none⟩) 1 1] (W.alloc (.cells #[.slice A l c] 29)) fun e w' => ∃ S', e = .returned (.int .i64 0) ∧ HoldD C w0 w' B N n (bs ++ zs) sf S' := by
  subst hl
  have hr1 := lit_one W zs A c hc hr (fun hne ad e => by
    obtain ⟨ae, e2, hb, _⟩ := hr 0 (List.length_pos_iff.2 hne)
    obtain rfl : ad = ae := by rw [e] at e2; injection e2
    exact hb)
  have hcat : catS [⟨A, c, zs⟩] = zs := by simp [catS]
  have := (h.alloc (.cells #[.slice A zs.length c] 29)).app (some ⟨W.heap.size, 0, none⟩) 1 [⟨A, c, zs⟩] hr1 (h.free1 A c zs hA) (Nat.le_refl _) (by show 1 ≤ 1000; decide) (by rw [hcat]; exact hz) hbl (by rw [hcat]; exact hn)
  rw [hcat] at this
  exact this
theorem HoldD.app1Full (h : HoldD C w0 W B N n bs sf S) (A : Option Addr) (c : Nat) (zs : List UInt8) (hr : layB.Rd W A zs) (hA : zs ≠ [] → ∀ ad, A = some ad → ¬ S ad.block) (hc : zs.length ≤ c) (hz : zs.length ≤ 300000) (hbl : bs.length ≤ 300000) (hn : ¬ bs.length + zs.length ≤ n) (l : Nat) (hl : zs.length = l) :
    Calls Try.prog 9 #[.pointer (some ⟨N, 0, none⟩), .slice (some ⟨W.heap.size, 0, none⟩) 1 1] (W.alloc (.cells #[.slice A l c] 29)) fun e w' => ∃ S', e = .returned (.int .i64 50) ∧ HoldD C w0 w' B N n bs sf S' := by
  subst hl
  have hr1 := lit_one W zs A c hc hr (fun hne ad e => by
    obtain ⟨ae, e2, hb, _⟩ := hr 0 (List.length_pos_iff.2 hne)
    obtain rfl : ad = ae := by rw [e] at e2; injection e2
    exact hb)
  have hcat : catS [⟨A, c, zs⟩] = zs := by simp [catS]
  exact (h.alloc (.cells #[.slice A zs.length c] 29)).appFull (some ⟨W.heap.size, 0, none⟩) 1 [⟨A, c, zs⟩] hr1 (h.free1 A c zs hA) (Nat.le_refl _) (by show 1 ≤ 1000; decide) (by rw [hcat]; exact hz) hbl (by rw [hcat]; exact hn)
theorem HoldD.flush (h : HoldD C w0 W B N n bs sf S) (l : Nat) (hl : bs.length = l) : Calls Try.prog 12 #[.pointer (some ⟨N, 0, none⟩)] W fun e w' => ∃ S', e = .returned (.int .i64 (l : Nat)) ∧ HoldD C w0 w' B N n bs l S' := by
  subst hl
  exact (C.flush_ h.at_).mono (by
    rintro e w' ⟨S', he, ha, hm⟩
    exact ⟨S', he, h.moved ha hm⟩)
theorem HoldD.crash (h : HoldD C w0 W B N n bs sf S) (keep : Int) (hk : I64 keep) (hl : bs.length ≤ 600000) (q : Nat) (hq : keepR bs sf keep = q) : Calls Try.prog 13 #[.pointer (some ⟨N, 0, none⟩), .int .i64 keep] W fun e w' =>
    ∃ S', e = .returned (.int .i64 (q : Nat)) ∧ HoldD C w0 w' B N n (bs.take q) q S' := by
  subst hq
  exact (C.crash_ keep h.at_ hk hl).mono (by
    rintro e w' ⟨S', he, ha, hm⟩
    exact ⟨S', he, h.moved ha hm⟩)
theorem HoldD.cut (h : HoldD C w0 W B N n bs sf S) (m : Nat) (hm : m ≤ bs.length) (hl : bs.length ≤ 600000) : Calls Try.prog 14 #[.pointer (some ⟨N, 0, none⟩), .int .i64 (m : Nat)] W fun e w' =>
    ∃ S', e = .returned (.int .i64 0) ∧ HoldD C w0 w' B N n (bs.take m) m S' :=
  (C.cut_ m h.at_ hm hl).mono (by
    rintro e w' ⟨S', he, ha, hm⟩
    exact ⟨S', he, h.moved ha hm⟩)
theorem HoldD.cutBad (h : HoldD C w0 W B N n bs sf S) (m : Int) (hi : I64 m) (hm : m < 0 ∨ (bs.length : Int) < m) (hl : bs.length ≤ 600000) : Calls Try.prog 14 #[.pointer (some ⟨N, 0, none⟩), .int .i64 m] W fun e w' =>
    ∃ S', e = .returned (.int .i64 2) ∧ HoldD C w0 w' B N n bs sf S' :=
  (C.cutBad m h.at_ hi hm hl).mono (by
    rintro e w' ⟨S', he, ha, hm⟩
    exact ⟨S', he, h.moved ha hm⟩)
theorem HoldD.bytes (h : HoldD C w0 W B N n bs sf S) (hl : bs.length ≤ 600000) (l : Nat) (hll : bs.length = l) : Calls Try.prog 16 #[.pointer (some ⟨N, 0, none⟩)] W fun e w' => ∃ v, e = .returned v ∧ layB.Row 5 w' W.heap.size v l bs ∧ HoldD C w0 w' B N n bs sf S ∧ Below W.heap.size W w' := by
  subst hll
  exact (C.bytes_ h.at_ hl).mono (by
    rintro e w' ⟨v, he, hr, hb⟩
    exact ⟨v, he, hr, h.below hb, hb⟩)
theorem HoldD.len (h : HoldD C w0 W B N n bs sf S) (l : Nat) (hl : bs.length = l) : Calls Try.prog 17 #[.pointer (some ⟨N, 0, none⟩)] W fun e w' => e = .returned (.int .i64 (l : Nat)) ∧ HoldD C w0 w' B N n bs sf S ∧ Below W.heap.size W w' := by
  subst hl
  exact (C.len_ h.at_).mono (by
    rintro e w' ⟨he, hb⟩
    exact ⟨he, h.below hb, hb⟩)
theorem HoldD.safe (h : HoldD C w0 W B N n bs sf S) : Calls Try.prog 18 #[.pointer (some ⟨N, 0, none⟩)] W fun e w' => e = .returned (.int .i64 (sf : Nat)) ∧ HoldD C w0 w' B N n bs sf S ∧ Below W.heap.size W w' :=
  (C.safe_ h.at_).mono (by
    rintro e w' ⟨he, hb⟩
    exact ⟨he, h.below hb, hb⟩)
theorem HoldD.left (h : HoldD C w0 W B N n bs sf S) (l : Nat) (hl : n - bs.length = l) : Calls Try.prog 19 #[.pointer (some ⟨N, 0, none⟩)] W fun e w' => e = .returned (.int .i64 (l : Nat)) ∧ HoldD C w0 w' B N n bs sf S ∧ Below W.heap.size W w' := by
  subst hl
  exact (C.left_ h.at_).mono (by
    rintro e w' ⟨he, hb⟩
    exact ⟨he, h.below hb, hb⟩)
end
end Go.Proofs.Ytebebbehiegleaa
