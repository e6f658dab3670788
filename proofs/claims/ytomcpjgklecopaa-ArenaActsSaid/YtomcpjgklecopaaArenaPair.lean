/- The code's arena and the document's side by side: what each step leaves of the two. -/
import Derived.Test.YtomcpjgklecopaaArenaHeld
import Derived.Test.YtomcpjgklecopaaOpenA
import Derived.Deep.CutBlock
set_option linter.unusedVariables false
namespace Go.Proofs.Ytomcpjgklecopaa
open Go Go.RowKit

structure PairM (C : ArSpec) (w0 : World) (B1 N1 n : Nat) (w : World) (B2 N2 : Nat) (vF vT : Value) (fr tk : List H2) (fr2 tk2 : List H2) (S : Nat → Prop) : Prop where
  a : C.At w B1 N1 n fr tk S
  r : RefA w B2 N2 vF vT fr2 tk2
  ap : ∀ k, S k → ¬ footA N2 vF vT k
  lo : ∀ k, S k ∨ footA N2 vF vT k → w0.heap.size ≤ k
  bel : Below w0.heap.size w0 w
section
variable {C : ArSpec} {w0 : World} {B1 N1 n : Nat} {w w' : World} {B2 N2 : Nat} {vF vT : Value} {fr tk fr2 tk2 : List H2} {S : Nat → Prop}
theorem PairM.below (h : PairM C w0 B1 N1 n w B2 N2 vF vT fr tk fr2 tk2 S) (hb : Below w.heap.size w w') : PairM C w0 B1 N1 n w' B2 N2 vF vT fr tk fr2 tk2 S :=
  ⟨C.below h.a hb, h.r.below hb, h.ap, h.lo, h.bel.trans (hb.mono h.bel.size)⟩
theorem PairM.alloc (h : PairM C w0 B1 N1 n w B2 N2 vF vT fr tk fr2 tk2 S) (o : Obj) : PairM C w0 B1 N1 n (w.alloc o) B2 N2 vF vT fr tk fr2 tk2 S := h.below ((Below.refl _ _).alloc (Nat.le_refl _) o)
theorem PairM.foot (h : PairM C w0 B1 N1 n w B2 N2 vF vT fr tk fr2 tk2 S) : ∀ k, S k ∨ footA N2 vF vT k → k < w.heap.size := fun k hk => hk.elim (fun h1 => (C.foot h.a k h1).2) (fun h2 => (h.r.foot_lt k h2).2)
/-- The code's arena moved. -/
theorem PairM.moveA (h : PairM C w0 B1 N1 n w B2 N2 vF vT fr tk fr2 tk2 S) {fr' tk' : List H2} {S' : Nat → Prop} (ha : C.At w' B1 N1 n fr' tk' S') (m : Moved S S' w w') : PairM C w0 B1 N1 n w' B2 N2 vF vT fr' tk' fr2 tk2 S' := by
  refine ⟨ha, h.r.only m.1 (fun k hk hs => h.ap k hs hk), fun k hk hf => ?_, fun k hk => ?_, h.bel.trans (m.1.below h.bel.size (fun k hk => h.lo k (.inl hk)))⟩
  · rcases m.2 k hk with h1 | h1
    · exact h.ap k h1 hf
    · have := (h.r.foot_lt k hf).2; omega
  · rcases hk with hk | hk
    · rcases m.2 k hk with h1 | h1
      · exact h.lo k (.inl h1)
      · exact Nat.le_trans h.bel.size h1
    · exact h.lo k (.inr hk)
/-- The document's moved. -/
theorem PairM.moveR (h : PairM C w0 B1 N1 n w B2 N2 vF vT fr tk fr2 tk2 S) {vF' vT' : Value} {fr' tk' : List H2} (hr : RefA w' B2 N2 vF' vT' fr' tk') (ho : Only (footA N2 vF vT) w w') (hf : ∀ k, footA N2 vF' vT' k → footA N2 vF vT k ∨ w.heap.size ≤ k) :
    PairM C w0 B1 N1 n w' B2 N2 vF' vT' fr tk fr' tk' S := by
  refine ⟨C.only h.a ho (fun k hk hk2 => h.ap k hk hk2), hr, fun k hk hk2 => ?_, fun k hk => ?_, h.bel.trans (ho.below h.bel.size (fun k hk => h.lo k (.inr hk)))⟩
  · rcases hf k hk2 with h1 | h1
    · exact h.ap k hk h1
    · have := (C.foot h.a k hk).2; omega
  · rcases hk with hk | hk
    · exact h.lo k (.inl hk)
    · rcases hf k hk with h1 | h1
      · exact h.lo k (.inr h1)
      · exact Nat.le_trans h.bel.size h1
end
/-- What holds of the two lists. -/
def ActsI (n m : Nat) (fr tk : List H2) : Prop := OnceI n m fr tk tk []
theorem ActsI.start (n : Nat) : ActsI n 0 (slotsR n) [] := OnceI.start n
theorem ActsI.mono {n m m' : Nat} {fr tk : List H2} (h : ActsI n m fr tk) (hm : m ≤ m') : ActsI n m' fr tk := OnceI.mono h hm
theorem ActsI.many {n m : Nat} : ∀ (k : Nat) {fr tk : List H2}, ActsI n m fr tk → ActsI n m (fr.drop k) (tk ++ fr.take k)
  | 0, fr, tk, h => by rw [List.drop_zero, List.take_zero, List.append_nil]; exact h
  | k + 1, [], tk, h => by simpa using h
  | k + 1, z :: r, tk, h => by
    have := ActsI.many k (fr := r) (tk := tk ++ [z]) (OnceI.take h)
    rw [List.append_assoc] at this
    exact this
theorem goodF_tail {tk : List H2} {z : H2} {hs : List H2} (h : goodF tk (z :: hs)) : goodF (tk.filter (fun y => !(decide (y = z)))) hs := by
  have hn := List.nodup_cons.1 h.1
  refine ⟨hn.2, fun y hy => List.mem_filter.2 ⟨h.2 y (List.mem_cons_of_mem _ hy), ?_⟩⟩
  have : y ≠ z := fun e => hn.1 (by rw [← e]; exact hy)
  simp [this]
theorem ActsI.free {n : Nat} : ∀ (hs : List H2) {m : Nat} {fr tk : List H2}, ActsI n m fr tk → goodF tk hs → ActsI n (m + hs.length) (freeR fr tk hs).1 (freeR fr tk hs).2
  | [], m, fr, tk, h, _ => h
  | z :: hs, m, fr, tk, h, hg => by
    have h1 : OnceI n (m + 1) (bump z :: fr) (tk.filter (fun y => !(decide (y = z)))) (tk.filter (fun y => !(decide (y = z)))) ([] ++ [z]) := OnceI.free h (perm_filter_one (OnceI.nodup h) (hg.2 z List.mem_cons_self))
    have h2 : ActsI n (m + 1) (bump z :: fr) (tk.filter (fun y => !(decide (y = z)))) := ⟨h1.slots, h1.perm, (fun y hy => by cases hy), h1.count, h1.gens, (fun y hy => by cases hy)⟩
    have h3 := ActsI.free hs h2 (goodF_tail hg)
    rw [List.length_cons, show m + (hs.length + 1) = m + 1 + hs.length from by omega]
    exact h3
/-- No slot stands twice: who is named is named once. -/
theorem ActsI.named {n m : Nat} {fr tk : List H2} (h : ActsI n m fr tk) (hs : List H2) : (namedR tk hs).length ≤ hs.length := by
  have hn : (tk.map Prod.fst).Nodup := by
    have := h.slots
    rw [List.map_append] at this
    exact this.sublist (List.sublist_append_right _ _)
  have one : ∀ (l : List H2) (z : H2), (l.map Prod.fst).Nodup → (atSlot l z).length ≤ 1 := by
    intro l z
    induction l with
    | nil => intro _; exact Nat.zero_le _
    | cons y r ih =>
      intro hl
      rw [List.map_cons, List.nodup_cons] at hl
      unfold atSlot
      cases hy : (y.1 == z.1)
      · rw [List.filter_cons_of_neg (by rw [hy]; decide)]
        exact ih hl.2
      · rw [List.filter_cons_of_pos (by rw [hy])]
        have e : r.filter (fun y => y.1 == z.1) = [] := by
          rw [List.filter_eq_nil_iff]
          intro x hx hxz
          exact hl.1 (by rw [eq_of_beq hy, ← eq_of_beq hxz]; exact List.mem_map_of_mem hx)
        rw [e]
        exact Nat.le_refl _
  induction hs with
  | nil => exact Nat.zero_le _
  | cons z r ih =>
    unfold namedR at ih ⊢
    rw [List.flatMap_cons, List.length_append, List.length_cons]
    have := one tk z hn
    omega
set_option maxHeartbeats 4000000 in
set_option maxRecDepth 100000 in
theorem refManyBad_any (n : Int) (w : World) (B N : Nat) (vF vT : Value) (fr tk : List H2) (h : RefA w B N vF vT fr tk) (hn : n < 0 ∨ (fr.length : Int) < n) :
    Calls Try.prog 11 #[.pointer (some ⟨N, 0, none⟩), .int .i64 n] w fun e w' => e = .returned (.tuple #[.slice none 0 0, .int .i64 (if n < 0 then 2 else 50)]) ∧ w = w' := by
  obtain ⟨AF, cF, eF, hcF, hrdF, hF, hF0⟩ := h.rF.rd
  obtain ⟨c0, c1, f0, f1⟩ := h.cells
  rw [eF] at c0
  clear h hrdF hF hF0 c1 f0 f1 eF
  go_enter Try.func11, Try.ntmps11
  by_cases h0 : n < 0
  · rw [if_pos h0]
    go_wp2_with fail
    exact bodyPost_ret (v := .tuple #[.slice none 0 0, .int .i64 2]) (by simp [results, Try.results11, go_sem]) rfl ⟨rfl, rfl⟩
  · rw [if_neg h0]
    have h1 : (fr.length : Int) < n := by omega
    go_wp2_with fail
    exact bodyPost_ret (v := .tuple #[.slice none 0 0, .int .i64 50]) (by simp [results, Try.results11, go_sem]) rfl ⟨rfl, rfl⟩
theorem ArSpec.freeGood (C : ArSpec) {w : World} {B N n : Nat} {fr tk : List H2} {S : Nat → Prop} (A : Option Addr) (c : Nat) (hs : List H2) (h : C.At w B N n fr tk S) (hr : RdH w A hs) (hA : hs ≠ [] → ∀ ad, A = some ad → ¬ S ad.block) (hc : hs.length ≤ c) (hl : hs.length ≤ 2000) (hg : ∀ z ∈ tk, 0 ≤ z.2 ∧ z.2 ≤ 1000000000) (hi : ∀ z ∈ hs, I64H z.1) (good : goodF tk hs) :
    Calls Try.prog 14 #[.pointer (some ⟨N, 0, none⟩), .slice A hs.length c] w fun e w' => ∃ S', e = .returned (.int .i64 0) ∧ C.At w' B N n (freeR fr tk hs).1 (freeR fr tk hs).2 S' ∧ Moved S S' w w' :=
  (C.freeAny A c hs h hr hA hc hl hg hi).mono (by
    rintro e w' ⟨S', hm, ⟨_, he, ha⟩ | ⟨hb, _⟩⟩
    · exact ⟨S', he, ha, hm⟩
    · exact absurd good hb)
theorem ArSpec.freeBad (C : ArSpec) {w : World} {B N n : Nat} {fr tk : List H2} {S : Nat → Prop} (A : Option Addr) (c : Nat) (hs : List H2) (h : C.At w B N n fr tk S) (hr : RdH w A hs) (hA : hs ≠ [] → ∀ ad, A = some ad → ¬ S ad.block) (hc : hs.length ≤ c) (hl : hs.length ≤ 2000) (hg : ∀ z ∈ tk, 0 ≤ z.2 ∧ z.2 ≤ 1000000000) (hi : ∀ z ∈ hs, I64H z.1) (bad : ¬ goodF tk hs) :
    Calls Try.prog 14 #[.pointer (some ⟨N, 0, none⟩), .slice A hs.length c] w fun e w' => ∃ S', e = .returned (.int .i64 51) ∧ C.At w' B N n fr tk S' ∧ Moved S S' w w' :=
  (C.freeAny A c hs h hr hA hc hl hg hi).mono (by
    rintro e w' ⟨S', hm, ⟨hb, _⟩ | ⟨_, he, ha⟩⟩
    · exact absurd hb bad
    · exact ⟨S', he, ha, hm⟩)
theorem refFreeGood (A : Option Addr) (c : Nat) (hs : List H2) (w : World) (B N : Nat) (vF vT : Value) (fr tk : List H2) (h : RefA w B N vF vT fr tk) (hr : RdH w A hs) (hA : hs ≠ [] → ∀ ad, A = some ad → ad.block ≠ N) (hc : hs.length ≤ c) (hl : hs.length ≤ 1000) (hl1 : fr.length ≤ 1000) (hl2 : tk.length ≤ 1000)
    (hg : ∀ z ∈ tk, 0 ≤ z.2 ∧ z.2 ≤ 1000000000) (good : goodF tk hs) :
    Calls Try.prog 15 #[.pointer (some ⟨N, 0, none⟩), .slice A hs.length c] w fun e w' => ∃ vF' vT', e = .returned (.int .i64 0) ∧ RefA w' B N vF' vT' (freeR fr tk hs).1 (freeR fr tk hs).2 ∧ (∀ k, footA N vF' vT' k → footA N vF vT k ∨ w.heap.size ≤ k) ∧ Only (footA N vF vT) w w' :=
  (refFreeAll_any A c hs w B N vF vT fr tk h hr hA hc hl hl1 hl2 (fun z hz => by have := hg z hz; omega)).mono (by
    rintro e w' (⟨_, he, ⟨vF', vT', h1, h2⟩, h3⟩ | ⟨hb, _⟩)
    · exact ⟨vF', vT', he, h1, h2, h3.mono (fun x hx => .inl hx)⟩
    · exact absurd good hb)
theorem refFreeBad (A : Option Addr) (c : Nat) (hs : List H2) (w : World) (B N : Nat) (vF vT : Value) (fr tk : List H2) (h : RefA w B N vF vT fr tk) (hr : RdH w A hs) (hA : hs ≠ [] → ∀ ad, A = some ad → ad.block ≠ N) (hc : hs.length ≤ c) (hl : hs.length ≤ 1000) (hl1 : fr.length ≤ 1000) (hl2 : tk.length ≤ 1000)
    (hg : ∀ z ∈ tk, 0 ≤ z.2 ∧ z.2 ≤ 1000000000) (bad : ¬ goodF tk hs) :
    Calls Try.prog 15 #[.pointer (some ⟨N, 0, none⟩), .slice A hs.length c] w fun e w' => e = .returned (.int .i64 51) ∧ Below w.heap.size w w' :=
  (refFreeAll_any A c hs w B N vF vT fr tk h hr hA hc hl hl1 hl2 (fun z hz => by have := hg z hz; omega)).mono (by
    rintro e w' (⟨hb, _⟩ | ⟨_, he, h1⟩)
    · exact absurd hb bad
    · exact ⟨he, h1⟩)
/-- An act in a block of its own, apart from both arenas. -/
structure BoxA (w : World) (b : Nat) (z : ActZ) (S T : Nat → Prop) : Prop where
  cell : w.heap[b]? = some (.cells #[.int .i64 z.kind, .int .i64 z.num, .slice z.adr z.hs.length z.cap] 32 (0, 0))
  nS : ¬ S b
  nT : ¬ T b
section
variable {w w' : World} {b : Nat} {z : ActZ} {S T S' T' : Nat → Prop}
theorem BoxA.new (z : ActZ) (hS : ∀ k, S k ∨ T k → k < w.heap.size) : BoxA (w.alloc (.cells #[.int .i64 z.kind, .int .i64 z.num, .slice z.adr z.hs.length z.cap] 32)) w.heap.size z S T :=
  ⟨heap_alloc_new _ _, fun h => by have := hS _ (.inl h); omega, fun h => by have := hS _ (.inr h); omega⟩
theorem BoxA.lt (h : BoxA w b z S T) : b < w.heap.size := (Array.getElem?_eq_some_iff.1 h.cell).1
theorem BoxA.below (h : BoxA w b z S T) (hb : Below w.heap.size w w') : BoxA w' b z S T := ⟨(hb.block b h.lt).trans h.cell, h.nS, h.nT⟩
theorem BoxA.moveA (h : BoxA w b z S T) (m : Moved S S' w w') : BoxA w' b z S' T := ⟨(m.1.block b h.lt h.nS).trans h.cell, fun hs => (m.2 b hs).elim h.nS (fun h2 => by have := h.lt; omega), h.nT⟩
theorem BoxA.moveR (h : BoxA w b z S T) (ho : Only T w w') (hf : ∀ k, T' k → T k ∨ w.heap.size ≤ k) : BoxA w' b z S T' := ⟨(ho.block b h.lt h.nT).trans h.cell, h.nS, fun hs => (hf b hs).elim h.nT (fun h2 => by have := h.lt; omega)⟩
theorem BoxA.cells (h : BoxA w b z S T) : w.cell? { block := b, off := 0 } = some (.int .i64 z.kind) ∧ w.cell? { block := b, off := 1 } = some (.int .i64 z.num) ∧ w.cell? { block := b, off := 2 } = some (.slice z.adr z.hs.length z.cap) := by
  refine ⟨?_, ?_, ?_⟩
  · rw [cell_of_row w b 0 _ _ (0, 0) h.cell]; rfl
  · rw [cell_of_row w b 1 _ _ (0, 0) h.cell]; rfl
  · rw [cell_of_row w b 2 _ _ (0, 0) h.cell]; rfl
end
end Go.Proofs.Ytomcpjgklecopaa
