/- The landed arena: hold, Many. -/
import Derived.Test.YtomcpjgklecopaaArenaCode3
set_option linter.unusedVariables false
namespace Go.Proofs.Ytomcpjgklecopaa
open Go Go.RowKit

def holdG (g : Int → Option Value) (hs : List H2) : Int → Option Value := hs.foldl (fun g h => putK g h.1 (some (.int .i64 h.2))) g
theorem holdG_succ (g : Int → Option Value) (hs : List H2) (k : Nat) (h : k < hs.length) : holdG g (hs.take (k + 1)) = putK (holdG g (hs.take k)) (hs.getD k H2.no).1 (some (.int .i64 (hs.getD k H2.no).2)) := by
  unfold holdG
  rw [List.take_succ_eq_append_getElem h, List.foldl_append]
  simp [List.getD_eq_getElem?_getD, List.getElem?_eq_getElem h]
theorem holdG_other : ∀ (hs : List H2) (g : Int → Option Value) (x : Int), (∀ h ∈ hs, h.1 ≠ x) → holdG g hs x = g x
  | [], g, x, _ => rfl
  | h :: r, g, x, hx => by
    show holdG (putK g h.1 _) r x = g x
    rw [holdG_other r _ x (fun y hy => hx y (List.mem_cons_of_mem _ hy)), putK_other _ _ _ _ (fun e => hx h List.mem_cons_self e.symm)]
theorem holdG_free {g : Int → Option Value} {hs : List H2} {k : Nat} (hk : k < hs.length) (hn : (hs.map Prod.fst).Nodup) (hg : ∀ h ∈ hs, g h.1 = none) : holdG g (hs.take k) (hs.getD k H2.no).1 = none := by
  rw [holdG_other]
  · exact hg _ (mem_getD hk)
  · intro h hh e
    obtain ⟨j, hj, rfl⟩ := List.getElem_of_mem hh
    rw [List.length_take] at hj
    have h1 := List.pairwise_iff_getElem.1 hn j k (by simp; omega) (by simpa using hk) (by omega)
    rw [List.getElem_take] at e
    rw [List.getD_eq_getElem?_getD, List.getElem?_eq_getElem hk] at e
    simp at h1 e
    exact h1 e
set_option maxHeartbeats 8000000 in
set_option maxRecDepth 100000 in
theorem hold_any {w : World} {B N n bm : Nat} {vF : Value} {F : List H2} {fresh : Nat} {g : Int → Option Value} {sz : Nat} (h : CodeM w B N n bm vF F fresh g sz) (A : Option Addr) (c : Nat) (hs : List H2) (hr : RdH w A hs) (hA : hs ≠ [] → ∀ ad, A = some ad → ad.block ≠ bm) (hc : hs.length ≤ c)
    (hl : hs.length ≤ 1000000) (hn : (hs.map Prod.fst).Nodup) (hg : ∀ z ∈ hs, g z.1 = none) (hi : ∀ z ∈ hs, I64H z.1) (hsz : sz ≤ 1000000) :
    Calls Try.prog 23 #[.pointer (some ⟨N, 0, none⟩), .slice A hs.length c] w fun e w' => e = .returned (.tuple #[]) ∧ CodeM w' B N n bm vF F fresh (holdG g hs) (sz + hs.length) ∧ Only (fun k => k = bm) w w' := by
  have HA := Lib.hid h
  have HR := Lib.hid hr
  have HN := Lib.hid hA
  have HD := Lib.hid hn
  have HG := Lib.hid hg
  have HI := Lib.hid hi
  clear h hr hA hn hg hi
  go_enter Try.func23, Try.ntmps23
  go_wp2_with fail
  go_loopw [8] (fun i wr => ∃ k : Nat, k ≤ hs.length ∧ i = .int .i64 (k : Nat) ∧ CodeM wr B N n bm vF F fresh (holdG g (hs.take k)) (sz + k) ∧ Only (fun x => x = bm) w wr) (fun i _ => hs.length - (intOf i).toNat)
  case atStart => exact ⟨0, Nat.zero_le _, rfl, HA.out, Only.refl _ _⟩
  case round =>
    obtain ⟨k, hk, rfl, hM, ho⟩ := hrel
    have HO := Lib.hid ho
    have HM := Lib.hid hM
    clear ho hM
    by_cases hlt : k < hs.length
    · obtain ⟨ad, rfl, hblk, h0, h1⟩ := (HR.out.only HO.out (fun ad e => HN.out (fun e0 => by rw [e0] at hlt; exact absurd hlt (Nat.not_lt_zero _)) ad e)).at2 hlt
      have hfree := holdG_free hlt HD.out HG.out
      have hsucc := holdG_succ g hs k hlt
      have hi := HI.out _ (mem_getD hlt)
      obtain ⟨z, hz⟩ : ∃ z, hs.getD k H2.no = z := ⟨_, rfl⟩
      rw [hz] at h0 h1 hfree hsucc hi
      obtain ⟨za, zb⟩ := z
      dsimp only at h0 h1 hfree hsucc hi
      have HFree := Lib.hid hfree
      have HSucc := Lib.hid hsucc
      have HI1 := Lib.hid hi
      have h3 := (HM.out.alloc (.cells #[.int .i64 za, .int .i64 zb] 34)).drew
      have c1 := h3.cells.2.1
      have HA3 := Lib.hid h3
      obtain ⟨d0, d1⟩ := res_cells wr wr.heap.size rfl (.int .i64 za) (.int .i64 zb) 34
      have e0 : (wr.alloc (.cells #[.int .i64 za, .int .i64 zb] 34)).drew.cell? { block := wr.heap.size, off := 0 } = some (.int .i64 za) := d0
      have e1 : (wr.alloc (.cells #[.int .i64 za, .int .i64 zb] 34)).drew.cell? { block := wr.heap.size, off := 1 } = some (.int .i64 zb) := d1
      clear hz hfree hsucc hi h3
      go_wp2_with fail
      refine wp_region_held_drew (S := (fun w' => w'.cell? { block := N, off := 1 } = some (.map (some bm)) ∧ w'.cell? { block := wr.heap.size, off := 0 } = some (.int .i64 za) ∧ w'.cell? { block := wr.heap.size, off := 1 } = some (.int .i64 zb))) (by kernel_rfl) ⟨c1, e0, e1⟩ (fun hHeld => ?_)
      refine wpAnyH_take (i := 0) (v := ?_) (by simp only [List.getElem?_toArray, List.getElem?_cons_zero]; rfl) (by kernel_rfl) (by kernel_rfl) (by kernel_rfl) (by exact fun _ _ _ h => h) (Or.inl ⟨by rfl, ?_⟩) (by assumption) ?_
      rotate_left
      · intro w hSw; (try dsimp only at hSw); go_simp; (try with_reducible rfl)
      try simp only [Act.put, List.setIfInBounds_toArray, List.set_cons_zero, List.set_cons_succ]
      refine wpAnyH_take (i := 1) (v := ?_) (by simp only [List.getElem?_toArray, List.getElem?_cons_zero, List.getElem?_cons_succ]; rfl) (by kernel_rfl) (by kernel_rfl) (by kernel_rfl) (by exact fun _ _ _ h => h) (Or.inl ⟨by rfl, ?_⟩) (by assumption) ?_
      rotate_left
      · intro w hSw; (try dsimp only at hSw); go_simp; (try with_reducible rfl)
      try simp only [Act.put, List.setIfInBounds_toArray, List.set_cons_zero, List.set_cons_succ]
      refine wpAnyH_take (i := 2) (v := ?_) (by simp only [List.getElem?_toArray, List.getElem?_cons_zero, List.getElem?_cons_succ]; rfl) (by kernel_rfl) (by kernel_rfl) (by kernel_rfl) (by exact fun _ _ _ h => h) (Or.inl ⟨by rfl, ?_⟩) (by assumption) ?_
      rotate_left
      · intro w hSw; (try dsimp only at hSw); go_simp; (try with_reducible rfl)
      try simp only [Act.put, List.setIfInBounds_toArray, List.set_cons_zero, List.set_cons_succ]
      refine wpAnyH_take (i := 3) (v := ?_) (by simp only [List.getElem?_toArray, List.getElem?_cons_zero, List.getElem?_cons_succ]; rfl) (by kernel_rfl) (by kernel_rfl) (by kernel_rfl) (by exact fun _ _ _ h => h) (Or.inl ⟨by rfl, ?_⟩) (by assumption) ?_
      rotate_left
      · intro w hSw; (try dsimp only at hSw); go_simp; (try with_reducible rfl)
      try simp only [Act.put, List.setIfInBounds_toArray, List.set_cons_zero, List.set_cons_succ]
      refine wpAnyH_take (i := 4) (v := ?_) (by simp only [List.getElem?_toArray, List.getElem?_cons_zero, List.getElem?_cons_succ]; rfl) (by kernel_rfl) (by kernel_rfl) (by kernel_rfl) (by exact fun _ _ _ h => h) (Or.inl ⟨by rfl, ?_⟩) (by assumption) ?_
      rotate_left
      · intro w hSw; (try dsimp only at hSw); go_simp; (try with_reducible rfl)
      try simp only [Act.put, List.setIfInBounds_toArray, List.set_cons_zero, List.set_cons_succ]
      refine wpAnyH_take (i := 5) (v := ?_) (by simp only [List.getElem?_toArray, List.getElem?_cons_zero, List.getElem?_cons_succ]; rfl) (by kernel_rfl) (by kernel_rfl) (by kernel_rfl) (by exact fun _ _ _ h => h) (Or.inl ⟨by rfl, ?_⟩) (by assumption) ?_
      rotate_left
      · intro w hSw; (try dsimp only at hSw); go_simp; (try with_reducible rfl)
      try simp only [Act.put, List.setIfInBounds_toArray, List.set_cons_zero, List.set_cons_succ]
      refine wpAnyH_take (i := 6) (v := ?_) (by simp only [List.getElem?_toArray, List.getElem?_cons_zero, List.getElem?_cons_succ]; rfl) (by kernel_rfl) (by kernel_rfl) (by kernel_rfl) (by exact fun _ _ _ h => h) (Or.inl ⟨by rfl, ?_⟩) (by assumption) ?_
      rotate_left
      · intro w hSw; (try dsimp only at hSw); go_simp; (try with_reducible rfl)
      try simp only [Act.put, List.setIfInBounds_toArray, List.set_cons_zero, List.set_cons_succ]
      refine wpAnyH_take (i := 7) (v := ?_) (by simp only [List.getElem?_toArray, List.getElem?_cons_zero, List.getElem?_cons_succ]; rfl) (by kernel_rfl) (by kernel_rfl) (by kernel_rfl) (by exact fun _ _ _ h => h) (Or.inl ⟨by rfl, ?_⟩) (by assumption) ?_
      rotate_left
      · intro w hSw; (try dsimp only at hSw); go_simp; (try with_reducible rfl)
      try simp only [Act.put, List.setIfInBounds_toArray, List.set_cons_zero, List.set_cons_succ]
      refine wpAnyH_ready (rs := [8]) (by kernel_rfl) (by simp) ?_
      refine AllReadyH.cons (by simp only [List.getElem?_toArray, List.getElem?_cons_zero, List.getElem?_cons_succ]; rfl) (fun K hK => ?_) AllReadyH.nil
      try rw [if_pos (by rfl)]
      refine wp_storeK _ _ _ _ rfl HA3.out.mp kInt_inj intKeyed Try.underlying55 (by unfold maxLen; omega) rfl (.int .i64 za) (.int .i64 zb) rfl rfl za (keyI Try.underlying3 HI1.out.1 HI1.out.2) ?_
      intro w3 p3 o3
      rw [HFree.out] at p3
      have h4 := HA3.out.put p3 o3
      have f0 := (World.cell?_of_block (a := { block := wr.heap.size, off := 0 }) (o3.block wr.heap.size (by simp [World.drew]) (fun e => by have := HM.out.mp.lt; omega))).trans e0
      have f1 := (World.cell?_of_block (a := { block := wr.heap.size, off := 1 }) (o3.block wr.heap.size (by simp [World.drew]) (fun e => by have := HM.out.mp.lt; omega))).trans e1
      have HA4 := Lib.hid h4
      have g1 := h4.cells.2.1
      have HO3 := Lib.hid o3
      clear p3 o3 h4
      refine hK.out _ _ ⟨g1, f0, f1⟩ (fun hHeld => ?_)
      clear hK K
      simp only [Act.put]
      refine wpAnyH_done (by kernel_rfl) ?_ _
      go_wp2_with fail
      go_roundw
      case rel => exact ⟨k + 1, by omega, by go_num, by rw [HSucc.out, show sz + (k + 1) = sz + k + 1 from rfl]; exact HA4.out, ((HO.out.alloc _).drew).trans HO3.out (fun x hx => .inl hx)⟩
      case measure => simp [intOf]; omega
    · obtain rfl : k = hs.length := by omega
      have hM := HM.out
      rw [List.take_length] at hM
      have HM2 := Lib.hid hM
      clear hM
      go_wp2_with fail
      exact bodyPost_end (results_none rfl _ _ _) rfl ⟨rfl, HM2.out, HO.out⟩
end Go.Proofs.Ytomcpjgklecopaa
