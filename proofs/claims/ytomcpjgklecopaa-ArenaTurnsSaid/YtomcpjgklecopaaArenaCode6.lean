/- The landed arena: Free; all that the laws ask of it. -/
import Derived.Test.YtomcpjgklecopaaArenaCode5
import Derived.Test.YtomcpjgklecopaaArenaOnceMath
set_option linter.unusedVariables false
namespace Go.Proofs.Ytomcpjgklecopaa
open Go Go.RowKit

theorem IsT.perm {g : Int → Option Value} {t t' : List H2} (h : IsT g t) (p : t.Perm t') : IsT g t' := fun z => (p.mem_iff.symm).trans (h z)
theorem IsT.hold : ∀ (hs : List H2) {g : Int → Option Value} {t : List H2}, IsT g t → ((t ++ hs).map Prod.fst).Nodup → IsT (holdG g hs) (t ++ hs)
  | [], g, t, h, _ => by rw [List.append_nil]; exact h
  | z :: r, g, t, h, hn => by
    have e : t ++ z :: r = (t ++ [z]) ++ r := by rw [List.append_assoc]; rfl
    rw [e] at hn ⊢
    refine IsT.hold r (h.put z (fun y hy e1 => ?_)) hn
    have h1 : ((t ++ [z]).map Prod.fst).Nodup := by
      rw [List.map_append] at hn
      exact hn.sublist (List.sublist_append_left _ _)
    rw [List.map_append, List.nodup_append] at h1
    exact h1.2.2 y.1 (List.mem_map_of_mem hy) z.1 (by simp) e1
theorem IsI.hold : ∀ (hs : List H2) {g : Int → Option Value}, IsI g → IsI (holdG g hs)
  | [], g, h => h
  | z :: r, g, h => IsI.hold r (h.put z.1 z.2)
theorem freeR_map (fr tk : List H2) : ∀ hs : List H2, (freeR fr tk hs).1 = (hs.map bump).reverse ++ fr := by
  intro hs
  have key : ∀ (hs : List H2) (s : List H2 × List H2), (hs.foldl freeStep s).1 = (hs.map bump).reverse ++ s.1 := by
    intro hs
    induction hs with
    | nil => intro s; rfl
    | cons h r ih =>
      intro s
      rw [List.foldl_cons, ih, List.map_cons, List.reverse_cons, List.append_assoc]
      rfl
  exact key hs (fr, tk)
theorem not_good {tk tkk hs : List H2} {k : Nat} (hp : tk.Perm (hs.take k ++ tkk)) (hk : k < hs.length) (hz : hs.getD k H2.no ∉ tkk) : ¬ goodF tk hs := fun g => by
  have h1 := g.2 _ (mem_getD hk)
  rcases List.mem_append.1 (hp.mem_iff.1 h1) with h2 | h2
  · obtain ⟨j, hj, e⟩ := List.getElem_of_mem h2
    rw [List.length_take] at hj
    refine goodF_twice (tk := tk) hk (j := j) (by omega) ?_ g
    rw [← e, List.getElem_take, List.getD_eq_getElem?_getD, List.getElem?_eq_getElem (by omega)]
    rfl
  · exact hz h2
theorem perm_take {tk tkk hs : List H2} {k : Nat} (hp : tk.Perm (hs.take k ++ tkk)) (hn : tkk.Nodup) (hk : k < hs.length) (hz : hs.getD k H2.no ∈ tkk) : tk.Perm (hs.take (k + 1) ++ tkk.filter (fun y => !(decide (y = hs.getD k H2.no)))) := by
  have e : hs.take (k + 1) = hs.take k ++ [hs.getD k H2.no] := by
    rw [List.take_succ_eq_append_getElem hk, List.getD_eq_getElem?_getD, List.getElem?_eq_getElem hk]
    rfl
  rw [e, List.append_assoc]
  exact hp.trans (List.Perm.append_left _ (perm_filter_one hn hz))
theorem goodF_perm {tk tkk hs : List H2} (hp : tk.Perm (hs ++ tkk)) (hn : tk.Nodup) : goodF tk hs := by
  have h1 := (List.Perm.nodup_iff hp).1 hn
  exact ⟨h1.sublist (List.sublist_append_left _ _), fun z hz => hp.mem_iff.2 (List.mem_append_left _ hz)⟩
theorem nodup_fst {tk : List H2} (h : (tk.map Prod.fst).Nodup) : tk.Nodup := by
  unfold List.Nodup at h ⊢
  rw [List.pairwise_map] at h
  exact h.imp (fun h e => h (by rw [e]))
/-- Behind an append to the stack and its store. -/
theorem CodeM.grow {w w4 : World} {B N n bm : Nat} {vF v4 : Value} {F F' : List H2} {fresh : Nat} {g : Int → Option Value} {sz : Nat} (h : CodeM w B N n bm vF F fresh g sz) (g4 : w.grownBy w4 vF.ownBlock) (r4 : HRow w4 B v4 F'.length F') (l4 : ∀ k, v4.ownBlock = some k → vF.ownBlock = some k ∨ k = w.heap.size) :
    CodeM (w4.setCell { block := N, off := 2 } v4) B N n bm v4 F' fresh g sz := by
  have hN := h.lt
  have hM := h.mp.lt
  have h4 : w4.heap[N]? = some (.cells #[.int .i64 (n : Nat), .map (some bm), vF, .int .i64 (fresh : Nat)] 57 (0, 0)) := (g4.block N hN (fun e => h.nN e.symm)).trans h.cell
  have hm4 : MapI w4 bm g sz := h.mp.block (g4.block bm hM (fun e => h.nb e.symm))
  have nN : v4.ownBlock ≠ some N := fun e => by
    rcases l4 N e with h1 | h1
    · exact h.nN h1
    · omega
  have nb : v4.ownBlock ≠ some bm := fun e => by
    rcases l4 bm e with h1 | h1
    · exact h.nb h1
    · omega
  have ho : Only (fun k => k = N) w4 (w4.setCell { block := N, off := 2 } v4) := Only.setCell (S := fun k => k = N) (p := { block := N, off := 2 }) (Only.refl _ w4) (.inl rfl) v4
  exact ⟨heap_setCell_same w4 N 2 _ _ v4 h4, h.hB, h.hb, h.ne, r4.only ho (fun g hg e => nN (by rw [hg, e])), nN, nb, hm4.only ho h.ne⟩
set_option maxHeartbeats 16000000 in
set_option maxRecDepth 100000 in
theorem free_code (A : Option Addr) (c : Nat) (hs : List H2) {w : World} {B N n bm : Nat} {vF : Value} {F : List H2} {fresh : Nat} {g : Int → Option Value} {fr tk : List H2} (h : CodeM w B N n bm vF F fresh g tk.length) (hI : CodeI n F fresh g fr tk)
    (hr : RdH w A hs) (hA : hs ≠ [] → ∀ ad, A = some ad → ¬ footC N bm vF ad.block) (hc : hs.length ≤ c) (hl : hs.length ≤ 2000) (hg : ∀ z ∈ tk, 0 ≤ z.2 ∧ z.2 ≤ 1000000000) (hi : ∀ z ∈ hs, I64H z.1) :
    Calls Try.prog 14 #[.pointer (some ⟨N, 0, none⟩), .slice A hs.length c] w fun e w' =>
      (goodF tk hs ∧ e = .returned (.int .i64 0) ∧ (∃ vF' g', CodeM w' B N n bm vF' (F ++ hs.map bump) fresh g' (tk.length - hs.length) ∧ IsT g' (freeR fr tk hs).2 ∧ IsI g' ∧ tk.Perm (hs ++ (freeR fr tk hs).2) ∧ (∀ x, vF'.ownBlock = some x → vF.ownBlock = some x ∨ w.heap.size ≤ x)) ∧ Only (footC N bm vF) w w') ∨
      (¬ goodF tk hs ∧ e = .returned (.int .i64 51) ∧ (∃ g', CodeM w' B N n bm vF F fresh g' tk.length ∧ IsT g' tk ∧ IsI g') ∧ Only (footC N bm vF) w w') := by
  have HA := Lib.hid h
  have HI := Lib.hid hI
  have HR := Lib.hid hr
  have HN := Lib.hid hA
  have HG := Lib.hid hg
  have HK := Lib.hid hi
  have hNlt := h.lt
  have hMlt := h.mp.lt
  have hFl := hI.lenF
  have hcnt := hI.cnt
  have hnn := hI.hn
  clear h hI hr hA hg hi
  go_enter Try.func14, Try.ntmps14
  go_wp2_with fail
  go_loopw [11] (fun i wr => ∃ (k : Nat) (gk : Int → Option Value) (tkk : List H2), k ≤ hs.length ∧ i = .int .i64 (k : Nat) ∧ tkk = (freeR fr tk (hs.take k)).2 ∧ tk.Perm (hs.take k ++ tkk) ∧ CodeM wr B N n bm vF F fresh gk (tk.length - k) ∧ IsT gk tkk ∧ IsI gk ∧ Only (fun x => x = bm) w wr) (fun i _ => hs.length - (intOf i).toNat)
  case atStart => exact ⟨0, g, tk, Nat.zero_le _, rfl, rfl, List.Perm.refl _, HA.out, HI.out.isT, HI.out.isI, Only.refl _ _⟩
  case round =>
    obtain ⟨k, gk, tkk, hk, rfl, htkk, hperm, hM, hT, hII, ho⟩ := hrel
    have HTkk := Lib.hid htkk
    have HP := Lib.hid hperm
    have HM := Lib.hid hM
    have HT := Lib.hid hT
    have HII := Lib.hid hII
    have HO := Lib.hid ho
    clear htkk hperm hM hT hII ho
    by_cases hlt : k < hs.length
    · have hne : hs ≠ [] := fun e0 => by rw [e0] at hlt; exact absurd hlt (Nat.not_lt_zero _)
      obtain ⟨ad, rfl, hblk, h0, h1⟩ := (HR.out.only HO.out (fun ad e h => HN.out hne ad e (.inr (.inl h)))).at2 hlt
      have hi := HK.out _ (mem_getD hlt)
      have hbad := not_good HP.out hlt
      obtain ⟨z, hz⟩ : ∃ z, hs.getD k H2.no = z := ⟨_, rfl⟩
      have HZ := Lib.hid hz
      rw [hz] at h0 h1 hi hbad
      obtain ⟨za, zb⟩ := z
      dsimp only at h0 h1 hi
      have h3 := HM.out.alloc (.cells #[.int .i64 za, .int .i64 zb] 34)
      have hlv := live_code h3 HT.out HII.out (za, zb) hi
      unfold handV at hlv
      dsimp only at hlv
      obtain ⟨b, hb⟩ : ∃ b, decide ((za, zb) ∈ tkk) = b := ⟨_, rfl⟩
      rw [hb] at hlv
      have HLv := Lib.hid hlv
      have HB := Lib.hid hb
      have HBad := Lib.hid hbad
      have HI1 := Lib.hid hi
      have hki : (k : Int) < (hs.length : Int) := by omega
      have hkc : (k : Int) ≤ (c : Int) := by omega
      clear hz hb hlv hbad hi h3
      cases b with
      | false =>
        have hng : ¬ goodF tk hs := HBad.out (of_decide_eq_false HB.out)
        have HNg := Lib.hid hng
        clear hng
        go_wp2_with fail
        refine HLv.out.mono ?_
        rintro e w2 ⟨rfl, b2⟩
        have hbx : Below wr.heap.size wr w2 := ((Below.refl wr.heap.size wr).alloc (Nat.le_refl _) _).trans (b2.mono (by simp))
        have hM2 := HM.out.below hbx
        have hO2 : Only (fun x => x = bm) w w2 := HO.out.trans (Below.only hbx) (fun x hx => .inl hx)
        have hlk : (hs.take k).length = k := by rw [List.length_take]; omega
        have hlen := (HP.out).length_eq
        rw [List.length_append, hlk] at hlen
        have hnd := (List.Perm.nodup_iff (HP.out.map Prod.fst)).1 HI.out.tknd
        have hp2 : (hs.take k ++ tkk).Perm (tkk ++ hs.take k) := List.perm_append_comm
        have hnd2 := (List.Perm.nodup_iff (hp2.map Prod.fst)).1 hnd
        have hT2 := (IsT.hold (hs.take k) HT.out hnd2).perm (hp2.symm.trans HP.out.symm)
        have hndk : ((hs.take k).map Prod.fst).Nodup := by
          rw [List.map_append] at hnd
          exact hnd.sublist (List.sublist_append_left _ _)
        have hgn : ∀ z ∈ hs.take k, gk z.1 = none := fun z hz => HT.out.none_of HII.out _ (fun y hy e => by
          rw [List.map_append, List.nodup_append] at hnd
          exact hnd.2.2 z.1 (List.mem_map_of_mem hz) y.1 (List.mem_map_of_mem hy) e.symm)
        have hhold := hold_any hM2 (some ad) c (hs.take k) ((HR.out.only hO2 (fun ad e h => HN.out hne ad e (.inr (.inl h)))).take k) (fun _ ad e h => HN.out hne ad e (.inr (.inl h))) (by omega) (by omega) hndk hgn (fun z hz => HK.out z (List.mem_of_mem_take hz)) (by omega)
        rw [hlk, show tk.length - k + k = tk.length from by omega] at hhold
        have HHold := Lib.hid hhold
        have HT2 := Lib.hid hT2
        have HI2 := Lib.hid (HII.out.hold (hs.take k))
        have HO2 := Lib.hid hO2
        clear hhold hT2 hgn hndk hnd2 hp2 hnd hlen hlk hM2 hO2 hbx b2 h0 h1
        go_wp2_with fail
        refine HHold.out.mono ?_
        rintro e w3 ⟨rfl, hM3, hO3⟩
        have HM3 := Lib.hid hM3
        have HO3 := Lib.hid (HO2.out.trans hO3 (fun x hx => .inl hx))
        clear hM3 hO3
        go_wp2_with fail
        go_ret
        exact .inr ⟨HNg.out, rfl, ⟨_, HM3.out, HT2.out, HI2.out⟩, HO3.out.mono (fun x hx => .inr (.inl hx))⟩
      | true =>
        have hmem : (za, zb) ∈ tkk := of_decide_eq_true HB.out
        have hnd := (List.Perm.nodup_iff (HP.out.map Prod.fst)).1 HI.out.tknd
        have hnk : (tkk.map Prod.fst).Nodup := by
          rw [List.map_append] at hnd
          exact hnd.sublist (List.sublist_append_right _ _)
        have hP2 := perm_take HP.out (nodup_fst hnk) hlt (by rw [HZ.out]; exact hmem)
        rw [HZ.out] at hP2
        have hT2 := HT.out.drop hnk hmem
        have hsome := (HT.out (za, zb)).1 hmem
        have hsu : tkk.filter (fun y => !(decide (y = (za, zb)))) = (freeR fr tk (hs.take (k + 1))).2 := by rw [freeR_succ fr tk hs k hlt, HZ.out, HTkk.out]; rfl
        dsimp only at hT2 hsome
        have HP2 := Lib.hid hP2
        have HT2 := Lib.hid hT2
        have HSome := Lib.hid hsome
        have HSu := Lib.hid hsu
        have HI2 := Lib.hid (HII.out.drop za)
        clear hmem hnd hnk hP2 hT2 hsome hsu
        go_wp2_with fail
        refine HLv.out.mono ?_
        rintro e w2 ⟨rfl, b2⟩
        have hbx : Below wr.heap.size wr w2 := ((Below.refl wr.heap.size wr).alloc (Nat.le_refl _) _).trans (b2.mono (by simp))
        have hM2 := (HM.out.below hbx).drew
        have hO2 : Only (fun x => x = bm) w w2.drew := (HO.out.trans (Below.only hbx) (fun x hx => .inl hx)).drew
        have hbl : w2.heap[wr.heap.size]? = some (.cells #[.int .i64 za, .int .i64 zb] 34 (0, 0)) := (b2.block wr.heap.size (by simp)).trans (heap_alloc_new wr _)
        obtain ⟨d0, d1, _, _⟩ := blk2 hbl
        have e0 : w2.drew.cell? { block := wr.heap.size, off := 0 } = some (.int .i64 za) := d0
        have c1 := hM2.cells.2.1
        have HM2 := Lib.hid hM2
        have HO2 := Lib.hid hO2
        have hszr := hbx.size
        have hwm := HM.out.mp.lt
        have hsz2 := b2.size
        rw [World.alloc, Array.size_push] at hsz2
        clear hM2 hO2 hbx b2 h0 h1 d1
        go_wp2_with fail
        refine wp_region_held_drew (S := (fun w' => w'.cell? { block := N, off := 1 } = some (.map (some bm)) ∧ w'.cell? { block := wr.heap.size, off := 0 } = some (.int .i64 za))) (by kernel_rfl) ⟨c1, e0⟩ (fun hHeld => ?_)
        refine wpAnyH_take (i := 0) (v := ?_) (by simp only [List.getElem?_toArray, List.getElem?_cons_zero]; rfl) (by kernel_rfl) (by kernel_rfl) (by kernel_rfl) (by exact fun _ _ _ h => h) (Or.inl ⟨by rfl, ?_⟩) (by assumption) ?_
        rotate_left
        · intro w hSw; (try dsimp only at hSw); go_simp; (try with_reducible rfl)
        try simp only [Act.put, List.setIfInBounds_toArray, List.set_cons_zero, List.set_cons_succ]
        refine wpAnyH_take (i := 1) (v := ?_) (by simp only [List.getElem?_toArray, List.getElem?_cons_zero, List.getElem?_cons_succ]; rfl) (by kernel_rfl) (by kernel_rfl) (by kernel_rfl) (by exact fun _ _ _ h => h) (Or.inl ⟨by rfl, ?_⟩) (by assumption) ?_
        rotate_left
        · intro w hSw; (try dsimp only at hSw); go_simp; (try with_reducible rfl)
        try simp only [Act.put, List.setIfInBounds_toArray, List.set_cons_zero, List.set_cons_succ]
        refine wpAnyH_take (i := 2) (v := ?_) (by simp only [List.getElem?_toArray, List.getElem?_cons_zero, List.getElem?_cons_succ]; rfl) (by kernel_rfl) (by kernel_rfl) (by kernel_rfl) (by exact fun _ _ _ h => h) (Or.inl ⟨by rfl, ?_⟩) (by assumption) ?_
        rotate_left
        · intro w hSw; (try dsimp only at hSw); go_simp; (try with_reducible rfl)
        try simp only [Act.put, List.setIfInBounds_toArray, List.set_cons_zero, List.set_cons_succ]
        refine wpAnyH_take (i := 3) (v := ?_) (by simp only [List.getElem?_toArray, List.getElem?_cons_zero, List.getElem?_cons_succ]; rfl) (by kernel_rfl) (by kernel_rfl) (by kernel_rfl) (by exact fun _ _ _ h => h) (Or.inl ⟨by rfl, ?_⟩) (by assumption) ?_
        rotate_left
        · intro w hSw; (try dsimp only at hSw); go_simp; (try with_reducible rfl)
        try simp only [Act.put, List.setIfInBounds_toArray, List.set_cons_zero, List.set_cons_succ]
        refine wpAnyH_take (i := 4) (v := ?_) (by simp only [List.getElem?_toArray, List.getElem?_cons_zero, List.getElem?_cons_succ]; rfl) (by kernel_rfl) (by kernel_rfl) (by kernel_rfl) (by exact fun _ _ _ h => h) (Or.inl ⟨by rfl, ?_⟩) (by assumption) ?_
        rotate_left
        · intro w hSw; (try dsimp only at hSw); go_simp; (try with_reducible rfl)
        try simp only [Act.put, List.setIfInBounds_toArray, List.set_cons_zero, List.set_cons_succ]
        refine wpAnyH_take (i := 5) (v := ?_) (by simp only [List.getElem?_toArray, List.getElem?_cons_zero, List.getElem?_cons_succ]; rfl) (by kernel_rfl) (by kernel_rfl) (by kernel_rfl) (by exact fun _ _ _ h => h) (Or.inl ⟨by rfl, ?_⟩) (by assumption) ?_
        rotate_left
        · intro w hSw; (try dsimp only at hSw); go_simp; (try with_reducible rfl)
        try simp only [Act.put, List.setIfInBounds_toArray, List.set_cons_zero, List.set_cons_succ]
        refine wpAnyH_ready (rs := [6]) (by kernel_rfl) (by simp) ?_
        refine AllReadyH.cons (by simp only [List.getElem?_toArray, List.getElem?_cons_zero, List.getElem?_cons_succ]; rfl) (fun K hK => ?_) AllReadyH.nil
        try rw [if_pos (by rfl)]
        refine wp_dropK _ _ _ rfl HM2.out.mp kInt_inj intKeyed Try.underlying55 rfl (.int .i64 za) rfl za (keyI Try.underlying3 HI1.out.1 HI1.out.2) ?_
        intro w3 p3 o3
        rw [HSome.out] at p3
        dsimp only [Option.isSome] at p3
        have h4 := HM2.out.put p3 o3
        have f0 := (World.cell?_of_block (a := { block := wr.heap.size, off := 0 }) (o3.block wr.heap.size (by show _ < w2.heap.size; omega) (fun e => by omega))).trans e0
        have HM4 : Hid (CodeM w3 B N n bm vF F fresh (putK gk za none) (tk.length - (k + 1))) := Lib.hid h4
        have HO4 := Lib.hid (HO2.out.trans o3 (fun x hx => .inl hx))
        have g1 := h4.cells.2.1
        clear p3 o3 h4
        refine hK.out _ _ ⟨g1, f0⟩ (fun hHeld => ?_)
        clear hK K
        simp only [Act.put]
        refine wpAnyH_done (by kernel_rfl) ?_ _
        go_wp2_with fail
        go_roundw
        case rel => exact ⟨k + 1, putK gk za none, _, by omega, by go_num, HSu.out, HP2.out, HM4.out, HT2.out, HI2.out, HO4.out⟩
        case measure => simp [intOf]; omega
    · obtain rfl : k = hs.length := by omega
      have hP := HP.out
      have hT := HTkk.out
      rw [List.take_length] at hP hT
      have hgood := goodF_perm hP (nodup_fst HI.out.tknd)
      have HP2 := Lib.hid hP
      have HT2 := Lib.hid hT
      have HGood := Lib.hid hgood
      have hlen := hP.length_eq
      rw [List.length_append] at hlen
      clear hP hT hgood HP HTkk
      go_wp2_with fail
      go_loopw [34] (fun i wr => ∃ (k : Nat) (vF' : Value), k ≤ hs.length ∧ i = .int .i64 (k : Nat) ∧ CodeM wr B N n bm vF' (F ++ (hs.take k).map bump) fresh gk (tk.length - hs.length) ∧ (∀ x, vF'.ownBlock = some x → vF.ownBlock = some x ∨ w.heap.size ≤ x) ∧ Only (footC N bm vF) w wr) (fun i _ => hs.length - (intOf i).toNat)
      case atStart => exact ⟨0, vF, Nat.zero_le _, rfl, by simpa using HM.out, fun x hx => .inl hx, HO.out.mono (fun x hx => .inr (.inl hx))⟩
      case round =>
        clear HM HO
        obtain ⟨k, vF', hk, rfl, hM, hv, ho⟩ := hrel
        by_cases hlt : k < hs.length
        · have hne : hs ≠ [] := fun e0 => by rw [e0] at hlt; exact absurd hlt (Nat.not_lt_zero _)
          obtain ⟨ad, rfl, hblk, h0, h1⟩ := (HR.out.only ho (fun ad e h => HN.out hne ad e h)).at2 hlt
          have hzt := HGood.out.2 _ (mem_getD hlt)
          have hgen := HG.out _ hzt
          obtain ⟨z, hz⟩ : ∃ z, hs.getD k H2.no = z := ⟨_, rfl⟩
          have HZ := Lib.hid hz
          have hsucc : (hs.take (k + 1)).map bump = (hs.take k).map bump ++ [bump z] := by rw [List.take_succ_eq_append_getElem hlt, List.map_append, ← hz, List.getD_eq_getElem?_getD, List.getElem?_eq_getElem hlt]; rfl
          rw [hz] at h0 h1 hgen
          obtain ⟨ka, kn⟩ := z
          dsimp only at h0 h1 hgen
          have hwrap : IntKind.i64.wrap (kn + 1) = kn + 1 := IntWalk.i64_in _ (by omega)
          have HSucc := Lib.hid hsucc
          obtain ⟨Fk, hFk⟩ : ∃ Fk, F ++ (hs.take k).map bump = Fk := ⟨_, rfl⟩
          have hFkl : Fk.length ≤ F.length + k := by rw [← hFk, List.length_append, List.length_map, List.length_take]; omega
          have HFk := Lib.hid hFk
          rw [hFk] at hM
          have HMo := Lib.hid hM
          have HV := Lib.hid hv
          have HO := Lib.hid ho
          have hsF : F.length + hs.length ≤ 1000000 := by
            have h1 := HI.out.hfr
            have h2 : fr.length = F.length + ((slotsR n).drop fresh).length := by rw [h1, List.length_append, List.length_reverse]
            omega
          obtain ⟨AF, cF, rfl, hcF, hrdF, hFb, hF0⟩ := hM.row.rd
          have hMW := ((hM.alloc (.cells #[.int .i64 ka, .int .i64 kn] 34)).drew)
          have hMA := (((hM.alloc (.cells #[.int .i64 ka, .int .i64 kn] 34)).alloc (.cells #[.int .i64 ka, .int .i64 (kn + 1)] 34)).drew)
          have hbW : (wr.alloc (.cells #[.int .i64 ka, .int .i64 kn] 34)).drew.heap[wr.heap.size]? = some (.cells #[.int .i64 ka, .int .i64 kn] 34 (0, 0)) := heap_alloc_new wr _
          have hbA : ((wr.alloc (.cells #[.int .i64 ka, .int .i64 kn] 34)).alloc (.cells #[.int .i64 ka, .int .i64 (kn + 1)] 34)).drew.heap[wr.heap.size]? = some (.cells #[.int .i64 ka, .int .i64 kn] 34 (0, 0)) := (Below.heap_alloc (wr.alloc (.cells #[.int .i64 ka, .int .i64 kn] 34)) _ _ (by simp)).trans hbW
          obtain ⟨w0, w1, _, _⟩ := blk2 hbW
          obtain ⟨a0, a1, _, _⟩ := blk2 hbA
          have xN := hMW.cells.2.2.1
          have aN := hMA.cells.2.2.1
          have HMA := Lib.hid hMA
          have HbA := Lib.hid hbA
          have hszr : wr.heap.size ≤ ((wr.alloc (.cells #[.int .i64 ka, .int .i64 kn] 34)).alloc (.cells #[.int .i64 ka, .int .i64 (kn + 1)] 34)).drew.heap.size := by simp [World.drew]; omega
          have hrdl : RdH ((wr.alloc (.cells #[.int .i64 ka, .int .i64 kn] 34)).alloc (.cells #[.int .i64 ka, .int .i64 (kn + 1)] 34)).drew (some ⟨wr.heap.size + 1, 0, none⟩) [(ka, kn + 1)] := by
            have := rdH_one (wr.alloc (.cells #[.int .i64 ka, .int .i64 kn] 34)).drew ka (kn + 1)
            rw [show (wr.alloc (.cells #[.int .i64 ka, .int .i64 kn] 34)).drew.heap.size = wr.heap.size + 1 from by simp [World.drew]] at this
            exact this
          have HRl := Lib.hid hrdl
          clear hM hv ho hMW hMA hbW hbA hrdl hrdF hFb hF0 hz hzt hsucc hFk
          go_wp2_with fail
          refine wp_region_held_drew (S := (fun w' => w'.cell? { block := wr.heap.size, off := 0 } = some (.int .i64 ka) ∧ w'.cell? { block := wr.heap.size, off := 1 } = some (.int .i64 kn))) (by kernel_rfl) ⟨w0, w1⟩ (fun hHeld => ?_)
          refine wpAnyH_take (i := 0) (v := ?_) (by simp only [List.getElem?_toArray, List.getElem?_cons_zero]; rfl) (by kernel_rfl) (by kernel_rfl) (by kernel_rfl) (by exact fun _ _ _ h => h) (Or.inl ⟨by rfl, ?_⟩) (by assumption) ?_
          rotate_left
          · intro w hSw; (try dsimp only at hSw); go_simp; (try with_reducible rfl)
          try simp only [Act.put, List.setIfInBounds_toArray, List.set_cons_zero, List.set_cons_succ]
          refine wpAnyH_take (i := 1) (v := ?_) (by simp only [List.getElem?_toArray, List.getElem?_cons_zero, List.getElem?_cons_succ]; rfl) (by kernel_rfl) (by kernel_rfl) (by kernel_rfl) (by exact fun _ _ _ h => h) (Or.inl ⟨by rfl, ?_⟩) (by assumption) ?_
          rotate_left
          · intro w hSw; (try dsimp only at hSw); go_simp; (try with_reducible rfl)
          try simp only [Act.put, List.setIfInBounds_toArray, List.set_cons_zero, List.set_cons_succ]
          refine wpAnyH_take (i := 2) (v := ?_) (by simp only [List.getElem?_toArray, List.getElem?_cons_zero, List.getElem?_cons_succ]; rfl) (by kernel_rfl) (by kernel_rfl) (by kernel_rfl) (by exact fun _ _ _ h => h) (Or.inl ⟨by rfl, ?_⟩) (by assumption) ?_
          rotate_left
          · intro w hSw; (try dsimp only at hSw); go_simp; (try with_reducible rfl)
          try simp only [Act.put, List.setIfInBounds_toArray, List.set_cons_zero, List.set_cons_succ]
          refine wpAnyH_take (i := 3) (v := ?_) (by simp only [List.getElem?_toArray, List.getElem?_cons_zero, List.getElem?_cons_succ]; rfl) (by kernel_rfl) (by kernel_rfl) (by kernel_rfl) (by exact fun _ _ _ h => h) (Or.inl ⟨by rfl, ?_⟩) (by assumption) ?_
          rotate_left
          · intro w hSw; (try dsimp only at hSw); go_simp; (try with_reducible rfl)
          try simp only [Act.put, List.setIfInBounds_toArray, List.set_cons_zero, List.set_cons_succ]
          refine wpAnyH_take (i := 5) (v := ?_) (by simp only [List.getElem?_toArray, List.getElem?_cons_zero, List.getElem?_cons_succ]; rfl) (by kernel_rfl) (by kernel_rfl) (by kernel_rfl) (by exact fun _ _ _ h => h) (Or.inl ⟨by rfl, ?_⟩) (by assumption) ?_
          rotate_left
          · intro w hSw; (try dsimp only at hSw); go_simp; (try with_reducible rfl)
          try simp only [Act.put, List.setIfInBounds_toArray, List.set_cons_zero, List.set_cons_succ]
          refine wpAnyH_take (i := 6) (v := ?_) (by simp only [List.getElem?_toArray, List.getElem?_cons_zero, List.getElem?_cons_succ]; rfl) (by kernel_rfl) (by kernel_rfl) (by kernel_rfl) (by exact fun _ _ _ h => h) (Or.inl ⟨by rfl, ?_⟩) (by assumption) ?_
          rotate_left
          · intro w hSw; (try dsimp only at hSw); go_simp; (try with_reducible rfl)
          try simp only [Act.put, List.setIfInBounds_toArray, List.set_cons_zero, List.set_cons_succ]
          refine wpAnyH_take (i := 7) (v := ?_) (by simp only [List.getElem?_toArray, List.getElem?_cons_zero, List.getElem?_cons_succ]; rfl) (by kernel_rfl) (by kernel_rfl) (by kernel_rfl) (by exact fun _ _ _ h => h) (Or.inl ⟨by rfl, ?_⟩) (by assumption) ?_
          rotate_left
          · intro w hSw; (try dsimp only at hSw); go_simp; (try with_reducible rfl)
          try simp only [Act.put, List.setIfInBounds_toArray, List.set_cons_zero, List.set_cons_succ]
          refine wpAnyH_take (i := 8) (v := ?_) (by simp only [List.getElem?_toArray, List.getElem?_cons_zero, List.getElem?_cons_succ]; rfl) (by kernel_rfl) (by kernel_rfl) (by kernel_rfl) (by exact fun _ _ _ h => h) (Or.inl ⟨by rfl, ?_⟩) (by assumption) ?_
          rotate_left
          · intro w hSw; (try dsimp only at hSw); go_simp; (try with_reducible rfl)
          try simp only [Act.put, List.setIfInBounds_toArray, List.set_cons_zero, List.set_cons_succ]
          refine wpAnyH_take (i := 9) (v := ?_) (by simp only [List.getElem?_toArray, List.getElem?_cons_zero, List.getElem?_cons_succ]; rfl) (by kernel_rfl) (by kernel_rfl) (by kernel_rfl) (by exact fun _ _ _ h => h) (Or.inl ⟨by rfl, ?_⟩) (by assumption) ?_
          rotate_left
          · intro w hSw; (try dsimp only at hSw); go_simp; (try with_reducible rfl)
          try simp only [Act.put, List.setIfInBounds_toArray, List.set_cons_zero, List.set_cons_succ]
          refine wpAnyH_take (i := 10) (v := ?_) (by simp only [List.getElem?_toArray, List.getElem?_cons_zero, List.getElem?_cons_succ]; rfl) (by kernel_rfl) (by kernel_rfl) (by kernel_rfl) (by exact fun _ _ _ h => h) (Or.inl ⟨by rfl, ?_⟩) (by assumption) ?_
          rotate_left
          · intro w hSw; (try dsimp only at hSw); go_simp; (try with_reducible rfl)
          try simp only [Act.put, List.setIfInBounds_toArray, List.set_cons_zero, List.set_cons_succ]
          refine wpAnyH_ready (rs := [4, 11]) (by kernel_rfl) (by simp) ?_
          refine AllReadyH.cons (by simp only [List.getElem?_toArray, List.getElem?_cons_zero, List.getElem?_cons_succ]; rfl) (fun K hK => ?_) ?_
          · go_simp
            refine hK.out _ _ ⟨w0, w1⟩ (fun hHeld => ?_)
            clear hK K
            try simp only [Act.put, List.setIfInBounds_toArray, List.set_cons_zero, List.set_cons_succ]
            refine wpAnyH_ready (rs := [11]) (by kernel_rfl) (by simp) ?_
            refine AllReadyH.cons (by simp only [List.getElem?_toArray, List.getElem?_cons_zero, List.getElem?_cons_succ]; rfl) (fun K hK => ?_) AllReadyH.nil
            go_simp
            refine hK.out _ _ (⟨a0, a1⟩) (fun hHeld => ?_)
            clear hK K
            try simp only [Act.put, List.setIfInBounds_toArray, List.set_cons_zero, List.set_cons_succ]
            refine wpAnyH_ready (rs := [12]) (by kernel_rfl) (by simp) ?_
            refine AllReadyH.cons (by simp only [List.getElem?_toArray, List.getElem?_cons_zero, List.getElem?_cons_succ]; rfl) (fun K hK => ?_) AllReadyH.nil
            rw [if_pos (by rfl)]
            refine wp_append_hands _ _ rfl B _ Fk.length Fk rfl HMA.out.row (some ⟨wr.heap.size + 1, 0, none⟩) 1 1 [(ka, kn + 1)] rfl rfl HRl.out ?qa1 ?qa2 ((wr.alloc (.cells #[.int .i64 ka, .int .i64 kn] 34)).alloc (.cells #[.int .i64 ka, .int .i64 (kn + 1)] 34)).drew.heap.size rfl ?_
            case qa1 => simp; omega
            case qa2 => have := HMA.out.hB; have := HMA.out.lt; omega
            intro v4 w4 r4 g4 l4
            have hgr := HMA.out.grow (F' := Fk ++ [(ka, kn + 1)]) g4 (by rw [List.length_append]; exact r4) (fun k hk => l4 k hk)
            have hb4 : w4.heap[wr.heap.size]? = some (.cells #[.int .i64 ka, .int .i64 kn] 34 (0, 0)) := (g4.block wr.heap.size (by simp [World.drew]; omega) (fun e => by have := (HMo.out.row.lt _ e.symm).2; omega)).trans HbA.out
            obtain ⟨p0, p1, _, _⟩ := blk2 hb4
            have hNne : wr.heap.size ≠ N := fun e => by have := HMo.out.lt; omega
            have q0 : (w4.setCell { block := N, off := 2 } v4).cell? { block := wr.heap.size, off := 0 } = some (.int .i64 ka) := (World.cell?_of_block (Below.heap_setCell _ _ _ _ hNne)).trans p0
            have q1 : (w4.setCell { block := N, off := 2 } v4).cell? { block := wr.heap.size, off := 1 } = some (.int .i64 kn) := (World.cell?_of_block (Below.heap_setCell _ _ _ _ hNne)).trans p1
            have oW : Only (footC N bm (.slice AF Fk.length cF)) wr (w4.setCell { block := N, off := 2 } v4) := ((((Only.refl _ wr).alloc _).alloc _).drew.grown g4 (fun k hk => .inl (.inr (.inr hk)))).setCell (p := { block := N, off := 2 }) (.inl (.inl rfl)) v4
            have oT := HO.out.trans oW (fun x hx => by
              rcases hx with h | h | h
              · exact .inl (.inl h)
              · exact .inl (.inr (.inl h))
              · rcases HV.out x h with h1 | h1
                · exact .inl (.inr (.inr h1))
                · exact .inr h1)
            have hv4 : ∀ x, v4.ownBlock = some x → vF.ownBlock = some x ∨ w.heap.size ≤ x := fun x hx => by
              rcases l4 x hx with h1 | h1
              · exact HV.out x h1
              · have := HO.out.size; exact .inr (by omega)
            have hNf : w4.frozen? { block := N, off := 2 } = false := (World.frozen?_of_block (a := { block := N, off := 2 }) (g4.block N HMA.out.lt (fun e => HMA.out.nN e.symm))).trans (HMA.out.frozen 2)
            have hNc : w4.cell? { block := N, off := 2 } = some (.slice AF Fk.length cF) := (World.cell?_of_block (a := { block := N, off := 2 }) (g4.block N HMA.out.lt (fun e => HMA.out.nN e.symm))).trans HMA.out.cells.2.2.1
            obtain ⟨A4, c4, e4, _, _, _, _⟩ := r4.rd
            subst e4
            have HGr := Lib.hid hgr
            have HOT := Lib.hid oT
            have HV4 := Lib.hid hv4
            clear hgr hb4 oW oT hv4 r4 g4 l4
            refine hK.out _ _ ⟨p0, p1⟩ (fun hHeld => ?_)
            clear hK K
            try simp only [Act.put, List.setIfInBounds_toArray, List.set_cons_zero, List.set_cons_succ]
            refine wpAnyH_take (i := 13) (v := ?_) (by simp only [List.getElem?_toArray, List.getElem?_cons_zero, List.getElem?_cons_succ]; rfl) (by kernel_rfl) (by kernel_rfl) (by kernel_rfl) (by exact fun _ _ _ h => h) (Or.inl ⟨by rfl, ?_⟩) (by assumption) ?_
            rotate_left
            · intro w hSw; (try dsimp only at hSw); go_simp; (try with_reducible rfl)
            try simp only [Act.put, List.setIfInBounds_toArray, List.set_cons_zero, List.set_cons_succ]
            refine wpAnyH_take (i := 14) (v := ?_) (by simp only [List.getElem?_toArray, List.getElem?_cons_zero, List.getElem?_cons_succ]; rfl) (by kernel_rfl) (by kernel_rfl) (by kernel_rfl) (by exact fun _ _ _ h => h) (Or.inl ⟨by rfl, ?_⟩) (by assumption) ?_
            rotate_left
            · intro w hSw; (try dsimp only at hSw); go_simp; (try with_reducible rfl)
            try simp only [Act.put, List.setIfInBounds_toArray, List.set_cons_zero, List.set_cons_succ]
            refine wpAnyH_ready (rs := [15]) (by kernel_rfl) (by simp) ?_
            refine AllReadyH.cons (by simp only [List.getElem?_toArray, List.getElem?_cons_zero, List.getElem?_cons_succ]; rfl) (fun K hK => ?_) AllReadyH.nil
            go_simp
            refine hK.out _ _ (⟨q0, q1⟩) (fun hHeld => ?_)
            clear hK K
            try simp only [Act.put, List.setIfInBounds_toArray, List.set_cons_zero, List.set_cons_succ]
            refine wpAnyH_done (by kernel_rfl) ?_ _
            go_wp2_with fail
            go_roundw
            case rel => exact ⟨k + 1, _, by omega, by go_num, by rw [HSucc.out, ← List.append_assoc, HFk.out]; exact HGr.out, HV4.out, HOT.out⟩
            case measure => simp [intOf]; omega
          · refine AllReadyH.cons (by simp only [List.getElem?_toArray, List.getElem?_cons_zero, List.getElem?_cons_succ]; rfl) (fun K hK => ?_) AllReadyH.nil
            go_simp
            refine hK.out _ _ ⟨a0, a1⟩ (fun hHeld => ?_)
            clear hK K
            try simp only [Act.put, List.setIfInBounds_toArray, List.set_cons_zero, List.set_cons_succ]
            refine wpAnyH_ready (rs := [4]) (by kernel_rfl) (by simp) ?_
            refine AllReadyH.cons (by simp only [List.getElem?_toArray, List.getElem?_cons_zero, List.getElem?_cons_succ]; rfl) (fun K hK => ?_) AllReadyH.nil
            go_simp
            refine hK.out _ _ (⟨a0, a1⟩) (fun hHeld => ?_)
            clear hK K
            try simp only [Act.put, List.setIfInBounds_toArray, List.set_cons_zero, List.set_cons_succ]
            refine wpAnyH_ready (rs := [12]) (by kernel_rfl) (by simp) ?_
            refine AllReadyH.cons (by simp only [List.getElem?_toArray, List.getElem?_cons_zero, List.getElem?_cons_succ]; rfl) (fun K hK => ?_) AllReadyH.nil
            rw [if_pos (by rfl)]
            refine wp_append_hands _ _ rfl B _ Fk.length Fk rfl HMA.out.row (some ⟨wr.heap.size + 1, 0, none⟩) 1 1 [(ka, kn + 1)] rfl rfl HRl.out ?qb1 ?qb2 ((wr.alloc (.cells #[.int .i64 ka, .int .i64 kn] 34)).alloc (.cells #[.int .i64 ka, .int .i64 (kn + 1)] 34)).drew.heap.size rfl ?_
            case qb1 => simp; omega
            case qb2 => have := HMA.out.hB; have := HMA.out.lt; omega
            intro v4 w4 r4 g4 l4
            have hgr := HMA.out.grow (F' := Fk ++ [(ka, kn + 1)]) g4 (by rw [List.length_append]; exact r4) (fun k hk => l4 k hk)
            have hb4 : w4.heap[wr.heap.size]? = some (.cells #[.int .i64 ka, .int .i64 kn] 34 (0, 0)) := (g4.block wr.heap.size (by simp [World.drew]; omega) (fun e => by have := (HMo.out.row.lt _ e.symm).2; omega)).trans HbA.out
            obtain ⟨p0, p1, _, _⟩ := blk2 hb4
            have hNne : wr.heap.size ≠ N := fun e => by have := HMo.out.lt; omega
            have q0 : (w4.setCell { block := N, off := 2 } v4).cell? { block := wr.heap.size, off := 0 } = some (.int .i64 ka) := (World.cell?_of_block (Below.heap_setCell _ _ _ _ hNne)).trans p0
            have q1 : (w4.setCell { block := N, off := 2 } v4).cell? { block := wr.heap.size, off := 1 } = some (.int .i64 kn) := (World.cell?_of_block (Below.heap_setCell _ _ _ _ hNne)).trans p1
            have oW : Only (footC N bm (.slice AF Fk.length cF)) wr (w4.setCell { block := N, off := 2 } v4) := ((((Only.refl _ wr).alloc _).alloc _).drew.grown g4 (fun k hk => .inl (.inr (.inr hk)))).setCell (p := { block := N, off := 2 }) (.inl (.inl rfl)) v4
            have oT := HO.out.trans oW (fun x hx => by
              rcases hx with h | h | h
              · exact .inl (.inl h)
              · exact .inl (.inr (.inl h))
              · rcases HV.out x h with h1 | h1
                · exact .inl (.inr (.inr h1))
                · exact .inr h1)
            have hv4 : ∀ x, v4.ownBlock = some x → vF.ownBlock = some x ∨ w.heap.size ≤ x := fun x hx => by
              rcases l4 x hx with h1 | h1
              · exact HV.out x h1
              · have := HO.out.size; exact .inr (by omega)
            have hNf : w4.frozen? { block := N, off := 2 } = false := (World.frozen?_of_block (a := { block := N, off := 2 }) (g4.block N HMA.out.lt (fun e => HMA.out.nN e.symm))).trans (HMA.out.frozen 2)
            have hNc : w4.cell? { block := N, off := 2 } = some (.slice AF Fk.length cF) := (World.cell?_of_block (a := { block := N, off := 2 }) (g4.block N HMA.out.lt (fun e => HMA.out.nN e.symm))).trans HMA.out.cells.2.2.1
            obtain ⟨A4, c4, e4, _, _, _, _⟩ := r4.rd
            subst e4
            have HGr := Lib.hid hgr
            have HOT := Lib.hid oT
            have HV4 := Lib.hid hv4
            clear hgr hb4 oW oT hv4 r4 g4 l4
            refine hK.out _ _ ⟨p0, p1⟩ (fun hHeld => ?_)
            clear hK K
            try simp only [Act.put, List.setIfInBounds_toArray, List.set_cons_zero, List.set_cons_succ]
            refine wpAnyH_take (i := 13) (v := ?_) (by simp only [List.getElem?_toArray, List.getElem?_cons_zero, List.getElem?_cons_succ]; rfl) (by kernel_rfl) (by kernel_rfl) (by kernel_rfl) (by exact fun _ _ _ h => h) (Or.inl ⟨by rfl, ?_⟩) (by assumption) ?_
            rotate_left
            · intro w hSw; (try dsimp only at hSw); go_simp; (try with_reducible rfl)
            try simp only [Act.put, List.setIfInBounds_toArray, List.set_cons_zero, List.set_cons_succ]
            refine wpAnyH_take (i := 14) (v := ?_) (by simp only [List.getElem?_toArray, List.getElem?_cons_zero, List.getElem?_cons_succ]; rfl) (by kernel_rfl) (by kernel_rfl) (by kernel_rfl) (by exact fun _ _ _ h => h) (Or.inl ⟨by rfl, ?_⟩) (by assumption) ?_
            rotate_left
            · intro w hSw; (try dsimp only at hSw); go_simp; (try with_reducible rfl)
            try simp only [Act.put, List.setIfInBounds_toArray, List.set_cons_zero, List.set_cons_succ]
            refine wpAnyH_ready (rs := [15]) (by kernel_rfl) (by simp) ?_
            refine AllReadyH.cons (by simp only [List.getElem?_toArray, List.getElem?_cons_zero, List.getElem?_cons_succ]; rfl) (fun K hK => ?_) AllReadyH.nil
            go_simp
            refine hK.out _ _ (⟨q0, q1⟩) (fun hHeld => ?_)
            clear hK K
            try simp only [Act.put, List.setIfInBounds_toArray, List.set_cons_zero, List.set_cons_succ]
            refine wpAnyH_done (by kernel_rfl) ?_ _
            go_wp2_with fail
            go_roundw
            case rel => exact ⟨k + 1, _, by omega, by go_num, by rw [HSucc.out, ← List.append_assoc, HFk.out]; exact HGr.out, HV4.out, HOT.out⟩
            case measure => simp [intOf]; omega
        · obtain rfl : k = hs.length := by omega
          rw [List.take_length] at hM
          have HM2 := Lib.hid hM
          have HV := Lib.hid hv
          have HO := Lib.hid ho
          clear hM hv ho
          go_wp2_with fail
          go_ret
          exact .inl ⟨HGood.out, rfl, ⟨_, _, HM2.out, by rw [← HT2.out]; exact HT.out, HII.out, by rw [← HT2.out]; exact HP2.out, HV.out⟩, HO.out⟩
end Go.Proofs.Ytomcpjgklecopaa
