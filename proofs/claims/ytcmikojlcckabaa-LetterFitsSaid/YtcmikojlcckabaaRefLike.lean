/- The document's own Like. -/
import Derived.Test.YtcmikojlcckabaaNames
import Derived.WalkSmall
import Derived.Laws.OwnMore
import Derived.Deep.QuietTactic
import Derived.BigQuiet
set_option linter.unusedVariables false
namespace Go.Proofs.Ytcmikojlcckabaa
open Go Go.RowKit

/-- Whether the first i runes fit the first k of the pattern. -/
def fk (rs ps : List Int) (k i : Nat) : Bool := reachF (rs.take i).reverse ps k
theorem fk_zero (rs ps : List Int) (i : Nat) (hi : i ≤ rs.length) : fk rs ps 0 i = decide (i = 0) := by
  unfold fk reachF
  cases i with
  | zero => simp [fitsL]
  | succ i =>
    rw [take_rev rs i (by omega)]
    simp [fitsL]
theorem fk_head (rs ps : List Int) (k : Nat) (h : k < ps.length) : fk rs ps (k + 1) 0 = (fk rs ps k 0 && (ps.getD k 0 == 42)) := by
  unfold fk
  exact reach_nil_succ ps k h
theorem fk_star (rs ps : List Int) (k i : Nat) (h : k < ps.length) (hi : i < rs.length) (h42 : ps.getD k 0 = 42) : fk rs ps (k + 1) (i + 1) = (fk rs ps k (i + 1) || fk rs ps (k + 1) i) := by
  unfold fk
  rw [take_rev rs i hi]
  exact reach_star _ _ ps k h h42
theorem fk_one (rs ps : List Int) (k i : Nat) (h : k < ps.length) (hi : i < rs.length) (h42 : ps.getD k 0 ≠ 42) : fk rs ps (k + 1) (i + 1) = ((ps.getD k 0 == 63 || ps.getD k 0 == rs.getD i 0) && fk rs ps k i) := by
  unfold fk
  rw [take_rev rs i hi]
  exact reach_one _ _ ps k h h42
theorem fk_last (rs ps : List Int) : fk rs ps ps.length rs.length = fitsL rs.reverse ps.reverse := by
  unfold fk
  rw [reach_last, List.take_length]
def anyU (f : Nat → Bool) (j : Nat) : Bool := (List.range j).any f
theorem anyU_zero (f : Nat → Bool) : anyU f 0 = false := rfl
theorem anyU_succ (f : Nat → Bool) (j : Nat) : anyU f (j + 1) = (anyU f j || f j) := by
  unfold anyU
  rw [List.range_succ, List.any_append]
  simp
theorem fk_any (rs ps : List Int) (k : Nat) (h : k < ps.length) (h42 : ps.getD k 0 = 42) : ∀ i, i ≤ rs.length → fk rs ps (k + 1) i = anyU (fk rs ps k) (i + 1)
  | 0, _ => by
    rw [fk_head rs ps k h, anyU_succ, anyU_zero, h42]
    simp
  | i + 1, hi => by
    rw [fk_star rs ps k i h (by omega) h42, fk_any rs ps k h h42 i (by omega), anyU_succ _ (i + 1), Bool.or_comm]
def rowU (f : Nat → Bool) (j : Nat) : List Bool := (List.range j).map f
theorem rowU_length (f : Nat → Bool) (j : Nat) : (rowU f j).length = j := by simp [rowU]
theorem rowU_snoc (f : Nat → Bool) (j : Nat) : rowU f (j + 1) = rowU f j ++ [f j] := by simp [rowU, List.range_succ]
theorem rowU_at (f : Nat → Bool) (j k : Nat) (h : k < j) : (rowU f j).getD k false = f k := by
  unfold rowU
  rw [List.getD_eq_getElem?_getD, List.getElem?_map, List.getElem?_range h]
  rfl

/-- A row of bools that the call has made by append: maybe none yet. -/
def BRow (w : World) (B : Nat) (v : Value) (n : Nat) (bs : List Bool) : Prop := w.ownsRow B 4 1 v n (bs.map Value.bool)
theorem BRow.form {w : World} {B n : Nat} {v : Value} {bs : List Bool} (h : BRow w B v n bs) (hn : 0 < n) : ∃ g cap, v = .slice (some ⟨g, 0, none⟩) n cap ∧ n ≤ cap := by
  unfold BRow at h
  rcases h.2 with ⟨hv, h0⟩ | ⟨g', cap, cur, hv, hB, hgg, hrest⟩
  · omega
  · exact ⟨g', cap, hv, by first | exact hrest.1 | exact hrest.2.1 | omega⟩
theorem BRow.cellAt {w : World} {B g n cap : Nat} {bs : List Bool} (h : BRow w B (.slice (some ⟨g, 0, none⟩) n cap) n bs) (hl : bs.length = n) {k : Nat} (hk : k < n) : w.cell? ⟨g, k, none⟩ = some (.bool (bs.getD k false)) := by
  unfold BRow at h
  rw [World.ownsRow.cellAt h k (by omega)]
  simp [List.getD_eq_getElem?_getD, List.getElem?_eq_getElem (show k < bs.length by omega)]
theorem BRow.below {w w' : World} {B B' n : Nat} {v : Value} {bs : List Bool} (h : BRow w B v n bs) (hb : Below B' w w') (hg : w.heap.size ≤ B') : BRow w' B v n bs := by
  have hlt := World.ownsRow.lt h
  unfold BRow at h ⊢
  rcases h.2 with hv | ⟨g', cap, cur, hv, hB, hgg, hrest⟩
  · exact ⟨h.1, .inl hv⟩
  · have h1 := hlt g' (by subst hv; rfl)
    exact ⟨h.1, .inr ⟨g', cap, cur, hv, hB, (hb.block g' (by omega)).trans hgg, hrest⟩⟩
theorem BRow.low {w : World} {B B' n : Nat} {v : Value} {bs : List Bool} (h : BRow w B v n bs) (hB : B' ≤ B) : BRow w B' v n bs := by
  unfold BRow at h ⊢
  rcases h.2 with hv | ⟨g', cap, cur, hv, hb, hrest⟩
  · exact ⟨h.1, .inl hv⟩
  · exact ⟨h.1, .inr ⟨g', cap, cur, hv, by omega, hrest⟩⟩
theorem BRow.snoc {w : World} {B n m : Nat} {v : Value} {f : Nat → Bool} {b : Bool} (h : w.ownsRow B 4 1 v m ((rowU f n).map Value.bool ++ [.bool b])) (hm : m = n + 1) (hb : f n = b) : BRow w B v (n + 1) (rowU f (n + 1)) := by
  subst hm
  unfold BRow
  rw [rowU_snoc, List.map_append, hb]
  exact h

set_option maxHeartbeats 2000000 in
set_option maxRecDepth 100000 in
theorem refLike_any (s p : ByteArray) (w : World) (hs : s.size ≤ 1000) (hp : p.size ≤ 1000) :
    Calls Try.prog 17 #[.string s, .string p] w fun e w' => e = .returned (.bool (fitsL (runes s.data.toList).reverse (runes p.data.toList).reverse)) ∧ Below w.heap.size w w' := by
  have hl1 := runes_le s
  have hl2 := runes_le p
  have hR1 := fun W => refRunes_any s W (by omega)
  have hR2 := fun W => refRunes_any p W (by omega)
  generalize runes s.data.toList = rs at *
  generalize runes p.data.toList = ps at *
  have HR1 := Lib.hid hR1
  have HR2 := Lib.hid hR2
  clear hR1 hR2
  have hn : rs.length ≤ 1000 := by omega
  have hm : ps.length ≤ 1000 := by omega
  clear hl1 hl2
  obtain ⟨i0, hi, hz0, hz1, hz2⟩ := info_parts bool_info
  go_enter Try.func17, Try.ntmps17
  go_wp2_with fail
  refine (HR1.out _).mono ?_
  rintro e w1 ⟨v1, rfl, hrow1, hb1⟩
  obtain ⟨A, c, rfl, hc, hrd1⟩ := hrow1.rd
  have HD1 := Lib.hid hrd1
  clear hrow1 hrd1
  go_wp2_with fail
  refine (HR2.out _).mono ?_
  rintro e w2 ⟨v2, rfl, hrow2, hb2⟩
  obtain ⟨P, d, rfl, hd, hrd2⟩ := hrow2.rd
  have HDs := Lib.hid (HD1.out.below (Nat.le_refl _) hb2)
  have HDp := Lib.hid hrd2
  have hb12 := bt hb1 hb2
  clear hrow2 hrd2 HD1 hb1 hb2
  go_wp2_with fail
  go_loopw [7, 8] (fun x i wr => ∃ (v : Value) (k : Nat), x = v ∧ i = .int .i64 (k : Nat) ∧ k ≤ rs.length + 1 ∧ BRow wr w2.heap.size v k (rowU (fk rs ps 0) k) ∧ Below w2.heap.size w2 wr) (fun _ i _ => rs.length + 1 - (intOf i).toNat)
  case atStart => exact ⟨_, 0, rfl, rfl, Nat.zero_le _, World.ownsRow_nil _ _ _ _, Below.refl _ _⟩
  case round =>
    obtain ⟨v, k, rfl, rfl, hk, hrow, hbw⟩ := hrel
    have hbs := hbw.size
    by_cases hlt : k ≤ rs.length
    · have HZ := Lib.hid (fk_zero rs ps k hlt)
      obtain ⟨b, hb⟩ : ∃ b : Bool, ((k : Int) == 0) = b := ⟨_, rfl⟩
      have HZ2 : Hid (fk rs ps 0 k = b) := by
        refine Lib.hid ?_
        rw [HZ.out, ← hb, Bool.eq_iff_iff]
        simp
      go_wp2_with (at_builtin; refine wpList_append_own _ rfl _ _ 52 rfl (w2.heap.size) 4 i0 (.bool false) 1 1 Try.underlying52 hi hz0 hz1 hz2 rfl (by decide) _ _ _ rfl (hrow.alloc _) ⟨wr.heap.size, 0, none⟩ 1 1 [.bool b] rfl rfl ?a1 ?b1 ?c1 ?d1 ?e1 ?_)
      try (case a1 =>
        intro j' u' hj'
        match j', hj' with
        | 0, hj' => simp at hj'; subst hj'; simp [Addr.add])
      try (case b1 => first | rfl | (intro u' hu'; simp at hu'; subst hu'; rfl))
      try (case c1 => unfold maxLen; omega)
      try (case d1 => omega)
      try (case e1 => first | omega | (simp; omega))
      intro v' w3 hown' hgrow _
      have hbw3 : Below w2.heap.size w2 w3 := (hbw.alloc (by omega) _).grown hgrow (by simp; omega) (fun k' hk' => by have := (hrow.lt k' hk').1; omega)
      clear hb
      go_wp2_with fail
      go_roundw
      case rel => exact ⟨v', k + 1, rfl, by go_num, by omega, BRow.snoc hown' rfl HZ2.out, hbw3⟩
      case measure => simp [intOf]; omega
    · obtain rfl : k = rs.length + 1 := by omega
      have HRow1 := Lib.hid hrow
      clear hrow hk hlt
      go_wp2_with fail
      go_loopw [7, 9] (fun x k wr' => ∃ (v : Value) (n : Nat), x = v ∧ k = .int .i64 (n : Nat) ∧ n ≤ ps.length ∧ BRow wr' w2.heap.size v (rs.length + 1) (rowU (fk rs ps n) (rs.length + 1)) ∧ Below w2.heap.size w2 wr') (fun _ k _ => ps.length - (intOf k).toNat)
      case atStart => exact ⟨_, 0, rfl, rfl, Nat.zero_le _, HRow1.out, hbw⟩
      case round =>
        clear HRow1 hbs hbw
        obtain ⟨v, k, rfl, rfl, hk, hrow, hbw⟩ := hrel
        obtain ⟨g, cap, rfl, hcap⟩ := hrow.form (by omega)
        obtain ⟨wk, hwk⟩ : ∃ x, x = wr := ⟨_, rfl⟩
        subst hwk
        have hbs := hbw.size
        by_cases hlt : k < ps.length
        · have HRowK := Lib.hid hrow
          clear hrow
          obtain ⟨ap, rfl, hcp⟩ := (HDp.out.below (Nat.le_refl _) hbw).at1 hlt
          clear hcp
          obtain ⟨q, hq⟩ : ∃ q, ps.getD k 0 = q := ⟨_, rfl⟩
          have HQ := Lib.hid hq
          clear hq
          go_wp2_with fail
          go_loopw [10, 11] (fun x j wx => ∃ (v : Value) (i : Nat), x = v ∧ j = .int .i64 (i : Nat) ∧ i ≤ rs.length + 1 ∧ BRow wx wk.heap.size v i (rowU (fk rs ps (k + 1)) i) ∧ Below wk.heap.size wk wx) (fun _ j _ => rs.length + 1 - (intOf j).toNat)
          case atStart => exact ⟨_, 0, rfl, rfl, Nat.zero_le _, World.ownsRow_nil _ _ _ _, Below.refl _ _⟩
          case round =>
            obtain ⟨vn, i, rfl, rfl, hi3, hrow3, hbw3⟩ := hrel
            have hbs3 := hbw3.size
            by_cases hlt3 : i ≤ rs.length
            · have hrowk := HRowK.out.below hbw3 (Nat.le_refl _)
              obtain ⟨ap', he, hcp⟩ := (HDp.out.below (Nat.le_refl _) (bt hbw hbw3)).at1 hlt
              obtain rfl : ap = ap' := by injection he
              rw [HQ.out] at hcp
              clear he
              have hnn := rowU_length (fk rs ps k) (rs.length + 1)
              have HNn := Lib.hid hnn
              clear hnn
              by_cases h42 : q = 42
              · subst h42
                have HAll := Lib.hid (fk_any rs ps k hlt HQ.out i hlt3)
                have HRk := Lib.hid hrowk
                clear hrowk
                go_wp2_with fail
                go_loop [12, 13] (fun o j => ∃ (b : Bool) (m : Nat), o = .bool b ∧ j = .int .i64 (m : Nat) ∧ m ≤ i + 1 ∧ anyU (fk rs ps k) m = b) (fun _ j => i + 1 - (intOf j).toNat)
                case atStart => exact ⟨false, 0, rfl, rfl, by omega, rfl⟩
                case round =>
                  obtain ⟨b, m, rfl, rfl, hm4, hany⟩ := hrel
                  have HAny := Lib.hid hany
                  clear hany
                  by_cases hm5 : m ≤ i
                  · have hcl := HRk.out.cellAt HNn.out (k := m) (by omega)
                    rw [rowU_at _ _ _ (by omega)] at hcl
                    obtain ⟨b2, hb2⟩ : ∃ b2, fk rs ps k m = b2 := ⟨_, rfl⟩
                    rw [hb2] at hcl
                    have HB2 := Lib.hid hb2
                    clear hb2
                    cases b
                    · go_wp2_with fail
                      go_round
                      case rel => exact ⟨b2, m + 1, rfl, by go_num, by omega, by rw [anyU_succ, HAny.out, HB2.out]; rfl⟩
                      case measure => simp [intOf]; omega
                    · go_wp2_with fail
                      go_round
                      case rel => exact ⟨true, m + 1, rfl, by go_num, by omega, by rw [anyU_succ, HAny.out]; rfl⟩
                      case measure => simp [intOf]; omega
                  · obtain rfl : m = i + 1 := by omega
                    clear hm4 hm5
                    go_wp2_with (at_builtin; refine wpList_append_own _ rfl _ _ 52 rfl (wk.heap.size) 4 i0 (.bool false) 1 1 Try.underlying52 hi hz0 hz1 hz2 rfl (by decide) _ _ _ rfl (hrow3.alloc _) ⟨wr.heap.size, 0, none⟩ 1 1 [.bool b] rfl rfl ?a2 ?b2 ?c2 ?d2 ?e2 ?_)
                    try (case a2 =>
                      intro j' u' hj'
                      match j', hj' with
                      | 0, hj' => simp at hj'; subst hj'; simp [Addr.add])
                    try (case b2 => first | rfl | (intro u' hu'; simp at hu'; subst hu'; rfl))
                    try (case c2 => unfold maxLen; omega)
                    try (case d2 => omega)
                    try (case e2 => first | omega | (simp; omega))
                    intro v' w4 hown' hgrow _
                    have hbw4 : Below wk.heap.size wk w4 := (hbw3.alloc (by omega) _).grown hgrow (by simp; omega) (fun k' hk' => by have := (hrow3.lt k' hk').1; omega)
                    go_wp2_with fail
                    go_roundw
                    case rel =>
                      (repeat apply Exists.intro)
                      refine ⟨?_, rfl⟩
                      exact ⟨v', i + 1, rfl, by go_num, by omega, BRow.snoc hown' rfl (by rw [HAll.out]; exact HAny.out), hbw4⟩
                    case measure => first | (simp [intOf]; omega) | simp [intOf]
              · have e42 : (q == 42) = false := beq_eq_false_iff_ne.2 h42
                by_cases hi0 : i = 0
                · have HF : Hid (fk rs ps (k + 1) i = false) := by
                    refine Lib.hid ?_
                    rw [hi0, fk_head rs ps k hlt, HQ.out, e42, Bool.and_false]
                  subst hi0
                  clear hrowk h42
                  go_wp2_with fail
                  go_quiet (fail)
                  have hrow3 : BRow (wr.drewN nq) wk.heap.size _ (0) (rowU (fk rs ps (k + 1)) (0)) := hrow3
                  have hbw3 : Below wk.heap.size wk (wr.drewN nq) := below_drewN hbw3 _
                  have hbs3 := hbw3.size
                  generalize wr.drewN nq = wq at *
                  go_wp2_with (at_builtin; refine wpList_append_own _ rfl _ _ 52 rfl (wk.heap.size) 4 i0 (.bool false) 1 1 Try.underlying52 hi hz0 hz1 hz2 rfl (by decide) _ _ _ rfl (hrow3.alloc _) ⟨wq.heap.size, 0, none⟩ 1 1 [.bool false] rfl rfl ?a3 ?b3 ?c3 ?d3 ?e3 ?_)
                  try (case a3 =>
                    intro j' u' hj'
                    match j', hj' with
                    | 0, hj' => simp at hj'; subst hj'; simp [Addr.add])
                  try (case b3 => first | rfl | (intro u' hu'; simp at hu'; subst hu'; rfl))
                  try (case c3 => unfold maxLen; omega)
                  try (case d3 => omega)
                  try (case e3 => first | omega | (simp; omega))
                  intro v' w4 hown' hgrow _
                  have hbw4 : Below wk.heap.size wk w4 := (hbw3.alloc (by omega) _).grown hgrow (by simp; omega) (fun k' hk' => by have := (hrow3.lt k' hk').1; omega)
                  go_wp2_with fail
                  go_roundw
                  case rel =>
                    (repeat apply Exists.intro)
                    refine ⟨?_, rfl⟩
                    exact ⟨v', 0 + 1, rfl, by go_num, by omega, BRow.snoc hown' rfl (HF.out), hbw4⟩
                  case measure => first | (simp [intOf]; omega) | simp [intOf]
                · obtain ⟨j, rfl⟩ : ∃ j, i = j + 1 := ⟨i - 1, by omega⟩
                  clear hi0
                  obtain ⟨at1, hA, hcs⟩ := (HDs.out.below (Nat.le_refl _) (bt hbw hbw3)).at1 (k := j) (by omega)
                  subst hA
                  have hcl := hrowk.cellAt HNn.out (k := j) (by omega)
                  rw [rowU_at _ _ _ (by omega)] at hcl
                  have h1 := fk_one rs ps k j hlt (by omega) (by rw [HQ.out]; exact h42)
                  rw [HQ.out] at h1
                  obtain ⟨r, hr⟩ : ∃ r, rs.getD j 0 = r := ⟨_, rfl⟩
                  rw [hr] at h1 hcs
                  obtain ⟨b0, hb0⟩ : ∃ b0, fk rs ps k j = b0 := ⟨_, rfl⟩
                  rw [hb0] at h1 hcl
                  have H1 := Lib.hid h1
                  clear h1 hr hb0 hrowk h42
                  cases e63 : (q == 63)
                  · cases epr : (q == r)
                    · have HV : Hid (fk rs ps (k + 1) (j + 1) = false) := Lib.hid (by rw [H1.out, e63, epr]; rfl)
                      go_wp2_with fail
                      go_quiet (fail)
                      have hrow3 : BRow (wr.drewN nq) wk.heap.size _ (j + 1) (rowU (fk rs ps (k + 1)) (j + 1)) := hrow3
                      have hbw3 : Below wk.heap.size wk (wr.drewN nq) := below_drewN hbw3 _
                      have hbs3 := hbw3.size
                      clear hcl
                      generalize wr.drewN nq = wq at *
                      go_wp2_with (at_builtin; refine wpList_append_own _ rfl _ _ 52 rfl (wk.heap.size) 4 i0 (.bool false) 1 1 Try.underlying52 hi hz0 hz1 hz2 rfl (by decide) _ _ _ rfl (hrow3.alloc _) ⟨wq.heap.size, 0, none⟩ 1 1 [.bool false] rfl rfl ?a4 ?b4 ?c4 ?d4 ?e4 ?_)
                      try (case a4 =>
                        intro j' u' hj'
                        match j', hj' with
                        | 0, hj' => simp at hj'; subst hj'; simp [Addr.add])
                      try (case b4 => first | rfl | (intro u' hu'; simp at hu'; subst hu'; rfl))
                      try (case c4 => unfold maxLen; omega)
                      try (case d4 => omega)
                      try (case e4 => first | omega | (simp; omega))
                      intro v' w4 hown' hgrow _
                      have hbw4 : Below wk.heap.size wk w4 := (hbw3.alloc (by omega) _).grown hgrow (by simp; omega) (fun k' hk' => by have := (hrow3.lt k' hk').1; omega)
                      go_wp2_with fail
                      go_roundw
                      case rel =>
                        (repeat apply Exists.intro)
                        refine ⟨?_, rfl⟩
                        exact ⟨v', j + 1 + 1, rfl, by go_num, by omega, BRow.snoc hown' rfl (HV.out), hbw4⟩
                      case measure => first | (simp [intOf]; omega) | simp [intOf]
                    · have HV : Hid (fk rs ps (k + 1) (j + 1) = b0) := Lib.hid (by rw [H1.out, e63, epr]; rfl)
                      go_wp2_with fail
                      go_quiet (fail)
                      have hrow3 : BRow (wr.drewN nq) wk.heap.size _ (j + 1) (rowU (fk rs ps (k + 1)) (j + 1)) := hrow3
                      have hbw3 : Below wk.heap.size wk (wr.drewN nq) := below_drewN hbw3 _
                      have hbs3 := hbw3.size
                      have hcl : (wr.drewN nq).cell? ⟨g, j, none⟩ = some (.bool b0) := hcl
                      generalize wr.drewN nq = wq at *
                      go_wp2_with (at_builtin; refine wpList_append_own _ rfl _ _ 52 rfl (wk.heap.size) 4 i0 (.bool false) 1 1 Try.underlying52 hi hz0 hz1 hz2 rfl (by decide) _ _ _ rfl (hrow3.alloc _) ⟨wq.heap.size, 0, none⟩ 1 1 [.bool b0] rfl rfl ?a5 ?b5 ?c5 ?d5 ?e5 ?_)
                      try (case a5 =>
                        intro j' u' hj'
                        match j', hj' with
                        | 0, hj' => simp at hj'; subst hj'; simp [Addr.add])
                      try (case b5 => first | rfl | (intro u' hu'; simp at hu'; subst hu'; rfl))
                      try (case c5 => unfold maxLen; omega)
                      try (case d5 => omega)
                      try (case e5 => first | omega | (simp; omega))
                      intro v' w4 hown' hgrow _
                      have hbw4 : Below wk.heap.size wk w4 := (hbw3.alloc (by omega) _).grown hgrow (by simp; omega) (fun k' hk' => by have := (hrow3.lt k' hk').1; omega)
                      go_wp2_with fail
                      go_roundw
                      case rel =>
                        (repeat apply Exists.intro)
                        refine ⟨?_, rfl⟩
                        exact ⟨v', j + 1 + 1, rfl, by go_num, by omega, BRow.snoc hown' rfl (HV.out), hbw4⟩
                      case measure => first | (simp [intOf]; omega) | simp [intOf]
                  · have HV : Hid (fk rs ps (k + 1) (j + 1) = b0) := Lib.hid (by rw [H1.out, e63]; rfl)
                    go_wp2_with fail
                    go_quiet (fail)
                    have hrow3 : BRow (wr.drewN nq) wk.heap.size _ (j + 1) (rowU (fk rs ps (k + 1)) (j + 1)) := hrow3
                    have hbw3 : Below wk.heap.size wk (wr.drewN nq) := below_drewN hbw3 _
                    have hbs3 := hbw3.size
                    have hcl : (wr.drewN nq).cell? ⟨g, j, none⟩ = some (.bool b0) := hcl
                    generalize wr.drewN nq = wq at *
                    go_wp2_with (at_builtin; refine wpList_append_own _ rfl _ _ 52 rfl (wk.heap.size) 4 i0 (.bool false) 1 1 Try.underlying52 hi hz0 hz1 hz2 rfl (by decide) _ _ _ rfl (hrow3.alloc _) ⟨wq.heap.size, 0, none⟩ 1 1 [.bool b0] rfl rfl ?a6 ?b6 ?c6 ?d6 ?e6 ?_)
                    try (case a6 =>
                      intro j' u' hj'
                      match j', hj' with
                      | 0, hj' => simp at hj'; subst hj'; simp [Addr.add])
                    try (case b6 => first | rfl | (intro u' hu'; simp at hu'; subst hu'; rfl))
                    try (case c6 => unfold maxLen; omega)
                    try (case d6 => omega)
                    try (case e6 => first | omega | (simp; omega))
                    intro v' w4 hown' hgrow _
                    have hbw4 : Below wk.heap.size wk w4 := (hbw3.alloc (by omega) _).grown hgrow (by simp; omega) (fun k' hk' => by have := (hrow3.lt k' hk').1; omega)
                    go_wp2_with fail
                    go_roundw
                    case rel =>
                      (repeat apply Exists.intro)
                      refine ⟨?_, rfl⟩
                      exact ⟨v', j + 1 + 1, rfl, by go_num, by omega, BRow.snoc hown' rfl (HV.out), hbw4⟩
                    case measure => first | (simp [intOf]; omega) | simp [intOf]
            · obtain rfl : i = rs.length + 1 := by omega
              clear hi3 hlt3
              go_wp2_with fail
              go_roundw
              case rel => exact ⟨_, k + 1, rfl, by go_num, by omega, hrow3.low hbs, bt hbw hbw3⟩
              case measure => simp [intOf]; omega
        · obtain rfl : k = ps.length := by omega
          have hcl := hrow.cellAt (rowU_length _ _) (k := rs.length) (by omega)
          rw [rowU_at _ _ _ (by omega), fk_last] at hcl
          obtain ⟨b, hbe⟩ : ∃ b, fitsL rs.reverse ps.reverse = b := ⟨_, rfl⟩
          rw [hbe] at hcl
          have HBe := Lib.hid hbe
          clear hbe
          go_wp2_with fail
          go_ret
          exact ⟨ret_bool HBe.out.symm, bt hb12 hbw⟩
end Go.Proofs.Ytcmikojlcckabaa
