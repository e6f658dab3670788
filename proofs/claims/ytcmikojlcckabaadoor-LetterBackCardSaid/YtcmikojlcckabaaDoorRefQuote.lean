/- The document's own Quote and Unquote. -/
import Derived.Test.YtcmikojlcckabaaDoorUnquote2
import Derived.Laws.IdiomStrings
import Derived.WalkSmall
set_option linter.unusedVariables false
namespace Go.Proofs.YtcmikojlcckabaaDoor
open Go Go.RowKit

theorem ba_app (u v : ByteArray) : (u ++ v).data.toList = u.data.toList ++ v.data.toList := by rw [ByteArray.data_append]; simp
theorem ba_size (u v : ByteArray) : (u ++ v).size = u.size + v.size := by rw [← size_list, ba_app, List.length_append, size_list, size_list]
theorem escs_snoc (rs : List Int) (k : Nat) (h : k < rs.length) : text (escs (rs.take (k + 1))) = text (escs (rs.take k)) ++ text (esc (rs.getD k 0)) := by
  have e1 : rs.getD k 0 = rs[k] := by simp [List.getD_eq_getElem?_getD, List.getElem?_eq_getElem h]
  have e2 : ∀ a b : List Int, escs (a ++ b) = escs a ++ escs b := fun a b => by simp [escs]
  have e3 : escs [rs[k]] = esc rs[k] := by simp [escs]
  rw [List.take_succ_eq_append_getElem h, e2, text_append, e3, e1]
theorem encode_size (r : Int) : (Utf8.encode r).size ≤ 4 := by
  have := congrArg List.length (encode_model r)
  rw [size_list] at this
  have h2 := encode_length r
  omega
theorem ret_strL {a : ByteArray} {l : List UInt8} (h : a.data.toList = l) : Ending.returned (.string a) = .returned (.string ⟨l.toArray⟩) := by
  have : a = ⟨l.toArray⟩ := ba_ext (by simpa using h)
  rw [this]

set_option maxHeartbeats 4000000 in
set_option maxRecDepth 100000 in
theorem refQuote_any (s : ByteArray) (w : World) (hs : s.size ≤ 1000000) :
    Calls Tryd.prog 14 #[.string s] w fun e w' => e = .returned (.string ⟨(quoteL s.data.toList).toArray⟩) ∧ Below w.heap.size w w' := by
  have hrl := runes_le s
  have hRunes := fun W => refRunes_any s W hs
  have hq : quoteL s.data.toList = 34 :: (text (escs (runes s.data.toList)) ++ [34]) := rfl
  rw [hq]
  clear hq
  generalize runes s.data.toList = rs at *
  have HRunes := Lib.hid hRunes
  have hlen : rs.length ≤ 1000000 := by omega
  clear hrl hRunes
  go_enter Tryd.func14, Tryd.ntmps14
  go_wp2_with fail
  refine (HRunes.out _).mono ?_
  rintro e w1 ⟨v, rfl, hrow, hb⟩
  obtain ⟨A, c, rfl, hnc, hrd⟩ := hrow.rd
  have HRd := Lib.hid hrd
  clear hrow hrd
  go_wp2_with fail
  go_loop [4, 5] (fun t i => ∃ (k : Nat) (U : ByteArray), k ≤ rs.length ∧ i = .int .i64 (k : Nat) ∧ t = .string U ∧ U.data.toList = 34 :: text (escs (rs.take k)) ∧ U.size ≤ 8 * k + 1) (fun _ i => rs.length - (intOf i).toNat)
  case atStart => exact ⟨0, ⟨#[34]⟩, Nat.zero_le _, rfl, rfl, rfl, by decide⟩
  case round =>
    obtain ⟨k, U, hk, rfl, rfl, hU, hUs⟩ := hrel
    have HU := Lib.hid hU
    clear hU
    by_cases hlt : k < rs.length
    · obtain ⟨ad, rfl, hcell⟩ := HRd.out.at1 hlt
      have hsn := escs_snoc rs k hlt
      obtain ⟨r, hr⟩ : ∃ r, rs.getD k 0 = r := ⟨_, rfl⟩
      rw [hr] at hcell hsn
      have HS := Lib.hid hsn
      have hes := encode_size r
      clear hsn hr
      have hUb : U.size ≤ 8000001 := by omega
      by_cases h1 : r = 34 ∨ r = 92
      · have HT := Lib.hid (esc_text_sign h1)
        have hsplit : ((r == 34) = true ∧ (r == 10) = false) ∨ ((r == 34) = false ∧ (r == 92) = true ∧ (r == 10) = false) := by
          rcases h1 with rfl | rfl
          · exact .inl ⟨rfl, rfl⟩
          · exact .inr ⟨rfl, rfl, rfl⟩
        clear h1
        rcases hsplit with ⟨h34, h10⟩ | ⟨h34, h92, h10⟩
        all_goals
          go_wp2_with fail
          go_round
          case rel =>
            refine ⟨k + 1, _, by omega, by go_num, rfl, ?_, ?_⟩
            · rw [ba_app, ba_app, HU.out, HS.out, HT.out, encode_model]
              simp
            · rw [ba_size, ba_size]
              have : (⟨#[92]⟩ : ByteArray).size = 1 := rfl
              omega
          case measure => simp [intOf]; omega
      · have h34 : (r == 34) = false := beq_eq_false_iff_ne.2 (fun e => h1 (.inl e))
        have h92 : (r == 92) = false := beq_eq_false_iff_ne.2 (fun e => h1 (.inr e))
        by_cases h2 : r = 10
        · have HT := Lib.hid (esc_text_line h2)
          have h10 : (r == 10) = true := beq_iff_eq.2 h2
          clear h1 h2
          go_wp2_with fail
          go_round
          case rel =>
            refine ⟨k + 1, _, by omega, by go_num, rfl, ?_, ?_⟩
            · rw [ba_app, HU.out, HS.out, HT.out]
              simp
            · rw [ba_size]
              have : (⟨#[92, 110]⟩ : ByteArray).size = 2 := rfl
              omega
          case measure => simp [intOf]; omega
        · have HT := Lib.hid (esc_text_else h1 h2)
          have h10 : (r == 10) = false := beq_eq_false_iff_ne.2 h2
          clear h1 h2
          go_wp2_with fail
          go_round
          case rel =>
            refine ⟨k + 1, _, by omega, by go_num, rfl, ?_, ?_⟩
            · rw [ba_app, HU.out, HS.out, HT.out, encode_model]
              simp
            · rw [ba_size]
              omega
          case measure => simp [intOf]; omega
    · obtain rfl : k = rs.length := by omega
      have hUb : U.size ≤ 8000001 := by omega
      go_wp2_with fail
      go_ret
      refine ⟨ret_strL ?_, hb⟩
      rw [ba_app, HU.out, List.take_length]
      simp

/-! ### the document's Unquote, byte by byte -/
def RowU (w : World) (B : Nat) (v : Value) (l : List UInt8) : Prop := w.ownsRow B 5 1 v l.length (Lib.byteCells l)
theorem RowU.snoc {w : World} {B n : Nat} {v : Value} {l : List UInt8} {c : UInt8} (h : w.ownsRow B 5 1 v n (Lib.byteCells l ++ [.int .u8 (c.toNat : Int)])) (hn : n = l.length + 1) : RowU w B v (l ++ [c]) := by
  subst hn
  unfold RowU
  rw [List.length_append, Lib.byteCells_append]
  exact h
theorem conv_bytes (w : World) (B : Nat) (v : Value) (l : List UInt8) (h : RowU w B v l) : (convert 46 9 v).run Tryd.prog w = .ok (.string ⟨l.toArray⟩) w := by
  unfold RowU at h
  rcases h.2 with ⟨hv, hl⟩ | ⟨g, cap, cur, hv, _⟩
  · have : l = [] := List.eq_nil_of_length_eq_zero hl
    subst this; subst hv
    rw [run_convert_bytes_string w 46 9 5 none 0 0 Tryd.underlying46 Tryd.underlying5 Tryd.underlying9]
    rfl
  · subst hv
    refine run_convert_bytes_back (P := Tryd.prog) w 46 9 5 ⟨g, 0, none⟩ cap l Tryd.underlying46 Tryd.underlying5 Tryd.underlying9 ?_
    intro j hj
    refine h.cells (g := g) rfl j _ ?_
    simp [Lib.byteCells, List.getElem?_eq_getElem hj]
theorem ub_length : ∀ l : List UInt8, (ub l).length ≤ l.length
  | [] => Nat.le_refl _
  | [c] => Nat.le_refl _
  | c :: d :: t => by
    unfold ub
    split
    · have := ub_length t
      simp; omega
    · have := ub_length (d :: t)
      simp at this ⊢; omega
theorem inner_at (s : ByteArray) (k : Nat) (h1 : 1 ≤ k) (h2 : k + 1 < s.size) : ((s.data.toList.drop 1).dropLast).drop (k - 1) = (s[k]'(by omega)) :: ((s.data.toList.drop 1).dropLast).drop k := by
  have hl : ((s.data.toList.drop 1).dropLast).length = s.size - 2 := by rw [List.length_dropLast, List.length_drop, size_list]; omega
  have hk : k - 1 < ((s.data.toList.drop 1).dropLast).length := by omega
  rw [List.drop_eq_getElem_cons hk, show k - 1 + 1 = k from by omega]
  congr 1
  rw [List.getElem_dropLast, List.getElem_drop, Array.getElem_toList]
  have e : 1 + (k - 1) = k := by omega
  simp only [e]
  rfl
theorem inner_end (s : ByteArray) (k : Nat) (h2 : s.size ≤ k + 1) : ((s.data.toList.drop 1).dropLast).drop (k - 1) = [] := by
  apply List.drop_eq_nil_of_le
  rw [List.length_dropLast, List.length_drop, size_list]
  omega
theorem ub_plain (c : UInt8) (t : List UInt8) (h : c ≠ 92 ∨ t = []) : ub (c :: t) = c :: ub t := by
  rcases h with h | h
  · exact ub_cons c t h
  · subst h; rfl
theorem ub_slash (d : UInt8) (t : List UInt8) : ub (92 :: d :: t) = (if d = 110 then 10 else d) :: ub t := by
  show (if (92 : UInt8) = 92 then _ else _) = _
  rw [if_pos rfl]
theorem byte_info' : (Tryd.prog.info? 5).map (fun i => (i.zero, i.size, i.bytes)) = some (some (.int .u8 0), 1, 1) := by kernel_rfl

set_option maxHeartbeats 4000000 in
set_option maxRecDepth 100000 in
theorem refUnquote_short (s : ByteArray) (w : World) (h : s.size < 2) :
    Calls Tryd.prog 12 #[.string s] w fun e w' => e = .returned (.tuple #[.string ⟨#[]⟩, .bool false]) ∧ Below w.heap.size w w' := by
  go_enter Tryd.func12, Tryd.ntmps12
  go_wp2_with fail
  go_ret2
  exact ⟨rfl, Below.refl _ _⟩

set_option maxHeartbeats 4000000 in
set_option maxRecDepth 100000 in
theorem refUnquote_any (s : ByteArray) (w : World) (h2 : 2 ≤ s.size) (hs : s.size ≤ 1000000) (qb : Bool) (hqb : ((⟨(quoteL (ub (s.data.toList.drop 1).dropLast)).toArray⟩ : ByteArray).toList == s.toList) = qb) :
    Calls Tryd.prog 12 #[.string s] w fun e w' => e = .returned (.tuple #[.string ⟨(ub (s.data.toList.drop 1).dropLast).toArray⟩, .bool qb]) ∧ Below w.heap.size w w' := by
  obtain ⟨T, hT⟩ : ∃ T, ub (s.data.toList.drop 1).dropLast = T := ⟨_, rfl⟩
  have hTl : T.length ≤ s.size := by
    rw [← hT]
    refine Nat.le_trans (ub_length _) ?_
    rw [List.length_dropLast, List.length_drop, size_list]; omega
  rw [hT] at hqb ⊢
  have hq : ∀ W, Calls Tryd.prog 14 #[.string ⟨T.toArray⟩] W fun e w' => e = .returned (.string ⟨(quoteL T).toArray⟩) ∧ Below W.heap.size W w' := fun W => by
    have hsz : (⟨T.toArray⟩ : ByteArray).size ≤ 1000000 := by rw [← size_list]; simp; omega
    have := refQuote_any ⟨T.toArray⟩ W hsz
    simpa using this
  have HQ := Lib.hid hq
  have HQb := Lib.hid hqb
  have HT := Lib.hid hT
  have HTl := Lib.hid hTl
  clear hq hqb hT hTl
  obtain ⟨i0, hi, hz0, hz1, hz2⟩ := info_parts byte_info'
  have g2 : ¬ ((s.size : Int) < 2) := by omega
  go_enter Tryd.func12, Tryd.ntmps12
  go_wp2_with fail
  go_loopw [4, 5] (fun x i wr => ∃ (k : Nat) (v : Value) (done : List UInt8), 1 ≤ k ∧ k ≤ s.size ∧ i = .int .i64 (k : Nat) ∧ v = x ∧ RowU wr w.heap.size v done ∧ done.length ≤ k ∧ done ++ ub (((s.data.toList.drop 1).dropLast).drop (k - 1)) = T ∧ Below w.heap.size w wr) (fun _ i _ => s.size - (intOf i).toNat)
  case atStart => exact ⟨1, _, [], Nat.le_refl _, by omega, rfl, rfl, World.ownsRow_nil _ _ _ _, Nat.zero_le _, HT.out, Below.refl _ _⟩
  case round =>
    obtain ⟨k, v, done, hk1, hk2, rfl, rfl, hrow, hdl, hdone, hbw⟩ := hrel
    have hszw := hbw.size
    by_cases hlt : k + 1 < s.size
    · have hz : 0 ≤ (k : Int) ∧ (k : Int) < (s.size : Int) := by omega
      rw [inner_at s k hk1 hlt] at hdone
      by_cases h92 : s[k]'(by omega) = 92
      · by_cases hlt2 : k + 2 < s.size
        · have hin := inner_at s (k + 1) (by omega) (by omega)
          rw [show k + 1 - 1 = k from by omega] at hin
          rw [hin, h92, ub_slash] at hdone
          have f92 := b92 h92
          have hlt3 : (k : Int) + 1 < (s.size : Int) - 1 := by omega
          by_cases h110 : s[k + 1]'(by omega) = 110
          · have f110 := b110 h110
            rw [if_pos h110] at hdone
            have HD := Lib.hid hdone
            clear hdone hin h92 h110
            go_wp2_with (at_builtin; refine wpList_append_own _ rfl _ _ 46 rfl w.heap.size 5 i0 (.int .u8 0) 1 1 Tryd.underlying46 hi hz0 hz1 hz2 rfl (by decide) _ _ _ rfl (World.ownsRow.alloc hrow _) ⟨wr.heap.size, 0, none⟩ 1 1 [.int .u8 10] rfl rfl ?d1 ?d2 ?d3 ?d4 ?d5 ?_)
            case d1 =>
              intro j u hj
              match j, hj with
              | 0, hj => simp at hj; subst hj; simp [Addr.add]
            case d2 => first | rfl | (intro u hu; simp at hu; subst hu; rfl)
            case d3 => unfold maxLen; omega
            case d4 => omega
            case d5 => first | omega | (simp; omega)
            intro v' w2 hown' hgrow _
            have hbw2 : Below w.heap.size w w2 := (hbw.alloc (by omega) _).grown hgrow (by simp; omega) (fun q hq => (hrow.lt q hq).1)
            go_wp2_with fail
            go_roundw
            case rel => exact ⟨k + 2, v', done ++ [10], by omega, by omega, by go_num, rfl, RowU.snoc (c := 10) hown' rfl, by rw [List.length_append, List.length_cons, List.length_nil]; omega, by rw [List.append_assoc]; exact HD.out, hbw2⟩
            case measure => simp [intOf]; omega
          · have f110 := b110n h110
            rw [if_neg h110] at hdone
            have HD := Lib.hid hdone
            clear hdone hin h92 h110
            go_wp2_with (at_builtin; refine wpList_append_own _ rfl _ _ 46 rfl w.heap.size 5 i0 (.int .u8 0) 1 1 Tryd.underlying46 hi hz0 hz1 hz2 rfl (by decide) _ _ _ rfl (World.ownsRow.alloc hrow _) ⟨wr.heap.size, 0, none⟩ 1 1 [.int .u8 ((s[k + 1]'(by omega)).toNat : Int)] rfl rfl ?e1 ?e2 ?e3 ?e4 ?e5 ?_)
            case e1 =>
              intro j u hj
              match j, hj with
              | 0, hj => simp at hj; subst hj; simp [Addr.add]
            case e2 => first | rfl | (intro u hu; simp at hu; subst hu; rfl)
            case e3 => unfold maxLen; omega
            case e4 => omega
            case e5 => first | omega | (simp; omega)
            intro v' w2 hown' hgrow _
            have hbw2 : Below w.heap.size w w2 := (hbw.alloc (by omega) _).grown hgrow (by simp; omega) (fun q hq => (hrow.lt q hq).1)
            go_wp2_with fail
            go_roundw
            case rel => exact ⟨k + 2, v', done ++ [(s[k + 1]'(by omega))], by omega, by omega, by go_num, rfl, RowU.snoc (c := (s[k + 1]'(by omega))) hown' rfl, by rw [List.length_append, List.length_cons, List.length_nil]; omega, by rw [List.append_assoc]; exact HD.out, hbw2⟩
            case measure => simp [intOf]; omega
        · have hend := inner_end s (k + 1) (by omega)
          rw [show k + 1 - 1 = k from by omega] at hend
          rw [hend, ub_plain _ _ (.inr rfl)] at hdone
          have f92 := b92 h92
          have hlt3 : ¬ ((k : Int) + 1 < (s.size : Int) - 1) := by omega
          have HD := Lib.hid hdone
          have HE := Lib.hid hend
          clear hdone hend h92
          go_wp2_with (at_builtin; refine wpList_append_own _ rfl _ _ 46 rfl w.heap.size 5 i0 (.int .u8 0) 1 1 Tryd.underlying46 hi hz0 hz1 hz2 rfl (by decide) _ _ _ rfl (World.ownsRow.alloc hrow _) ⟨wr.heap.size, 0, none⟩ 1 1 [.int .u8 ((s[k]'(by omega)).toNat : Int)] rfl rfl ?f1 ?f2 ?f3 ?f4 ?f5 ?_)
          case f2 => first | rfl | (intro u hu; simp at hu; subst hu; rfl)
          case f3 => unfold maxLen; omega
          case f4 => omega
          case f5 => first | omega | (simp; omega)
          intro v' w2 hown' hgrow _
          have hbw2 : Below w.heap.size w w2 := (hbw.alloc (by omega) _).grown hgrow (by simp; omega) (fun q hq => (hrow.lt q hq).1)
          go_wp2_with fail
          go_roundw
          case rel => exact ⟨k + 1, v', done ++ [(s[k]'(by omega))], by omega, by omega, by go_num, rfl, RowU.snoc (c := (s[k]'(by omega))) hown' rfl, by rw [List.length_append, List.length_cons, List.length_nil]; omega, by rw [List.append_assoc, show k + 1 - 1 = k from by omega, HE.out]; exact HD.out, hbw2⟩
          case measure => simp [intOf]; omega
      · rw [ub_plain _ _ (.inl h92)] at hdone
        have f92 := b92n h92
        have HD := Lib.hid hdone
        clear hdone h92
        go_wp2_with (at_builtin; refine wpList_append_own _ rfl _ _ 46 rfl w.heap.size 5 i0 (.int .u8 0) 1 1 Tryd.underlying46 hi hz0 hz1 hz2 rfl (by decide) _ _ _ rfl (World.ownsRow.alloc hrow _) ⟨wr.heap.size, 0, none⟩ 1 1 [.int .u8 ((s[k]'(by omega)).toNat : Int)] rfl rfl ?g1 ?g2 ?g3 ?g4 ?g5 ?_)
        case g1 =>
          intro j u hj
          match j, hj with
          | 0, hj => simp at hj; subst hj; simp [Addr.add]
        case g2 => first | rfl | (intro u hu; simp at hu; subst hu; rfl)
        case g3 => unfold maxLen; omega
        case g4 => omega
        case g5 => first | omega | (simp; omega)
        intro v' w2 hown' hgrow _
        have hbw2 : Below w.heap.size w w2 := (hbw.alloc (by omega) _).grown hgrow (by simp; omega) (fun q hq => (hrow.lt q hq).1)
        go_wp2_with fail
        go_roundw
        case rel => exact ⟨k + 1, v', done ++ [(s[k]'(by omega))], by omega, by omega, by go_num, rfl, RowU.snoc (c := (s[k]'(by omega))) hown' rfl, by rw [List.length_append, List.length_cons, List.length_nil]; omega, by rw [List.append_assoc, show k + 1 - 1 = k from by omega]; exact HD.out, hbw2⟩
        case measure => simp [intOf]; omega
    · rw [inner_end s k (by omega)] at hdone
      have hlt3 : ¬ ((k : Int) < (s.size : Int) - 1) := by omega
      have hde : done = T := by simpa [ub] using hdone
      subst hde
      have hcv := conv_bytes wr w.heap.size v done hrow
      clear hdone
      obtain ⟨A, c, rfl⟩ : ∃ A c, v = .slice A done.length c := by
        unfold RowU at hrow
        rcases hrow.2 with ⟨hv, hl⟩ | ⟨g, cap, cur, hv, _⟩
        · exact ⟨none, 0, by rw [hv, hl]⟩
        · exact ⟨_, _, hv⟩
      have hqb := HQb.out
      generalize hU : (⟨done.toArray⟩ : ByteArray) = U at *
      generalize (⟨(quoteL done).toArray⟩ : ByteArray) = Q at *
      have HU := Lib.hid hU
      clear hU
      go_wp2_with fail
      refine (HQ.out _).mono ?_
      rintro e w2 ⟨rfl, b2⟩
      go_wp2_with fail
      go_ret2
      exact ⟨by rw [HU.out]; rfl, bt hbw b2⟩
end Go.Proofs.YtcmikojlcckabaaDoor
