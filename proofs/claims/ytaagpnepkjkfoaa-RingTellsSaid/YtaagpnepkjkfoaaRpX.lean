/-
  Contract of the document's Rings.
-/
import Derived.Test.YtaagpnepkjkfoaaRpW
namespace Go.Proofs.Ytaagpnepkjkfoaa.R6.T
open Go.RowKit Go.Shelf Go.Proofs.Ytaagpnepkjkfoaa.B Go.Proofs.Ytaagpnepkjkfoaa.R6

/-- Of the first k points those of a ring. -/
def rrL (n : NetL) (i k : Nat) : List Nat := (List.range k).filter fun x => decide (x = i) || (tB n i x && tB n x i)
theorem rrL_next (n : NetL) (i k : Nat) : rrL n i (k + 1) = rrL n i k ++ (if (decide (k = i) || (tB n i k && tB n k i)) then [k] else []) := by
  unfold rrL
  rw [List.range_succ, List.filter_append]
  congr 1
  cases h : (decide (k = i) || (tB n i k && tB n k i)) with
  | true => simp only [List.filter_cons, List.filter_nil, h]
  | false => simp only [List.filter_cons, List.filter_nil, h]
theorem rrL_len (n : NetL) (i k : Nat) : (rrL n i k).length ≤ k := by
  have := List.length_filter_le (fun x => decide (x = i) || (tB n i x && tB n x i)) (List.range k)
  rwa [List.length_range] at this
theorem rrL_all {n : NetL} {i : Nat} (hi : i < n.length) : rrL n i n.length = ringOf (headL n) n.length i := by
  unfold rrL ringOf
  refine List.filter_congr (fun x hx => ?_)
  rw [ring_is hi (List.mem_range.1 hx)]

set_option maxRecDepth 100000 in
set_option maxHeartbeats 8000000 in
theorem rings_doc (W : World) (A : Option Addr) (c : Nat) (n : NetL) (hn : Nt W A n) (hs : Small n) :
    Calls Try.prog 16 #[.slice A n.length c] W fun e w' => ∃ a k, e = .returned (.slice a (ringsN n).length k) ∧ Nt w' a (ringsN n) ∧ Below W.heap.size W w' := by
  show Calls _ _ _ _ (NtP W (ringsN n).length (ringsN n))
  obtain ⟨i0, hi0, hi1, hi2, hi3⟩ := info_parts info_int'
  obtain ⟨j0, hj0, hj1, hj2, hj3⟩ := info_parts info_row'
  have hl24 := hs.l
  have hN0 : (0 : Int) ≤ (n.length : Int) := Int.natCast_nonneg _
  have HT := Lib.hid (table_doc W A c n hn hs)
  clear hn
  go_enter Try.func16, Try.ntmps16
  go_wp2_with fail
  refine HT.out.mono ?_
  rintro e w1 ⟨v, bs, rfl, hbt, hb⟩
  obtain ⟨va, vc, rfl⟩ := own_slice hbt.out
  have hz1 := hb.size
  have T0 : Hid (BT W.heap.size n.length n.length (.slice va n.length vc) bs (tB n) (w1.alloc (.cells #[] 26))) := Lib.hid (hbt.below ((Below.refl _ _).alloc (Nat.le_refl _) _))
  have B0 : Hid (Below W.heap.size W (w1.alloc (.cells #[] 26))) := Lib.hid (hb.alloc hz1 _)
  have O0 : Hid (ORv W.heap.size W.heap.size (w1.alloc (.cells #[] 26)) (.slice (some ⟨w1.heap.size, 0, none⟩) 0 0) [] (rgL n 0)) := Lib.hid (ORv.emp (heap_new _ _) hz1)
  clear HT hbt hb hz1
  go_wp2_with fail
  go_loopw [4, 5] (fun v i wr => ∃ (k : Nat) (vs : List Value), k ≤ n.length ∧ i = .int .i64 k ∧ Hid (BT W.heap.size n.length n.length (.slice va n.length vc) bs (tB n) wr) ∧ Hid (ORv W.heap.size W.heap.size wr v vs (rgL n k)) ∧ Hid (Below W.heap.size W wr)) (fun _ i _ => n.length - (intOf i).toNat)
  case atStart => exact ⟨0, [], Nat.zero_le _, rfl, T0, O0, B0⟩
  case round =>
    clear T0 O0 B0
    obtain ⟨k, vs, hk, rfl, TT, OO, BB⟩ := hrel
    obtain ⟨wo, rfl⟩ : ∃ wo, wo = wr := ⟨wr, rfl⟩
    obtain ⟨oa, oc, rfl⟩ := own_slice OO.out.out
    have hrg := rgL_len n k
    by_cases hlt : k < n.length
    · have hk0 : (0 : Int) ≤ (k : Int) := Int.natCast_nonneg _
      have hk1 : (k : Int) < (n.length : Int) := by omega
      have U0 : Hid (World.ownsRow (wo.alloc (.cells #[] 3)) wo.heap.size 3 1 (.slice (some ⟨wo.heap.size, 0, none⟩) 0 0) (rrL n k 0).length ((rrL n k 0).map iv)) := Lib.hid (own_emp (heap_new _ _) (Nat.le_refl _))
      have X0 : Hid (Below wo.heap.size wo (wo.alloc (.cells #[] 3))) := Lib.hid ((Below.refl _ _).alloc (Nat.le_refl _) _)
      go_wp2_with fail
      go_loopw [6, 7] (fun u j wr => ∃ m : Nat, m ≤ n.length ∧ j = .int .i64 m ∧ Hid (wr.ownsRow wo.heap.size 3 1 u (rrL n k m).length ((rrL n k m).map iv)) ∧ Hid (Below wo.heap.size wo wr)) (fun _ j _ => n.length - (intOf j).toNat)
      case atStart => exact ⟨0, Nat.zero_le _, rfl, U0, X0⟩
      case round =>
        clear U0 X0
        obtain ⟨m, hm, rfl, UU, XX⟩ := hrel
        obtain ⟨ua, uc, rfl⟩ := own_slice UU.out
        have hrl := rrL_len n k m
        by_cases hmt : m < n.length
        · have hm0 : (0 : Int) ≤ (m : Int) := Int.natCast_nonneg _
          have hm1 : (m : Int) < (n.length : Int) := by omega
          have TX := TT.out.below XX.out
          obtain ⟨g, gc, hve, _, _, hck⟩ := TX.at_ (i := k) hlt
          cases hve
          obtain ⟨g, gc, hve, _, _, hcm⟩ := TX.at_ (i := m) hmt
          cases hve
          have hbk := TX.bit (i := k) (j := m) hlt hmt
          have hbm := TX.bit (i := m) (j := k) hmt hlt
          have HNX := Lib.hid (rrL_next n k m)
          have hsz := XX.out.size
          clear TX
          cases hq : (decide (m = k) || (tB n k m && tB n m k)) with
          | true =>
            rw [hq, if_pos rfl] at HNX
            have hcs : ((m : Int) == (k : Int)) = true ∨ (((m : Int) == (k : Int)) = false ∧ tB n k m = true ∧ tB n m k = true) := by
              by_cases e : m = k
              · exact .inl (by rw [e]; exact beq_self_eq_true _)
              · rw [decide_eq_false e, Bool.false_or, Bool.and_eq_true] at hq
                exact .inr ⟨by rw [beq_eq_false_iff_ne]; omega, hq⟩
            rcases hcs with h1 | ⟨h1, h2, h3⟩
            case' inl => clear hbk hbm hck hcm
            case' inr =>
              rw [h2] at hbk
              rw [h3] at hbm
              clear h2 h3
            all_goals
              clear hq
              generalize rrL n k m = l at *
              generalize bs[k]! = z at *
              generalize bs[m]! = y at *
              go_wp2_with (at_builtin; refine wpList_append_own_at _ rfl (.tmp 45) (.tmp 47) 26 rfl wo.heap.size 3 i0 _ 1 8 Try.underlying26 hi0 hi1 hi2 hi3 rfl (by omega) _ _ _ rfl (UU.out.alloc _) ⟨wr.heap.size, 0, none⟩ 1 1 [iv m] rfl rfl ?c1 ?c2 ?c3 ?c4 ?c5 ?_)
              case c1 =>
                intro j u hj
                have hn := heap_new wr (.cells #[iv m] 3)
                match j, hj with
                | 0, hj => cases hj; exact cell_blk hn rfl
              case c2 => first | rfl | (intro u hu; simp at hu; rw [hu]; rfl)
              case c3 => unfold maxLen; omega
              case c4 => omega
              case c5 => first | omega | (rw [World.size_alloc]; omega)
              intro v1 w4 hown' hgrow _ hat
              have U1 : Hid (w4.ownsRow wo.heap.size 3 1 v1 (rrL n k (m + 1)).length ((rrL n k (m + 1)).map iv)) := Lib.hid (by rw [HNX.out, List.length_append, List.map_append]; exact hown')
              have X1 : Hid (Below wo.heap.size wo w4) := Lib.hid ((XX.out.trans (((Below.refl _ _).alloc (Nat.le_refl _) (.cells #[iv m] 3)).mono hsz)).grown hgrow (by rw [World.size_alloc]; omega) (fun q hq => (own_block UU.out hq).1))
              clear hown' hgrow hat UU XX HNX
              go_wp2_with fail
              go_roundw
              case rel => exact ⟨m + 1, hmt, by go_num, U1, X1⟩
              case measure => simp [intOf]; omega
          | false =>
            rw [hq, if_neg (by decide), List.append_nil] at HNX
            have U1 : Hid (wr.ownsRow wo.heap.size 3 1 (.slice ua (rrL n k m).length uc) (rrL n k (m + 1)).length ((rrL n k (m + 1)).map iv)) := Lib.hid (by rw [HNX.out]; exact UU.out)
            clear UU
            have h1 : ((m : Int) == (k : Int)) = false := by
              rw [beq_eq_false_iff_ne]
              intro e
              rw [decide_eq_true (show m = k by omega)] at hq; cases hq
            have hcs : tB n k m = false ∨ (tB n k m = true ∧ tB n m k = false) := by
              cases e1 : tB n k m with
              | false => exact .inl rfl
              | true =>
                cases e2 : tB n m k with
                | false => exact .inr ⟨rfl, rfl⟩
                | true => rw [e1, e2] at hq; simp at hq
            clear HNX hq
            rcases hcs with h2 | ⟨h2, h3⟩
            case' inl =>
              rw [h2] at hbk
              clear h2 hbm hcm
            case' inr =>
              rw [h2] at hbk
              rw [h3] at hbm
              clear h2 h3
            all_goals
              generalize bs[k]! = z at *
              generalize bs[m]! = y at *
              go_wp2_with fail
              go_roundw
              case rel => exact ⟨m + 1, hmt, by go_num, U1, XX⟩
              case measure => simp [intOf]; omega
        · obtain rfl : m = n.length := by omega
          rw [rrL_all hlt] at UU hrl ⊢
          have hin := ringOf_in (H := headL n) hlt
          have hpos : 0 < (ringOf (headL n) n.length k).length := List.length_pos_of_mem hin
          have HFR := Lib.hid (ring_first (H := headL n) hlt)
          have HNX := Lib.hid (rgL_next n k)
          have hsz := XX.out.size
          have hsw := BB.out.size
          clear hin
          generalize hR : ringOf (headL n) n.length k = R at *
          clear hR
          obtain ⟨g, cap, hv, _, _⟩ := own_head UU.out hpos
          cases hv
          have hc0 : wr.cell? ⟨g, 0, none⟩ = some (iv R[0]!) := (UU.out.cellAt 0 (by omega)).trans (by rw [List.getElem?_map, List.getElem?_eq_getElem hpos, getElem!_pos R 0 hpos]; rfl)
          have TX := Lib.hid (TT.out.below XX.out)
          cases hq : firstB (headL n) k with
          | true =>
            have h1 : ((R[0]! : Nat) : Int) = (k : Int) := by rw [HFR.out.2 hq]
            have h2 : (((R[0]! : Nat) : Int) == (k : Int)) = true := by rw [h1]; exact beq_self_eq_true _
            rw [hq, if_pos rfl] at HNX
            have HLN : Hid ((R.map fun j : Nat => (j : Int)).length = R.length) := Lib.hid (List.length_map _)
            have UV : Hid (wr.ownsRow wo.heap.size 3 1 (.slice (some ⟨g, 0, none⟩) R.length uc) (R.map fun j : Nat => (j : Int)).length ((R.map fun j : Nat => (j : Int)).map (Value.int .i64))) := Lib.hid (by rw [HLN.out, ← iv_int]; exact UU.out)
            have O1 := Lib.hid (OO.out.keep (fun q hq => XX.out.block q (by
              rcases hq with hq | ⟨i, hi, hq⟩
              · exact (own_block OO.out.out hq).2
              · exact (own_block (OO.out.inn i hi) hq).2)))
            clear h1 hq HFR UU
            have HO := Lib.hid O1.out.out
            generalize R[0]! = x at *
            go_wp2_with (at_builtin; refine wpList_append_own_at _ rfl (.tmp 54) (.tmp 56) 22 rfl W.heap.size 26 j0 _ 1 24 Try.underlying22 hj0 hj1 hj2 hj3 rfl (by omega) _ _ _ rfl (HO.out.alloc _) ⟨wr.heap.size, 0, none⟩ 1 1 [.slice (some ⟨g, 0, none⟩) R.length uc] rfl rfl ?c1 ?c2 ?c3 ?c4 ?c5 ?_)
            case c1 =>
              intro j u hj
              have hn := heap_new wr (.cells #[.slice (some ⟨g, 0, none⟩) R.length uc] 26)
              match j, hj with
              | 0, hj => cases hj; exact cell_blk hn rfl
            case c2 => first | rfl | (intro u hu; simp at hu; rw [hu]; rfl)
            case c3 => unfold maxLen; omega
            case c4 => omega
            case c5 => first | omega | (rw [World.size_alloc]; omega)
            intro v1 w4 hown' hgrow _ hat
            have hba : Below wo.heap.size wo (wr.alloc (.cells #[.slice (some ⟨g, 0, none⟩) R.length uc] 26)) := XX.out.trans (((Below.refl _ _).alloc (Nat.le_refl _) _).mono hsz)
            have O2 := ORv.pushRow OO.out hba hsw (u := .slice (some ⟨g, 0, none⟩) R.length uc) (UV.out.alloc _) hown' hgrow
            rw [← HNX.out] at O2
            have B2 := (BB.out.trans (hba.mono hsw)).grown hgrow (by rw [World.size_alloc]; omega) (fun q hq => (own_block HO.out hq).1)
            have O3 := Lib.hid O2
            have B3 := Lib.hid B2
            have T3 := Lib.hid ((TX.out.below ((Below.refl _ _).alloc (Nat.le_refl _) (.cells #[.slice (some ⟨g, 0, none⟩) R.length uc] 26))).grown (HO.out.alloc _) (by decide) (by decide) hgrow)
            clear hown' hgrow hat O2 B2 hba HO O1 UV XX HNX TX
            go_wp2_with fail
            go_roundw
            case rel => exact ⟨k + 1, _, hlt, by go_num, T3, O3, B3⟩
            case measure => simp [intOf]; omega
          | false =>
            have h2 : (((R[0]! : Nat) : Int) == (k : Int)) = false := by
              rw [beq_eq_false_iff_ne]
              intro e
              rw [HFR.out.1 (by omega)] at hq; cases hq
            rw [hq, if_neg (by decide), List.append_nil] at HNX
            have O1 := Lib.hid (OO.out.keep (fun q hq => XX.out.block q (by
              rcases hq with hq | ⟨i, hi, hq⟩
              · exact (own_block OO.out.out hq).2
              · exact (own_block (OO.out.inn i hi) hq).2)))
            have B3 := Lib.hid (BB.out.trans (XX.out.mono hsw))
            have O3 : Hid (ORv W.heap.size W.heap.size wr (.slice oa (rgL n k).length oc) vs (rgL n (k + 1))) := Lib.hid (by rw [HNX.out]; exact O1.out)
            have HE : Hid ((rgL n (k + 1)).length = (rgL n k).length) := Lib.hid (by rw [HNX.out])
            clear hq HFR UU O1 HNX XX
            generalize R[0]! = x at *
            go_wp2_with fail
            go_roundw
            case rel => exact ⟨k + 1, _, hlt, by go_num, TX, O3, B3⟩
            case measure => simp [intOf]; omega
    · obtain rfl : k = n.length := by omega
      have hoo : ORv W.heap.size W.heap.size wo (.slice oa (rgL n n.length).length oc) vs (ringsN n) := by rw [show ringsN n = rgL n n.length from (rgL_all n).symm]; exact OO.out
      have HE : Hid ((rgL n n.length).length = (ringsN n).length) := Lib.hid (by rw [rgL_all]; rfl)
      obtain ⟨a, d, ss, he, hn, hi⟩ := hoo.net
      rw [nt_len hn] at he
      injection he with he1 _ he3
      subst he1 he3
      go_wp2_with fail
      go_ret
      unfold NtP
      exact ⟨oa, oc, by rw [← HE.out]; rfl, ⟨ss, hn, hi⟩, BB.out⟩
end Go.Proofs.Ytaagpnepkjkfoaa.R6.T
