/-
  Contracts of the document's Called and Excluded.
-/
import Derived.Test.YtigicbnkfmbolaaCbg
namespace Go.Proofs.Ytigicbnkfmbolaa.N7.T
open Go.RowKit Go.Shelf Go.Proofs.Ytigicbnkfmbolaa.B Go.Proofs.Ytigicbnkfmbolaa.R6 Go.Proofs.Ytigicbnkfmbolaa.R6.T Go.Proofs.Ytigicbnkfmbolaa.N7
set_option maxRecDepth 100000 in
set_option maxHeartbeats 8000000 in
theorem called_doc (w : World) (EA TA : Option Addr) (ec tc : Nat) (es : List Ev) (ts : List Ti) (h : FI w EA TA es ts) (hs : SmF es ts) :
    Calls Try.prog 16 #[FV EA TA es.length ec ts.length tc] w (InP w (inL es.length (pendS es ts))) := by
  obtain ⟨i0, hi0, hi1, hi2, hi3⟩ := info_parts info_int'
  have hl := hs.t
  have he := hs.e
  have HR := Lib.hid h.t
  have HE := Lib.hid h.e
  have HS : Hid (∀ k, k < es.length → pendS es ts k = (decide (0 ≤ (es[k]!).due) || anyB ts 2 k es.length)) := Lib.hid (fun k hk => pend_doc hk)
  have HT := Lib.hid (fun (W : World) (hW : Row W TA (ts.flatMap tiC)) (x a b : Int) => tied_doc W EA TA es.length ec tc ts hW (by omega) x a b)
  have L0 := Lib.hid (LX.start w #[.slice EA es.length ec, .slice TA ts.length tc])
  generalize pendS es ts = S at *
  clear h
  go_enter Try.func16, Try.ntmps16
  go_wp2_with fail
  go_loopw [3, 4] (fun u i wr => ∃ k : Nat, k ≤ es.length ∧ i = .int .i64 k ∧ Hid (LX w #[.slice EA es.length ec, .slice TA ts.length tc] u (inL k S) wr)) (fun _ i _ => es.length - (intOf i).toNat)
  case atStart => exact ⟨0, Nat.zero_le _, rfl, L0⟩
  case round =>
    clear L0
    obtain ⟨k, hk, rfl, LL⟩ := hrel
    obtain ⟨wo, rfl⟩ : ∃ wo, wo = wr := ⟨wr, rfl⟩
    obtain ⟨ua, uc, rfl⟩ := own_slice LL.out.o
    obtain ⟨c0, c1⟩ := LL.out.b.cells
    have ll := LL.out.b.lt
    have hlen := inL_len k S
    have hk0 : (0 : Int) ≤ (k : Int) := Int.natCast_nonneg _
    by_cases hlt : k < es.length
    · have hk1 : (k : Int) < (es.length : Int) := by omega
      obtain ⟨b', off, rfl, hb, hc⟩ := HE.out.at_ (k := 6) (fun _ => rfl) (by omega) hlt
      have k5 := hc 5 _ rfl
      rw [← LL.out.b.b.cell (p := ⟨b', _, none⟩) hb] at k5
      have HSK := Lib.hid (HS.out k hlt)
      have HNX := Lib.hid (inL_next k S)
      clear hc
      generalize inL k S = l at *
      generalize (es[k]!).due = d at *
      by_cases hd : 0 ≤ d
      · have hd2 : d ≥ 0 := hd
        rw [decide_eq_true hd] at HSK
        clear hd
        go_wp2_with fail
        go_loopw [5, 6] (fun bv j wr => ∃ m : Nat, m ≤ es.length ∧ j = .int .i64 m ∧ bv = .bool (true || anyB ts 2 k m) ∧ Hid (LX w #[.slice (some ⟨b', off, none⟩) es.length ec, .slice TA ts.length tc] (.slice ua l.length uc) l wr)) (fun _ j _ => es.length - (intOf j).toNat)
        case atStart => exact ⟨0, Nat.zero_le _, rfl, rfl, LL⟩
        case round =>
          clear LL c0 c1 ll
          obtain ⟨m, hm, rfl, rfl, LL⟩ := hrel
          obtain ⟨c0, c1⟩ := LL.out.b.cells
          have ll := LL.out.b.lt
          have hm0 : (0 : Int) ≤ (m : Int) := Int.natCast_nonneg _
          by_cases hmt : m < es.length
          · have hm1 : (m : Int) < (es.length : Int) := by omega
            have HN := Lib.hid (anyB_next ts 2 k m)
            clear HSK HNX
            cases hq : (true || anyB ts 2 k m) with
            | true =>
              have HB : Hid ((true || anyB ts 2 k (m + 1)) = true) := Lib.hid (by rw [HN.out, ← Bool.or_assoc, hq]; rfl)
              clear hq HN
              go_wp2_with fail
              go_roundw
              case rel => exact ⟨m + 1, hmt, by go_num, by rw [HB.out], LL⟩
              case measure => simp [intOf]; omega
            | false =>
              have HB : Hid ((true || anyB ts 2 k (m + 1)) = tdB ts 2 (m : Int) (k : Int)) := Lib.hid (by rw [HN.out, ← Bool.or_assoc, hq]; rfl)
              clear hq HN
              go_wp2_with fail
              refine (HT.out _ (HR.out.below (Nat.le_refl _) LL.out.b.b) 2 (m : Int) (k : Int)).mono ?_
              rintro e w5 ⟨rfl, hb5⟩
              have L5 := Lib.hid (LL.out.call hb5)
              clear hb5 LL
              go_wp2_with fail
              go_roundw
              case rel => exact ⟨m + 1, hmt, by go_num, by rw [HB.out], L5⟩
              case measure => simp [intOf]; omega
          · obtain rfl : m = es.length := by omega
            rw [← HSK.out]
            have hl2 := LL.out.o
            cases hq : S k with
            | true =>
              have HNX2 : Hid (inL (k + 1) S = l ++ [(k : Int)]) := Lib.hid (by rw [HNX.out, hq, if_pos rfl])
              clear HNX HSK hq
              go_wp2_with (at_builtin; refine wpList_append_own_at _ rfl (.tmp 37) (.tmp 39) 33 rfl w.heap.size 3 i0 _ 1 8 Try.underlying33 hi0 hi1 hi2 hi3 rfl (by omega) _ _ _ rfl (hl2.alloc _) ⟨wr.heap.size, 0, none⟩ 1 1 [.int .i64 (k : Int)] rfl rfl ?c1 ?c2 ?c3 ?c4 ?c5 ?_)
              case c1 =>
                intro j u hj
                have hn := heap_new wr (.cells #[.int .i64 (k : Int)] 3)
                match j, hj with
                | 0, hj => cases hj; exact cell_blk hn rfl
              case c2 => first | rfl | (intro u hu; simp at hu; rw [hu]; rfl)
              case c3 => unfold maxLen; omega
              case c4 => omega
              case c5 => first | omega | (rw [World.size_alloc]; omega)
              intro v1 w4 hown' hgrow _ hat
              have L1 := Lib.hid (LL.out.push hown' hgrow)
              rw [← HNX2.out] at L1
              clear hown' hgrow hat LL hl2 HNX2
              go_wp2_with fail
              go_roundw
              case rel => exact ⟨k + 1, hlt, by go_num, L1⟩
              case measure => simp [intOf]; omega
            | false =>
              have L1 : Hid (LX w #[.slice (some ⟨b', off, none⟩) es.length ec, .slice TA ts.length tc] (.slice ua l.length uc) (inL (k + 1) S) wr) := Lib.hid (by rw [HNX.out, hq, if_neg (by decide), List.append_nil]; exact LL.out)
              clear HNX HSK hq LL hl2
              go_wp2_with fail
              go_roundw
              case rel => exact ⟨k + 1, hlt, by go_num, L1⟩
              case measure => simp [intOf]; omega
      · have hd2 : ¬ d ≥ 0 := hd
        rw [decide_eq_false hd] at HSK
        clear hd
        go_wp2_with fail
        go_loopw [5, 6] (fun bv j wr => ∃ m : Nat, m ≤ es.length ∧ j = .int .i64 m ∧ bv = .bool (false || anyB ts 2 k m) ∧ Hid (LX w #[.slice (some ⟨b', off, none⟩) es.length ec, .slice TA ts.length tc] (.slice ua l.length uc) l wr)) (fun _ j _ => es.length - (intOf j).toNat)
        case atStart => exact ⟨0, Nat.zero_le _, rfl, rfl, LL⟩
        case round =>
          clear LL c0 c1 ll
          obtain ⟨m, hm, rfl, rfl, LL⟩ := hrel
          obtain ⟨c0, c1⟩ := LL.out.b.cells
          have ll := LL.out.b.lt
          have hm0 : (0 : Int) ≤ (m : Int) := Int.natCast_nonneg _
          by_cases hmt : m < es.length
          · have hm1 : (m : Int) < (es.length : Int) := by omega
            have HN := Lib.hid (anyB_next ts 2 k m)
            clear HSK HNX
            cases hq : (false || anyB ts 2 k m) with
            | true =>
              have HB : Hid ((false || anyB ts 2 k (m + 1)) = true) := Lib.hid (by rw [HN.out, ← Bool.or_assoc, hq]; rfl)
              clear hq HN
              go_wp2_with fail
              go_roundw
              case rel => exact ⟨m + 1, hmt, by go_num, by rw [HB.out], LL⟩
              case measure => simp [intOf]; omega
            | false =>
              have HB : Hid ((false || anyB ts 2 k (m + 1)) = tdB ts 2 (m : Int) (k : Int)) := Lib.hid (by rw [HN.out, ← Bool.or_assoc, hq]; rfl)
              clear hq HN
              go_wp2_with fail
              refine (HT.out _ (HR.out.below (Nat.le_refl _) LL.out.b.b) 2 (m : Int) (k : Int)).mono ?_
              rintro e w5 ⟨rfl, hb5⟩
              have L5 := Lib.hid (LL.out.call hb5)
              clear hb5 LL
              go_wp2_with fail
              go_roundw
              case rel => exact ⟨m + 1, hmt, by go_num, by rw [HB.out], L5⟩
              case measure => simp [intOf]; omega
          · obtain rfl : m = es.length := by omega
            rw [← HSK.out]
            have hl2 := LL.out.o
            cases hq : S k with
            | true =>
              have HNX2 : Hid (inL (k + 1) S = l ++ [(k : Int)]) := Lib.hid (by rw [HNX.out, hq, if_pos rfl])
              clear HNX HSK hq
              go_wp2_with (at_builtin; refine wpList_append_own_at _ rfl (.tmp 37) (.tmp 39) 33 rfl w.heap.size 3 i0 _ 1 8 Try.underlying33 hi0 hi1 hi2 hi3 rfl (by omega) _ _ _ rfl (hl2.alloc _) ⟨wr.heap.size, 0, none⟩ 1 1 [.int .i64 (k : Int)] rfl rfl ?c1 ?c2 ?c3 ?c4 ?c5 ?_)
              case c1 =>
                intro j u hj
                have hn := heap_new wr (.cells #[.int .i64 (k : Int)] 3)
                match j, hj with
                | 0, hj => cases hj; exact cell_blk hn rfl
              case c2 => first | rfl | (intro u hu; simp at hu; rw [hu]; rfl)
              case c3 => unfold maxLen; omega
              case c4 => omega
              case c5 => first | omega | (rw [World.size_alloc]; omega)
              intro v1 w4 hown' hgrow _ hat
              have L1 := Lib.hid (LL.out.push hown' hgrow)
              rw [← HNX2.out] at L1
              clear hown' hgrow hat LL hl2 HNX2
              go_wp2_with fail
              go_roundw
              case rel => exact ⟨k + 1, hlt, by go_num, L1⟩
              case measure => simp [intOf]; omega
            | false =>
              have L1 : Hid (LX w #[.slice (some ⟨b', off, none⟩) es.length ec, .slice TA ts.length tc] (.slice ua l.length uc) (inL (k + 1) S) wr) := Lib.hid (by rw [HNX.out, hq, if_neg (by decide), List.append_nil]; exact LL.out)
              clear HNX HSK hq LL hl2
              go_wp2_with fail
              go_roundw
              case rel => exact ⟨k + 1, hlt, by go_num, L1⟩
              case measure => simp [intOf]; omega
    · obtain rfl : k = es.length := by omega
      have hk2 : ¬ ((es.length : Int) < (es.length : Int)) := by omega
      go_wp2_with fail
      go_ret
      exact LL.out.inP rfl
set_option maxRecDepth 100000 in
set_option maxHeartbeats 8000000 in
theorem excluded_doc (w : World) (EA TA : Option Addr) (ec tc : Nat) (es : List Ev) (ts : List Ti) (h : FI w EA TA es ts) (hs : SmF es ts) :
    Calls Try.prog 20 #[FV EA TA es.length ec ts.length tc] w (InP w (inL es.length (exclS es ts))) := by
  obtain ⟨i0, hi0, hi1, hi2, hi3⟩ := info_parts info_int'
  have hl := hs.t
  have he := hs.e
  have HR := Lib.hid h.t
  have HE := Lib.hid h.e
  have HS : Hid (∀ k, k < es.length → exclS es ts k = (!(es[k]!).inn || anyB ts 4 k es.length)) := Lib.hid (fun k hk => excl_doc hk)
  have HT := Lib.hid (fun (W : World) (hW : Row W TA (ts.flatMap tiC)) (x a b : Int) => tied_doc W EA TA es.length ec tc ts hW (by omega) x a b)
  have L0 := Lib.hid (LX.start w #[.slice EA es.length ec, .slice TA ts.length tc])
  generalize exclS es ts = S at *
  clear h
  go_enter Try.func20, Try.ntmps20
  go_wp2_with fail
  go_loopw [3, 4] (fun u i wr => ∃ k : Nat, k ≤ es.length ∧ i = .int .i64 k ∧ Hid (LX w #[.slice EA es.length ec, .slice TA ts.length tc] u (inL k S) wr)) (fun _ i _ => es.length - (intOf i).toNat)
  case atStart => exact ⟨0, Nat.zero_le _, rfl, L0⟩
  case round =>
    clear L0
    obtain ⟨k, hk, rfl, LL⟩ := hrel
    obtain ⟨wo, rfl⟩ : ∃ wo, wo = wr := ⟨wr, rfl⟩
    obtain ⟨ua, uc, rfl⟩ := own_slice LL.out.o
    obtain ⟨c0, c1⟩ := LL.out.b.cells
    have ll := LL.out.b.lt
    have hlen := inL_len k S
    have hk0 : (0 : Int) ≤ (k : Int) := Int.natCast_nonneg _
    by_cases hlt : k < es.length
    · have hk1 : (k : Int) < (es.length : Int) := by omega
      obtain ⟨b', off, rfl, hb, hc⟩ := HE.out.at_ (k := 6) (fun _ => rfl) (by omega) hlt
      have k5 := hc 3 _ rfl
      rw [← LL.out.b.b.cell (p := ⟨b', _, none⟩) hb] at k5
      have HSK := Lib.hid (HS.out k hlt)
      have HNX := Lib.hid (inL_next k S)
      clear hc
      generalize inL k S = l at *
      generalize (es[k]!).inn = d at *
      cases d with
      | true =>
        rw [show (!true) = false from rfl] at HSK
        go_wp2_with fail
        go_loopw [5, 6] (fun bv j wr => ∃ m : Nat, m ≤ es.length ∧ j = .int .i64 m ∧ bv = .bool (false || anyB ts 4 k m) ∧ Hid (LX w #[.slice (some ⟨b', off, none⟩) es.length ec, .slice TA ts.length tc] (.slice ua l.length uc) l wr)) (fun _ j _ => es.length - (intOf j).toNat)
        case atStart => exact ⟨0, Nat.zero_le _, rfl, rfl, LL⟩
        case round =>
          clear LL c0 c1 ll
          obtain ⟨m, hm, rfl, rfl, LL⟩ := hrel
          obtain ⟨c0, c1⟩ := LL.out.b.cells
          have ll := LL.out.b.lt
          have hm0 : (0 : Int) ≤ (m : Int) := Int.natCast_nonneg _
          by_cases hmt : m < es.length
          · have hm1 : (m : Int) < (es.length : Int) := by omega
            have HN := Lib.hid (anyB_next ts 4 k m)
            clear HSK HNX
            cases hq : (false || anyB ts 4 k m) with
            | true =>
              have HB : Hid ((false || anyB ts 4 k (m + 1)) = true) := Lib.hid (by rw [HN.out, ← Bool.or_assoc, hq]; rfl)
              clear hq HN
              go_wp2_with fail
              go_roundw
              case rel => exact ⟨m + 1, hmt, by go_num, by rw [HB.out], LL⟩
              case measure => simp [intOf]; omega
            | false =>
              have HB : Hid ((false || anyB ts 4 k (m + 1)) = tdB ts 4 (m : Int) (k : Int)) := Lib.hid (by rw [HN.out, ← Bool.or_assoc, hq]; rfl)
              clear hq HN
              go_wp2_with fail
              refine (HT.out _ (HR.out.below (Nat.le_refl _) LL.out.b.b) 4 (m : Int) (k : Int)).mono ?_
              rintro e w5 ⟨rfl, hb5⟩
              have L5 := Lib.hid (LL.out.call hb5)
              clear hb5 LL
              go_wp2_with fail
              go_roundw
              case rel => exact ⟨m + 1, hmt, by go_num, by rw [HB.out], L5⟩
              case measure => simp [intOf]; omega
          · obtain rfl : m = es.length := by omega
            rw [← HSK.out]
            have hl2 := LL.out.o
            cases hq : S k with
            | true =>
              have HNX2 : Hid (inL (k + 1) S = l ++ [(k : Int)]) := Lib.hid (by rw [HNX.out, hq, if_pos rfl])
              clear HNX HSK hq
              go_wp2_with (at_builtin; refine wpList_append_own_at _ rfl (.tmp 37) (.tmp 39) 33 rfl w.heap.size 3 i0 _ 1 8 Try.underlying33 hi0 hi1 hi2 hi3 rfl (by omega) _ _ _ rfl (hl2.alloc _) ⟨wr.heap.size, 0, none⟩ 1 1 [.int .i64 (k : Int)] rfl rfl ?c1 ?c2 ?c3 ?c4 ?c5 ?_)
              case c1 =>
                intro j u hj
                have hn := heap_new wr (.cells #[.int .i64 (k : Int)] 3)
                match j, hj with
                | 0, hj => cases hj; exact cell_blk hn rfl
              case c2 => first | rfl | (intro u hu; simp at hu; rw [hu]; rfl)
              case c3 => unfold maxLen; omega
              case c4 => omega
              case c5 => first | omega | (rw [World.size_alloc]; omega)
              intro v1 w4 hown' hgrow _ hat
              have L1 := Lib.hid (LL.out.push hown' hgrow)
              rw [← HNX2.out] at L1
              clear hown' hgrow hat LL hl2 HNX2
              go_wp2_with fail
              go_roundw
              case rel => exact ⟨k + 1, hlt, by go_num, L1⟩
              case measure => simp [intOf]; omega
            | false =>
              have L1 : Hid (LX w #[.slice (some ⟨b', off, none⟩) es.length ec, .slice TA ts.length tc] (.slice ua l.length uc) (inL (k + 1) S) wr) := Lib.hid (by rw [HNX.out, hq, if_neg (by decide), List.append_nil]; exact LL.out)
              clear HNX HSK hq LL hl2
              go_wp2_with fail
              go_roundw
              case rel => exact ⟨k + 1, hlt, by go_num, L1⟩
              case measure => simp [intOf]; omega
      | false =>
        rw [show (!false) = true from rfl] at HSK
        go_wp2_with fail
        go_loopw [5, 6] (fun bv j wr => ∃ m : Nat, m ≤ es.length ∧ j = .int .i64 m ∧ bv = .bool (true || anyB ts 4 k m) ∧ Hid (LX w #[.slice (some ⟨b', off, none⟩) es.length ec, .slice TA ts.length tc] (.slice ua l.length uc) l wr)) (fun _ j _ => es.length - (intOf j).toNat)
        case atStart => exact ⟨0, Nat.zero_le _, rfl, rfl, LL⟩
        case round =>
          clear LL c0 c1 ll
          obtain ⟨m, hm, rfl, rfl, LL⟩ := hrel
          obtain ⟨c0, c1⟩ := LL.out.b.cells
          have ll := LL.out.b.lt
          have hm0 : (0 : Int) ≤ (m : Int) := Int.natCast_nonneg _
          by_cases hmt : m < es.length
          · have hm1 : (m : Int) < (es.length : Int) := by omega
            have HN := Lib.hid (anyB_next ts 4 k m)
            clear HSK HNX
            cases hq : (true || anyB ts 4 k m) with
            | true =>
              have HB : Hid ((true || anyB ts 4 k (m + 1)) = true) := Lib.hid (by rw [HN.out, ← Bool.or_assoc, hq]; rfl)
              clear hq HN
              go_wp2_with fail
              go_roundw
              case rel => exact ⟨m + 1, hmt, by go_num, by rw [HB.out], LL⟩
              case measure => simp [intOf]; omega
            | false =>
              have HB : Hid ((true || anyB ts 4 k (m + 1)) = tdB ts 4 (m : Int) (k : Int)) := Lib.hid (by rw [HN.out, ← Bool.or_assoc, hq]; rfl)
              clear hq HN
              go_wp2_with fail
              refine (HT.out _ (HR.out.below (Nat.le_refl _) LL.out.b.b) 4 (m : Int) (k : Int)).mono ?_
              rintro e w5 ⟨rfl, hb5⟩
              have L5 := Lib.hid (LL.out.call hb5)
              clear hb5 LL
              go_wp2_with fail
              go_roundw
              case rel => exact ⟨m + 1, hmt, by go_num, by rw [HB.out], L5⟩
              case measure => simp [intOf]; omega
          · obtain rfl : m = es.length := by omega
            rw [← HSK.out]
            have hl2 := LL.out.o
            cases hq : S k with
            | true =>
              have HNX2 : Hid (inL (k + 1) S = l ++ [(k : Int)]) := Lib.hid (by rw [HNX.out, hq, if_pos rfl])
              clear HNX HSK hq
              go_wp2_with (at_builtin; refine wpList_append_own_at _ rfl (.tmp 37) (.tmp 39) 33 rfl w.heap.size 3 i0 _ 1 8 Try.underlying33 hi0 hi1 hi2 hi3 rfl (by omega) _ _ _ rfl (hl2.alloc _) ⟨wr.heap.size, 0, none⟩ 1 1 [.int .i64 (k : Int)] rfl rfl ?c1 ?c2 ?c3 ?c4 ?c5 ?_)
              case c1 =>
                intro j u hj
                have hn := heap_new wr (.cells #[.int .i64 (k : Int)] 3)
                match j, hj with
                | 0, hj => cases hj; exact cell_blk hn rfl
              case c2 => first | rfl | (intro u hu; simp at hu; rw [hu]; rfl)
              case c3 => unfold maxLen; omega
              case c4 => omega
              case c5 => first | omega | (rw [World.size_alloc]; omega)
              intro v1 w4 hown' hgrow _ hat
              have L1 := Lib.hid (LL.out.push hown' hgrow)
              rw [← HNX2.out] at L1
              clear hown' hgrow hat LL hl2 HNX2
              go_wp2_with fail
              go_roundw
              case rel => exact ⟨k + 1, hlt, by go_num, L1⟩
              case measure => simp [intOf]; omega
            | false =>
              have L1 : Hid (LX w #[.slice (some ⟨b', off, none⟩) es.length ec, .slice TA ts.length tc] (.slice ua l.length uc) (inL (k + 1) S) wr) := Lib.hid (by rw [HNX.out, hq, if_neg (by decide), List.append_nil]; exact LL.out)
              clear HNX HSK hq LL hl2
              go_wp2_with fail
              go_roundw
              case rel => exact ⟨k + 1, hlt, by go_num, L1⟩
              case measure => simp [intOf]; omega
    · obtain rfl : k = es.length := by omega
      have hk2 : ¬ ((es.length : Int) < (es.length : Int)) := by omega
      go_wp2_with fail
      go_ret
      exact LL.out.inP rfl
end Go.Proofs.Ytigicbnkfmbolaa.N7.T
