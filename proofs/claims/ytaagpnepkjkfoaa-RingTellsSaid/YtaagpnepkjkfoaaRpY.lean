/-
  Contract of the document's Order.
-/
import Derived.Test.YtaagpnepkjkfoaaRpX
namespace Go.Proofs.Ytaagpnepkjkfoaa.R6.T
open Go.RowKit Go.Shelf Go.Proofs.Ytaagpnepkjkfoaa.B Go.Proofs.Ytaagpnepkjkfoaa.R6

def slN : Value → Nat
  | .slice _ n _ => n
  | _ => 0
/-- May a point stand, so far as the first j are asked? -/
def frB (n : NetL) (o : List Nat) (i j : Nat) : Bool := decide (i ∉ o) && (List.range j).all fun x => decide (x ∈ o) || !decide (i ∈ wy n x)
theorem frB_zero (n : NetL) (o : List Nat) (i : Nat) : frB n o i 0 = decide (i ∉ o) := by simp [frB]
theorem frB_next (n : NetL) (o : List Nat) (i j : Nat) : frB n o i (j + 1) = (frB n o i j && (decide (j ∈ o) || !decide (i ∈ wy n j))) := by
  unfold frB
  rw [List.range_succ, List.all_append]
  simp [Bool.and_assoc]
theorem frB_all (n : NetL) (o : List Nat) (i : Nat) : frB n o i n.length = freeB n o i := rfl
theorem frB_no {n : NetL} {o : List Nat} {i j : Nat} (h : frB n o i j = false) : frB n o i (j + 1) = false := by rw [frB_next, h]; rfl
theorem frB_st {n : NetL} {o : List Nat} {i j : Nat} (h : frB n o i j = true) (hs : decide (j ∈ o) = true) : frB n o i (j + 1) = true := by rw [frB_next, h, hs]; rfl
theorem frB_ld {n : NetL} {o : List Nat} {i j : Nat} (h : frB n o i j = true) (hs : decide (j ∈ o) = false) : frB n o i (j + 1) = !decide (i ∈ wy n j) := by rw [frB_next, h, hs]; simp
theorem rb_zero {w : World} {N : Nat} {o : List Nat} (h : o = []) : Rb w.heap.size N (fun j => decide (j ∈ o)) (w.alloc (.cells ((List.replicate N false).map Value.bool).toArray 4)) := by
  subst h
  unfold Rb
  refine (heap_new _ _).trans ?_
  rw [rowV_zero]
  simp

def OrP (W : World) (l : List Nat) (z : Int) (e : Ending) (w' : World) : Prop := ∃ a k, e = .returned (.tuple #[.slice a l.length k, .int .i64 z]) ∧ Row w' a ((l.map fun j : Nat => (j : Int)).map (Value.int .i64)) ∧ Below W.heap.size W w'
set_option maxRecDepth 100000 in
set_option maxHeartbeats 8000000 in
theorem order_doc (W : World) (A : Option Addr) (c : Nat) (n : NetL) (hn : Nt W A n) (hs : Small n) :
    Calls Try.prog 10 #[.slice A n.length c] W fun e w' => ∃ a k, e = .returned (.tuple #[.slice a (ordI n).length k, .int .i64 (ordE n)]) ∧ Row w' a (((ordI n).map fun j : Nat => (j : Int)).map (Value.int .i64)) ∧ Below W.heap.size W w' := by
  show Calls _ _ _ _ (OrP W (ordI n) (ordE n))
  obtain ⟨i0, hi0, hi1, hi2, hi3⟩ := info_parts info_int'
  have hl24 := hs.l
  have hN0 : (0 : Int) ≤ (n.length : Int) := Int.natCast_nonneg _
  have HR := Lib.hid hs.r
  have HT := Lib.hid (table_doc W A c n hn hs)
  have NN0 := Lib.hid hn
  clear hn
  go_enter Try.func10, Try.ntmps10
  go_wp2_with fail
  refine HT.out.mono ?_
  rintro e w1 ⟨v, bs, rfl, hbt, hb⟩
  obtain ⟨va, vc, rfl⟩ := own_slice hbt.out
  have hz1 := hb.size
  have T1 := Lib.hid hbt
  have B1 := Lib.hid hb
  clear HT hbt hb
  go_wp2_with fail
  go_loopw [5] (fun i wr => ∃ k : Nat, k ≤ n.length ∧ i = .int .i64 k ∧ Hid (∀ j, j < k → tB n j j = false) ∧ w1 = wr) (fun i _ => n.length - (intOf i).toNat)
  case atStart => exact ⟨0, Nat.zero_le _, rfl, Lib.hid (fun j hj => absurd hj (Nat.not_lt_zero _)), rfl⟩
  case round =>
    obtain ⟨k, hk, rfl, HD, rfl⟩ := hrel
    by_cases hlt : k < n.length
    · have hk0 : (0 : Int) ≤ (k : Int) := Int.natCast_nonneg _
      have hk1 : (k : Int) < (n.length : Int) := by omega
      obtain ⟨g, gc, hve, _, _, hck⟩ := T1.out.at_ (i := k) hlt
      cases hve
      have hbk := T1.out.bit (i := k) (j := k) hlt hlt
      cases hq : tB n k k with
      | true =>
        have hl : leadsB n = true := (leadsB_iff n).2 ⟨k, tB_iff.1 hq⟩
        have HE : Hid (ordE n = 7 ∧ ordI n = []) := Lib.hid (by unfold ordE ordI; rw [hl]; exact ⟨rfl, rfl⟩)
        rw [hq] at hbk
        clear hq HD hl
        generalize bs[k]! = z at *
        go_wp2_with fail
        go_ret2
        unfold OrP
        exact ⟨none, 0, by rw [HE.out.1, HE.out.2]; rfl, by rw [HE.out.2]; exact fun h => absurd rfl h, B1.out⟩
      | false =>
        have HD' : Hid (∀ j, j < k + 1 → tB n j j = false) := Lib.hid (fun j hj => by
          by_cases e : j = k
          · rw [e]; exact hq
          · exact HD.out j (by omega))
        rw [hq] at hbk
        clear hq HD
        generalize bs[k]! = z at *
        go_wp2_with fail
        go_roundw
        case rel => exact ⟨k + 1, hlt, by go_num, HD', trivial⟩
        case measure => simp [intOf]; omega
    · obtain rfl : k = n.length := by omega
      have hl : leadsB n = false := by
        rw [Bool.eq_false_iff]
        intro h
        obtain ⟨a, ha⟩ := (leadsB_iff n).1 h
        have h1 := HD.out a ha.lt_from
        rw [tB_iff.2 ha] at h1; cases h1
      have HE : Hid (ordE n = 0 ∧ ordI n = ordL n n.length) := Lib.hid (by unfold ordE ordI; rw [hl]; exact ⟨rfl, rfl⟩)
      have HAC := Lib.hid (leadsB_no hl)
      have hgt : ¬ ((n.length : Int) > 200) := by omega
      have hmk := make_bools n.length (by omega) (w1.alloc (.cells #[] 3))
      have S0 := Lib.hid (rb_zero (w := w1.alloc (.cells #[] 3)) (N := n.length) (o := ordL n 0) rfl)
      generalize ((List.replicate n.length false).map Value.bool).toArray = cs at *
      have Y0 : Hid (Below W.heap.size W ((w1.alloc (.cells #[] 3)).alloc (.cells cs 4))) := Lib.hid ((B1.out.alloc hz1 _).alloc (by rw [World.size_alloc]; omega) _)
      have O0 : Hid (World.ownsRow ((w1.alloc (.cells #[] 3)).alloc (.cells cs 4)) W.heap.size 3 1 (.slice (some ⟨w1.heap.size, 0, none⟩) 0 0) (ordL n 0).length ((ordL n 0).map iv)) := Lib.hid ((own_emp (heap_new _ _) hz1).alloc _)
      have N0 := Lib.hid (NN0.out.below Y0.out)
      clear HD hl T1 B1
      rw [World.size_alloc] at hmk S0
      go_wp2_with fail
      go_loopw [6] (fun u wr => ∃ k : Nat, k ≤ n.length ∧ (∃ ua uc, u = .slice ua k uc) ∧ Hid (wr.ownsRow W.heap.size 3 1 u (ordL n k).length ((ordL n k).map iv)) ∧ Hid (Rb (w1.heap.size + 1) n.length (fun j => decide (j ∈ ordL n k)) wr) ∧ Hid (Nt wr A n) ∧ Hid (Below W.heap.size W wr)) (fun u _ => n.length - slN u)
      case atStart => exact ⟨0, Nat.zero_le _, ⟨_, _, rfl⟩, O0, S0, N0, Y0⟩
      case round =>
        clear O0 S0 N0 Y0 hmk
        obtain ⟨k, hk, ⟨ua, uc, rfl⟩, OO, SS, NN, BB⟩ := hrel
        obtain ⟨wo, rfl⟩ : ∃ wo, wo = wr := ⟨wr, rfl⟩
        by_cases hlt : k < n.length
        · have hk0 : (0 : Int) ≤ (k : Int) := Int.natCast_nonneg _
          have hk1 : (k : Int) < (n.length : Int) := by omega
          obtain ⟨nx, hnx, hon⟩ := ord_next HAC.out hlt
          have HNX := Lib.hid hnx
          have HON := Lib.hid hon
          have HOL := Lib.hid ((ord_ok HAC.out k (by omega)).2)
          clear hnx hon
          go_wp2_with fail
          go_loopw [6, 8] (fun u i wx => ∃ m : Nat, m ≤ n.length ∧ u = .slice ua k uc ∧ i = .int .i64 m ∧ Hid (∀ j, j < m → freeB n (ordL n k) j = false) ∧ wo = wx) (fun _ i _ => n.length - (intOf i).toNat)
          case atStart => exact ⟨0, Nat.zero_le _, rfl, rfl, Lib.hid (fun j hj => absurd hj (Nat.not_lt_zero _)), rfl⟩
          case round =>
            obtain ⟨m, hm, rfl, rfl, HD, rfl⟩ := hrel
            by_cases hmt : m < n.length
            · have hm0 : (0 : Int) ≤ (m : Int) := Int.natCast_nonneg _
              have hm1 : (m : Int) < (n.length : Int) := by omega
              have hsm := SS.out.cell (j := m) hmt
              have HNOT : Hid ((!decide (m ∈ ordL n k)) = frB n (ordL n k) m 0) := Lib.hid (by rw [frB_zero]; simp)
              generalize decide (m ∈ ordL n k) = d0 at *
              go_wp2_with fail
              go_loopw [9, 10] (fun fv j wx => ∃ q : Nat, q ≤ n.length ∧ j = .int .i64 q ∧ fv = .bool (frB n (ordL n k) m q) ∧ wo = wx) (fun _ j _ => n.length - (intOf j).toNat)
              case atStart => exact ⟨0, Nat.zero_le _, rfl, by rw [← HNOT.out], rfl⟩
              case round =>
                clear HNOT hsm
                obtain ⟨q, hq, rfl, rfl, rfl⟩ := hrel
                by_cases hqt : q < n.length
                · have hq0 : (0 : Int) ≤ (q : Int) := Int.natCast_nonneg _
                  have hq1 : (q : Int) < (n.length : Int) := by omega
                  have hsq := SS.out.cell (j := q) hqt
                  cases hf : frB n (ordL n k) m q with
                  | false =>
                    have HF1 := Lib.hid (frB_no hf)
                    clear hf hsq
                    go_wp2_with fail
                    go_roundw
                    case rel => exact ⟨q + 1, hqt, by go_num, by rw [HF1.out], trivial⟩
                    case measure => simp [intOf]; omega
                  | true =>
                    cases hst : decide (q ∈ ordL n k) with
                    | true =>
                      have HF1 := Lib.hid (frB_st hf hst)
                      rw [hst] at hsq
                      clear hf hst
                      go_wp2_with fail
                      go_roundw
                      case rel => exact ⟨q + 1, hqt, by go_num, by rw [HF1.out], trivial⟩
                      case measure => simp [intOf]; omega
                    | false =>
                      have HF1 := Lib.hid (frB_ld hf hst)
                      have HC := Lib.hid (leads_doc wo A c n NN.out HR.out hqt hmt)
                      rw [hst] at hsq
                      clear hf hst
                      generalize decide (m ∈ wy n q) = d1 at *
                      go_wp2_with fail
                      refine HC.out.mono ?_
                      rintro e w' ⟨rfl, hww⟩
                      have hww' := hww.symm
                      subst hww'
                      clear HC hww
                      go_wp2_with fail
                      go_roundw
                      case rel => exact ⟨q + 1, hqt, by go_num, by rw [HF1.out], trivial⟩
                      case measure => simp [intOf]; omega
                · obtain rfl : q = n.length := by omega
                  rw [frB_all]
                  cases hf : freeB n (ordL n k) m with
                  | false =>
                    have HD' : Hid (∀ j, j < m + 1 → freeB n (ordL n k) j = false) := Lib.hid (fun j hj => by
                      by_cases e : j = m
                      · rw [e]; exact hf
                      · exact HD.out j (by omega))
                    clear hf
                    go_wp2_with fail
                    go_roundw
                    case rel => exact ⟨m + 1, hmt, rfl, by go_num, HD', trivial⟩
                    case measure => simp [intOf]; omega
                  | true =>
                    have hnm : m = nx := by
                      have h1 := free_some hmt hf HD.out
                      rw [HNX.out] at h1
                      injection h1 with h1
                      exact h1.symm
                    subst hnm
                    have hfar : (Value.slice ua k uc).ownBlock ≠ some (w1.heap.size + 1) := own_far OO.out SS.out (by decide)
                    have S1 := (SS.out.set (j := m) true).congr (k := fun y => decide (y ∈ ordL n (k + 1))) (fun y _ => by
                      rw [HON.out]
                      by_cases e : y = m
                      · rw [if_pos e]; exact (decide_eq_true (by simp [e])).symm
                      · rw [if_neg e, decide_eq_decide]; simp [e])
                    have O1 := own_set (i := m) OO.out hfar (.bool true)
                    have X1 := BB.out.setCell (p := ⟨w1.heap.size + 1, m, none⟩) (by show W.heap.size ≤ w1.heap.size + 1; omega) (.bool true)
                    have ff := SS.out.frozen (j := m)
                    have hcm := SS.out.cell (j := m) hmt
                    have hsz : (wo.setCell ⟨w1.heap.size + 1, m, none⟩ (.bool true)).heap.size = wo.heap.size := World.size_setCell _ _ _
                    have hsb := SS.out.lt
                    have hzo := BB.out.size
                    have HS1 := Lib.hid S1
                    have HO1 := Lib.hid O1
                    have HX1 := Lib.hid X1
                    have HFR := Lib.hid hfar
                    have HSZ := Lib.hid hsz
                    rw [HOL.out] at HO1
                    clear hf S1 O1 X1 hfar hsz HD
                    go_wp2_with (at_builtin; refine wpList_append_own_at _ rfl (.tmp 73) (.tmp 75) 26 rfl W.heap.size 3 i0 _ 1 8 Try.underlying26 hi0 hi1 hi2 hi3 rfl (by omega) _ _ _ rfl (HO1.out.alloc _) ⟨wo.heap.size, 0, none⟩ 1 1 [iv m] rfl rfl ?c1 ?c2 ?c3 ?c4 ?c5 ?_)
                    case c1 =>
                      intro j u hj
                      have hn := heap_new (wo.setCell ⟨w1.heap.size + 1, m, none⟩ (.bool true)) (.cells #[iv m] 3)
                      rw [HSZ.out] at hn
                      match j, hj with
                      | 0, hj => cases hj; exact cell_blk hn rfl
                    case c2 => first | rfl | (intro u hu; simp at hu; rw [hu]; rfl)
                    case c3 => unfold maxLen; omega
                    case c4 => omega
                    case c5 => first | omega | (rw [World.size_alloc, World.size_setCell]; omega)
                    intro v1 w4 hown' hgrow _ hat
                    obtain ⟨va1, vc1, rfl⟩ := own_slice hown'
                    have hsz2 : ((wo.setCell ⟨w1.heap.size + 1, m, none⟩ (.bool true)).alloc (.cells #[iv m] 3)).heap.size = wo.heap.size + 1 := by rw [World.size_alloc, HSZ.out]
                    have S4 : Hid (Rb (w1.heap.size + 1) n.length (fun j => decide (j ∈ ordL n (k + 1))) w4) := Lib.hid (HS1.out.keep ((hgrow.block _ (by rw [hsz2]; omega) (fun e => HFR.out e.symm)).trans (Below.heap_alloc _ _ _ (by rw [HSZ.out]; exact hsb))))
                    have B4 : Hid (Below W.heap.size W w4) := Lib.hid ((HX1.out.alloc (by rw [HSZ.out]; omega) _).grown hgrow (by rw [hsz2]; omega) (fun q hq => (own_block HO1.out hq).1))
                    have N4 := Lib.hid (NN0.out.below B4.out)
                    have O4 : Hid (w4.ownsRow W.heap.size 3 1 (.slice va1 (k + 1) vc1) (ordL n (k + 1)).length ((ordL n (k + 1)).map iv)) := Lib.hid (by rw [HON.out, List.length_append, HOL.out, List.map_append]; exact hown')
                    clear hown' hgrow hat hsz2 HS1 HX1 HO1
                    go_wp2_with fail
                    go_roundw
                    case rel => exact ⟨k + 1, hlt, ⟨va1, vc1, rfl⟩, O4, S4, N4, B4⟩
                    case measure => simp [slN]; omega
            · exfalso
              obtain ⟨h1, h2⟩ := next_mem HNX.out
              have := HD.out nx (by omega)
              rw [h2] at this; cases this
        · obtain rfl : k = n.length := by omega
          have HOL := Lib.hid ((ord_ok HAC.out n.length (Nat.le_refl _)).2)
          go_wp2_with fail
          go_ret2
          unfold OrP
          have hoo := OO.out
          rw [HOL.out] at hoo
          exact ⟨ua, uc, by rw [HE.out.1, HE.out.2, HOL.out]; rfl, by rw [HE.out.2, ← iv_int]; exact Row.of_own hoo, BB.out⟩
end Go.Proofs.Ytaagpnepkjkfoaa.R6.T
