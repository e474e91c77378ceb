/-
  Contracts of the document's Reach, Turn and Rings. Contract of the document's Net.
-/
import Derived.Test.YtigicbnkfmbolaaCbf
import Derived.Test.YtigicbnkfmbolaaCbg
namespace Go.Proofs.Ytigicbnkfmbolaa.R6.T
open Go.RowKit Go.Shelf Go.Proofs.Ytigicbnkfmbolaa.B Go.Proofs.Ytigicbnkfmbolaa.R6
theorem BT.grown {B N k B' m : Nat} {v o : Value} {bs : List Nat} {f : Nat → Nat → Bool} {W W' : World} {T : TypeId} {xs : List Value} (h : BT B N k v bs f W) (ho : W.ownsRow B' T 1 o m xs) (h1 : 69 ≠ T) (h2 : T ≠ 4) (hg : W.grownBy W' o.ownBlock) : BT B N k v bs f W' :=
  ⟨h.lb, own_keep h.out (fun q hq => hg.block q (own_block h.out hq).2 (fun e => own_types h.out ho h1 hq e.symm)), h.ge, fun i hi => (h.inn i hi).keep (hg.block _ (h.inn i hi).lt (fun e => own_far ho (h.inn i hi) h2 e.symm)), h.dis⟩
/-- A table, and a list of ints of the call's own. -/
structure RR (w : World) (B : Nat) (n : NetL) (v : Value) (bs : List Nat) (o : Value) (l : List Nat) (W : World) : Prop where
  b : BT B n.length n.length v bs (tB n) W
  o : W.ownsRow w.heap.size 3 1 o l.length (l.map iv)
  l : Below w.heap.size w W
theorem RR.push {w : World} {B : Nat} {n : NetL} {v : Value} {bs : List Nat} {o o' : Value} {l : List Nat} {W W1 : World} {j : Nat} (h : RR w B n v bs o l W)
    (ho : W1.ownsRow w.heap.size 3 1 o' (l.length + 1) (l.map iv ++ [iv j])) (hg : (W.alloc (.cells #[iv j] 3)).grownBy W1 o.ownBlock) : RR w B n v bs o' (l ++ [j]) W1 := by
  have hb : Below W.heap.size W (W.alloc (.cells #[iv j] 3)) := (Below.refl _ _).alloc (Nat.le_refl _) _
  have hl := h.l.size
  refine ⟨(h.b.below hb).grown (h.o.alloc _) (by decide) (by decide) hg, by rw [List.length_append, List.map_append]; exact ho, (h.l.trans (hb.mono h.l.size)).grown hg (by rw [World.size_alloc]; omega) (fun q hq => (own_block h.o hq).1)⟩
/-- A row of a call's own is put behind. -/
theorem ORv.pushRow {Bo Bi : Nat} {W0 W W1 : World} {v v' u : Value} {vs : List Value} {ls : List (List Int)} {l : List Int} (h0 : ORv Bo Bi W0 v vs ls) (hb : Below W0.heap.size W0 W) (hBi : Bi ≤ W0.heap.size)
    (hr : W.ownsRow W0.heap.size 3 1 u l.length (l.map (Value.int .i64))) (ho : W1.ownsRow Bo 33 1 v' (ls.length + 1) (vs ++ [u])) (hg : W.grownBy W1 v.ownBlock) : ORv Bo Bi W1 v' (vs ++ [u]) (ls ++ [l]) := by
  have h : ORv Bo Bi W v vs ls := h0.keep (fun q hq => hb.block q (by
    rcases hq with hq | ⟨i, hi, hq⟩
    · exact (own_block h0.out hq).2
    · exact (own_block (h0.inn i hi) hq).2))
  have hget : ∀ i : Nat, i < ls.length → (vs ++ [u])[i]! = vs[i]! := fun i hi => by
    rw [getElem!_pos _ i (by rw [List.length_append, h.len]; omega), getElem!_pos vs i (by rw [h.len]; exact hi), List.getElem_append_left (by rw [h.len]; exact hi)]
  have hgl : ∀ i : Nat, i < ls.length → (ls ++ [l])[i]! = ls[i]! := fun i hi => by
    rw [getElem!_pos _ i (by rw [List.length_append]; omega), getElem!_pos ls i hi, List.getElem_append_left hi]
  have hlast : (vs ++ [u])[ls.length]! = u := by
    rw [getElem!_pos _ _ (by rw [List.length_append, h.len]; simp), List.getElem_append_right (by rw [h.len]; exact Nat.le_refl _)]; simp [h.len]
  have hll : (ls ++ [l])[ls.length]! = l := by
    rw [getElem!_pos _ _ (by simp), List.getElem_append_right (Nat.le_refl _)]; simp
  have hnew : W1.ownsRow Bi 3 1 u l.length (l.map (Value.int .i64)) := own_base (own_keep hr (fun q hq => hg.block q (own_block hr hq).2 (fun e => own_types hr h.out (by decide) hq e.symm))) hBi
  refine ⟨by simp [h.len], by rw [List.length_append]; exact ho, fun i hi => ?_, fun i j hi hj hij q hq => ?_⟩
  · rw [List.length_append, List.length_singleton] at hi
    rcases Nat.lt_or_ge i ls.length with hi' | hi'
    · rw [hget i hi', hgl i hi']
      exact own_keep (h.inn i hi') (fun q hq => hg.block q (own_block (h.inn i hi') hq).2 (fun e => own_types (h.inn i hi') h.out (by decide) hq e.symm))
    · obtain rfl : i = ls.length := by omega
      rw [hlast, hll]; exact hnew
  · rw [List.length_append, List.length_singleton] at hi hj
    rcases Nat.lt_or_ge i ls.length with hi' | hi'
    · rw [hget i hi'] at hq
      have h1 := (own_block (h0.inn i hi') hq).2
      rcases Nat.lt_or_ge j ls.length with hj' | hj'
      · rw [hget j hj']; exact h.dis i j hi' hj' hij q hq
      · obtain rfl : j = ls.length := by omega
        rw [hlast]
        intro e
        have := (own_block hr e).1; omega
    · obtain rfl : i = ls.length := by omega
      rw [hlast] at hq
      have h1 := (own_block hr hq).1
      rw [hget j (by omega)]
      intro e
      have := (own_block (h0.inn j (by omega)) e).2; omega
theorem ORv.emp {W : World} {b Bo Bi : Nat} (h : W.heap[b]? = some (.cells #[] 33 (0, 0))) (hB : Bo ≤ b) : ORv Bo Bi W (.slice (some ⟨b, 0, none⟩) 0 0) [] [] :=
  ⟨rfl, own_emp h hB, fun _ hi => absurd hi (Nat.not_lt_zero _), fun _ _ hi => absurd hi (Nat.not_lt_zero _)⟩
end Go.Proofs.Ytigicbnkfmbolaa.R6.T

namespace Go.Proofs.Ytigicbnkfmbolaa.N7.T
open Go.RowKit Go.Shelf Go.Proofs.Ytigicbnkfmbolaa.B Go.Proofs.Ytigicbnkfmbolaa.R6 Go.Proofs.Ytigicbnkfmbolaa.R6.T Go.Proofs.Ytigicbnkfmbolaa.N7
/-- The first k points' ways. -/
def ntR (N : Nat) (S : Nat → Nat → Bool) (k : Nat) : NetL := (List.range k).map fun a => inL N (S a)
theorem ntR_len (N : Nat) (S : Nat → Nat → Bool) (k : Nat) : (ntR N S k).length = k := by simp [ntR]
theorem ntR_next (N : Nat) (S : Nat → Nat → Bool) (k : Nat) : ntR N S (k + 1) = ntR N S k ++ [inL N (S k)] := by unfold ntR; rw [List.range_succ, List.map_append]; rfl
def DNP (W : World) (N : Nat) (l : NetL) (e : Ending) (w' : World) : Prop := ∃ a k, e = .returned (.slice a N k) ∧ Nt w' a l ∧ Below W.heap.size W w'
set_option maxRecDepth 100000 in
set_option maxHeartbeats 8000000 in
theorem net_doc (w : World) (EA TA : Option Addr) (ec tc : Nat) (es : List Ev) (ts : List Ti) (h : FI w EA TA es ts) (hs : SmF es ts) :
    Calls Try.prog 14 #[FV EA TA es.length ec ts.length tc] w (DNP w es.length (netL es.length (needS es.length ts))) := by
  obtain ⟨i0, hi0, hi1, hi2, hi3⟩ := info_parts info_int'
  obtain ⟨j0, hj0, hj1, hj2, hj3⟩ := info_parts info_row'
  have hl := hs.t
  have he := hs.e
  have HR := Lib.hid h.t
  have HS : Hid (∀ k, k < es.length → ∀ m, m < es.length → needS es.length ts k m = ((tdB ts 1 (m : Int) (k : Int) || tdB ts 5 (m : Int) (k : Int)) || tdB ts 2 (k : Int) (m : Int))) := Lib.hid (fun k hk m hm => need_doc hk hm)
  have HT := Lib.hid (fun (W : World) (hW : Row W TA (ts.flatMap tiC)) (x a b : Int) => tied_doc W EA TA es.length ec tc ts hW (by omega) x a b)
  have B00 : Hid (BT1 30 w #[.slice EA es.length ec, .slice TA ts.length tc] ((w.alloc (.cells #[.slice EA es.length ec, .slice TA ts.length tc] 30)).alloc (.cells #[] 33))) := Lib.hid ((BT1.start _ w _).alloc _)
  have O0 : Hid (ORv w.heap.size w.heap.size ((w.alloc (.cells #[.slice EA es.length ec, .slice TA ts.length tc] 30)).alloc (.cells #[] 33)) (.slice (some ⟨w.heap.size + 1, 0, none⟩) 0 0) [] (ntR es.length (needS es.length ts) 0)) := Lib.hid (by
    have := heap_new (w.alloc (.cells #[.slice EA es.length ec, .slice TA ts.length tc] 30)) (.cells #[] 33)
    rw [World.size_alloc] at this
    exact ORv.emp this (by omega))
  generalize needS es.length ts = S at *
  clear h
  go_enter Try.func14, Try.ntmps14
  go_wp2_with fail
  go_loopw [3, 4] (fun v i wr => ∃ (k : Nat) (vs : List Value), k ≤ es.length ∧ i = .int .i64 k ∧ Hid (BT1 30 w #[.slice EA es.length ec, .slice TA ts.length tc] wr) ∧ Hid (ORv w.heap.size w.heap.size wr v vs (ntR es.length S k))) (fun _ i _ => es.length - (intOf i).toNat)
  case atStart => exact ⟨0, [], Nat.zero_le _, rfl, B00, O0⟩
  case round =>
    clear B00 O0
    obtain ⟨k, vs, hk, rfl, BB, OO⟩ := hrel
    obtain ⟨wo, rfl⟩ : ∃ wo, wo = wr := ⟨wr, rfl⟩
    obtain ⟨va, vc, hve⟩ := own_slice OO.out.out
    rw [ntR_len] at hve
    subst hve
    obtain ⟨c0, c1⟩ := BB.out.cells
    have ll := BB.out.lt
    have hk0 : (0 : Int) ≤ (k : Int) := Int.natCast_nonneg _
    by_cases hlt : k < es.length
    · have hk1 : (k : Int) < (es.length : Int) := by omega
      have HSK := Lib.hid (HS.out k hlt)
      have U0 : Hid (World.ownsRow (wo.alloc (.cells #[] 3)) wo.heap.size 3 1 (.slice (some ⟨wo.heap.size, 0, none⟩) 0 0) (inL 0 (S k)).length ((inL 0 (S k)).map (Value.int .i64))) := Lib.hid (own_emp (heap_new _ _) (Nat.le_refl _))
      have X0 : Hid (Below wo.heap.size wo (wo.alloc (.cells #[] 3))) := Lib.hid ((Below.refl _ _).alloc (Nat.le_refl _) _)
      go_wp2_with fail
      go_loopw [5, 6] (fun u j wr => ∃ m : Nat, m ≤ es.length ∧ j = .int .i64 m ∧ Hid (wr.ownsRow wo.heap.size 3 1 u (inL m (S k)).length ((inL m (S k)).map (Value.int .i64))) ∧ Hid (Below wo.heap.size wo wr)) (fun _ j _ => es.length - (intOf j).toNat)
      case atStart => exact ⟨0, Nat.zero_le _, rfl, U0, X0⟩
      case round =>
        clear U0 X0
        obtain ⟨m, hm, rfl, UU, XX⟩ := hrel
        obtain ⟨wi, rfl⟩ : ∃ wi, wi = wr := ⟨wr, rfl⟩
        obtain ⟨ua, uc, rfl⟩ := own_slice UU.out
        have htl := inL_len m (S k)
        have BI := Lib.hid (BB.out.call XX.out)
        obtain ⟨d0, d1⟩ := BI.out.cells
        have dl := BI.out.lt
        have hm0 : (0 : Int) ≤ (m : Int) := Int.natCast_nonneg _
        by_cases hmt : m < es.length
        · have hm1 : (m : Int) < (es.length : Int) := by omega
          have HNX := Lib.hid (inL_next m (S k))
          replace HSK := Lib.hid (HSK.out m hmt)
          go_wp2_with fail
          refine (HT.out _ (HR.out.below (Nat.le_refl _) BI.out.b) 1 (m : Int) (k : Int)).mono ?_
          rintro e w1 ⟨rfl, hb⟩
          replace BI := Lib.hid (BI.out.call hb)
          replace UU := Lib.hid (own_below UU.out hb)
          replace XX := Lib.hid (XX.out.trans (hb.mono XX.out.size))
          clear hb d0 d1 dl
          obtain ⟨d0, d1⟩ := BI.out.cells
          have dl := BI.out.lt
          cases ht0 : tdB ts 1 (m : Int) (k : Int) with
          | true =>
            rw [ht0] at HSK
            replace HSK : Hid (S k m = true) := Lib.hid (by have := HSK.out; simpa using this)
            clear ht0
            have HNX2 : Hid (inL (m + 1) (S k) = inL m (S k) ++ [(m : Int)]) := Lib.hid (by rw [HNX.out, HSK.out, if_pos rfl])
            clear HNX HSK
            generalize inL m (S k) = l at *
            go_wp2_with (at_builtin; refine wpList_append_own_at _ rfl (.tmp 39) (.tmp 41) 33 rfl wo.heap.size 3 i0 _ 1 8 Try.underlying33 hi0 hi1 hi2 hi3 rfl (by omega) _ _ _ rfl (UU.out.alloc _) ⟨w1.heap.size, 0, none⟩ 1 1 [.int .i64 (m : Int)] rfl rfl ?c1 ?c2 ?c3 ?c4 ?c5 ?_)
            case c1 =>
              intro j u hj
              have hn := heap_new w1 (.cells #[.int .i64 (m : Int)] 3)
              match j, hj with
              | 0, hj => cases hj; exact cell_blk hn rfl
            case c2 => first | rfl | (intro u hu; simp at hu; rw [hu]; rfl)
            case c3 => unfold maxLen; omega
            case c4 => omega
            case c5 => have := XX.out.size; first | omega | (rw [World.size_alloc]; omega)
            intro v1 w9 hown' hgrow _ hat
            have hsz := XX.out.size
            have U1 : Hid (w9.ownsRow wo.heap.size 3 1 v1 (inL (m + 1) (S k)).length ((inL (m + 1) (S k)).map (Value.int .i64))) := Lib.hid (by rw [HNX2.out, List.length_append, List.map_append]; exact hown')
            have X1 : Hid (Below wo.heap.size wo w9) := Lib.hid ((XX.out.trans (((Below.refl _ _).alloc (Nat.le_refl _) (.cells #[.int .i64 (m : Int)] 3)).mono hsz)).grown hgrow (by rw [World.size_alloc]; omega) (fun q hq => (own_block UU.out hq).1))
            clear hown' hgrow hat UU XX HNX2
            go_wp2_with fail
            go_roundw
            case rel => exact ⟨m + 1, hmt, by go_num, U1, X1⟩
            case measure => simp [intOf]; omega
          | false =>
            rw [ht0] at HSK
            replace HSK : Hid (S k m = (tdB ts 5 (m : Int) (k : Int) || tdB ts 2 (k : Int) (m : Int))) := Lib.hid (by have := HSK.out; simpa using this)
            clear ht0
            go_wp2_with fail
            refine (HT.out _ (HR.out.below (Nat.le_refl _) BI.out.b) 5 (m : Int) (k : Int)).mono ?_
            rintro e w2 ⟨rfl, hb⟩
            replace BI := Lib.hid (BI.out.call hb)
            replace UU := Lib.hid (own_below UU.out hb)
            replace XX := Lib.hid (XX.out.trans (hb.mono XX.out.size))
            clear hb d0 d1 dl
            obtain ⟨d0, d1⟩ := BI.out.cells
            have dl := BI.out.lt
            cases ht1 : tdB ts 5 (m : Int) (k : Int) with
            | true =>
              rw [ht1] at HSK
              replace HSK : Hid (S k m = true) := Lib.hid (by have := HSK.out; simpa using this)
              clear ht1
              have HNX2 : Hid (inL (m + 1) (S k) = inL m (S k) ++ [(m : Int)]) := Lib.hid (by rw [HNX.out, HSK.out, if_pos rfl])
              clear HNX HSK
              generalize inL m (S k) = l at *
              go_wp2_with (at_builtin; refine wpList_append_own_at _ rfl (.tmp 39) (.tmp 41) 33 rfl wo.heap.size 3 i0 _ 1 8 Try.underlying33 hi0 hi1 hi2 hi3 rfl (by omega) _ _ _ rfl (UU.out.alloc _) ⟨w2.heap.size, 0, none⟩ 1 1 [.int .i64 (m : Int)] rfl rfl ?c1 ?c2 ?c3 ?c4 ?c5 ?_)
              case c1 =>
                intro j u hj
                have hn := heap_new w2 (.cells #[.int .i64 (m : Int)] 3)
                match j, hj with
                | 0, hj => cases hj; exact cell_blk hn rfl
              case c2 => first | rfl | (intro u hu; simp at hu; rw [hu]; rfl)
              case c3 => unfold maxLen; omega
              case c4 => omega
              case c5 => have := XX.out.size; first | omega | (rw [World.size_alloc]; omega)
              intro v1 w9 hown' hgrow _ hat
              have hsz := XX.out.size
              have U1 : Hid (w9.ownsRow wo.heap.size 3 1 v1 (inL (m + 1) (S k)).length ((inL (m + 1) (S k)).map (Value.int .i64))) := Lib.hid (by rw [HNX2.out, List.length_append, List.map_append]; exact hown')
              have X1 : Hid (Below wo.heap.size wo w9) := Lib.hid ((XX.out.trans (((Below.refl _ _).alloc (Nat.le_refl _) (.cells #[.int .i64 (m : Int)] 3)).mono hsz)).grown hgrow (by rw [World.size_alloc]; omega) (fun q hq => (own_block UU.out hq).1))
              clear hown' hgrow hat UU XX HNX2
              go_wp2_with fail
              go_roundw
              case rel => exact ⟨m + 1, hmt, by go_num, U1, X1⟩
              case measure => simp [intOf]; omega
            | false =>
              rw [ht1] at HSK
              replace HSK : Hid (S k m = (tdB ts 2 (k : Int) (m : Int))) := Lib.hid (by have := HSK.out; simpa using this)
              clear ht1
              go_wp2_with fail
              refine (HT.out _ (HR.out.below (Nat.le_refl _) BI.out.b) 2 (k : Int) (m : Int)).mono ?_
              rintro e w3 ⟨rfl, hb⟩
              replace BI := Lib.hid (BI.out.call hb)
              replace UU := Lib.hid (own_below UU.out hb)
              replace XX := Lib.hid (XX.out.trans (hb.mono XX.out.size))
              clear hb d0 d1 dl
              obtain ⟨d0, d1⟩ := BI.out.cells
              have dl := BI.out.lt
              cases ht2 : tdB ts 2 (k : Int) (m : Int) with
              | true =>
                rw [ht2] at HSK
                replace HSK : Hid (S k m = true) := Lib.hid (by have := HSK.out; simpa using this)
                clear ht2
                have HNX2 : Hid (inL (m + 1) (S k) = inL m (S k) ++ [(m : Int)]) := Lib.hid (by rw [HNX.out, HSK.out, if_pos rfl])
                clear HNX HSK
                generalize inL m (S k) = l at *
                go_wp2_with (at_builtin; refine wpList_append_own_at _ rfl (.tmp 39) (.tmp 41) 33 rfl wo.heap.size 3 i0 _ 1 8 Try.underlying33 hi0 hi1 hi2 hi3 rfl (by omega) _ _ _ rfl (UU.out.alloc _) ⟨w3.heap.size, 0, none⟩ 1 1 [.int .i64 (m : Int)] rfl rfl ?c1 ?c2 ?c3 ?c4 ?c5 ?_)
                case c1 =>
                  intro j u hj
                  have hn := heap_new w3 (.cells #[.int .i64 (m : Int)] 3)
                  match j, hj with
                  | 0, hj => cases hj; exact cell_blk hn rfl
                case c2 => first | rfl | (intro u hu; simp at hu; rw [hu]; rfl)
                case c3 => unfold maxLen; omega
                case c4 => omega
                case c5 => have := XX.out.size; first | omega | (rw [World.size_alloc]; omega)
                intro v1 w9 hown' hgrow _ hat
                have hsz := XX.out.size
                have U1 : Hid (w9.ownsRow wo.heap.size 3 1 v1 (inL (m + 1) (S k)).length ((inL (m + 1) (S k)).map (Value.int .i64))) := Lib.hid (by rw [HNX2.out, List.length_append, List.map_append]; exact hown')
                have X1 : Hid (Below wo.heap.size wo w9) := Lib.hid ((XX.out.trans (((Below.refl _ _).alloc (Nat.le_refl _) (.cells #[.int .i64 (m : Int)] 3)).mono hsz)).grown hgrow (by rw [World.size_alloc]; omega) (fun q hq => (own_block UU.out hq).1))
                clear hown' hgrow hat UU XX HNX2
                go_wp2_with fail
                go_roundw
                case rel => exact ⟨m + 1, hmt, by go_num, U1, X1⟩
                case measure => simp [intOf]; omega
              | false =>
                rw [ht2] at HSK
                replace HSK : Hid (S k m = (false)) := Lib.hid (by have := HSK.out; simpa using this)
                clear ht2
                have HNX2 : Hid (inL (m + 1) (S k) = inL m (S k)) := Lib.hid (by rw [HNX.out, HSK.out, if_neg (by decide), List.append_nil])
                have U1 : Hid (World.ownsRow w3 wo.heap.size 3 1 (.slice ua (inL m (S k)).length uc) (inL (m + 1) (S k)).length ((inL (m + 1) (S k)).map (Value.int .i64))) := Lib.hid (by rw [HNX2.out]; exact UU.out)
                clear HNX HSK UU HNX2
                go_wp2_with fail
                go_roundw
                case rel => exact ⟨m + 1, hmt, by go_num, U1, XX⟩
                case measure => simp [intOf]; omega
        · obtain rfl : m = es.length := by omega
          have hm2 : ¬ ((es.length : Int) < (es.length : Int)) := by omega
          have HNX := Lib.hid (ntR_next es.length S k)
          have HLN := ntR_len es.length S k
          have hsz := XX.out.size
          have hsw := BB.out.b.size
          have O1 := Lib.hid (OO.out.keep (fun q hq => XX.out.block q (by
            rcases hq with hq | ⟨i, hi, hq⟩
            · exact (own_block OO.out.out hq).2
            · exact (own_block (OO.out.inn i hi) hq).2)))
          have hoo := O1.out.out
          rw [HLN] at hoo
          have HOO := Lib.hid hoo
          clear hoo HSK
          generalize inL es.length (S k) = l at *
          go_wp2_with (at_builtin; refine wpList_append_own_at _ rfl (.tmp 43) (.tmp 45) 37 rfl w.heap.size 33 j0 _ 1 24 Try.underlying37 hj0 hj1 hj2 hj3 rfl (by omega) _ _ _ rfl (HOO.out.alloc _) ⟨wi.heap.size, 0, none⟩ 1 1 [.slice ua l.length uc] rfl rfl ?c1 ?c2 ?c3 ?c4 ?c5 ?_)
          case c2 => first | rfl | (intro u hu; simp at hu; rw [hu]; rfl)
          case c3 => unfold maxLen; omega
          case c4 => omega
          case c5 => first | omega | (rw [World.size_alloc]; omega)
          intro v1 w9 hown' hgrow _ hat
          have hba : Below wo.heap.size wo (wi.alloc (.cells #[.slice ua l.length uc] 33)) := XX.out.trans (((Below.refl _ _).alloc (Nat.le_refl _) _).mono hsz)
          have O2 := ORv.pushRow OO.out hba hsw (UU.out.alloc _) (by rw [HLN]; exact hown') hgrow
          rw [← HNX.out] at O2
          have O3 := Lib.hid O2
          have B3 := Lib.hid ((BB.out.call hba).grown hgrow (fun q hq => (own_block HOO.out hq).1) (own_far OO.out.out BB.out.f (by decide)))
          clear hown' hgrow hat O2 hba HOO O1 UU XX HNX
          go_wp2_with fail
          go_roundw
          case rel => exact ⟨k + 1, _, hlt, by go_num, B3, O3⟩
          case measure => simp [intOf]; omega
    · obtain rfl : k = es.length := by omega
      have hk2 : ¬ ((es.length : Int) < (es.length : Int)) := by omega
      have hoo : ORv w.heap.size w.heap.size wo (.slice va es.length vc) vs (netL es.length S) := OO.out
      obtain ⟨a, d, ss, he', hn, hi⟩ := hoo.net
      rw [nt_len hn, netL_len] at he'
      injection he' with he1 _ he3
      subst he1 he3
      go_wp2_with fail
      go_ret
      unfold DNP
      exact ⟨va, vc, rfl, ⟨ss, hn, hi⟩, BB.out.b⟩
end Go.Proofs.Ytigicbnkfmbolaa.N7.T
