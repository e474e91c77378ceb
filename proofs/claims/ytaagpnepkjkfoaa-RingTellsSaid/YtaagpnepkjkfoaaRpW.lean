/-
  Contracts of the document's Reach, Turn and Rings.
-/
import Derived.Test.YtaagpnepkjkfoaaRpV
namespace Go.Proofs.Ytaagpnepkjkfoaa.R6.T
open Go.RowKit Go.Shelf Go.Proofs.Ytaagpnepkjkfoaa.B Go.Proofs.Ytaagpnepkjkfoaa.R6

theorem BT.grown {B N k B' m : Nat} {v o : Value} {bs : List Nat} {f : Nat → Nat → Bool} {W W' : World} {T : TypeId} {xs : List Value} (h : BT B N k v bs f W) (ho : W.ownsRow B' T 1 o m xs) (h1 : 72 ≠ T) (h2 : T ≠ 4) (hg : W.grownBy W' o.ownBlock) : BT B N k v bs f W' :=
  ⟨h.lb, own_keep h.out (fun q hq => hg.block q (own_block h.out hq).2 (fun e => own_types h.out ho h1 hq e.symm)), h.ge, fun i hi => (h.inn i hi).keep (hg.block _ (h.inn i hi).lt (fun e => own_far ho (h.inn i hi) h2 e.symm)), h.dis⟩
/-- A table, and a list of ints of the call's own. -/
structure RR (w : World) (B : Nat) (n : NetL) (v : Value) (bs : List Nat) (o : Value) (l : List Nat) (W : World) : Prop where
  b : BT B n.length n.length v bs (tB n) W
  o : W.ownsRow w.heap.size 3 1 o l.length (l.map iv)
  l : Below w.heap.size w W
theorem RR.push {w : World} {B : Nat} {n : NetL} {v : Value} {bs : List Nat} {o o' : Value} {l : List Nat} {W W1 : World} {j : Nat} (h : RR w B n v bs o l W)
    (ho : W1.ownsRow w.heap.size 3 1 o' (l.length + 1) (l.map iv ++ [iv j])) (hg : (W.alloc (.cells #[iv j] 3)).grownBy W1 o.ownBlock) : RR w B n v bs o' (l ++ [j]) W1 := by
  have hb : Below W.heap.size W (W.alloc (.cells #[iv j] 3)) := (Below.refl _ _).alloc (Nat.le_refl _) _
  have hl := h.l.size
  refine ⟨(h.b.below hb).grown (h.o.alloc _) (by decide) (by decide) hg, by rw [List.length_append, List.map_append]; exact ho, (h.l.trans (hb.mono h.l.size)).grown hg (by rw [World.size_alloc]; omega) (fun q hq => (own_block h.o hq).1)⟩
/-- A row of a call's own is put behind. -/
theorem ORv.pushRow {Bo Bi : Nat} {W0 W W1 : World} {v v' u : Value} {vs : List Value} {ls : List (List Int)} {l : List Int} (h0 : ORv Bo Bi W0 v vs ls) (hb : Below W0.heap.size W0 W) (hBi : Bi ≤ W0.heap.size)
    (hr : W.ownsRow W0.heap.size 3 1 u l.length (l.map (Value.int .i64))) (ho : W1.ownsRow Bo 26 1 v' (ls.length + 1) (vs ++ [u])) (hg : W.grownBy W1 v.ownBlock) : ORv Bo Bi W1 v' (vs ++ [u]) (ls ++ [l]) := by
  have h : ORv Bo Bi W v vs ls := h0.keep (fun q hq => hb.block q (by
    rcases hq with hq | ⟨i, hi, hq⟩
    · exact (own_block h0.out hq).2
    · exact (own_block (h0.inn i hi) hq).2))
  have hget : ∀ i : Nat, i < ls.length → (vs ++ [u])[i]! = vs[i]! := fun i hi => by
    rw [getElem!_pos _ i (by rw [List.length_append, h.len]; omega), getElem!_pos vs i (by rw [h.len]; exact hi), List.getElem_append_left (by rw [h.len]; exact hi)]
  have hgl : ∀ i : Nat, i < ls.length → (ls ++ [l])[i]! = ls[i]! := fun i hi => by
    rw [getElem!_pos _ i (by rw [List.length_append]; omega), getElem!_pos ls i hi, List.getElem_append_left hi]
  have hlast : (vs ++ [u])[ls.length]! = u := by
    rw [getElem!_pos _ _ (by rw [List.length_append, h.len]; simp), List.getElem_append_right (by rw [h.len]; exact Nat.le_refl _)]; simp [h.len]
  have hll : (ls ++ [l])[ls.length]! = l := by
    rw [getElem!_pos _ _ (by simp), List.getElem_append_right (Nat.le_refl _)]; simp
  have hnew : W1.ownsRow Bi 3 1 u l.length (l.map (Value.int .i64)) := own_base (own_keep hr (fun q hq => hg.block q (own_block hr hq).2 (fun e => own_types hr h.out (by decide) hq e.symm))) hBi
  refine ⟨by simp [h.len], by rw [List.length_append]; exact ho, fun i hi => ?_, fun i j hi hj hij q hq => ?_⟩
  · rw [List.length_append, List.length_singleton] at hi
    rcases Nat.lt_or_ge i ls.length with hi' | hi'
    · rw [hget i hi', hgl i hi']
      exact own_keep (h.inn i hi') (fun q hq => hg.block q (own_block (h.inn i hi') hq).2 (fun e => own_types (h.inn i hi') h.out (by decide) hq e.symm))
    · obtain rfl : i = ls.length := by omega
      rw [hlast, hll]; exact hnew
  · rw [List.length_append, List.length_singleton] at hi hj
    rcases Nat.lt_or_ge i ls.length with hi' | hi'
    · rw [hget i hi'] at hq
      have h1 := (own_block (h0.inn i hi') hq).2
      rcases Nat.lt_or_ge j ls.length with hj' | hj'
      · rw [hget j hj']; exact h.dis i j hi' hj' hij q hq
      · obtain rfl : j = ls.length := by omega
        rw [hlast]
        intro e
        have := (own_block hr e).1; omega
    · obtain rfl : i = ls.length := by omega
      rw [hlast] at hq
      have h1 := (own_block hr hq).1
      rw [hget j (by omega)]
      intro e
      have := (own_block (h0.inn j (by omega)) e).2; omega
theorem ORv.emp {W : World} {b Bo Bi : Nat} (h : W.heap[b]? = some (.cells #[] 26 (0, 0))) (hB : Bo ≤ b) : ORv Bo Bi W (.slice (some ⟨b, 0, none⟩) 0 0) [] [] :=
  ⟨rfl, own_emp h hB, fun _ hi => absurd hi (Nat.not_lt_zero _), fun _ _ hi => absurd hi (Nat.not_lt_zero _)⟩

theorem reachN_out {n : NetL} {i : Int} (h : i < 0 ∨ (n.length : Int) ≤ i) : reachN n i = [] := by
  have : hasI n.length i = false := by unfold hasI; rw [Bool.and_eq_false_iff, decide_eq_false_iff_not, decide_eq_false_iff_not]; omega
  unfold reachN reachI; rw [this]; rfl
theorem reachN_in {n : NetL} {r : Nat} (h : r < n.length) : reachN n (r : Int) = (rcL n r n.length).map fun j : Nat => (j : Int) := by
  have : hasI n.length (r : Int) = true := by unfold hasI; rw [Bool.and_eq_true, decide_eq_true_eq, decide_eq_true_eq]; omega
  unfold reachN reachI; rw [this, if_pos rfl, Int.toNat_natCast, rcL_all h]

def RcP (W : World) (l : List Int) (e : Ending) (w' : World) : Prop := ∃ a k, e = .returned (.slice a l.length k) ∧ Row w' a (l.map (Value.int .i64)) ∧ Below W.heap.size W w'
set_option maxRecDepth 100000 in
set_option maxHeartbeats 4000000 in
theorem reach_doc (W : World) (A : Option Addr) (c : Nat) (n : NetL) (hn : Nt W A n) (hs : Small n) (i : Int) :
    Calls Try.prog 13 #[.slice A n.length c, .int .i64 i] W fun e w' => ∃ a k, e = .returned (.slice a (reachN n i).length k) ∧ Row w' a ((reachN n i).map (Value.int .i64)) ∧ Below W.heap.size W w' := by
  show Calls _ _ _ _ (RcP W (reachN n i))
  obtain ⟨i0, hi0, hi1, hi2, hi3⟩ := info_parts info_int'
  have hl24 := hs.l
  have hN0 : (0 : Int) ≤ (n.length : Int) := Int.natCast_nonneg _
  have hb0 : Below W.heap.size W (W.alloc (.cells #[] 3)) := (Below.refl _ _).alloc (Nat.le_refl _) _
  have BB0 := Lib.hid hb0
  have HT := Lib.hid (table_doc (W.alloc (.cells #[] 3)) A c n (hn.below hb0) hs)
  have HE := Lib.hid (own_emp (B := W.heap.size) (z := 1) (heap_new W (.cells #[] 3)) (Nat.le_refl _))
  clear hn hb0
  by_cases h0 : 0 ≤ i
  · obtain ⟨r, rfl⟩ := Int.eq_ofNat_of_zero_le h0
    by_cases hr : r < n.length
    · have HZ := Lib.hid (reachN_in hr)
      have hr0 : (0 : Int) ≤ (r : Int) := Int.natCast_nonneg _
      have hr1 : (r : Int) < (n.length : Int) := by omega
      go_enter Try.func13, Try.ntmps13
      go_wp2_with fail
      refine HT.out.mono ?_
      rintro e w1 ⟨v, bs, rfl, hbt, hb⟩
      have hsz := BB0.out.size
      obtain ⟨va, vc, rfl⟩ := own_slice hbt.out
      have R0 : Hid (RR W (W.alloc (.cells #[] 3)).heap.size n (.slice va n.length vc) bs (.slice (some ⟨W.heap.size, 0, none⟩) 0 0) (rcL n r 0) w1) := Lib.hid ⟨hbt, own_keep HE.out (fun q hq => hb.block q (own_block HE.out hq).2), BB0.out.trans (hb.mono (by omega))⟩
      clear HT HE hbt hb BB0 hsz
      generalize (W.alloc (.cells #[] 3)).heap.size = B at *
      go_wp2_with fail
      go_loopw [5, 7] (fun u j wr => ∃ m : Nat, m ≤ n.length ∧ j = .int .i64 m ∧ Hid (RR W B n (.slice va n.length vc) bs u (rcL n r m) wr)) (fun _ j _ => n.length - (intOf j).toNat)
      case atStart => exact ⟨0, Nat.zero_le _, rfl, R0⟩
      case round =>
        clear R0
        obtain ⟨m, hm, rfl, R0⟩ := hrel
        obtain ⟨ua, uc, rfl⟩ := own_slice R0.out.o
        by_cases hmt : m < n.length
        · have hm0 : (0 : Int) ≤ (m : Int) := Int.natCast_nonneg _
          have hm1 : (m : Int) < (n.length : Int) := by omega
          obtain ⟨g, gc, hve, _, _, hcg⟩ := R0.out.b.at_ (i := r) hr
          cases hve
          have hbit := R0.out.b.bit (i := r) (j := m) hr hmt
          have hrl := rcL_len n r m
          have HNX := Lib.hid (rcL_next n r m)
          cases hq : tB n r m with
          | true =>
            rw [hq] at hbit
            rw [hq, if_pos rfl] at HNX
            generalize rcL n r m = l at *
            clear hq
            generalize bs[r]! = z at *
            go_wp2_with (at_builtin; refine wpList_append_own_at _ rfl (.tmp 33) (.tmp 35) 26 rfl W.heap.size 3 i0 _ 1 8 Try.underlying26 hi0 hi1 hi2 hi3 rfl (by omega) _ _ _ rfl (R0.out.o.alloc _) ⟨wr.heap.size, 0, none⟩ 1 1 [iv m] rfl rfl ?c1 ?c2 ?c3 ?c4 ?c5 ?_)
            case c1 =>
              intro j u hj
              have hn := heap_new wr (.cells #[iv m] 3)
              match j, hj with
              | 0, hj => cases hj; exact cell_blk hn rfl
            case c2 => first | rfl | (intro u hu; simp at hu; rw [hu]; rfl)
            case c3 => unfold maxLen; omega
            case c4 => omega
            case c5 => have := R0.out.l.size; first | omega | (rw [World.size_alloc]; omega)
            intro v1 w4 hown' hgrow _ hat
            have R1 := Lib.hid (R0.out.push hown' hgrow)
            rw [← HNX.out] at R1
            clear hown' hgrow hat R0 hcg hbit
            go_wp2_with fail
            go_roundw
            case rel => exact ⟨m + 1, hmt, by go_num, R1⟩
            case measure => simp [intOf]; omega
          | false =>
            rw [hq] at hbit
            rw [hq, if_neg (by decide), List.append_nil] at HNX
            have R1 : Hid (RR W B n (.slice (some ⟨g, 0, none⟩) n.length vc) bs (.slice ua (rcL n r m).length uc) (rcL n r (m + 1)) wr) := Lib.hid (by rw [HNX.out]; exact R0.out)
            clear hq R0
            generalize bs[r]! = z at *
            go_wp2_with fail
            go_roundw
            case rel => exact ⟨m + 1, hmt, by go_num, R1⟩
            case measure => simp [intOf]; omega
        · obtain rfl : m = n.length := by omega
          go_wp2_with fail
          go_ret
          unfold RcP
          refine ⟨ua, uc, by rw [HZ.out, List.length_map]; rfl, ?_, R0.out.l⟩
          rw [HZ.out, ← iv_int]
          exact Row.of_own R0.out.o
    · have HZ := Lib.hid (reachN_out (n := n) (i := (r : Int)) (.inr (by omega)))
      have hr0 : (0 : Int) ≤ (r : Int) := Int.natCast_nonneg _
      have hr1 : ¬ ((r : Int) < (n.length : Int)) := by omega
      have hr2 : (r : Int) ≥ (n.length : Int) := by omega
      clear HT
      go_enter Try.func13, Try.ntmps13
      go_wp2_with fail
      go_ret
      unfold RcP
      refine ⟨some ⟨W.heap.size, 0, none⟩, 0, by rw [HZ.out]; rfl, ?_, BB0.out⟩
      rw [HZ.out]
      exact Row.of_own HE.out
  · have HZ := Lib.hid (reachN_out (n := n) (i := i) (.inl (by omega)))
    have hr1 : i < 0 := by omega
    clear HT
    go_enter Try.func13, Try.ntmps13
    go_wp2_with fail
    go_ret
    unfold RcP
    refine ⟨some ⟨W.heap.size, 0, none⟩, 0, by rw [HZ.out]; rfl, ?_, BB0.out⟩
    rw [HZ.out]
    exact Row.of_own HE.out

/-! ### Turn -/
def tuR (n : NetL) (k : Nat) : NetL := (List.range k).map (toL n n.length)
theorem tuR_len (n : NetL) (k : Nat) : (tuR n k).length = k := by simp [tuR]
theorem tuR_next (n : NetL) (k : Nat) : tuR n (k + 1) = tuR n k ++ [toL n n.length k] := by unfold tuR; rw [List.range_succ, List.map_append]; rfl
def NtP (W : World) (N : Nat) (l : NetL) (e : Ending) (w' : World) : Prop := ∃ a k, e = .returned (.slice a N k) ∧ Nt w' a l ∧ Below W.heap.size W w'
set_option maxRecDepth 100000 in
set_option maxHeartbeats 4000000 in
theorem turn_doc (W : World) (A : Option Addr) (c : Nat) (n : NetL) (hn : Nt W A n) (hs : Small n) :
    Calls Try.prog 21 #[.slice A n.length c] W fun e w' => ∃ a k, e = .returned (.slice a n.length k) ∧ Nt w' a (turnL n) ∧ Below W.heap.size W w' := by
  show Calls _ _ _ _ (NtP W n.length (turnL n))
  obtain ⟨i0, hi0, hi1, hi2, hi3⟩ := info_parts info_int'
  obtain ⟨j0, hj0, hj1, hj2, hj3⟩ := info_parts info_row'
  have hl24 := hs.l
  have hN0 : (0 : Int) ≤ (n.length : Int) := Int.natCast_nonneg _
  have HS := Lib.hid hs
  have B0 : Hid (Below W.heap.size W (W.alloc (.cells #[] 26))) := Lib.hid ((Below.refl _ _).alloc (Nat.le_refl _) _)
  have N0 := Lib.hid (hn.below B0.out)
  have O0 : Hid (ORv W.heap.size W.heap.size (W.alloc (.cells #[] 26)) (.slice (some ⟨W.heap.size, 0, none⟩) 0 0) [] (tuR n 0)) := Lib.hid (ORv.emp (heap_new _ _) (Nat.le_refl _))
  have N00 := Lib.hid hn
  clear hn hs
  go_enter Try.func21, Try.ntmps21
  go_wp2_with fail
  go_loopw [3, 4] (fun v i wr => ∃ (k : Nat) (vs : List Value), k ≤ n.length ∧ i = .int .i64 k ∧ Hid (Nt wr A n) ∧ Hid (ORv W.heap.size W.heap.size wr v vs (tuR n k)) ∧ Hid (Below W.heap.size W wr)) (fun _ i _ => n.length - (intOf i).toNat)
  case atStart => exact ⟨0, [], Nat.zero_le _, rfl, N0, O0, B0⟩
  case round =>
    clear N0 O0 B0
    obtain ⟨k, vs, hk, rfl, NN, OO, BB⟩ := hrel
    obtain ⟨wo, rfl⟩ : ∃ wo, wo = wr := ⟨wr, rfl⟩
    obtain ⟨va, vc, hve⟩ := own_slice OO.out.out
    rw [tuR_len] at hve
    subst hve
    by_cases hlt : k < n.length
    · have hk0 : (0 : Int) ≤ (k : Int) := Int.natCast_nonneg _
      have hk1 : (k : Int) < (n.length : Int) := by omega
      have U0 : Hid (World.ownsRow (wo.alloc (.cells #[] 3)) wo.heap.size 3 1 (.slice (some ⟨wo.heap.size, 0, none⟩) 0 0) (toL n 0 k).length ((toL n 0 k).map (Value.int .i64))) := Lib.hid (own_emp (heap_new _ _) (Nat.le_refl _))
      have X0 : Hid (Below wo.heap.size wo (wo.alloc (.cells #[] 3))) := Lib.hid ((Below.refl _ _).alloc (Nat.le_refl _) _)
      go_wp2_with fail
      go_loopw [5, 6] (fun u j wr => ∃ m : Nat, m ≤ n.length ∧ j = .int .i64 m ∧ Hid (wr.ownsRow wo.heap.size 3 1 u (toL n m k).length ((toL n m k).map (Value.int .i64))) ∧ Hid (Below wo.heap.size wo wr)) (fun _ j _ => n.length - (intOf j).toNat)
      case atStart => exact ⟨0, Nat.zero_le _, rfl, U0, X0⟩
      case round =>
        clear U0 X0
        obtain ⟨m, hm, rfl, UU, XX⟩ := hrel
        obtain ⟨ua, uc, rfl⟩ := own_slice UU.out
        have htl := toL_len n m k
        by_cases hmt : m < n.length
        · have hm0 : (0 : Int) ≤ (m : Int) := Int.natCast_nonneg _
          have hm1 : (m : Int) < (n.length : Int) := by omega
          have HNX := Lib.hid (toL_next n m k)
          have C := fun (Wx : World) (h : Nt Wx A n) => leads_doc Wx A c n h HS.out.r hmt hlt
          by_cases hq : k ∈ wy n m
          · rw [if_pos hq] at HNX
            rw [decide_eq_true hq] at C
            have HC := Lib.hid C
            clear hq C
            go_wp2_with fail
            refine (HC.out _ (NN.out.below XX.out)).mono ?_
            rintro e w' ⟨rfl, hww⟩
            have hww' := hww.symm
            subst hww'
            clear HC hww
            generalize toL n m k = l at *
            go_wp2_with (at_builtin; refine wpList_append_own_at _ rfl (.tmp 25) (.tmp 27) 26 rfl wo.heap.size 3 i0 _ 1 8 Try.underlying26 hi0 hi1 hi2 hi3 rfl (by omega) _ _ _ rfl (UU.out.alloc _) ⟨wr.heap.size, 0, none⟩ 1 1 [iv m] rfl rfl ?c1 ?c2 ?c3 ?c4 ?c5 ?_)
            case c1 =>
              intro j u hj
              have hn := heap_new wr (.cells #[iv m] 3)
              match j, hj with
              | 0, hj => cases hj; exact cell_blk hn rfl
            case c2 => first | rfl | (intro u hu; simp at hu; rw [hu]; rfl)
            case c3 => unfold maxLen; omega
            case c4 => omega
            case c5 => have := XX.out.size; first | omega | (rw [World.size_alloc]; omega)
            intro v1 w4 hown' hgrow _ hat
            have hsz := XX.out.size
            have U1 : Hid (w4.ownsRow wo.heap.size 3 1 v1 (toL n (m + 1) k).length ((toL n (m + 1) k).map (Value.int .i64))) := Lib.hid (by rw [HNX.out, List.length_append, List.map_append]; exact hown')
            have X1 : Hid (Below wo.heap.size wo w4) := Lib.hid ((XX.out.trans (((Below.refl _ _).alloc (Nat.le_refl _) (.cells #[iv m] 3)).mono hsz)).grown hgrow (by rw [World.size_alloc]; omega) (fun q hq => (own_block UU.out hq).1))
            clear hown' hgrow hat UU XX
            go_wp2_with fail
            go_roundw
            case rel => exact ⟨m + 1, hmt, by go_num, U1, X1⟩
            case measure => simp [intOf]; omega
          · rw [if_neg hq, List.append_nil] at HNX
            have U1 : Hid (wr.ownsRow wo.heap.size 3 1 (.slice ua (toL n m k).length uc) (toL n (m + 1) k).length ((toL n (m + 1) k).map (Value.int .i64))) := Lib.hid (by rw [HNX.out]; exact UU.out)
            rw [decide_eq_false hq] at C
            have HC := Lib.hid C
            clear hq C UU
            go_wp2_with fail
            refine (HC.out _ (NN.out.below XX.out)).mono ?_
            rintro e w' ⟨rfl, hww⟩
            have hww' := hww.symm
            subst hww'
            clear HC hww
            go_wp2_with fail
            go_roundw
            case rel => exact ⟨m + 1, hmt, by go_num, U1, XX⟩
            case measure => simp [intOf]; omega
        · obtain rfl : m = n.length := by omega
          have HNX := Lib.hid (tuR_next n k)
          have HLN := tuR_len n k
          have hsz := XX.out.size
          have hsw := BB.out.size
          have O1 := Lib.hid (OO.out.keep (fun q hq => XX.out.block q (by
            rcases hq with hq | ⟨i, hi, hq⟩
            · exact (own_block OO.out.out hq).2
            · exact (own_block (OO.out.inn i hi) hq).2)))
          have hoo := O1.out.out
          rw [HLN] at hoo
          have HOO := Lib.hid hoo
          clear hoo
          generalize toL n n.length k = l at *
          go_wp2_with (at_builtin; refine wpList_append_own_at _ rfl (.tmp 29) (.tmp 31) 22 rfl W.heap.size 26 j0 _ 1 24 Try.underlying22 hj0 hj1 hj2 hj3 rfl (by omega) _ _ _ rfl (HOO.out.alloc _) ⟨wr.heap.size, 0, none⟩ 1 1 [.slice ua l.length uc] rfl rfl ?c1 ?c2 ?c3 ?c4 ?c5 ?_)
          case c1 =>
            intro j u hj
            have hn := heap_new wr (.cells #[.slice ua l.length uc] 26)
            match j, hj with
            | 0, hj => cases hj; exact cell_blk hn rfl
          case c2 => first | rfl | (intro u hu; simp at hu; rw [hu]; rfl)
          case c3 => unfold maxLen; omega
          case c4 => omega
          case c5 => first | omega | (rw [World.size_alloc]; omega)
          intro v1 w4 hown' hgrow _ hat
          have hba : Below wo.heap.size wo (wr.alloc (.cells #[.slice ua l.length uc] 26)) := XX.out.trans (((Below.refl _ _).alloc (Nat.le_refl _) _).mono hsz)
          have O2 := ORv.pushRow OO.out hba hsw (UU.out.alloc _) (by rw [HLN]; exact hown') hgrow
          rw [← HNX.out] at O2
          have B2 := (BB.out.trans (hba.mono hsw)).grown hgrow (by rw [World.size_alloc]; omega) (fun q hq => (own_block HOO.out hq).1)
          have O3 := Lib.hid O2
          have B3 := Lib.hid B2
          have hlow : Below wo.heap.size wo wr := XX.out
          have N3 := Lib.hid (N00.out.below B2)
          clear hown' hgrow hat O2 B2 hba hlow HOO O1 UU XX HNX
          go_wp2_with fail
          go_roundw
          case rel => exact ⟨k + 1, _, hlt, by go_num, N3, O3, B3⟩
          case measure => simp [intOf]; omega
    · obtain rfl : k = n.length := by omega
      have hoo : ORv W.heap.size W.heap.size wo (.slice va n.length vc) vs (turnL n) := OO.out
      obtain ⟨a, d, ss, he, hn, hi⟩ := hoo.net
      rw [nt_len hn, turn_len] at he
      injection he with he1 _ he3
      subst he1 he3
      go_wp2_with fail
      go_ret
      unfold NtP
      exact ⟨va, vc, rfl, ⟨ss, hn, hi⟩, BB.out⟩
end Go.Proofs.Ytaagpnepkjkfoaa.R6.T
