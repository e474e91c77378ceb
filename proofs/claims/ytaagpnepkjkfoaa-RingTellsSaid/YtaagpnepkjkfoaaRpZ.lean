/-
  Contract of the document's Longest.
-/
import Derived.Test.YtaagpnepkjkfoaaRpY
namespace Go.Proofs.Ytaagpnepkjkfoaa.R6.T
open Go.RowKit Go.Shelf Go.Proofs.Ytaagpnepkjkfoaa.B Go.Proofs.Ytaagpnepkjkfoaa.R6

/-- Does some chain of one way more end among those that were looked at? -/
def SomeP (n : NetL) (k i j : Nat) (s : Bool) : Prop := s = true ↔ ∃ x, x < n.length ∧ nB n k i j x = true
theorem SomeP.congr {n : NetL} {k i j i' j' : Nat} {s : Bool} (h : SomeP n k i j s) (e : ∀ x, x < n.length → nB n k i j x = nB n k i' j' x) : SomeP n k i' j' s := by
  unfold SomeP at h ⊢
  rw [h]
  exact ⟨fun ⟨x, h1, h2⟩ => ⟨x, h1, by rw [← e x h1]; exact h2⟩, fun ⟨x, h1, h2⟩ => ⟨x, h1, by rw [e x h1]; exact h2⟩⟩
theorem nB_skip {n : NetL} {k i j : Nat} (h : eB n k i = false ∨ decide (j ∈ wy n i) = false) (x : Nat) : nB n k i j x = nB n k i (j + 1) x := by
  rw [nB_step]
  rcases h with h | h <;> rw [h] <;> simp
theorem nB_hit {n : NetL} {k i j : Nat} (h1 : eB n k i = true) (h2 : decide (j ∈ wy n i) = true) (x : Nat) : (if x = j then true else nB n k i j x) = nB n k i (j + 1) x := by
  rw [nB_step, h1, h2]
  by_cases e : x = j
  · rw [if_pos e, e]; simp
  · rw [if_neg e, decide_eq_false e]; simp

set_option maxRecDepth 100000 in
set_option maxHeartbeats 8000000 in
theorem longest_doc (W : World) (A : Option Addr) (c : Nat) (n : NetL) (hn : Nt W A n) (hs : Small n) :
    Calls Try.prog 12 #[.slice A n.length c] W fun e w' => e = .returned (.tuple #[.int .i64 (longI n), .int .i64 (ordE n)]) ∧ Below W.heap.size W w' := by
  have hl24 := hs.l
  have hN0 : (0 : Int) ≤ (n.length : Int) := Int.natCast_nonneg _
  have HR := Lib.hid hs.r
  have HC := order_doc W A c n hn hs
  have NN0 := Lib.hid hn
  clear hn
  cases hl : leadsB n with
  | true =>
    have HE : Hid (ordE n = 7 ∧ longI n = 0) := Lib.hid (by unfold ordE longI; rw [hl]; exact ⟨rfl, rfl⟩)
    rw [HE.out.1] at HC
    have HC' := Lib.hid HC
    clear HC hl
    rw [HE.out.1, HE.out.2]
    clear HE
    go_enter Try.func12, Try.ntmps12
    go_wp2_with fail
    refine HC'.out.mono ?_
    rintro e w1 ⟨a, k, rfl, _, hb⟩
    clear HC'
    generalize (ordI n).length = z at *
    go_wp2_with fail
    go_ret2
    exact ⟨rfl, hb⟩
  | false =>
    have HE : Hid (ordE n = 0 ∧ longI n = longL n) := Lib.hid (by unfold ordE longI; rw [hl]; exact ⟨rfl, rfl⟩)
    have HAC := Lib.hid (leadsB_no hl)
    rw [HE.out.1] at HC
    have HC' := Lib.hid HC
    clear HC hl
    rw [HE.out.1, HE.out.2]
    clear HE
    go_enter Try.func12, Try.ntmps12
    go_wp2_with fail
    refine HC'.out.mono ?_
    rintro e w1 ⟨a, k, rfl, _, hb⟩
    have B1 := Lib.hid hb
    have hz1 := hb.size
    clear HC' hb
    generalize (ordI n).length = z at *
    have hmk := make_bools n.length (by omega) w1
    have S0 := Lib.hid (rb_zero (w := w1) (N := n.length) (o := []) rfl)
    generalize ((List.replicate n.length false).map Value.bool).toArray = cs at *
    have S1 : Hid (Rb w1.heap.size n.length (fun j => decide (j < 0)) (w1.alloc (.cells cs 4))) := Lib.hid (S0.out.congr (fun j _ => by simp))
    have Y0 : Hid (Below W.heap.size W (w1.alloc (.cells cs 4))) := Lib.hid (B1.out.alloc hz1 _)
    clear S0 B1
    go_wp2_with fail
    go_loopw [7] (fun i wr => ∃ k : Nat, k ≤ n.length ∧ i = .int .i64 k ∧ Hid (Rb w1.heap.size n.length (fun j => decide (j < k)) wr) ∧ Hid (Below W.heap.size W wr)) (fun i _ => n.length - (intOf i).toNat)
    case atStart => exact ⟨0, Nat.zero_le _, rfl, S1, Y0⟩
    case round =>
      clear S1 Y0 hmk
      obtain ⟨k, hk, rfl, SS, BB⟩ := hrel
      by_cases hlt : k < n.length
      · have hk0 : (0 : Int) ≤ (k : Int) := Int.natCast_nonneg _
        have hk1 : (k : Int) < (n.length : Int) := by omega
        have ff := SS.out.frozen (j := k)
        have hc := SS.out.cell (j := k) hlt
        have S2 := Lib.hid ((SS.out.set (j := k) true).congr (k := fun j => decide (j < k + 1)) (fun j _ => by
          by_cases e : j = k
          · rw [if_pos e]; exact (decide_eq_true (by omega)).symm
          · rw [if_neg e, decide_eq_decide]; omega))
        have B2 := Lib.hid (BB.out.setCell (p := ⟨w1.heap.size, k, none⟩) (by show W.heap.size ≤ w1.heap.size; omega) (.bool true))
        clear SS BB
        go_wp2_with fail
        go_roundw
        case rel => exact ⟨k + 1, hlt, by go_num, S2, B2⟩
        case measure => simp [intOf]; omega
      · obtain rfl : k = n.length := by omega
        have E0 : Hid (Rb w1.heap.size n.length (eB n 0) wr) := Lib.hid (SS.out.congr (fun j hj => by rw [decide_eq_true hj]; rfl))
        have hb0 : W.heap.size ≤ w1.heap.size := by omega
        clear SS
        generalize w1.heap.size = b0 at *
        go_wp2_with fail
        go_loopw [6, 8] (fun ev mv wr => ∃ k b : Nat, k ≤ n.length ∧ ev = rowAt b n.length ∧ mv = .int .i64 k ∧ W.heap.size ≤ b ∧ Hid (Rb b n.length (eB n k) wr) ∧ Hid (k = 0 ∨ ∃ x, x < n.length ∧ eB n k x = true) ∧ Hid (Below W.heap.size W wr)) (fun _ mv _ => n.length + 1 - (intOf mv).toNat)
        case atStart => exact ⟨0, b0, Nat.zero_le _, rfl, rfl, hb0, E0, Lib.hid (.inl rfl), BB⟩
        case round =>
          clear E0 BB hb0
          obtain ⟨k, b, hk, rfl, rfl, hWb, EE, GG, BB⟩ := hrel
          obtain ⟨wo, rfl⟩ : ∃ wo, wo = wr := ⟨wr, rfl⟩
          have hk0 : (0 : Int) ≤ (k : Int) := Int.natCast_nonneg _
          have hk1 : (k : Int) ≤ (n.length : Int) := by omega
          have hbn := EE.out.lt
          have hWn := BB.out.size
          have hmk := make_bools n.length (by omega) wo
          have S0 := Lib.hid (rb_zero (w := wo) (N := n.length) (o := []) rfl)
          generalize ((List.replicate n.length false).map Value.bool).toArray = cs at *
          have S1 : Hid (Rb wo.heap.size n.length (nB n k 0 0) (wo.alloc (.cells cs 4))) := Lib.hid (S0.out.congr (fun j _ => by rw [nB_zero]; simp))
          have E1 : Hid (Rb b n.length (eB n k) (wo.alloc (.cells cs 4))) := Lib.hid (EE.out.keep (Below.heap_alloc _ _ _ hbn))
          have X1 : Hid (Below W.heap.size W (wo.alloc (.cells cs 4))) := Lib.hid (BB.out.alloc hWn _)
          have P1 : Hid (SomeP n k 0 0 false) := Lib.hid ⟨fun h => (by cases h), fun ⟨x, _, h⟩ => by rw [nB_zero] at h; cases h⟩
          clear S0 EE BB
          go_wp2_with fail
          generalize wo.heap.size = nb at *
          go_loopw [10, 11] (fun sv i wx => ∃ (q : Nat) (s : Bool), q ≤ n.length ∧ i = .int .i64 q ∧ sv = .bool s ∧ Hid (SomeP n k q 0 s) ∧ Hid (Rb nb n.length (nB n k q 0) wx) ∧ Hid (Rb b n.length (eB n k) wx) ∧ Hid (Below W.heap.size W wx)) (fun _ i _ => n.length - (intOf i).toNat)
          case atStart => exact ⟨0, false, Nat.zero_le _, rfl, rfl, P1, S1, E1, X1⟩
          case round =>
            clear P1 S1 E1 X1 hmk
            obtain ⟨q, s, hq, rfl, rfl, PP, SS, EE, BB⟩ := hrel
            by_cases hqt : q < n.length
            · have hq0 : (0 : Int) ≤ (q : Int) := Int.natCast_nonneg _
              have hq1 : (q : Int) < (n.length : Int) := by omega
              go_wp2_with fail
              go_loopw [10, 12] (fun sv j wx => ∃ (m : Nat) (s : Bool), m ≤ n.length ∧ j = .int .i64 m ∧ sv = .bool s ∧ Hid (SomeP n k q m s) ∧ Hid (Rb nb n.length (nB n k q m) wx) ∧ Hid (Rb b n.length (eB n k) wx) ∧ Hid (Below W.heap.size W wx)) (fun _ j _ => n.length - (intOf j).toNat)
              case atStart => exact ⟨0, s, Nat.zero_le _, rfl, rfl, PP, SS, EE, BB⟩
              case round =>
                clear PP SS EE BB
                obtain ⟨m, s, hm, rfl, rfl, PP, SS, EE, BB⟩ := hrel
                obtain ⟨wi, rfl⟩ : ∃ wi, wi = wr := ⟨wr, rfl⟩
                by_cases hmt : m < n.length
                · have hm0 : (0 : Int) ≤ (m : Int) := Int.natCast_nonneg _
                  have hm1 : (m : Int) < (n.length : Int) := by omega
                  have he := EE.out.cell (j := q) hqt
                  cases hf : eB n k q with
                  | false =>
                    have P8 := Lib.hid (PP.out.congr (fun x _ => nB_skip (j := m) (.inl hf) x))
                    have S8 := Lib.hid (SS.out.congr (fun x _ => nB_skip (j := m) (.inl hf) x))
                    rw [hf] at he
                    clear hf PP SS
                    go_wp2_with fail
                    go_roundw
                    case rel => exact ⟨m + 1, _, hmt, by go_num, rfl, P8, S8, EE, BB⟩
                    case measure => simp [intOf]; omega
                  | true =>
                    have HC := leads_doc wi A c n (NN0.out.below BB.out) HR.out hqt hmt
                    cases hd : decide (m ∈ wy n q) with
                    | false =>
                      have P8 := Lib.hid (PP.out.congr (fun x _ => nB_skip (j := m) (.inr hd) x))
                      have S8 := Lib.hid (SS.out.congr (fun x _ => nB_skip (j := m) (.inr hd) x))
                      rw [hd] at HC
                      rw [hf] at he
                      have HC' := Lib.hid HC
                      clear HC hf hd PP SS
                      go_wp2_with fail
                      refine HC'.out.mono ?_
                      rintro e w' ⟨rfl, hww⟩
                      have hww' := hww.symm
                      subst hww'
                      clear HC' hww
                      go_wp2_with fail
                      go_roundw
                      case rel => exact ⟨m + 1, _, hmt, by go_num, rfl, P8, S8, EE, BB⟩
                      case measure => simp [intOf]; omega
                    | true =>
                      have P8 : Hid (SomeP n k q (m + 1) true) := Lib.hid ⟨fun _ => ⟨m, hmt, by rw [← nB_hit hf hd, if_pos rfl]⟩, fun _ => rfl⟩
                      have S8 := Lib.hid ((SS.out.set (j := m) true).congr (fun x _ => nB_hit hf hd x))
                      have E8 := Lib.hid (EE.out.keep (W' := wi.setCell ⟨nb, m, none⟩ (.bool true)) (blk_other (by omega)))
                      have B8 := Lib.hid (BB.out.setCell (p := ⟨nb, m, none⟩) (by show W.heap.size ≤ nb; omega) (.bool true))
                      have ff := SS.out.frozen (j := m)
                      have hc := SS.out.cell (j := m) hmt
                      rw [hd] at HC
                      rw [hf] at he
                      have HC' := Lib.hid HC
                      clear HC hf hd PP SS EE BB
                      go_wp2_with fail
                      refine HC'.out.mono ?_
                      rintro e w' ⟨rfl, hww⟩
                      have hww' := hww.symm
                      subst hww'
                      clear HC' hww
                      go_wp2_with fail
                      go_roundw
                      case rel => exact ⟨m + 1, _, hmt, by go_num, rfl, P8, S8, E8, B8⟩
                      case measure => simp [intOf]; omega
                · obtain rfl : m = n.length := by omega
                  have P8 := Lib.hid (PP.out.congr (fun x hx => nB_row hx))
                  have S8 := Lib.hid (SS.out.congr (fun x hx => nB_row hx))
                  clear PP SS
                  go_wp2_with fail
                  go_roundw
                  case rel => exact ⟨q + 1, s, hqt, by go_num, rfl, P8, S8, EE, BB⟩
                  case measure => simp [intOf]; omega
            · obtain rfl : q = n.length := by omega
              cases s with
              | false =>
                have HF : Hid (longL n = (k : Int)) := Lib.hid (long_found HAC.out (fun x hx => by
                  cases h : eB n (k + 1) x with
                  | false => rfl
                  | true => exact absurd (PP.out.2 ⟨x, hx, by rw [nB_all]; exact h⟩) (by decide)) GG.out)
                clear PP SS EE GG
                go_wp2_with fail
                go_ret2
                exact ⟨by rw [HF.out]; rfl, BB.out⟩
              | true =>
                obtain ⟨x, hx, hxe⟩ := PP.out.1 rfl
                rw [nB_all] at hxe
                have hks := long_small HAC.out hx hxe
                have G8 : Hid (k + 1 = 0 ∨ ∃ x, x < n.length ∧ eB n (k + 1) x = true) := Lib.hid (.inr ⟨x, hx, hxe⟩)
                have S8 : Hid (Rb nb n.length (eB n (k + 1)) wr) := Lib.hid (SS.out.congr (fun x _ => nB_all))
                clear PP SS EE GG hx hxe
                go_wp2_with fail
                go_roundw
                case rel => exact ⟨k + 1, nb, by omega, rfl, by go_num, by omega, S8, G8, BB⟩
                case measure => simp [intOf]; omega
end Go.Proofs.Ytaagpnepkjkfoaa.R6.T
