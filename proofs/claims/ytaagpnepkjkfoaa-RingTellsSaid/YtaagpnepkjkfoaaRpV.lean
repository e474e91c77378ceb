/-
  Contracts of the document's leads and Table.
-/
import Derived.Test.YtaagpnepkjkfoaaRpU
import Derived.Test.YtaagpnepkjkfoaaRoU
import Derived.StillTailTactics
namespace Go.Proofs.Ytaagpnepkjkfoaa.R6.T
open Go.RowKit Go.Shelf Go.Proofs.Ytaagpnepkjkfoaa.B Go.Proofs.Ytaagpnepkjkfoaa.R6

set_option maxHeartbeats 2000000 in
theorem leads_doc (W : World) (A : Option Addr) (c : Nat) (n : NetL) (hn : Nt W A n) (hr : ∀ l ∈ n, l.length ≤ 60) {a b : Nat} (ha : a < n.length) (hb : b < n.length) :
    Calls Try.prog 45 #[.slice A n.length c, .int .i64 (a : Int), .int .i64 (b : Int)] W fun e w' => e = .returned (.bool (decide (b ∈ wy n a))) ∧ w' = W := by
  obtain ⟨b0, off0, ra, rc, rfl, hb0, hc0, hrow⟩ := nt_at hn ha
  have hL60 : n[a]!.length ≤ 60 := hr _ (Go.Proofs.Ytaagpnepkjkfoaa.B.mem_at ha)
  have HM : Hid (b ∈ wy n a ↔ (b : Int) ∈ n[a]!) := Lib.hid (wy_mem.trans ⟨fun h => h.1, fun h => ⟨h, hb⟩⟩)
  have HROW := Lib.hid hrow
  have ha0 : (0 : Int) ≤ (a : Int) := Int.natCast_nonneg _
  have ha1 : (a : Int) < (n.length : Int) := by omega
  clear hn hr hrow
  generalize n[a]! = L at *
  go_enter Try.func45, Try.ntmps45
  go_wp2_with fail
  go_loopw [7] (fun i wr => ∃ k : Nat, k ≤ L.length ∧ i = .int .i64 k ∧ Hid (∀ j, j < k → L[j]! ≠ (b : Int)) ∧ wr = W) (fun i _ => L.length - (intOf i).toNat)
  case atStart => exact ⟨0, Nat.zero_le _, rfl, fun j hj => absurd hj (Nat.not_lt_zero _), rfl⟩
  case round =>
    obtain ⟨k, hk, rfl, HN, rfl⟩ := hrel
    by_cases hlt : k < L.length
    · have hk0 : (0 : Int) ≤ (k : Int) := Int.natCast_nonneg _
      have hk1 : (k : Int) < (L.length : Int) := by omega
      obtain ⟨b1, off1, rfl, hb1, hc1⟩ := row_at HROW.out hlt
      by_cases he : L[k]! = (b : Int)
      · have hq : (L[k]! == (b : Int)) = true := by rw [he]; exact beq_self_eq_true _
        have HF : Hid (decide (b ∈ wy n a) = true) := Lib.hid (decide_eq_true (HM.out.2 (he ▸ Go.Proofs.Ytaagpnepkjkfoaa.B.mem_at hlt)))
        clear HM HN he
        generalize L[k]! = x at *
        go_wp2_with fail
        go_ret
        exact ⟨ret_bool HF.out.symm, rfl⟩
      · have hq : (L[k]! == (b : Int)) = false := by rw [beq_eq_false_iff_ne]; exact he
        have HN' : Hid (∀ j, j < k + 1 → L[j]! ≠ (b : Int)) := Lib.hid (fun j hj => by
          by_cases e : j = k
          · rw [e]; exact he
          · exact HN.out j (by omega))
        clear HN he
        generalize L[k]! = x at *
        go_wp2_with fail
        go_roundw
        case rel => exact ⟨k + 1, hlt, by go_num, HN', trivial⟩
        case measure => simp [intOf]; omega
    · obtain rfl : k = L.length := by omega
      have HF : Hid (decide (b ∈ wy n a) = false) := Lib.hid (decide_eq_false (fun h => by
        obtain ⟨j, hj, e⟩ := List.getElem_of_mem (HM.out.1 h)
        exact HN.out j hj (by rw [getElem!_pos L j hj]; exact e)))
      clear HM HN
      go_wp2_with fail
      go_ret
      exact ⟨ret_bool HF.out.symm, rfl⟩

/-! ### Table -/
theorem own_emp {w : World} {b B z : Nat} {T : TypeId} (h : w.heap[b]? = some (.cells #[] T (0, 0))) (hB : B ≤ b) : w.ownsRow B T z (.slice (some ⟨b, 0, none⟩) 0 0) 0 [] :=
  ⟨by simp, .inr ⟨b, 0, #[], rfl, hB, h, Nat.le_refl _, Nat.zero_le _, by simp, by simp⟩⟩
/-- What stands while the table is made. -/
structure TI (w : World) (A : Option Addr) (n : NetL) (k : Nat) (v : Value) (bs : List Nat) (f : Nat → Nat → Bool) (W : World) : Prop where
  t : Nt W A n
  b : BT w.heap.size n.length k v bs f W
  l : Below w.heap.size w W
section
variable {w W W' : World} {A : Option Addr} {n : NetL} {k : Nat} {v : Value} {bs : List Nat} {f g : Nat → Nat → Bool}
theorem TI.congr (h : TI w A n k v bs f W) (e : ∀ i j, i < k → j < n.length → f i j = g i j) : TI w A n k v bs g W := ⟨h.t, h.b.congr e, h.l⟩
theorem TI.call (h : TI w A n k v bs f W) (hb : Below W.heap.size W W') : TI w A n k v bs f W' := ⟨h.t.below hb, h.b.below hb, h.l.trans (hb.mono h.l.size)⟩
theorem TI.set (h : TI w A n k v bs f W) (hn : Nt w A n) {i j : Nat} (hi : i < k) (x : Bool) : TI w A n k v bs (fun a b => if a = i ∧ b = j then x else f a b) (W.setCell ⟨bs[i]!, j, none⟩ (.bool x)) := by
  have he : Ext (fun q => q = bs[i]!) W (W.setCell ⟨bs[i]!, j, none⟩ (.bool x)) := Ext.set (F := fun q => q = bs[i]!) W _ rfl
  have hb := he.below h.l (fun q hq => by have := h.b.ge i hi; omega) h.l.size
  exact ⟨hn.below hb, h.b.set hi x, hb⟩
theorem TI.drew (h : TI w A n k v bs f W) (m : Nat) : TI w A n k v bs f (W.drewN m) := h.call (below_draws (Below.refl _ _) m)
end
/-- The ways of the rows ahead of k; of row k those of l. -/
def fL (n : NetL) (k : Nat) (l : List Int) (a b : Nat) : Bool := if a = k then decide (b ∈ wyR n.length l) else decide (b ∈ wy n a)
theorem fL_step {n : NetL} {k m x : Nat} {L : List Int} (hm : m < L.length) (hx : L[m]! = (x : Int)) (hxn : x < n.length) (a b : Nat) : (if a = k ∧ b = x then true else fL n k (L.take m) a b) = fL n k (L.take (m + 1)) a b := by
  have hw : wyR n.length (L.take (m + 1)) = wyR n.length (L.take m) ++ [x] := by
    rw [wyR_next hm, hx, if_pos ⟨Int.natCast_nonneg _, by omega⟩, Int.toNat_natCast]
  unfold fL
  rw [hw]
  by_cases ha : a = k
  · by_cases hb : b = x
    · rw [if_pos ⟨ha, hb⟩, if_pos ha]; exact (decide_eq_true (by simp [hb])).symm
    · rw [if_neg (fun h => hb h.2), if_pos ha, if_pos ha, decide_eq_decide]; simp [hb]
  · rw [if_neg (fun h => ha h.1), if_neg ha, if_neg ha]
theorem fL_skip {n : NetL} {k m : Nat} {L : List Int} (hm : m < L.length) (hx : L[m]! < 0 ∨ (n.length : Int) ≤ L[m]!) (a b : Nat) : fL n k (L.take m) a b = fL n k (L.take (m + 1)) a b := by
  have hw : wyR n.length (L.take (m + 1)) = wyR n.length (L.take m) := by
    rw [wyR_next hm, if_neg (show ¬ (0 ≤ L[m]! ∧ L[m]! < (n.length : Int)) by omega), List.append_nil]
  unfold fL
  rw [hw]
theorem fL_end (n : NetL) (k a b : Nat) : fL n k n[k]! a b = wB n 0 a b := by
  unfold fL
  show _ = decide (b ∈ wy n a)
  by_cases ha : a = k
  · rw [if_pos ha, ha, wy_R]
  · rw [if_neg ha]
/-- Between two cells of the walk over the points: the rows ahead of i, and of row i the first j. -/
def mB (n : NetL) (k i j a b : Nat) : Bool := if a < i ∨ (a = i ∧ b < j) then wB n (k + 1) a b else wB n k a b
theorem mB_zero (n : NetL) (k a b : Nat) : mB n k 0 0 a b = wB n k a b := by unfold mB; rw [if_neg (by omega)]
theorem mB_row {n : NetL} {k i a b : Nat} (hb : b < n.length) : mB n k i n.length a b = mB n k (i + 1) 0 a b := by
  unfold mB
  by_cases h : a < i ∨ (a = i ∧ b < n.length)
  · rw [if_pos h, if_pos (by omega)]
  · rw [if_neg h, if_neg (by omega)]
theorem mB_all {n : NetL} {k a b : Nat} (ha : a < n.length) : mB n k n.length 0 a b = wB n (k + 1) a b := by unfold mB; rw [if_pos (.inl ha)]
theorem mB_skip {n : NetL} {k i : Nat} (h : wB n k i k = false) (a b : Nat) : mB n k i 0 a b = mB n k (i + 1) 0 a b := by
  unfold mB
  by_cases e : a = i
  · subst e; rw [if_neg (by omega), if_pos (by omega), wB_no h]
  · by_cases e2 : a < i
    · rw [if_pos (by omega), if_pos (by omega)]
    · rw [if_neg (by omega), if_neg (by omega)]
theorem mB_col (n : NetL) (k i j a : Nat) : mB n k i j a k = wB n k a k := by
  unfold mB
  by_cases h : a < i ∨ (a = i ∧ k < j)
  · rw [if_pos h, wB_col]
  · rw [if_neg h]
theorem mB_krow (n : NetL) (k i j b : Nat) : mB n k i j k b = wB n k k b := by
  unfold mB
  by_cases h : k < i ∨ (k = i ∧ b < j)
  · rw [if_pos h, wB_row]
  · rw [if_neg h]
theorem mB_here (n : NetL) (k i j : Nat) : mB n k i j i j = wB n k i j := by unfold mB; rw [if_neg (by omega)]
theorem mB_step {n : NetL} {k i j : Nat} (h : wB n k i k = true) (a b : Nat) : (if a = i ∧ b = j then (wB n k i j || wB n k k j) else mB n k i j a b) = mB n k i (j + 1) a b := by
  by_cases e : a = i ∧ b = j
  · obtain ⟨rfl, rfl⟩ := e
    rw [if_pos ⟨rfl, rfl⟩]
    unfold mB
    rw [if_pos (by omega), wB_yes h]
  · rw [if_neg e]
    unfold mB
    by_cases h1 : a < i ∨ (a = i ∧ b < j)
    · rw [if_pos h1, if_pos (by omega)]
    · rw [if_neg h1, if_neg (by omega)]

set_option maxRecDepth 100000 in
set_option maxHeartbeats 8000000 in
theorem table_doc (W : World) (A : Option Addr) (c : Nat) (n : NetL) (hn : Nt W A n) (hs : Small n) :
    Calls Try.prog 44 #[.slice A n.length c] W fun e w' => ∃ v bs, e = .returned v ∧ BT W.heap.size n.length n.length v bs (tB n) w' ∧ Below W.heap.size W w' := by
  obtain ⟨j0, hj0, hj1, hj2, hj3⟩ := info_parts info_brow
  have NN0 := Lib.hid hn
  have hl24 := hs.l
  have hN0 : (0 : Int) ≤ (n.length : Int) := Int.natCast_nonneg _
  have HR := Lib.hid hs.r
  clear hn
  go_enter Try.func44, Try.ntmps44
  go_wp2_with fail
  have T0 : Hid (TI W A n 0 (.slice (some ⟨W.heap.size, 0, none⟩) 0 0) [] (wB n 0) (W.alloc (.cells #[] 72))) := Lib.hid ⟨NN0.out.below ((Below.refl _ _).alloc (Nat.le_refl _) _), ⟨rfl, own_emp (heap_new _ _) (Nat.le_refl _), fun i hi => by omega, fun i hi => by omega, fun i j hi => by omega⟩, (Below.refl _ _).alloc (Nat.le_refl _) _⟩
  go_loopw [3, 4] (fun v i wr => ∃ (k : Nat) (bs : List Nat), k ≤ n.length ∧ i = .int .i64 k ∧ Hid (TI W A n k v bs (wB n 0) wr)) (fun _ i _ => n.length - (intOf i).toNat)
  case atStart => exact ⟨0, [], Nat.zero_le _, rfl, T0⟩
  case round =>
    clear T0
    obtain ⟨k, bs, hk, rfl, TT⟩ := hrel
    by_cases hlt : k < n.length
    · have hk0 : (0 : Int) ≤ (k : Int) := Int.natCast_nonneg _
      have hk1 : (k : Int) < (n.length : Int) := by omega
      obtain ⟨va, vc, rfl⟩ := own_slice TT.out.b.out
      have hz := TT.out.l.size
      have hmk := make_bools n.length (by omega) wr
      obtain ⟨cs, hcs⟩ : ∃ cs, cs = ((List.replicate n.length false).map Value.bool).toArray := ⟨_, rfl⟩
      rw [← hcs] at hmk
      have HCS := Lib.hid hcs
      clear hcs
      go_wp2_with (at_builtin; refine wpList_append_own_at _ rfl (.tmp 17) (.tmp 21) 70 rfl W.heap.size 72 j0 _ 1 24 Try.underlying70 hj0 hj1 hj2 hj3 rfl (by omega) _ _ _ rfl ((TT.out.b.out.alloc _).alloc _) ⟨wr.heap.size + 1, 0, none⟩ 1 1 [rowAt wr.heap.size n.length] rfl rfl ?c1 ?c2 ?c3 ?c4 ?c5 ?_)
      case c1 =>
        intro j u hj
        have hn := heap_new (wr.alloc (.cells cs 4)) (.cells #[rowAt wr.heap.size n.length] 72)
        rw [World.size_alloc] at hn
        match j, hj with
        | 0, hj => cases hj; exact cell_blk hn rfl
      case c2 => first | rfl | (intro u hu; simp at hu; rw [hu]; rfl)
      case c3 => unfold maxLen; omega
      case c4 => omega
      case c5 => first | omega | (rw [World.size_alloc, World.size_alloc]; omega)
      intro v1 w4 hown' hgrow _ hat

      have hz4 : wr.heap.size + 1 + 1 ≤ w4.heap.size := by have := hgrow.size; rw [World.size_alloc, World.size_alloc] at this; exact this
      have hba : Below wr.heap.size wr ((wr.alloc (.cells cs 4)).alloc (.cells #[rowAt wr.heap.size n.length] 72)) := ((Below.refl _ _).alloc (Nat.le_refl _) _).alloc (by rw [World.size_alloc]; omega) _
      have hTa := TT.out.call hba
      have hrb : Rb wr.heap.size n.length (fL n k [] k) ((wr.alloc (.cells cs 4)).alloc (.cells #[rowAt wr.heap.size n.length] 72)) := by
        unfold Rb
        refine (heap_old (by rw [World.size_alloc]; omega) (heap_new _ _)).trans ?_
        rw [HCS.out, rowV_zero]
        have : (fun _ => false : Nat → Bool) = fL n k [] k := by funext b; unfold fL; rw [if_pos rfl]; rfl
        rw [this]
      have hTb := hTa.congr (g := fL n k []) (fun i j hi _ => by unfold fL; rw [if_neg (by omega)]; rfl)
      have hp := hTb.b.push hrb hz (fun i hi e => by have := (TT.out.b.inn i hi).lt; omega) hown' hgrow
      have hb4 : Below W.heap.size W w4 := hTa.l.grown hgrow (by rw [World.size_alloc, World.size_alloc]; omega) (fun j hj => (own_block TT.out.b.out hj).1)
      have T4 : Hid (TI W A n (k + 1) v1 (bs ++ [wr.heap.size]) (fL n k []) w4) := Lib.hid ⟨NN0.out.below hb4, hp, hb4⟩
      obtain ⟨g, gc, hve, _, _, _⟩ := T4.out.b.at_ (i := k) (by omega)
      subst hve
      clear hown' hgrow hat hTa hrb hTb hp hb4 hba TT HCS hmk hz4
      generalize bs ++ [wr.heap.size] = bt at *
      obtain ⟨b0, off0, ra, rc, rfl, hb0, hc0, hrow⟩ := nt_at NN0.out hlt
      have hL60 : n[k]!.length ≤ 60 := HR.out _ (Go.Proofs.Ytaagpnepkjkfoaa.B.mem_at hlt)
      have HROW := Lib.hid hrow
      have HC0 := Lib.hid hc0
      have HEND : Hid (∀ a b, fL n k n[k]! a b = wB n 0 a b) := Lib.hid (fL_end n k)
      have T5 : Hid (TI W (some ⟨b0, off0, none⟩) n (k + 1) (.slice (some ⟨g, 0, none⟩) (k + 1) gc) bt (fL n k (n[k]!.take 0)) w4) := T4
      clear T4 hrow hc0
      generalize n[k]! = L at *
      go_wp2_with fail
      go_loopw [5] (fun i wv => ∃ m : Nat, m ≤ L.length ∧ i = .int .i64 m ∧ Hid (TI W (some ⟨b0, off0, none⟩) n (k + 1) (.slice (some ⟨g, 0, none⟩) (k + 1) gc) bt (fL n k (L.take m)) wv)) (fun i _ => L.length - (intOf i).toNat)
      case atStart => exact ⟨0, Nat.zero_le _, rfl, T5⟩
      case round =>
        clear T5
        obtain ⟨m, hm, rfl, TL⟩ := hrel
        have hc0 := HC0.out
        rw [← TL.out.l.cell (p := ⟨b0, _, none⟩) hb0] at hc0
        by_cases hmt : m < L.length
        · have hm0 : (0 : Int) ≤ (m : Int) := Int.natCast_nonneg _
          have hm1 : (m : Int) < (L.length : Int) := by omega
          obtain ⟨b1, off1, rfl, hb1, hc1⟩ := row_at HROW.out hmt
          rw [← TL.out.l.cell (p := ⟨b1, _, none⟩) hb1] at hc1
          obtain ⟨g', gc', hve, _, _, hcg⟩ := TL.out.b.at_ (i := k) (by omega)
          cases hve
          by_cases h0 : 0 ≤ L[m]!
          · obtain ⟨x, hx⟩ := Int.eq_ofNat_of_zero_le h0
            by_cases hxn : x < n.length
            · have ff := TL.out.b.frozen x (i := k) (by omega)
              have fc := TL.out.b.bit (i := k) (j := x) (by omega) hxn
              have hP := TL.out.set NN0.out (i := k) (j := x) (by omega) true
              have P8 := Lib.hid (hP.congr (g := fL n k (L.take (m + 1))) (fun a b _ _ => fL_step hmt hx hxn a b))
              rw [hx] at hc1
              have hx0 : (0 : Int) ≤ (x : Int) := Int.natCast_nonneg _
              have hx1 : (x : Int) < (n.length : Int) := by omega
              clear hP TL h0 hx
              generalize bt[k]! = z at *
              generalize fL n k (L.take m) k x = y at *
              go_wp2_with fail
              go_roundw
              case rel => exact ⟨m + 1, hmt, by go_num, P8⟩
              case measure => simp [intOf]; omega
            · have P8 := Lib.hid (TL.out.congr (g := fL n k (L.take (m + 1))) (fun a b _ _ => fL_skip hmt (by omega) a b))
              rw [hx] at hc1
              have hx0 : (0 : Int) ≤ (x : Int) := Int.natCast_nonneg _
              have hx1 : ¬ ((x : Int) < (n.length : Int)) := by omega
              clear TL h0 hx hcg
              go_wp2_with fail
              go_roundw
              case rel => exact ⟨m + 1, hmt, by go_num, P8⟩
              case measure => simp [intOf]; omega
          · have P8 := Lib.hid (TL.out.congr (g := fL n k (L.take (m + 1))) (fun a b _ _ => fL_skip hmt (by omega) a b))
            generalize L[m]! = x at *
            have hx1 : ¬ (x ≥ 0) := by omega
            clear TL hcg
            go_wp2_with fail
            go_roundw
            case rel => exact ⟨m + 1, hmt, by go_num, P8⟩
            case measure => simp [intOf]; omega
        · obtain rfl : m = L.length := by omega
          rw [List.take_length] at TL
          have P9 := Lib.hid (TL.out.congr (g := wB n 0) (fun a b _ _ => HEND.out a b))
          clear TL
          go_wp2_with fail
          go_roundw
          case rel => exact ⟨k + 1, bt, hlt, by go_num, P9⟩
          case measure => simp [intOf]; omega
    · obtain rfl : k = n.length := by omega
      obtain ⟨va, vc, rfl⟩ := own_slice TT.out.b.out
      have HN := NN0
      go_wp2_with fail
      go_loopw [7] (fun i wx => ∃ q : Nat, q ≤ n.length ∧ i = .int .i64 q ∧ Hid (TI W A n n.length (.slice va n.length vc) bs (wB n q) wx)) (fun i _ => n.length - (intOf i).toNat)
      case atStart => exact ⟨0, Nat.zero_le _, rfl, TT⟩
      case round =>
        clear TT
        obtain ⟨q, hq, rfl, TT⟩ := hrel
        by_cases hqt : q < n.length
        · have hq0 : (0 : Int) ≤ (q : Int) := Int.natCast_nonneg _
          have hq1 : (q : Int) < (n.length : Int) := by omega
          have T7 := Lib.hid (TT.out.congr (g := mB n q 0 0) (fun a b _ _ => (mB_zero n q a b).symm))
          clear TT
          go_wp2_with fail
          go_loopw [8] (fun i wx => ∃ r : Nat, r ≤ n.length ∧ i = .int .i64 r ∧ Hid (TI W A n n.length (.slice va n.length vc) bs (mB n q r 0) wx)) (fun i _ => n.length - (intOf i).toNat)
          case atStart => exact ⟨0, Nat.zero_le _, rfl, T7⟩
          case round =>
            clear T7
            obtain ⟨r, hr, rfl, TR⟩ := hrel
            by_cases hrt : r < n.length
            · have hr0 : (0 : Int) ≤ (r : Int) := Int.natCast_nonneg _
              have hr1 : (r : Int) < (n.length : Int) := by omega
              go_wp2_with fail
              go_loopw [9] (fun i wx => ∃ j : Nat, j ≤ n.length ∧ i = .int .i64 j ∧ (wB n q r q = false → j = 0) ∧ Hid (TI W A n n.length (.slice va n.length vc) bs (mB n q r j) wx)) (fun i _ => n.length - (intOf i).toNat)
              case atStart => exact ⟨0, Nat.zero_le _, rfl, fun _ => rfl, TR⟩
              case round =>
                clear TR
                obtain ⟨j, hj, rfl, hj0, TJ⟩ := hrel
                obtain ⟨g, gc, hve, _, _, hcr⟩ := TJ.out.b.at_ (i := r) hrt
                cases hve
                obtain ⟨g, gc, hve, _, _, hcq⟩ := TJ.out.b.at_ (i := q) hqt
                cases hve
                by_cases hjt : j < n.length
                · have hjj0 : (0 : Int) ≤ (j : Int) := Int.natCast_nonneg _
                  have hj1 : (j : Int) < (n.length : Int) := by omega
                  have hk := TJ.out.b.bit (i := r) (j := q) hrt hqt
                  rw [mB_col] at hk
                  by_cases hw : wB n q r q = true
                  · have ha := TJ.out.b.bit (i := r) (j := j) hrt hjt
                    have hb := TJ.out.b.bit (i := q) (j := j) hqt hjt
                    have ff := TJ.out.b.frozen j (i := r) hrt
                    rw [mB_here] at ha
                    rw [mB_krow] at hb
                    rw [hw] at hk
                    have P8 := Lib.hid (((TJ.out.set NN0.out (i := r) (j := j) hrt (wB n q r j || wB n q q j)).drew 1).congr (g := mB n q r (j + 1)) (fun a b _ _ => mB_step hw a b))
                    have HW := Lib.hid hw
                    clear TJ hj0 hw
                    generalize bs[r]! = z at *
                    generalize bs[q]! = y at *
                    generalize wB n q r j = u1 at *
                    generalize wB n q q j = u2 at *
                    obtain hu | hu : u1 = true ∨ u1 = false := by cases u1 <;> simp
                    · rw [hu, Bool.true_or] at P8
                      have HU := Lib.hid hu
                      clear hu
                      go_wp2_with fail
                      refine wp_region_still_tail 22 (by kernel_rfl) (by kernel_rfl) ?_
                      simp only [List.take_succ_cons, List.take_zero, List.drop_succ_cons, List.drop_zero]
                      iterate 13 still_step
                      iterate 7 (refine wpStill_step (fun K hK => ?_); have HK := Lib.hid hK; clear hK; refine skip_if (by have h := HU.out; subst h; simp [Region.wanted, yielded]) ?_; go_simp; refine HK.out _ ?_; clear HK K)
                      have hu := HU.out
                      subst hu
                      iterate 2 still_step
                      refine wpStill_nil ?_
                      go_wp2_with fail
                      go_roundw
                      case rel => exact ⟨j + 1, hjt, by go_num, (fun h => by rw [HW.out] at h; cases h), P8⟩
                      case measure => simp [intOf]; omega
                    · rw [hu, Bool.false_or] at P8
                      have HU := Lib.hid hu
                      clear hu
                      go_wp2_with fail
                      refine wp_region_still_tail 22 (by kernel_rfl) (by kernel_rfl) ?_
                      simp only [List.take_succ_cons, List.take_zero, List.drop_succ_cons, List.drop_zero]
                      iterate 13 still_step
                      iterate 7 (refine wpStill_step (fun K hK => ?_); have HK := Lib.hid hK; clear hK; refine take_if (by have h := HU.out; subst h; simp [Region.wanted, yielded]) ?_; go_simp; refine HK.out _ ?_; clear HK K)
                      have hu := HU.out
                      subst hu
                      iterate 2 still_step
                      refine wpStill_nil ?_
                      go_wp2_with fail
                      go_roundw
                      case rel => exact ⟨j + 1, hjt, by go_num, (fun h => by rw [HW.out] at h; cases h), P8⟩
                      case measure => simp [intOf]; omega
                  · have hwf : wB n q r q = false := by simpa using hw
                    obtain rfl : j = 0 := hj0 hwf
                    rw [hwf] at hk
                    have P9 := Lib.hid (TJ.out.congr (g := mB n q (r + 1) 0) (fun a b _ _ => mB_skip hwf a b))
                    clear TJ hj0 hw hwf hcq
                    generalize bs[r]! = z at *
                    go_wp2_with fail
                    go_roundw
                    case rel => exact ⟨r + 1, hrt, by go_num, P9⟩
                    case measure => simp [intOf]; omega
                · obtain rfl : j = n.length := by omega
                  have P9 := Lib.hid (TJ.out.congr (g := mB n q (r + 1) 0) (fun a b _ hb => mB_row hb))
                  clear TJ hj0 hcr hcq
                  go_wp2_with fail
                  go_roundw
                  case rel => exact ⟨r + 1, hrt, by go_num, P9⟩
                  case measure => simp [intOf]; omega
            · obtain rfl : r = n.length := by omega
              have P9 := Lib.hid (TR.out.congr (g := wB n (q + 1)) (fun a b ha _ => mB_all ha))
              clear TR
              go_wp2_with fail
              go_roundw
              case rel => exact ⟨q + 1, hqt, by go_num, P9⟩
              case measure => simp [intOf]; omega
        · obtain rfl : q = n.length := by omega
          go_wp2_with fail
          go_ret
          exact ⟨_, bs, rfl, TT.out.b, TT.out.l⟩
end Go.Proofs.Ytaagpnepkjkfoaa.R6.T
