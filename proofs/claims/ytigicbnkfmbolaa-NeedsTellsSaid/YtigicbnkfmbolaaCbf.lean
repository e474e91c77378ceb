/-
  A table of bools in memory, each row in a block of its own. Contracts of the document's leads and Table.
-/
import Derived.Test.YtigicbnkfmbolaaCah
import Derived.Test.YtigicbnkfmbolaaCbe
import Derived.StillTailTactics
namespace Go.Proofs.Ytigicbnkfmbolaa.R6.T
open Go.RowKit Go.Shelf Go.Proofs.Ytigicbnkfmbolaa.B Go.Proofs.Ytigicbnkfmbolaa.R6
/-- Where a net's points lie. -/
theorem nt_at {W : World} {A : Option Addr} {n : NetL} (h : Nt W A n) {k : Nat} (hk : k < n.length) : ∃ b off ra rc, A = some ⟨b, off, none⟩ ∧ b < W.heap.size ∧ W.cell? ⟨b, off + k, none⟩ = some (.slice ra n[k]!.length rc) ∧ Row W ra (n[k]!.map (Value.int .i64)) := by
  obtain ⟨rs, h1, h2⟩ := h
  have hl := nt_len h1
  obtain ⟨b, off, h3, h4, h5⟩ := h2.at_ (i := k) (by omega)
  have e : n[k]! = rs[k]!.l := by rw [← h1, net_at]
  exact ⟨b, off, _, _, h3, h4, by rw [e]; exact h5, by rw [e]; exact h2.row _ (Go.Proofs.Ytigicbnkfmbolaa.B.mem_at (by omega))⟩
abbrev rowV (N : Nat) (g : Nat → Bool) : List Value := (List.range N).map fun j => Value.bool (g j)
theorem rowV_at {N j : Nat} (g : Nat → Bool) (hj : j < N) : (rowV N g).toArray[j]? = some (.bool (g j)) := by
  rw [List.getElem?_toArray, List.getElem?_eq_getElem (by simpa using hj)]; simp
theorem rowV_set {N j : Nat} (g : Nat → Bool) (x : Bool) : (rowV N g).toArray.setIfInBounds j (.bool x) = (rowV N fun b => if b = j then x else g b).toArray := by
  rw [List.setIfInBounds_toArray]
  congr 1
  refine List.ext_getElem (by simp) (fun i h1 h2 => ?_)
  rw [List.getElem_set]
  simp only [List.getElem_map, List.getElem_range]
  by_cases e : j = i
  · subst e; simp
  · rw [if_neg e, if_neg (fun h => e h.symm)]
theorem rowV_congr {N : Nat} {g h : Nat → Bool} (e : ∀ j, j < N → g j = h j) : rowV N g = rowV N h := List.map_congr_left (fun j hj => by rw [e j (List.mem_range.1 hj)])
theorem rowV_zero (N : Nat) : (List.replicate N false).map Value.bool = rowV N fun _ => false := by
  refine List.ext_getElem (by simp) (fun i h1 h2 => ?_)
  simp
/-- A row of bools in a block of its own. -/
def Rb (b N : Nat) (g : Nat → Bool) (W : World) : Prop := W.heap[b]? = some (.cells (rowV N g).toArray 4 (0, 0))
theorem Rb.lt {b N : Nat} {g : Nat → Bool} {W : World} (h : Rb b N g W) : b < W.heap.size := blk_lt h
theorem Rb.cell {b N j : Nat} {g : Nat → Bool} {W : World} (h : Rb b N g W) (hj : j < N) : W.cell? ⟨b, j, none⟩ = some (.bool (g j)) := cell_blk h (rowV_at g hj)
theorem Rb.frozen {b N j : Nat} {g : Nat → Bool} {W : World} (h : Rb b N g W) : W.frozen? ⟨b, j, none⟩ = false := frozen_blk h
theorem Rb.set {b N j : Nat} {g : Nat → Bool} {W : World} (h : Rb b N g W) (x : Bool) : Rb b N (fun y => if y = j then x else g y) (W.setCell ⟨b, j, none⟩ (.bool x)) := by
  unfold Rb at h ⊢
  rw [blk_set h, rowV_set]
theorem Rb.congr {b N : Nat} {g k : Nat → Bool} {W : World} (h : Rb b N g W) (e : ∀ j, j < N → g j = k j) : Rb b N k W := by
  unfold Rb at h ⊢
  rw [h, rowV_congr e]
theorem Rb.keep {b N : Nat} {g : Nat → Bool} {W W' : World} (h : Rb b N g W) (e : W'.heap[b]? = W.heap[b]?) : Rb b N g W' := e.trans h
/-- A table in memory. -/
structure BT (B N k : Nat) (v : Value) (bs : List Nat) (f : Nat → Nat → Bool) (W : World) : Prop where
  lb : bs.length = k
  out : W.ownsRow B 69 1 v k (bs.map fun b => rowAt b N)
  ge : ∀ i : Nat, i < k → B ≤ bs[i]!
  inn : ∀ i : Nat, i < k → Rb bs[i]! N (f i) W
  dis : ∀ i j : Nat, i < k → j < k → bs[i]! = bs[j]! → i = j
section
variable {B N k : Nat} {v : Value} {bs : List Nat} {f : Nat → Nat → Bool} {W W' : World}
theorem BT.far (h : BT B N k v bs f W) {i : Nat} (hi : i < k) : v.ownBlock ≠ some bs[i]! := own_far h.out (h.inn i hi) (by decide)
theorem BT.keep (h : BT B N k v bs f W) (hk : ∀ q, q < W.heap.size → B ≤ q → W'.heap[q]? = W.heap[q]?) : BT B N k v bs f W' :=
  ⟨h.lb, own_keep h.out (fun q hq => hk q (own_block h.out hq).2 (own_block h.out hq).1), h.ge, fun i hi => (h.inn i hi).keep (hk _ (h.inn i hi).lt (h.ge i hi)), h.dis⟩
theorem BT.below (h : BT B N k v bs f W) (hb : Below W.heap.size W W') : BT B N k v bs f W' := h.keep (fun q hq _ => hb.block q hq)
theorem BT.congr {g : Nat → Nat → Bool} (h : BT B N k v bs f W) (e : ∀ i j, i < k → j < N → f i j = g i j) : BT B N k v bs g W :=
  ⟨h.lb, h.out, h.ge, fun i hi => (h.inn i hi).congr (fun j hj => e i j hi hj), h.dis⟩
theorem BT.set (h : BT B N k v bs f W) {i j : Nat} (hi : i < k) (x : Bool) : BT B N k v bs (fun a b => if a = i ∧ b = j then x else f a b) (W.setCell ⟨bs[i]!, j, none⟩ (.bool x)) := by
  refine ⟨h.lb, own_keep h.out (fun q hq => blk_other (fun e => h.far hi (by rw [← e]; exact hq))), h.ge, fun a ha => ?_, h.dis⟩
  by_cases e : a = i
  · subst e
    refine ((h.inn a ha).set x).congr (fun y _ => ?_)
    by_cases e2 : y = j
    · rw [if_pos e2, if_pos ⟨rfl, e2⟩]
    · rw [if_neg e2, if_neg (fun h => e2 h.2)]
  · refine ((h.inn a ha).keep (blk_other (fun e2 => e (h.dis a i ha hi e2)))).congr (fun y _ => ?_)
    rw [if_neg (fun h => e h.1)]
theorem BT.at_ (h : BT B N k v bs f W) {i : Nat} (hi : i < k) : ∃ g c, v = .slice (some ⟨g, 0, none⟩) k c ∧ g < W.heap.size ∧ B ≤ g ∧ W.cell? ⟨g, i, none⟩ = some (rowAt bs[i]! N) := by
  obtain ⟨g, c, rfl, h1, h2⟩ := own_head h.out (by omega)
  refine ⟨g, c, rfl, h2, h1, (h.out.cellAt i (by omega)).trans ?_⟩
  rw [List.getElem?_map, List.getElem?_eq_getElem (by rw [h.lb]; exact hi), getElem!_pos bs i (by rw [h.lb]; exact hi)]; rfl
theorem BT.bit (h : BT B N k v bs f W) {i j : Nat} (hi : i < k) (hj : j < N) : W.cell? ⟨bs[i]!, j, none⟩ = some (.bool (f i j)) := (h.inn i hi).cell hj
theorem BT.frozen (h : BT B N k v bs f W) {i : Nat} (j : Nat) (hi : i < k) : W.frozen? ⟨bs[i]!, j, none⟩ = false := (h.inn i hi).frozen
theorem BT.start (B N : Nat) (f : Nat → Nat → Bool) (W : World) : BT B N 0 (.slice none 0 0) [] f W := ⟨rfl, World.ownsRow_nil _ _ _ _, fun i hi => by omega, fun i hi => by omega, fun i j hi => by omega⟩
theorem BT.push {W1 : World} {v' : Value} {b : Nat} (h : BT B N k v bs f W) (hb : Rb b N (f k) W) (hB : B ≤ b) (hn : ∀ i : Nat, i < k → bs[i]! ≠ b)
    (ho : W1.ownsRow B 69 1 v' (k + 1) ((bs.map fun b => rowAt b N) ++ [rowAt b N])) (hg : W.grownBy W1 v.ownBlock) : BT B N (k + 1) v' (bs ++ [b]) f W1 := by
  have hold : ∀ i : Nat, i < k → (bs ++ [b])[i]! = bs[i]! := fun i hi => by
    rw [getElem!_pos _ i (by rw [List.length_append, h.lb]; omega), getElem!_pos bs i (by rw [h.lb]; exact hi), List.getElem_append_left (by rw [h.lb]; exact hi)]
  have hnew : (bs ++ [b])[k]! = b := by
    rw [getElem!_pos _ k (by rw [List.length_append, h.lb]; simp), List.getElem_append_right (by rw [h.lb]; exact Nat.le_refl _)]; simp [h.lb]
  have hfb : v.ownBlock ≠ some b := own_far h.out hb (by decide)
  refine ⟨by simp [h.lb], by rw [List.map_append]; exact ho, fun i hi => ?_, fun i hi => ?_, fun i j hi hj e => ?_⟩
  · by_cases e : i < k
    · rw [hold i e]; exact h.ge i e
    · obtain rfl : i = k := by omega
      rw [hnew]; exact hB
  · by_cases e : i < k
    · rw [hold i e]; exact (h.inn i e).keep (hg.block _ (h.inn i e).lt (fun e' => h.far e e'.symm))
    · obtain rfl : i = k := by omega
      rw [hnew]; exact hb.keep (hg.block _ hb.lt (fun e' => hfb e'.symm))
  · by_cases e1 : i < k
    · by_cases e2 : j < k
      · rw [hold i e1, hold j e2] at e; exact h.dis i j e1 e2 e
      · obtain rfl : j = k := by omega
        rw [hold i e1, hnew] at e; exact absurd e (hn i e1)
    · obtain rfl : i = k := by omega
      by_cases e2 : j < i
      · rw [hold j e2, hnew] at e; exact absurd e.symm (hn j e2)
      · omega
end
theorem info_brow : (Try.prog.info? 69).map (fun i => (i.zero, i.size, i.bytes)) = some (some (.slice none 0 0), 1, 24) := by kernel_rfl
end Go.Proofs.Ytigicbnkfmbolaa.R6.T

namespace Go.Proofs.Ytigicbnkfmbolaa.R6.T
open Go.RowKit Go.Shelf Go.Proofs.Ytigicbnkfmbolaa.B Go.Proofs.Ytigicbnkfmbolaa.R6
theorem own_emp {w : World} {b B z : Nat} {T : TypeId} (h : w.heap[b]? = some (.cells #[] T (0, 0))) (hB : B ≤ b) : w.ownsRow B T z (.slice (some ⟨b, 0, none⟩) 0 0) 0 [] :=
  ⟨by simp, .inr ⟨b, 0, #[], rfl, hB, h, Nat.le_refl _, Nat.zero_le _, by simp, by simp⟩⟩
/-- What stands while the table is made. -/
structure TI (w : World) (A : Option Addr) (n : NetL) (k : Nat) (v : Value) (bs : List Nat) (f : Nat → Nat → Bool) (W : World) : Prop where
  t : Nt W A n
  b : BT w.heap.size n.length k v bs f W
  l : Below w.heap.size w W
section
variable {w W W' : World} {A : Option Addr} {n : NetL} {k : Nat} {v : Value} {bs : List Nat} {f g : Nat → Nat → Bool}
theorem TI.congr (h : TI w A n k v bs f W) (e : ∀ i j, i < k → j < n.length → f i j = g i j) : TI w A n k v bs g W := ⟨h.t, h.b.congr e, h.l⟩
theorem TI.call (h : TI w A n k v bs f W) (hb : Below W.heap.size W W') : TI w A n k v bs f W' := ⟨h.t.below hb, h.b.below hb, h.l.trans (hb.mono h.l.size)⟩
theorem TI.set (h : TI w A n k v bs f W) (hn : Nt w A n) {i j : Nat} (hi : i < k) (x : Bool) : TI w A n k v bs (fun a b => if a = i ∧ b = j then x else f a b) (W.setCell ⟨bs[i]!, j, none⟩ (.bool x)) := by
  have he : Ext (fun q => q = bs[i]!) W (W.setCell ⟨bs[i]!, j, none⟩ (.bool x)) := Ext.set (F := fun q => q = bs[i]!) W _ rfl
  have hb := he.below h.l (fun q hq => by have := h.b.ge i hi; omega) h.l.size
  exact ⟨hn.below hb, h.b.set hi x, hb⟩
theorem TI.drew (h : TI w A n k v bs f W) (m : Nat) : TI w A n k v bs f (W.drewN m) := h.call (below_draws (Below.refl _ _) m)
end
/-- The ways of the rows ahead of k; of row k those of l. -/
def fL (n : NetL) (k : Nat) (l : List Int) (a b : Nat) : Bool := if a = k then decide (b ∈ wyR n.length l) else decide (b ∈ wy n a)
theorem fL_step {n : NetL} {k m x : Nat} {L : List Int} (hm : m < L.length) (hx : L[m]! = (x : Int)) (hxn : x < n.length) (a b : Nat) : (if a = k ∧ b = x then true else fL n k (L.take m) a b) = fL n k (L.take (m + 1)) a b := by
  have hw : wyR n.length (L.take (m + 1)) = wyR n.length (L.take m) ++ [x] := by
    rw [wyR_next hm, hx, if_pos ⟨Int.natCast_nonneg _, by omega⟩, Int.toNat_natCast]
  unfold fL
  rw [hw]
  by_cases ha : a = k
  · by_cases hb : b = x
    · rw [if_pos ⟨ha, hb⟩, if_pos ha]; exact (decide_eq_true (by simp [hb])).symm
    · rw [if_neg (fun h => hb h.2), if_pos ha, if_pos ha, decide_eq_decide]; simp [hb]
  · rw [if_neg (fun h => ha h.1), if_neg ha, if_neg ha]
theorem fL_skip {n : NetL} {k m : Nat} {L : List Int} (hm : m < L.length) (hx : L[m]! < 0 ∨ (n.length : Int) ≤ L[m]!) (a b : Nat) : fL n k (L.take m) a b = fL n k (L.take (m + 1)) a b := by
  have hw : wyR n.length (L.take (m + 1)) = wyR n.length (L.take m) := by
    rw [wyR_next hm, if_neg (show ¬ (0 ≤ L[m]! ∧ L[m]! < (n.length : Int)) by omega), List.append_nil]
  unfold fL
  rw [hw]
theorem fL_end (n : NetL) (k a b : Nat) : fL n k n[k]! a b = wB n 0 a b := by
  unfold fL
  show _ = decide (b ∈ wy n a)
  by_cases ha : a = k
  · rw [if_pos ha, ha, wy_R]
  · rw [if_neg ha]
/-- Between two cells of the walk over the points: the rows ahead of i, and of row i the first j. -/
def mB (n : NetL) (k i j a b : Nat) : Bool := if a < i ∨ (a = i ∧ b < j) then wB n (k + 1) a b else wB n k a b
theorem mB_zero (n : NetL) (k a b : Nat) : mB n k 0 0 a b = wB n k a b := by unfold mB; rw [if_neg (by omega)]
theorem mB_row {n : NetL} {k i a b : Nat} (hb : b < n.length) : mB n k i n.length a b = mB n k (i + 1) 0 a b := by
  unfold mB
  by_cases h : a < i ∨ (a = i ∧ b < n.length)
  · rw [if_pos h, if_pos (by omega)]
  · rw [if_neg h, if_neg (by omega)]
theorem mB_all {n : NetL} {k a b : Nat} (ha : a < n.length) : mB n k n.length 0 a b = wB n (k + 1) a b := by unfold mB; rw [if_pos (.inl ha)]
theorem mB_skip {n : NetL} {k i : Nat} (h : wB n k i k = false) (a b : Nat) : mB n k i 0 a b = mB n k (i + 1) 0 a b := by
  unfold mB
  by_cases e : a = i
  · subst e; rw [if_neg (by omega), if_pos (by omega), wB_no h]
  · by_cases e2 : a < i
    · rw [if_pos (by omega), if_pos (by omega)]
    · rw [if_neg (by omega), if_neg (by omega)]
theorem mB_col (n : NetL) (k i j a : Nat) : mB n k i j a k = wB n k a k := by
  unfold mB
  by_cases h : a < i ∨ (a = i ∧ k < j)
  · rw [if_pos h, wB_col]
  · rw [if_neg h]
theorem mB_krow (n : NetL) (k i j b : Nat) : mB n k i j k b = wB n k k b := by
  unfold mB
  by_cases h : k < i ∨ (k = i ∧ b < j)
  · rw [if_pos h, wB_row]
  · rw [if_neg h]
theorem mB_here (n : NetL) (k i j : Nat) : mB n k i j i j = wB n k i j := by unfold mB; rw [if_neg (by omega)]
theorem mB_step {n : NetL} {k i j : Nat} (h : wB n k i k = true) (a b : Nat) : (if a = i ∧ b = j then (wB n k i j || wB n k k j) else mB n k i j a b) = mB n k i (j + 1) a b := by
  by_cases e : a = i ∧ b = j
  · obtain ⟨rfl, rfl⟩ := e
    rw [if_pos ⟨rfl, rfl⟩]
    unfold mB
    rw [if_pos (by omega), wB_yes h]
  · rw [if_neg e]
    unfold mB
    by_cases h1 : a < i ∨ (a = i ∧ b < j)
    · rw [if_pos h1, if_pos (by omega)]
    · rw [if_neg h1, if_neg (by omega)]
set_option maxRecDepth 100000 in
set_option maxHeartbeats 8000000 in
theorem table_doc (W : World) (A : Option Addr) (c : Nat) (n : NetL) (hn : Nt W A n) (hs : Small n) :
    Calls Try.prog 39 #[.slice A n.length c] W fun e w' => ∃ v bs, e = .returned v ∧ BT W.heap.size n.length n.length v bs (tB n) w' ∧ Below W.heap.size W w' := by
  obtain ⟨j0, hj0, hj1, hj2, hj3⟩ := info_parts info_brow
  have NN0 := Lib.hid hn
  have hl24 := hs.l
  have hN0 : (0 : Int) ≤ (n.length : Int) := Int.natCast_nonneg _
  have HR := Lib.hid hs.r
  clear hn
  go_enter Try.func39, Try.ntmps39
  go_wp2_with fail
  have T0 : Hid (TI W A n 0 (.slice (some ⟨W.heap.size, 0, none⟩) 0 0) [] (wB n 0) (W.alloc (.cells #[] 69))) := Lib.hid ⟨NN0.out.below ((Below.refl _ _).alloc (Nat.le_refl _) _), ⟨rfl, own_emp (heap_new _ _) (Nat.le_refl _), fun i hi => by omega, fun i hi => by omega, fun i j hi => by omega⟩, (Below.refl _ _).alloc (Nat.le_refl _) _⟩
  go_loopw [3, 4] (fun v i wr => ∃ (k : Nat) (bs : List Nat), k ≤ n.length ∧ i = .int .i64 k ∧ Hid (TI W A n k v bs (wB n 0) wr)) (fun _ i _ => n.length - (intOf i).toNat)
  case atStart => exact ⟨0, [], Nat.zero_le _, rfl, T0⟩
  case round =>
    clear T0
    obtain ⟨k, bs, hk, rfl, TT⟩ := hrel
    by_cases hlt : k < n.length
    · have hk0 : (0 : Int) ≤ (k : Int) := Int.natCast_nonneg _
      have hk1 : (k : Int) < (n.length : Int) := by omega
      obtain ⟨va, vc, rfl⟩ := own_slice TT.out.b.out
      have hz := TT.out.l.size
      have hmk := make_bools n.length (by omega) wr
      obtain ⟨cs, hcs⟩ : ∃ cs, cs = ((List.replicate n.length false).map Value.bool).toArray := ⟨_, rfl⟩
      rw [← hcs] at hmk
      have HCS := Lib.hid hcs
      clear hcs
      go_wp2_with (at_builtin; refine wpList_append_own_at _ rfl (.tmp 17) (.tmp 21) 67 rfl W.heap.size 69 j0 _ 1 24 Try.underlying67 hj0 hj1 hj2 hj3 rfl (by omega) _ _ _ rfl ((TT.out.b.out.alloc _).alloc _) ⟨wr.heap.size + 1, 0, none⟩ 1 1 [rowAt wr.heap.size n.length] rfl rfl ?c1 ?c2 ?c3 ?c4 ?c5 ?_)
      case c1 =>
        intro j u hj
        have hn := heap_new (wr.alloc (.cells cs 4)) (.cells #[rowAt wr.heap.size n.length] 69)
        rw [World.size_alloc] at hn
        match j, hj with
        | 0, hj => cases hj; exact cell_blk hn rfl
      case c2 => first | rfl | (intro u hu; simp at hu; rw [hu]; rfl)
      case c3 => unfold maxLen; omega
      case c4 => omega
      case c5 => first | omega | (rw [World.size_alloc, World.size_alloc]; omega)
      intro v1 w4 hown' hgrow _ hat

      have hz4 : wr.heap.size + 1 + 1 ≤ w4.heap.size := by have := hgrow.size; rw [World.size_alloc, World.size_alloc] at this; exact this
      have hba : Below wr.heap.size wr ((wr.alloc (.cells cs 4)).alloc (.cells #[rowAt wr.heap.size n.length] 69)) := ((Below.refl _ _).alloc (Nat.le_refl _) _).alloc (by rw [World.size_alloc]; omega) _
      have hTa := TT.out.call hba
      have hrb : Rb wr.heap.size n.length (fL n k [] k) ((wr.alloc (.cells cs 4)).alloc (.cells #[rowAt wr.heap.size n.length] 69)) := by
        unfold Rb
        refine (heap_old (by rw [World.size_alloc]; omega) (heap_new _ _)).trans ?_
        rw [HCS.out, rowV_zero]
        have : (fun _ => false : Nat → Bool) = fL n k [] k := by funext b; unfold fL; rw [if_pos rfl]; rfl
        rw [this]
      have hTb := hTa.congr (g := fL n k []) (fun i j hi _ => by unfold fL; rw [if_neg (by omega)]; rfl)
      have hp := hTb.b.push hrb hz (fun i hi e => by have := (TT.out.b.inn i hi).lt; omega) hown' hgrow
      have hb4 : Below W.heap.size W w4 := hTa.l.grown hgrow (by rw [World.size_alloc, World.size_alloc]; omega) (fun j hj => (own_block TT.out.b.out hj).1)
      have T4 : Hid (TI W A n (k + 1) v1 (bs ++ [wr.heap.size]) (fL n k []) w4) := Lib.hid ⟨NN0.out.below hb4, hp, hb4⟩
      obtain ⟨g, gc, hve, _, _, _⟩ := T4.out.b.at_ (i := k) (by omega)
      subst hve
      clear hown' hgrow hat hTa hrb hTb hp hb4 hba TT HCS hmk hz4
      generalize bs ++ [wr.heap.size] = bt at *
      obtain ⟨b0, off0, ra, rc, rfl, hb0, hc0, hrow⟩ := nt_at NN0.out hlt
      have hL60 : n[k]!.length ≤ 60 := HR.out _ (Go.Proofs.Ytigicbnkfmbolaa.B.mem_at hlt)
      have HROW := Lib.hid hrow
      have HC0 := Lib.hid hc0
      have HEND : Hid (∀ a b, fL n k n[k]! a b = wB n 0 a b) := Lib.hid (fL_end n k)
      have T5 : Hid (TI W (some ⟨b0, off0, none⟩) n (k + 1) (.slice (some ⟨g, 0, none⟩) (k + 1) gc) bt (fL n k (n[k]!.take 0)) w4) := T4
      clear T4 hrow hc0
      generalize n[k]! = L at *
      go_wp2_with fail
      go_loopw [5] (fun i wv => ∃ m : Nat, m ≤ L.length ∧ i = .int .i64 m ∧ Hid (TI W (some ⟨b0, off0, none⟩) n (k + 1) (.slice (some ⟨g, 0, none⟩) (k + 1) gc) bt (fL n k (L.take m)) wv)) (fun i _ => L.length - (intOf i).toNat)
      case atStart => exact ⟨0, Nat.zero_le _, rfl, T5⟩
      case round =>
        clear T5
        obtain ⟨m, hm, rfl, TL⟩ := hrel
        have hc0 := HC0.out
        rw [← TL.out.l.cell (p := ⟨b0, _, none⟩) hb0] at hc0
        by_cases hmt : m < L.length
        · have hm0 : (0 : Int) ≤ (m : Int) := Int.natCast_nonneg _
          have hm1 : (m : Int) < (L.length : Int) := by omega
          obtain ⟨b1, off1, rfl, hb1, hc1⟩ := row_at HROW.out hmt
          rw [← TL.out.l.cell (p := ⟨b1, _, none⟩) hb1] at hc1
          obtain ⟨g', gc', hve, _, _, hcg⟩ := TL.out.b.at_ (i := k) (by omega)
          cases hve
          by_cases h0 : 0 ≤ L[m]!
          · obtain ⟨x, hx⟩ := Int.eq_ofNat_of_zero_le h0
            by_cases hxn : x < n.length
            · have ff := TL.out.b.frozen x (i := k) (by omega)
              have fc := TL.out.b.bit (i := k) (j := x) (by omega) hxn
              have hP := TL.out.set NN0.out (i := k) (j := x) (by omega) true
              have P8 := Lib.hid (hP.congr (g := fL n k (L.take (m + 1))) (fun a b _ _ => fL_step hmt hx hxn a b))
              rw [hx] at hc1
              have hx0 : (0 : Int) ≤ (x : Int) := Int.natCast_nonneg _
              have hx1 : (x : Int) < (n.length : Int) := by omega
              clear hP TL h0 hx
              generalize bt[k]! = z at *
              generalize fL n k (L.take m) k x = y at *
              go_wp2_with fail
              go_roundw
              case rel => exact ⟨m + 1, hmt, by go_num, P8⟩
              case measure => simp [intOf]; omega
            · have P8 := Lib.hid (TL.out.congr (g := fL n k (L.take (m + 1))) (fun a b _ _ => fL_skip hmt (by omega) a b))
              rw [hx] at hc1
              have hx0 : (0 : Int) ≤ (x : Int) := Int.natCast_nonneg _
              have hx1 : ¬ ((x : Int) < (n.length : Int)) := by omega
              clear TL h0 hx hcg
              go_wp2_with fail
              go_roundw
              case rel => exact ⟨m + 1, hmt, by go_num, P8⟩
              case measure => simp [intOf]; omega
          · have P8 := Lib.hid (TL.out.congr (g := fL n k (L.take (m + 1))) (fun a b _ _ => fL_skip hmt (by omega) a b))
            generalize L[m]! = x at *
            have hx1 : ¬ (x ≥ 0) := by omega
            clear TL hcg
            go_wp2_with fail
            go_roundw
            case rel => exact ⟨m + 1, hmt, by go_num, P8⟩
            case measure => simp [intOf]; omega
        · obtain rfl : m = L.length := by omega
          rw [List.take_length] at TL
          have P9 := Lib.hid (TL.out.congr (g := wB n 0) (fun a b _ _ => HEND.out a b))
          clear TL
          go_wp2_with fail
          go_roundw
          case rel => exact ⟨k + 1, bt, hlt, by go_num, P9⟩
          case measure => simp [intOf]; omega
    · obtain rfl : k = n.length := by omega
      obtain ⟨va, vc, rfl⟩ := own_slice TT.out.b.out
      have HN := NN0
      go_wp2_with fail
      go_loopw [7] (fun i wx => ∃ q : Nat, q ≤ n.length ∧ i = .int .i64 q ∧ Hid (TI W A n n.length (.slice va n.length vc) bs (wB n q) wx)) (fun i _ => n.length - (intOf i).toNat)
      case atStart => exact ⟨0, Nat.zero_le _, rfl, TT⟩
      case round =>
        clear TT
        obtain ⟨q, hq, rfl, TT⟩ := hrel
        by_cases hqt : q < n.length
        · have hq0 : (0 : Int) ≤ (q : Int) := Int.natCast_nonneg _
          have hq1 : (q : Int) < (n.length : Int) := by omega
          have T7 := Lib.hid (TT.out.congr (g := mB n q 0 0) (fun a b _ _ => (mB_zero n q a b).symm))
          clear TT
          go_wp2_with fail
          go_loopw [8] (fun i wx => ∃ r : Nat, r ≤ n.length ∧ i = .int .i64 r ∧ Hid (TI W A n n.length (.slice va n.length vc) bs (mB n q r 0) wx)) (fun i _ => n.length - (intOf i).toNat)
          case atStart => exact ⟨0, Nat.zero_le _, rfl, T7⟩
          case round =>
            clear T7
            obtain ⟨r, hr, rfl, TR⟩ := hrel
            by_cases hrt : r < n.length
            · have hr0 : (0 : Int) ≤ (r : Int) := Int.natCast_nonneg _
              have hr1 : (r : Int) < (n.length : Int) := by omega
              go_wp2_with fail
              go_loopw [9] (fun i wx => ∃ j : Nat, j ≤ n.length ∧ i = .int .i64 j ∧ (wB n q r q = false → j = 0) ∧ Hid (TI W A n n.length (.slice va n.length vc) bs (mB n q r j) wx)) (fun i _ => n.length - (intOf i).toNat)
              case atStart => exact ⟨0, Nat.zero_le _, rfl, fun _ => rfl, TR⟩
              case round =>
                clear TR
                obtain ⟨j, hj, rfl, hj0, TJ⟩ := hrel
                obtain ⟨g, gc, hve, _, _, hcr⟩ := TJ.out.b.at_ (i := r) hrt
                cases hve
                obtain ⟨g, gc, hve, _, _, hcq⟩ := TJ.out.b.at_ (i := q) hqt
                cases hve
                by_cases hjt : j < n.length
                · have hjj0 : (0 : Int) ≤ (j : Int) := Int.natCast_nonneg _
                  have hj1 : (j : Int) < (n.length : Int) := by omega
                  have hk := TJ.out.b.bit (i := r) (j := q) hrt hqt
                  rw [mB_col] at hk
                  by_cases hw : wB n q r q = true
                  · have ha := TJ.out.b.bit (i := r) (j := j) hrt hjt
                    have hb := TJ.out.b.bit (i := q) (j := j) hqt hjt
                    have ff := TJ.out.b.frozen j (i := r) hrt
                    rw [mB_here] at ha
                    rw [mB_krow] at hb
                    rw [hw] at hk
                    have P8 := Lib.hid (((TJ.out.set NN0.out (i := r) (j := j) hrt (wB n q r j || wB n q q j)).drew 1).congr (g := mB n q r (j + 1)) (fun a b _ _ => mB_step hw a b))
                    have HW := Lib.hid hw
                    clear TJ hj0 hw
                    generalize bs[r]! = z at *
                    generalize bs[q]! = y at *
                    generalize wB n q r j = u1 at *
                    generalize wB n q q j = u2 at *
                    obtain hu | hu : u1 = true ∨ u1 = false := by cases u1 <;> simp
                    · rw [hu, Bool.true_or] at P8
                      have HU := Lib.hid hu
                      clear hu
                      go_wp2_with fail
                      refine wp_region_still_tail 22 (by kernel_rfl) (by kernel_rfl) ?_
                      simp only [List.take_succ_cons, List.take_zero, List.drop_succ_cons, List.drop_zero]
                      iterate 13 still_step
                      iterate 7 (refine wpStill_step (fun K hK => ?_); have HK := Lib.hid hK; clear hK; refine skip_if (by have h := HU.out; subst h; simp [Region.wanted, yielded]) ?_; go_simp; refine HK.out _ ?_; clear HK K)
                      have hu := HU.out
                      subst hu
                      iterate 2 still_step
                      refine wpStill_nil ?_
                      go_wp2_with fail
                      go_roundw
                      case rel => exact ⟨j + 1, hjt, by go_num, (fun h => by rw [HW.out] at h; cases h), P8⟩
                      case measure => simp [intOf]; omega
                    · rw [hu, Bool.false_or] at P8
                      have HU := Lib.hid hu
                      clear hu
                      go_wp2_with fail
                      refine wp_region_still_tail 22 (by kernel_rfl) (by kernel_rfl) ?_
                      simp only [List.take_succ_cons, List.take_zero, List.drop_succ_cons, List.drop_zero]
                      iterate 13 still_step
                      iterate 7 (refine wpStill_step (fun K hK => ?_); have HK := Lib.hid hK; clear hK; refine take_if (by have h := HU.out; subst h; simp [Region.wanted, yielded]) ?_; go_simp; refine HK.out _ ?_; clear HK K)
                      have hu := HU.out
                      subst hu
                      iterate 2 still_step
                      refine wpStill_nil ?_
                      go_wp2_with fail
                      go_roundw
                      case rel => exact ⟨j + 1, hjt, by go_num, (fun h => by rw [HW.out] at h; cases h), P8⟩
                      case measure => simp [intOf]; omega
                  · have hwf : wB n q r q = false := by simpa using hw
                    obtain rfl : j = 0 := hj0 hwf
                    rw [hwf] at hk
                    have P9 := Lib.hid (TJ.out.congr (g := mB n q (r + 1) 0) (fun a b _ _ => mB_skip hwf a b))
                    clear TJ hj0 hw hwf hcq
                    generalize bs[r]! = z at *
                    go_wp2_with fail
                    go_roundw
                    case rel => exact ⟨r + 1, hrt, by go_num, P9⟩
                    case measure => simp [intOf]; omega
                · obtain rfl : j = n.length := by omega
                  have P9 := Lib.hid (TJ.out.congr (g := mB n q (r + 1) 0) (fun a b _ hb => mB_row hb))
                  clear TJ hj0 hcr hcq
                  go_wp2_with fail
                  go_roundw
                  case rel => exact ⟨r + 1, hrt, by go_num, P9⟩
                  case measure => simp [intOf]; omega
            · obtain rfl : r = n.length := by omega
              have P9 := Lib.hid (TR.out.congr (g := wB n (q + 1)) (fun a b ha _ => mB_all ha))
              clear TR
              go_wp2_with fail
              go_roundw
              case rel => exact ⟨q + 1, hqt, by go_num, P9⟩
              case measure => simp [intOf]; omega
        · obtain rfl : q = n.length := by omega
          go_wp2_with fail
          go_ret
          exact ⟨_, bs, rfl, TT.out.b, TT.out.l⟩
end Go.Proofs.Ytigicbnkfmbolaa.R6.T
