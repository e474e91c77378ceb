/-
  A table of bools in memory, each row in a block of its own.
-/
import Derived.Test.YtaagpnepkjkfoaaRoM
import Derived.Test.YtaagpnepkjkfoaaRpT
namespace Go.Proofs.Ytaagpnepkjkfoaa.R6.T
open Go.RowKit Go.Shelf Go.Proofs.Ytaagpnepkjkfoaa.B Go.Proofs.Ytaagpnepkjkfoaa.R6

/-- Where a net's points lie. -/
theorem nt_at {W : World} {A : Option Addr} {n : NetL} (h : Nt W A n) {k : Nat} (hk : k < n.length) : ∃ b off ra rc, A = some ⟨b, off, none⟩ ∧ b < W.heap.size ∧ W.cell? ⟨b, off + k, none⟩ = some (.slice ra n[k]!.length rc) ∧ Row W ra (n[k]!.map (Value.int .i64)) := by
  obtain ⟨rs, h1, h2⟩ := h
  have hl := nt_len h1
  obtain ⟨b, off, h3, h4, h5⟩ := h2.at_ (i := k) (by omega)
  have e : n[k]! = rs[k]!.l := by rw [← h1, net_at]
  exact ⟨b, off, _, _, h3, h4, by rw [e]; exact h5, by rw [e]; exact h2.row _ (Go.Proofs.Ytaagpnepkjkfoaa.B.mem_at (by omega))⟩
abbrev rowV (N : Nat) (g : Nat → Bool) : List Value := (List.range N).map fun j => Value.bool (g j)
theorem rowV_len (N : Nat) (g : Nat → Bool) : (rowV N g).length = N := by simp
theorem rowV_at {N j : Nat} (g : Nat → Bool) (hj : j < N) : (rowV N g).toArray[j]? = some (.bool (g j)) := by
  rw [List.getElem?_toArray, List.getElem?_eq_getElem (by simpa using hj)]; simp
theorem rowV_set {N j : Nat} (g : Nat → Bool) (x : Bool) : (rowV N g).toArray.setIfInBounds j (.bool x) = (rowV N fun b => if b = j then x else g b).toArray := by
  rw [List.setIfInBounds_toArray]
  congr 1
  refine List.ext_getElem (by simp) (fun i h1 h2 => ?_)
  rw [List.getElem_set]
  simp only [List.getElem_map, List.getElem_range]
  by_cases e : j = i
  · subst e; simp
  · rw [if_neg e, if_neg (fun h => e h.symm)]
theorem rowV_congr {N : Nat} {g h : Nat → Bool} (e : ∀ j, j < N → g j = h j) : rowV N g = rowV N h := List.map_congr_left (fun j hj => by rw [e j (List.mem_range.1 hj)])
theorem rowV_zero (N : Nat) : (List.replicate N false).map Value.bool = rowV N fun _ => false := by
  refine List.ext_getElem (by simp) (fun i h1 h2 => ?_)
  simp
/-- A row of bools in a block of its own. -/
def Rb (b N : Nat) (g : Nat → Bool) (W : World) : Prop := W.heap[b]? = some (.cells (rowV N g).toArray 4 (0, 0))
theorem Rb.lt {b N : Nat} {g : Nat → Bool} {W : World} (h : Rb b N g W) : b < W.heap.size := blk_lt h
theorem Rb.cell {b N j : Nat} {g : Nat → Bool} {W : World} (h : Rb b N g W) (hj : j < N) : W.cell? ⟨b, j, none⟩ = some (.bool (g j)) := cell_blk h (rowV_at g hj)
theorem Rb.frozen {b N j : Nat} {g : Nat → Bool} {W : World} (h : Rb b N g W) : W.frozen? ⟨b, j, none⟩ = false := frozen_blk h
theorem Rb.set {b N j : Nat} {g : Nat → Bool} {W : World} (h : Rb b N g W) (x : Bool) : Rb b N (fun y => if y = j then x else g y) (W.setCell ⟨b, j, none⟩ (.bool x)) := by
  unfold Rb at h ⊢
  rw [blk_set h, rowV_set]
theorem Rb.congr {b N : Nat} {g k : Nat → Bool} {W : World} (h : Rb b N g W) (e : ∀ j, j < N → g j = k j) : Rb b N k W := by
  unfold Rb at h ⊢
  rw [h, rowV_congr e]
theorem Rb.keep {b N : Nat} {g : Nat → Bool} {W W' : World} (h : Rb b N g W) (e : W'.heap[b]? = W.heap[b]?) : Rb b N g W' := e.trans h
/-- A table in memory. -/
structure BT (B N k : Nat) (v : Value) (bs : List Nat) (f : Nat → Nat → Bool) (W : World) : Prop where
  lb : bs.length = k
  out : W.ownsRow B 72 1 v k (bs.map fun b => rowAt b N)
  ge : ∀ i : Nat, i < k → B ≤ bs[i]!
  inn : ∀ i : Nat, i < k → Rb bs[i]! N (f i) W
  dis : ∀ i j : Nat, i < k → j < k → bs[i]! = bs[j]! → i = j
section
variable {B N k : Nat} {v : Value} {bs : List Nat} {f : Nat → Nat → Bool} {W W' : World}
theorem BT.far (h : BT B N k v bs f W) {i : Nat} (hi : i < k) : v.ownBlock ≠ some bs[i]! := own_far h.out (h.inn i hi) (by decide)
theorem BT.keep (h : BT B N k v bs f W) (hk : ∀ q, q < W.heap.size → B ≤ q → W'.heap[q]? = W.heap[q]?) : BT B N k v bs f W' :=
  ⟨h.lb, own_keep h.out (fun q hq => hk q (own_block h.out hq).2 (own_block h.out hq).1), h.ge, fun i hi => (h.inn i hi).keep (hk _ (h.inn i hi).lt (h.ge i hi)), h.dis⟩
theorem BT.below (h : BT B N k v bs f W) (hb : Below W.heap.size W W') : BT B N k v bs f W' := h.keep (fun q hq _ => hb.block q hq)
theorem BT.congr {g : Nat → Nat → Bool} (h : BT B N k v bs f W) (e : ∀ i j, i < k → j < N → f i j = g i j) : BT B N k v bs g W :=
  ⟨h.lb, h.out, h.ge, fun i hi => (h.inn i hi).congr (fun j hj => e i j hi hj), h.dis⟩
theorem BT.set (h : BT B N k v bs f W) {i j : Nat} (hi : i < k) (x : Bool) : BT B N k v bs (fun a b => if a = i ∧ b = j then x else f a b) (W.setCell ⟨bs[i]!, j, none⟩ (.bool x)) := by
  refine ⟨h.lb, own_keep h.out (fun q hq => blk_other (fun e => h.far hi (by rw [← e]; exact hq))), h.ge, fun a ha => ?_, h.dis⟩
  by_cases e : a = i
  · subst e
    refine ((h.inn a ha).set x).congr (fun y _ => ?_)
    by_cases e2 : y = j
    · rw [if_pos e2, if_pos ⟨rfl, e2⟩]
    · rw [if_neg e2, if_neg (fun h => e2 h.2)]
  · refine ((h.inn a ha).keep (blk_other (fun e2 => e (h.dis a i ha hi e2)))).congr (fun y _ => ?_)
    rw [if_neg (fun h => e h.1)]
theorem BT.at_ (h : BT B N k v bs f W) {i : Nat} (hi : i < k) : ∃ g c, v = .slice (some ⟨g, 0, none⟩) k c ∧ g < W.heap.size ∧ B ≤ g ∧ W.cell? ⟨g, i, none⟩ = some (rowAt bs[i]! N) := by
  obtain ⟨g, c, rfl, h1, h2⟩ := own_head h.out (by omega)
  refine ⟨g, c, rfl, h2, h1, (h.out.cellAt i (by omega)).trans ?_⟩
  rw [List.getElem?_map, List.getElem?_eq_getElem (by rw [h.lb]; exact hi), getElem!_pos bs i (by rw [h.lb]; exact hi)]; rfl
theorem BT.bit (h : BT B N k v bs f W) {i j : Nat} (hi : i < k) (hj : j < N) : W.cell? ⟨bs[i]!, j, none⟩ = some (.bool (f i j)) := (h.inn i hi).cell hj
theorem BT.frozen (h : BT B N k v bs f W) {i : Nat} (j : Nat) (hi : i < k) : W.frozen? ⟨bs[i]!, j, none⟩ = false := (h.inn i hi).frozen
theorem BT.start (B N : Nat) (f : Nat → Nat → Bool) (W : World) : BT B N 0 (.slice none 0 0) [] f W := ⟨rfl, World.ownsRow_nil _ _ _ _, fun i hi => by omega, fun i hi => by omega, fun i j hi => by omega⟩
theorem BT.push {W1 : World} {v' : Value} {b : Nat} (h : BT B N k v bs f W) (hb : Rb b N (f k) W) (hB : B ≤ b) (hn : ∀ i : Nat, i < k → bs[i]! ≠ b)
    (ho : W1.ownsRow B 72 1 v' (k + 1) ((bs.map fun b => rowAt b N) ++ [rowAt b N])) (hg : W.grownBy W1 v.ownBlock) : BT B N (k + 1) v' (bs ++ [b]) f W1 := by
  have hold : ∀ i : Nat, i < k → (bs ++ [b])[i]! = bs[i]! := fun i hi => by
    rw [getElem!_pos _ i (by rw [List.length_append, h.lb]; omega), getElem!_pos bs i (by rw [h.lb]; exact hi), List.getElem_append_left (by rw [h.lb]; exact hi)]
  have hnew : (bs ++ [b])[k]! = b := by
    rw [getElem!_pos _ k (by rw [List.length_append, h.lb]; simp), List.getElem_append_right (by rw [h.lb]; exact Nat.le_refl _)]; simp [h.lb]
  have hfb : v.ownBlock ≠ some b := own_far h.out hb (by decide)
  refine ⟨by simp [h.lb], by rw [List.map_append]; exact ho, fun i hi => ?_, fun i hi => ?_, fun i j hi hj e => ?_⟩
  · by_cases e : i < k
    · rw [hold i e]; exact h.ge i e
    · obtain rfl : i = k := by omega
      rw [hnew]; exact hB
  · by_cases e : i < k
    · rw [hold i e]; exact (h.inn i e).keep (hg.block _ (h.inn i e).lt (fun e' => h.far e e'.symm))
    · obtain rfl : i = k := by omega
      rw [hnew]; exact hb.keep (hg.block _ hb.lt (fun e' => hfb e'.symm))
  · by_cases e1 : i < k
    · by_cases e2 : j < k
      · rw [hold i e1, hold j e2] at e; exact h.dis i j e1 e2 e
      · obtain rfl : j = k := by omega
        rw [hold i e1, hnew] at e; exact absurd e (hn i e1)
    · obtain rfl : i = k := by omega
      by_cases e2 : j < i
      · rw [hold j e2, hnew] at e; exact absurd e.symm (hn j e2)
      · omega
end
theorem info_brow : (Try.prog.info? 72).map (fun i => (i.zero, i.size, i.bytes)) = some (some (.slice none 0 0), 1, 24) := by kernel_rfl
end Go.Proofs.Ytaagpnepkjkfoaa.R6.T
