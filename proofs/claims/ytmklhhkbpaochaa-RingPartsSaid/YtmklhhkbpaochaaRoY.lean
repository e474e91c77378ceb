/-
  A map of points to places; what an order and rings are where no point leads back.
-/
import Derived.Test.YtmklhhkbpaochaaRoM
namespace Go.Proofs.Ytmklhhkbpaochaa.R6
open Go.RowKit Go.Shelf Go.Proofs.Ytmklhhkbpaochaa.B

/-- Block b is a map of the points of a list to their places there. -/
def MP (w : World) (b c : Nat) (o : List Nat) : Prop :=
  ∃ D : DataW Unit, w.ownsMap Try.prog 3 (plainElem Try.prog 3) b c D ∧ Maps.size D = o.length ∧ (∀ x : Nat, Maps.has D (litI x) = o.contains x) ∧ ∀ j : Nat, j < o.length → D.atKey (litI o[j]!) (.lit (.int .i64 0)) = .lit (.int .i64 (j : Int))
theorem MP.made (w : World) : MP (w.alloc (.map #[] 0)) w.heap.size 0 [] := ⟨.map [], World.ownsMap_made w _ _ _, rfl, fun _ => rfl, fun j hj => by simp at hj⟩
theorem MP.lt {w : World} {b c : Nat} {o : List Nat} (h : MP w b c o) : b < w.heap.size := by obtain ⟨D, h, _⟩ := h; exact h.lt
theorem MP.below {w w' : World} {b c : Nat} {o : List Nat} (h : MP w b c o) (hb : Below w.heap.size w w') : MP w' b c o := by
  have hl := h.lt
  obtain ⟨D, ⟨es, clock, h1, h2⟩, h3⟩ := h
  exact ⟨D, ⟨es, clock, (hb.block b hl).trans h1, h2⟩, h3⟩
theorem MP.look {w : World} {b c : Nat} {o : List Nat} (h : MP w b c o) {j : Nat} (hj : j < o.length) (hk : o[j]! ≤ 9223372036854775807) : (Instr.lookup 44 (.map (some b)) (.int .i64 (o[j]! : Int)) false).run Try.prog w = .ok (.int .i64 (j : Int)) w := by
  obtain ⟨D, h, _, _, hf⟩ := h
  obtain ⟨v, ps, h1, h2⟩ := h.lookup lawI Try.underlying44 (Try.zeroValue3 _) (plainElem_int Try.underlying3 (a := 0) (by decide)) (keyI hk)
  rw [hf j hj] at h2
  obtain ⟨a, rfl, h3, _⟩ := plainElem_int_inv Try.underlying3 h2
  simp only [Prod.mk.injEq, DataW.lit.injEq, Lit.int.injEq, true_and] at h3
  rw [h1, ← h3.1]
theorem MP.len {w : World} {b c : Nat} {o : List Nat} (h : MP w b c o) (ty : TypeId) : (Builtin.len_ #[44] ty #[.map (some b)]).run Try.prog w = .ok (.int .i64 (o.length : Int)) w := by
  obtain ⟨D, h, hs, _⟩ := h
  have := h.len Try.underlying44 ty
  rw [hs] at this; exact this
theorem MP.put {w : World} {b c : Nat} {o : List Nat} (h : MP w b c o) {x : Nat} (hx : x ≤ 9223372036854775807) (hno : x ∉ o) (hc : c < maxLen) (hl : o.length ≤ 1000000) :
    ∃ w1, (Instr.mapUpdate 44 (.map (some b)) (.int .i64 (x : Int)) (.int .i64 (o.length : Int))).run Try.prog w = .ok () w1 ∧ MP w1 b (c + 1) (o ++ [x]) ∧ w.grownBy w1 (some b) := by
  obtain ⟨D, h, hs, hh, hf⟩ := h
  obtain ⟨w1, h1, h2, h3⟩ := h.update lawI Try.underlying44 hc (keyI hx) (plainElem_int Try.underlying3 (a := (o.length : Int)) (WalkArith.wf_i64 (by omega)))
  have hkl := litI_key hx
  have hne : ∀ y, y ≠ x → litI y ≠ litI x := fun y hy h => hy (litI_inj h)
  refine ⟨w1, h1, ⟨_, h2, ?_, fun y => ?_, fun j hj => ?_⟩, h3⟩
  · rw [Maps.size_put (h.tidy lawI), hh, hs, if_neg (by rw [List.contains_iff_mem]; exact hno), List.length_append]; rfl
  · by_cases e : y = x
    · subst e
      rw [Maps.has_put_same h.isMap hkl]; simp
    · rw [Maps.has_put_other (hne y e), hh]; simp [e]
  · rw [List.length_append, List.length_singleton] at hj
    by_cases e : j < o.length
    · have hg : (o ++ [x])[j]! = o[j]! := by
        rw [getElem!_pos _ j (by rw [List.length_append]; omega), getElem!_pos o j e, List.getElem_append_left e]
      have hy : o[j]! ≠ x := fun e' => hno (e' ▸ Go.Proofs.Ytmklhhkbpaochaa.B.mem_at e)
      rw [hg, Maps.atKey_put_other (hne _ hy)]
      exact hf j e
    · obtain rfl : j = o.length := by omega
      have hg : (o ++ [x])[o.length]! = x := by
        rw [getElem!_pos _ _ (by simp), List.getElem_append_right (Nat.le_refl _)]; simp
      rw [hg, Maps.atKey_put_same h.isMap hkl]
theorem mkM (w : World) : (Instr.makeMap 44 none).run Try.prog w = .ok (.map (some w.heap.size)) (w.alloc (.map #[] 0)) := by
  simp [Instr.makeMap, Result.andThen]

/-! ### loops, orders, rings -/
theorem loopsB_iff {n : NetL} {i : Nat} (hi : i < n.length) : loopsB n (i : Int) = true ↔ Ld n i i := by
  unfold loopsB
  have he : reachI n (i : Int) = reachL n i := by
    unfold reachI
    rw [if_pos (by unfold hasI; rw [decide_eq_true (Int.natCast_nonneg _), decide_eq_true (by omega)]; rfl), Int.toNat_natCast]
  rw [he, List.any_eq_true]
  constructor
  · rintro ⟨z, hz, e⟩
    obtain ⟨j, hj, rfl⟩ := List.mem_map.1 hz
    have e : (j : Int) = (i : Int) := by simpa [eqP] using e
    obtain rfl : j = i := by omega
    exact (reach_mem hi).1 hj
  · intro h
    exact ⟨_, List.mem_map.2 ⟨i, (reach_mem hi).2 h, rfl⟩, by simp [eqP]⟩
def loopTo (n : NetL) (k : Nat) : Bool := (List.range k).any fun i => loopsB n (i : Int)
theorem loop_next (n : NetL) (k : Nat) : loopTo n (k + 1) = (loopTo n k || loopsB n (k : Int)) := by
  unfold loopTo; rw [List.range_succ, List.any_append]; simp
theorem loop_all (n : NetL) : loopTo n n.length = leadsB n := by
  rw [Bool.eq_iff_iff, leadsB_iff]
  unfold loopTo
  rw [List.any_eq_true]
  constructor
  · rintro ⟨i, hi, h⟩
    exact ⟨i, (loopsB_iff (List.mem_range.1 hi)).1 h⟩
  · rintro ⟨i, h⟩
    have hl : i < n.length := h.lt
    exact ⟨i, List.mem_range.2 hl, (loopsB_iff hl).2 h⟩
theorem rings_single {n : NetL} (hac : ∀ a, ¬ Ld n a a) : (ringsN n).length = n.length := by
  unfold ringsN ringsL
  rw [List.length_map, gather_len]
  unfold cntF
  have : (List.range n.length).filter (firstB (headL n)) = List.range n.length := List.filter_eq_self.2 (fun i hi => by
    have hi := List.mem_range.1 hi
    unfold firstB
    refine decide_eq_true (fun j hj e => ?_)
    rcases (head_same (by omega) hi).1 e with h | ⟨h1, h2⟩
    · omega
    · exact hac i (h2.trans h1))
  rw [this, List.length_range]
/-- Where a way leads from ahead to behind. -/
theorem ord_place {n : NetL} (hac : ∀ a, ¬ Ld n a a) {i : Nat} (hi : i < n.length) : ∃ p, p < n.length ∧ (ordL n n.length)[p]! = i := by
  have h := ord_all hac hi
  obtain ⟨p, hp, e⟩ := List.getElem_of_mem h
  have hl := (ord_ok hac n.length (Nat.le_refl _)).2
  exact ⟨p, by omega, by rw [getElem!_pos _ p hp]; exact e⟩
theorem ord_less {n : NetL} (hac : ∀ a, ¬ Ld n a a) {p q : Nat} (hp : p < n.length) (hq : q < n.length) (h : (ordL n n.length)[q]! ∈ wy n (ordL n n.length)[p]!) : p < q := by
  obtain ⟨hoi, hl⟩ := ord_ok hac n.length (Nat.le_refl _)
  have e1 : (ordL n n.length)[q]? = some (ordL n n.length)[q]! := by rw [getElem!_pos _ q (by omega)]; exact List.getElem?_eq_getElem (by omega)
  obtain ⟨j, hj, ej⟩ := hoi.pre q _ _ e1 h
  have hjl : j < (ordL n n.length).length := by omega
  rw [List.getElem?_eq_getElem hjl] at ej
  injection ej with ej
  rw [getElem!_pos _ p (by omega)] at ej
  have : j = p := by
    apply Classical.byContradiction
    intro hne
    have hpw := List.pairwise_iff_getElem.1 hoi.nd
    rcases Nat.lt_or_gt_of_ne hne with h1 | h1
    · exact hpw j p hjl (by omega) h1 ej
    · exact hpw p j (by omega) hjl h1 ej.symm
  omega
theorem ordI_no {n : NetL} (h : leadsB n = false) : ordI n = ordL n n.length ∧ ordE n = 0 := by unfold ordI ordE; rw [h]; exact ⟨rfl, rfl⟩
theorem ordI_yes {n : NetL} (h : leadsB n = true) : ordI n = [] ∧ ordE n = 7 := by unfold ordI ordE; rw [h]; exact ⟨rfl, rfl⟩
end Go.Proofs.Ytmklhhkbpaochaa.R6
