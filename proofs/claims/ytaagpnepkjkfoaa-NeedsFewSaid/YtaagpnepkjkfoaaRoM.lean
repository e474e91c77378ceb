/-
  A map of points to truth, counted; where a point leads, step by step.
-/
import Derived.Test.YtaagpnepkjkfoaaRoU
import Derived.Maps.OwnIn
import Derived.Maps.OwnSet
import Derived.Maps.Views
import Derived.DeepKeys4
import Derived.MapViews
namespace Go.Proofs.Ytaagpnepkjkfoaa.R6
open Go.RowKit Go.Shelf Go.Proofs.Ytaagpnepkjkfoaa.B

def litI (k : Nat) : Lit := .int .i64 (k : Int)
theorem lawI : Maps.Keyed Try.prog 3 := Maps.int_keyed Try.underlying3
theorem keyI {k : Nat} (h : k ≤ 9223372036854775807) : keyOf Try.prog 3 (.int .i64 (k : Int)) = some (litI k) := Maps.keyOf_int_mk Try.underlying3 (WalkArith.wf_i64 (by omega))
theorem litI_inj {a b : Nat} (h : litI a = litI b) : a = b := by simp only [litI, Lit.int.injEq, true_and] at h; omega
theorem litI_key {k : Nat} (h : k ≤ 9223372036854775807) : WideAt.IsKeyLit (litI k) := lawI.key (keyI h)
/-- How many of the first N are meant. -/
def cntS (S : Nat → Bool) (N : Nat) : Nat := ((List.range N).filter S).length
theorem cnt_next (S : Nat → Bool) (N : Nat) : cntS S (N + 1) = cntS S N + (if S N then 1 else 0) := by
  unfold cntS
  rw [List.range_succ, List.filter_append, List.length_append]
  congr 1
  cases h : S N <;> simp [h]
theorem cnt_congr {S T : Nat → Bool} {N : Nat} (h : ∀ i, i < N → S i = T i) : cntS S N = cntS T N := by
  unfold cntS
  rw [List.filter_congr (fun i hi => h i (List.mem_range.1 hi))]
theorem cnt_yes {S : Nat → Bool} {k N : Nat} (h : S k = true) : cntS (fun j => S j || j == k) N = cntS S N := cnt_congr fun i _ => by
  by_cases e : i = k
  · subst e; simp [h]
  · rw [show (i == k) = false from beq_eq_false_iff_ne.2 e, Bool.or_false]
theorem cnt_no {S : Nat → Bool} {k N : Nat} (h : S k = false) (hk : k < N) : cntS (fun j => S j || j == k) N = cntS S N + 1 := by
  induction N with
  | zero => omega
  | succ N ih =>
    rw [cnt_next, cnt_next]
    by_cases e : k = N
    · subst e
      rw [cnt_congr (T := S) (fun i hi => by rw [show (i == k) = false from beq_eq_false_iff_ne.2 (by omega), Bool.or_false])]
      simp [h]
    · rw [ih (by omega), show (N == k) = false from beq_eq_false_iff_ne.2 (fun e' => e e'.symm), Bool.or_false]
      omega
/-- Block b is a map that holds true just at the points of which S says so (c puts at most), of the first N. -/
def NS (w : World) (b c N : Nat) (S : Nat → Bool) : Prop :=
  ∃ D : DataW Unit, w.ownsMap Try.prog 3 (plainElem Try.prog 4) b c D ∧ Maps.size D = cntS S N ∧ ∀ i : Nat, Maps.has D (litI i) = S i ∧ D.atKey (litI i) (.lit (.bool false)) = .lit (.bool (S i))
theorem NS.made (w : World) (N : Nat) : NS (w.alloc (.map #[] 0)) w.heap.size 0 N (fun _ => false) := ⟨.map [], World.ownsMap_made w _ _ _, (by show 0 = _; unfold cntS; rw [List.filter_eq_nil_iff.2 (by simp)]; rfl), fun _ => ⟨rfl, rfl⟩⟩
theorem NS.lt {w : World} {b c N : Nat} {S : Nat → Bool} (h : NS w b c N S) : b < w.heap.size := by obtain ⟨D, h, _⟩ := h; exact h.lt
theorem NS.below {w w' : World} {b c N : Nat} {S : Nat → Bool} (h : NS w b c N S) (hb : Below w.heap.size w w') : NS w' b c N S := by
  have hl := h.lt
  obtain ⟨D, ⟨es, clock, h1, h2⟩, h3⟩ := h
  exact ⟨D, ⟨es, clock, (hb.block b hl).trans h1, h2⟩, h3⟩
theorem NS.mono {w : World} {b c d N : Nat} {S : Nat → Bool} (h : NS w b c N S) (hc : c ≤ d) : NS w b d N S := by
  obtain ⟨D, h, hf⟩ := h; exact ⟨D, h.mono hc, hf⟩
theorem NS.congr {w : World} {b c N : Nat} {S S' : Nat → Bool} (h : NS w b c N S) (e : ∀ i, S i = S' i) : NS w b c N S' := by
  obtain rfl : S = S' := funext e
  exact h
theorem bool_inv' {P : Program} {e : TypeId} (he : P.underlying e = some .bool) {v : Value} {x : Bool} {ps : List MemPlace} (h : plainElem (H := Unit) P e v = some (.lit (.bool x), ps)) : v = .bool x := by
  unfold plainElem at h
  rw [he] at h
  cases v <;> simp at h
  rw [h.1]
theorem NS.look {w : World} {b c N : Nat} {S : Nat → Bool} (h : NS w b c N S) {i : Nat} (hi : i ≤ 9223372036854775807) : (Instr.lookup 60 (.map (some b)) (.int .i64 (i : Int)) false).run Try.prog w = .ok (.bool (S i)) w := by
  obtain ⟨D, h, _, hf⟩ := h
  obtain ⟨v, ps, h1, h2⟩ := h.lookup lawI Try.underlying60 (Try.zeroValue4 _) (plainElem_bool Try.underlying4 false) (keyI hi)
  rw [(hf i).2] at h2
  rw [h1, bool_inv' Try.underlying4 h2]
theorem NS.len {w : World} {b c N : Nat} {S : Nat → Bool} (h : NS w b c N S) (ty : TypeId) : (Builtin.len_ #[60] ty #[.map (some b)]).run Try.prog w = .ok (.int .i64 (cntS S N : Int)) w := by
  obtain ⟨D, h, hs, _⟩ := h
  have := h.len Try.underlying60 ty
  rw [hs] at this; exact this
theorem NS.put {w : World} {b c N : Nat} {S : Nat → Bool} (h : NS w b c N S) {k : Nat} (hk : k ≤ 9223372036854775807) (hN : k < N) (hc : c < maxLen) :
    ∃ w1, (Instr.mapUpdate 60 (.map (some b)) (.int .i64 (k : Int)) (.bool true)).run Try.prog w = .ok () w1 ∧ NS w1 b (c + 1) N (fun j => S j || j == k) ∧ w.grownBy w1 (some b) := by
  obtain ⟨D, h, hs, hf⟩ := h
  obtain ⟨w1, h1, h2, h3⟩ := h.update lawI Try.underlying60 hc (keyI hk) (plainElem_bool Try.underlying4 true)
  refine ⟨w1, h1, ⟨_, h2, ?_, fun j => ?_⟩, h3⟩
  · rw [Maps.size_put (h.tidy lawI), (hf k).1, hs]
    cases e : S k with
    | true => rw [if_pos rfl, cnt_yes e]
    | false => rw [if_neg (by decide), cnt_no e hN]
  · by_cases e : j = k
    · subst e
      have hkl := litI_key hk
      rw [Maps.has_put_same h.isMap hkl, Maps.atKey_put_same h.isMap hkl]; simp
    · have hne : litI j ≠ litI k := fun h => e (litI_inj h)
      show _ = (S j || j == k) ∧ _ = DataW.lit (.bool (S j || j == k))
      rw [Maps.has_put_other hne, Maps.atKey_put_other hne, (hf j).1, (hf j).2, show (j == k) = false from beq_eq_false_iff_ne.2 e, Bool.or_false]
      exact ⟨rfl, rfl⟩
theorem mkI (w : World) : (Instr.makeMap 60 none).run Try.prog w = .ok (.map (some w.heap.size)) (w.alloc (.map #[] 0)) := by
  simp [Instr.makeMap, Result.andThen]

/-! ### where a point leads, by its ways -/
/-- Is a point one of these, or led to by one of them? -/
def wantB (n : NetL) (ks : List Nat) (j : Nat) : Bool := ks.any fun k => j == k || (reachL n k).contains j
theorem want_all {n : NetL} {i : Nat} (hi : i < n.length) (j : Nat) : wantB n (wy n i) j = (reachL n i).contains j := by
  rw [Bool.eq_iff_iff, List.contains_iff_mem, reach_mem hi]
  unfold wantB
  rw [List.any_eq_true]
  constructor
  · rintro ⟨k, hk, h⟩
    rw [Bool.or_eq_true, beq_iff_eq, List.contains_iff_mem, reach_mem (wy_mem.1 hk).2] at h
    rcases h with rfl | h
    · exact .one hk
    · exact .more hk h
  · intro h
    cases h with
    | one h => exact ⟨j, h, by simp⟩
    | more h k => exact ⟨_, h, by rw [Bool.or_eq_true, List.contains_iff_mem, reach_mem (wy_mem.1 h).2]; exact .inr k⟩
theorem want_cnt {n : NetL} {i : Nat} (hi : i < n.length) : cntS (wantB n (wy n i)) n.length = (reachL n i).length := by
  unfold cntS
  have h1 : (List.range n.length).filter (wantB n (wy n i)) = reachL n i := by
    have h2 : (List.range n.length).filter (wantB n (wy n i)) = (List.range n.length).filter fun j => (ledL n i)[j]! := List.filter_congr (fun j hj => by
      have hj := List.mem_range.1 hj
      rw [want_all hi, Bool.eq_iff_iff, List.contains_iff_mem]
      unfold reachL
      rw [List.mem_filter, List.mem_range]
      exact ⟨fun h => h.2, fun h => ⟨hj, h⟩⟩)
    rw [h2]; rfl
  rw [h1]
theorem reach_lt {n : NetL} {i q : Nat} (hq : q < (reachL n i).length) : (reachL n i)[q]! < n.length := by
  have h := Go.Proofs.Ytaagpnepkjkfoaa.B.mem_at hq
  unfold reachL at h
  rw [List.mem_filter, List.mem_range] at h
  exact h.1
theorem reach_up {n : NetL} {i q : Nat} (hq : q + 1 < (reachL n i).length) : (reachL n i)[q]! < (reachL n i)[q + 1]! := by
  have h : (reachL n i).Pairwise (· < ·) := List.Pairwise.filter _ List.pairwise_lt_range
  rw [getElem!_pos _ q (by omega), getElem!_pos _ (q + 1) hq]
  exact List.pairwise_iff_getElem.1 h q (q + 1) (by omega) hq (by omega)
theorem want_in {n : NetL} {i q : Nat} (hi : i < n.length) (hq : q < (reachL n i).length) : wantB n (wy n i) (reachL n i)[q]! = true := by
  rw [want_all hi, List.contains_iff_mem]; exact Go.Proofs.Ytaagpnepkjkfoaa.B.mem_at hq
theorem take_more {l : List Nat} {j : Nat} (hj : j < l.length) (k : Nat) : (l.take (j + 1)).contains k = ((l.take j).contains k || k == l[j]!) := by
  rw [Bool.eq_iff_iff, Bool.or_eq_true, List.contains_iff_mem, List.contains_iff_mem, beq_iff_eq, List.take_succ_eq_append_getElem hj, List.mem_append, List.mem_singleton, getElem!_pos l j hj]
theorem reachN_is {n : NetL} {k : Nat} (hk : k < n.length) : reachN n (k : Int) = (reachL n k).map fun j : Nat => (j : Int) := by
  unfold reachN reachI
  rw [if_pos (by unfold hasI; rw [decide_eq_true (Int.natCast_nonneg _), decide_eq_true (by omega)]; rfl), Int.toNat_natCast]
end Go.Proofs.Ytaagpnepkjkfoaa.R6
