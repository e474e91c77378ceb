/-
  MarkTells: what it needs, plainly; the frame of its walk.
-/
import Derived.Test.YtplplkchibefjaaMkDoes
import Derived.Test.YtplplkchibefjaaMkRf
import Derived.Test.YtplplkchibefjaaMkRg
namespace Go.Proofs.Ytplplkchibefjaa.M5.Tells
open Go.RowKit Go.Shelf Go.Proofs.Ytplplkchibefjaa.B Go.Proofs.Ytplplkchibefjaa.M5 Go.Proofs.Ytplplkchibefjaa.M5.Does

/-- Which of the first k events are enabled. -/
def allJ (n : Nat) (ts : List Ti) (l : List Mk) (k : Nat) : List Nat := (List.range k).filter (fun (q : Nat) => enabledB n ts l (q : Int))
theorem allJ_yes {n : Nat} {ts : List Ti} {l : List Mk} {k : Nat} (h : enabledB n ts l (k : Int) = true) : allJ n ts l (k + 1) = allJ n ts l k ++ [k] := by
  simp only [allJ, List.range_succ, List.filter_append, List.filter_cons, h, if_true, List.filter_nil]
theorem allJ_no {n : Nat} {ts : List Ti} {l : List Mk} {k : Nat} (h : enabledB n ts l (k : Int) = false) : allJ n ts l (k + 1) = allJ n ts l k := by
  simp only [allJ, List.range_succ, List.filter_append, List.filter_cons, h, Bool.false_eq_true, if_false, List.filter_nil, List.append_nil]
theorem allJ_le (n : Nat) (ts : List Ti) (l : List Mk) (k : Nat) : (allJ n ts l k).length ≤ k := by
  have := List.length_filter_le (fun (q : Nat) => enabledB n ts l (q : Int)) (List.range k)
  rw [List.length_range] at this; exact this
theorem allJ_all (n : Nat) (ts : List Ti) (l : List Mk) : allI n ts l = allJ n ts l l.length := by
  unfold allI
  by_cases hf : fitsB n l = true
  · rw [if_pos hf]
    unfold allL allJ
    refine List.filter_congr (fun q hq => ?_)
    unfold enabledB
    rw [hf, has_nat (List.mem_range.1 hq)]
    simp
  · rw [if_neg hf]
    unfold allJ
    symm
    rw [List.filter_eq_nil_iff]
    intro q _
    unfold enabledB
    rw [Bool.not_eq_true] at hf
    rw [hf]; simp
theorem allJ_more (n : Nat) (ts : List Ti) (l : List Mk) {k : Nat} (h : enabledB n ts l (k : Int) = true) : ∀ m, k < m → ∃ s, allJ n ts l m = allJ n ts l k ++ k :: s
  | 0, hk => absurd hk (Nat.not_lt_zero _)
  | m + 1, hk => by
    by_cases e : k = m
    · subst e; exact ⟨[], allJ_yes h⟩
    · obtain ⟨s, hs⟩ := allJ_more n ts l h m (by omega)
      cases hm : enabledB n ts l (m : Int) with
      | true => exact ⟨s ++ [m], by rw [allJ_yes hm, hs, List.append_assoc, List.cons_append]⟩
      | false => exact ⟨s, by rw [allJ_no hm, hs]⟩
theorem allJ_at {n : Nat} {ts : List Ti} {l : List Mk} {k : Nat} (h : enabledB n ts l (k : Int) = true) (hk : k < l.length) :
    (allJ n ts l k).length < (allI n ts l).length ∧ (allI n ts l)[(allJ n ts l k).length]! = k := by
  obtain ⟨s, hs⟩ := allJ_more n ts l h l.length hk
  rw [allJ_all, hs]
  refine ⟨by simp, ?_⟩
  rw [List.getElem!_eq_getElem?_getD, List.getElem?_append_right (Nat.le_refl _), Nat.sub_self]
  rfl
theorem allI_len (n : Nat) (ts : List Ti) (l : List Mk) : (allI n ts l).length ≤ l.length := by rw [allJ_all]; exact allJ_le _ _ _ _
theorem int_row {W : World} {B n cap : Nat} {A : Option Addr} {L : List Nat} {k : Nat} (h : W.ownsRow B 3 1 (.slice A n cap) n (intC L)) (hL : L.length = n) (hk : k < n) :
    ∃ g, A = some ⟨g, 0, none⟩ ∧ g < W.heap.size ∧ W.cell? ⟨g, k, none⟩ = some (.int .i64 (L[k]! : Int)) := by
  obtain ⟨g, cap', e, _, hg⟩ := own_head h (by omega)
  injection e with e1 _ _
  subst e1
  refine ⟨g, rfl, hg, ?_⟩
  have := h.cells (g := g) rfl k (.int .i64 (L[k]! : Int)) (by unfold intC; rw [List.getElem?_map, List.getElem?_eq_getElem (by omega), getElem!_pos L k (by omega)]; rfl)
  rw [Addr.add_lit, Nat.zero_add] at this; exact this
/-- What stands as it did while MarkTells walks: the boxes, the ties that were copied, all that is enabled. -/
structure TS (w : World) (X : Nat) (fl gl : Array Value) (TB : Option Addr) (ts : List Ti) (v : Value) (L : List Nat) (W : World) : Prop where
  x : XF w X fl gl W
  u : Row W TB (ts.flatMap tiC)
  a : W.ownsRow w.heap.size 3 1 v L.length (intC L)
section
variable {w W W' : World} {X : Nat} {fl gl : Array Value} {TB : Option Addr} {ts : List Ti} {v : Value} {L : List Nat}
theorem TS.call (h : TS w X fl gl TB ts v L W) (hb : Below W.heap.size W W') : TS w X fl gl TB ts v L W' := ⟨h.x.call hb, h.u.below (Nat.le_refl _) hb, own_below h.a hb⟩
theorem TS.drew (h : TS w X fl gl TB ts v L W) : TS w X fl gl TB ts v L W.drew := h.call (below_draws (Below.refl _ _) 1)
end
end Go.Proofs.Ytplplkchibefjaa.M5.Tells
