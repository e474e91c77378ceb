/-
  A map of places to truth, as the law on nested groups fills it.
-/
import Derived.Test.YtoicfhmhnehakaaGrNp
namespace Go.Proofs.Ytoicfhmhnehakaa
open Go.RowKit Go.Shelf

def litI (k : Nat) : Lit := .int .i64 (k : Int)
theorem lawI : Maps.Keyed Try.prog 3 := Maps.int_keyed Try.underlying3
theorem keyI {k : Nat} (h : k ≤ 9223372036854775807) : keyOf Try.prog 3 (.int .i64 (k : Int)) = some (litI k) := Maps.keyOf_int_mk Try.underlying3 (WalkArith.wf_i64 (by omega))
theorem litI_inj {a b : Nat} (h : litI a = litI b) : a = b := by simp only [litI, Lit.int.injEq, true_and] at h; omega
theorem litI_key {k : Nat} (h : k ≤ 9223372036854775807) : WideAt.IsKeyLit (litI k) := lawI.key (keyI h)
/-- Block b is a map that holds true at the c places of which S says so. -/
def BSet (w : World) (b c : Nat) (S : Nat → Bool) : Prop :=
  ∃ D : DataW Unit, w.ownsMap Try.prog 3 (plainElem Try.prog 4) b c D ∧ Maps.size D = c ∧ ∀ k : Nat, Maps.has D (litI k) = S k ∧ D.atKey (litI k) (.lit (.bool false)) = .lit (.bool (S k))
theorem BSet.made (w : World) : BSet (w.alloc (.map #[] 0)) w.heap.size 0 (fun _ => false) :=
  ⟨.map [], World.ownsMap_made w _ _ _, rfl, fun _ => ⟨rfl, rfl⟩⟩
theorem BSet.lt {w : World} {b c : Nat} {S : Nat → Bool} (h : BSet w b c S) : b < w.heap.size := by obtain ⟨D, h, _⟩ := h; exact h.lt
theorem BSet.block {w w' : World} {b c : Nat} {S : Nat → Bool} (h : BSet w b c S) (hb : w'.heap[b]? = w.heap[b]?) : BSet w' b c S := by
  obtain ⟨D, ⟨es, clock, h1, h2⟩, h3⟩ := h
  exact ⟨D, ⟨es, clock, hb.trans h1, h2⟩, h3⟩
theorem BSet.below {w w' : World} {b c : Nat} {S : Nat → Bool} (h : BSet w b c S) (hb : Below w.heap.size w w') : BSet w' b c S := h.block (hb.block b h.lt)
theorem bool_inv' {P : Program} {e : TypeId} (he : P.underlying e = some .bool) {v : Value} {x : Bool} {ps : List MemPlace} (h : plainElem (H := Unit) P e v = some (.lit (.bool x), ps)) : v = .bool x := by
  unfold plainElem at h
  rw [he] at h
  cases v <;> simp at h
  rw [h.1]
theorem bool_inv {v : Value} {x : Bool} {ps : List MemPlace} (h : plainElem (H := Unit) Try.prog 4 v = some (.lit (.bool x), ps)) : v = .bool x := bool_inv' Try.underlying4 h
theorem BSet.look {w : World} {b c : Nat} {S : Nat → Bool} (h : BSet w b c S) {k : Nat} (hk : k ≤ 9223372036854775807) : (Instr.lookup 49 (.map (some b)) (.int .i64 (k : Int)) false).run Try.prog w = .ok (.bool (S k)) w := by
  obtain ⟨D, h, _, hf⟩ := h
  obtain ⟨v, ps, h1, h2⟩ := h.lookup lawI Try.underlying49 (Try.zeroValue4 _) (plainElem_bool Try.underlying4 false) (keyI hk)
  rw [(hf k).2] at h2
  rw [h1, bool_inv h2]
theorem BSet.len {w : World} {b c : Nat} {S : Nat → Bool} (h : BSet w b c S) (ty : TypeId) : (Builtin.len_ #[49] ty #[.map (some b)]).run Try.prog w = .ok (.int .i64 (c : Int)) w := by
  obtain ⟨D, h, hs, _⟩ := h
  have := h.len Try.underlying49 ty
  rw [hs] at this; exact this
theorem BSet.put {w : World} {b c : Nat} {S : Nat → Bool} (h : BSet w b c S) {k : Nat} (hk : k ≤ 9223372036854775807) (hn : S k = false) (hc : c < maxLen) :
    ∃ w1, (Instr.mapUpdate 49 (.map (some b)) (.int .i64 (k : Int)) (.bool true)).run Try.prog w = .ok () w1 ∧ BSet w1 b (c + 1) (fun j => S j || j == k) ∧ w.grownBy w1 (some b) := by
  obtain ⟨D, h, hs, hf⟩ := h
  obtain ⟨w1, h1, h2, h3⟩ := h.update lawI Try.underlying49 hc (keyI hk) (plainElem_bool Try.underlying4 true)
  refine ⟨w1, h1, ⟨_, h2, ?_, fun j => ?_⟩, h3⟩
  · rw [Maps.size_put (h.tidy lawI), (hf k).1, hn, hs]; rfl
  · by_cases e : j = k
    · subst e
      have hkl := litI_key hk
      rw [Maps.has_put_same h.isMap hkl, Maps.atKey_put_same h.isMap hkl]; simp
    · have hne : litI j ≠ litI k := fun h => e (litI_inj h)
      show _ = (S j || j == k) ∧ _ = DataW.lit (.bool (S j || j == k))
      rw [Maps.has_put_other hne, Maps.atKey_put_other hne, (hf j).1, (hf j).2, show (j == k) = false from beq_eq_false_iff_ne.2 e, Bool.or_false]
      exact ⟨rfl, rfl⟩
theorem set_ne_own {w : World} {B e z n b m : Nat} {v : Value} {xs : List Value} {S : Nat → Bool} (h : w.ownsRow B e z v n xs) (hm : BSet w b m S) : v.ownBlock ≠ some b := by
  intro hb
  obtain ⟨D, ⟨es, clock, hh, _⟩, _⟩ := hm
  rcases h.2 with ⟨rfl, _⟩ | ⟨g, cap, cur, rfl, _, hg, _⟩
  · cases hb
  · cases hb; rw [hh] at hg; cases hg

theorem filL_nodup (g : Gr) (s : Key) (m : Nat) : (filL g s m).Nodup := List.Pairwise.filter _ List.nodup_range
theorem filL_has (g : Gr) (s : Key) (m k : Nat) : (filL g s m).contains k = (decide (k < m) && inB g s g.gs.length g.es[k]!.group.toList) := by
  rw [Bool.eq_iff_iff, List.contains_iff_mem, filL, List.mem_filter, List.mem_range, Bool.and_eq_true, decide_eq_true_eq]
theorem filL_lt {g : Gr} {s : Key} {m j : Nat} (h : j < (filL g s m).length) : (filL g s m)[j]! < m := by
  have h1 := mem_at h
  have h2 : (filL g s m).contains (filL g s m)[j]! = true := List.contains_iff_mem.2 h1
  rw [filL_has, Bool.and_eq_true, decide_eq_true_eq] at h2
  exact h2.1
theorem take_not {l : List Nat} (hn : l.Nodup) {j : Nat} (hj : j < l.length) : (l.take j).contains l[j]! = false := by
  rw [Bool.eq_false_iff]
  intro h
  rw [List.contains_iff_mem] at h
  obtain ⟨i, hi, e⟩ := List.getElem_of_mem h
  rw [List.length_take] at hi
  rw [List.getElem_take, getElem!_pos l j hj] at e
  exact List.pairwise_iff_getElem.1 hn i j (by omega) hj (by omega) e
theorem take_more {l : List Nat} {j : Nat} (hj : j < l.length) (k : Nat) : (l.take (j + 1)).contains k = ((l.take j).contains k || k == l[j]!) := by
  rw [Bool.eq_iff_iff, Bool.or_eq_true, List.contains_iff_mem, List.contains_iff_mem, beq_iff_eq, List.take_succ_eq_append_getElem hj, List.mem_append, List.mem_singleton, getElem!_pos l j hj]
theorem mem_group {g : Gr} (h : mayL g = true) {i : Nat} (hi : i < g.gs.length) : memL g g.gs[i]!.name = filL g (nm g i) g.es.length := by
  rw [memL, h, if_pos rfl]
  rcases idxB_cases (named Ev.name g.gs[i]!.name) g.es with ⟨h1, _⟩ | ⟨k, hk, _, h2, _⟩
  · rw [h1, if_neg (by decide)]; rfl
  · exfalso
    have h3 : g.es[k]!.name.toList = nm g i := beq_iff_eq.1 h2
    have h4 := (may_iff.1 h).2.2.1 k hk
    have h5 : hasB (gns g) g.es[k]!.name.toList = true := by
      rw [hasB, List.contains_iff_mem, h3, ← gns_eq g (i := i) (by simp [gns]; exact hi)]; exact List.getElem_mem _
    unfold eventE at h4
    rw [h5, Bool.true_or] at h4
    split at h4
    · rw [if_pos rfl] at h4; cases h4
    · cases h4
theorem own_le (g : Gr) (s : Key) : ∀ m, own_ g s m ≤ m
  | 0 => Nat.le_refl _
  | m + 1 => by
    have := own_le g s m
    have e : own_ g s (m + 1) = own_ g s m + bit (g.es[m]!.group.toList == s) := by rw [own_, List.range_succ, List.map_append, List.sum_append]; simp [own_]
    have : bit (g.es[m]!.group.toList == s) ≤ 1 := by unfold bit; split <;> omega
    omega
theorem own_succ (g : Gr) (s : Key) (m : Nat) : own_ g s (m + 1) = own_ g s m + bit (g.es[m]!.group.toList == s) := by
  rw [own_, List.range_succ, List.map_append, List.sum_append]; simp [own_]
theorem below_succ (g : Gr) (s : Key) (j m : Nat) : below_ g s (j + 1) m = below_ g s j m + (if pr g j = s then (filL g (nm g j) m).length else 0) := by
  rw [below_, List.range_succ, List.map_append, List.sum_append]; simp [below_]
theorem below_le (g : Gr) (s : Key) (m : Nat) : ∀ j, below_ g s j m ≤ j * m
  | 0 => by simp [below_]
  | j + 1 => by
    have h1 := below_le g s m j
    have h2 := filL_le g (nm g j) m
    rw [below_succ, Nat.succ_mul]
    split <;> omega
end Go.Proofs.Ytoicfhmhnehakaa
