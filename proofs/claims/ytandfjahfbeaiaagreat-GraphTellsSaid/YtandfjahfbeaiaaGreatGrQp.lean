/-
  The document's own Above and Members, as functions on lists, are graph's. The document's own Roles, as a function on lists, is graph's: what comes in order, once, is what is sorted and made compact.
-/
import Derived.Test.YtandfjahfbeaiaaGreatGrNp
import Derived.Test.YtandfjahfbeaiaaGreatGrHa
import Derived.Test.YtandfjahfbeaiaaGreatGrRo
namespace Go.Proofs.YtandfjahfbeaiaaGreat
open Go.RowKit Go.Shelf

theorem ba_eq {a b : ByteArray} (h : a.toList = b.toList) : a = b := by
  rw [Lib.toList_data, Lib.toList_data] at h
  cases a; cases b
  exact congrArg ByteArray.mk (Array.toList_inj.1 h)
/-- Groups gone through backwards, from the k-th on. -/
def downL (g : Gr) : Nat → ByteArray → List ByteArray
  | 0, _ => []
  | k + 1, s => if g.gs[k]!.name.toList == s.toList then s :: downL g k g.gs[k]!.parent else downL g k s
theorem down_hit {g : Gr} {k : Nat} {s : ByteArray} (h : (g.gs[k]!.name.toList == s.toList) = true) : downL g (k + 1) s = s :: downL g k g.gs[k]!.parent := by rw [downL, if_pos h]
theorem down_miss {g : Gr} {k : Nat} {s : ByteArray} (h : (g.gs[k]!.name.toList == s.toList) = false) : downL g (k + 1) s = downL g k s := by rw [downL, h]; rfl
theorem down_len (g : Gr) : ∀ (k : Nat) (s : ByteArray), (downL g k s).length ≤ k
  | 0, _ => Nat.le_refl _
  | k + 1, s => by
    rw [downL]
    by_cases h : (g.gs[k]!.name.toList == s.toList) = true
    · rw [if_pos h, List.length_cons]; have := down_len g k g.gs[k]!.parent; omega
    · rw [if_neg h]; have := down_len g k s; omega
theorem down_up {g : Gr} (h : mayL g = true) : ∀ (k : Nat), k ≤ g.gs.length → ∀ s : ByteArray, idxB (named Gp.name s) g.gs < k → ∀ n, k ≤ n → downL g k s = upL g n (idxB (named Gp.name s) g.gs)
  | 0, _, s, hz, n, _ => by rw [up_no g n hz]; rfl
  | k + 1, hk, s, hz, n, hn => by
    cases hq : (g.gs[k]!.name.toList == s.toList) with
    | true =>
      have hi : idxB (named Gp.name s) g.gs = k := idxB_hit (p := named Gp.name s) (by omega) hq (fun j hj => by
        cases hc : named Gp.name s g.gs[j]! with
        | false => rfl
        | true =>
          have e1 : nm g j = nm g k := (beq_iff_eq.1 hc).trans (beq_iff_eq.1 hq).symm
          have := nm_inj h (by omega) (by omega) e1
          omega)
      obtain ⟨m, rfl⟩ : ∃ m, n = m + 1 := ⟨n - 1, by omega⟩
      rw [down_hit hq, hi, up_yes, down_up h k (by omega) g.gs[k]!.parent (up_lt h (by omega)) m (by omega), ba_eq (beq_iff_eq.1 hq)]
    | false =>
      rw [down_miss hq]
      refine down_up h k (by omega) s ?_ n (by omega)
      rcases idxB_cases (named Gp.name s) g.gs with ⟨h1, _⟩ | ⟨z, hz1, h1, h2, _⟩
      · omega
      · have : z ≠ k := by
          rintro rfl
          have h3 : (g.gs[z]!.name.toList == s.toList) = true := h2
          rw [hq] at h3; cases h3
        omega
theorem down_above {g : Gr} (h : mayL g = true) (s : ByteArray) : downL g g.gs.length s = aboveL g s := by
  rw [aboveL, h, if_pos rfl]
  exact down_up h _ (Nat.le_refl _) s (idxB_bounds _ _).2 _ (Nat.le_refl _)

/-- Is a text among some? -/
def hasT (l : List ByteArray) (s : Key) : Bool := l.any fun x => x.toList == s
theorem up_has {g : Gr} (h : mayL g = true) (s : Key) : ∀ z, z < g.gs.length → ∀ n, z < n → hasT (upL g n (z : Int)) s = inB g s g.gs.length (nm g z) := by
  intro z
  induction z using Nat.strongRecOn with
  | _ z ih =>
    intro hz n hn
    obtain ⟨m, rfl⟩ : ∃ m, n = m + 1 := ⟨n - 1, by omega⟩
    rw [up_yes, hasT, List.any_cons, Bool.eq_iff_iff, Bool.or_eq_true, beq_iff_eq, inB_rec h s hz]
    have hul := up_lt h hz
    rcases idxB_cases (named Gp.name g.gs[z]!.parent) g.gs with ⟨h1, h2⟩ | ⟨y, hy, h1, h2, _⟩
    · rw [h1, up_no g m (by omega)]
      constructor
      · rintro (e | e)
        · exact .inl e
        · simp at e
      · rintro (e | ⟨y, hy, e, _⟩)
        · exact .inl e
        · have h3 := h2 y (by omega)
          have h4 : named Gp.name g.gs[z]!.parent g.gs[y]! = true := beq_iff_eq.2 e.symm
          rw [h3] at h4; cases h4
    · rw [h1] at hul ⊢
      have hyz : y < z := by omega
      have e1 : pr g z = nm g y := (beq_iff_eq.1 h2).symm
      have h3 := ih y hyz hy m (by omega)
      rw [hasT] at h3
      rw [h3]
      constructor
      · rintro (e | e)
        · exact .inl e
        · exact .inr ⟨y, hyz, e1, e⟩
      · rintro (e | ⟨x, hx, e2, e3⟩)
        · exact .inl e
        · right
          rw [e1] at e2
          rw [e2]; exact e3
theorem above_has {g : Gr} (h : mayL g = true) (s : Key) (c : ByteArray) : hasT (aboveL g c) s = inB g s g.gs.length c.toList := by
  rw [aboveL, h, if_pos rfl]
  rcases idxB_cases (named Gp.name c) g.gs with ⟨h1, h2⟩ | ⟨y, hy, h1, h2, _⟩
  · rw [h1, up_no g _ (by omega)]
    cases hc : inB g s g.gs.length c.toList with
    | false => rfl
    | true =>
      obtain ⟨z, hz, e⟩ := inB_has hc
      have h3 := h2 z hz
      have h4 : named Gp.name c g.gs[z]! = true := beq_iff_eq.2 e
      rw [h3] at h4; cases h4
  · rw [h1, up_has h s y hy _ hy]
    exact congrArg _ (beq_iff_eq.1 h2)
/-- Is an event of a name, or in a group of that name? -/
def memR (g : Gr) (s : ByteArray) (i : Nat) : Bool := g.es[i]!.name.toList == s.toList || hasT (aboveL g g.es[i]!.group) s.toList
def memF (g : Gr) (s : ByteArray) (k : Nat) : List Nat := (List.range k).filter (memR g s)
theorem memF_yes {g : Gr} {s : ByteArray} {k : Nat} (h : memR g s k = true) : memF g s (k + 1) = memF g s k ++ [k] := by
  simp only [memF, List.range_succ, List.filter_append, List.filter_cons, h, if_true, List.filter_nil]
theorem memF_no {g : Gr} {s : ByteArray} {k : Nat} (h : memR g s k = false) : memF g s (k + 1) = memF g s k := by
  simp only [memF, List.range_succ, List.filter_append, List.filter_cons, h, Bool.false_eq_true, if_false, List.filter_nil, List.append_nil]
theorem memF_le (g : Gr) (s : ByteArray) (k : Nat) : (memF g s k).length ≤ k := by
  have := List.length_filter_le (memR g s) (List.range k)
  rw [List.length_range] at this; exact this
theorem range_one (q : Nat) : ∀ n, (List.range n).filter (fun i => i == q) = if q < n then [q] else []
  | 0 => rfl
  | n + 1 => by
    rw [List.range_succ, List.filter_append, range_one q n, List.filter_cons]
    by_cases e : n = q
    · subst e
      rw [if_neg (Nat.lt_irrefl _), if_pos (Nat.lt_succ_self _), if_pos (by simp)]; rfl
    · have e' : ¬ ((n == q) = true) := fun h => e (beq_iff_eq.1 h)
      rw [List.filter_nil, if_neg e', List.append_nil]
      by_cases h : q < n
      · rw [if_pos h, if_pos (by omega)]
      · rw [if_neg h, if_neg (by omega)]
theorem may_event {g : Gr} (h : mayL g = true) {i : Nat} (hi : i < g.es.length) : hasB (gns g) g.es[i]!.name.toList = false ∧ aheadB (ens g) g.es[i]!.name.toList i = false := by
  have h1 := (may_iff.1 h).2.2.1 i hi
  unfold eventE at h1
  by_cases a : (nameK g.es[i]!.name.toList && nameK g.es[i]!.role.toList && (g.es[i]!.group.toList == [] || nameK g.es[i]!.group.toList)) = true
  · rw [if_pos a] at h1
    by_cases b : (hasB (gns g) g.es[i]!.name.toList || aheadB (ens g) g.es[i]!.name.toList i) = true
    · rw [if_pos b] at h1; cases h1
    · simpa using b
  · rw [if_neg a] at h1; cases h1
theorem ev_inj {g : Gr} (h : mayL g = true) {i j : Nat} (hj : j < g.es.length) (hij : i < j) : g.es[i]!.name.toList ≠ g.es[j]!.name.toList := by
  intro e
  have h1 := (may_event h hj).2
  have h2 : aheadB (ens g) g.es[j]!.name.toList j = true := ahead_hit Ev.name hij (by omega) (beq_iff_eq.2 e)
  rw [h1] at h2; cases h2
theorem not_group {g : Gr} (h : mayL g = true) {i : Nat} (hi : i < g.es.length) (c : Key) : inB g g.es[i]!.name.toList g.gs.length c = false := by
  cases hc : inB g g.es[i]!.name.toList g.gs.length c with
  | false => rfl
  | true =>
    exfalso
    have key : ∀ z, z < g.gs.length → inB g g.es[i]!.name.toList g.gs.length (nm g z) = true → ∃ y, y < g.gs.length ∧ nm g y = g.es[i]!.name.toList := by
      intro z
      induction z using Nat.strongRecOn with
      | _ z ih =>
        intro hz h1
        rcases (inB_rec h _ hz).1 h1 with e | ⟨y, hy, _, h2⟩
        · exact ⟨z, hz, e⟩
        · exact ih y hy (by omega) h2
    obtain ⟨z, hz, rfl⟩ := inB_has hc
    obtain ⟨y, hy, e⟩ := key z hz hc
    have h1 := (may_event h hi).1
    have h2 : hasB (gns g) g.es[i]!.name.toList = true := by
      rw [← e]
      exact List.contains_iff_mem.2 (List.mem_of_getElem? (gns_at g hy))
    rw [h1] at h2; cases h2
theorem memF_mem {g : Gr} (h : mayL g = true) (s : ByteArray) : memF g s g.es.length = memL g s := by
  rw [memL, h, if_pos rfl, memF]
  rcases idxB_cases (named Ev.name s) g.es with ⟨h1, h2⟩ | ⟨q, hq, h1, h2, h3⟩
  · rw [h1, if_neg (by omega), filL]
    refine List.filter_congr fun i hi => ?_
    have hi' := List.mem_range.1 hi
    have h4 : (g.es[i]!.name.toList == s.toList) = false := h2 i hi'
    rw [memR, h4, Bool.false_or, above_has h]
  · rw [h1, if_pos (Int.natCast_nonneg _), Int.toNat_natCast]
    have e : ∀ i ∈ List.range g.es.length, memR g s i = (i == q) := by
      intro i hi
      have hi' := List.mem_range.1 hi
      have hs : g.es[q]!.name.toList = s.toList := beq_iff_eq.1 h2
      rw [memR, above_has h, ← hs, not_group h hq, Bool.or_false, Bool.eq_iff_iff, beq_iff_eq, beq_iff_eq]
      constructor
      · intro e
        rcases Nat.lt_trichotomy i q with hl | hl | hl
        · exact absurd e (ev_inj h hq hl)
        · exact hl
        · exact absurd e.symm (ev_inj h hi' hl)
      · rintro rfl; rfl
    rw [List.filter_congr e, range_one, if_pos hq]
end Go.Proofs.YtandfjahfbeaiaaGreat
namespace Go.Proofs.YtandfjahfbeaiaaGreat
open Go.RowKit Go.Shelf

theorem key_tri (a b : Key) : a < b ∨ a = b ∨ b < a := by
  by_cases h1 : a < b
  · exact .inl h1
  · by_cases h2 : b < a
    · exact .inr (.inr h2)
    · exact .inr (.inl (List.le_antisymm (List.not_lt.1 h2) (List.not_lt.1 h1)))
/-- A word comes into a list in order, once. -/
def addK : List ByteArray → ByteArray → List ByteArray
  | [], s => [s]
  | x :: r, s => if x.toList < s.toList then x :: addK r s else if x.toList == s.toList then x :: r else s :: x :: r
theorem add_len (l : List ByteArray) (s : ByteArray) : (addK l s).length ≤ l.length + 1 := by
  induction l with
  | nil => exact Nat.le_refl _
  | cons x r ih =>
    rw [addK]
    by_cases h : x.toList < s.toList
    · rw [if_pos h, List.length_cons, List.length_cons]; omega
    · rw [if_neg h]
      by_cases h2 : (x.toList == s.toList) = true
      · rw [if_pos h2, List.length_cons]; omega
      · rw [if_neg h2]; simp
theorem add_at (s : ByteArray) : ∀ (l : List ByteArray) (j : Nat), j ≤ l.length → (∀ i, i < j → l[i]!.toList < s.toList) → (j < l.length → ¬ l[j]!.toList < s.toList) →
    addK l s = if j < l.length ∧ (l[j]!.toList == s.toList) = true then l else l.take j ++ s :: l.drop j
  | [], j, hj, _, _ => by
    obtain rfl : j = 0 := by simpa using hj
    rfl
  | x :: r, 0, _, _, h => by
    have h0 : ¬ x.toList < s.toList := h (by simp)
    rw [addK, if_neg h0]
    by_cases h2 : (x.toList == s.toList) = true
    · rw [if_pos h2, if_pos ⟨by simp, h2⟩]
    · rw [if_neg h2, if_neg (fun e => h2 e.2)]; rfl
  | x :: r, j + 1, hj, h1, h2 => by
    have h0 : x.toList < s.toList := h1 0 (by omega)
    have ih := add_at s r j (by simpa using hj) (fun i hi => h1 (i + 1) (by omega)) (fun hl => h2 (by simpa using hl))
    rw [addK, if_pos h0, ih]
    by_cases h3 : j < r.length ∧ (r[j]!.toList == s.toList) = true
    · rw [if_pos h3, if_pos ⟨by simpa using h3.1, h3.2⟩]
    · rw [if_neg h3, if_neg (fun e => h3 ⟨by simpa using e.1, e.2⟩)]; rfl
def Up (l : List Key) : Prop := l.Pairwise (· < ·)
def tl (l : List ByteArray) : List Key := l.map (·.toList)
theorem add_mem (s : ByteArray) (k : Key) : ∀ l : List ByteArray, k ∈ tl (addK l s) ↔ k ∈ tl l ∨ k = s.toList
  | [] => by simp [addK, tl]
  | x :: r => by
    have ih := add_mem s k r
    rw [addK]
    by_cases h : x.toList < s.toList
    · rw [if_pos h]
      simp only [tl, List.map_cons, List.mem_cons] at ih ⊢
      rw [ih, or_assoc]
    · rw [if_neg h]
      by_cases h2 : (x.toList == s.toList) = true
      · rw [if_pos h2]
        have h3 := beq_iff_eq.1 h2
        simp only [tl, List.map_cons, List.mem_cons]
        constructor
        · exact fun e => .inl e
        · rintro (e | e)
          · exact e
          · left; rw [h3]; exact e
      · rw [if_neg h2]
        simp only [tl, List.map_cons, List.mem_cons]
        constructor
        · rintro (e | e)
          · exact .inr e
          · exact .inl e
        · rintro (e | e)
          · exact .inr e
          · exact .inl e
theorem add_up (s : ByteArray) : ∀ l : List ByteArray, Up (tl l) → Up (tl (addK l s))
  | [], _ => by simp [addK, tl, Up]
  | x :: r, hu => by
    have hu' : (∀ k ∈ tl r, x.toList < k) ∧ Up (tl r) := List.pairwise_cons.1 hu
    have ih := add_up s r hu'.2
    rw [addK]
    by_cases h : x.toList < s.toList
    · rw [if_pos h]
      refine List.pairwise_cons.2 ⟨fun k hk => ?_, ih⟩
      rcases (add_mem s k r).1 hk with e | rfl
      · exact hu'.1 k e
      · exact h
    · rw [if_neg h]
      by_cases h2 : (x.toList == s.toList) = true
      · rw [if_pos h2]; exact hu
      · rw [if_neg h2]
        have h3 : s.toList < x.toList := by
          rcases key_tri x.toList s.toList with e | e | e
          · exact absurd e h
          · exact absurd (beq_iff_eq.2 e) h2
          · exact e
        refine List.pairwise_cons.2 ⟨fun k hk => ?_, hu⟩
        rcases List.mem_cons.1 (show k ∈ x.toList :: tl r from hk) with rfl | e
        · exact h3
        · exact List.lt_trans h3 (hu'.1 k e)
theorem up_ext : ∀ {a b : List Key}, Up a → Up b → (∀ k, k ∈ a ↔ k ∈ b) → a = b
  | [], [], _, _, _ => rfl
  | [], y :: b, _, _, h => by have := (h y).2 (List.mem_cons_self ..); cases this
  | x :: a, [], _, _, h => by have := (h x).1 (List.mem_cons_self ..); cases this
  | x :: a, y :: b, ha, hb, h => by
    obtain ⟨ha1, ha2⟩ := List.pairwise_cons.1 ha
    obtain ⟨hb1, hb2⟩ := List.pairwise_cons.1 hb
    have hxy : x = y := by
      rcases List.mem_cons.1 ((h x).1 (List.mem_cons_self ..)) with e | e
      · exact e
      · rcases List.mem_cons.1 ((h y).2 (List.mem_cons_self ..)) with e2 | e2
        · exact e2.symm
        · exact absurd (List.lt_trans (hb1 x e) (ha1 y e2)) (List.lt_irrefl _)
    subst hxy
    congr 1
    refine up_ext ha2 hb2 fun k => ?_
    constructor
    · intro hk
      rcases List.mem_cons.1 ((h k).1 (List.mem_cons_of_mem _ hk)) with e | e
      · subst e; exact absurd (ha1 k hk) (List.lt_irrefl _)
      · exact e
    · intro hk
      rcases List.mem_cons.1 ((h k).2 (List.mem_cons_of_mem _ hk)) with e | e
      · subst e; exact absurd (hb1 k hk) (List.lt_irrefl _)
      · exact e
def addAll (l xs : List ByteArray) : List ByteArray := xs.foldl addK l
theorem addAll_up : ∀ (xs l : List ByteArray), Up (tl l) → Up (tl (addAll l xs))
  | [], _, h => h
  | x :: r, l, h => addAll_up r (addK l x) (add_up x l h)
theorem addAll_mem (k : Key) : ∀ (xs l : List ByteArray), k ∈ tl (addAll l xs) ↔ k ∈ tl l ∨ k ∈ tl xs
  | [], l => by simp [addAll, tl]
  | x :: r, l => by
    have ih := addAll_mem k r (addK l x)
    rw [show addAll l (x :: r) = addAll (addK l x) r from rfl, ih, add_mem]
    simp only [tl, List.map_cons, List.mem_cons, or_assoc]
theorem addAll_snoc (l xs : List ByteArray) (s : ByteArray) : addAll l (xs ++ [s]) = addK (addAll l xs) s := by simp [addAll]
theorem addAll_app (l xs ys : List ByteArray) : addAll l (xs ++ ys) = addAll (addAll l xs) ys := by simp [addAll]
theorem addAll_len : ∀ (xs l : List ByteArray), (addAll l xs).length ≤ l.length + xs.length
  | [], l => Nat.le_refl _
  | x :: r, l => by
    have h1 := addAll_len r (addK l x)
    have h2 := add_len l x
    rw [show addAll l (x :: r) = addAll (addK l x) r from rfl, List.length_cons]; omega

/-! ### what is sorted and made compact -/
theorem comp_mem (zs : List Key) (k : Key) : ∀ m, m ≤ zs.length → (k ∈ Lib.compactUpTo zs.toArray m ↔ ∃ j, j < m ∧ zs[j]? = some k)
  | 0, _ => by simp [Lib.compactUpTo]
  | m + 1, hm => by
    have ih := comp_mem zs k m (by omega)
    have hat : ∀ j, j < zs.length → zs.toArray[j]! = zs[j]! := fun j hj => by simp [hj]
    rw [Lib.compactUpTo_succ, List.mem_append, ih]
    have hmm : zs[m]? = some zs[m]! := by rw [List.getElem?_eq_getElem (by omega), getElem!_pos zs m (by omega)]
    by_cases hk : Lib.keeps zs.toArray m = true
    · rw [if_pos hk, List.mem_singleton, hat m (by omega)]
      constructor
      · rintro (⟨j, hj, e⟩ | e)
        · exact ⟨j, by omega, e⟩
        · exact ⟨m, by omega, by rw [hmm, e]⟩
      · rintro ⟨j, hj, e⟩
        rcases Nat.lt_or_ge j m with h | h
        · exact .inl ⟨j, h, e⟩
        · obtain rfl : j = m := by omega
          rw [hmm] at e
          exact .inr (Option.some.inj e).symm
    · rw [if_neg hk]
      simp only [List.not_mem_nil, or_false]
      constructor
      · rintro ⟨j, hj, e⟩; exact ⟨j, by omega, e⟩
      · rintro ⟨j, hj, e⟩
        rcases Nat.lt_or_ge j m with h | h
        · exact ⟨j, h, e⟩
        · obtain rfl : j = m := by omega
          simp only [Lib.keeps, decide_eq_true_eq, not_or, Decidable.not_not] at hk
          refine ⟨j - 1, by omega, ?_⟩
          rw [← e, hmm, List.getElem?_eq_getElem (by omega), ← getElem!_pos zs (j - 1) (by omega), ← hat (j - 1) (by omega), ← hk.2, hat j (by omega)]
theorem comp_up {zs : List Key} (hs : zs.Pairwise (· ≤ ·)) : ∀ m, m ≤ zs.length → Up (Lib.compactUpTo zs.toArray m)
  | 0, _ => by simp [Lib.compactUpTo, Up]
  | m + 1, hm => by
    have ih := comp_up hs m (by omega)
    rw [Lib.compactUpTo_succ]
    by_cases hk : Lib.keeps zs.toArray m = true
    · rw [if_pos hk]
      refine List.pairwise_append.2 ⟨ih, List.pairwise_singleton _ _, fun a ha b hb => ?_⟩
      rw [List.mem_singleton] at hb
      subst hb
      obtain ⟨j, hj, e⟩ := (comp_mem zs a m (by omega)).1 ha
      have hat : zs.toArray[m]! = zs[m]! := by simp [show m < zs.length by omega]
      rw [hat]
      have hle : ∀ i k, i < k → (hk : k < zs.length) → zs[i]! ≤ zs[k]! := fun i k hik hk => by
        rw [getElem!_pos zs i (by omega), getElem!_pos zs k hk]
        exact List.pairwise_iff_getElem.1 hs i k (by omega) hk hik
      have hne : zs[m]! ≠ zs[m - 1]! := by
        have h1 : m ≠ 0 := by omega
        simp only [Lib.keeps, decide_eq_true_eq] at hk
        rcases hk with h2 | h2
        · exact absurd h2 h1
        · rw [hat] at h2
          have h3 : zs.toArray[m - 1]! = zs[m - 1]! := by simp [show m - 1 < zs.length by omega]
          rw [h3] at h2; exact h2
      have hea : a = zs[j]! := by rw [getElem!_pos zs j (by omega)]; rw [List.getElem?_eq_getElem (by omega)] at e; exact (Option.some.inj e).symm
      have h1 : a ≤ zs[m - 1]! := by
        rw [hea]
        rcases Nat.lt_or_ge j (m - 1) with h | h
        · exact hle j (m - 1) h (by omega)
        · obtain rfl : j = m - 1 := by omega
          exact List.le_refl _
      have h2 : zs[m - 1]! ≤ zs[m]! := hle (m - 1) m (by omega) (by omega)
      have h3 : zs[m - 1]! < zs[m]! := by
        rcases key_tri zs[m - 1]! zs[m]! with e | e | e
        · exact e
        · exact absurd e.symm hne
        · exact absurd e (List.not_lt.2 h2)
      rcases key_tri a zs[m]! with e | e | e
      · exact e
      · rw [e] at h1; exact absurd h3 (List.not_lt.2 h1)
      · exact absurd (List.lt_trans h3 e) (List.not_lt.2 h1)
    · rw [if_neg hk, List.append_nil]; exact ih
theorem sort_up (l : List Key) : (sortK l).Pairwise (· ≤ ·) := by
  have h := List.pairwise_mergeSort (le := fun x y : Key => decide (x ≤ y)) (fun a b c h1 h2 => by
      simp only [decide_eq_true_eq] at h1 h2 ⊢; exact List.le_trans h1 h2) (fun a b => by
      simp only [Bool.or_eq_true, decide_eq_true_eq]; exact List.le_total a b) l
  exact h.imp (fun h => by simpa using h)
theorem sort_mem (l : List Key) (k : Key) : k ∈ sortK l ↔ k ∈ l := by
  rw [sortK]; exact List.mem_mergeSort
theorem compact_up (l : List Key) : Up (Lib.compact (sortK l)) := comp_up (sort_up l) _ (Nat.le_refl _)
theorem compact_mem (l : List Key) (k : Key) : k ∈ Lib.compact (sortK l) ↔ k ∈ l := by
  rw [Lib.compact, comp_mem _ _ _ (Nat.le_refl _), ← sort_mem l k]
  constructor
  · rintro ⟨j, _, e⟩; exact List.mem_of_getElem? e
  · intro h
    obtain ⟨j, hj, e⟩ := List.getElem_of_mem h
    exact ⟨j, hj, by rw [List.getElem?_eq_getElem hj, e]⟩
theorem tl_str (l : List Key) : tl (l.map strK) = l := by
  rw [tl, List.map_map]
  refine List.map_id'' (fun k => ?_) _
  show ByteArray.toList ⟨k.toArray⟩ = k
  rw [Lib.toList_data]
theorem tl_inj : ∀ {a b : List ByteArray}, tl a = tl b → a = b
  | [], [], _ => rfl
  | [], _ :: _, h => by cases h
  | _ :: _, [], h => by cases h
  | x :: a, y :: b, h => by
    simp only [tl, List.map_cons, List.cons.injEq] at h
    rw [ba_eq h.1, tl_inj (show tl a = tl b from h.2)]
theorem roles_add {g : Gr} (h : mayL g = true) : addAll [] (rolesAll g) = rolesL g := by
  rw [rolesL, h, if_pos rfl]
  refine tl_inj (up_ext (addAll_up _ _ List.Pairwise.nil) ?_ fun k => ?_)
  · rw [tl_str]; exact compact_up _
  · rw [tl_str, rolesK, compact_mem, addAll_mem]
    have e : (rolesAll g).map (·.data.toList) = tl (rolesAll g) := List.map_congr_left fun x _ => (Lib.toList_data x).symm
    rw [e]
    simp [tl]
end Go.Proofs.YtandfjahfbeaiaaGreat
