/-
  The net of needs in memory, while it is made: plain facts; rows that grow and are sorted.
-/
import Derived.Test.YtaagpnepkjkfoaaNdN
namespace Go.Proofs.Ytaagpnepkjkfoaa.N7
open Go.RowKit Go.Shelf Go.Proofs.Ytaagpnepkjkfoaa.B Go.Proofs.Ytaagpnepkjkfoaa.R6

/-! ### plain -/
structure LP (N : Nat) (S : Nat → Nat → Bool) (left : Lit → Bool) (ls : List (List Int)) : Prop where
  len : ls.length = N
  nd : ∀ a : Nat, a < N → (ls[a]!).Nodup
  mem : ∀ a : Nat, a < N → ∀ x : Int, x ∈ ls[a]! ↔ ∃ b : Nat, b < N ∧ S a b = true ∧ left (wlit a b) = false ∧ x = (b : Int)
theorem wl_ne {N a b c d : Nat} (hN : N ≤ 1000000) (ha : a < N) (hb : b < N) (hc : c < N) (hd : d < N) (h : ¬ (a = c ∧ b = d)) : wlit (a : Int) (b : Int) ≠ wlit (c : Int) (d : Int) := fun e => by
  obtain ⟨h1, h2⟩ := wlit_inj (wfN (n := a) (by omega)) (wfN (n := b) (by omega)) (wfN (n := c) (by omega)) (wfN (n := d) (by omega)) e
  exact h ⟨by omega, by omega⟩
theorem wl_key {N a b : Nat} (hN : N ≤ 1000000) (ha : a < N) (hb : b < N) : WideAt.IsKeyLit (wlit (a : Int) (b : Int)) := lawW.key (keyW (wfN (n := a) (by omega)) (wfN (n := b) (by omega)))
theorem LP.next {N a b : Nat} {S : Nat → Nat → Bool} {left : Lit → Bool} {ls : List (List Int)} (h : LP N S left ls) (hN : N ≤ 1000000) (ha : a < N) (hb : b < N) (hS : S a b = true) (hl : left (wlit a b) = true) :
    LP N S (fun z => left z && !z.sameKey (wlit a b)) (ls.set a (ls[a]! ++ [(b : Int)])) := by
  have hal : a < ls.length := by rw [h.len]; exact ha
  have hself := WideAt.sameKey_self (wl_key hN ha hb)
  have hother : ∀ a' b' : Nat, a' < N → b' < N → ¬ (a' = a ∧ b' = b) → (left (wlit a' b') && !(wlit a' b').sameKey (wlit a b)) = left (wlit a' b') := fun a' b' h1 h2 h3 => by
    rw [Maps.sameKey_ne (wl_ne hN h1 h2 ha hb h3)]; simp
  refine ⟨by rw [List.length_set]; exact h.len, fun i hi => ?_, fun i hi x => ?_⟩
  · rw [set_get hal]
    by_cases e : i = a
    · subst e
      rw [if_pos rfl, List.nodup_append]
      refine ⟨h.nd i hi, by simp, fun x hx y hy e => ?_⟩
      obtain rfl : y = (b : Int) := by simpa using hy
      subst e
      obtain ⟨b', h1, h2, h3, h4⟩ := (h.mem i hi _).1 hx
      obtain rfl : b' = b := by omega
      rw [hl] at h3; cases h3
    · rw [if_neg e]; exact h.nd i hi
  · rw [set_get hal]
    by_cases e : i = a
    · subst e
      rw [if_pos rfl, List.mem_append, h.mem i hi]
      constructor
      · rintro (⟨b', h1, h2, h3, h4⟩ | hx)
        · exact ⟨b', h1, h2, by rw [h3]; rfl, h4⟩
        · exact ⟨b, hb, hS, by show (left _ && !_) = false; rw [hself]; simp, by simpa using hx⟩
      · rintro ⟨b', h1, h2, h3, h4⟩
        by_cases e2 : b' = b
        · subst e2; exact .inr (by simp [h4])
        · have h3' : (left (wlit i b') && !(wlit i b').sameKey (wlit i b)) = false := h3
          rw [hother i b' hi h1 (fun h => e2 h.2)] at h3'
          exact .inl ⟨b', h1, h2, h3', h4⟩
    · rw [if_neg e, h.mem i hi]
      constructor
      · rintro ⟨b', h1, h2, h3, h4⟩
        exact ⟨b', h1, h2, by rw [h3]; rfl, h4⟩
      · rintro ⟨b', h1, h2, h3, h4⟩
        have h3' : (left (wlit i b') && !(wlit i b').sameKey (wlit a b)) = false := h3
        rw [hother i b' hi h1 (fun h => e h.1)] at h3'
        exact ⟨b', h1, h2, h3', h4⟩
theorem LP.start {N : Nat} {S : Nat → Nat → Bool} {D : DataW Unit} (hS : ∀ l, Maps.has D l = true ↔ WL N S l) : LP N S (Maps.has D) (List.replicate N []) := by
  have hget : ∀ i : Nat, i < N → (List.replicate N ([] : List Int))[i]! = [] := fun i hi => by rw [getElem!_pos _ i (by simpa using hi)]; simp
  refine ⟨by simp, fun i hi => by rw [hget i hi]; exact List.nodup_nil, fun i hi x => ?_⟩
  rw [hget i hi]
  constructor
  · intro h; cases h
  · rintro ⟨b, h1, h2, h3, _⟩
    rw [(hS _).2 ⟨i, b, hi, h1, h2, rfl⟩] at h3; cases h3
theorem LP.sorted {N a : Nat} {S : Nat → Nat → Bool} {left : Lit → Bool} {ls : List (List Int)} (h : LP N S left ls) (hl : ∀ l, left l = false) (ha : a < N) : (ls[a]!).mergeSort (fun x y => decide (x ≤ y)) = inL N (S a) := by
  have hp : (ls[a]!).Perm (inL N (S a)) := (List.perm_ext_iff_of_nodup (h.nd a ha) ((inL_up N (S a)).imp (fun h => by omega))).2 (fun x => by
    rw [h.mem a ha, inL_mem]
    constructor
    · rintro ⟨b, h1, h2, _, h4⟩; exact ⟨b, h1, h2, h4⟩
    · rintro ⟨b, h1, h2, h4⟩; exact ⟨b, h1, h2, hl _, h4⟩)
  exact (mergeSort_of_perm_i hp).trans (inL_sorted N (S a))
theorem LP.lens {N a : Nat} {S : Nat → Nat → Bool} {left : Lit → Bool} {ls : List (List Int)} (h : LP N S left ls) (ha : a < N) : (ls[a]!).length ≤ N := by
  have hp : (ls[a]!).Perm (inL N (fun b => S a b && !left (wlit a b))) := (List.perm_ext_iff_of_nodup (h.nd a ha) ((inL_up N _).imp (fun h => by omega))).2 (fun x => by
    rw [h.mem a ha, inL_mem]
    constructor
    · rintro ⟨b, h1, h2, h3, h4⟩; exact ⟨b, h1, by rw [h2, h3]; rfl, h4⟩
    · rintro ⟨b, h1, h2, h4⟩
      rw [Bool.and_eq_true, Bool.not_eq_true'] at h2
      exact ⟨b, h1, h2.1, h2.2, h4⟩)
  rw [hp.length_eq]
  exact inL_len _ _

/-! ### memory -/
theorem grown_set {w : World} (b i : Nat) (u : Value) : w.grownBy (w.setCell ⟨b, i, none⟩ u) (some b) := ⟨rfl, rfl, rfl, by simp, fun k _ hk => Below.heap_setCell _ _ _ _ (fun e => hk (by rw [e]))⟩
theorem grown_drew {w : World} {row : Option Nat} : w.grownBy w.drew row := ⟨rfl, rfl, rfl, Nat.le_refl _, fun _ _ _ => rfl⟩
theorem own_far_rg {W : World} {B e z k n b r cnt : Nat} {v : Value} {xs : List Value} {T : TypeId} {D : DataW Unit} {left : Lit → Bool} (h : W.ownsRow B e z v k xs) (hr : W.ranges Try.prog T Ru b r n D left cnt) : v.ownBlock ≠ some b ∧ v.ownBlock ≠ some r := by
  obtain ⟨es, clock, since, seen, c0, hb, _, _, _, hi, _⟩ := hr
  rcases h.2 with ⟨rfl, _⟩ | ⟨g, cap, cur, rfl, _, hg, _⟩
  · exact ⟨fun e => (by cases e), fun e => (by cases e)⟩
  · constructor
    · intro e
      simp only [Value.ownBlock, Option.some.injEq] at e
      subst e; rw [hb] at hg; cases hg
    · intro e
      simp only [Value.ownBlock, Option.some.injEq] at e
      subst e; rw [hi] at hg; cases hg
/-- What stands while the net is made. -/
structure NR (w : World) (N g m r c : Nat) (S : Nat → Nat → Bool) (D : DataW Unit) (left : Lit → Bool) (cnt : Nat) (left2 : Lit → Bool) (vs : List Value) (ls : List (List Int)) (W : World) : Prop where
  rg : W.ranges Try.prog 92 Ru m r c D left cnt
  o : ORv w.heap.size w.heap.size W (.slice (some ⟨g, 0, none⟩) N N) vs ls
  p : LP N S left2 ls
  l : Below w.heap.size w W
section
variable {w W W1 : World} {N g m r c cnt cnt1 : Nat} {S : Nat → Nat → Bool} {D : DataW Unit} {left left1 left2 : Lit → Bool} {vs : List Value} {ls : List (List Int)}
theorem NR.grown (h : NR w N g m r c S D left cnt left2 vs ls W) (hg : W.grownBy W1 none) : NR w N g m r c S D left cnt left2 vs ls W1 :=
  ⟨h.rg.kept hg (by simp) (by simp), h.o.keep (fun q hq => hg.block q (by
    rcases hq with hq | ⟨i, hi, hq⟩
    · exact (own_block h.o.out hq).2
    · exact (own_block (h.o.inn i hi) hq).2) (by simp)), h.p, h.l.grown hg h.l.size (fun j hj => by cases hj)⟩
theorem NR.come (h : NR w N g m r c S D left cnt left2 vs ls W) (hrg : W1.ranges Try.prog 92 Ru m r c D left1 cnt1) (hg : W.grownBy W1 (some r)) (hr : w.heap.size ≤ r) : NR w N g m r c S D left1 cnt1 left2 vs ls W1 :=
  ⟨hrg, h.o.keep (fun q hq => by
    rcases hq with hq | ⟨i, hi, hq⟩
    · exact hg.block q (own_block h.o.out hq).2 (fun e => (own_far_rg h.o.out h.rg).2 (by rw [hq, e]))
    · exact hg.block q (own_block (h.o.inn i hi) hq).2 (fun e => (own_far_rg (h.o.inn i hi) h.rg).2 (by rw [hq, e]))), h.p, h.l.grown hg h.l.size (fun j hj => by cases hj; exact hr)⟩
/-- A way has been put behind its row, and the row is stored back. -/
theorem NR.put {a b : Nat} {v' : Value} (h : NR w N g m r c S D (fun z => left z && !z.sameKey (wlit a b)) cnt left vs ls W) (hN : N ≤ 1000000) (ha : a < N) (hb : b < N) (hS : S a b = true) (hl : left (wlit a b) = true)
    (ho : W1.ownsRow w.heap.size 3 1 v' (ls[a]!.length + 1) (ls[a]!.map (Value.int .i64) ++ [iv b])) (hg : W.grownBy W1 vs[a]!.ownBlock) (hat : v'.ownBlock = vs[a]!.ownBlock ∨ ∃ q, v'.ownBlock = some q ∧ W.heap.size ≤ q) :
    NR w N g m r c S D (fun z => left z && !z.sameKey (wlit a b)) cnt (fun z => left z && !z.sameKey (wlit a b)) (vs.set a v') (ls.set a (ls[a]! ++ [(b : Int)])) (W1.setCell ⟨g, a, none⟩ v') := by
  have hal : a < ls.length := by rw [h.p.len]; exact ha
  have hir := own_far_rg (h.o.inn a hal) h.rg
  have hor := own_far_rg h.o.out h.rg
  refine ⟨(h.rg.kept hg (fun e => hir.1 e.symm) (fun e => hir.2 e.symm)).kept (grown_set g a v') (fun e => hor.1 e.symm) (fun e => hor.2 e.symm), h.o.put hal h.p.len.symm ho hg hat, h.p.next hN ha hb hS hl, ?_⟩
  refine (h.l.grown hg h.l.size (fun j hj => (own_block (h.o.inn a hal) hj).1)).setCell ?_ _
  exact (own_block h.o.out (g := g) rfl).1
end
/-- One row has turned. -/
theorem ORv.turnRow {Bo Bi k : Nat} {W W1 : World} {v : Value} {vs : List Value} {ls : List (List Int)} {l' : List Int} (h : ORv Bo Bi W v vs ls) (hk : k < ls.length) (hl : l'.length = ls[k]!.length) (ho : W1.ownsRow Bi 3 1 vs[k]! l'.length (l'.map (Value.int .i64))) (hg : W.grownBy W1 vs[k]!.ownBlock) : ORv Bo Bi W1 v vs (ls.set k l') := by
  refine ⟨by rw [List.length_set]; exact h.len, by rw [List.length_set]; exact own_keep h.out (fun q hq => hg.block q (own_block h.out hq).2 (fun e => own_types (h.inn k hk) h.out (by decide) e.symm hq)), fun i hi => ?_, fun i j hi hj => ?_⟩
  · rw [List.length_set] at hi
    rw [set_get hk]
    by_cases e : i = k
    · subst e; rw [if_pos rfl]; exact ho
    · rw [if_neg e]
      exact own_keep (h.inn i hi) (fun q hq => hg.block q (own_block (h.inn i hi) hq).2 (fun e' => h.dis i k hi hk e q hq e'.symm))
  · rw [List.length_set] at hi hj
    exact h.dis i j hi hj
/-- slices.Sort of a row of the call's own. -/
theorem sort_own (w : World) (v : Value) (B : Nat) (l : List Int) (h : w.ownsRow B 3 1 v l.length (l.map (Value.int .i64))) (hl : l.length ≤ 1000000) :
    Calls Try.prog 63 #[v] w fun e w' => e = .returned (.tuple #[]) ∧ w'.ownsRow B 3 1 v (l.mergeSort fun x y => decide (x ≤ y)).length ((l.mergeSort fun x y => decide (x ≤ y)).map (Value.int .i64)) ∧ w.grownBy w' v.ownBlock := by
  have hlen : (l.mergeSort fun x y => decide (x ≤ y)).length = l.length := List.length_mergeSort _
  rcases h.2 with ⟨rfl, h0⟩ | ⟨g, cap, cur, rfl, hBg, hg, h1, h2, h3, h4⟩
  · have e0 : l = [] := List.eq_nil_of_length_eq_zero h0
    subst e0
    refine (I.slices_Sort_int_none none 0 w).mono ?_
    rintro e w' ⟨rfl, rfl⟩
    exact ⟨rfl, by simpa using h, ⟨rfl, rfl, rfl, Nat.le_refl _, fun _ _ _ => rfl⟩⟩
  · refine (I.slices_Sort_int g 0 cap l w (holds_of_block_i hg (by rw [← h4, Nat.mul_one])) (blk_lt hg) (by omega)).mono ?_
    rintro e w' ⟨rfl, n, os, rfl⟩
    refine ⟨rfl, ?_, grownBy_sorted_i _⟩
    have := ownsRow_sorted_i (n := n) (os := os) (ts := l.mergeSort fun x y => decide (x ≤ y)) (ss := l) hlen hBg hg h1 h2 h3
    rw [hlen]
    exact this
end Go.Proofs.Ytaagpnepkjkfoaa.N7
