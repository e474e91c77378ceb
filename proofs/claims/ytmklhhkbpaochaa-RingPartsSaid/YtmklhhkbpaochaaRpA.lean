/-
  RingParts' memory: the places of the rings in a list, and a list of maps that grows.
-/
import Derived.Test.YtmklhhkbpaochaaRpM
import Derived.Test.YtmklhhkbpaochaaRoX
namespace Go.Proofs.Ytmklhhkbpaochaa.R6.Parts
open Go.RowKit Go.Shelf Go.Proofs.Ytmklhhkbpaochaa.B Go.Proofs.Ytmklhhkbpaochaa.R6

theorem NS.block {w w' : World} {b c N : Nat} {S : Nat → Bool} (h : NS w b c N S) (hb : w'.heap[b]? = w.heap[b]?) : NS w' b c N S := by
  obtain ⟨D, ⟨es, clock, h1, h2⟩, h3⟩ := h
  exact ⟨D, ⟨es, clock, hb.trans h1, h2⟩, h3⟩
theorem ns_ne_own {w : World} {B e z n b c N : Nat} {v : Value} {xs : List Value} {S : Nat → Bool} (h : w.ownsRow B e z v n xs) (hm : NS w b c N S) : v.ownBlock ≠ some b := by
  intro hb
  obtain ⟨D, ⟨es, clock, hh, _⟩, _⟩ := hm
  rcases h.2 with ⟨rfl, _⟩ | ⟨g, cap, cur, rfl, _, hg, _⟩
  · cases hb
  · cases hb; rw [hh] at hg; cases hg

/-- What stands while the rings are gone through: the places, the rings' own lists. -/
structure PI (w : World) (A : Option Addr) (n : NetL) (g B : Nat) (v : Value) (vs : List Value) (r : Nat) (ks : List Nat) (W : World) : Prop where
  t : Nt W A n
  o : W.ownsRow g 3 1 (rowAt g n.length) n.length ((ofL n r ks).map iv)
  rv : ORv B B W v vs (ringsN n)
  hg : w.heap.size ≤ g
  hB : g < B
  b : Below w.heap.size w W
theorem PI.put {w W : World} {A : Option Addr} {n : NetL} {g B r : Nat} {v : Value} {vs : List Value} {ks : List Nat} (h : PI w A n g B v vs r ks W) (hn : Nt w A n) {x : Nat} (hx : x < n.length) : PI w A n g B v vs r (ks ++ [x]) (W.setCell ⟨g, x, none⟩ (iv (r + 1))) := by
  have he : Ext (fun q => q = g) W (W.setCell ⟨g, x, none⟩ (iv (r + 1))) := Ext.set (F := fun q => q = g) W _ rfl
  have hb := he.below h.b (fun q hq => by have := h.hg; omega) h.b.size
  have hst := (h.o.stored x (iv (r + 1))).1
  rw [set_map iv, ← ofL_put hx] at hst
  refine ⟨hn.below hb, hst, h.rv.keep (fun q hq => he.block q (by
    rcases hq with hq | ⟨i, hi, hq⟩
    · exact (own_block h.rv.out hq).2
    · exact (own_block (h.rv.inn i hi) hq).2) (by
    have := h.hB
    rcases hq with hq | ⟨i, hi, hq⟩
    · have := (own_block h.rv.out hq).1; omega
    · have := (own_block (h.rv.inn i hi) hq).1; omega)), h.hg, h.hB, hb⟩
theorem PI.next {w W : World} {A : Option Addr} {n : NetL} {g B r : Nat} {v : Value} {vs : List Value} (h : PI w A n g B v vs r (ringOf (headL n) n.length (firstL n)[r]!) W) (hr : r < (firstL n).length) : PI w A n g B v vs (r + 1) [] W :=
  ⟨h.t, by rw [← ofL_ring hr]; exact h.o, h.rv, h.hg, h.hB, h.b⟩
theorem ringsN_at {n : NetL} {r : Nat} (hr : r < (firstL n).length) : (ringsN n)[r]! = (ringOf (headL n) n.length (firstL n)[r]!).map fun j : Nat => (j : Int) := by
  unfold ringsN
  rw [rings_first, getElem!_pos _ r (by simpa using hr), getElem!_pos _ r hr]
  simp
theorem ringsN_first (n : NetL) : (ringsN n).length = (firstL n).length := by unfold ringsN; rw [rings_first]; simp
theorem sm_rings' {W : World} {A : Option Addr} {c : Nat} {n : NetL} (h : Nt W A n) (hs : Small n) : Calls Try.prog 16 #[.slice A n.length c] W fun e w' => ∃ a k vs, e = .returned (.slice a (firstL n).length k) ∧ ORv W.heap.size W.heap.size w' (.slice a (firstL n).length k) vs (ringsN n) ∧ Below W.heap.size W w' := by
  obtain ⟨rs, h1, h2⟩ := h
  have hl := nt_len h1
  have := rings_any W A c rs h2 (by rw [hl]; have := hs.l; omega) (nt_rows h1 (hs.r2 (by omega)))
  rw [hl, h1] at this
  refine this.mono ?_
  rintro e w' ⟨v, rfl, ⟨vs, hv⟩, hb⟩
  have hv : ORv W.heap.size W.heap.size w' v vs (ringsN n) := hv
  obtain ⟨a, k, rfl⟩ := own_slice hv.out
  rw [ringsN_first] at hv ⊢
  exact ⟨a, k, vs, rfl, hv, hb⟩

/-- A list of maps: of each point ahead of k where it leads; each map lies below M. -/
def TO (W : World) (B M : Nat) (n : NetL) (k : Nat) (v : Value) : Prop :=
  ∃ bs : List Nat, bs.length = k ∧ W.ownsRow B 43 1 v k (bs.map fun b => Value.map (some b)) ∧ (∀ j : Nat, j < k → B ≤ bs[j]! ∧ bs[j]! < M) ∧ ∀ j : Nat, j < k → NS W bs[j]! 24 n.length (fun x => (reachL n j).contains x)
theorem TO.keep {W W' : World} {B M k : Nat} {n : NetL} {v : Value} (h : TO W B M n k v) (hk : ∀ q, q < W.heap.size → (v.ownBlock = some q ∨ q < M) → W'.heap[q]? = W.heap[q]?) : TO W' B M n k v := by
  obtain ⟨bs, h1, h2, h3, h4⟩ := h
  exact ⟨bs, h1, own_keep h2 (fun q hq => hk q (own_block h2 hq).2 (.inl hq)), h3, fun j hj => NS.block (h4 j hj) (hk _ (h4 j hj).lt (.inr (h3 j hj).2))⟩
theorem TO.below {W W' : World} {B M k : Nat} {n : NetL} {v : Value} (h : TO W B M n k v) (hb : Below W.heap.size W W') : TO W' B M n k v := h.keep (fun q hq _ => hb.block q hq)
theorem TO.mono {W : World} {B M M' k : Nat} {n : NetL} {v : Value} (h : TO W B M n k v) (hM : M ≤ M') : TO W B M' n k v := by
  obtain ⟨bs, h1, h2, h3, h4⟩ := h
  exact ⟨bs, h1, h2, fun j hj => ⟨(h3 j hj).1, by have := (h3 j hj).2; omega⟩, h4⟩
/-- Another map is written to: one that lies at M or behind. -/
theorem TO.other {W W' : World} {B M k b c : Nat} {n : NetL} {v : Value} {S : Nat → Bool} (h : TO W B M n k v) (hm : NS W b c n.length S) (hM : M ≤ b) (hk : ∀ q, q ≠ b → q < W.heap.size → W'.heap[q]? = W.heap[q]?) : TO W' B M n k v := by
  have hne : ∀ q, v.ownBlock = some q → q ≠ b := fun q hq e => by
    obtain ⟨bs, _, h2, _, _⟩ := h
    exact ns_ne_own h2 hm (e ▸ hq)
  exact h.keep (fun q hq ho => hk q (by rcases ho with ho | ho; exact hne q ho; omega) hq)
/-- One map more. -/
theorem TO.push {W W1 : World} {B M k b : Nat} {n : NetL} {v v' : Value} {bs : List Nat} (h1 : bs.length = k) (h2 : W.ownsRow B 43 1 v k (bs.map fun b => Value.map (some b))) (h3 : ∀ j : Nat, j < k → B ≤ bs[j]! ∧ bs[j]! < M) (h4 : ∀ j : Nat, j < k → NS W bs[j]! 24 n.length (fun x => (reachL n j).contains x))
    (hm : NS W b 24 n.length (fun x => (reachL n k).contains x)) (hB : B ≤ b) (hM : M ≤ b) (ho : W1.ownsRow B 43 1 v' (k + 1) ((bs.map fun b => Value.map (some b)) ++ [.map (some b)])) (hg : W.grownBy W1 v.ownBlock) : TO W1 B (b + 1) n (k + 1) v' := by
  have hbk : ∀ q c (S : Nat → Bool), NS W q c n.length S → W1.heap[q]? = W.heap[q]? := fun q c S hq => hg.block q hq.lt (fun e => ns_ne_own h2 hq e.symm)
  have hold : ∀ j : Nat, j < k → (bs ++ [b])[j]! = bs[j]! := fun j hj => by
    rw [getElem!_pos _ j (by rw [List.length_append]; omega), getElem!_pos bs j (by omega), List.getElem_append_left (by omega)]
  have hnew : (bs ++ [b])[k]! = b := by
    rw [getElem!_pos _ k (by rw [List.length_append, h1]; simp), List.getElem_append_right (by omega)]; simp [h1]
  refine ⟨bs ++ [b], by simp [h1], by rw [List.map_append]; exact ho, fun j hj => ?_, fun j hj => ?_⟩
  · by_cases e : j < k
    · rw [hold j e]; have := h3 j e; omega
    · obtain rfl : j = k := by omega
      rw [hnew]; omega
  · by_cases e : j < k
    · rw [hold j e]; exact NS.block (h4 j e) (hbk _ _ _ (h4 j e))
    · obtain rfl : j = k := by omega
      rw [hnew]; exact NS.block hm (hbk _ _ _ hm)
end Go.Proofs.Ytmklhhkbpaochaa.R6.Parts
