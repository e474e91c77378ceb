/-
  What ring's functions answer, said of nets that lie in memory.
-/
import Derived.Test.YtaagpnepkjkfoaaRoV
namespace Go.Proofs.Ytaagpnepkjkfoaa.R6
open Go.RowKit Go.Shelf Go.Proofs.Ytaagpnepkjkfoaa.B

structure Small (n : NetL) : Prop where
  l : n.length ≤ 24
  r : ∀ l ∈ n, l.length ≤ 60
theorem Small.turn {n : NetL} (h : Small n) : Small (turnL n) := ⟨by rw [turn_len]; exact h.l, fun l hl => by
  obtain ⟨i, _, rfl⟩ := List.mem_map.1 hl
  have := toL_len n n.length i
  have := h.l
  omega⟩
theorem Small.r2 {n : NetL} (h : Small n) {m : Nat} (hm : 60 ≤ m) : ∀ l ∈ n, l.length ≤ m := fun l hl => Nat.le_trans (h.r l hl) hm
def ringsN (n : NetL) : NetL := (ringsL n).map fun l => l.map fun j : Nat => (j : Int)
def reachN (n : NetL) (i : Int) : List Int := (reachI n i).map fun j : Nat => (j : Int)
theorem ringsN_len {n : NetL} (h : Small n) : (ringsN n).length ≤ 24 := by
  unfold ringsN; rw [List.length_map]; have := rings_len_le n; have := h.l; omega
theorem reachN_len {n : NetL} (h : Small n) (i : Int) : (reachN n i).length ≤ 24 := by
  unfold reachN; rw [List.length_map]; have := reachI_len n i; have := h.l; omega
theorem leadsB_turn (n : NetL) : leadsB (turnL n) = leadsB n := by
  rw [Bool.eq_iff_iff, leadsB_iff, leadsB_iff]
  exact ⟨fun ⟨a, h⟩ => ⟨a, ld_turn.1 h⟩, fun ⟨a, h⟩ => ⟨a, ld_turn.2 h⟩⟩
theorem ordE_turn (n : NetL) : ordE (turnL n) = ordE n := by unfold ordE; rw [leadsB_turn]
theorem longI_turn (n : NetL) : longI (turnL n) = longI n := by
  unfold longI
  rw [leadsB_turn]
  cases h : leadsB n with
  | true => rfl
  | false => exact congrArg _ (long_eq (leadsB_no h))
theorem ringsN_turn (n : NetL) : ringsN (turnL n) = ringsN n := by unfold ringsN; rw [rings_turn]
theorem reachN_turn2 (n : NetL) (k : Nat) : reachN (turnL (turnL n)) (k : Int) = reachN n (k : Int) := by
  unfold reachN reachI
  rw [turn_len, turn_len, Int.toNat_natCast, reach_turn2]
section
variable {W : World} {A B : Option Addr} {c d : Nat} {n : NetL}
theorem sm_large (h : Nt W A n) (hl : n.length ≤ 70368744177663) : Calls Try.prog 8 #[.slice A n.length c] W fun e w' => ∃ b, e = .returned (.bool b) ∧ w' = W ∧ (b = false → Small n) := by
  obtain ⟨rs, h1, h2⟩ := h
  have := large_any W A c rs h2 (by rw [nt_len h1]; exact hl)
  rw [nt_len h1] at this
  refine this.mono ?_
  rintro e w' ⟨rfl, rfl⟩
  refine ⟨_, rfl, rfl, fun h => ?_⟩
  obtain ⟨g1, g2⟩ := large_no h
  refine ⟨by rw [← nt_len h1]; exact g1, fun l hl => ?_⟩
  rw [← h1] at hl
  obtain ⟨r, hr, rfl⟩ := List.mem_map.1 hl
  exact g2 r hr
theorem sm_turn (h : Nt W A n) (hs : Small n) : Calls Try.prog 20 #[.slice A n.length c] W fun e w' => ∃ a k, e = .returned (.slice a n.length k) ∧ Nt w' a (turnL n) ∧ Below W.heap.size W w' := by
  obtain ⟨rs, h1, h2⟩ := h
  have hl := nt_len h1
  have := turn_any W A c rs h2 (by rw [hl]; have := hs.l; omega) (nt_rows h1 (hs.r2 (by omega)))
  rw [hl, h1] at this
  refine this.mono ?_
  rintro e w' ⟨rfl, ⟨vs, hv⟩, hb⟩
  obtain ⟨a, k, ss, he, hn, hi⟩ := hv.net
  rw [he, nt_len hn, turn_len]
  exact ⟨a, k, rfl, ⟨ss, hn, hi⟩, hb⟩
theorem sm_rings (h : Nt W A n) (hs : Small n) : Calls Try.prog 15 #[.slice A n.length c] W fun e w' => ∃ a k, e = .returned (.slice a (ringsN n).length k) ∧ Nt w' a (ringsN n) ∧ Below W.heap.size W w' := by
  obtain ⟨rs, h1, h2⟩ := h
  have hl := nt_len h1
  have := rings_any W A c rs h2 (by rw [hl]; have := hs.l; omega) (nt_rows h1 (hs.r2 (by omega)))
  rw [hl, h1] at this
  refine this.mono ?_
  rintro e w' ⟨v, rfl, ⟨vs, hv⟩, hb⟩
  obtain ⟨a, k, ss, rfl, hn, hi⟩ := hv.net
  rw [nt_len hn]
  exact ⟨a, k, rfl, ⟨ss, hn, hi⟩, hb⟩
theorem sm_long (h : Nt W A n) (hs : Small n) : Calls Try.prog 11 #[.slice A n.length c] W fun e w' => e = .returned (.tuple #[.int .i64 (longI n), .int .i64 (ordE n)]) ∧ Below W.heap.size W w' := by
  obtain ⟨rs, h1, h2⟩ := h
  have hl := nt_len h1
  have := longest_any W A c rs h2 (by rw [hl]; have := hs.l; omega) (nt_rows h1 (hs.r2 (by omega)))
  rw [hl, h1] at this
  exact this
theorem sm_order (h : Nt W A n) (hs : Small n) : Calls Try.prog 9 #[.slice A n.length c] W fun e w' => ∃ a k, e = .returned (.tuple #[.slice a (ordI n).length k, .int .i64 (ordE n)]) ∧ Row w' a (((ordI n).map fun j : Nat => (j : Int)).map (Value.int .i64)) ∧ Below W.heap.size W w' := by
  obtain ⟨rs, h1, h2⟩ := h
  have hl := nt_len h1
  have := order_any W A c rs h2 (by rw [hl]; have := hs.l; omega) (nt_rows h1 (hs.r2 (by omega)))
  rw [hl, h1] at this
  refine this.mono ?_
  rintro e w' ⟨hb, v, rfl, ho, _⟩
  obtain ⟨a, k, rfl⟩ := own_slice ho
  exact ⟨a, k, rfl, by rw [← iv_int]; exact Row.of_own ho, hb⟩
theorem sm_reach (h : Nt W A n) (hs : Small n) (i : Int) : Calls Try.prog 18 #[.slice A n.length c, .int .i64 i] W fun e w' => ∃ a k, e = .returned (.slice a (reachN n i).length k) ∧ Row w' a ((reachN n i).map (Value.int .i64)) ∧ Below W.heap.size W w' := by
  obtain ⟨rs, h1, h2⟩ := h
  have hl := nt_len h1
  have := reach_any W A c rs i h2 (by rw [hl]; have := hs.l; omega) (nt_rows h1 (hs.r2 (by omega)))
  rw [hl, h1] at this
  refine this.mono ?_
  rintro e w' ⟨v, rfl, ho, hb⟩
  obtain ⟨a, k, rfl⟩ := own_slice ho
  exact ⟨a, k, by unfold reachN; rw [List.length_map], by unfold reachN; rw [← iv_int]; exact Row.of_own ho, hb⟩
theorem sm_loops (h : Nt W A n) (hs : Small n) (i : Int) : Calls Try.prog 19 #[.slice A n.length c, .int .i64 i] W fun e w' => e = .returned (.bool (loopsB n i)) ∧ Below W.heap.size W w' := by
  obtain ⟨rs, h1, h2⟩ := h
  have hl := nt_len h1
  have := loops_any W A c rs i h2 (by rw [hl]; have := hs.l; omega) (nt_rows h1 (hs.r2 (by omega)))
  rw [hl, h1] at this
  exact this
end
theorem ringsN_rows {n : NetL} (h : Small n) : ∀ l ∈ ringsN n, l.length ≤ 1000000 := by
  intro l hl
  obtain ⟨r, hr, rfl⟩ := List.mem_map.1 hl
  rw [List.length_map]
  unfold ringsL gatherL at hr
  obtain ⟨i, _, rfl⟩ := List.mem_map.1 hr
  unfold ringOf
  have := List.length_filter_le (fun j => decide ((headL n)[j]! = (headL n)[i]!)) (List.range n.length)
  have := h.l
  simp only [List.length_range] at *
  omega
section
open Go.Deep Go.Joins Go.ChangeShapes Go.WideShapes
variable {H : Type} {enc : TypeId × Value → H} {w : World} {base : Nat} {spare : Nat → Bool} {held : Bool}
set_option maxRecDepth 100000 in
theorem open_nt {r : Reach} {b0 : Nat} {v : Value} {d : DataW H} {p : List MemPlace} (hv : Value.okWide Try.prog w r b0 23 v) (h : DataW.Trod enc Try.prog w base spare held 23 v d p) (hw : Wt Try.prog 23 d) :
    ∃ (A : Option Addr) (c : Nat) (n : NetL), v = .slice A n.length c ∧ Nt w A n ∧ n.length ≤ 70368744177663 := by
  obtain ⟨A, c, rs, rfl, h1, h2⟩ := open_net hv h hw
  exact ⟨A, c, netOf rs, by rw [net_len], ⟨rs, rfl, h1⟩, by rw [net_len]; exact h2⟩
end
end Go.Proofs.Ytaagpnepkjkfoaa.R6
