/-
  Contract of the laws' large; lists of lists that a call made, read as nets.
-/
import Derived.Test.YtaagpnepkjkfoaaRoS
namespace Go.Proofs.Ytaagpnepkjkfoaa.R6
open Go.RowKit Go.Shelf Go.Proofs.Ytaagpnepkjkfoaa.B

def wideR (r : RW) : Bool := decide ((60 : Int) < (r.l.length : Int))
def largeR (rs : List RW) : Bool := rs.any wideR || decide ((24 : Int) < (rs.length : Int))
theorem large_no {rs : List RW} (h : largeR rs = false) : rs.length ≤ 24 ∧ ∀ r ∈ rs, r.l.length ≤ 60 := by
  unfold largeR at h
  rw [Bool.or_eq_false_iff] at h
  refine ⟨by have := of_decide_eq_false h.2; omega, fun r hr => ?_⟩
  have h1 := List.any_eq_false.1 h.1 r hr
  unfold wideR at h1
  have := of_decide_eq_false (by simpa using h1 : decide ((60 : Int) < (r.l.length : Int)) = false)
  omega
set_option maxHeartbeats 2000000 in
theorem large_any (w : World) (A : Option Addr) (c : Nat) (rs : List RW) (hn : NetIn w A rs) (hl : rs.length ≤ 70368744177663) :
    Calls Try.prog 8 #[.slice A rs.length c] w fun e w' => e = .returned (.bool (largeR rs)) ∧ w' = w := by
  have HN := Lib.hid hn
  clear hn
  go_enter Try.func8, Try.ntmps8
  go_wp2_with fail
  go_loopw [6] (fun i wr => ∃ k : Nat, k ≤ rs.length ∧ i = .int .i64 k ∧ Hid (∀ j, j < k → wideR rs[j]! = false) ∧ wr = w) (fun i _ => rs.length - (intOf i).toNat)
  case atStart => exact ⟨0, Nat.zero_le _, rfl, Lib.hid (fun j hj => absurd hj (Nat.not_lt_zero _)), rfl⟩
  case round =>
    obtain ⟨k, hk, rfl, HR, rfl⟩ := hrel
    by_cases hlt : k < rs.length
    · obtain ⟨b, off, rfl, hb, hc⟩ := HN.out.at_ hlt
      have hk0 : (0 : Int) ≤ (k : Int) := Int.natCast_nonneg _
      have hk1 : (k : Int) < (rs.length : Int) := by omega
      have HA := fun h => Lib.hid (all_step (p := wideR) HR.out h)
      have HH := fun h => Lib.hid (any_hit (p := wideR) hlt h)
      clear HR
      cases hx : wideR rs[k]! with
      | true =>
        have H := HH hx
        have hx2 := hx
        unfold wideR at hx2
        clear HA HH hx
        generalize rs[k]! = x at *
        go_wp2_with fail
        go_ret
        exact ⟨ret_bool (by unfold largeR; rw [H.out]; rfl), rfl⟩
      | false =>
        have H := HA hx
        have hx2 := hx
        unfold wideR at hx2
        clear HA HH hx
        generalize rs[k]! = x at *
        go_wp2_with fail
        go_roundw
        case rel => exact ⟨k + 1, hlt, by go_num, H, trivial⟩
        case measure => simp [intOf]; omega
    · obtain rfl : k = rs.length := by omega
      have H := Lib.hid (any_miss (p := wideR) HR.out)
      clear HR
      go_wp2_with fail
      go_ret
      exact ⟨ret_bool (by unfold largeR; rw [H.out]; rfl), rfl⟩

/-! ### what a call made, read as a net -/
theorem own_to_row {w : World} {B e n c : Nat} {A : Option Addr} {xs : List Value} (h : w.ownsRow B e 1 (.slice A n c) n xs) : Row w A xs := Row.of_own h
/-- A list of lists that a call made is a net in memory. -/
theorem ORv.net {Bo Bi : Nat} {W : World} {v : Value} {vs : List Value} {ls : List (List Int)} (h : ORv Bo Bi W v vs ls) : ∃ A c rs, v = .slice A rs.length c ∧ netOf rs = ls ∧ NetIn W A rs := by
  obtain ⟨A, c, rfl⟩ := own_slice h.out
  have hex : ∀ i : Nat, ∃ r : RW, i < ls.length → vs[i]! = .slice r.a r.l.length r.c ∧ r.l = ls[i]! := fun i => by
    by_cases hi : i < ls.length
    · obtain ⟨a, c', e⟩ := own_slice (h.inn i hi)
      exact ⟨⟨a, ls[i]!, c'⟩, fun _ => ⟨e, rfl⟩⟩
    · exact ⟨default, fun h => absurd h hi⟩
  obtain ⟨f, hf⟩ := Classical.axiomOfChoice hex
  have hlen : ((List.range ls.length).map f).length = ls.length := by simp
  have hat : ∀ i : Nat, i < ls.length → ((List.range ls.length).map f)[i]! = f i := fun i hi => by rw [getElem!_pos _ i (by rw [hlen]; exact hi)]; simp
  have hfl : ((List.range ls.length).map f).flatMap rwC = vs := by
    have h1 : ((List.range ls.length).map f).flatMap rwC = ((List.range ls.length).map f).map (fun r => Value.slice r.a r.l.length r.c) := by
      generalize (List.range ls.length).map f = l
      induction l with
      | nil => rfl
      | cons r t ih => rw [List.flatMap_cons, List.map_cons, ih]; rfl
    rw [h1]
    refine list_ext (by rw [List.length_map, hlen, h.len]) (fun i hi => ?_)
    rw [List.length_map, hlen] at hi
    rw [getElem!_pos _ i (by rw [List.length_map, hlen]; exact hi)]
    simp only [List.getElem_map, List.getElem_range]
    exact (hf i hi).1.symm
  refine ⟨A, c, (List.range ls.length).map f, by rw [hlen], ?_, ?_, ?_⟩
  · refine list_ext (by rw [net_len, hlen]) (fun i hi => ?_)
    rw [net_len, hlen] at hi
    rw [net_at, hat i hi, (hf i hi).2]
  · rw [hfl]; exact own_to_row h.out
  · intro r hr
    obtain ⟨i, hi, rfl⟩ := List.mem_map.1 hr
    have hi := List.mem_range.1 hi
    have ho := h.inn i hi
    rw [(hf i hi).1, ← (hf i hi).2] at ho
    exact own_to_row ho
end Go.Proofs.Ytaagpnepkjkfoaa.R6
