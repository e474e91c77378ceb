/-
  Contracts of slices.Index, slices.Contains at ints, of leadsBack and Loops.
-/
import Derived.Test.YtaagpnepkjkfoaaRiF
import Derived.Test.YtaagpnepkjkfoaaRiI
namespace Go.Proofs.Ytaagpnepkjkfoaa.R6
open Go.RowKit Go.Shelf Go.Proofs.Ytaagpnepkjkfoaa.B

def eqP (v : Int) (x : Int) : Bool := x == v
set_option maxHeartbeats 1000000 in
theorem index_any (w : World) (A : Option Addr) (c : Nat) (l : List Int) (v : Int) (hr : Row w A (l.map (Value.int .i64))) (hl : l.length ≤ 1000000) :
    Calls Try.prog 42 #[.slice A l.length c, .int .i64 v] w fun e w' => e = .returned (.int .i64 (idxB (eqP v) l)) ∧ w' = w := by
  have HR := Lib.hid hr
  go_enter Try.func42, Try.ntmps42
  go_wp2_with fail
  go_loopw [5, 8] (fun _ i wr => ∃ k : Nat, k ≤ l.length ∧ i = .int .i64 k ∧ Hid (∀ j, j < k → eqP v l[j]! = false) ∧ wr = w) (fun _ i _ => l.length - (intOf i).toNat)
  case atStart => exact ⟨0, Nat.zero_le _, rfl, Lib.hid (fun j hj => absurd hj (Nat.not_lt_zero _)), rfl⟩
  case round =>
    obtain ⟨k, hk, rfl, HN, rfl⟩ := hrel
    by_cases hlt : k < l.length
    · obtain ⟨b, off, rfl, hb, hc⟩ := row_at HR.out hlt
      have HH := fun h => Lib.hid (idxB_hit (p := eqP v) hlt h HN.out)
      have HA := fun h => Lib.hid (all_step (p := eqP v) HN.out h)
      have hk0 : (0 : Int) ≤ (k : Int) := Int.natCast_nonneg _
      have hk1 : (k : Int) < (l.length : Int) := by omega
      generalize l[k]! = x at *
      by_cases hx : x = v
      · subst hx
        have H := HH (by simp [eqP])
        clear HH HA
        go_wp2_with fail
        go_ret
        exact ⟨ret_i64 H.out.symm, rfl⟩
      · have H := HA (by simp [eqP, hx])
        have hx2 : (v == x) = false := by rw [beq_eq_false_iff_ne]; exact fun e => hx e.symm
        clear HH HA hx
        go_wp2_with fail
        go_roundw
        case rel => exact ⟨k + 1, hlt, by go_num, H, trivial⟩
        case measure => simp [intOf]; omega
    · obtain rfl : k = l.length := by omega
      have H := Lib.hid (idxB_miss (p := eqP v) HN.out)
      clear HN
      go_wp2_with fail
      go_ret
      exact ⟨ret_i64 H.out.symm, rfl⟩
set_option maxHeartbeats 1000000 in
theorem contains_any (w : World) (A : Option Addr) (c : Nat) (l : List Int) (v : Int) (hr : Row w A (l.map (Value.int .i64))) (hl : l.length ≤ 1000000) :
    Calls Try.prog 51 #[.slice A l.length c, .int .i64 v] w fun e w' => e = .returned (.bool (l.any (eqP v))) ∧ w' = w := by
  have C := Lib.hid (index_any w A c l v hr hl)
  have HB := Lib.hid (idxB_any (eqP v) l)
  clear hr
  generalize idxB (eqP v) l = z at *
  go_enter Try.func51, Try.ntmps51
  go_wp2_with (go_at_call 42; refine C.out.mono ?_; rintro e w' ⟨rfl, rfl⟩)
  go_ret
  exact ⟨ret_bool HB.out, rfl⟩
/-- Whether any point leads back, as the code asks. -/
def backB (n : NetL) (a : Nat) : Bool := (!((headL n)[a]! == (a : Int))) || n[a]!.any (eqP a)
def leadsB (n : NetL) : Bool := (List.range n.length).any (backB n)
theorem leadsB_iff (n : NetL) : leadsB n = true ↔ ∃ a, Ld n a a := by
  rw [loops_iff]
  unfold leadsB
  rw [List.any_eq_true]
  constructor
  · rintro ⟨a, ha, h⟩
    have ha := List.mem_range.1 ha
    refine ⟨a, ha, ?_⟩
    unfold backB at h
    rw [Bool.or_eq_true] at h
    rcases h with h | h
    · left; intro e; rw [e] at h; simp at h
    · right
      rw [List.any_eq_true] at h
      obtain ⟨t, ht, e⟩ := h
      obtain rfl : t = (a : Int) := by simpa [eqP] using e
      exact wy_mem.2 ⟨ht, ha⟩
  · rintro ⟨a, ha, h⟩
    refine ⟨a, List.mem_range.2 ha, ?_⟩
    unfold backB
    rw [Bool.or_eq_true]
    rcases h with h | h
    · left; rw [Bool.not_eq_true']; rw [beq_eq_false_iff_ne]; exact h
    · right; rw [List.any_eq_true]; exact ⟨a, (wy_mem.1 h).1, by simp [eqP]⟩
set_option maxRecDepth 100000 in
set_option maxHeartbeats 2000000 in
theorem leads_any (w : World) (A : Option Addr) (c : Nat) (rs : List RW) (hn : NetIn w A rs) (hN : rs.length ≤ 900) (hrow : ∀ r ∈ rs, r.l.length ≤ 100000) :
    Calls Try.prog 40 #[.slice A rs.length c] w fun e w' => e = .returned (.bool (leadsB (netOf rs))) ∧ Below w.heap.size w w' := by
  have hnl : (netOf rs).length = rs.length := net_len _
  have C := Lib.hid (heads_any w A c rs hn hN hrow)
  have HN := Lib.hid hn
  have HRW := Lib.hid hrow
  have hbk : ∀ k : Nat, k < rs.length → backB (netOf rs) k = ((!((headL (netOf rs))[k]! == (k : Int))) || rs[k]!.l.any (eqP k)) := fun k _ => by unfold backB; rw [net_at]
  have HBK := Lib.hid hbk
  have hhl := headL_len (netOf rs)
  rw [hnl] at hhl
  have HL : Hid (leadsB (netOf rs) = (List.range rs.length).any (backB (netOf rs))) := Lib.hid (by unfold leadsB; rw [hnl])
  clear hn hrow hbk
  generalize headL (netOf rs) = H at *
  go_enter Try.func40, Try.ntmps40
  go_wp2_with fail
  refine C.out.mono ?_
  rintro e w2 ⟨rfl, ho2, hb2⟩
  have HO := Lib.hid ho2
  have HB := Lib.hid hb2
  have hz2 : w.heap.size ≤ w2.heap.size := hb2.size
  clear C ho2 hb2
  go_wp2_with fail
  go_loopw [8] (fun i wr => ∃ k : Nat, k ≤ rs.length ∧ i = .int .i64 k ∧ Hid (∀ j, j < k → backB (netOf rs) (List.range rs.length)[j]! = false) ∧ wr = w2) (fun i _ => rs.length - (intOf i).toNat)
  case atStart => exact ⟨0, Nat.zero_le _, rfl, Lib.hid (fun j hj => absurd hj (Nat.not_lt_zero _)), rfl⟩
  case round =>
    obtain ⟨k, hk, rfl, HNO, rfl⟩ := hrel
    by_cases hlt : k < rs.length
    · have ch := (HO.out.cellAt k (by omega)).trans (map_get _ (by rw [hhl]; exact hlt))
      obtain ⟨b, off, rfl, hb, hc⟩ := HN.out.at_ hlt
      rw [← HB.out.cell (p := ⟨b, _, none⟩) hb] at hc
      have hk0 : (0 : Int) ≤ (k : Int) := Int.natCast_nonneg _
      have hk1 : (k : Int) < (rs.length : Int) := by omega
      have hrm : rs[k]! ∈ rs := Go.Proofs.Ytaagpnepkjkfoaa.B.mem_at hlt
      have hrl := HRW.out _ hrm
      have C2 := Lib.hid (contains_any wr rs[k]!.a rs[k]!.c rs[k]!.l (k : Int) ((HN.out.row _ hrm).below (Nat.le_refl _) HB.out) (by omega))
      have hkr : k < (List.range rs.length).length := by simpa using hlt
      have HH := fun h => Lib.hid (any_hit (p := backB (netOf rs)) hkr (by rw [range_at hlt]; exact h))
      have HA := fun h => Lib.hid (all_step (p := backB (netOf rs)) (l := List.range rs.length) (k := k) HNO.out (by rw [range_at hlt]; exact h))
      have hbe := HBK.out k hlt
      rw [hbe] at HH HA
      generalize rs[k]! = r at *
      generalize H[k]! = hd at *
      have hbz : b < wr.heap.size := by omega
      clear hbe hkr
      by_cases he : hd = (k : Int)
      · subst he
        generalize r.l.any (eqP k) = q at *
        have hne : ((k : Int) != (k : Int)) = false := by simp
        cases q with
        | false =>
          have H1 := HA (by simp)
          clear HH HA
          go_wp2_with (go_at_call 51; refine C2.out.mono ?_; rintro e w' ⟨rfl, rfl⟩)
          go_roundw
          case rel => exact ⟨k + 1, hlt, by go_num, H1, trivial⟩
          case measure => simp [intOf]; omega
        | true =>
          have H1 := HH (by simp)
          clear HH HA
          go_wp2_with (go_at_call 51; refine C2.out.mono ?_; rintro e w' ⟨rfl, rfl⟩)
          go_ret
          exact ⟨ret_bool (by rw [HL.out, H1.out]), HB.out⟩
      · have hne : (hd != (k : Int)) = true := by rw [bne_iff_ne]; exact he
        have H1 := HH (by simp [he])
        clear HH HA C2
        go_wp2_with fail
        go_ret
        exact ⟨ret_bool (by rw [HL.out, H1.out]), HB.out⟩
    · obtain rfl : k = rs.length := by omega
      have H := Lib.hid (any_miss (p := backB (netOf rs)) (l := List.range rs.length) (by rw [List.length_range]; exact HNO.out))
      clear HNO
      go_wp2_with fail
      go_ret
      exact ⟨ret_bool (by rw [HL.out, H.out]), HB.out⟩
def loopsB (n : NetL) (i : Int) : Bool := ((reachI n i).map fun j : Nat => (j : Int)).any (eqP i)
theorem iv_int (l : List Nat) : l.map iv = (l.map fun j : Nat => (j : Int)).map (Value.int .i64) := by simp
theorem reachI_len (n : NetL) (i : Int) : (reachI n i).length ≤ n.length := by
  rw [reachI_is]
  have := List.length_filter_le (fun j => (ledI n i)[j]!) (List.range n.length)
  simpa using this
set_option maxHeartbeats 1000000 in
theorem loops_any (w : World) (A : Option Addr) (c : Nat) (rs : List RW) (i : Int) (hn : NetIn w A rs) (hN : rs.length ≤ 900) (hrow : ∀ r ∈ rs, r.l.length ≤ 100000) :
    Calls Try.prog 19 #[.slice A rs.length c, .int .i64 i] w fun e w' => e = .returned (.bool (loopsB (netOf rs) i)) ∧ Below w.heap.size w w' := by
  have C := Lib.hid (reach_any w A c rs i hn hN hrow)
  have hll := reachI_len (netOf rs) i
  rw [net_len] at hll
  have HI := fun (W : World) (B : Option Addr) (d : Nat) (h : Row W B ((reachI (netOf rs) i).map iv)) => Lib.hid (contains_any W B d ((reachI (netOf rs) i).map fun j : Nat => (j : Int)) i (by rw [← iv_int]; exact h) (by rw [List.length_map]; omega))
  have HL : Hid (loopsB (netOf rs) i = ((reachI (netOf rs) i).map fun j : Nat => (j : Int)).any (eqP i)) := Lib.hid rfl
  rw [List.length_map] at HI
  clear hn hrow
  go_enter Try.func19, Try.ntmps19
  go_wp2_with fail
  refine C.out.mono ?_
  rintro e w2 ⟨v, rfl, ho2, hb2⟩
  obtain ⟨va, vc, rfl⟩ := own_slice ho2
  have C2 := HI w2 va vc (Row.of_own ho2)
  have HB := Lib.hid hb2
  clear ho2 hb2 C HI
  go_wp2_with fail
  refine C2.out.mono ?_
  rintro e w' ⟨rfl, rfl⟩
  go_wp2_with fail
  go_ret
  exact ⟨ret_bool (by rw [HL.out, List.any_map]), HB.out⟩
end Go.Proofs.Ytaagpnepkjkfoaa.R6
