/-
  Contracts of the document's own hasGroup, hasEvent, hasUser, there. (made by wip/tools/gen_has.py)
-/
import Derived.Test.YtandfjahfbeaiaaGreatGrY
namespace Go.Proofs.YtandfjahfbeaiaaGreat
open Go.RowKit Go.Shelf

section
variable {α : Type} [Inhabited α] (nm : α → ByteArray)
theorem idx_le (s : ByteArray) : ∀ (l : List α) (k : Nat), k < l.length → ((nm l[k]!).toList == s.toList) = true → (l.map fun x => (nm x).toList).idxOf s.toList ≤ k
  | [], _, h, _ => by simp at h
  | a :: r, 0, _, h => by
    rw [List.map_cons, List.idxOf_cons]
    have h' : ((nm a).toList == s.toList) = true := h
    rw [h']; exact Nat.le_refl _
  | a :: r, k + 1, hk, h => by
    have ih := idx_le s r k (by simpa using hk) h
    rw [List.map_cons, List.idxOf_cons]
    cases ((nm a).toList == s.toList) with
    | true => exact Nat.zero_le _
    | false => exact Nat.succ_le_succ ih
theorem le_idx (s : ByteArray) : ∀ (l : List α) (n : Nat), n ≤ l.length → (∀ j, j < n → ((nm l[j]!).toList == s.toList) = false) → n ≤ (l.map fun x => (nm x).toList).idxOf s.toList
  | _, 0, _, _ => Nat.zero_le _
  | [], n + 1, h, _ => by simp at h
  | a :: r, n + 1, hn, h => by
    have ih := le_idx s r n (by simpa using hn) (fun j hj => h (j + 1) (by omega))
    have h' : ((nm a).toList == s.toList) = false := h 0 (by omega)
    rw [List.map_cons, List.idxOf_cons, h']
    exact Nat.succ_le_succ ih
theorem ahead_hit {s : ByteArray} {l : List α} {k n : Nat} (hk : k < n) (hl : k < l.length) (h : ((nm l[k]!).toList == s.toList) = true) : aheadB (l.map fun x => (nm x).toList) s.toList n = true := by
  have := idx_le nm s l k hl h
  unfold aheadB; rw [decide_eq_true_eq]; omega
theorem ahead_miss {s : ByteArray} {l : List α} {n : Nat} (hn : n ≤ l.length) (h : ∀ j, j < n → ((nm l[j]!).toList == s.toList) = false) : aheadB (l.map fun x => (nm x).toList) s.toList n = false := by
  have := le_idx nm s l n hn h
  unfold aheadB; rw [decide_eq_false_iff_not]; omega
theorem at_hit {s : ByteArray} {l : List α} {k : Nat} (hl : k < l.length) (h : ((nm l[k]!).toList == s.toList) = true) (hm : ∀ j, j < k → ((nm l[j]!).toList == s.toList) = false) : (l.map fun x => (nm x).toList).idxOf s.toList = k := by
  have h1 := idx_le nm s l k hl h
  have h2 := le_idx nm s l k (by omega) hm
  omega
theorem no_more {s : ByteArray} {l : List α} {k : Nat} (h : ∀ j, j < k → ((nm l[j]!).toList == s.toList) = false) (hk : ((nm l[k]!).toList == s.toList) = false) : ∀ j, j < k + 1 → ((nm l[j]!).toList == s.toList) = false := by
  intro j hj
  rcases Nat.lt_or_ge j k with h1 | h1
  · exact h j h1
  · obtain rfl : j = k := by omega
    exact hk
omit [Inhabited α] in
theorem ahead_all {s : ByteArray} {l : List α} : aheadB (l.map fun x => (nm x).toList) s.toList l.length = hasB (l.map fun x => (nm x).toList) s.toList := by
  rw [Bool.eq_iff_iff]
  unfold aheadB hasB
  rw [decide_eq_true_eq, List.contains_iff_mem, ← List.idxOf_lt_length_iff, List.length_map]
end
theorem box_was {w w1 : World} {g : Gr} (hb : Below (w.heap.size + 1) (boxW w g) w1) : Below w.heap.size w w1 :=
  (box_below w g).trans (hb.mono (by omega))

set_option maxRecDepth 100000 in
set_option maxHeartbeats 1000000 in
theorem hasGroup_any (w : World) (g : Gr) (s : ByteArray) (n : Nat) (hI : InG w g) (hz : g.gs.length * 32 ≤ 140737488351232) (hn : n ≤ g.gs.length) :
    Calls Tryz.prog 95 #[.agg #[.slice g.ga g.gs.length g.gc, .slice g.ea g.es.length g.ec, .slice g.ra g.rs.length g.rc, .slice g.ua g.us.length g.uc], .string s, .int .i64 n] w fun e w' => e = .returned (.bool (aheadB (gns g) s.toList n)) ∧ Below w.heap.size w w' := by
  have HI := Lib.hid hI.gs
  clear hI
  go_enter Tryz.func95, Tryz.ntmps95
  go_wp2_with fail
  go_loopw [7] (fun i wr => ∃ k : Nat, k ≤ n ∧ i = .int .i64 k ∧ Hid (∀ j, j < k → ((Gp.name g.gs[j]!).toList == s.toList) = false) ∧ Below (w.heap.size + 1) (boxW w g) wr) (fun i _ => n - (intOf i).toNat)
  case atStart => exact ⟨0, Nat.zero_le _, rfl, Lib.hid (fun j hj => absurd hj (Nat.not_lt_zero _)), by rw [← box_size w g]; exact Below.refl _ _⟩
  case round =>
    obtain ⟨k, hk, rfl, HR, hB⟩ := hrel
    obtain ⟨a0, a1, a2, a3⟩ := box_cells hB
    by_cases hlt : k < n
    · have hll : k < g.gs.length := by omega
      obtain ⟨b, off, hA, hb, hc⟩ := HI.out.at_ (k := 2) (fun _ => rfl) (by omega) hll
      have k0 := hc 0 _ rfl
      rw [Nat.add_zero] at k0
      have k1 := hc 1 _ rfl
      rw [← (box_was hB).cell (p := ⟨b, _, none⟩) hb] at k0 k1
      rw [hA] at a0
      have hk0 : (0 : Int) ≤ (k : Int) := Int.natCast_nonneg _
      have hk1 : (k : Int) < (g.gs.length : Int) := by omega
      have hk2 : (k : Int) < (n : Int) := by omega
      clear hc hA
      cases hq : ((Gp.name g.gs[k]!).toList == s.toList) with
      | true =>
        have HF := Lib.hid (ahead_hit Gp.name hlt hll hq)
        clear HR
        generalize g.gs[k]! = p at *
        go_wp2_with fail
        go_ret
        exact ⟨ret_bool HF.out.symm, box_was hB⟩
      | false =>
        have HR' := Lib.hid (no_more Gp.name HR.out hq)
        clear HR
        generalize g.gs[k]! = p at *
        go_wp2_with fail
        go_roundw
        case rel => exact ⟨k + 1, hlt, by go_num, HR', hB⟩
        case measure => simp [intOf]; omega
    · obtain rfl : k = n := by omega
      have HF := Lib.hid (ahead_miss Gp.name hn HR.out)
      have hk2 : ¬ (k : Int) < (k : Int) := by omega
      clear HR
      go_wp2_with fail
      go_ret
      exact ⟨ret_bool HF.out.symm, box_was hB⟩

set_option maxRecDepth 100000 in
set_option maxHeartbeats 1000000 in
theorem hasEvent_any (w : World) (g : Gr) (s : ByteArray) (n : Nat) (hI : InG w g) (hz : g.es.length * 64 ≤ 140737488351232) (hn : n ≤ g.es.length) :
    Calls Tryz.prog 96 #[.agg #[.slice g.ga g.gs.length g.gc, .slice g.ea g.es.length g.ec, .slice g.ra g.rs.length g.rc, .slice g.ua g.us.length g.uc], .string s, .int .i64 n] w fun e w' => e = .returned (.bool (aheadB (ens g) s.toList n)) ∧ Below w.heap.size w w' := by
  have HI := Lib.hid hI.es
  clear hI
  go_enter Tryz.func96, Tryz.ntmps96
  go_wp2_with fail
  go_loopw [7] (fun i wr => ∃ k : Nat, k ≤ n ∧ i = .int .i64 k ∧ Hid (∀ j, j < k → ((Ev.name g.es[j]!).toList == s.toList) = false) ∧ Below (w.heap.size + 1) (boxW w g) wr) (fun i _ => n - (intOf i).toNat)
  case atStart => exact ⟨0, Nat.zero_le _, rfl, Lib.hid (fun j hj => absurd hj (Nat.not_lt_zero _)), by rw [← box_size w g]; exact Below.refl _ _⟩
  case round =>
    obtain ⟨k, hk, rfl, HR, hB⟩ := hrel
    obtain ⟨a0, a1, a2, a3⟩ := box_cells hB
    by_cases hlt : k < n
    · have hll : k < g.es.length := by omega
      obtain ⟨b, off, hA, hb, hc⟩ := HI.out.at_ (k := 6) (fun _ => rfl) (by omega) hll
      have k0 := hc 0 _ rfl
      rw [Nat.add_zero] at k0
      have k1 := hc 1 _ rfl
      have k2 := hc 2 _ rfl
      have k3 := hc 3 _ rfl
      have k4 := hc 4 _ rfl
      have k5 := hc 5 _ rfl
      rw [← (box_was hB).cell (p := ⟨b, _, none⟩) hb] at k0 k1 k2 k3 k4 k5
      rw [hA] at a1
      have hk0 : (0 : Int) ≤ (k : Int) := Int.natCast_nonneg _
      have hk1 : (k : Int) < (g.es.length : Int) := by omega
      have hk2 : (k : Int) < (n : Int) := by omega
      clear hc hA
      cases hq : ((Ev.name g.es[k]!).toList == s.toList) with
      | true =>
        have HF := Lib.hid (ahead_hit Ev.name hlt hll hq)
        clear HR
        generalize g.es[k]! = p at *
        go_wp2_with fail
        go_ret
        exact ⟨ret_bool HF.out.symm, box_was hB⟩
      | false =>
        have HR' := Lib.hid (no_more Ev.name HR.out hq)
        clear HR
        generalize g.es[k]! = p at *
        go_wp2_with fail
        go_roundw
        case rel => exact ⟨k + 1, hlt, by go_num, HR', hB⟩
        case measure => simp [intOf]; omega
    · obtain rfl : k = n := by omega
      have HF := Lib.hid (ahead_miss Ev.name hn HR.out)
      have hk2 : ¬ (k : Int) < (k : Int) := by omega
      clear HR
      go_wp2_with fail
      go_ret
      exact ⟨ret_bool HF.out.symm, box_was hB⟩

/-- The first user of a name, among some. -/
def userAt (g : Gr) (s : List UInt8) (n : Nat) : Int := if aheadB (uns g) s n then ((uns g).idxOf s : Int) else -1
theorem user_hit {g : Gr} {s : ByteArray} {k n : Nat} (hk : k < n) (hl : k < g.us.length) (h : ((Us.name g.us[k]!).toList == s.toList) = true) (hm : ∀ j, j < k → ((Us.name g.us[j]!).toList == s.toList) = false) : userAt g s.toList n = k := by
  unfold userAt
  rw [if_pos (show aheadB (uns g) s.toList n = true from ahead_hit Us.name hk hl h)]
  exact congrArg _ (at_hit Us.name hl h hm)
theorem user_miss {g : Gr} {s : ByteArray} {n : Nat} (h : aheadB (uns g) s.toList n = false) : userAt g s.toList n = -1 := by
  unfold userAt; rw [h]; rfl

set_option maxRecDepth 100000 in
set_option maxHeartbeats 1000000 in
theorem hasUser_any (w : World) (g : Gr) (s : ByteArray) (n : Nat) (hI : InG w g) (hz : g.us.length * 56 ≤ 140737488351232) (hn : n ≤ g.us.length) :
    Calls Tryz.prog 98 #[.agg #[.slice g.ga g.gs.length g.gc, .slice g.ea g.es.length g.ec, .slice g.ra g.rs.length g.rc, .slice g.ua g.us.length g.uc], .string s, .int .i64 n] w fun e w' => e = .returned (.int .i64 (userAt g s.toList n)) ∧ Below w.heap.size w w' := by
  have HI := Lib.hid hI.us
  clear hI
  go_enter Tryz.func98, Tryz.ntmps98
  go_wp2_with fail
  go_loopw [7] (fun i wr => ∃ k : Nat, k ≤ n ∧ i = .int .i64 k ∧ Hid (∀ j, j < k → ((Us.name g.us[j]!).toList == s.toList) = false) ∧ Below (w.heap.size + 1) (boxW w g) wr) (fun i _ => n - (intOf i).toNat)
  case atStart => exact ⟨0, Nat.zero_le _, rfl, Lib.hid (fun j hj => absurd hj (Nat.not_lt_zero _)), by rw [← box_size w g]; exact Below.refl _ _⟩
  case round =>
    obtain ⟨k, hk, rfl, HR, hB⟩ := hrel
    obtain ⟨a0, a1, a2, a3⟩ := box_cells hB
    by_cases hlt : k < n
    · have hll : k < g.us.length := by omega
      obtain ⟨b, off, hA, hb, hc⟩ := HI.out.at_ (k := 3) (fun _ => rfl) (by omega) hll
      have k0 := hc 0 _ rfl
      rw [Nat.add_zero] at k0
      have k1 := hc 1 _ rfl
      have k2 := hc 2 _ rfl
      rw [← (box_was hB).cell (p := ⟨b, _, none⟩) hb] at k0 k1 k2
      rw [hA] at a3
      have hk0 : (0 : Int) ≤ (k : Int) := Int.natCast_nonneg _
      have hk1 : (k : Int) < (g.us.length : Int) := by omega
      have hk2 : (k : Int) < (n : Int) := by omega
      clear hc hA
      cases hq : ((Us.name g.us[k]!).toList == s.toList) with
      | true =>
        have HF := Lib.hid (user_hit hlt hll hq HR.out)
        clear HR
        generalize g.us[k]! = p at *
        go_wp2_with fail
        go_ret
        exact ⟨ret_i64 HF.out.symm, box_was hB⟩
      | false =>
        have HR' := Lib.hid (no_more Us.name HR.out hq)
        clear HR
        generalize g.us[k]! = p at *
        go_wp2_with fail
        go_roundw
        case rel => exact ⟨k + 1, hlt, by go_num, HR', hB⟩
        case measure => simp [intOf]; omega
    · obtain rfl : k = n := by omega
      have HF := Lib.hid (ahead_miss Us.name hn HR.out)
      have hk2 : ¬ (k : Int) < (k : Int) := by omega
      clear HR
      go_wp2_with fail
      go_ret
      exact ⟨ret_i64 (user_miss HF.out).symm, box_was hB⟩
end Go.Proofs.YtandfjahfbeaiaaGreat
