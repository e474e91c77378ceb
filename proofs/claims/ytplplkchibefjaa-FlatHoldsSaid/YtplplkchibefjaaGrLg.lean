/-
  Contract of the document's own Large, of every graph: where it answers false, the graph has few parts.
-/
import Derived.Test.YtplplkchibefjaaGrY
namespace Go.Proofs.Ytplplkchibefjaa
open Go.RowKit Go.Shelf

/-- A graph of few parts. -/
def SmallG (g : Gr) : Prop := g.gs.length ≤ 50 ∧ g.es.length ≤ 90 ∧ g.rs.length ≤ 320 ∧ g.us.length ≤ 50
def LargeOf (g : Gr) (w : World) (e : Ending) (w' : World) : Prop := ∃ b : Bool, e = .returned (.bool b) ∧ (b = false → SmallG g) ∧ Below w.heap.size w w'
def LgRel (w : World) (g : Gr) (len : Nat) (n i : Value) (wr : World) : Prop :=
  ∃ (k : Nat) (x : Int), k ≤ len ∧ i = .int .i64 k ∧ n = .int .i64 x ∧ Below (w.heap.size + 1) (boxW w g) wr
theorem box_old {w w1 : World} {g : Gr} (hb : Below (w.heap.size + 1) (boxW w g) w1) : Below w.heap.size w w1 :=
  (box_below w g).trans (hb.mono (by omega))

set_option maxRecDepth 100000 in
set_option maxHeartbeats 8000000 in
theorem large_any (w : World) (g : Gr) (hI : InG w g) (hz : SzG g) :
    Calls Try.prog 14 #[.agg #[.slice g.ga g.gs.length g.gc, .slice g.ea g.es.length g.ec, .slice g.ra g.rs.length g.rc, .slice g.ua g.us.length g.uc]] w (LargeOf g w) := by
  have z1 := hz.gs
  have z2 := hz.es
  have z3 := hz.rs
  have z4 := hz.us
  have HI := Lib.hid hI
  have HZ := Lib.hid hz
  clear hI hz
  go_enter Try.func14, Try.ntmps14
  go_wp2_with fail
  go_loopw [3, 4] (fun n i wr => LgRel w g g.gs.length n i wr) (fun _ i _ => g.gs.length - (intOf i).toNat)
  case atStart => exact ⟨0, 0, Nat.zero_le _, rfl, rfl, by rw [← box_size w g]; exact Below.refl _ _⟩
  case round =>
    obtain ⟨k, x, hk, rfl, rfl, hB⟩ := hrel
    obtain ⟨a0, a1, a2, a3⟩ := box_cells hB
    by_cases hlt : k < g.gs.length
    · obtain ⟨b, off, hA, hb, hc⟩ := HI.out.gs.at_ (k := 2) (fun _ => rfl) (by omega) hlt
      have k0 := hc 0 _ rfl
      rw [Nat.add_zero] at k0
      have k1 := hc 1 _ rfl
      rw [← (box_old hB).cell (p := ⟨b, _, none⟩) hb] at k0 k1
      rw [hA] at a0
      obtain ⟨hs1, hs2⟩ := HZ.out.gp _ (mem_at hlt)
      clear hc hA
      generalize g.gs[k]! = p at *
      have hk0 : (0 : Int) ≤ (k : Int) := Int.natCast_nonneg _
      have hk1 : (k : Int) < (g.gs.length : Int) := by omega
      go_wp2_with fail
      go_quiet (fail)
      go_wp2_with fail
      go_roundw
      case rel => exact ⟨k + 1, _, hlt, by go_num, rfl, below_draws hB _⟩
      case measure => simp [intOf]; omega
    · obtain rfl : k = g.gs.length := by omega
      go_wp2_with fail
      clear hk a0 a1 a2 a3
      go_loopw [3, 5] (fun n i wr => LgRel w g g.es.length n i wr) (fun _ i _ => g.es.length - (intOf i).toNat)
      case atStart => exact ⟨0, _, Nat.zero_le _, rfl, rfl, hB⟩
      case round =>
        clear hB
        obtain ⟨k, y, hk, rfl, rfl, hB⟩ := hrel
        obtain ⟨a0, a1, a2, a3⟩ := box_cells hB
        by_cases hlt : k < g.es.length
        · obtain ⟨b, off, hA, hb, hc⟩ := HI.out.es.at_ (k := 6) (fun _ => rfl) (by omega) hlt
          have k0 := hc 0 _ rfl
          rw [Nat.add_zero] at k0
          have k1 := hc 1 _ rfl
          have k2 := hc 2 _ rfl
          have k3 := hc 3 _ rfl
          have k4 := hc 4 _ rfl
          have k5 := hc 5 _ rfl
          rw [← (box_old hB).cell (p := ⟨b, _, none⟩) hb] at k0 k1 k2 k3 k4 k5
          rw [hA] at a1
          obtain ⟨hs1, hs2, hs3, _⟩ := HZ.out.ev _ (mem_at hlt)
          clear hc hA
          generalize g.es[k]! = p at *
          have hk0 : (0 : Int) ≤ (k : Int) := Int.natCast_nonneg _
          have hk1 : (k : Int) < (g.es.length : Int) := by omega
          go_wp2_with fail
          go_quiet (fail)
          go_wp2_with fail
          go_roundw
          case rel => exact ⟨k + 1, _, hlt, by go_num, rfl, below_draws hB _⟩
          case measure => simp [intOf]; omega
        · obtain rfl : k = g.es.length := by omega
          go_wp2_with fail
          clear hk a0 a1 a2 a3
          go_loopw [3, 6] (fun n i wr => LgRel w g g.rs.length n i wr) (fun _ i _ => g.rs.length - (intOf i).toNat)
          case atStart => exact ⟨0, _, Nat.zero_le _, rfl, rfl, hB⟩
          case round =>
            clear hB
            obtain ⟨k, y, hk, rfl, rfl, hB⟩ := hrel
            obtain ⟨a0, a1, a2, a3⟩ := box_cells hB
            by_cases hlt : k < g.rs.length
            · obtain ⟨b, off, hA, hb, hc⟩ := HI.out.rs.at_ (k := 4) (fun _ => rfl) (by omega) hlt
              have k0 := hc 0 _ rfl
              rw [Nat.add_zero] at k0
              have k1 := hc 1 _ rfl
              have k2 := hc 2 _ rfl
              have k3 := hc 3 _ rfl
              rw [← (box_old hB).cell (p := ⟨b, _, none⟩) hb] at k0 k1 k2 k3
              rw [hA] at a2
              obtain ⟨hs1, hs2, _⟩ := HZ.out.rl _ (mem_at hlt)
              clear hc hA
              generalize g.rs[k]! = p at *
              have hk0 : (0 : Int) ≤ (k : Int) := Int.natCast_nonneg _
              have hk1 : (k : Int) < (g.rs.length : Int) := by omega
              go_wp2_with fail
              go_quiet (fail)
              go_wp2_with fail
              go_roundw
              case rel => exact ⟨k + 1, _, hlt, by go_num, rfl, below_draws hB _⟩
              case measure => simp [intOf]; omega
            · obtain rfl : k = g.rs.length := by omega
              go_wp2_with fail
              clear hk a0 a1 a2 a3
              go_loopw [3, 7] (fun n i wr => LgRel w g g.us.length n i wr) (fun _ i _ => g.us.length - (intOf i).toNat)
              case atStart => exact ⟨0, _, Nat.zero_le _, rfl, rfl, hB⟩
              case round =>
                clear hB
                obtain ⟨k, y, hk, rfl, rfl, hB⟩ := hrel
                obtain ⟨a0, a1, a2, a3⟩ := box_cells hB
                by_cases hlt : k < g.us.length
                · obtain ⟨b, off, hA, hb, hc⟩ := HI.out.us.at_ (k := 3) (fun _ => rfl) (by omega) hlt
                  have k0 := hc 0 _ rfl
                  rw [Nat.add_zero] at k0
                  have k1 := hc 1 _ rfl
                  have k2 := hc 2 _ rfl
                  rw [← (box_old hB).cell (p := ⟨b, _, none⟩) hb] at k0 k1 k2
                  rw [hA] at a3
                  obtain ⟨hs1, hs2, hs3, hs4⟩ := HZ.out.ur _ (mem_at hlt)
                  have HA := Lib.hid hA
                  have HC := Lib.hid hc
                  have HR := Lib.hid (HI.out.roles _ (mem_at hlt))
                  clear hc hA
                  generalize g.us[k]! = p at *
                  have hk0 : (0 : Int) ≤ (k : Int) := Int.natCast_nonneg _
                  have hk1 : (k : Int) < (g.us.length : Int) := by omega
                  go_wp2_with fail
                  go_quiet (fail)
                  go_wp2_with fail
                  obtain ⟨wo, rfl⟩ : ∃ wo : World, wo = wr := ⟨_, rfl⟩
                  clear k0 k1 k2 a0 a1 a2 a3
                  go_loopw [3, 8] (fun n i wr => LgRel w g p.roles.length n i wr) (fun _ i _ => p.roles.length - (intOf i).toNat)
                  case atStart => exact ⟨0, _, Nat.zero_le _, rfl, rfl, below_draws hB _⟩
                  case round =>
                    clear hB
                    obtain ⟨j, z, hj, rfl, rfl, hB⟩ := hrel
                    obtain ⟨a0, a1, a2, a3⟩ := box_cells hB
                    have k1 := HC.out 1 _ rfl
                    rw [← (box_old hB).cell (p := ⟨b, _, none⟩) hb] at k1
                    rw [HA.out] at a3
                    by_cases hjt : j < p.roles.length
                    · obtain ⟨b', off', hA', hb', hc'⟩ := HR.out.str_at hjt
                      rw [← (box_old hB).cell (p := ⟨b', _, none⟩) hb'] at hc'
                      rw [hA'] at k1
                      have hss := hs4 _ (mem_at hjt)
                      clear hA'
                      generalize p.roles[j]! = q at *
                      have hj0 : (0 : Int) ≤ (j : Int) := Int.natCast_nonneg _
                      have hj1 : (j : Int) < (p.roles.length : Int) := by omega
                      go_wp2_with fail
                      go_roundw
                      case rel => exact ⟨j + 1, _, hjt, by go_num, rfl, hB⟩
                      case measure => simp [intOf]; omega
                    · obtain rfl : j = p.roles.length := by omega
                      go_wp2_with fail
                      go_roundw
                      case rel => exact ⟨k + 1, _, hlt, by go_num, rfl, hB⟩
                      case measure => simp [intOf]; omega
                · obtain rfl : k = g.us.length := by omega
                  clear hk
                  by_cases e0 : 10000 < y
                  · go_wp2_with fail
                    go_ret
                    exact ⟨true, rfl, (fun h => by cases h), box_old hB⟩
                  go_wp2_with fail
                  all_goals
                    go_ret
                    first
                      | exact ⟨true, rfl, (fun h => by cases h), box_old hB⟩
                      | (refine ⟨_, rfl, (fun h => ?_), box_old hB⟩; simp only [Bool.or_eq_false_iff, decide_eq_false_iff_not, Int.not_lt] at h; exact ⟨by omega, by omega, by omega, by omega⟩)
end Go.Proofs.Ytplplkchibefjaa
