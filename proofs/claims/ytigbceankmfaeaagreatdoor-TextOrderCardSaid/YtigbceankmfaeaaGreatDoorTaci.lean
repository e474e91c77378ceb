/-
  Contract of the document's own Same, of any graphs. What Parse made, as a graph that lies there; what a graph's text says again.
-/
import Derived.Test.YtigbceankmfaeaaGreatDoorTach
import Derived.Test.YtigbceankmfaeaaGreatDoorTace
import Derived.Test.YtigbceankmfaeaaGreatDoorTacg
import Derived.WalkArith
namespace Go.Proofs.YtigbceankmfaeaaGreatDoor
open Go.RowKit Go.Shelf
theorem sameL_gs {a b : Gr} (h : eqLB same_gp a.gs b.gs = false) : sameL a b = false := by rw [sameL, h]; rfl
theorem sameL_es {a b : Gr} (h : eqLB same_ev a.es b.es = false) : sameL a b = false := by rw [sameL, h]; simp
theorem sameL_rs {a b : Gr} (h : eqLB same_rl a.rs b.rs = false) : sameL a b = false := by rw [sameL, h]; simp
theorem sameL_us {a b : Gr} (h : eqLB same_us a.us b.us = false) : sameL a b = false := by rw [sameL, h]; simp
def TwoRel (w : World) (a b : Gr) (len : Nat) (P : Nat → Bool) (i : Value) (wr : World) : Prop :=
  ∃ k : Nat, k ≤ len ∧ i = .int .i64 k ∧ Hid (∀ j, j < k → P j = true) ∧ Hid (Below (w.heap.size + 2) (boxW (boxW w a) b) wr)
theorem two_old {w w1 : World} {a b : Gr} (hb : Below (w.heap.size + 2) (boxW (boxW w a) b) w1) : Below w.heap.size w w1 :=
  ((box_below w a).trans ((box_below (boxW w a) b).mono (by rw [box_size]; omega))).trans (hb.mono (by omega))
set_option maxRecDepth 100000 in
set_option maxHeartbeats 8000000 in
theorem refsame_any (w : World) (a b : Gr) (hIa : InG w a) (hIb : InG w b) (hza : SzG a) :
    Calls Tryz.prog 14 #[.agg #[.slice a.ga a.gs.length a.gc, .slice a.ea a.es.length a.ec, .slice a.ra a.rs.length a.rc, .slice a.ua a.us.length a.uc], .agg #[.slice b.ga b.gs.length b.gc, .slice b.ea b.es.length b.ec, .slice b.ra b.rs.length b.rc, .slice b.ua b.us.length b.uc]] w fun e w' =>
      e = .returned (.bool (sameL a b)) ∧ Below w.heap.size w w' := by
  have z1 := hza.gs
  have z2 := hza.es
  have z3 := hza.rs
  have z4 := hza.us
  have HA := Lib.hid hIa
  have HB := Lib.hid hIb
  have HZ := Lib.hid hza
  have hm1 : Tryz.prog.eqGuardType Tryz.prog.depth 43 = false := by kernel_rfl
  have hm2 : Tryz.prog.eqGuardType Tryz.prog.depth 46 = false := by kernel_rfl
  have hm3 : Tryz.prog.eqGuardType Tryz.prog.depth 48 = false := by kernel_rfl
  clear hIa hIb hza
  have B0 : Hid (Below (w.heap.size + 2) (boxW (boxW w a) b) (boxW (boxW w a) b)) := Lib.hid (Below.refl _ _)
  by_cases l1 : a.gs.length = b.gs.length
  · by_cases l2 : a.es.length = b.es.length
    · by_cases l3 : a.rs.length = b.rs.length
      · by_cases l4 : a.us.length = b.us.length
        · have L1 := Lib.hid l1
          have L2 := Lib.hid l2
          have L3 := Lib.hid l3
          have L4 := Lib.hid l4
          have t1 : ((a.gs.length : Int) != (b.gs.length : Int)) = false := by rw [bne_eq_false_iff_eq]; omega
          have t2 : ((a.es.length : Int) != (b.es.length : Int)) = false := by rw [bne_eq_false_iff_eq]; omega
          have t3 : ((a.rs.length : Int) != (b.rs.length : Int)) = false := by rw [bne_eq_false_iff_eq]; omega
          have t4 : ((a.us.length : Int) != (b.us.length : Int)) = false := by rw [bne_eq_false_iff_eq]; omega
          clear l1 l2 l3 l4
          go_enter Tryz.func14, Tryz.ntmps14
          go_wp2_with fail
          clear t1 t2 t3 t4
          go_loopw [5] (fun i wr => TwoRel w a b a.gs.length (fun j => same_gp a.gs[j]! b.gs[j]!) i wr) (fun i _ => a.gs.length - (intOf i).toNat)
          case atStart => exact ⟨0, Nat.zero_le _, rfl, fun j hj => absurd hj (Nat.not_lt_zero _), B0⟩
          case round =>
            obtain ⟨k, hk, rfl, HR, hB⟩ := hrel
            obtain ⟨⟨a0, a1, a2, a3⟩, b0, b1, b2, b3⟩ := two_cells hB.out
            by_cases hlt : k < a.gs.length
            · have hlt2 : k < b.gs.length := by have := L1.out; omega
              obtain ⟨p, off1, hA1, hp, hc1⟩ := HA.out.gs.at_ (k := 2) (fun _ => rfl) (by omega) hlt
              obtain ⟨q, off2, hA2, hq, hc2⟩ := HB.out.gs.at_ (k := 2) (fun _ => rfl) (by omega) hlt2
              have x0 := hc1 0 _ rfl
              rw [Nat.add_zero] at x0
              have x1 := hc1 1 _ rfl
              rw [← (two_old hB.out).cell (p := ⟨p, _, none⟩) hp] at x0 x1
              have y0 := hc2 0 _ rfl
              rw [Nat.add_zero] at y0
              have y1 := hc2 1 _ rfl
              rw [← (two_old hB.out).cell (p := ⟨q, _, none⟩) hq] at y0 y1
              rw [hA1] at a0
              rw [hA2] at b0
              clear hc1 hc2 hA1 hA2
              have i0 : (0 : Int) ≤ (k : Int) := Int.natCast_nonneg _
              have i1 : (k : Int) < (a.gs.length : Int) := by omega
              have i2 : (k : Int) < (b.gs.length : Int) := by omega
              have hqq := fun W => neq_gp a.gs[k]! b.gs[k]! W
              cases hn : same_gp a.gs[k]! b.gs[k]! with
              | true =>
                have HR' : Hid (∀ j, j < k + 1 → same_gp a.gs[j]! b.gs[j]! = true) := Lib.hid (all_more HR.out hn)
                rw [hn] at hqq
                clear hn HR
                generalize a.gs[k]! = x at *
                generalize b.gs[k]! = y at *
                go_wp2_with fail
                go_quiet (fail)
                go_wp2_with fail
                go_roundw
                case rel => exact ⟨k + 1, hlt, by go_num, HR', Lib.hid (below_draws hB.out _)⟩
                case measure => simp [intOf]; omega
              | false =>
                have HF : Hid (sameL a b = false) := Lib.hid (sameL_gs (eqLB_bad hlt hn))
                rw [hn] at hqq
                clear hn HR
                generalize a.gs[k]! = x at *
                generalize b.gs[k]! = y at *
                go_wp2_with fail
                go_quiet (fail)
                go_wp2_with fail
                go_ret
                exact ⟨ret_bool HF.out.symm, below_draws (two_old hB.out) _⟩
            · obtain rfl : k = a.gs.length := by omega
              have E1 : Hid (eqLB same_gp a.gs b.gs = true) := Lib.hid (eqLB_all L1.out HR.out)
              clear HR
              go_wp2_with fail
              clear hk hlt a0 a1 a2 a3 b0 b1 b2 b3
              go_loopw [6] (fun i wr => TwoRel w a b a.es.length (fun j => same_ev a.es[j]! b.es[j]!) i wr) (fun i _ => a.es.length - (intOf i).toNat)
              case atStart => exact ⟨0, Nat.zero_le _, rfl, fun j hj => absurd hj (Nat.not_lt_zero _), hB⟩
              case round =>
                clear hB
                obtain ⟨k, hk, rfl, HR, hB⟩ := hrel
                obtain ⟨⟨a0, a1, a2, a3⟩, b0, b1, b2, b3⟩ := two_cells hB.out
                by_cases hlt : k < a.es.length
                · have hlt2 : k < b.es.length := by have := L2.out; omega
                  obtain ⟨p, off1, hA1, hp, hc1⟩ := HA.out.es.at_ (k := 6) (fun _ => rfl) (by omega) hlt
                  obtain ⟨q, off2, hA2, hq, hc2⟩ := HB.out.es.at_ (k := 6) (fun _ => rfl) (by omega) hlt2
                  have x0 := hc1 0 _ rfl
                  rw [Nat.add_zero] at x0
                  have x1 := hc1 1 _ rfl
                  have x2 := hc1 2 _ rfl
                  have x3 := hc1 3 _ rfl
                  have x4 := hc1 4 _ rfl
                  have x5 := hc1 5 _ rfl
                  rw [← (two_old hB.out).cell (p := ⟨p, _, none⟩) hp] at x0 x1 x2 x3 x4 x5
                  have y0 := hc2 0 _ rfl
                  rw [Nat.add_zero] at y0
                  have y1 := hc2 1 _ rfl
                  have y2 := hc2 2 _ rfl
                  have y3 := hc2 3 _ rfl
                  have y4 := hc2 4 _ rfl
                  have y5 := hc2 5 _ rfl
                  rw [← (two_old hB.out).cell (p := ⟨q, _, none⟩) hq] at y0 y1 y2 y3 y4 y5
                  rw [hA1] at a1
                  rw [hA2] at b1
                  clear hc1 hc2 hA1 hA2
                  have i0 : (0 : Int) ≤ (k : Int) := Int.natCast_nonneg _
                  have i1 : (k : Int) < (a.es.length : Int) := by omega
                  have i2 : (k : Int) < (b.es.length : Int) := by omega
                  have hqq := fun W => neq_ev a.es[k]! b.es[k]! W
                  cases hn : same_ev a.es[k]! b.es[k]! with
                  | true =>
                    have HR' : Hid (∀ j, j < k + 1 → same_ev a.es[j]! b.es[j]! = true) := Lib.hid (all_more HR.out hn)
                    rw [hn] at hqq
                    clear hn HR
                    generalize a.es[k]! = x at *
                    generalize b.es[k]! = y at *
                    go_wp2_with fail
                    go_quiet (fail)
                    go_wp2_with fail
                    go_roundw
                    case rel => exact ⟨k + 1, hlt, by go_num, HR', Lib.hid (below_draws hB.out _)⟩
                    case measure => simp [intOf]; omega
                  | false =>
                    have HF : Hid (sameL a b = false) := Lib.hid (sameL_es (eqLB_bad hlt hn))
                    rw [hn] at hqq
                    clear hn HR
                    generalize a.es[k]! = x at *
                    generalize b.es[k]! = y at *
                    go_wp2_with fail
                    go_quiet (fail)
                    go_wp2_with fail
                    go_ret
                    exact ⟨ret_bool HF.out.symm, below_draws (two_old hB.out) _⟩
                · obtain rfl : k = a.es.length := by omega
                  have E2 : Hid (eqLB same_ev a.es b.es = true) := Lib.hid (eqLB_all L2.out HR.out)
                  clear HR
                  go_wp2_with fail
                  clear hk hlt a0 a1 a2 a3 b0 b1 b2 b3
                  go_loopw [7] (fun i wr => TwoRel w a b a.rs.length (fun j => same_rl a.rs[j]! b.rs[j]!) i wr) (fun i _ => a.rs.length - (intOf i).toNat)
                  case atStart => exact ⟨0, Nat.zero_le _, rfl, fun j hj => absurd hj (Nat.not_lt_zero _), hB⟩
                  case round =>
                    clear hB
                    obtain ⟨k, hk, rfl, HR, hB⟩ := hrel
                    obtain ⟨⟨a0, a1, a2, a3⟩, b0, b1, b2, b3⟩ := two_cells hB.out
                    by_cases hlt : k < a.rs.length
                    · have hlt2 : k < b.rs.length := by have := L3.out; omega
                      obtain ⟨p, off1, hA1, hp, hc1⟩ := HA.out.rs.at_ (k := 4) (fun _ => rfl) (by omega) hlt
                      obtain ⟨q, off2, hA2, hq, hc2⟩ := HB.out.rs.at_ (k := 4) (fun _ => rfl) (by omega) hlt2
                      have x0 := hc1 0 _ rfl
                      rw [Nat.add_zero] at x0
                      have x1 := hc1 1 _ rfl
                      have x2 := hc1 2 _ rfl
                      have x3 := hc1 3 _ rfl
                      rw [← (two_old hB.out).cell (p := ⟨p, _, none⟩) hp] at x0 x1 x2 x3
                      have y0 := hc2 0 _ rfl
                      rw [Nat.add_zero] at y0
                      have y1 := hc2 1 _ rfl
                      have y2 := hc2 2 _ rfl
                      have y3 := hc2 3 _ rfl
                      rw [← (two_old hB.out).cell (p := ⟨q, _, none⟩) hq] at y0 y1 y2 y3
                      rw [hA1] at a2
                      rw [hA2] at b2
                      clear hc1 hc2 hA1 hA2
                      have i0 : (0 : Int) ≤ (k : Int) := Int.natCast_nonneg _
                      have i1 : (k : Int) < (a.rs.length : Int) := by omega
                      have i2 : (k : Int) < (b.rs.length : Int) := by omega
                      have hqq := fun W => neq_rl a.rs[k]! b.rs[k]! W
                      cases hn : same_rl a.rs[k]! b.rs[k]! with
                      | true =>
                        have HR' : Hid (∀ j, j < k + 1 → same_rl a.rs[j]! b.rs[j]! = true) := Lib.hid (all_more HR.out hn)
                        rw [hn] at hqq
                        clear hn HR
                        generalize a.rs[k]! = x at *
                        generalize b.rs[k]! = y at *
                        go_wp2_with fail
                        go_quiet (fail)
                        go_wp2_with fail
                        go_roundw
                        case rel => exact ⟨k + 1, hlt, by go_num, HR', Lib.hid (below_draws hB.out _)⟩
                        case measure => simp [intOf]; omega
                      | false =>
                        have HF : Hid (sameL a b = false) := Lib.hid (sameL_rs (eqLB_bad hlt hn))
                        rw [hn] at hqq
                        clear hn HR
                        generalize a.rs[k]! = x at *
                        generalize b.rs[k]! = y at *
                        go_wp2_with fail
                        go_quiet (fail)
                        go_wp2_with fail
                        go_ret
                        exact ⟨ret_bool HF.out.symm, below_draws (two_old hB.out) _⟩
                    · obtain rfl : k = a.rs.length := by omega
                      have E3 : Hid (eqLB same_rl a.rs b.rs = true) := Lib.hid (eqLB_all L3.out HR.out)
                      clear HR
                      go_wp2_with fail
                      clear hk hlt a0 a1 a2 a3 b0 b1 b2 b3
                      go_loopw [8] (fun i wr => TwoRel w a b a.us.length (fun j => same_us a.us[j]! b.us[j]!) i wr) (fun i _ => a.us.length - (intOf i).toNat)
                      case atStart => exact ⟨0, Nat.zero_le _, rfl, fun j hj => absurd hj (Nat.not_lt_zero _), hB⟩
                      case round =>
                        clear hB
                        obtain ⟨k, hk, rfl, HR, hB⟩ := hrel
                        obtain ⟨⟨a0, a1, a2, a3⟩, b0, b1, b2, b3⟩ := two_cells hB.out
                        by_cases hlt : k < a.us.length
                        · have hlt2 : k < b.us.length := by have := L4.out; omega
                          obtain ⟨p, off1, hA1, hp, hc1⟩ := HA.out.us.at_ (k := 3) (fun _ => rfl) (by omega) hlt
                          obtain ⟨q, off2, hA2, hq, hc2⟩ := HB.out.us.at_ (k := 3) (fun _ => rfl) (by omega) hlt2
                          have x0 := hc1 0 _ rfl
                          rw [Nat.add_zero] at x0
                          have x1 := hc1 1 _ rfl
                          have x2 := hc1 2 _ rfl
                          rw [← (two_old hB.out).cell (p := ⟨p, _, none⟩) hp] at x0 x1 x2
                          have y0 := hc2 0 _ rfl
                          rw [Nat.add_zero] at y0
                          have y1 := hc2 1 _ rfl
                          have y2 := hc2 2 _ rfl
                          rw [← (two_old hB.out).cell (p := ⟨q, _, none⟩) hq] at y0 y1 y2
                          rw [hA1] at a3
                          rw [hA2] at b3
                          clear hc1 hc2 hA1 hA2
                          have i0 : (0 : Int) ≤ (k : Int) := Int.natCast_nonneg _
                          have i1 : (k : Int) < (a.us.length : Int) := by omega
                          have i2 : (k : Int) < (b.us.length : Int) := by omega
                          have lo := (two_old hB.out).size
                          have lb := hB.out.size
                          rw [box_size, box_size] at lb
                          have lp : p < wr.heap.size := by omega
                          have lq : q < wr.heap.size := by omega
                          have lw0 : w.heap.size < wr.heap.size := by omega
                          have lw1 : w.heap.size + 1 < wr.heap.size := by omega
                          have hBW : Hid (Below (w.heap.size + 2) (boxW (boxW w a) b) ((wr.alloc (.cells #[.string a.us[k]!.name, .slice a.us[k]!.ra a.us[k]!.roles.length a.us[k]!.rc, .string a.us[k]!.sub] 51)).alloc (.cells #[.string b.us[k]!.name, .slice b.us[k]!.ra b.us[k]!.roles.length b.us[k]!.rc, .string b.us[k]!.sub] 51))) := Lib.hid ((hB.out.alloc (by omega) _).alloc (by rw [World.size_alloc]; omega) _)
                          have C := Lib.hid (words_any a.us[k]!.ra b.us[k]!.ra a.us[k]!.rc b.us[k]!.rc a.us[k]!.roles b.us[k]!.roles _ ((HA.out.roles _ (mem_at hlt)).below (Nat.le_refl _) (two_old hBW.out)) ((HB.out.roles _ (mem_at hlt2)).below (Nat.le_refl _) (two_old hBW.out)) (HZ.out.ur _ (mem_at hlt)).2.2.1)
                          have HS : Hid (same_us a.us[k]! b.us[k]! = (a.us[k]!.name.toList == b.us[k]!.name.toList && (a.us[k]!.sub.toList == b.us[k]!.sub.toList && eqLB same_st a.us[k]!.roles b.us[k]!.roles))) := Lib.hid rfl
                          have HM : Hid (∀ v, same_us a.us[k]! b.us[k]! = v → (v = true → ∀ j, j < k + 1 → same_us a.us[j]! b.us[j]! = true) ∧ (v = false → sameL a b = false)) := Lib.hid (fun v hv => ⟨fun h => all_more HR.out (hv.trans h), fun h => sameL_us (eqLB_bad hlt (hv.trans h))⟩)
                          clear HR
                          generalize a.us[k]! = x at *
                          generalize b.us[k]! = y at *
                          cases hn : (x.name.toList == y.name.toList) with
                          | false =>
                            have HF := Lib.hid ((HM.out false (by rw [HS.out, hn]; rfl)).2 rfl)
                            go_wp2_with fail
                            go_ret
                            exact ⟨ret_bool HF.out.symm, two_old hBW.out⟩
                          | true =>
                            cases hs : (x.sub.toList == y.sub.toList) with
                            | false =>
                              have HF := Lib.hid ((HM.out false (by rw [HS.out, hn, hs]; rfl)).2 rfl)
                              go_wp2_with fail
                              go_ret
                              exact ⟨ret_bool HF.out.symm, two_old hBW.out⟩
                            | true =>
                              have HV : Hid (same_us x y = eqLB same_st x.roles y.roles) := Lib.hid (by rw [HS.out, hn, hs]; rfl)
                              have lbw := hBW.out.size
                              rw [box_size, box_size] at lbw
                              cases hw : eqLB same_st x.roles y.roles with
                              | false =>
                                have HF := Lib.hid ((HM.out false (by rw [HV.out, hw])).2 rfl)
                                rw [hw] at C
                                clear hw
                                go_wp2_with (go_at_call 33; refine C.out.mono ?_; rintro e w1 ⟨rfl, hb1⟩)
                                go_ret
                                exact ⟨ret_bool HF.out.symm, (two_old hBW.out).trans (hb1.mono (two_old hBW.out).size)⟩
                              | true =>
                                have HR' := Lib.hid ((HM.out true (by rw [HV.out, hw])).1 rfl)
                                rw [hw] at C
                                clear hw
                                go_wp2_with (go_at_call 33; refine C.out.mono ?_; rintro e w1 ⟨rfl, hb1⟩)
                                go_roundw
                                case rel => exact ⟨k + 1, hlt, by go_num, HR', Lib.hid (hBW.out.trans (hb1.mono lbw))⟩
                                case measure => simp [intOf]; omega
                        · obtain rfl : k = a.us.length := by omega
                          have HF : Hid (sameL a b = true) := Lib.hid (by rw [sameL, E1.out, E2.out, E3.out, eqLB_all L4.out HR.out]; rfl)
                          clear HR
                          go_wp2_with fail
                          go_ret
                          exact ⟨ret_bool HF.out.symm, two_old hB.out⟩
        · have HF : Hid (sameL a b = false) := Lib.hid (sameL_us (eqLB_len l4))
          have t1 : ((a.gs.length : Int) != (b.gs.length : Int)) = false := by rw [bne_eq_false_iff_eq]; omega
          have t2 : ((a.es.length : Int) != (b.es.length : Int)) = false := by rw [bne_eq_false_iff_eq]; omega
          have t3 : ((a.rs.length : Int) != (b.rs.length : Int)) = false := by rw [bne_eq_false_iff_eq]; omega
          have t4 : ((a.us.length : Int) != (b.us.length : Int)) = true := by rw [bne_iff_ne]; omega
          clear l1 l2 l3 l4
          go_enter Tryz.func14, Tryz.ntmps14
          go_wp2_with fail
          go_ret
          exact ⟨ret_bool HF.out.symm, two_old B0.out⟩
      · have HF : Hid (sameL a b = false) := Lib.hid (sameL_rs (eqLB_len l3))
        have t1 : ((a.gs.length : Int) != (b.gs.length : Int)) = false := by rw [bne_eq_false_iff_eq]; omega
        have t2 : ((a.es.length : Int) != (b.es.length : Int)) = false := by rw [bne_eq_false_iff_eq]; omega
        have t3 : ((a.rs.length : Int) != (b.rs.length : Int)) = true := by rw [bne_iff_ne]; omega
        clear l1 l2 l3
        go_enter Tryz.func14, Tryz.ntmps14
        go_wp2_with fail
        go_ret
        exact ⟨ret_bool HF.out.symm, two_old B0.out⟩
    · have HF : Hid (sameL a b = false) := Lib.hid (sameL_es (eqLB_len l2))
      have t1 : ((a.gs.length : Int) != (b.gs.length : Int)) = false := by rw [bne_eq_false_iff_eq]; omega
      have t2 : ((a.es.length : Int) != (b.es.length : Int)) = true := by rw [bne_iff_ne]; omega
      clear l1 l2
      go_enter Tryz.func14, Tryz.ntmps14
      go_wp2_with fail
      go_ret
      exact ⟨ret_bool HF.out.symm, two_old B0.out⟩
  · have HF : Hid (sameL a b = false) := Lib.hid (sameL_gs (eqLB_len l1))
    have t1 : ((a.gs.length : Int) != (b.gs.length : Int)) = true := by rw [bne_iff_ne]; omega
    clear l1
    go_enter Tryz.func14, Tryz.ntmps14
    go_wp2_with fail
    go_ret
    exact ⟨ret_bool HF.out.symm, two_old B0.out⟩
end Go.Proofs.YtigbceankmfaeaaGreatDoor

namespace Go.Proofs.YtigbceankmfaeaaGreatDoor.P3.L
open Go.RowKit Go.Shelf Go.Proofs.YtigbceankmfaeaaGreatDoor Go.Proofs.YtigbceankmfaeaaGreatDoor.P3 Go.Proofs.YtigbceankmfaeaaGreatDoor.P3.C
theorem size_of {s : ByteArray} {n : Nat} (h : s.toList.length ≤ n) : s.size ≤ n := by
  rw [Lib.toList_data, Array.length_toList] at h; exact h
theorem nm_size {s : ByteArray} (h : nameK s.toList = true) : s.size ≤ 140737488351232 := Nat.le_trans (size_of (name_len (nameK_L h))) (by omega)
theorem opt_size {s : ByteArray} (h : s.toList = [] ∨ nameK s.toList = true) : s.size ≤ 140737488351232 := by
  rcases h with h | h
  · exact size_of (by rw [h]; exact Nat.zero_le _)
  · exact nm_size h
theorem long_le (k : Int) : longL k ≤ 1048576 := by unfold longL; split <;> (try split) <;> omega
/-- A graph that may be is small. -/
theorem sz_may {g : Gr} (h : MayOk g) : SzG g where
  gs := by have := h.ngs; omega
  es := by have := h.nes; omega
  rs := by have := h.nrs; omega
  us := by have := h.nus; omega
  gp := fun p hp => ⟨nm_size (h.gs p hp).1, opt_size (h.gs p hp).2⟩
  ev := fun v hv => by
    obtain ⟨a, b, c, d, e⟩ := h.es v hv
    exact ⟨nm_size a, opt_size c, nm_size b, WalkArith.wf_i64 ⟨by omega, by omega⟩⟩
  rl := fun r hr => by
    obtain ⟨a, b, c, d, e, f⟩ := h.rs r hr
    have := long_le r.kind
    exact ⟨nm_size c, nm_size d, WalkArith.wf_i64 ⟨by omega, by omega⟩, WalkArith.wf_i64 ⟨by omega, by omega⟩⟩
  ur := fun u hu => by
    obtain ⟨a, b, c, d⟩ := h.us u hu
    exact ⟨nm_size a, opt_size c, by omega, fun s hs => nm_size (b s hs)⟩
/-- A graph that lies there, of these parts. -/
structure LG (w : World) (vs : List PartV) (g : Gr) : Prop where
  lies : InG w g
  small : SzG g
  cap : ∀ u ∈ g.us, u.roles.length ≤ u.rc
  nil : ∀ u ∈ g.us, u.ra = none → u.rc = 0
  gs : g.gs = gsOf vs
  es : g.es = esOf vs
  rs : g.rs = rsOf vs
  us : g.us.map usBare = usOf vs
theorem LG.check {w : World} {vs : List PartV} {g : Gr} (h : LG w vs g) : checkL (grOf vs) = checkL g :=
  check_same (g' := grOf vs) (g := g) h.gs.symm h.es.symm h.rs.symm h.us.symm
theorem LG.may {w : World} {vs : List PartV} {g : Gr} (h : LG w vs g) : mayL (grOf vs) = mayL g := by unfold mayL; rw [h.check]
theorem LG.below {w w' : World} {vs : List PartV} {g : Gr} (h : LG w vs g) (hb : Below w.heap.size w w') : LG w' vs g :=
  ⟨h.lies.below (Nat.le_refl _) hb, h.small, h.cap, h.nil, h.gs, h.es, h.rs, h.us⟩
theorem gro_in {B0 : Nat} {vs : List PartV} {v0 v1 v2 v3 : Value} {W : World} (h : GrO B0 vs v0 v1 v2 v3 W) (hm : mayL (grOf vs) = true) :
    ∃ g : Gr, v0 = .slice g.ga g.gs.length g.gc ∧ v1 = .slice g.ea g.es.length g.ec ∧ v2 = .slice g.ra g.rs.length g.rc ∧ v3 = .slice g.ua g.us.length g.uc ∧ LG W vs g := by
  obtain ⟨U, hU, o0, o1, o2, o3, hr⟩ := h
  obtain ⟨A0, c0, rfl⟩ := B.own_slice o0
  obtain ⟨A1, c1, rfl⟩ := B.own_slice o1
  obtain ⟨A2, c2, rfl⟩ := B.own_slice o2
  obtain ⟨A3, c3, rfl⟩ := B.own_slice o3
  have hc : checkL (grOf vs) = checkL ⟨gsOf vs, esOf vs, rsOf vs, U, A0, c0, A1, c1, A2, c2, A3, c3⟩ := check_same (g' := grOf vs) (g := ⟨gsOf vs, esOf vs, rsOf vs, U, A0, c0, A1, c1, A2, c2, A3, c3⟩) rfl rfl rfl hU.symm
  have hm' : mayL ⟨gsOf vs, esOf vs, rsOf vs, U, A0, c0, A1, c1, A2, c2, A3, c3⟩ = true := by unfold mayL at hm ⊢; rw [← hc]; exact hm
  exact ⟨⟨gsOf vs, esOf vs, rsOf vs, U, A0, c0, A1, c1, A2, c2, A3, c3⟩, rfl, rfl, rfl, rfl, ⟨Row.of_own o0, Row.of_own o1, Row.of_own o2, Row.of_own o3, fun u hu => Row.of_own (hr u hu)⟩, sz_may (may_ok hm'),
    fun u hu => (B.own_cap (hr u hu)).1, fun u hu => (B.own_cap (hr u hu)).2, rfl, rfl, rfl, hU⟩
theorem us_words (l l' : List Us) (h : l.map usBare = l'.map usBare) : l.map usW = l'.map usW := by
  have e : ∀ l : List Us, l.map usW = (l.map usBare).map usW := fun l => by rw [List.map_map]; exact List.map_congr_left fun _ _ => rfl
  rw [e l, e l', h]
theorem print_same {g h : Gr} (a : h.gs = g.gs) (b : h.es = g.es) (c : h.rs = g.rs) (d : h.us.map usBare = g.us.map usBare) : printT h = printT g := by
  unfold printT linesW
  rw [a, b, c, us_words _ _ d]
theorem eq_self {α : Type} [Inhabited α] {p : α → α → Bool} (h : ∀ x, p x x = true) (l : List α) : eqLB p l l = true := by
  unfold eqLB
  simp [h]
theorem same_self {g h : Gr} (a : h.gs = g.gs) (b : h.es = g.es) (c : h.rs = g.rs) (d : h.us.map usBare = g.us.map usBare) : sameL g h = true := by
  have e4 : eqLB same_us g.us h.us = true := by
    have hl : g.us.length = h.us.length := by have := congrArg List.length d; simpa using this.symm
    refine eqLB_all hl fun j hj => ?_
    have e : usBare g.us[j]! = usBare h.us[j]! := by rw [← bare_at, ← bare_at, d]
    have e0 := congrArg Us.name e
    have e1 := congrArg Us.roles e
    have e2 := congrArg Us.sub e
    simp only [usBare] at e0 e1 e2
    rw [same_us, e0, e1, e2, eq_self (fun x => by simp [same_st])]; simp
  unfold sameL
  rw [a, b, c, eq_self (fun x => by simp [same_gp]), eq_self (fun x => by simp [same_ev]), eq_self (fun x => by simp [same_rl]), e4]
  rfl
/-- What Parse says of the text that Print makes. -/
theorem parse_joined {g : Gr} (h : mayL g = true) : parseL (joinS true (printT g)) = (partsV g, 0, 0) := by
  rw [print_join (may_ok h).names]
  exact parse_ok.1 (parse_print h)
theorem LG.back {w : World} {g h : Gr} (x : LG w (partsV g) h) : h.gs = g.gs ∧ h.es = g.es ∧ h.rs = g.rs ∧ h.us.map usBare = g.us.map usBare :=
  ⟨x.gs.trans (gs_parts g), x.es.trans (es_parts g), x.rs.trans (rs_parts g), x.us.trans (us_parts g)⟩
/-- A text that is right tells parts that may be. -/
theorem parse_may {s : List UInt8} {vs : List PartV} (h : parseL s = (vs, 0, 0)) : mayL (grOf vs) = true := by
  have h := parse_ok.2 h
  unfold parseOk at h
  split at h
  · obtain ⟨_, _, m, e⟩ := (say_ok _ _).1 h
    rw [← e]; exact m
  · cases h
end Go.Proofs.YtigbceankmfaeaaGreatDoor.P3.L
