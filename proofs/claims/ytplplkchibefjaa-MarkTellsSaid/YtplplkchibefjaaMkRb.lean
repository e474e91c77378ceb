/-
  Contract of the document's own Enabled.
-/
import Derived.Test.YtplplkchibefjaaMkRa
namespace Go.Proofs.Ytplplkchibefjaa.M5
open Go.RowKit Go.Shelf Go.Proofs.Ytplplkchibefjaa.B

theorem stop_two {n : Nat} {l : List Mk} {t : Ti} {k : Nat} (hl : l.length = n) (hk : k < n) (h : twoB n t = false) : stopsB l k t = false := by
  unfold twoB at h
  unfold stopsB holdsB
  rw [Bool.and_eq_false_iff] at h
  rcases h with h | h
  · rw [hl, h, Bool.false_and, Bool.and_false]
  · have : (t.to == (k : Int)) = false := by rw [beq_eq_false_iff_ne]; intro e; rw [e, has_nat hk] at h; cases h
    rw [this, Bool.false_and]
theorem stop_to {l : List Mk} {t : Ti} {k : Nat} (h : (t.to == (k : Int)) = false) : stopsB l k t = false := by unfold stopsB; rw [h, Bool.false_and]
theorem stop_in {l : List Mk} {kd dd time : Int} {q k : Nat} (h : l[q]!.inn = false) : stopsB l k ⟨kd, q, dd, time⟩ = false := by
  unfold stopsB
  have : holdsB l ⟨kd, q, dd, time⟩ = false := by
    by_cases hq : q < l.length
    · rw [holds_yes hq, h]
      split
      · rfl
      · split
        · unfold waitB; rw [h]; rfl
        · rfl
    · unfold holdsB
      have : hasI l.length ((⟨kd, q, dd, time⟩ : Ti).fr) = false := by
        rw [Bool.eq_false_iff]; intro h2
        obtain ⟨p, hp, e⟩ := has_iff.1 h2
        have : (q : Int) = (p : Int) := e
        omega
      rw [this, Bool.false_and]
  rw [this, Bool.and_false]
theorem stop_eq {l : List Mk} {kd time : Int} {q k : Nat} (hq : q < l.length) (hi : l[q]!.inn = true) : stopsB l k ⟨kd, q, (k : Int), time⟩ = if kd = 1 then decide (l[q]!.age < max time 0) else if kd = 5 then decide (0 ≤ l[q]!.due) else false := by
  unfold stopsB
  rw [holds_yes hq, hi]
  have : (((⟨kd, q, (k : Int), time⟩ : Ti).to) == (k : Int)) = true := beq_iff_eq.2 rfl
  rw [this, Bool.true_and]
  split
  · rw [Bool.true_and]
  · split
    · unfold waitB; rw [hi, Bool.true_and]
    · rfl
theorem en_hit {ts : List Ti} {l : List Mk} {k j : Nat} (hj : j < ts.length) (h : stopsB l k ts[j]! = true) : enB ts l k = false := by
  unfold enB; rw [any_hit hj h]; simp
theorem en_miss {ts : List Ti} {l : List Mk} {k : Nat} (hi : l[k]!.inn = true) (h : ∀ j, j < ts.length → stopsB l k ts[j]! = false) : enB ts l k = true := by
  unfold enB; rw [any_miss h, hi]; rfl
set_option maxRecDepth 100000 in
set_option maxHeartbeats 3000000 in
theorem renabled_any (w : World) (EA TA A : Option Addr) (en ec tc c : Nat) (ts : List Ti) (l : List Mk) (i : Int) (ht : Row w TA (ts.flatMap tiC)) (htl : ts.length ≤ 300) (hr : Row w A (l.flatMap mkC)) (hl : l.length * 24 ≤ 140737488351232) :
    Calls Try.prog 30 #[.agg #[.slice EA en ec, .slice TA ts.length tc], .slice A l.length c, .int .i64 i] w fun e w' => e = .returned (.bool (enabledB en ts l i)) ∧ Below w.heap.size w w' := by
  have B0 := Lib.hid (BX.start 38 w #[.slice EA en ec, .slice TA ts.length tc])
  have C := Lib.hid (rfits_any (w.alloc (.cells #[.slice EA en ec, .slice TA ts.length tc] 38)) EA TA A en ec ts.length tc c l (hr.below (Nat.le_refl _) B0.out.b) hl)
  have HT := Lib.hid ht
  have HR := Lib.hid hr
  have HS : Hid (enabledB en ts l i = (fitsB en l && hasI l.length i && enB ts l i.toNat)) := Lib.hid rfl
  clear ht hr
  cases hf : fitsB en l with
  | false =>
    rw [hf] at C HS
    clear hf
    go_enter Try.func30, Try.ntmps30
    go_wp2_with fail
    refine C.out.mono ?_
    rintro e w3 ⟨rfl, hb3⟩
    have B3 := Lib.hid (B0.out.call hb3)
    clear hb3
    go_wp2_with fail
    go_ret
    exact ⟨ret_bool (by rw [HS.out]; rfl), B3.out.b⟩
  | true =>
    have HLen := Lib.hid (fits_len hf)
    rw [hf] at C HS
    clear hf
    by_cases h0 : 0 ≤ i
    · by_cases h1 : i < (l.length : Int)
      · obtain ⟨k, rfl⟩ : ∃ k : Nat, i = (k : Int) := ⟨i.toNat, by omega⟩
        have hk : k < l.length := by omega
        rw [has_nat hk, Int.toNat_natCast, Bool.true_and, Bool.true_and] at HS
        cases hin : l[k]!.inn with
        | false =>
          have HF : Hid (enB ts l k = false) := Lib.hid (by unfold enB; rw [hin]; rfl)
          obtain ⟨b, off, rfl, hb, hc⟩ := HR.out.at_ (k := 3) (fun _ => rfl) (by omega) hk
          have k0 := hc 0 _ rfl
          rw [Nat.add_zero, hin] at k0
          clear hc hin
          go_enter Try.func30, Try.ntmps30
          go_wp2_with fail
          refine C.out.mono ?_
          rintro e w3 ⟨rfl, hb3⟩
          have B3 := Lib.hid (B0.out.call hb3)
          rw [← B3.out.b.cell (p := ⟨b, _, none⟩) hb] at k0
          have hz := B3.out.lt
          have hbz : b < w3.heap.size := by omega
          clear hb3
          go_wp2_with fail
          go_ret
          exact ⟨ret_bool (by rw [HS.out, HF.out]), B3.out.b⟩
        | true =>
          have HIn := Lib.hid hin
          have dk1 : decide ((k : Int) < 0) = false := decide_eq_false (by omega)
          have dk2 : decide (l.length ≤ k) = false := decide_eq_false (by omega)
          obtain ⟨b, off, rfl, hb, hc⟩ := HR.out.at_ (k := 3) (fun _ => rfl) (by omega) hk
          have k0 := hc 0 _ rfl
          rw [Nat.add_zero, hin] at k0
          clear hc hin
          go_enter Try.func30, Try.ntmps30
          go_wp2_with fail
          refine C.out.mono ?_
          rintro e w3 ⟨rfl, hb3⟩
          have B3 := Lib.hid (B0.out.call hb3)
          rw [← B3.out.b.cell (p := ⟨b, _, none⟩) hb] at k0
          have hz := B3.out.lt
          have hbz : b < w3.heap.size := by omega
          clear hb3 C B0
          go_wp2_with fail
          clear k0 hz hbz
          go_loopw [7] (fun i wr => ∃ j : Nat, j ≤ ts.length ∧ i = .int .i64 j ∧ Hid (∀ q, q < j → stopsB l k ts[q]! = false) ∧ Hid (BX 38 w #[.slice EA en ec, .slice TA ts.length tc] wr)) (fun i _ => ts.length - (intOf i).toNat)
          case atStart => exact ⟨0, Nat.zero_le _, rfl, Lib.hid (fun j hj => absurd hj (Nat.not_lt_zero _)), B3⟩
          case round =>
            clear B3
            obtain ⟨j, hj, rfl, HP, HB⟩ := hrel
            obtain ⟨c0, c1⟩ := HB.out.cells
            have ll := HB.out.lt
            have hj0 : (0 : Int) ≤ (j : Int) := Int.natCast_nonneg _
            by_cases hlt : j < ts.length
            · obtain ⟨bt, ot, rfl, hbt, hct⟩ := HT.out.at_ (k := 4) (fun _ => rfl) (by omega) hlt
              have t0 := hct 0 _ rfl
              have t1 := hct 1 _ rfl
              have t2 := hct 2 _ rfl
              have t3 := hct 3 _ rfl
              rw [Nat.add_zero] at t0
              rw [← HB.out.b.cell (p := ⟨bt, _, none⟩) hbt] at t0 t1 t2 t3
              have hbtz : bt < wr.heap.size := by omega
              have hj1 : (j : Int) < (ts.length : Int) := by omega
              have HNo := fun h => Lib.hid (all_step HP.out h)
              have HHit := fun h => Lib.hid (en_hit (k := k) (l := l) hlt h)
              generalize ts[j]! = x at *
              obtain ⟨xk, xf, xt, xm⟩ := x
              simp only at t0 t1 t2 t3
              have HBx := Lib.hid (HB.out.alloc (.cells #[.int .i64 xk, .int .i64 xf, .int .i64 xt, .int .i64 xm] 101))
              have HX := Lib.hid (heap_new wr (.cells #[.int .i64 xk, .int .i64 xf, .int .i64 xt, .int .i64 xm] 101))
              have T := Lib.hid (two_any EA (some ⟨bt, ot, none⟩) en ec ts.length tc ⟨xk, xf, xt, xm⟩ (wr.alloc (.cells #[.int .i64 xk, .int .i64 xf, .int .i64 xt, .int .i64 xm] 101)))
              clear hct
              cases htw : twoB en ⟨xk, xf, xt, xm⟩ with
              | false =>
                have HN := HNo (stop_two HLen.out (by have := HLen.out; omega) htw)
                rw [htw] at T
                clear HNo HHit htw
                go_wp2_with fail
                refine T.out.mono ?_
                rintro e w5 ⟨rfl, hb5⟩
                have B5 := Lib.hid (HBx.out.call hb5)
                clear hb5
                go_wp2_with fail
                go_roundw
                case rel => first | exact ⟨j + 1, hlt, by go_num, HN, B5⟩ | ((repeat apply Exists.intro (α := Value)); refine ⟨?_, rfl⟩; exact ⟨j + 1, hlt, by go_num, HN, B5⟩)
                case measure => simp [intOf]; omega
              | true =>
                rw [htw] at T
                cases hto : (xt == (k : Int)) with
                | false =>
                  have HN := HNo (stop_to hto)
                  have hto2 : (xt != (k : Int)) = true := by rw [bne, hto]; rfl
                  clear HNo HHit htw hto
                  go_wp2_with fail
                  refine T.out.mono ?_
                  rintro e w5 ⟨rfl, hb5⟩
                  have B5 := Lib.hid (HBx.out.call hb5)
                  have hz5 := hb5.size
                  rw [World.size_alloc] at hz5
                  have n5 := (hb5.block wr.heap.size (by rw [World.size_alloc]; omega)).trans HX.out
                  have y2 : w5.cell? ⟨wr.heap.size, 2, none⟩ = some (.int .i64 xt) := cell_blk n5 rfl
                  clear hb5 n5 t0 t1 t2 t3
                  go_wp2_with fail
                  go_roundw
                  case rel => first | exact ⟨j + 1, hlt, by go_num, HN, B5⟩ | ((repeat apply Exists.intro (α := Value)); refine ⟨?_, rfl⟩; exact ⟨j + 1, hlt, by go_num, HN, B5⟩)
                  case measure => simp [intOf]; omega
                | true =>
                  obtain rfl : xt = (k : Int) := beq_iff_eq.1 hto
                  have hfr : hasI en xf = true := by unfold twoB at htw; rw [Bool.and_eq_true] at htw; exact htw.1
                  obtain ⟨q, hq, hqe⟩ := has_iff.1 hfr
                  obtain rfl : xf = (q : Int) := hqe
                  have hql : q < l.length := by have := HLen.out; omega
                  clear htw hto hfr
                  obtain ⟨b, off, e, hb, hc⟩ := HR.out.at_ (k := 3) (fun _ => rfl) (by omega) hql
                  injection e with e
                  injection e with e1 e2 _
                  subst e1 e2
                  have m0 := hc 0 _ rfl
                  have m1 := hc 1 _ rfl
                  have m2 := hc 2 _ rfl
                  rw [Nat.add_zero] at m0
                  have HIn2 := fun h => HNo (stop_in (q := q) (kd := xk) (dd := (k : Int)) (time := xm) (k := k) h)
                  have HEq := fun h => Lib.hid (stop_eq (kd := xk) (time := xm) (k := k) hql h)
                  generalize l[q]! = y at *
                  obtain ⟨yi, ya, yd⟩ := y
                  simp only at m0 m1 m2 HIn2 HEq
                  have hq0 : (0 : Int) ≤ (q : Int) := Int.natCast_nonneg _
                  have hq1 : (q : Int) < (l.length : Int) := by omega
                  cases yi with
                  | false =>
                    have HN := HIn2 rfl
                    clear HNo HHit HIn2 HEq
                    go_wp2_with fail
                    refine T.out.mono ?_
                    rintro e w5 ⟨rfl, hb5⟩
                    have B5 := Lib.hid (HBx.out.call hb5)
                    have hz5 := hb5.size
                    rw [World.size_alloc] at hz5
                    have n5 := (hb5.block wr.heap.size (by rw [World.size_alloc]; omega)).trans HX.out
                    have y0 : w5.cell? ⟨wr.heap.size, 0, none⟩ = some (.int .i64 xk) := cell_blk n5 rfl
                    have y1 : w5.cell? ⟨wr.heap.size, 1, none⟩ = some (.int .i64 q) := cell_blk n5 rfl
                    have y2 : w5.cell? ⟨wr.heap.size, 2, none⟩ = some (.int .i64 k) := cell_blk n5 rfl
                    have y3 : w5.cell? ⟨wr.heap.size, 3, none⟩ = some (.int .i64 xm) := cell_blk n5 rfl
                    rw [← B5.out.b.cell (p := ⟨b, _, none⟩) hb] at m0 m1 m2
                    have hb5z : b < w5.heap.size := by have := B5.out.lt; omega
                    have hwz5 : wr.heap.size < w5.heap.size := by omega
                    have BY := Lib.hid (B5.out.alloc (.cells #[.bool false, .int .i64 ya, .int .i64 yd] 77))
                    clear hb5 n5 t0 t1 t2 t3
                    go_wp2_with fail
                    go_roundw
                    case rel => first | exact ⟨j + 1, hlt, by go_num, HN, B5⟩ | ((repeat apply Exists.intro (α := Value)); refine ⟨?_, rfl⟩; exact ⟨j + 1, hlt, by go_num, HN, B5⟩)
                    case measure => simp [intOf]; omega
                  | true =>
                    have HE := HEq rfl
                    clear HEq HIn2
                    by_cases h1 : xk = 1
                    · subst h1
                      rw [if_pos rfl] at HE
                      by_cases hs : ya < max xm 0
                      · rw [decide_eq_true hs] at HE
                        have HF := HHit HE.out
                        clear HE HNo HHit
                        by_cases g1 : ya < 0
                        · clear hs
                          go_wp2_with fail
                          refine T.out.mono ?_
                          rintro e w5 ⟨rfl, hb5⟩
                          have B5 := Lib.hid (HBx.out.call hb5)
                          have hz5 := hb5.size
                          rw [World.size_alloc] at hz5
                          have n5 := (hb5.block wr.heap.size (by rw [World.size_alloc]; omega)).trans HX.out
                          have y0 : w5.cell? ⟨wr.heap.size, 0, none⟩ = some (.int .i64 1) := cell_blk n5 rfl
                          have y1 : w5.cell? ⟨wr.heap.size, 1, none⟩ = some (.int .i64 q) := cell_blk n5 rfl
                          have y2 : w5.cell? ⟨wr.heap.size, 2, none⟩ = some (.int .i64 k) := cell_blk n5 rfl
                          have y3 : w5.cell? ⟨wr.heap.size, 3, none⟩ = some (.int .i64 xm) := cell_blk n5 rfl
                          rw [← B5.out.b.cell (p := ⟨b, _, none⟩) hb] at m0 m1 m2
                          have hb5z : b < w5.heap.size := by have := B5.out.lt; omega
                          have hwz5 : wr.heap.size < w5.heap.size := by omega
                          have BY := Lib.hid (B5.out.alloc (.cells #[.bool true, .int .i64 ya, .int .i64 yd] 77))
                          clear hb5 n5 t0 t1 t2 t3
                          go_wp2_with fail
                          go_ret
                          exact ⟨ret_bool (by rw [HS.out, HF.out]), BY.out.b⟩
                        · have g2 : ya < xm := by omega
                          clear hs
                          go_wp2_with fail
                          refine T.out.mono ?_
                          rintro e w5 ⟨rfl, hb5⟩
                          have B5 := Lib.hid (HBx.out.call hb5)
                          have hz5 := hb5.size
                          rw [World.size_alloc] at hz5
                          have n5 := (hb5.block wr.heap.size (by rw [World.size_alloc]; omega)).trans HX.out
                          have y0 : w5.cell? ⟨wr.heap.size, 0, none⟩ = some (.int .i64 1) := cell_blk n5 rfl
                          have y1 : w5.cell? ⟨wr.heap.size, 1, none⟩ = some (.int .i64 q) := cell_blk n5 rfl
                          have y2 : w5.cell? ⟨wr.heap.size, 2, none⟩ = some (.int .i64 k) := cell_blk n5 rfl
                          have y3 : w5.cell? ⟨wr.heap.size, 3, none⟩ = some (.int .i64 xm) := cell_blk n5 rfl
                          rw [← B5.out.b.cell (p := ⟨b, _, none⟩) hb] at m0 m1 m2
                          have hb5z : b < w5.heap.size := by have := B5.out.lt; omega
                          have hwz5 : wr.heap.size < w5.heap.size := by omega
                          have BY := Lib.hid (B5.out.alloc (.cells #[.bool true, .int .i64 ya, .int .i64 yd] 77))
                          clear hb5 n5 t0 t1 t2 t3
                          go_wp2_with fail
                          go_ret
                          exact ⟨ret_bool (by rw [HS.out, HF.out]), BY.out.b⟩
                      · rw [decide_eq_false hs] at HE
                        have HN := HNo HE.out
                        have g1 : ¬ ya < 0 := by omega
                        have g2 : ¬ ya < xm := by omega
                        clear HE HNo HHit hs
                        go_wp2_with fail
                        refine T.out.mono ?_
                        rintro e w5 ⟨rfl, hb5⟩
                        have B5 := Lib.hid (HBx.out.call hb5)
                        have hz5 := hb5.size
                        rw [World.size_alloc] at hz5
                        have n5 := (hb5.block wr.heap.size (by rw [World.size_alloc]; omega)).trans HX.out
                        have y0 : w5.cell? ⟨wr.heap.size, 0, none⟩ = some (.int .i64 1) := cell_blk n5 rfl
                        have y1 : w5.cell? ⟨wr.heap.size, 1, none⟩ = some (.int .i64 q) := cell_blk n5 rfl
                        have y2 : w5.cell? ⟨wr.heap.size, 2, none⟩ = some (.int .i64 k) := cell_blk n5 rfl
                        have y3 : w5.cell? ⟨wr.heap.size, 3, none⟩ = some (.int .i64 xm) := cell_blk n5 rfl
                        rw [← B5.out.b.cell (p := ⟨b, _, none⟩) hb] at m0 m1 m2
                        have hb5z : b < w5.heap.size := by have := B5.out.lt; omega
                        have hwz5 : wr.heap.size < w5.heap.size := by omega
                        have BY := Lib.hid (B5.out.alloc (.cells #[.bool true, .int .i64 ya, .int .i64 yd] 77))
                        clear hb5 n5 t0 t1 t2 t3
                        go_wp2_with fail
                        go_roundw
                        case rel => first | exact ⟨j + 1, hlt, by go_num, HN, BY⟩ | ((repeat apply Exists.intro (α := Value)); refine ⟨?_, rfl⟩; exact ⟨j + 1, hlt, by go_num, HN, BY⟩)
                        case measure => simp [intOf]; omega
                    · have e1 : (xk == 1) = false := beq_eq_false_iff_ne.2 h1
                      rw [if_neg h1] at HE
                      clear h1
                      by_cases h5 : xk = 5
                      · subst h5
                        rw [if_pos rfl] at HE
                        by_cases hs : 0 ≤ yd
                        · rw [decide_eq_true hs] at HE
                          have HF := HHit HE.out
                          clear HE HNo HHit
                          go_wp2_with fail
                          refine T.out.mono ?_
                          rintro e w5 ⟨rfl, hb5⟩
                          have B5 := Lib.hid (HBx.out.call hb5)
                          have hz5 := hb5.size
                          rw [World.size_alloc] at hz5
                          have n5 := (hb5.block wr.heap.size (by rw [World.size_alloc]; omega)).trans HX.out
                          have y0 : w5.cell? ⟨wr.heap.size, 0, none⟩ = some (.int .i64 5) := cell_blk n5 rfl
                          have y1 : w5.cell? ⟨wr.heap.size, 1, none⟩ = some (.int .i64 q) := cell_blk n5 rfl
                          have y2 : w5.cell? ⟨wr.heap.size, 2, none⟩ = some (.int .i64 k) := cell_blk n5 rfl
                          have y3 : w5.cell? ⟨wr.heap.size, 3, none⟩ = some (.int .i64 xm) := cell_blk n5 rfl
                          rw [← B5.out.b.cell (p := ⟨b, _, none⟩) hb] at m0 m1 m2
                          have hb5z : b < w5.heap.size := by have := B5.out.lt; omega
                          have hwz5 : wr.heap.size < w5.heap.size := by omega
                          have BY := Lib.hid (B5.out.alloc (.cells #[.bool true, .int .i64 ya, .int .i64 yd] 77))
                          clear hb5 n5 t0 t1 t2 t3
                          go_wp2_with fail
                          go_ret
                          exact ⟨ret_bool (by rw [HS.out, HF.out]), BY.out.b⟩
                        · rw [decide_eq_false hs] at HE
                          have HN := HNo HE.out
                          clear HE HNo HHit
                          go_wp2_with fail
                          refine T.out.mono ?_
                          rintro e w5 ⟨rfl, hb5⟩
                          have B5 := Lib.hid (HBx.out.call hb5)
                          have hz5 := hb5.size
                          rw [World.size_alloc] at hz5
                          have n5 := (hb5.block wr.heap.size (by rw [World.size_alloc]; omega)).trans HX.out
                          have y0 : w5.cell? ⟨wr.heap.size, 0, none⟩ = some (.int .i64 5) := cell_blk n5 rfl
                          have y1 : w5.cell? ⟨wr.heap.size, 1, none⟩ = some (.int .i64 q) := cell_blk n5 rfl
                          have y2 : w5.cell? ⟨wr.heap.size, 2, none⟩ = some (.int .i64 k) := cell_blk n5 rfl
                          have y3 : w5.cell? ⟨wr.heap.size, 3, none⟩ = some (.int .i64 xm) := cell_blk n5 rfl
                          rw [← B5.out.b.cell (p := ⟨b, _, none⟩) hb] at m0 m1 m2
                          have hb5z : b < w5.heap.size := by have := B5.out.lt; omega
                          have hwz5 : wr.heap.size < w5.heap.size := by omega
                          have BY := Lib.hid (B5.out.alloc (.cells #[.bool true, .int .i64 ya, .int .i64 yd] 77))
                          clear hb5 n5 t0 t1 t2 t3
                          go_wp2_with fail
                          go_roundw
                          case rel => first | exact ⟨j + 1, hlt, by go_num, HN, BY⟩ | ((repeat apply Exists.intro (α := Value)); refine ⟨?_, rfl⟩; exact ⟨j + 1, hlt, by go_num, HN, BY⟩)
                          case measure => simp [intOf]; omega
                      · have e5 : (xk == 5) = false := beq_eq_false_iff_ne.2 h5
                        rw [if_neg h5] at HE
                        have HN := HNo HE.out
                        clear HE HNo HHit h5
                        go_wp2_with fail
                        refine T.out.mono ?_
                        rintro e w5 ⟨rfl, hb5⟩
                        have B5 := Lib.hid (HBx.out.call hb5)
                        have hz5 := hb5.size
                        rw [World.size_alloc] at hz5
                        have n5 := (hb5.block wr.heap.size (by rw [World.size_alloc]; omega)).trans HX.out
                        have y0 : w5.cell? ⟨wr.heap.size, 0, none⟩ = some (.int .i64 xk) := cell_blk n5 rfl
                        have y1 : w5.cell? ⟨wr.heap.size, 1, none⟩ = some (.int .i64 q) := cell_blk n5 rfl
                        have y2 : w5.cell? ⟨wr.heap.size, 2, none⟩ = some (.int .i64 k) := cell_blk n5 rfl
                        have y3 : w5.cell? ⟨wr.heap.size, 3, none⟩ = some (.int .i64 xm) := cell_blk n5 rfl
                        rw [← B5.out.b.cell (p := ⟨b, _, none⟩) hb] at m0 m1 m2
                        have hb5z : b < w5.heap.size := by have := B5.out.lt; omega
                        have hwz5 : wr.heap.size < w5.heap.size := by omega
                        have BY := Lib.hid (B5.out.alloc (.cells #[.bool true, .int .i64 ya, .int .i64 yd] 77))
                        clear hb5 n5 t0 t1 t2 t3
                        go_wp2_with fail
                        go_roundw
                        case rel => first | exact ⟨j + 1, hlt, by go_num, HN, BY⟩ | ((repeat apply Exists.intro (α := Value)); refine ⟨?_, rfl⟩; exact ⟨j + 1, hlt, by go_num, HN, BY⟩)
                        case measure => simp [intOf]; omega
            · obtain rfl : j = ts.length := by omega
              have HF := Lib.hid (en_miss HIn.out HP.out)
              clear HP
              go_wp2_with fail
              go_ret
              exact ⟨ret_bool (by rw [HS.out, HF.out]), HB.out.b⟩
      · have hh : hasI l.length i = false := by unfold hasI; rw [decide_eq_false h1, Bool.and_false]
        rw [hh] at HS
        clear hh
        go_enter Try.func30, Try.ntmps30
        go_wp2_with fail
        refine C.out.mono ?_
        rintro e w3 ⟨rfl, hb3⟩
        have B3 := Lib.hid (B0.out.call hb3)
        clear hb3
        go_wp2_with fail
        go_ret
        exact ⟨ret_bool (by rw [HS.out]; rfl), B3.out.b⟩
    · have hh : hasI l.length i = false := by unfold hasI; rw [decide_eq_false h0, Bool.false_and]
      rw [hh] at HS
      clear hh
      go_enter Try.func30, Try.ntmps30
      go_wp2_with fail
      refine C.out.mono ?_
      rintro e w3 ⟨rfl, hb3⟩
      have B3 := Lib.hid (B0.out.call hb3)
      clear hb3
      go_wp2_with fail
      go_ret
      exact ⟨ret_bool (by rw [HS.out]; rfl), B3.out.b⟩
end Go.Proofs.Ytplplkchibefjaa.M5
