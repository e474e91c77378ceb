/-
  Contracts of graph.sameUser, slices.EqualFunc at users, and graph.Same.
-/
import Derived.Test.YtandfjahfbeaiaaGreatGrEq
namespace Go.Proofs.YtandfjahfbeaiaaGreat
open Go.RowKit Go.Shelf

def same_us (a b : Us) : Bool := a.name.toList == b.name.toList && (a.sub.toList == b.sub.toList && eqLB same_st a.roles b.roles)
set_option maxRecDepth 100000 in
set_option maxHeartbeats 1000000 in
theorem sameUser_any (a b : Us) (w : World) (h1 : Row w a.ra (a.roles.map Value.string)) (h2 : Row w b.ra (b.roles.map Value.string)) (hl : a.roles.length * 16 ≤ 140737488351232) :
    Calls Tryz.prog 42 #[.agg #[.string a.name, .slice a.ra a.roles.length a.rc, .string a.sub], .agg #[.string b.name, .slice b.ra b.roles.length b.rc, .string b.sub]] w fun e w' => e = .returned (.bool (same_us a b)) ∧ Below w.heap.size w w' := by
  have hb0 : Below w.heap.size w ((w.alloc (.cells #[.string a.name, .slice a.ra a.roles.length a.rc, .string a.sub] 45)).alloc (.cells #[.string b.name, .slice b.ra b.roles.length b.rc, .string b.sub] 45)) := ((Below.refl _ _).alloc (Nat.le_refl _) _).alloc (by simp) _
  have C := Lib.hid (equal_st a.ra b.ra a.rc b.rc a.roles b.roles _ (h1.below (Nat.le_refl _) hb0) (h2.below (Nat.le_refl _) hb0) hl)
  have HS : Hid (same_us a b = (a.name.toList == b.name.toList && (a.sub.toList == b.sub.toList && eqLB same_st a.roles b.roles))) := Lib.hid rfl
  clear h1 h2
  cases hn : (a.name.toList == b.name.toList) with
  | false =>
    rw [hn] at HS
    go_enter Tryz.func42, Tryz.ntmps42
    go_wp2_with fail
    go_ret
    exact ⟨ret_bool HS.out.symm, hb0⟩
  | true =>
    rw [hn, Bool.true_and] at HS
    cases hs : (a.sub.toList == b.sub.toList) with
    | false =>
      rw [hs] at HS
      go_enter Tryz.func42, Tryz.ntmps42
      go_wp2_with fail
      go_ret
      exact ⟨ret_bool HS.out.symm, hb0⟩
    | true =>
      rw [hs, Bool.true_and] at HS
      go_enter Tryz.func42, Tryz.ntmps42
      go_wp2_with (go_at_call 69; refine C.out.mono ?_; rintro e w1 ⟨rfl, hb1⟩)
      go_ret
      exact ⟨ret_bool HS.out.symm, hb0.trans (hb1.mono hb0.size)⟩

set_option maxRecDepth 100000 in
set_option maxHeartbeats 2000000 in
theorem equal_us (A B : Option Addr) (c d : Nat) (a b : List Us) (w : World) (hr1 : Row w A (a.flatMap usC)) (hr2 : Row w B (b.flatMap usC)) (hla : a.length * 56 ≤ 140737488351232)
    (ho1 : ∀ u ∈ a, Row w u.ra (u.roles.map Value.string)) (ho2 : ∀ u ∈ b, Row w u.ra (u.roles.map Value.string)) (hz : ∀ u ∈ a, u.roles.length * 16 ≤ 140737488351232) :
    Calls Tryz.prog 41 #[.slice A a.length c, .slice B b.length d, .func (.func 42) #[] #[]] w fun e w' => e = .returned (.bool (eqLB same_us a b)) ∧ Below w.heap.size w w' := by
  by_cases hle : a.length = b.length
  · have HLE := Lib.hid hle
    have hle1 : ((a.length : Int) != (b.length : Int)) = false := by rw [bne_eq_false_iff_eq]; omega
    have hle2 : a.length ≤ b.length := by omega
    clear hle
    have HO1 := Lib.hid ho1
    have HO2 := Lib.hid ho2
    have HZ := Lib.hid hz
    clear ho1 ho2 hz
    go_enter Tryz.func41, Tryz.ntmps41
    go_wp2_with fail
    go_loopw [7, 8, 9, 17] (fun _ _ _ i wr => ∃ k : Nat, k ≤ a.length ∧ i = .int .i64 k ∧ Hid (∀ j, j < k → same_us a[j]! b[j]! = true) ∧ Below w.heap.size w wr) (fun _ _ _ i _ => a.length - (intOf i).toNat)
    case atStart => exact ⟨0, Nat.zero_le _, rfl, fun j hj => absurd hj (Nat.not_lt_zero _), Below.refl _ _⟩
    case round =>
      obtain ⟨k, hk, rfl, HR, hB⟩ := hrel
      have hBz := hB.size
      by_cases hlt1 : k < a.length
      · have hlt2 : k < b.length := by omega
        obtain ⟨b1, off1, rfl, hb1, hc1⟩ := hr1.at_ (k := 3) (fun _ => rfl) (by omega) hlt1
        obtain ⟨b2, off2, rfl, hb2, hc2⟩ := hr2.at_ (k := 3) (fun _ => rfl) (by omega) hlt2
        have k1_0 := hc1 0 _ rfl
        rw [Nat.add_zero] at k1_0
        have k1_1 := hc1 1 _ rfl
        have k1_2 := hc1 2 _ rfl
        rw [← hB.cell (p := ⟨b1, _, none⟩) hb1] at k1_0 k1_1 k1_2
        have k2_0 := hc2 0 _ rfl
        rw [Nat.add_zero] at k2_0
        have k2_1 := hc2 1 _ rfl
        have k2_2 := hc2 2 _ rfl
        rw [← hB.cell (p := ⟨b2, _, none⟩) hb2] at k2_0 k2_1 k2_2
        have l1 : b1 < wr.heap.size := by omega
        have l2 : b2 < wr.heap.size := by omega
        have hBW : Below w.heap.size w ((wr.alloc (.cells #[.string a[k]!.name, .slice a[k]!.ra a[k]!.roles.length a[k]!.rc, .string a[k]!.sub] 45)).alloc (.cells #[.string b[k]!.name, .slice b[k]!.ra b[k]!.roles.length b[k]!.rc, .string b[k]!.sub] 45)) := (hB.alloc hBz _).alloc (by simp; omega) _
        have C := Lib.hid (sameUser_any a[k]! b[k]! _ ((HO1.out _ (mem_at hlt1)).below (Nat.le_refl _) hBW) ((HO2.out _ (mem_at hlt2)).below (Nat.le_refl _) hBW) (HZ.out _ (mem_at hlt1)))
        have HBW := Lib.hid hBW
        clear hBW hc1 hc2
        cases hn : same_us a[k]! b[k]! with
        | true =>
          have HR' := Lib.hid (all_more HR.out hn)
          rw [hn] at C
          clear hn HR
          generalize a[k]! = x at *
          generalize b[k]! = y at *
          go_wp2_with (go_at_call 42; refine C.out.mono ?_; rintro e w1 ⟨rfl, hb'⟩)
          go_roundw
          case rel => exact ⟨k + 1, hlt1, by go_num, HR', HBW.out.trans (hb'.mono HBW.out.size)⟩
          case measure => simp [intOf]; omega
        | false =>
          have HF := Lib.hid (eqLB_bad hlt1 hn)
          rw [hn] at C
          clear hn HR
          generalize a[k]! = x at *
          generalize b[k]! = y at *
          go_wp2_with (go_at_call 42; refine C.out.mono ?_; rintro e w1 ⟨rfl, hb'⟩)
          go_ret
          exact ⟨ret_bool HF.out.symm, HBW.out.trans (hb'.mono HBW.out.size)⟩
      · obtain rfl : k = a.length := by omega
        have HF := Lib.hid (eqLB_all HLE.out HR.out)
        clear HR
        go_wp2_with fail
        go_ret
        exact ⟨ret_bool HF.out.symm, hB⟩
  · have HF := Lib.hid (eqLB_len (p := same_us) hle)
    have hle1 : ((a.length : Int) != (b.length : Int)) = true := by rw [bne_iff_ne]; omega
    clear hle
    go_enter Tryz.func41, Tryz.ntmps41
    go_wp2_with fail
    go_ret
    exact ⟨ret_bool HF.out.symm, Below.refl _ _⟩

/-- Are all parts the same? -/
def sameL (a b : Gr) : Bool := eqLB same_gp a.gs b.gs && (eqLB same_ev a.es b.es && (eqLB same_rl a.rs b.rs && eqLB same_us a.us b.us))
theorem two_cells {w w1 : World} {a b : Gr} (hb : Below (w.heap.size + 2) (boxW (boxW w a) b) w1) :
    (w1.cell? ⟨w.heap.size, 0, none⟩ = some (.slice a.ga a.gs.length a.gc) ∧ w1.cell? ⟨w.heap.size, 1, none⟩ = some (.slice a.ea a.es.length a.ec) ∧ w1.cell? ⟨w.heap.size, 2, none⟩ = some (.slice a.ra a.rs.length a.rc) ∧ w1.cell? ⟨w.heap.size, 3, none⟩ = some (.slice a.ua a.us.length a.uc)) ∧
    w1.cell? ⟨w.heap.size + 1, 0, none⟩ = some (.slice b.ga b.gs.length b.gc) ∧ w1.cell? ⟨w.heap.size + 1, 1, none⟩ = some (.slice b.ea b.es.length b.ec) ∧ w1.cell? ⟨w.heap.size + 1, 2, none⟩ = some (.slice b.ra b.rs.length b.rc) ∧ w1.cell? ⟨w.heap.size + 1, 3, none⟩ = some (.slice b.ua b.us.length b.uc) := by
  have hz := box_size w a
  constructor
  · have := box_below (boxW w a) b
    rw [hz] at this
    exact box_cells (this.trans (hb.mono (by omega)))
  · have := box_cells (w := boxW w a) (g := b) (w1 := w1) (by rw [hz]; exact hb)
    rw [hz] at this
    exact this
set_option maxRecDepth 100000 in
set_option maxHeartbeats 4000000 in
theorem same_any (w : World) (a b : Gr) (hIa : InG w a) (hIb : InG w b) (hza : SzG a) :
    Calls Tryz.prog 17 #[.agg #[.slice a.ga a.gs.length a.gc, .slice a.ea a.es.length a.ec, .slice a.ra a.rs.length a.rc, .slice a.ua a.us.length a.uc], .agg #[.slice b.ga b.gs.length b.gc, .slice b.ea b.es.length b.ec, .slice b.ra b.rs.length b.rc, .slice b.ua b.us.length b.uc]] w fun e w' =>
      e = .returned (.bool (sameL a b)) ∧ Below w.heap.size w w' := by
  have hb0 : Below w.heap.size w (boxW (boxW w a) b) := (box_below w a).trans ((box_below (boxW w a) b).mono (by rw [box_size]; omega))
  have HB0 := Lib.hid hb0
  have hs2 : (boxW (boxW w a) b).heap.size = w.heap.size + 2 := by rw [box_size, box_size]
  have HS2 := Lib.hid hs2
  have HA := Lib.hid hIa
  have HB := Lib.hid hIb
  have HZ := Lib.hid hza
  have HS : Hid (sameL a b = (eqLB same_gp a.gs b.gs && (eqLB same_ev a.es b.es && (eqLB same_rl a.rs b.rs && eqLB same_us a.us b.us)))) := Lib.hid rfl
  have C1 := Lib.hid (equal_gp a.ga b.ga a.gc b.gc a.gs b.gs _ (hIa.gs.below (Nat.le_refl _) hb0) (hIb.gs.below (Nat.le_refl _) hb0) hza.gs)
  clear hIa hIb hza hb0 hs2
  cases h1 : eqLB same_gp a.gs b.gs with
  | false =>
    rw [h1] at HS C1
    clear h1
    go_enter Tryz.func17, Tryz.ntmps17
    go_wp2_with (go_at_call 38; refine C1.out.mono ?_; rintro e w1 ⟨rfl, hb1⟩)
    go_ret
    exact ⟨ret_bool HS.out.symm, HB0.out.trans (hb1.mono HB0.out.size)⟩
  | true =>
    rw [h1, Bool.true_and] at HS
    rw [h1] at C1
    clear h1
    have D : ∀ {w1 : World}, Below (boxW (boxW w a) b).heap.size (boxW (boxW w a) b) w1 → Hid (Below w.heap.size w w1 ∧ Below (w.heap.size + 2) (boxW (boxW w a) b) w1) := fun hb1 => Lib.hid ⟨HB0.out.trans (hb1.mono HB0.out.size), hb1.mono (by rw [HS2.out]; exact Nat.le_refl _)⟩
    cases h2 : eqLB same_ev a.es b.es with
    | false =>
      rw [h2] at HS
      go_enter Tryz.func17, Tryz.ntmps17
      go_wp2_with fail
      refine C1.out.mono ?_
      rintro e w1 ⟨rfl, hb1⟩
      have X1 := D hb1
      obtain ⟨⟨a0, a1, a2, a3⟩, b0, b1, b2, b3⟩ := two_cells X1.out.2
      have C2 := Lib.hid (equal_ev a.ea b.ea a.ec b.ec a.es b.es w1 (HA.out.es.below (Nat.le_refl _) X1.out.1) (HB.out.es.below (Nat.le_refl _) X1.out.1) HZ.out.es)
      rw [h2] at C2
      clear hb1 h2 D
      go_wp2_with (go_at_call 39; refine C2.out.mono ?_; rintro e w2 ⟨rfl, hb2⟩)
      go_ret
      exact ⟨ret_bool HS.out.symm, X1.out.1.trans (hb2.mono X1.out.1.size)⟩
    | true =>
      rw [h2, Bool.true_and] at HS
      cases h3 : eqLB same_rl a.rs b.rs with
      | false =>
        rw [h3] at HS
        go_enter Tryz.func17, Tryz.ntmps17
        go_wp2_with fail
        refine C1.out.mono ?_
        rintro e w1 ⟨rfl, hb1⟩
        have X1 := D hb1
        obtain ⟨⟨a0, a1, a2, a3⟩, b0, b1, b2, b3⟩ := two_cells X1.out.2
        have C2 := Lib.hid (equal_ev a.ea b.ea a.ec b.ec a.es b.es w1 (HA.out.es.below (Nat.le_refl _) X1.out.1) (HB.out.es.below (Nat.le_refl _) X1.out.1) HZ.out.es)
        rw [h2] at C2
        have y1 : (boxW (boxW w a) b).heap.size ≤ w1.heap.size := hb1.size
        clear hb1 h2
        go_wp2_with fail
        refine C2.out.mono ?_
        rintro e w2 ⟨rfl, hb2⟩
        have X2 : Hid (Below w.heap.size w w2 ∧ Below (w.heap.size + 2) (boxW (boxW w a) b) w2) := Lib.hid ⟨X1.out.1.trans (hb2.mono X1.out.1.size), X1.out.2.trans (hb2.mono (by rw [← HS2.out]; exact y1))⟩
        clear a0 a1 a2 a3 b0 b1 b2 b3 hb2 D
        obtain ⟨⟨a0, a1, a2, a3⟩, b0, b1, b2, b3⟩ := two_cells X2.out.2
        have C3 := Lib.hid (equal_rl a.ra b.ra a.rc b.rc a.rs b.rs w2 (HA.out.rs.below (Nat.le_refl _) X2.out.1) (HB.out.rs.below (Nat.le_refl _) X2.out.1) HZ.out.rs)
        rw [h3] at C3
        clear h3
        go_wp2_with (go_at_call 40; refine C3.out.mono ?_; rintro e w3 ⟨rfl, hb3⟩)
        go_ret
        exact ⟨ret_bool HS.out.symm, X2.out.1.trans (hb3.mono X2.out.1.size)⟩
      | true =>
        rw [h3, Bool.true_and] at HS
        go_enter Tryz.func17, Tryz.ntmps17
        go_wp2_with fail
        refine C1.out.mono ?_
        rintro e w1 ⟨rfl, hb1⟩
        have X1 := D hb1
        obtain ⟨⟨a0, a1, a2, a3⟩, b0, b1, b2, b3⟩ := two_cells X1.out.2
        have C2 := Lib.hid (equal_ev a.ea b.ea a.ec b.ec a.es b.es w1 (HA.out.es.below (Nat.le_refl _) X1.out.1) (HB.out.es.below (Nat.le_refl _) X1.out.1) HZ.out.es)
        rw [h2] at C2
        have y1 : w.heap.size + 2 ≤ w1.heap.size := by rw [← HS2.out]; exact hb1.size
        clear hb1 h2
        go_wp2_with fail
        refine C2.out.mono ?_
        rintro e w2 ⟨rfl, hb2⟩
        have X2 : Hid (Below w.heap.size w w2 ∧ Below (w.heap.size + 2) (boxW (boxW w a) b) w2) := Lib.hid ⟨X1.out.1.trans (hb2.mono X1.out.1.size), X1.out.2.trans (hb2.mono y1)⟩
        have y2 := hb2.size
        clear a0 a1 a2 a3 b0 b1 b2 b3 hb2 D
        obtain ⟨⟨a0, a1, a2, a3⟩, b0, b1, b2, b3⟩ := two_cells X2.out.2
        have C3 := Lib.hid (equal_rl a.ra b.ra a.rc b.rc a.rs b.rs w2 (HA.out.rs.below (Nat.le_refl _) X2.out.1) (HB.out.rs.below (Nat.le_refl _) X2.out.1) HZ.out.rs)
        rw [h3] at C3
        clear h3
        go_wp2_with fail
        refine C3.out.mono ?_
        rintro e w3 ⟨rfl, hb3⟩
        have X3 : Hid (Below w.heap.size w w3 ∧ Below (w.heap.size + 2) (boxW (boxW w a) b) w3) := Lib.hid ⟨X2.out.1.trans (hb3.mono X2.out.1.size), X2.out.2.trans (hb3.mono (by omega))⟩
        clear a0 a1 a2 a3 b0 b1 b2 b3 hb3
        obtain ⟨⟨a0, a1, a2, a3⟩, b0, b1, b2, b3⟩ := two_cells X3.out.2
        have C4 := Lib.hid (equal_us a.ua b.ua a.uc b.uc a.us b.us w3 (HA.out.us.below (Nat.le_refl _) X3.out.1) (HB.out.us.below (Nat.le_refl _) X3.out.1) HZ.out.us (fun u hu => (HA.out.roles u hu).below (Nat.le_refl _) X3.out.1) (fun u hu => (HB.out.roles u hu).below (Nat.le_refl _) X3.out.1) (fun u hu => (HZ.out.ur u hu).2.2.1))
        go_wp2_with (go_at_call 41; refine C4.out.mono ?_; rintro e w4 ⟨rfl, hb4⟩)
        go_ret
        exact ⟨ret_bool HS.out.symm, X3.out.1.trans (hb4.mono X3.out.1.size)⟩
end Go.Proofs.YtandfjahfbeaiaaGreat
