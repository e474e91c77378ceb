/-
  Contracts of slices.Equal at groups, events, relations and texts. Contracts of graph.sameUser, slices.EqualFunc at users, and graph.Same. Contract of the document's own Words. Contract of the document's own Same, of any graphs.
-/
import Derived.Test.YtjgcjnkeeiaafaaGreatDoorTcbg
import Derived.Laws.StructEq
namespace Go.Proofs.YtjgcjnkeeiaafaaGreatDoor
open Go.RowKit Go.Shelf
def eqLB {α : Type} [Inhabited α] (p : α → α → Bool) (a b : List α) : Bool := decide (a.length = b.length) && (List.range a.length).all (fun i => p a[i]! b[i]!)
theorem eqLB_len {α : Type} [Inhabited α] {p : α → α → Bool} {a b : List α} (h : ¬ a.length = b.length) : eqLB p a b = false := by simp [eqLB, h]
theorem eqLB_all {α : Type} [Inhabited α] {p : α → α → Bool} {a b : List α} (h : a.length = b.length) (hp : ∀ j, j < a.length → p a[j]! b[j]! = true) : eqLB p a b = true := by
  simp only [eqLB, decide_eq_true h, Bool.true_and, List.all_eq_true, List.mem_range]; exact hp
theorem eqLB_bad {α : Type} [Inhabited α] {p : α → α → Bool} {a b : List α} {k : Nat} (hk : k < a.length) (hp : p a[k]! b[k]! = false) : eqLB p a b = false := by
  have : (List.range a.length).all (fun i => p a[i]! b[i]!) = false := by
    rw [List.all_eq_false]; exact ⟨k, List.mem_range.2 hk, by rw [hp]; decide⟩
  rw [eqLB, this, Bool.and_false]
theorem all_more {α : Type} [Inhabited α] {p : α → α → Bool} {a b : List α} {k : Nat} (h : ∀ j, j < k → p a[j]! b[j]! = true) (hk : p a[k]! b[k]! = true) : ∀ j, j < k + 1 → p a[j]! b[j]! = true := by
  intro j hj
  by_cases e : j = k
  · rw [e]; exact hk
  · exact h j (by omega)
def same_gp (a b : Gp) : Bool := (a.name.toList == b.name.toList) && (a.parent.toList == b.parent.toList)
set_option maxHeartbeats 1000000 in
theorem neq_gp (a b : Gp) (w : World) : (binOp .neq 37 (.agg #[.string a.name, .string a.parent]) (.agg #[.string b.name, .string b.parent])).run Tryz.prog w = .ok (.bool (!same_gp a b)) w := by
  have u0 := Tryz.underlying3
  have a0 := Tryz.isAgg3
  have z0 := Tryz.sizeOf3
  have u1 := Tryz.underlying9
  have a1 := Tryz.isAgg9
  have z1 := Tryz.sizeOf9
  have u2 := Tryz.underlying4
  have a2 := Tryz.isAgg4
  have z2 := Tryz.sizeOf4
  have hS : Tryz.prog.underlying 37 = some (.struct (Tryz.prog.fieldsOf 37)) := by kernel_rfl
  have hp : Tryz.prog.stoodInHeld 37 = false := by kernel_rfl
  rw [run_neq_struct, show (10000 : Nat) = 9999 + 1 from rfl, run_equalIn_agg w 9999 37 _ _ hS hp]
  simp only [Program.fieldsOf, Tryz.underlying37]
  go_simp
  unfold same_gp
  by_cases h0 : a.name.toList = b.name.toList <;> by_cases h1 : a.parent.toList = b.parent.toList <;> simp [h0, h1]
def same_ev (a b : Ev) : Bool := (a.name.toList == b.name.toList) && (a.group.toList == b.group.toList) && (a.role.toList == b.role.toList) && (a.inn == b.inn) && (a.done == b.done) && (a.due == b.due)
set_option maxHeartbeats 1000000 in
theorem neq_ev (a b : Ev) (w : World) : (binOp .neq 40 (.agg #[.string a.name, .string a.group, .string a.role, .bool a.inn, .bool a.done, .int .i64 a.due]) (.agg #[.string b.name, .string b.group, .string b.role, .bool b.inn, .bool b.done, .int .i64 b.due])).run Tryz.prog w = .ok (.bool (!same_ev a b)) w := by
  have u0 := Tryz.underlying3
  have a0 := Tryz.isAgg3
  have z0 := Tryz.sizeOf3
  have u1 := Tryz.underlying9
  have a1 := Tryz.isAgg9
  have z1 := Tryz.sizeOf9
  have u2 := Tryz.underlying4
  have a2 := Tryz.isAgg4
  have z2 := Tryz.sizeOf4
  have hS : Tryz.prog.underlying 40 = some (.struct (Tryz.prog.fieldsOf 40)) := by kernel_rfl
  have hp : Tryz.prog.stoodInHeld 40 = false := by kernel_rfl
  rw [run_neq_struct, show (10000 : Nat) = 9999 + 1 from rfl, run_equalIn_agg w 9999 40 _ _ hS hp]
  simp only [Program.fieldsOf, Tryz.underlying40]
  go_simp
  unfold same_ev
  by_cases h0 : a.name.toList = b.name.toList <;> by_cases h1 : a.group.toList = b.group.toList <;> by_cases h2 : a.role.toList = b.role.toList <;> by_cases h3 : a.inn = b.inn <;> by_cases h4 : a.done = b.done <;> by_cases h5 : a.due = b.due <;> simp [h0, h1, h2, h3, h4, h5]
def same_rl (a b : Rl) : Bool := (a.kind == b.kind) && (a.src.toList == b.src.toList) && (a.dst.toList == b.dst.toList) && (a.time == b.time)
set_option maxHeartbeats 1000000 in
theorem neq_rl (a b : Rl) (w : World) : (binOp .neq 42 (.agg #[.int .i64 a.kind, .string a.src, .string a.dst, .int .i64 a.time]) (.agg #[.int .i64 b.kind, .string b.src, .string b.dst, .int .i64 b.time])).run Tryz.prog w = .ok (.bool (!same_rl a b)) w := by
  have u0 := Tryz.underlying3
  have a0 := Tryz.isAgg3
  have z0 := Tryz.sizeOf3
  have u1 := Tryz.underlying9
  have a1 := Tryz.isAgg9
  have z1 := Tryz.sizeOf9
  have u2 := Tryz.underlying4
  have a2 := Tryz.isAgg4
  have z2 := Tryz.sizeOf4
  have hS : Tryz.prog.underlying 42 = some (.struct (Tryz.prog.fieldsOf 42)) := by kernel_rfl
  have hp : Tryz.prog.stoodInHeld 42 = false := by kernel_rfl
  rw [run_neq_struct, show (10000 : Nat) = 9999 + 1 from rfl, run_equalIn_agg w 9999 42 _ _ hS hp]
  simp only [Program.fieldsOf, Tryz.underlying42]
  go_simp
  unfold same_rl
  by_cases h0 : a.kind = b.kind <;> by_cases h1 : a.src.toList = b.src.toList <;> by_cases h2 : a.dst.toList = b.dst.toList <;> by_cases h3 : a.time = b.time <;> simp [h0, h1, h2, h3]
def same_st (a b : ByteArray) : Bool := a.toList == b.toList
end Go.Proofs.YtjgcjnkeeiaafaaGreatDoor

namespace Go.Proofs.YtjgcjnkeeiaafaaGreatDoor
open Go.RowKit Go.Shelf
def same_us (a b : Us) : Bool := a.name.toList == b.name.toList && (a.sub.toList == b.sub.toList && eqLB same_st a.roles b.roles)
/-- Are all parts the same? -/
def sameL (a b : Gr) : Bool := eqLB same_gp a.gs b.gs && (eqLB same_ev a.es b.es && (eqLB same_rl a.rs b.rs && eqLB same_us a.us b.us))
theorem two_cells {w w1 : World} {a b : Gr} (hb : Below (w.heap.size + 2) (boxW (boxW w a) b) w1) :
    (w1.cell? ⟨w.heap.size, 0, none⟩ = some (.slice a.ga a.gs.length a.gc) ∧ w1.cell? ⟨w.heap.size, 1, none⟩ = some (.slice a.ea a.es.length a.ec) ∧ w1.cell? ⟨w.heap.size, 2, none⟩ = some (.slice a.ra a.rs.length a.rc) ∧ w1.cell? ⟨w.heap.size, 3, none⟩ = some (.slice a.ua a.us.length a.uc)) ∧
    w1.cell? ⟨w.heap.size + 1, 0, none⟩ = some (.slice b.ga b.gs.length b.gc) ∧ w1.cell? ⟨w.heap.size + 1, 1, none⟩ = some (.slice b.ea b.es.length b.ec) ∧ w1.cell? ⟨w.heap.size + 1, 2, none⟩ = some (.slice b.ra b.rs.length b.rc) ∧ w1.cell? ⟨w.heap.size + 1, 3, none⟩ = some (.slice b.ua b.us.length b.uc) := by
  have hz := box_size w a
  constructor
  · have := box_below (boxW w a) b
    rw [hz] at this
    exact box_cells (this.trans (hb.mono (by omega)))
  · have := box_cells (w := boxW w a) (g := b) (w1 := w1) (by rw [hz]; exact hb)
    rw [hz] at this
    exact this
end Go.Proofs.YtjgcjnkeeiaafaaGreatDoor

namespace Go.Proofs.YtjgcjnkeeiaafaaGreatDoor
open Go.RowKit Go.Shelf
set_option maxRecDepth 100000 in
set_option maxHeartbeats 2000000 in
theorem words_any (A B : Option Addr) (c d : Nat) (a b : List ByteArray) (w : World) (hr1 : Row w A (a.map Value.string)) (hr2 : Row w B (b.map Value.string)) (hla : a.length * 16 ≤ 140737488351232) :
    Calls Tryz.prog 19 #[.slice A a.length c, .slice B b.length d] w fun e w' => e = .returned (.bool (eqLB same_st a b)) ∧ Below w.heap.size w w' := by
  by_cases hle : a.length = b.length
  · have HLE := Lib.hid hle
    have hle1 : ((a.length : Int) != (b.length : Int)) = false := by rw [bne_eq_false_iff_eq]; omega
    have hle2 : a.length ≤ b.length := by omega
    have hle3 : b.length ≤ a.length := by omega
    clear hle
    go_enter Tryz.func19, Tryz.ntmps19
    go_wp2_with fail
    go_loopw [5] (fun i wr => ∃ k : Nat, k ≤ a.length ∧ i = .int .i64 k ∧ Hid (∀ j, j < k → same_st a[j]! b[j]! = true) ∧ Below w.heap.size w wr) (fun i _ => a.length - (intOf i).toNat)
    case atStart => exact ⟨0, Nat.zero_le _, rfl, fun j hj => absurd hj (Nat.not_lt_zero _), Below.refl _ _⟩
    case round =>
      obtain ⟨k, hk, rfl, HR, hB⟩ := hrel
      by_cases hlt1 : k < a.length
      · have hlt2 : k < b.length := by omega
        obtain ⟨b1, off1, rfl, hb1, k1_0⟩ := hr1.str_at hlt1
        obtain ⟨b2, off2, rfl, hb2, k2_0⟩ := hr2.str_at hlt2
        rw [← hB.cell (p := ⟨b1, _, none⟩) hb1] at k1_0
        rw [← hB.cell (p := ⟨b2, _, none⟩) hb2] at k2_0
        have hq : (a[k]!.toList == b[k]!.toList) = same_st a[k]! b[k]! := rfl
        have i0 : (0 : Int) ≤ (k : Int) := Int.natCast_nonneg _
        have i1 : (k : Int) < (a.length : Int) := by omega
        have i2 : (k : Int) < (b.length : Int) := by omega
        cases hn : same_st a[k]! b[k]! with
        | true =>
          have HR' := Lib.hid (all_more HR.out hn)
          rw [hn] at hq
          clear hn HR
          generalize a[k]! = x at *
          generalize b[k]! = y at *
          go_wp2_with fail
          go_quiet (fail)
          go_wp2_with fail
          go_roundw
          case rel => exact ⟨k + 1, hlt1, by go_num, HR', below_draws hB _⟩
          case measure => simp [intOf]; omega
        | false =>
          have HF := Lib.hid (eqLB_bad hlt1 hn)
          rw [hn] at hq
          clear hn HR
          generalize a[k]! = x at *
          generalize b[k]! = y at *
          go_wp2_with fail
          go_quiet (fail)
          go_wp2_with fail
          go_ret
          exact ⟨ret_bool HF.out.symm, below_draws hB _⟩
      · obtain rfl : k = a.length := by omega
        have HF := Lib.hid (eqLB_all HLE.out HR.out)
        clear HR
        go_wp2_with fail
        go_ret
        exact ⟨ret_bool HF.out.symm, hB⟩
  · have HF := Lib.hid (eqLB_len (p := same_st) hle)
    have hle1 : ((a.length : Int) != (b.length : Int)) = true := by rw [bne_iff_ne]; omega
    clear hle
    go_enter Tryz.func19, Tryz.ntmps19
    go_wp2_with fail
    go_ret
    exact ⟨ret_bool HF.out.symm, Below.refl _ _⟩
end Go.Proofs.YtjgcjnkeeiaafaaGreatDoor

namespace Go.Proofs.YtjgcjnkeeiaafaaGreatDoor
open Go.RowKit Go.Shelf
theorem sameL_gs {a b : Gr} (h : eqLB same_gp a.gs b.gs = false) : sameL a b = false := by rw [sameL, h]; rfl
theorem sameL_es {a b : Gr} (h : eqLB same_ev a.es b.es = false) : sameL a b = false := by rw [sameL, h]; simp
theorem sameL_rs {a b : Gr} (h : eqLB same_rl a.rs b.rs = false) : sameL a b = false := by rw [sameL, h]; simp
theorem sameL_us {a b : Gr} (h : eqLB same_us a.us b.us = false) : sameL a b = false := by rw [sameL, h]; simp
def TwoRel (w : World) (a b : Gr) (len : Nat) (P : Nat → Bool) (i : Value) (wr : World) : Prop :=
  ∃ k : Nat, k ≤ len ∧ i = .int .i64 k ∧ Hid (∀ j, j < k → P j = true) ∧ Hid (Below (w.heap.size + 2) (boxW (boxW w a) b) wr)
theorem two_old {w w1 : World} {a b : Gr} (hb : Below (w.heap.size + 2) (boxW (boxW w a) b) w1) : Below w.heap.size w w1 :=
  ((box_below w a).trans ((box_below (boxW w a) b).mono (by rw [box_size]; omega))).trans (hb.mono (by omega))
set_option maxRecDepth 100000 in
set_option maxHeartbeats 8000000 in
theorem refsame_any (w : World) (a b : Gr) (hIa : InG w a) (hIb : InG w b) (hza : SzG a) :
    Calls Tryz.prog 7 #[.agg #[.slice a.ga a.gs.length a.gc, .slice a.ea a.es.length a.ec, .slice a.ra a.rs.length a.rc, .slice a.ua a.us.length a.uc], .agg #[.slice b.ga b.gs.length b.gc, .slice b.ea b.es.length b.ec, .slice b.ra b.rs.length b.rc, .slice b.ua b.us.length b.uc]] w fun e w' =>
      e = .returned (.bool (sameL a b)) ∧ Below w.heap.size w w' := by
  have z1 := hza.gs
  have z2 := hza.es
  have z3 := hza.rs
  have z4 := hza.us
  have HA := Lib.hid hIa
  have HB := Lib.hid hIb
  have HZ := Lib.hid hza
  have hm1 : Tryz.prog.eqGuardType Tryz.prog.depth 37 = false := by kernel_rfl
  have hm2 : Tryz.prog.eqGuardType Tryz.prog.depth 40 = false := by kernel_rfl
  have hm3 : Tryz.prog.eqGuardType Tryz.prog.depth 42 = false := by kernel_rfl
  clear hIa hIb hza
  have B0 : Hid (Below (w.heap.size + 2) (boxW (boxW w a) b) (boxW (boxW w a) b)) := Lib.hid (Below.refl _ _)
  by_cases l1 : a.gs.length = b.gs.length
  · by_cases l2 : a.es.length = b.es.length
    · by_cases l3 : a.rs.length = b.rs.length
      · by_cases l4 : a.us.length = b.us.length
        · have L1 := Lib.hid l1
          have L2 := Lib.hid l2
          have L3 := Lib.hid l3
          have L4 := Lib.hid l4
          have t1 : ((a.gs.length : Int) != (b.gs.length : Int)) = false := by rw [bne_eq_false_iff_eq]; omega
          have t2 : ((a.es.length : Int) != (b.es.length : Int)) = false := by rw [bne_eq_false_iff_eq]; omega
          have t3 : ((a.rs.length : Int) != (b.rs.length : Int)) = false := by rw [bne_eq_false_iff_eq]; omega
          have t4 : ((a.us.length : Int) != (b.us.length : Int)) = false := by rw [bne_eq_false_iff_eq]; omega
          clear l1 l2 l3 l4
          go_enter Tryz.func7, Tryz.ntmps7
          go_wp2_with fail
          clear t1 t2 t3 t4
          go_loopw [5] (fun i wr => TwoRel w a b a.gs.length (fun j => same_gp a.gs[j]! b.gs[j]!) i wr) (fun i _ => a.gs.length - (intOf i).toNat)
          case atStart => exact ⟨0, Nat.zero_le _, rfl, fun j hj => absurd hj (Nat.not_lt_zero _), B0⟩
          case round =>
            obtain ⟨k, hk, rfl, HR, hB⟩ := hrel
            obtain ⟨⟨a0, a1, a2, a3⟩, b0, b1, b2, b3⟩ := two_cells hB.out
            by_cases hlt : k < a.gs.length
            · have hlt2 : k < b.gs.length := by have := L1.out; omega
              obtain ⟨p, off1, hA1, hp, hc1⟩ := HA.out.gs.at_ (k := 2) (fun _ => rfl) (by omega) hlt
              obtain ⟨q, off2, hA2, hq, hc2⟩ := HB.out.gs.at_ (k := 2) (fun _ => rfl) (by omega) hlt2
              have x0 := hc1 0 _ rfl
              rw [Nat.add_zero] at x0
              have x1 := hc1 1 _ rfl
              rw [← (two_old hB.out).cell (p := ⟨p, _, none⟩) hp] at x0 x1
              have y0 := hc2 0 _ rfl
              rw [Nat.add_zero] at y0
              have y1 := hc2 1 _ rfl
              rw [← (two_old hB.out).cell (p := ⟨q, _, none⟩) hq] at y0 y1
              rw [hA1] at a0
              rw [hA2] at b0
              clear hc1 hc2 hA1 hA2
              have i0 : (0 : Int) ≤ (k : Int) := Int.natCast_nonneg _
              have i1 : (k : Int) < (a.gs.length : Int) := by omega
              have i2 : (k : Int) < (b.gs.length : Int) := by omega
              have hqq := fun W => neq_gp a.gs[k]! b.gs[k]! W
              cases hn : same_gp a.gs[k]! b.gs[k]! with
              | true =>
                have HR' : Hid (∀ j, j < k + 1 → same_gp a.gs[j]! b.gs[j]! = true) := Lib.hid (all_more HR.out hn)
                rw [hn] at hqq
                clear hn HR
                generalize a.gs[k]! = x at *
                generalize b.gs[k]! = y at *
                go_wp2_with fail
                go_quiet (fail)
                go_wp2_with fail
                go_roundw
                case rel => exact ⟨k + 1, hlt, by go_num, HR', Lib.hid (below_draws hB.out _)⟩
                case measure => simp [intOf]; omega
              | false =>
                have HF : Hid (sameL a b = false) := Lib.hid (sameL_gs (eqLB_bad hlt hn))
                rw [hn] at hqq
                clear hn HR
                generalize a.gs[k]! = x at *
                generalize b.gs[k]! = y at *
                go_wp2_with fail
                go_quiet (fail)
                go_wp2_with fail
                go_ret
                exact ⟨ret_bool HF.out.symm, below_draws (two_old hB.out) _⟩
            · obtain rfl : k = a.gs.length := by omega
              have E1 : Hid (eqLB same_gp a.gs b.gs = true) := Lib.hid (eqLB_all L1.out HR.out)
              clear HR
              go_wp2_with fail
              clear hk hlt a0 a1 a2 a3 b0 b1 b2 b3
              go_loopw [6] (fun i wr => TwoRel w a b a.es.length (fun j => same_ev a.es[j]! b.es[j]!) i wr) (fun i _ => a.es.length - (intOf i).toNat)
              case atStart => exact ⟨0, Nat.zero_le _, rfl, fun j hj => absurd hj (Nat.not_lt_zero _), hB⟩
              case round =>
                clear hB
                obtain ⟨k, hk, rfl, HR, hB⟩ := hrel
                obtain ⟨⟨a0, a1, a2, a3⟩, b0, b1, b2, b3⟩ := two_cells hB.out
                by_cases hlt : k < a.es.length
                · have hlt2 : k < b.es.length := by have := L2.out; omega
                  obtain ⟨p, off1, hA1, hp, hc1⟩ := HA.out.es.at_ (k := 6) (fun _ => rfl) (by omega) hlt
                  obtain ⟨q, off2, hA2, hq, hc2⟩ := HB.out.es.at_ (k := 6) (fun _ => rfl) (by omega) hlt2
                  have x0 := hc1 0 _ rfl
                  rw [Nat.add_zero] at x0
                  have x1 := hc1 1 _ rfl
                  have x2 := hc1 2 _ rfl
                  have x3 := hc1 3 _ rfl
                  have x4 := hc1 4 _ rfl
                  have x5 := hc1 5 _ rfl
                  rw [← (two_old hB.out).cell (p := ⟨p, _, none⟩) hp] at x0 x1 x2 x3 x4 x5
                  have y0 := hc2 0 _ rfl
                  rw [Nat.add_zero] at y0
                  have y1 := hc2 1 _ rfl
                  have y2 := hc2 2 _ rfl
                  have y3 := hc2 3 _ rfl
                  have y4 := hc2 4 _ rfl
                  have y5 := hc2 5 _ rfl
                  rw [← (two_old hB.out).cell (p := ⟨q, _, none⟩) hq] at y0 y1 y2 y3 y4 y5
                  rw [hA1] at a1
                  rw [hA2] at b1
                  clear hc1 hc2 hA1 hA2
                  have i0 : (0 : Int) ≤ (k : Int) := Int.natCast_nonneg _
                  have i1 : (k : Int) < (a.es.length : Int) := by omega
                  have i2 : (k : Int) < (b.es.length : Int) := by omega
                  have hqq := fun W => neq_ev a.es[k]! b.es[k]! W
                  cases hn : same_ev a.es[k]! b.es[k]! with
                  | true =>
                    have HR' : Hid (∀ j, j < k + 1 → same_ev a.es[j]! b.es[j]! = true) := Lib.hid (all_more HR.out hn)
                    rw [hn] at hqq
                    clear hn HR
                    generalize a.es[k]! = x at *
                    generalize b.es[k]! = y at *
                    go_wp2_with fail
                    go_quiet (fail)
                    go_wp2_with fail
                    go_roundw
                    case rel => exact ⟨k + 1, hlt, by go_num, HR', Lib.hid (below_draws hB.out _)⟩
                    case measure => simp [intOf]; omega
                  | false =>
                    have HF : Hid (sameL a b = false) := Lib.hid (sameL_es (eqLB_bad hlt hn))
                    rw [hn] at hqq
                    clear hn HR
                    generalize a.es[k]! = x at *
                    generalize b.es[k]! = y at *
                    go_wp2_with fail
                    go_quiet (fail)
                    go_wp2_with fail
                    go_ret
                    exact ⟨ret_bool HF.out.symm, below_draws (two_old hB.out) _⟩
                · obtain rfl : k = a.es.length := by omega
                  have E2 : Hid (eqLB same_ev a.es b.es = true) := Lib.hid (eqLB_all L2.out HR.out)
                  clear HR
                  go_wp2_with fail
                  clear hk hlt a0 a1 a2 a3 b0 b1 b2 b3
                  go_loopw [7] (fun i wr => TwoRel w a b a.rs.length (fun j => same_rl a.rs[j]! b.rs[j]!) i wr) (fun i _ => a.rs.length - (intOf i).toNat)
                  case atStart => exact ⟨0, Nat.zero_le _, rfl, fun j hj => absurd hj (Nat.not_lt_zero _), hB⟩
                  case round =>
                    clear hB
                    obtain ⟨k, hk, rfl, HR, hB⟩ := hrel
                    obtain ⟨⟨a0, a1, a2, a3⟩, b0, b1, b2, b3⟩ := two_cells hB.out
                    by_cases hlt : k < a.rs.length
                    · have hlt2 : k < b.rs.length := by have := L3.out; omega
                      obtain ⟨p, off1, hA1, hp, hc1⟩ := HA.out.rs.at_ (k := 4) (fun _ => rfl) (by omega) hlt
                      obtain ⟨q, off2, hA2, hq, hc2⟩ := HB.out.rs.at_ (k := 4) (fun _ => rfl) (by omega) hlt2
                      have x0 := hc1 0 _ rfl
                      rw [Nat.add_zero] at x0
                      have x1 := hc1 1 _ rfl
                      have x2 := hc1 2 _ rfl
                      have x3 := hc1 3 _ rfl
                      rw [← (two_old hB.out).cell (p := ⟨p, _, none⟩) hp] at x0 x1 x2 x3
                      have y0 := hc2 0 _ rfl
                      rw [Nat.add_zero] at y0
                      have y1 := hc2 1 _ rfl
                      have y2 := hc2 2 _ rfl
                      have y3 := hc2 3 _ rfl
                      rw [← (two_old hB.out).cell (p := ⟨q, _, none⟩) hq] at y0 y1 y2 y3
                      rw [hA1] at a2
                      rw [hA2] at b2
                      clear hc1 hc2 hA1 hA2
                      have i0 : (0 : Int) ≤ (k : Int) := Int.natCast_nonneg _
                      have i1 : (k : Int) < (a.rs.length : Int) := by omega
                      have i2 : (k : Int) < (b.rs.length : Int) := by omega
                      have hqq := fun W => neq_rl a.rs[k]! b.rs[k]! W
                      cases hn : same_rl a.rs[k]! b.rs[k]! with
                      | true =>
                        have HR' : Hid (∀ j, j < k + 1 → same_rl a.rs[j]! b.rs[j]! = true) := Lib.hid (all_more HR.out hn)
                        rw [hn] at hqq
                        clear hn HR
                        generalize a.rs[k]! = x at *
                        generalize b.rs[k]! = y at *
                        go_wp2_with fail
                        go_quiet (fail)
                        go_wp2_with fail
                        go_roundw
                        case rel => exact ⟨k + 1, hlt, by go_num, HR', Lib.hid (below_draws hB.out _)⟩
                        case measure => simp [intOf]; omega
                      | false =>
                        have HF : Hid (sameL a b = false) := Lib.hid (sameL_rs (eqLB_bad hlt hn))
                        rw [hn] at hqq
                        clear hn HR
                        generalize a.rs[k]! = x at *
                        generalize b.rs[k]! = y at *
                        go_wp2_with fail
                        go_quiet (fail)
                        go_wp2_with fail
                        go_ret
                        exact ⟨ret_bool HF.out.symm, below_draws (two_old hB.out) _⟩
                    · obtain rfl : k = a.rs.length := by omega
                      have E3 : Hid (eqLB same_rl a.rs b.rs = true) := Lib.hid (eqLB_all L3.out HR.out)
                      clear HR
                      go_wp2_with fail
                      clear hk hlt a0 a1 a2 a3 b0 b1 b2 b3
                      go_loopw [8] (fun i wr => TwoRel w a b a.us.length (fun j => same_us a.us[j]! b.us[j]!) i wr) (fun i _ => a.us.length - (intOf i).toNat)
                      case atStart => exact ⟨0, Nat.zero_le _, rfl, fun j hj => absurd hj (Nat.not_lt_zero _), hB⟩
                      case round =>
                        clear hB
                        obtain ⟨k, hk, rfl, HR, hB⟩ := hrel
                        obtain ⟨⟨a0, a1, a2, a3⟩, b0, b1, b2, b3⟩ := two_cells hB.out
                        by_cases hlt : k < a.us.length
                        · have hlt2 : k < b.us.length := by have := L4.out; omega
                          obtain ⟨p, off1, hA1, hp, hc1⟩ := HA.out.us.at_ (k := 3) (fun _ => rfl) (by omega) hlt
                          obtain ⟨q, off2, hA2, hq, hc2⟩ := HB.out.us.at_ (k := 3) (fun _ => rfl) (by omega) hlt2
                          have x0 := hc1 0 _ rfl
                          rw [Nat.add_zero] at x0
                          have x1 := hc1 1 _ rfl
                          have x2 := hc1 2 _ rfl
                          rw [← (two_old hB.out).cell (p := ⟨p, _, none⟩) hp] at x0 x1 x2
                          have y0 := hc2 0 _ rfl
                          rw [Nat.add_zero] at y0
                          have y1 := hc2 1 _ rfl
                          have y2 := hc2 2 _ rfl
                          rw [← (two_old hB.out).cell (p := ⟨q, _, none⟩) hq] at y0 y1 y2
                          rw [hA1] at a3
                          rw [hA2] at b3
                          clear hc1 hc2 hA1 hA2
                          have i0 : (0 : Int) ≤ (k : Int) := Int.natCast_nonneg _
                          have i1 : (k : Int) < (a.us.length : Int) := by omega
                          have i2 : (k : Int) < (b.us.length : Int) := by omega
                          have lo := (two_old hB.out).size
                          have lb := hB.out.size
                          rw [box_size, box_size] at lb
                          have lp : p < wr.heap.size := by omega
                          have lq : q < wr.heap.size := by omega
                          have lw0 : w.heap.size < wr.heap.size := by omega
                          have lw1 : w.heap.size + 1 < wr.heap.size := by omega
                          have hBW : Hid (Below (w.heap.size + 2) (boxW (boxW w a) b) ((wr.alloc (.cells #[.string a.us[k]!.name, .slice a.us[k]!.ra a.us[k]!.roles.length a.us[k]!.rc, .string a.us[k]!.sub] 74)).alloc (.cells #[.string b.us[k]!.name, .slice b.us[k]!.ra b.us[k]!.roles.length b.us[k]!.rc, .string b.us[k]!.sub] 74))) := Lib.hid ((hB.out.alloc (by omega) _).alloc (by rw [World.size_alloc]; omega) _)
                          have C := Lib.hid (words_any a.us[k]!.ra b.us[k]!.ra a.us[k]!.rc b.us[k]!.rc a.us[k]!.roles b.us[k]!.roles _ ((HA.out.roles _ (mem_at hlt)).below (Nat.le_refl _) (two_old hBW.out)) ((HB.out.roles _ (mem_at hlt2)).below (Nat.le_refl _) (two_old hBW.out)) (HZ.out.ur _ (mem_at hlt)).2.2.1)
                          have HS : Hid (same_us a.us[k]! b.us[k]! = (a.us[k]!.name.toList == b.us[k]!.name.toList && (a.us[k]!.sub.toList == b.us[k]!.sub.toList && eqLB same_st a.us[k]!.roles b.us[k]!.roles))) := Lib.hid rfl
                          have HM : Hid (∀ v, same_us a.us[k]! b.us[k]! = v → (v = true → ∀ j, j < k + 1 → same_us a.us[j]! b.us[j]! = true) ∧ (v = false → sameL a b = false)) := Lib.hid (fun v hv => ⟨fun h => all_more HR.out (hv.trans h), fun h => sameL_us (eqLB_bad hlt (hv.trans h))⟩)
                          clear HR
                          generalize a.us[k]! = x at *
                          generalize b.us[k]! = y at *
                          cases hn : (x.name.toList == y.name.toList) with
                          | false =>
                            have HF := Lib.hid ((HM.out false (by rw [HS.out, hn]; rfl)).2 rfl)
                            go_wp2_with fail
                            go_ret
                            exact ⟨ret_bool HF.out.symm, two_old hBW.out⟩
                          | true =>
                            cases hs : (x.sub.toList == y.sub.toList) with
                            | false =>
                              have HF := Lib.hid ((HM.out false (by rw [HS.out, hn, hs]; rfl)).2 rfl)
                              go_wp2_with fail
                              go_ret
                              exact ⟨ret_bool HF.out.symm, two_old hBW.out⟩
                            | true =>
                              have HV : Hid (same_us x y = eqLB same_st x.roles y.roles) := Lib.hid (by rw [HS.out, hn, hs]; rfl)
                              have lbw := hBW.out.size
                              rw [box_size, box_size] at lbw
                              cases hw : eqLB same_st x.roles y.roles with
                              | false =>
                                have HF := Lib.hid ((HM.out false (by rw [HV.out, hw])).2 rfl)
                                rw [hw] at C
                                clear hw
                                go_wp2_with (go_at_call 19; refine C.out.mono ?_; rintro e w1 ⟨rfl, hb1⟩)
                                go_ret
                                exact ⟨ret_bool HF.out.symm, (two_old hBW.out).trans (hb1.mono (two_old hBW.out).size)⟩
                              | true =>
                                have HR' := Lib.hid ((HM.out true (by rw [HV.out, hw])).1 rfl)
                                rw [hw] at C
                                clear hw
                                go_wp2_with (go_at_call 19; refine C.out.mono ?_; rintro e w1 ⟨rfl, hb1⟩)
                                go_roundw
                                case rel => exact ⟨k + 1, hlt, by go_num, HR', Lib.hid (hBW.out.trans (hb1.mono lbw))⟩
                                case measure => simp [intOf]; omega
                        · obtain rfl : k = a.us.length := by omega
                          have HF : Hid (sameL a b = true) := Lib.hid (by rw [sameL, E1.out, E2.out, E3.out, eqLB_all L4.out HR.out]; rfl)
                          clear HR
                          go_wp2_with fail
                          go_ret
                          exact ⟨ret_bool HF.out.symm, two_old hB.out⟩
        · have HF : Hid (sameL a b = false) := Lib.hid (sameL_us (eqLB_len l4))
          have t1 : ((a.gs.length : Int) != (b.gs.length : Int)) = false := by rw [bne_eq_false_iff_eq]; omega
          have t2 : ((a.es.length : Int) != (b.es.length : Int)) = false := by rw [bne_eq_false_iff_eq]; omega
          have t3 : ((a.rs.length : Int) != (b.rs.length : Int)) = false := by rw [bne_eq_false_iff_eq]; omega
          have t4 : ((a.us.length : Int) != (b.us.length : Int)) = true := by rw [bne_iff_ne]; omega
          clear l1 l2 l3 l4
          go_enter Tryz.func7, Tryz.ntmps7
          go_wp2_with fail
          go_ret
          exact ⟨ret_bool HF.out.symm, two_old B0.out⟩
      · have HF : Hid (sameL a b = false) := Lib.hid (sameL_rs (eqLB_len l3))
        have t1 : ((a.gs.length : Int) != (b.gs.length : Int)) = false := by rw [bne_eq_false_iff_eq]; omega
        have t2 : ((a.es.length : Int) != (b.es.length : Int)) = false := by rw [bne_eq_false_iff_eq]; omega
        have t3 : ((a.rs.length : Int) != (b.rs.length : Int)) = true := by rw [bne_iff_ne]; omega
        clear l1 l2 l3
        go_enter Tryz.func7, Tryz.ntmps7
        go_wp2_with fail
        go_ret
        exact ⟨ret_bool HF.out.symm, two_old B0.out⟩
    · have HF : Hid (sameL a b = false) := Lib.hid (sameL_es (eqLB_len l2))
      have t1 : ((a.gs.length : Int) != (b.gs.length : Int)) = false := by rw [bne_eq_false_iff_eq]; omega
      have t2 : ((a.es.length : Int) != (b.es.length : Int)) = true := by rw [bne_iff_ne]; omega
      clear l1 l2
      go_enter Tryz.func7, Tryz.ntmps7
      go_wp2_with fail
      go_ret
      exact ⟨ret_bool HF.out.symm, two_old B0.out⟩
  · have HF : Hid (sameL a b = false) := Lib.hid (sameL_gs (eqLB_len l1))
    have t1 : ((a.gs.length : Int) != (b.gs.length : Int)) = true := by rw [bne_iff_ne]; omega
    clear l1
    go_enter Tryz.func7, Tryz.ntmps7
    go_wp2_with fail
    go_ret
    exact ⟨ret_bool HF.out.symm, two_old B0.out⟩
end Go.Proofs.YtjgcjnkeeiaafaaGreatDoor
