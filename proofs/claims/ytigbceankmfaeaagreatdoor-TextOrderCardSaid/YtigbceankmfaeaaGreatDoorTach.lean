/-
  Contracts of graph.groupsWithin and Members. Contract of graph.Members. Contracts of slices.Clone at groups, events, relations, users and texts. Contracts of slices.Equal at groups, events, relations and texts. Contracts of graph.sameUser, slices.EqualFunc at users, and graph.Same. Contract of the document's own Words.
-/
import Derived.Test.YtigbceankmfaeaaGreatDoorTacc
import Derived.Laws.StructEq
namespace Go.Proofs.YtigbceankmfaeaaGreatDoor
open Go.RowKit Go.Shelf
theorem MapFn.mono {w : World} {P : Program} {k e : TypeId} {b n m : Nat} {f : Lit → Option Nat} (h : MapFn w P k e b n f) (hn : n ≤ m) : MapFn w P k e b m f := by
  obtain ⟨D, h, hf⟩ := h; exact ⟨D, h.mono hn, hf⟩
theorem MapFn.update {w : World} {P : Program} {k e t : TypeId} {b n : Nat} {f : Lit → Option Nat} (h : MapFn w P k e b n f) (K : Maps.Keyed P k) (ht : P.underlying t = some (.map k e)) (he : P.underlying e = some (.int .i64)) (hn : n < maxLen) {key : Value} {kl : Lit} (hkey : keyOf P k key = some kl) (i : Nat) (hi : i ≤ 9223372036854775807) :
    ∃ w1, (Instr.mapUpdate t (.map (some b)) key (.int .i64 (i : Int))).run P w = .ok () w1 ∧ MapFn w1 P k e b (n + 1) (fun l => if l = kl then some i else f l) ∧ w.grownBy w1 (some b) := by
  obtain ⟨D, h, hf⟩ := h
  obtain ⟨w1, h1, h2, h3⟩ := h.update K ht hn hkey (val := .int .i64 (i : Int)) (plainElem_int he (WalkArith.wf_i64 (by omega)))
  exact ⟨w1, h1, MapFn.of_own hf h.isMap (K.key hkey) h2, h3⟩
end Go.Proofs.YtigbceankmfaeaaGreatDoor

namespace Go.Proofs.YtigbceankmfaeaaGreatDoor
open Go.RowKit Go.Shelf
theorem own_slice {w : World} {B e z n : Nat} {v : Value} {xs : List Value} (h : w.ownsRow B e z v n xs) : ∃ ao cap, v = .slice ao n cap := by
  rcases h.2 with ⟨hv, h0⟩ | ⟨g, cap, cur, hv, _⟩
  · exact ⟨none, 0, by rw [hv, h0]⟩
  · exact ⟨_, _, hv⟩
theorem own_below {w w1 : World} {B e z n : Nat} {v : Value} {xs : List Value} (h : w.ownsRow B e z v n xs) (hb : Below w.heap.size w w1) : w1.ownsRow B e z v n xs :=
  h.kept (row := none) ⟨hb.os, hb.tape, hb.output, hb.size, fun k hk _ => hb.block k hk⟩ (by cases hv : v.ownBlock <;> simp)
theorem own_base {w : World} {B B' e z n : Nat} {v : Value} {xs : List Value} (h : w.ownsRow B e z v n xs) (hB : B' ≤ B) : w.ownsRow B' e z v n xs := by
  refine ⟨h.1, ?_⟩
  rcases h.2 with h | ⟨g, cap, cur, h1, h2, h3⟩
  · exact .inl h
  · exact .inr ⟨g, cap, cur, h1, Nat.le_trans hB h2, h3⟩
def boxW (w : World) (g : Gr) : World := w.alloc (.cells #[.slice g.ga g.gs.length g.gc, .slice g.ea g.es.length g.ec, .slice g.ra g.rs.length g.rc, .slice g.ua g.us.length g.uc] 27)
theorem box_below (w : World) (g : Gr) : Below w.heap.size w (boxW w g) := (Below.refl _ _).alloc (Nat.le_refl _) _
theorem box_size (w : World) (g : Gr) : (boxW w g).heap.size = w.heap.size + 1 := by simp [boxW]
theorem box_cells {w w1 : World} {g : Gr} (hb : Below (w.heap.size + 1) (boxW w g) w1) : w1.cell? ⟨w.heap.size, 0, none⟩ = some (.slice g.ga g.gs.length g.gc) ∧ w1.cell? ⟨w.heap.size, 1, none⟩ = some (.slice g.ea g.es.length g.ec) ∧ w1.cell? ⟨w.heap.size, 2, none⟩ = some (.slice g.ra g.rs.length g.rc) ∧ w1.cell? ⟨w.heap.size, 3, none⟩ = some (.slice g.ua g.us.length g.uc) := by
  have hh : w1.heap[w.heap.size]? = some (.cells #[.slice g.ga g.gs.length g.gc, .slice g.ea g.es.length g.ec, .slice g.ra g.rs.length g.rc, .slice g.ua g.us.length g.uc] 27 (0, 0)) := (hb.block w.heap.size (by omega)).trans (heap_new _ _)
  exact ⟨cell_blk hh rfl, cell_blk hh rfl, cell_blk hh rfl, cell_blk hh rfl⟩
end Go.Proofs.YtigbceankmfaeaaGreatDoor

namespace Go.Proofs.YtigbceankmfaeaaGreatDoor
open Go.RowKit Go.Shelf
theorem info_gp : (Tryz.prog.info? 43).map (fun i => (i.zero, i.size, i.bytes)) = some (some (.agg #[.string ⟨#[]⟩, .string ⟨#[]⟩]), 2, 32) := by kernel_rfl
theorem info_ev : (Tryz.prog.info? 46).map (fun i => (i.zero, i.size, i.bytes)) = some (some (.agg #[.string ⟨#[]⟩, .string ⟨#[]⟩, .string ⟨#[]⟩, .bool false, .bool false, .int .i64 0]), 6, 64) := by kernel_rfl
theorem info_rl : (Tryz.prog.info? 48).map (fun i => (i.zero, i.size, i.bytes)) = some (some (.agg #[.int .i64 0, .string ⟨#[]⟩, .string ⟨#[]⟩, .int .i64 0]), 4, 48) := by kernel_rfl
theorem info_us : (Tryz.prog.info? 51).map (fun i => (i.zero, i.size, i.bytes)) = some (some (.agg #[.string ⟨#[]⟩, .slice none 0 0, .string ⟨#[]⟩]), 3, 56) := by kernel_rfl
end Go.Proofs.YtigbceankmfaeaaGreatDoor

namespace Go.Proofs.YtigbceankmfaeaaGreatDoor
open Go.RowKit Go.Shelf
def eqLB {α : Type} [Inhabited α] (p : α → α → Bool) (a b : List α) : Bool := decide (a.length = b.length) && (List.range a.length).all (fun i => p a[i]! b[i]!)
theorem eqLB_len {α : Type} [Inhabited α] {p : α → α → Bool} {a b : List α} (h : ¬ a.length = b.length) : eqLB p a b = false := by simp [eqLB, h]
theorem eqLB_all {α : Type} [Inhabited α] {p : α → α → Bool} {a b : List α} (h : a.length = b.length) (hp : ∀ j, j < a.length → p a[j]! b[j]! = true) : eqLB p a b = true := by
  simp only [eqLB, decide_eq_true h, Bool.true_and, List.all_eq_true, List.mem_range]; exact hp
theorem eqLB_bad {α : Type} [Inhabited α] {p : α → α → Bool} {a b : List α} {k : Nat} (hk : k < a.length) (hp : p a[k]! b[k]! = false) : eqLB p a b = false := by
  have : (List.range a.length).all (fun i => p a[i]! b[i]!) = false := by
    rw [List.all_eq_false]; exact ⟨k, List.mem_range.2 hk, by rw [hp]; decide⟩
  rw [eqLB, this, Bool.and_false]
theorem all_more {α : Type} [Inhabited α] {p : α → α → Bool} {a b : List α} {k : Nat} (h : ∀ j, j < k → p a[j]! b[j]! = true) (hk : p a[k]! b[k]! = true) : ∀ j, j < k + 1 → p a[j]! b[j]! = true := by
  intro j hj
  by_cases e : j = k
  · rw [e]; exact hk
  · exact h j (by omega)
def same_gp (a b : Gp) : Bool := (a.name.toList == b.name.toList) && (a.parent.toList == b.parent.toList)
set_option maxHeartbeats 1000000 in
theorem neq_gp (a b : Gp) (w : World) : (binOp .neq 43 (.agg #[.string a.name, .string a.parent]) (.agg #[.string b.name, .string b.parent])).run Tryz.prog w = .ok (.bool (!same_gp a b)) w := by
  have u0 := Tryz.underlying3
  have a0 := Tryz.isAgg3
  have z0 := Tryz.sizeOf3
  have u1 := Tryz.underlying9
  have a1 := Tryz.isAgg9
  have z1 := Tryz.sizeOf9
  have u2 := Tryz.underlying4
  have a2 := Tryz.isAgg4
  have z2 := Tryz.sizeOf4
  have hS : Tryz.prog.underlying 43 = some (.struct (Tryz.prog.fieldsOf 43)) := by kernel_rfl
  have hp : Tryz.prog.stoodInHeld 43 = false := by kernel_rfl
  rw [run_neq_struct, show (10000 : Nat) = 9999 + 1 from rfl, run_equalIn_agg w 9999 43 _ _ hS hp]
  simp only [Program.fieldsOf, Tryz.underlying43]
  go_simp
  unfold same_gp
  by_cases h0 : a.name.toList = b.name.toList <;> by_cases h1 : a.parent.toList = b.parent.toList <;> simp [h0, h1]
def same_ev (a b : Ev) : Bool := (a.name.toList == b.name.toList) && (a.group.toList == b.group.toList) && (a.role.toList == b.role.toList) && (a.inn == b.inn) && (a.done == b.done) && (a.due == b.due)
set_option maxHeartbeats 1000000 in
theorem neq_ev (a b : Ev) (w : World) : (binOp .neq 46 (.agg #[.string a.name, .string a.group, .string a.role, .bool a.inn, .bool a.done, .int .i64 a.due]) (.agg #[.string b.name, .string b.group, .string b.role, .bool b.inn, .bool b.done, .int .i64 b.due])).run Tryz.prog w = .ok (.bool (!same_ev a b)) w := by
  have u0 := Tryz.underlying3
  have a0 := Tryz.isAgg3
  have z0 := Tryz.sizeOf3
  have u1 := Tryz.underlying9
  have a1 := Tryz.isAgg9
  have z1 := Tryz.sizeOf9
  have u2 := Tryz.underlying4
  have a2 := Tryz.isAgg4
  have z2 := Tryz.sizeOf4
  have hS : Tryz.prog.underlying 46 = some (.struct (Tryz.prog.fieldsOf 46)) := by kernel_rfl
  have hp : Tryz.prog.stoodInHeld 46 = false := by kernel_rfl
  rw [run_neq_struct, show (10000 : Nat) = 9999 + 1 from rfl, run_equalIn_agg w 9999 46 _ _ hS hp]
  simp only [Program.fieldsOf, Tryz.underlying46]
  go_simp
  unfold same_ev
  by_cases h0 : a.name.toList = b.name.toList <;> by_cases h1 : a.group.toList = b.group.toList <;> by_cases h2 : a.role.toList = b.role.toList <;> by_cases h3 : a.inn = b.inn <;> by_cases h4 : a.done = b.done <;> by_cases h5 : a.due = b.due <;> simp [h0, h1, h2, h3, h4, h5]
def same_rl (a b : Rl) : Bool := (a.kind == b.kind) && (a.src.toList == b.src.toList) && (a.dst.toList == b.dst.toList) && (a.time == b.time)
set_option maxHeartbeats 1000000 in
theorem neq_rl (a b : Rl) (w : World) : (binOp .neq 48 (.agg #[.int .i64 a.kind, .string a.src, .string a.dst, .int .i64 a.time]) (.agg #[.int .i64 b.kind, .string b.src, .string b.dst, .int .i64 b.time])).run Tryz.prog w = .ok (.bool (!same_rl a b)) w := by
  have u0 := Tryz.underlying3
  have a0 := Tryz.isAgg3
  have z0 := Tryz.sizeOf3
  have u1 := Tryz.underlying9
  have a1 := Tryz.isAgg9
  have z1 := Tryz.sizeOf9
  have u2 := Tryz.underlying4
  have a2 := Tryz.isAgg4
  have z2 := Tryz.sizeOf4
  have hS : Tryz.prog.underlying 48 = some (.struct (Tryz.prog.fieldsOf 48)) := by kernel_rfl
  have hp : Tryz.prog.stoodInHeld 48 = false := by kernel_rfl
  rw [run_neq_struct, show (10000 : Nat) = 9999 + 1 from rfl, run_equalIn_agg w 9999 48 _ _ hS hp]
  simp only [Program.fieldsOf, Tryz.underlying48]
  go_simp
  unfold same_rl
  by_cases h0 : a.kind = b.kind <;> by_cases h1 : a.src.toList = b.src.toList <;> by_cases h2 : a.dst.toList = b.dst.toList <;> by_cases h3 : a.time = b.time <;> simp [h0, h1, h2, h3]
def same_st (a b : ByteArray) : Bool := a.toList == b.toList
end Go.Proofs.YtigbceankmfaeaaGreatDoor

namespace Go.Proofs.YtigbceankmfaeaaGreatDoor
open Go.RowKit Go.Shelf
def same_us (a b : Us) : Bool := a.name.toList == b.name.toList && (a.sub.toList == b.sub.toList && eqLB same_st a.roles b.roles)
/-- Are all parts the same? -/
def sameL (a b : Gr) : Bool := eqLB same_gp a.gs b.gs && (eqLB same_ev a.es b.es && (eqLB same_rl a.rs b.rs && eqLB same_us a.us b.us))
theorem two_cells {w w1 : World} {a b : Gr} (hb : Below (w.heap.size + 2) (boxW (boxW w a) b) w1) :
    (w1.cell? ⟨w.heap.size, 0, none⟩ = some (.slice a.ga a.gs.length a.gc) ∧ w1.cell? ⟨w.heap.size, 1, none⟩ = some (.slice a.ea a.es.length a.ec) ∧ w1.cell? ⟨w.heap.size, 2, none⟩ = some (.slice a.ra a.rs.length a.rc) ∧ w1.cell? ⟨w.heap.size, 3, none⟩ = some (.slice a.ua a.us.length a.uc)) ∧
    w1.cell? ⟨w.heap.size + 1, 0, none⟩ = some (.slice b.ga b.gs.length b.gc) ∧ w1.cell? ⟨w.heap.size + 1, 1, none⟩ = some (.slice b.ea b.es.length b.ec) ∧ w1.cell? ⟨w.heap.size + 1, 2, none⟩ = some (.slice b.ra b.rs.length b.rc) ∧ w1.cell? ⟨w.heap.size + 1, 3, none⟩ = some (.slice b.ua b.us.length b.uc) := by
  have hz := box_size w a
  constructor
  · have := box_below (boxW w a) b
    rw [hz] at this
    exact box_cells (this.trans (hb.mono (by omega)))
  · have := box_cells (w := boxW w a) (g := b) (w1 := w1) (by rw [hz]; exact hb)
    rw [hz] at this
    exact this
end Go.Proofs.YtigbceankmfaeaaGreatDoor

namespace Go.Proofs.YtigbceankmfaeaaGreatDoor
open Go.RowKit Go.Shelf
set_option maxRecDepth 100000 in
set_option maxHeartbeats 2000000 in
theorem words_any (A B : Option Addr) (c d : Nat) (a b : List ByteArray) (w : World) (hr1 : Row w A (a.map Value.string)) (hr2 : Row w B (b.map Value.string)) (hla : a.length * 16 ≤ 140737488351232) :
    Calls Tryz.prog 33 #[.slice A a.length c, .slice B b.length d] w fun e w' => e = .returned (.bool (eqLB same_st a b)) ∧ Below w.heap.size w w' := by
  by_cases hle : a.length = b.length
  · have HLE := Lib.hid hle
    have hle1 : ((a.length : Int) != (b.length : Int)) = false := by rw [bne_eq_false_iff_eq]; omega
    have hle2 : a.length ≤ b.length := by omega
    have hle3 : b.length ≤ a.length := by omega
    clear hle
    go_enter Tryz.func33, Tryz.ntmps33
    go_wp2_with fail
    go_loopw [5] (fun i wr => ∃ k : Nat, k ≤ a.length ∧ i = .int .i64 k ∧ Hid (∀ j, j < k → same_st a[j]! b[j]! = true) ∧ Below w.heap.size w wr) (fun i _ => a.length - (intOf i).toNat)
    case atStart => exact ⟨0, Nat.zero_le _, rfl, fun j hj => absurd hj (Nat.not_lt_zero _), Below.refl _ _⟩
    case round =>
      obtain ⟨k, hk, rfl, HR, hB⟩ := hrel
      by_cases hlt1 : k < a.length
      · have hlt2 : k < b.length := by omega
        obtain ⟨b1, off1, rfl, hb1, k1_0⟩ := hr1.str_at hlt1
        obtain ⟨b2, off2, rfl, hb2, k2_0⟩ := hr2.str_at hlt2
        rw [← hB.cell (p := ⟨b1, _, none⟩) hb1] at k1_0
        rw [← hB.cell (p := ⟨b2, _, none⟩) hb2] at k2_0
        have hq : (a[k]!.toList == b[k]!.toList) = same_st a[k]! b[k]! := rfl
        have i0 : (0 : Int) ≤ (k : Int) := Int.natCast_nonneg _
        have i1 : (k : Int) < (a.length : Int) := by omega
        have i2 : (k : Int) < (b.length : Int) := by omega
        cases hn : same_st a[k]! b[k]! with
        | true =>
          have HR' := Lib.hid (all_more HR.out hn)
          rw [hn] at hq
          clear hn HR
          generalize a[k]! = x at *
          generalize b[k]! = y at *
          go_wp2_with fail
          go_quiet (fail)
          go_wp2_with fail
          go_roundw
          case rel => exact ⟨k + 1, hlt1, by go_num, HR', below_draws hB _⟩
          case measure => simp [intOf]; omega
        | false =>
          have HF := Lib.hid (eqLB_bad hlt1 hn)
          rw [hn] at hq
          clear hn HR
          generalize a[k]! = x at *
          generalize b[k]! = y at *
          go_wp2_with fail
          go_quiet (fail)
          go_wp2_with fail
          go_ret
          exact ⟨ret_bool HF.out.symm, below_draws hB _⟩
      · obtain rfl : k = a.length := by omega
        have HF := Lib.hid (eqLB_all HLE.out HR.out)
        clear HR
        go_wp2_with fail
        go_ret
        exact ⟨ret_bool HF.out.symm, hB⟩
  · have HF := Lib.hid (eqLB_len (p := same_st) hle)
    have hle1 : ((a.length : Int) != (b.length : Int)) = true := by rw [bne_iff_ne]; omega
    clear hle
    go_enter Tryz.func33, Tryz.ntmps33
    go_wp2_with fail
    go_ret
    exact ⟨ret_bool HF.out.symm, Below.refl _ _⟩
end Go.Proofs.YtigbceankmfaeaaGreatDoor
