/-
  Contracts of slices.Equal at groups, events, relations and texts.
-/
import Derived.Test.YtandfjahfbeaiaaGreatGrCl
import Derived.Laws.StructEq
namespace Go.Proofs.YtandfjahfbeaiaaGreat
open Go.RowKit Go.Shelf
def eqLB {α : Type} [Inhabited α] (p : α → α → Bool) (a b : List α) : Bool := decide (a.length = b.length) && (List.range a.length).all (fun i => p a[i]! b[i]!)
theorem eqLB_len {α : Type} [Inhabited α] {p : α → α → Bool} {a b : List α} (h : ¬ a.length = b.length) : eqLB p a b = false := by simp [eqLB, h]
theorem eqLB_all {α : Type} [Inhabited α] {p : α → α → Bool} {a b : List α} (h : a.length = b.length) (hp : ∀ j, j < a.length → p a[j]! b[j]! = true) : eqLB p a b = true := by
  simp only [eqLB, decide_eq_true h, Bool.true_and, List.all_eq_true, List.mem_range]; exact hp
theorem eqLB_bad {α : Type} [Inhabited α] {p : α → α → Bool} {a b : List α} {k : Nat} (hk : k < a.length) (hp : p a[k]! b[k]! = false) : eqLB p a b = false := by
  have : (List.range a.length).all (fun i => p a[i]! b[i]!) = false := by
    rw [List.all_eq_false]; exact ⟨k, List.mem_range.2 hk, by rw [hp]; decide⟩
  rw [eqLB, this, Bool.and_false]
theorem all_more {α : Type} [Inhabited α] {p : α → α → Bool} {a b : List α} {k : Nat} (h : ∀ j, j < k → p a[j]! b[j]! = true) (hk : p a[k]! b[k]! = true) : ∀ j, j < k + 1 → p a[j]! b[j]! = true := by
  intro j hj
  by_cases e : j = k
  · rw [e]; exact hk
  · exact h j (by omega)
def same_gp (a b : Gp) : Bool := (a.name.toList == b.name.toList) && (a.parent.toList == b.parent.toList)
set_option maxHeartbeats 1000000 in
theorem neq_gp (a b : Gp) (w : World) : (binOp .neq 39 (.agg #[.string a.name, .string a.parent]) (.agg #[.string b.name, .string b.parent])).run Tryz.prog w = .ok (.bool (!same_gp a b)) w := by
  have u0 := Tryz.underlying3
  have a0 := Tryz.isAgg3
  have z0 := Tryz.sizeOf3
  have u1 := Tryz.underlying9
  have a1 := Tryz.isAgg9
  have z1 := Tryz.sizeOf9
  have u2 := Tryz.underlying4
  have a2 := Tryz.isAgg4
  have z2 := Tryz.sizeOf4
  have hS : Tryz.prog.underlying 39 = some (.struct (Tryz.prog.fieldsOf 39)) := by kernel_rfl
  have hp : Tryz.prog.stoodInHeld 39 = false := by kernel_rfl
  rw [run_neq_struct, show (10000 : Nat) = 9999 + 1 from rfl, run_equalIn_agg w 9999 39 _ _ hS hp]
  simp only [Program.fieldsOf, Tryz.underlying39]
  go_simp
  unfold same_gp
  by_cases h0 : a.name.toList = b.name.toList <;> by_cases h1 : a.parent.toList = b.parent.toList <;> simp [h0, h1]
set_option maxRecDepth 100000 in
set_option maxHeartbeats 2000000 in
theorem equal_gp (A B : Option Addr) (c d : Nat) (a b : List Gp) (w : World) (hr1 : Row w A (a.flatMap gpC)) (hr2 : Row w B (b.flatMap gpC)) (hla : a.length * 32 ≤ 140737488351232) :
    Calls Tryz.prog 38 #[.slice A a.length c, .slice B b.length d] w fun e w' => e = .returned (.bool (eqLB same_gp a b)) ∧ Below w.heap.size w w' := by
  have hm : Tryz.prog.eqGuardType Tryz.prog.depth 39 = false := by kernel_rfl
  by_cases hle : a.length = b.length
  · have HLE := Lib.hid hle
    have hle1 : ((a.length : Int) != (b.length : Int)) = false := by rw [bne_eq_false_iff_eq]; omega
    have hle2 : a.length ≤ b.length := by omega
    have hle3 : b.length ≤ a.length := by omega
    clear hle
    go_enter Tryz.func38, Tryz.ntmps38
    go_wp2_with fail
    go_loopw [5, 13] (fun _ i wr => ∃ k : Nat, k ≤ a.length ∧ i = .int .i64 k ∧ Hid (∀ j, j < k → same_gp a[j]! b[j]! = true) ∧ Below w.heap.size w wr) (fun _ i _ => a.length - (intOf i).toNat)
    case atStart => exact ⟨0, Nat.zero_le _, rfl, fun j hj => absurd hj (Nat.not_lt_zero _), Below.refl _ _⟩
    case round =>
      obtain ⟨k, hk, rfl, HR, hB⟩ := hrel
      by_cases hlt1 : k < a.length
      · have hlt2 : k < b.length := by omega
        obtain ⟨b1, off1, rfl, hb1, hc1⟩ := hr1.at_ (k := 2) (fun _ => rfl) (by omega) hlt1
        obtain ⟨b2, off2, rfl, hb2, hc2⟩ := hr2.at_ (k := 2) (fun _ => rfl) (by omega) hlt2
        have k1_0 := hc1 0 _ rfl
        rw [Nat.add_zero] at k1_0
        have k1_1 := hc1 1 _ rfl
        rw [← hB.cell (p := ⟨b1, _, none⟩) hb1] at k1_0 k1_1
        have k2_0 := hc2 0 _ rfl
        rw [Nat.add_zero] at k2_0
        have k2_1 := hc2 1 _ rfl
        rw [← hB.cell (p := ⟨b2, _, none⟩) hb2] at k2_0 k2_1
        have hq := fun W => neq_gp a[k]! b[k]! W
        cases hn : same_gp a[k]! b[k]! with
        | true =>
          have HR' := Lib.hid (all_more HR.out hn)
          rw [hn] at hq
          clear hn HR hc1 hc2
          generalize a[k]! = x at *
          generalize b[k]! = y at *
          go_wp2_with fail
          go_quiet (fail)
          go_wp2_with fail
          go_roundw
          case rel => exact ⟨k + 1, hlt1, by go_num, HR', below_draws hB _⟩
          case measure => simp [intOf]; omega
        | false =>
          have HF := Lib.hid (eqLB_bad hlt1 hn)
          rw [hn] at hq
          clear hn HR hc1 hc2
          generalize a[k]! = x at *
          generalize b[k]! = y at *
          go_wp2_with fail
          go_quiet (fail)
          go_wp2_with fail
          go_ret
          exact ⟨ret_bool HF.out.symm, below_draws hB _⟩
      · obtain rfl : k = a.length := by omega
        have HF := Lib.hid (eqLB_all HLE.out HR.out)
        clear HR
        go_wp2_with fail
        go_ret
        exact ⟨ret_bool HF.out.symm, hB⟩
  · have HF := Lib.hid (eqLB_len (p := same_gp) hle)
    have hle1 : ((a.length : Int) != (b.length : Int)) = true := by rw [bne_iff_ne]; omega
    clear hle
    go_enter Tryz.func38, Tryz.ntmps38
    go_wp2_with fail
    go_ret
    exact ⟨ret_bool HF.out.symm, Below.refl _ _⟩
def same_ev (a b : Ev) : Bool := (a.name.toList == b.name.toList) && (a.group.toList == b.group.toList) && (a.role.toList == b.role.toList) && (a.inn == b.inn) && (a.done == b.done) && (a.due == b.due)
set_option maxHeartbeats 1000000 in
theorem neq_ev (a b : Ev) (w : World) : (binOp .neq 41 (.agg #[.string a.name, .string a.group, .string a.role, .bool a.inn, .bool a.done, .int .i64 a.due]) (.agg #[.string b.name, .string b.group, .string b.role, .bool b.inn, .bool b.done, .int .i64 b.due])).run Tryz.prog w = .ok (.bool (!same_ev a b)) w := by
  have u0 := Tryz.underlying3
  have a0 := Tryz.isAgg3
  have z0 := Tryz.sizeOf3
  have u1 := Tryz.underlying9
  have a1 := Tryz.isAgg9
  have z1 := Tryz.sizeOf9
  have u2 := Tryz.underlying4
  have a2 := Tryz.isAgg4
  have z2 := Tryz.sizeOf4
  have hS : Tryz.prog.underlying 41 = some (.struct (Tryz.prog.fieldsOf 41)) := by kernel_rfl
  have hp : Tryz.prog.stoodInHeld 41 = false := by kernel_rfl
  rw [run_neq_struct, show (10000 : Nat) = 9999 + 1 from rfl, run_equalIn_agg w 9999 41 _ _ hS hp]
  simp only [Program.fieldsOf, Tryz.underlying41]
  go_simp
  unfold same_ev
  by_cases h0 : a.name.toList = b.name.toList <;> by_cases h1 : a.group.toList = b.group.toList <;> by_cases h2 : a.role.toList = b.role.toList <;> by_cases h3 : a.inn = b.inn <;> by_cases h4 : a.done = b.done <;> by_cases h5 : a.due = b.due <;> simp [h0, h1, h2, h3, h4, h5]
set_option maxRecDepth 100000 in
set_option maxHeartbeats 2000000 in
theorem equal_ev (A B : Option Addr) (c d : Nat) (a b : List Ev) (w : World) (hr1 : Row w A (a.flatMap evC)) (hr2 : Row w B (b.flatMap evC)) (hla : a.length * 64 ≤ 140737488351232) :
    Calls Tryz.prog 39 #[.slice A a.length c, .slice B b.length d] w fun e w' => e = .returned (.bool (eqLB same_ev a b)) ∧ Below w.heap.size w w' := by
  have hm : Tryz.prog.eqGuardType Tryz.prog.depth 41 = false := by kernel_rfl
  by_cases hle : a.length = b.length
  · have HLE := Lib.hid hle
    have hle1 : ((a.length : Int) != (b.length : Int)) = false := by rw [bne_eq_false_iff_eq]; omega
    have hle2 : a.length ≤ b.length := by omega
    have hle3 : b.length ≤ a.length := by omega
    clear hle
    go_enter Tryz.func39, Tryz.ntmps39
    go_wp2_with fail
    go_loopw [5, 13] (fun _ i wr => ∃ k : Nat, k ≤ a.length ∧ i = .int .i64 k ∧ Hid (∀ j, j < k → same_ev a[j]! b[j]! = true) ∧ Below w.heap.size w wr) (fun _ i _ => a.length - (intOf i).toNat)
    case atStart => exact ⟨0, Nat.zero_le _, rfl, fun j hj => absurd hj (Nat.not_lt_zero _), Below.refl _ _⟩
    case round =>
      obtain ⟨k, hk, rfl, HR, hB⟩ := hrel
      by_cases hlt1 : k < a.length
      · have hlt2 : k < b.length := by omega
        obtain ⟨b1, off1, rfl, hb1, hc1⟩ := hr1.at_ (k := 6) (fun _ => rfl) (by omega) hlt1
        obtain ⟨b2, off2, rfl, hb2, hc2⟩ := hr2.at_ (k := 6) (fun _ => rfl) (by omega) hlt2
        have k1_0 := hc1 0 _ rfl
        rw [Nat.add_zero] at k1_0
        have k1_1 := hc1 1 _ rfl
        have k1_2 := hc1 2 _ rfl
        have k1_3 := hc1 3 _ rfl
        have k1_4 := hc1 4 _ rfl
        have k1_5 := hc1 5 _ rfl
        rw [← hB.cell (p := ⟨b1, _, none⟩) hb1] at k1_0 k1_1 k1_2 k1_3 k1_4 k1_5
        have k2_0 := hc2 0 _ rfl
        rw [Nat.add_zero] at k2_0
        have k2_1 := hc2 1 _ rfl
        have k2_2 := hc2 2 _ rfl
        have k2_3 := hc2 3 _ rfl
        have k2_4 := hc2 4 _ rfl
        have k2_5 := hc2 5 _ rfl
        rw [← hB.cell (p := ⟨b2, _, none⟩) hb2] at k2_0 k2_1 k2_2 k2_3 k2_4 k2_5
        have hq := fun W => neq_ev a[k]! b[k]! W
        cases hn : same_ev a[k]! b[k]! with
        | true =>
          have HR' := Lib.hid (all_more HR.out hn)
          rw [hn] at hq
          clear hn HR hc1 hc2
          generalize a[k]! = x at *
          generalize b[k]! = y at *
          go_wp2_with fail
          go_quiet (fail)
          go_wp2_with fail
          go_roundw
          case rel => exact ⟨k + 1, hlt1, by go_num, HR', below_draws hB _⟩
          case measure => simp [intOf]; omega
        | false =>
          have HF := Lib.hid (eqLB_bad hlt1 hn)
          rw [hn] at hq
          clear hn HR hc1 hc2
          generalize a[k]! = x at *
          generalize b[k]! = y at *
          go_wp2_with fail
          go_quiet (fail)
          go_wp2_with fail
          go_ret
          exact ⟨ret_bool HF.out.symm, below_draws hB _⟩
      · obtain rfl : k = a.length := by omega
        have HF := Lib.hid (eqLB_all HLE.out HR.out)
        clear HR
        go_wp2_with fail
        go_ret
        exact ⟨ret_bool HF.out.symm, hB⟩
  · have HF := Lib.hid (eqLB_len (p := same_ev) hle)
    have hle1 : ((a.length : Int) != (b.length : Int)) = true := by rw [bne_iff_ne]; omega
    clear hle
    go_enter Tryz.func39, Tryz.ntmps39
    go_wp2_with fail
    go_ret
    exact ⟨ret_bool HF.out.symm, Below.refl _ _⟩
def same_rl (a b : Rl) : Bool := (a.kind == b.kind) && (a.src.toList == b.src.toList) && (a.dst.toList == b.dst.toList) && (a.time == b.time)
set_option maxHeartbeats 1000000 in
theorem neq_rl (a b : Rl) (w : World) : (binOp .neq 43 (.agg #[.int .i64 a.kind, .string a.src, .string a.dst, .int .i64 a.time]) (.agg #[.int .i64 b.kind, .string b.src, .string b.dst, .int .i64 b.time])).run Tryz.prog w = .ok (.bool (!same_rl a b)) w := by
  have u0 := Tryz.underlying3
  have a0 := Tryz.isAgg3
  have z0 := Tryz.sizeOf3
  have u1 := Tryz.underlying9
  have a1 := Tryz.isAgg9
  have z1 := Tryz.sizeOf9
  have u2 := Tryz.underlying4
  have a2 := Tryz.isAgg4
  have z2 := Tryz.sizeOf4
  have hS : Tryz.prog.underlying 43 = some (.struct (Tryz.prog.fieldsOf 43)) := by kernel_rfl
  have hp : Tryz.prog.stoodInHeld 43 = false := by kernel_rfl
  rw [run_neq_struct, show (10000 : Nat) = 9999 + 1 from rfl, run_equalIn_agg w 9999 43 _ _ hS hp]
  simp only [Program.fieldsOf, Tryz.underlying43]
  go_simp
  unfold same_rl
  by_cases h0 : a.kind = b.kind <;> by_cases h1 : a.src.toList = b.src.toList <;> by_cases h2 : a.dst.toList = b.dst.toList <;> by_cases h3 : a.time = b.time <;> simp [h0, h1, h2, h3]
set_option maxRecDepth 100000 in
set_option maxHeartbeats 2000000 in
theorem equal_rl (A B : Option Addr) (c d : Nat) (a b : List Rl) (w : World) (hr1 : Row w A (a.flatMap rlC)) (hr2 : Row w B (b.flatMap rlC)) (hla : a.length * 48 ≤ 140737488351232) :
    Calls Tryz.prog 40 #[.slice A a.length c, .slice B b.length d] w fun e w' => e = .returned (.bool (eqLB same_rl a b)) ∧ Below w.heap.size w w' := by
  have hm : Tryz.prog.eqGuardType Tryz.prog.depth 43 = false := by kernel_rfl
  by_cases hle : a.length = b.length
  · have HLE := Lib.hid hle
    have hle1 : ((a.length : Int) != (b.length : Int)) = false := by rw [bne_eq_false_iff_eq]; omega
    have hle2 : a.length ≤ b.length := by omega
    have hle3 : b.length ≤ a.length := by omega
    clear hle
    go_enter Tryz.func40, Tryz.ntmps40
    go_wp2_with fail
    go_loopw [5, 13] (fun _ i wr => ∃ k : Nat, k ≤ a.length ∧ i = .int .i64 k ∧ Hid (∀ j, j < k → same_rl a[j]! b[j]! = true) ∧ Below w.heap.size w wr) (fun _ i _ => a.length - (intOf i).toNat)
    case atStart => exact ⟨0, Nat.zero_le _, rfl, fun j hj => absurd hj (Nat.not_lt_zero _), Below.refl _ _⟩
    case round =>
      obtain ⟨k, hk, rfl, HR, hB⟩ := hrel
      by_cases hlt1 : k < a.length
      · have hlt2 : k < b.length := by omega
        obtain ⟨b1, off1, rfl, hb1, hc1⟩ := hr1.at_ (k := 4) (fun _ => rfl) (by omega) hlt1
        obtain ⟨b2, off2, rfl, hb2, hc2⟩ := hr2.at_ (k := 4) (fun _ => rfl) (by omega) hlt2
        have k1_0 := hc1 0 _ rfl
        rw [Nat.add_zero] at k1_0
        have k1_1 := hc1 1 _ rfl
        have k1_2 := hc1 2 _ rfl
        have k1_3 := hc1 3 _ rfl
        rw [← hB.cell (p := ⟨b1, _, none⟩) hb1] at k1_0 k1_1 k1_2 k1_3
        have k2_0 := hc2 0 _ rfl
        rw [Nat.add_zero] at k2_0
        have k2_1 := hc2 1 _ rfl
        have k2_2 := hc2 2 _ rfl
        have k2_3 := hc2 3 _ rfl
        rw [← hB.cell (p := ⟨b2, _, none⟩) hb2] at k2_0 k2_1 k2_2 k2_3
        have hq := fun W => neq_rl a[k]! b[k]! W
        cases hn : same_rl a[k]! b[k]! with
        | true =>
          have HR' := Lib.hid (all_more HR.out hn)
          rw [hn] at hq
          clear hn HR hc1 hc2
          generalize a[k]! = x at *
          generalize b[k]! = y at *
          go_wp2_with fail
          go_quiet (fail)
          go_wp2_with fail
          go_roundw
          case rel => exact ⟨k + 1, hlt1, by go_num, HR', below_draws hB _⟩
          case measure => simp [intOf]; omega
        | false =>
          have HF := Lib.hid (eqLB_bad hlt1 hn)
          rw [hn] at hq
          clear hn HR hc1 hc2
          generalize a[k]! = x at *
          generalize b[k]! = y at *
          go_wp2_with fail
          go_quiet (fail)
          go_wp2_with fail
          go_ret
          exact ⟨ret_bool HF.out.symm, below_draws hB _⟩
      · obtain rfl : k = a.length := by omega
        have HF := Lib.hid (eqLB_all HLE.out HR.out)
        clear HR
        go_wp2_with fail
        go_ret
        exact ⟨ret_bool HF.out.symm, hB⟩
  · have HF := Lib.hid (eqLB_len (p := same_rl) hle)
    have hle1 : ((a.length : Int) != (b.length : Int)) = true := by rw [bne_iff_ne]; omega
    clear hle
    go_enter Tryz.func40, Tryz.ntmps40
    go_wp2_with fail
    go_ret
    exact ⟨ret_bool HF.out.symm, Below.refl _ _⟩
def same_st (a b : ByteArray) : Bool := a.toList == b.toList
set_option maxRecDepth 100000 in
set_option maxHeartbeats 2000000 in
theorem equal_st (A B : Option Addr) (c d : Nat) (a b : List ByteArray) (w : World) (hr1 : Row w A (a.map Value.string)) (hr2 : Row w B (b.map Value.string)) (hla : a.length * 16 ≤ 140737488351232) :
    Calls Tryz.prog 69 #[.slice A a.length c, .slice B b.length d] w fun e w' => e = .returned (.bool (eqLB same_st a b)) ∧ Below w.heap.size w w' := by
  by_cases hle : a.length = b.length
  · have HLE := Lib.hid hle
    have hle1 : ((a.length : Int) != (b.length : Int)) = false := by rw [bne_eq_false_iff_eq]; omega
    have hle2 : a.length ≤ b.length := by omega
    have hle3 : b.length ≤ a.length := by omega
    clear hle
    go_enter Tryz.func69, Tryz.ntmps69
    go_wp2_with fail
    go_loopw [5, 13] (fun _ i wr => ∃ k : Nat, k ≤ a.length ∧ i = .int .i64 k ∧ Hid (∀ j, j < k → same_st a[j]! b[j]! = true) ∧ Below w.heap.size w wr) (fun _ i _ => a.length - (intOf i).toNat)
    case atStart => exact ⟨0, Nat.zero_le _, rfl, fun j hj => absurd hj (Nat.not_lt_zero _), Below.refl _ _⟩
    case round =>
      obtain ⟨k, hk, rfl, HR, hB⟩ := hrel
      by_cases hlt1 : k < a.length
      · have hlt2 : k < b.length := by omega
        obtain ⟨b1, off1, rfl, hb1, k1_0⟩ := hr1.str_at hlt1
        obtain ⟨b2, off2, rfl, hb2, k2_0⟩ := hr2.str_at hlt2
        rw [← hB.cell (p := ⟨b1, _, none⟩) hb1] at k1_0
        rw [← hB.cell (p := ⟨b2, _, none⟩) hb2] at k2_0
        have hq : (a[k]!.toList == b[k]!.toList) = same_st a[k]! b[k]! := rfl
        cases hn : same_st a[k]! b[k]! with
        | true =>
          have HR' := Lib.hid (all_more HR.out hn)
          rw [hn] at hq
          clear hn HR
          generalize a[k]! = x at *
          generalize b[k]! = y at *
          go_wp2_with fail
          go_quiet (fail)
          go_wp2_with fail
          go_roundw
          case rel => exact ⟨k + 1, hlt1, by go_num, HR', below_draws hB _⟩
          case measure => simp [intOf]; omega
        | false =>
          have HF := Lib.hid (eqLB_bad hlt1 hn)
          rw [hn] at hq
          clear hn HR
          generalize a[k]! = x at *
          generalize b[k]! = y at *
          go_wp2_with fail
          go_quiet (fail)
          go_wp2_with fail
          go_ret
          exact ⟨ret_bool HF.out.symm, below_draws hB _⟩
      · obtain rfl : k = a.length := by omega
        have HF := Lib.hid (eqLB_all HLE.out HR.out)
        clear HR
        go_wp2_with fail
        go_ret
        exact ⟨ret_bool HF.out.symm, hB⟩
  · have HF := Lib.hid (eqLB_len (p := same_st) hle)
    have hle1 : ((a.length : Int) != (b.length : Int)) = true := by rw [bne_iff_ne]; omega
    clear hle
    go_enter Tryz.func69, Tryz.ntmps69
    go_wp2_with fail
    go_ret
    exact ⟨ret_bool HF.out.symm, Below.refl _ _⟩
end Go.Proofs.YtandfjahfbeaiaaGreat
