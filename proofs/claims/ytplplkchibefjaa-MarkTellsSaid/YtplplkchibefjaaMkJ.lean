/-
  Contracts of Same and All.
-/
import Derived.Test.YtplplkchibefjaaMkH
import Derived.Laws.StructEq
namespace Go.Proofs.Ytplplkchibefjaa.M5
open Go.RowKit Go.Shelf Go.Proofs.Ytplplkchibefjaa.B

set_option maxHeartbeats 1000000 in
theorem neq_mk (a b : Mk) (w : World) : (binOp .neq 77 (.agg #[.bool a.inn, .int .i64 a.age, .int .i64 a.due]) (.agg #[.bool b.inn, .int .i64 b.age, .int .i64 b.due])).run Try.prog w = .ok (.bool (!sameM a b)) w := by
  have u0 := Try.underlying3
  have a0 := Try.isAgg3
  have z0 := Try.sizeOf3
  have u2 := Try.underlying4
  have a2 := Try.isAgg4
  have z2 := Try.sizeOf4
  have hS : Try.prog.underlying 77 = some (.struct (Try.prog.fieldsOf 77)) := by kernel_rfl
  have hp : Try.prog.stoodInHeld 77 = false := by kernel_rfl
  rw [run_neq_struct, show (10000 : Nat) = 9999 + 1 from rfl, run_equalIn_agg w 9999 77 _ _ hS hp]
  simp only [Program.fieldsOf, Try.underlying77]
  go_simp
  unfold sameM
  by_cases h0 : a.inn = b.inn <;> by_cases h1 : a.age = b.age <;> by_cases h2 : a.due = b.due <;> simp [h0, h1, h2]
set_option maxRecDepth 100000 in
set_option maxHeartbeats 2000000 in
theorem equal_mk (A B : Option Addr) (c d : Nat) (a b : List Mk) (w : World) (hr1 : Row w A (a.flatMap mkC)) (hr2 : Row w B (b.flatMap mkC)) (hla : a.length * 24 ≤ 140737488351232) :
    Calls Try.prog 86 #[.slice A a.length c, .slice B b.length d] w fun e w' => e = .returned (.bool (eqLB sameM a b)) ∧ Below w.heap.size w w' := by
  have hm : Try.prog.eqGuardType Try.prog.depth 77 = false := by kernel_rfl
  by_cases hle : a.length = b.length
  · have HLE := Lib.hid hle
    have hle1 : ((a.length : Int) != (b.length : Int)) = false := by rw [bne_eq_false_iff_eq]; omega
    have hle2 : a.length ≤ b.length := by omega
    have hle3 : b.length ≤ a.length := by omega
    clear hle
    go_enter Try.func86, Try.ntmps86
    go_wp2_with fail
    go_loopw [5, 13] (fun _ i wr => ∃ k : Nat, k ≤ a.length ∧ i = .int .i64 k ∧ Hid (∀ j, j < k → sameM a[j]! b[j]! = true) ∧ Below w.heap.size w wr) (fun _ i _ => a.length - (intOf i).toNat)
    case atStart => exact ⟨0, Nat.zero_le _, rfl, fun j hj => absurd hj (Nat.not_lt_zero _), Below.refl _ _⟩
    case round =>
      obtain ⟨k, hk, rfl, HR, hB⟩ := hrel
      by_cases hlt1 : k < a.length
      · have hlt2 : k < b.length := by omega
        obtain ⟨b1, off1, rfl, hb1, hc1⟩ := hr1.at_ (k := 3) (fun _ => rfl) (by omega) hlt1
        obtain ⟨b2, off2, rfl, hb2, hc2⟩ := hr2.at_ (k := 3) (fun _ => rfl) (by omega) hlt2
        have k1_0 := hc1 0 _ rfl
        rw [Nat.add_zero] at k1_0
        have k1_1 := hc1 1 _ rfl
        have k1_2 := hc1 2 _ rfl
        rw [← hB.cell (p := ⟨b1, _, none⟩) hb1] at k1_0 k1_1 k1_2
        have k2_0 := hc2 0 _ rfl
        rw [Nat.add_zero] at k2_0
        have k2_1 := hc2 1 _ rfl
        have k2_2 := hc2 2 _ rfl
        rw [← hB.cell (p := ⟨b2, _, none⟩) hb2] at k2_0 k2_1 k2_2
        have hq := fun W => neq_mk a[k]! b[k]! W
        cases hn : sameM a[k]! b[k]! with
        | true =>
          have HR' := Lib.hid (all_more HR.out hn)
          rw [hn] at hq
          clear hn HR hc1 hc2
          generalize a[k]! = x at *
          generalize b[k]! = y at *
          go_wp2_with fail
          go_quiet (fail)
          go_wp2_with fail
          go_roundw
          case rel => exact ⟨k + 1, hlt1, by go_num, HR', below_draws hB _⟩
          case measure => simp [intOf]; omega
        | false =>
          have HF := Lib.hid (eqLB_bad hlt1 hn)
          rw [hn] at hq
          clear hn HR hc1 hc2
          generalize a[k]! = x at *
          generalize b[k]! = y at *
          go_wp2_with fail
          go_quiet (fail)
          go_wp2_with fail
          go_ret
          exact ⟨ret_bool HF.out.symm, below_draws hB _⟩
      · obtain rfl : k = a.length := by omega
        have HF := Lib.hid (eqLB_all HLE.out HR.out)
        clear HR
        go_wp2_with fail
        go_ret
        exact ⟨ret_bool HF.out.symm, hB⟩
  · have HF := Lib.hid (eqLB_len (p := sameM) hle)
    have hle1 : ((a.length : Int) != (b.length : Int)) = true := by rw [bne_iff_ne]; omega
    clear hle
    go_enter Try.func86, Try.ntmps86
    go_wp2_with fail
    go_ret
    exact ⟨ret_bool HF.out.symm, Below.refl _ _⟩
theorem eqM_iff {a b : List Mk} : eqLB sameM a b = true ↔ a = b := by
  rw [eqLB_iff]
  constructor
  · rintro ⟨h1, h2⟩
    refine List.ext_getElem h1 (fun i hi hj => ?_)
    have := sameM_iff.1 (h2 i hi)
    rwa [getElem!_pos a i hi, getElem!_pos b i hj] at this
  · rintro rfl
    exact ⟨rfl, fun j _ => sameM_iff.2 rfl⟩
theorem eqM (a b : List Mk) : eqLB sameM a b = decide (a = b) := by rw [Bool.eq_iff_iff, eqM_iff, decide_eq_true_eq]
set_option maxHeartbeats 1000000 in
theorem same_any (A B : Option Addr) (c d : Nat) (a b : List Mk) (w : World) (hr1 : Row w A (a.flatMap mkC)) (hr2 : Row w B (b.flatMap mkC)) (hla : a.length * 24 ≤ 140737488351232) :
    Calls Try.prog 59 #[.slice A a.length c, .slice B b.length d] w fun e w' => e = .returned (.bool (decide (a = b))) ∧ Below w.heap.size w w' := by
  have C := Lib.hid (equal_mk A B c d a b w hr1 hr2 hla)
  rw [eqM] at C
  clear hr1 hr2
  go_enter Try.func59, Try.ntmps59
  go_wp2_with fail
  refine C.out.mono ?_
  rintro e w3 ⟨rfl, hb3⟩
  have HB3 := Lib.hid hb3
  clear hb3
  go_wp2_with fail
  go_ret
  exact ⟨rfl, HB3.out⟩
end Go.Proofs.Ytplplkchibefjaa.M5
