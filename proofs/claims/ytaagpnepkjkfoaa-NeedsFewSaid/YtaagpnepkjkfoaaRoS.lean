/-
  Contracts of the document's Same and All, and of the laws' large.
-/
import Derived.Test.YtaagpnepkjkfoaaRoB
import Derived.Test.YtaagpnepkjkfoaaRoC
import Derived.Test.YtaagpnepkjkfoaaRiZ
import Derived.BigQuiet
import Derived.Deep.DeepCutAuto
import Derived.Test.YtaagpnepkjkfoaaRgc
namespace Go.Proofs.Ytaagpnepkjkfoaa.R6
open Go.RowKit Go.Shelf Go.Proofs.Ytaagpnepkjkfoaa.B

def eqI (x y : Int) : Bool := x == y
theorem eqI_iff {a b : List Int} : eqLB eqI a b = true ↔ a = b := by
  rw [eqLB_iff]
  constructor
  · rintro ⟨h1, h2⟩
    refine List.ext_getElem h1 (fun i hi hj => ?_)
    have := h2 i hi
    rw [getElem!_pos a i hi, getElem!_pos b i hj] at this
    simpa [eqI] using this
  · rintro rfl
    exact ⟨rfl, fun j _ => by simp [eqI]⟩
theorem eqI_is (a b : List Int) : eqLB eqI a b = decide (a = b) := by rw [Bool.eq_iff_iff, eqI_iff, decide_eq_true_eq]
set_option maxHeartbeats 2000000 in
theorem rsame_any (A B : Option Addr) (c d : Nat) (a b : List Int) (w : World) (hr1 : Row w A (a.map (Value.int .i64))) (hr2 : Row w B (b.map (Value.int .i64))) (hla : a.length ≤ 1000000) :
    Calls Try.prog 17 #[.slice A a.length c, .slice B b.length d] w fun e w' => e = .returned (.bool (decide (a = b))) ∧ Below w.heap.size w w' := by
  rw [← eqI_is]
  by_cases hle : a.length = b.length
  · have HLE := Lib.hid hle
    have hle1 : ((a.length : Int) != (b.length : Int)) = false := by rw [bne_eq_false_iff_eq]; omega
    have hle2 : a.length ≤ b.length := by omega
    have hle3 : b.length ≤ a.length := by omega
    clear hle
    go_enter Try.func17, Try.ntmps17
    go_wp2_with fail
    go_loopw [5] (fun i wr => ∃ k : Nat, k ≤ a.length ∧ i = .int .i64 k ∧ Hid (∀ j, j < k → eqI a[j]! b[j]! = true) ∧ Below w.heap.size w wr) (fun i _ => a.length - (intOf i).toNat)
    case atStart => exact ⟨0, Nat.zero_le _, rfl, fun j hj => absurd hj (Nat.not_lt_zero _), Below.refl _ _⟩
    case round =>
      obtain ⟨k, hk, rfl, HR, hB⟩ := hrel
      by_cases hlt1 : k < a.length
      · have hlt2 : k < b.length := by omega
        obtain ⟨b1, off1, rfl, hb1, hc1⟩ := row_at hr1 hlt1
        obtain ⟨b2, off2, rfl, hb2, hc2⟩ := row_at hr2 hlt2
        rw [← hB.cell (p := ⟨b1, _, none⟩) hb1] at hc1
        rw [← hB.cell (p := ⟨b2, _, none⟩) hb2] at hc2
        have hk0 : (0 : Int) ≤ (k : Int) := Int.natCast_nonneg _
        have hk1 : (k : Int) < (a.length : Int) := by omega
        have hk2 : (k : Int) < (b.length : Int) := by omega
        cases hn : eqI a[k]! b[k]! with
        | true =>
          have HR' := Lib.hid (all_more HR.out hn)
          have hq : (a[k]! != b[k]!) = false := by rw [eqI] at hn; rw [bne, hn]; rfl
          clear hn HR
          generalize a[k]! = x at *
          generalize b[k]! = y at *
          go_wp2_with fail
          go_quiet (fail)
          go_wp2_with fail
          go_roundw
          case rel => exact ⟨k + 1, hlt1, by go_num, HR', below_draws hB _⟩
          case measure => simp [intOf]; omega
        | false =>
          have HF := Lib.hid (eqLB_bad hlt1 hn)
          have hq : (a[k]! != b[k]!) = true := by rw [eqI] at hn; rw [bne, hn]; rfl
          clear hn HR
          generalize a[k]! = x at *
          generalize b[k]! = y at *
          go_wp2_with fail
          go_quiet (fail)
          go_wp2_with fail
          go_ret
          exact ⟨ret_bool HF.out.symm, below_draws hB _⟩
      · obtain rfl : k = a.length := by omega
        have HF := Lib.hid (eqLB_all HLE.out HR.out)
        clear HR
        go_wp2_with fail
        go_ret
        exact ⟨ret_bool HF.out.symm, hB⟩
  · have HF := Lib.hid (eqLB_len (p := eqI) hle)
    have hle1 : ((a.length : Int) != (b.length : Int)) = true := by rw [bne_iff_ne]; omega
    clear hle
    go_enter Try.func17, Try.ntmps17
    go_wp2_with fail
    go_ret
    exact ⟨ret_bool HF.out.symm, Below.refl _ _⟩
/-- Are two points' ways the same? -/
def eqR (r s : RW) : Bool := decide (r.l = s.l)
theorem eqR_is (a b : List RW) : eqLB eqR a b = decide (netOf a = netOf b) := by
  rw [Bool.eq_iff_iff, eqLB_iff, decide_eq_true_eq]
  constructor
  · rintro ⟨h1, h2⟩
    refine list_ext (by rw [net_len, net_len]; exact h1) (fun i hi => ?_)
    rw [net_len] at hi
    rw [net_at, net_at]
    exact of_decide_eq_true (h2 i hi)
  · intro h
    have hl : a.length = b.length := by rw [← net_len a, ← net_len b, h]
    exact ⟨hl, fun j _ => decide_eq_true (by rw [← net_at, ← net_at, h])⟩
set_option maxHeartbeats 2000000 in
theorem rall_any (A B : Option Addr) (c d : Nat) (a b : List RW) (w : World) (hr1 : NetIn w A a) (hr2 : NetIn w B b) (hla : a.length ≤ 1000000) (hlr : ∀ r ∈ a, r.l.length ≤ 1000000) :
    Calls Try.prog 14 #[.slice A a.length c, .slice B b.length d] w fun e w' => e = .returned (.bool (decide (netOf a = netOf b))) ∧ Below w.heap.size w w' := by
  rw [← eqR_is]
  by_cases hle : a.length = b.length
  · have HLE := Lib.hid hle
    have hle1 : ((a.length : Int) != (b.length : Int)) = false := by rw [bne_eq_false_iff_eq]; omega
    have hle2 : a.length ≤ b.length := by omega
    have hle3 : b.length ≤ a.length := by omega
    clear hle
    have HN1 := Lib.hid hr1
    have HN2 := Lib.hid hr2
    have HLR := Lib.hid hlr
    clear hr1 hr2 hlr
    go_enter Try.func14, Try.ntmps14
    go_wp2_with fail
    go_loopw [5] (fun i wr => ∃ k : Nat, k ≤ a.length ∧ i = .int .i64 k ∧ Hid (∀ j, j < k → eqR a[j]! b[j]! = true) ∧ Below w.heap.size w wr) (fun i _ => a.length - (intOf i).toNat)
    case atStart => exact ⟨0, Nat.zero_le _, rfl, fun j hj => absurd hj (Nat.not_lt_zero _), Below.refl _ _⟩
    case round =>
      obtain ⟨k, hk, rfl, HR, hB⟩ := hrel
      by_cases hlt1 : k < a.length
      · have hlt2 : k < b.length := by omega
        obtain ⟨b1, off1, rfl, hb1, hc1⟩ := HN1.out.at_ hlt1
        obtain ⟨b2, off2, rfl, hb2, hc2⟩ := HN2.out.at_ hlt2
        have hk0 : (0 : Int) ≤ (k : Int) := Int.natCast_nonneg _
        have hk1 : (k : Int) < (a.length : Int) := by omega
        have hk2 : (k : Int) < (b.length : Int) := by omega
        have hm1 := Go.Proofs.Ytaagpnepkjkfoaa.B.mem_at hlt1
        have hm2 := Go.Proofs.Ytaagpnepkjkfoaa.B.mem_at hlt2
        have hd : Below w.heap.size w wr.drew := below_draws hB 1
        have EN := class_call (CC := Below w.heap.size w) (fun _ _ h hb => h.trans (hb.mono h.size)) (fun W h => rsame_any a[k]!.a b[k]!.a a[k]!.c b[k]!.c a[k]!.l b[k]!.l W ((HN1.out.row _ hm1).below (Nat.le_refl _) h) ((HN2.out.row _ hm2).below (Nat.le_refl _) h) (HLR.out _ hm1))
        have f1 : ∀ x : WIn (Below w.heap.size w), x.w.cell? ⟨b1, off1 + k, none⟩ = _ := fun x => (x.h.cell (p := ⟨b1, _, none⟩) hb1).trans hc1
        have f2 : ∀ x : WIn (Below w.heap.size w), x.w.cell? ⟨b2, off2 + k, none⟩ = _ := fun x => (x.h.cell (p := ⟨b2, _, none⟩) hb2).trans hc2
        haveI : Nonempty (WIn (Below w.heap.size w)) := ⟨⟨_, hd⟩⟩
        clear hm1 hm2 hc1 hc2
        cases hn : eqR a[k]! b[k]! with
        | true =>
          have HR' := Lib.hid (all_more HR.out hn)
          have hq : decide (a[k]!.l = b[k]!.l) = true := hn
          rw [hq] at EN
          clear hn HR hq
          generalize a[k]! = x at *
          generalize b[k]! = y at *
          go_wp2_with fail
          go_cut [26] (fun s wc => s = .bool false ∧ Below w.heap.size w wc)
          case first =>
            refine wp_region_class (Below w.heap.size w) (by kernel_rfl) (by kernel_rfl) hd ?_
            repeat (go_big_quiet_step (exact EN _))
            refine wpQuiet_nil ?_
            rintro _ ⟨⟨wq, hwq⟩, rfl⟩
            go_wp2_with fail
            go_meet
            exact ⟨rfl, hwq⟩
          case rest =>
            obtain ⟨rfl, hwq⟩ := hcut
            go_wp2_with fail
            go_roundw
            case rel => exact ⟨k + 1, hlt1, by go_num, HR', hwq⟩
            case measure => simp [intOf]; omega
        | false =>
          have HF := Lib.hid (eqLB_bad hlt1 hn)
          have hq : decide (a[k]!.l = b[k]!.l) = false := hn
          rw [hq] at EN
          clear hn HR hq
          generalize a[k]! = x at *
          generalize b[k]! = y at *
          go_wp2_with fail
          go_cut [26] (fun s wc => s = .bool true ∧ Below w.heap.size w wc)
          case first =>
            refine wp_region_class (Below w.heap.size w) (by kernel_rfl) (by kernel_rfl) hd ?_
            repeat (go_big_quiet_step (exact EN _))
            refine wpQuiet_nil ?_
            rintro _ ⟨⟨wq, hwq⟩, rfl⟩
            go_wp2_with fail
            go_meet
            exact ⟨rfl, hwq⟩
          case rest =>
            obtain ⟨rfl, hwq⟩ := hcut
            go_wp2_with fail
            go_ret
            exact ⟨ret_bool HF.out.symm, hwq⟩
      · obtain rfl : k = a.length := by omega
        have HF := Lib.hid (eqLB_all HLE.out HR.out)
        clear HR
        go_wp2_with fail
        go_ret
        exact ⟨ret_bool HF.out.symm, hB⟩
  · have HF := Lib.hid (eqLB_len (p := eqR) hle)
    have hle1 : ((a.length : Int) != (b.length : Int)) = true := by rw [bne_iff_ne]; omega
    clear hle
    go_enter Try.func14, Try.ntmps14
    go_wp2_with fail
    go_ret
    exact ⟨ret_bool HF.out.symm, Below.refl _ _⟩
end Go.Proofs.Ytaagpnepkjkfoaa.R6
