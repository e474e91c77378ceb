/-
  Contracts of layer 4's own (ties as the document has them), and of the document's Same of ties.
-/
import Derived.Test.YtplplkchibefjaaFlBk
import Derived.Laws.StructEq
namespace Go.Proofs.Ytplplkchibefjaa.F4
open Go.RowKit Go.Shelf Go.Proofs.Ytplplkchibefjaa.B

theorem info_rti4 : (Try.prog.info? 101).map (fun i => (i.zero, i.size, i.bytes)) = some (some (.agg #[.int .i64 0, .int .i64 0, .int .i64 0, .int .i64 0]), 4, 32) := by kernel_rfl
theorem one_ti4 (x : Ti) : ∀ u ∈ tiC x, u.oneCell' = true := by intro u hu; simp [tiC] at hu; rcases hu with rfl | rfl | rfl | rfl <;> rfl
theorem own_empty4 {w : World} {b B z : Nat} {T : TypeId} (h : w.heap[b]? = some (.cells #[] T (0, 0))) (hB : B ≤ b) : w.ownsRow B T z (.slice (some ⟨b, 0, none⟩) 0 0) 0 [] :=
  ⟨by simp, .inr ⟨b, 0, #[], rfl, hB, h, by simp, by unfold maxLen; omega, by simp, by simp⟩⟩
set_option maxRecDepth 100000 in
set_option maxHeartbeats 4000000 in
theorem own4_any (w : World) (A : Option Addr) (c : Nat) (ts : List Ti) (hr : Row w A (ts.flatMap tiC)) (hl : ts.length * 32 ≤ 140737488351232) :
    Calls Try.prog 21 #[.slice A ts.length c] w fun e w' => ∃ v, e = .returned v ∧ w'.ownsRow w.heap.size 101 4 v ts.length (ts.flatMap tiC) ∧ Below w.heap.size w w' := by
  obtain ⟨i0, hi, hz0, hz1, hz2⟩ := info_parts info_rti4
  have HI := Lib.hid hi
  have HZ0 := Lib.hid hz0
  have HZ1 := Lib.hid hz1
  have HZ2 := Lib.hid hz2
  have HR := Lib.hid hr
  have B0 := Lib.hid ((Below.refl w.heap.size w).alloc (Nat.le_refl _) (.cells #[] 101))
  have V0 : Hid ((w.alloc (.cells #[] 101)).ownsRow w.heap.size 101 4 (.slice (some ⟨w.heap.size, 0, none⟩) 0 0) 0 ((ts.take 0).flatMap tiC)) := Lib.hid (own_empty4 (heap_new _ _) (Nat.le_refl _))
  clear hr hi hz0 hz1 hz2
  go_enter Try.func21, Try.ntmps21
  go_wp2_with fail
  go_loopw [3, 8] (fun v i wr => ∃ k : Nat, k ≤ ts.length ∧ i = .int .i64 k ∧ Hid (wr.ownsRow w.heap.size 101 4 v k ((ts.take k).flatMap tiC)) ∧ Hid (Below w.heap.size w wr)) (fun _ i _ => ts.length - (intOf i).toNat)
  case atStart => exact ⟨0, Nat.zero_le _, rfl, V0, B0⟩
  case round =>
    clear V0 B0
    obtain ⟨k, hk, rfl, HV, HB⟩ := hrel
    by_cases hlt : k < ts.length
    · obtain ⟨b, off, rfl, hb, hc⟩ := HR.out.at_ (k := 4) (fun _ => rfl) (by omega) hlt
      have k0 := hc 0 _ rfl
      have k1 := hc 1 _ rfl
      have k2 := hc 2 _ rfl
      have k3 := hc 3 _ rfl
      rw [Nat.add_zero] at k0
      rw [← HB.out.cell (p := ⟨b, _, none⟩) hb] at k0 k1 k2 k3
      have hz := HB.out.size
      have hbz : b < wr.heap.size := by omega
      have hk0 : (0 : Int) ≤ (k : Int) := Int.natCast_nonneg _
      have hk1 : (k : Int) < (ts.length : Int) := by omega
      obtain ⟨va, vc, rfl⟩ := own_slice HV.out
      have HN := Lib.hid (take_next hlt)
      generalize ts[k]! = x at *
      have HX3 := Lib.hid (HB.out.alloc hz (.cells #[.int .i64 x.kind, .int .i64 x.fr, .int .i64 x.to, .int .i64 x.time] 101))
      have HV3 := Lib.hid (HV.out.alloc (.cells #[.int .i64 x.kind, .int .i64 x.fr, .int .i64 x.to, .int .i64 x.time] 101))
      have HN3 := Lib.hid (heap_new wr (.cells #[.int .i64 x.kind, .int .i64 x.fr, .int .i64 x.to, .int .i64 x.time] 101))
      clear hc HV HB
      go_wp2_with (at_builtin; refine wpList_append_own _ rfl (.tmp 11) (.tmp 16) 36 rfl w.heap.size 101 i0 _ 4 32 Try.underlying36 HI.out HZ0.out HZ1.out HZ2.out rfl (by omega) _ _ _ rfl HV3.out ⟨wr.heap.size, 0, none⟩ 1 1 (tiC x) rfl rfl ?c1 ?c2 ?c3 ?c4 ?c5 ?_)
      case c1 =>
        intro j u hj
        match j, hj with
        | 0, hj => cases hj; exact cell_blk HN3.out rfl
        | 1, hj => cases hj; exact cell_blk HN3.out rfl
        | 2, hj => cases hj; exact cell_blk HN3.out rfl
        | 3, hj => cases hj; exact cell_blk HN3.out rfl
      case c2 => exact one_ti4 _
      case c3 => unfold maxLen; omega
      case c4 => omega
      case c5 => have := HX3.out.size; exact this
      intro v' w4 hown' hgrow _
      have HB4 : Hid (Below w.heap.size w w4) := Lib.hid (HX3.out.grown hgrow HX3.out.size (fun j hj => (HV3.out.lt j hj).1))
      have HV4 : Hid (w4.ownsRow w.heap.size 101 4 v' (k + 1) ((ts.take (k + 1)).flatMap tiC)) := Lib.hid (by
        rw [HN.out, List.flatMap_append]
        have e8 : List.flatMap tiC [x] = tiC x := by simp
        rw [e8]; exact hown')
      clear hown' hgrow HX3 HV3 HN3 HN
      go_wp2_with fail
      go_roundw
      case rel => exact ⟨k + 1, hlt, by go_num, HV4, HB4⟩
      case measure => simp [intOf]; omega
    · obtain rfl : k = ts.length := by omega
      rw [List.take_length] at HV
      go_wp2_with fail
      go_ret
      exact ⟨_, rfl, HV.out, HB.out⟩
set_option maxHeartbeats 1000000 in
theorem neq_rti (x : Ti) (w : World) : (binOp .neq 101 (.agg #[.int .i64 x.kind, .int .i64 x.fr, .int .i64 x.to, .int .i64 x.time]) (.agg #[.int .i64 x.kind, .int .i64 x.fr, .int .i64 x.to, .int .i64 x.time])).run Try.prog w = .ok (.bool false) w := by
  have u0 := Try.underlying3
  have a0 := Try.isAgg3
  have z0 := Try.sizeOf3
  have hS : Try.prog.underlying 101 = some (.struct (Try.prog.fieldsOf 101)) := by kernel_rfl
  have hp : Try.prog.stoodInHeld 101 = false := by kernel_rfl
  rw [run_neq_struct, show (10000 : Nat) = 9999 + 1 from rfl, run_equalIn_agg w 9999 101 _ _ hS hp]
  simp only [Program.fieldsOf, Try.underlying101]
  go_simp
set_option maxRecDepth 100000 in
set_option maxHeartbeats 2000000 in
theorem same4_self (A B : Option Addr) (c d : Nat) (a : List Ti) (w : World) (hr1 : Row w A (a.flatMap tiC)) (hr2 : Row w B (a.flatMap tiC)) (hla : a.length * 32 ≤ 140737488351232) :
    Calls Try.prog 20 #[.slice A a.length c, .slice B a.length d] w fun e w' => e = .returned (.bool true) ∧ Below w.heap.size w w' := by
  have hle1 : ((a.length : Int) != (a.length : Int)) = false := by rw [bne_eq_false_iff_eq]
  have H1 := Lib.hid hr1
  have H2 := Lib.hid hr2
  clear hr1 hr2
  go_enter Try.func20, Try.ntmps20
  go_wp2_with fail
  go_loopw [5] (fun i wr => ∃ k : Nat, k ≤ a.length ∧ i = .int .i64 k ∧ Hid (Below w.heap.size w wr)) (fun i _ => a.length - (intOf i).toNat)
  case atStart => exact ⟨0, Nat.zero_le _, rfl, Lib.hid (Below.refl _ _)⟩
  case round =>
    obtain ⟨k, hk, rfl, hB⟩ := hrel
    by_cases hlt : k < a.length
    · obtain ⟨b1, off1, rfl, hb1, hc1⟩ := H1.out.at_ (k := 4) (fun _ => rfl) (by omega) hlt
      obtain ⟨b2, off2, rfl, hb2, hc2⟩ := H2.out.at_ (k := 4) (fun _ => rfl) (by omega) hlt
      have k1_0 := hc1 0 _ rfl
      rw [Nat.add_zero] at k1_0
      have k1_1 := hc1 1 _ rfl
      have k1_2 := hc1 2 _ rfl
      have k1_3 := hc1 3 _ rfl
      rw [← hB.out.cell (p := ⟨b1, _, none⟩) hb1] at k1_0 k1_1 k1_2 k1_3
      have k2_0 := hc2 0 _ rfl
      rw [Nat.add_zero] at k2_0
      have k2_1 := hc2 1 _ rfl
      have k2_2 := hc2 2 _ rfl
      have k2_3 := hc2 3 _ rfl
      rw [← hB.out.cell (p := ⟨b2, _, none⟩) hb2] at k2_0 k2_1 k2_2 k2_3
      have hk0 : (0 : Int) ≤ (k : Int) := Int.natCast_nonneg _
      have hk1 : (k : Int) < (a.length : Int) := by omega
      have hq := fun W => neq_rti a[k]! W
      clear hc1 hc2
      generalize a[k]! = x at *
      go_wp2_with fail
      go_quiet (fail)
      go_wp2_with fail
      go_roundw
      case rel => exact ⟨k + 1, hlt, by go_num, Lib.hid (below_draws hB.out _)⟩
      case measure => simp [intOf]; omega
    · obtain rfl : k = a.length := by omega
      go_wp2_with fail
      go_ret
      exact ⟨rfl, hB.out⟩
end Go.Proofs.Ytplplkchibefjaa.F4
