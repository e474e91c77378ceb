/-
  Contracts of the document's own functions of layer 5: Fits, two, Same.
-/
import Derived.Test.YtplplkchibefjaaMkR
import Derived.Test.YtplplkchibefjaaMkJ
namespace Go.Proofs.Ytplplkchibefjaa.M5
open Go.RowKit Go.Shelf Go.Proofs.Ytplplkchibefjaa.B

/-- A box that a call has made first. -/
structure BX (T : TypeId) (w : World) (fl : Array Value) (W : World) : Prop where
  b : Below w.heap.size w W
  f : W.heap[w.heap.size]? = some (.cells fl T (0, 0))
section
variable {T : TypeId} {w W W' : World} {fl : Array Value}
theorem BX.lt (h : BX T w fl W) : w.heap.size < W.heap.size := blk_lt h.f
theorem BX.call (h : BX T w fl W) (hb : Below W.heap.size W W') : BX T w fl W' := ⟨h.b.trans (hb.mono (Nat.le_of_lt h.lt)), (hb.block _ h.lt).trans h.f⟩
theorem BX.alloc (h : BX T w fl W) (o : Obj) : BX T w fl (W.alloc o) := h.call ((Below.refl _ _).alloc (Nat.le_refl _) _)
theorem BX.start (T : TypeId) (w : World) (fl : Array Value) : BX T w fl (w.alloc (.cells fl T)) := ⟨(Below.refl _ _).alloc (Nat.le_refl _) _, heap_new _ _⟩
theorem BX.cells {EA TA : Option Addr} {en ec tn tc : Nat} (h : BX T w #[.slice EA en ec, .slice TA tn tc] W) : W.cell? ⟨w.heap.size, 0, none⟩ = some (.slice EA en ec) ∧ W.cell? ⟨w.heap.size, 1, none⟩ = some (.slice TA tn tc) := ⟨cell_blk h.f rfl, cell_blk h.f rfl⟩
end
theorem fitsB_at {n : Nat} {l : List Mk} {k : Nat} (hk : k < l.length) (h : beyB l[k]! = true) : fitsB n l = false := by
  unfold fitsB; rw [any_hit hk h]; simp
theorem fitsB_end {n : Nat} {l : List Mk} (h : ∀ j, j < l.length → beyB l[j]! = false) : fitsB n l = decide (l.length = n) := by
  unfold fitsB; rw [any_miss h]; simp
set_option maxRecDepth 100000 in
set_option maxHeartbeats 2000000 in
theorem rfits_any (w : World) (EA TA A : Option Addr) (en ec tn tc c : Nat) (l : List Mk) (hr : Row w A (l.flatMap mkC)) (hl : l.length * 24 ≤ 140737488351232) :
    Calls Try.prog 33 #[.agg #[.slice EA en ec, .slice TA tn tc], .slice A l.length c] w fun e w' => e = .returned (.bool (fitsB en l)) ∧ Below w.heap.size w w' := by
  have B0 := Lib.hid (BX.start 38 w #[.slice EA en ec, .slice TA tn tc])
  have HR := Lib.hid hr
  clear hr
  go_enter Try.func33, Try.ntmps33
  go_wp2_with fail
  go_loopw [5] (fun i wr => ∃ k : Nat, k ≤ l.length ∧ i = .int .i64 k ∧ Hid (∀ j, j < k → beyB l[j]! = false) ∧ Hid (BX 38 w #[.slice EA en ec, .slice TA tn tc] wr)) (fun i _ => l.length - (intOf i).toNat)
  case atStart => exact ⟨0, Nat.zero_le _, rfl, Lib.hid (fun j hj => absurd hj (Nat.not_lt_zero _)), B0⟩
  case round =>
    clear B0
    obtain ⟨k, hk, rfl, HP, HB⟩ := hrel
    by_cases hlt : k < l.length
    · obtain ⟨b, off, rfl, hb, hc⟩ := HR.out.at_ (k := 3) (fun _ => rfl) (by omega) hlt
      have k0 := hc 0 _ rfl
      have k1 := hc 1 _ rfl
      have k2 := hc 2 _ rfl
      rw [Nat.add_zero] at k0
      rw [← HB.out.b.cell (p := ⟨b, _, none⟩) hb] at k0 k1 k2
      have hz := HB.out.lt
      have hbz : b < wr.heap.size := by omega
      cases hy : beyB l[k]! with
      | true =>
        have HF := Lib.hid (fitsB_at (n := en) hlt hy)
        generalize l[k]! = x at *
        obtain ⟨xi, xa, xd⟩ := x
        simp only at k0 k1 k2
        have hy2 : xa < -1 ∨ 65536 < xa ∨ xd < -1 ∨ 1048576 < xd := by
          unfold beyB at hy; simp only [Bool.or_eq_true, decide_eq_true_eq] at hy; omega
        clear hc hy HP
        rcases Classical.em (xa < -1) with g1 | g1
        · go_wp2_with fail
          go_ret
          exact ⟨ret_bool HF.out.symm, HB.out.b⟩
        · rcases Classical.em (65536 < xa) with g2 | g2
          · go_wp2_with fail
            go_ret
            exact ⟨ret_bool HF.out.symm, HB.out.b⟩
          · rcases Classical.em (xd < -1) with g3 | g3
            · go_wp2_with fail
              go_ret
              exact ⟨ret_bool HF.out.symm, HB.out.b⟩
            · have g4 : 1048576 < xd := by omega
              clear hy2
              go_wp2_with fail
              go_ret
              exact ⟨ret_bool HF.out.symm, HB.out.b⟩
      | false =>
        have HP3 := Lib.hid (all_step HP.out hy)
        obtain ⟨g1, g2, g3, g4⟩ := bey_iff.1 hy
        generalize l[k]! = x at *
        obtain ⟨xi, xa, xd⟩ := x
        simp only at k0 k1 k2 g1 g2 g3 g4
        clear hc hy HP
        go_wp2_with fail
        go_roundw
        case rel => exact ⟨k + 1, hlt, by go_num, HP3, HB⟩
        case measure => simp [intOf]; omega
    · obtain rfl : k = l.length := by omega
      have HF := Lib.hid (fitsB_end (n := en) HP.out)
      obtain ⟨c0, c1⟩ := HB.out.cells
      have ll := HB.out.lt
      clear HP
      by_cases he : l.length = en
      · have e1 : ((l.length : Int) == (en : Int)) = true := by rw [beq_iff_eq]; omega
        rw [decide_eq_true he] at HF
        clear he
        go_wp2_with fail
        go_ret
        exact ⟨ret_bool HF.out.symm, HB.out.b⟩
      · have e1 : ((l.length : Int) == (en : Int)) = false := by rw [beq_eq_false_iff_ne]; omega
        rw [decide_eq_false he] at HF
        clear he
        go_wp2_with fail
        go_ret
        exact ⟨ret_bool HF.out.symm, HB.out.b⟩
def twoB (n : Nat) (t : Ti) : Bool := hasI n t.fr && hasI n t.to
set_option maxHeartbeats 1000000 in
theorem two_any (EA TA : Option Addr) (en ec tn tc : Nat) (t : Ti) (w : World) :
    Calls Try.prog 62 #[.agg #[.slice EA en ec, .slice TA tn tc], .agg #[.int .i64 t.kind, .int .i64 t.fr, .int .i64 t.to, .int .i64 t.time]] w fun e w' => e = .returned (.bool (twoB en t)) ∧ Below w.heap.size w w' := by
  have hb : Below w.heap.size w ((w.alloc (.cells #[.slice EA en ec, .slice TA tn tc] 38)).alloc (.cells #[.int .i64 t.kind, .int .i64 t.fr, .int .i64 t.to, .int .i64 t.time] 101)) := ((Below.refl _ _).alloc (Nat.le_refl _) _).alloc (by rw [World.size_alloc]; omega) _
  go_enter Try.func62, Try.ntmps62
  go_wp2
  all_goals go_ret
  all_goals exact ⟨ret_bool (by rw [Bool.eq_iff_iff]; simp [twoB, hasI]; try omega), hb⟩
set_option maxRecDepth 100000 in
set_option maxHeartbeats 2000000 in
theorem rsame_any (A B : Option Addr) (c d : Nat) (a b : List Mk) (w : World) (hr1 : Row w A (a.flatMap mkC)) (hr2 : Row w B (b.flatMap mkC)) (hla : a.length * 24 ≤ 140737488351232) :
    Calls Try.prog 38 #[.slice A a.length c, .slice B b.length d] w fun e w' => e = .returned (.bool (decide (a = b))) ∧ Below w.heap.size w w' := by
  rw [← eqM]
  by_cases hle : a.length = b.length
  · have HLE := Lib.hid hle
    have hle1 : ((a.length : Int) != (b.length : Int)) = false := by rw [bne_eq_false_iff_eq]; omega
    have hle2 : a.length ≤ b.length := by omega
    have hle3 : b.length ≤ a.length := by omega
    clear hle
    go_enter Try.func38, Try.ntmps38
    go_wp2_with fail
    go_loopw [5] (fun i wr => ∃ k : Nat, k ≤ a.length ∧ i = .int .i64 k ∧ Hid (∀ j, j < k → sameM a[j]! b[j]! = true) ∧ Below w.heap.size w wr) (fun i _ => a.length - (intOf i).toNat)
    case atStart => exact ⟨0, Nat.zero_le _, rfl, fun j hj => absurd hj (Nat.not_lt_zero _), Below.refl _ _⟩
    case round =>
      obtain ⟨k, hk, rfl, HR, hB⟩ := hrel
      by_cases hlt1 : k < a.length
      · have hlt2 : k < b.length := by omega
        obtain ⟨b1, off1, rfl, hb1, hc1⟩ := hr1.at_ (k := 3) (fun _ => rfl) (by omega) hlt1
        obtain ⟨b2, off2, rfl, hb2, hc2⟩ := hr2.at_ (k := 3) (fun _ => rfl) (by omega) hlt2
        have k1_0 := hc1 0 _ rfl
        rw [Nat.add_zero] at k1_0
        have k1_1 := hc1 1 _ rfl
        have k1_2 := hc1 2 _ rfl
        rw [← hB.cell (p := ⟨b1, _, none⟩) hb1] at k1_0 k1_1 k1_2
        have k2_0 := hc2 0 _ rfl
        rw [Nat.add_zero] at k2_0
        have k2_1 := hc2 1 _ rfl
        have k2_2 := hc2 2 _ rfl
        rw [← hB.cell (p := ⟨b2, _, none⟩) hb2] at k2_0 k2_1 k2_2
        have hk0 : (0 : Int) ≤ (k : Int) := Int.natCast_nonneg _
        have hk1 : (k : Int) < (a.length : Int) := by omega
        have hk2 : (k : Int) < (b.length : Int) := by omega
        have hq := fun W => neq_mk a[k]! b[k]! W
        cases hn : sameM a[k]! b[k]! with
        | true =>
          have HR' := Lib.hid (all_more HR.out hn)
          rw [hn] at hq
          clear hn HR hc1 hc2
          generalize a[k]! = x at *
          generalize b[k]! = y at *
          go_wp2_with fail
          go_quiet (fail)
          go_wp2_with fail
          go_roundw
          case rel => exact ⟨k + 1, hlt1, by go_num, HR', below_draws hB _⟩
          case measure => simp [intOf]; omega
        | false =>
          have HF := Lib.hid (eqLB_bad hlt1 hn)
          rw [hn] at hq
          clear hn HR hc1 hc2
          generalize a[k]! = x at *
          generalize b[k]! = y at *
          go_wp2_with fail
          go_quiet (fail)
          go_wp2_with fail
          go_ret
          exact ⟨ret_bool HF.out.symm, below_draws hB _⟩
      · obtain rfl : k = a.length := by omega
        have HF := Lib.hid (eqLB_all HLE.out HR.out)
        clear HR
        go_wp2_with fail
        go_ret
        exact ⟨ret_bool HF.out.symm, hB⟩
  · have HF := Lib.hid (eqLB_len (p := sameM) hle)
    have hle1 : ((a.length : Int) != (b.length : Int)) = true := by rw [bne_iff_ne]; omega
    clear hle
    go_enter Try.func38, Try.ntmps38
    go_wp2_with fail
    go_ret
    exact ⟨ret_bool HF.out.symm, Below.refl _ _⟩
end Go.Proofs.Ytplplkchibefjaa.M5
