/-
  Contracts of package heap: Put whatever is put; Pop, Remove.
-/
import Derived.Test.YtcipgjelbnmdiaaHpM
namespace Go.Proofs.Ytcipgjelbnmdiaa.HP
open Go.RowKit Go.Shelf Go.Proofs.Ytcipgjelbnmdiaa.B Go.ChangeMaps
attribute [local go_sem] Oper.semAt_some

set_option maxRecDepth 100000 in
set_option maxHeartbeats 4000000 in
theorem put_range (w : World) (hb : Nat) (x : It) (hx : okB x = false) :
    Calls Try.prog 12 #[pt hb, itV x] w fun e w' => e = .returned (.int .i64 3) ∧ Below w.heap.size w w' := by
  have hx' : x.base < 0 ∨ (¬ x.base < 0 ∧ x.base > 9) ∨ (¬ x.base < 0 ∧ ¬ x.base > 9 ∧ x.since < 0) ∨ (¬ x.base < 0 ∧ ¬ x.base > 9 ∧ ¬ x.since < 0 ∧ x.since > 1099511627776) := by
    unfold okB at hx
    rw [decide_eq_false_iff_not] at hx
    omega
  have HB := Lib.hid ((Below.refl w.heap.size w).alloc (Nat.le_refl _) (.cells #[.int .i64 x.id, .int .i64 x.base, .int .i64 x.since] 32))
  have X := heap_new w (.cells #[.int .i64 x.id, .int .i64 x.base, .int .i64 x.since] 32)
  have x1 : (w.alloc (.cells #[.int .i64 x.id, .int .i64 x.base, .int .i64 x.since] 32)).cell? ⟨w.heap.size, 1, none⟩ = some (.int .i64 x.base) := cell_blk (i := 1) X rfl
  have x2 : (w.alloc (.cells #[.int .i64 x.id, .int .i64 x.base, .int .i64 x.since] 32)).cell? ⟨w.heap.size, 2, none⟩ = some (.int .i64 x.since) := cell_blk (i := 2) X rfl
  clear X hx
  obtain ⟨xi, xb, xs⟩ := x
  simp only at hx' HB x1 x2
  rcases hx' with h1 | ⟨h1, h2⟩ | ⟨h1, h2, h3⟩ | ⟨h1, h2, h3, h4⟩
  · go_enter Try.func12, Try.ntmps12
    go_wp2_with fail
    go_ret
    exact ⟨rfl, HB.out⟩
  · go_enter Try.func12, Try.ntmps12
    go_wp2_with fail
    go_ret
    exact ⟨rfl, HB.out⟩
  · go_enter Try.func12, Try.ntmps12
    go_wp2_with fail
    go_ret
    exact ⟨rfl, HB.out⟩
  · go_enter Try.func12, Try.ntmps12
    go_wp2_with fail
    go_ret
    exact ⟨rfl, HB.out⟩
set_option maxRecDepth 100000 in
set_option maxHeartbeats 4000000 in
theorem put_full (w : World) (hb : Nat) (A : HA) (s : Int) (L : List It) (h : HpI w hb A s L) (x : It) (hid : (Lit.int .i64 x.id).wf = true) (hx : okB x = true) (hn : hasB L x.id = true ∨ L.length = 1000) :
    Calls Try.prog 12 #[pt hb, itV x] w fun e w' => e = .returned (.int .i64 (if hasB L x.id = true then 6 else 4)) ∧ Below w.heap.size w w' := by
  unfold okB at hx
  rw [decide_eq_true_eq] at hx
  have k1 : ¬ x.base < 0 := by omega
  have k2 : ¬ x.base > 9 := by omega
  have k3 : ¬ x.since < 0 := by omega
  have k4 : ¬ x.since > 1099511627776 := by omega
  clear hx
  obtain ⟨W1, hW1⟩ : ∃ W1, W1 = w.alloc (.cells #[.int .i64 x.id, .int .i64 x.base, .int .i64 x.since] 32) := ⟨_, rfl⟩
  have hB1 : Below w.heap.size w W1 := (by rw [hW1]; exact (Below.refl _ _).alloc (Nat.le_refl _) _)
  have X : W1.heap[w.heap.size]? = some (.cells #[.int .i64 x.id, .int .i64 x.base, .int .i64 x.since] 32 (0, 0)) := (by rw [hW1]; exact heap_new w _)
  have x0 : W1.cell? ⟨w.heap.size, 0, none⟩ = some (.int .i64 x.id) := cell_blk (i := 0) X rfl
  have hx1 := blk_lt X
  have hH1 := h.keep hB1.block
  have CH := Lib.hid (has_any W1 hb _ s L hH1 x.id hid)
  obtain ⟨ia, ic, pb⟩ := A
  have d1 : W1.cell? ⟨hb, 1, none⟩ = some (.slice ia L.length ic) := cell_blk (i := 1) hH1.box rfl
  have hbl1 := hH1.lt
  have HB := Lib.hid hB1
  clear h hH1 hB1 X hid
  obtain ⟨xi, xb, xs⟩ := x
  simp only at hn x0 CH k1 k2 k3 k4 hW1 ⊢
  cases hh : hasB L xi with
  | true =>
    rw [hh] at CH
    rw [if_pos rfl]
    clear hh hn
    go_enter Try.func12, Try.ntmps12
    go_upto_region 3 with fail
    rw [← hW1]
    clear hW1
    go_wp2_with fail
    refine CH.out.mono ?_
    rintro e W1' ⟨rfl, hww⟩
    subst hww
    go_wp2_with fail
    go_ret
    exact ⟨rfl, HB.out⟩
  | false =>
    rw [hh] at CH hn
    rw [if_neg (by decide)]
    have hlen : ((L.length : Int) == 1000) = true := (by rw [beq_iff_eq]; rcases hn with hn | hn; · cases hn
                                                         · omega)
    clear hh hn
    go_enter Try.func12, Try.ntmps12
    go_upto_region 3 with fail
    rw [← hW1]
    clear hW1
    go_wp2_with fail
    refine CH.out.mono ?_
    rintro e W1' ⟨rfl, hww⟩
    subst hww
    go_wp2_with fail
    go_ret
    exact ⟨rfl, HB.out⟩
theorem put_any (F : FW) (w : World) (hb : Nat) (A : HA) (s : Int) (L : List It) (h : HW F w hb A s L) (hO : HO s L) (x : It) (hid : (Lit.int .i64 x.id).wf = true) :
    Calls Try.prog 12 #[pt hb, itV x] w fun e w' => e = .returned (.int .i64 (putE L x)) ∧ ∃ A' L', L'.Perm (if putE L x = 0 then L ++ [x] else L) ∧ HO s L' ∧ HW F w' hb A' s L' := by
  cases hx : okB x with
  | false =>
    have e0 : putE L x = 3 := by unfold putE; rw [if_pos hx]
    rw [e0, if_neg (by decide)]
    exact (put_range w hb x hx).mono fun e w' hq => ⟨hq.1, A, L, List.Perm.refl _, hO, h.call hq.2⟩
  | true =>
    by_cases hn : hasB L x.id = true ∨ L.length = 1000
    · have e0 : putE L x = if hasB L x.id = true then 6 else 4 := by
        unfold putE
        rw [if_neg (by rw [hx]; simp)]
        by_cases hh : hasB L x.id = true
        · rw [if_pos hh, if_pos hh]
        · rw [if_neg hh, if_neg hh, if_pos (hn.resolve_left hh)]
      have e1 : ¬ putE L x = 0 := by rw [e0]; split <;> decide
      rw [if_neg e1, e0]
      exact (put_full w hb A s L h.h x hid hx hn).mono fun e w' hq => ⟨hq.1, A, L, List.Perm.refl _, hO, h.call hq.2⟩
    · have hn1 : hasB L x.id = false := by cases hh : hasB L x.id with
        | false => rfl
        | true => exact absurd (.inl hh) hn
      have hn2 : ¬ L.length = 1000 := fun e => hn (.inr e)
      have e0 : putE L x = 0 := by
        unfold putE
        rw [if_neg (by rw [hx]; simp), if_neg (by rw [hn1]; simp), if_neg hn2]
      rw [e0, if_pos rfl]
      have hok : OkI x := by
        unfold okB at hx
        rw [decide_eq_true_eq] at hx
        exact ⟨hid, ⟨hx.1, hx.2.1⟩, ⟨hx.2.2.1, hx.2.2.2⟩⟩
      have := h.h.few
      exact put_ok F w hb A s L h hO x hok hn1 (by omega)
end Go.Proofs.Ytcipgjelbnmdiaa.HP
