/-
  Contracts of package heap: weight, compare, ahead.
-/
import Derived.Test.YtcipgjelbnmdiaaHpB
import Derived.Test.YtcipgjelbnmdiaaRgu
namespace Go.Proofs.Ytcipgjelbnmdiaa.HP
open Go.RowKit Go.Shelf Go.Proofs.Ytcipgjelbnmdiaa.B
attribute [local go_sem] Oper.semAt_some

theorem mixed : Try.prog.follows .mixedOrders = true := by kernel_rfl
abbrev pt (k : Nat) : Value := .pointer (some ⟨k, 0, none⟩)
abbrev itV (x : It) : Value := .agg #[.int .i64 x.id, .int .i64 x.base, .int .i64 x.since]
def cmpI (a b : Int) : Int := if a < b then -1 else if b < a then 1 else 0
set_option maxHeartbeats 400000 in
theorem nan_any (w : World) (a : Int) : Calls Try.prog 71 #[.int .i64 a] w fun e w' => e = .returned (.bool false) ∧ w = w' := by
  go_enter Try.func71, Try.ntmps71
  go_wp2_with fail
  go_ret
  exact ⟨ret_bool (by simp), rfl⟩
set_option maxHeartbeats 400000 in
theorem cmp_any (w : World) (a b : Int) : Calls Try.prog 65 #[.int .i64 a, .int .i64 b] w fun e w' => e = .returned (.int .i64 (cmpI a b)) ∧ w = w' := by
  have C1 := Lib.hid (nan_any w a)
  have C2 := Lib.hid (nan_any w b)
  rcases Int.lt_trichotomy a b with h | h | h
  · have HE : Hid (cmpI a b = -1) := Lib.hid (by unfold cmpI; rw [if_pos h])
    rw [HE.out]
    go_enter Try.func65, Try.ntmps65
    go_wp2_with fail
    refine C1.out.mono ?_
    rintro e w' ⟨rfl, hw⟩
    subst hw
    go_wp2_with fail
    refine C2.out.mono ?_
    rintro e w' ⟨rfl, hw⟩
    subst hw
    go_wp2_with fail
    go_ret
    exact ⟨rfl, rfl⟩
  · subst h
    have HE : Hid (cmpI a a = 0) := Lib.hid (by unfold cmpI; rw [if_neg (by omega), if_neg (by omega)])
    rw [HE.out]
    go_enter Try.func65, Try.ntmps65
    go_wp2_with fail
    refine C1.out.mono ?_
    rintro e w' ⟨rfl, hw⟩
    subst hw
    go_wp2_with fail
    refine C2.out.mono ?_
    rintro e w' ⟨rfl, hw⟩
    subst hw
    go_wp2_with fail
    go_ret
    exact ⟨rfl, rfl⟩
  · have HE : Hid (cmpI a b = 1) := Lib.hid (by unfold cmpI; rw [if_neg (by omega), if_pos h])
    have h2 : ¬ a < b := by omega
    rw [HE.out]
    go_enter Try.func65, Try.ntmps65
    go_wp2_with fail
    refine C1.out.mono ?_
    rintro e w' ⟨rfl, hw⟩
    subst hw
    go_wp2_with fail
    refine C2.out.mono ?_
    rintro e w' ⟨rfl, hw⟩
    subst hw
    go_wp2_with fail
    go_ret
    exact ⟨rfl, rfl⟩
set_option maxHeartbeats 400000 in
theorem or_any (w : World) (b : Nat) (x y : Int) (h0 : w.cell? ⟨b, 0, none⟩ = some (.int .i64 x)) (h1 : w.cell? ⟨b, 1, none⟩ = some (.int .i64 y)) : Calls Try.prog 64 #[.slice (some ⟨b, 0, none⟩) 2 2] w fun e w' => e = .returned (.int .i64 (if x = 0 then y else x)) ∧ w = w' := by
  have hl := World.block_lt_of_cell? _ _ h0
  by_cases hx : x = 0
  · subst hx
    by_cases hy : y = 0
    · subst hy
      go_enter Try.func64, Try.ntmps64
      go_wp2_with fail
      go_loopw [8] (fun i wr => wr = w ∧ (i = .int .i64 0 ∨ i = .int .i64 1 ∨ i = .int .i64 2)) (fun i _ => 2 - (intOf i).toNat)
      case atStart => exact ⟨rfl, .inl rfl⟩
      case round =>
        obtain ⟨hwr, hi⟩ := hrel
        subst hwr
        rcases hi with rfl | rfl | rfl
        · go_wp2_with fail
          go_roundw
          case rel => exact ⟨trivial, .inr (.inl rfl)⟩
          case measure => simp [intOf]
        · go_wp2_with fail
          go_roundw
          case rel => exact ⟨trivial, .inr (.inr rfl)⟩
          case measure => simp [intOf]
        · go_wp2_with fail
          go_ret
          exact ⟨rfl, rfl⟩
    · have hyb : (y != 0) = true := by rw [bne_iff_ne]; exact hy
      go_enter Try.func64, Try.ntmps64
      go_wp2_with fail
      go_loopw [8] (fun i wr => wr = w ∧ (i = .int .i64 0 ∨ i = .int .i64 1)) (fun i _ => 2 - (intOf i).toNat)
      case atStart => exact ⟨rfl, .inl rfl⟩
      case round =>
        obtain ⟨hwr, hi⟩ := hrel
        subst hwr
        rcases hi with rfl | rfl
        · go_wp2_with fail
          go_roundw
          case rel => exact ⟨trivial, .inr rfl⟩
          case measure => simp [intOf]
        · go_wp2_with fail
          go_ret
          exact ⟨rfl, rfl⟩
  · have hxb : (x != 0) = true := by rw [bne_iff_ne]; exact hx
    rw [if_neg hx]
    go_enter Try.func64, Try.ntmps64
    go_wp2_with fail
    go_loopw [8] (fun i wr => wr = w ∧ i = .int .i64 0) (fun i _ => 2 - (intOf i).toNat)
    case atStart => exact ⟨rfl, rfl⟩
    case round =>
      obtain ⟨hwr, rfl⟩ := hrel
      subst hwr
      go_wp2_with fail
      go_ret
      exact ⟨rfl, rfl⟩
theorem mul_small {a s : Int} (h0 : 0 ≤ a) (h9 : a ≤ 9) (h1 : 1 ≤ s) (h2 : s ≤ 1048576) : 0 ≤ a * s ∧ a * s ≤ 9437184 := by
  have h3 : a * s ≤ 9 * s := Int.mul_le_mul_of_nonneg_right h9 (by omega)
  have h4 : 0 ≤ a * s := Int.mul_nonneg h0 (by omega)
  omega
set_option maxHeartbeats 1000000 in
theorem weight_any (w : World) (hb : Nat) (s : Int) (hc : w.cell? ⟨hb, 0, none⟩ = some (.int .i64 s)) (h1 : 1 ≤ s) (h2 : s ≤ 1048576) (x : It) (hx : OkI x) (now : Int) (n0 : 0 ≤ now) (n1 : now ≤ 1099511627776) :
    Calls Try.prog 47 #[pt hb, itV x, .int .i64 now] w fun e w' => e = .returned (.int .i64 (x.base * s + now - x.since)) ∧ Below w.heap.size w w' := by
  have hl := World.block_lt_of_cell? _ _ hc
  have hm := mul_small hx.base.1 hx.base.2 h1 h2
  have hs := hx.since
  clear hx
  obtain ⟨xi, xb, xs⟩ := x
  simp only at hm hs ⊢
  have HX := heap_new w (.cells #[.int .i64 xi, .int .i64 xb, .int .i64 xs] 32)
  have hB := Lib.hid ((Below.refl w.heap.size w).alloc (Nat.le_refl _) (.cells #[.int .i64 xi, .int .i64 xb, .int .i64 xs] 32))
  have k1 := cell_blk (i := 1) HX rfl
  have k2 := cell_blk (i := 2) HX rfl
  have hc' := (World.cell?_alloc_lt w (.cells #[.int .i64 xi, .int .i64 xb, .int .i64 xs] 32) ⟨hb, 0, none⟩ hl).trans hc
  clear HX
  have w1 : wrap64 (xb * s) = xb * s := by unfold wrap64; omega
  have w2 : wrap64 (xb * s + now) = xb * s + now := by unfold wrap64; omega
  have w3 : wrap64 (xb * s + now - xs) = xb * s + now - xs := by unfold wrap64; omega
  go_enter Try.func47, Try.ntmps47
  go_wp2_with fail
  go_quiet (fail)
  go_wp2_with fail
  go_ret
  exact ⟨rfl, below_draws hB.out _⟩
end Go.Proofs.Ytcipgjelbnmdiaa.HP
