/-
  Contracts of slices.SortFunc, slices.SortedFunc at items, and of heap.List: over the contract of pdqsortCmpFunc.
-/
import Derived.Test.YtcipgjelbnmdiaaHpR
import Derived.Test.YtcipgjelbnmdiaaShelfB
import Derived.Deep.CutBlock
namespace Go.Proofs.Ytcipgjelbnmdiaa.HP
open Go.RowKit Go.Shelf Go.Proofs.Ytcipgjelbnmdiaa.B
attribute [local go_sem] Oper.semAt_some

theorem bitLenAux_le : ∀ (f x : Nat), Lib.bitLenAux f x ≤ f
  | 0, _ => Nat.le_refl _
  | f + 1, x => by
    unfold Lib.bitLenAux
    split
    · omega
    · have := bitLenAux_le f (x / 2); omega
theorem bitLen_le (x : Nat) : Lib.bitLen x ≤ 64 := bitLenAux_le 64 x
/-- What pdqsortCmpFunc owes: whatever the limit, from 0 to 64, the whole row comes in order. -/
def PdqC (w0 : World) (g c hh : Nat) (s : Int) (L : List It) : Prop :=
  ∀ (w : World) (lim : Int), 0 ≤ lim → lim ≤ 64 → SR w0 g c L w → Calls Try.prog 69 #[.slice (some ⟨g, 0, none⟩) L.length c, .int .i64 0, .int .i64 (L.length : Int), .int .i64 lim, fv hh] w fun e w' =>
    e = .returned (.tuple #[]) ∧ ∃ L', Sw 0 L.length L L' ∧ So s L' 0 L.length ∧ SR w0 g c L' w'
set_option maxRecDepth 100000 in
set_option maxHeartbeats 2000000 in
theorem pdq_small (w0 : World) (g c hh : Nat) (s : Int) (L : List It) (hok : ∀ x ∈ L, OkI x) (hc : w0.cell? ⟨hh, 0, none⟩ = some (.int .i64 s)) (hne : hh ≠ g) (h1 : 1 ≤ s) (h2 : s ≤ 1048576) (hl : L.length ≤ 12) : PdqC w0 g c hh s L := by
  intro w lim _ _ h
  have CI := Lib.hid (ins_any w0 w g c hh s L h hok hc hne h1 h2 0 L.length (Nat.zero_le _) (Nat.le_refl _) (by omega))
  clear h hok hc h1 h2
  go_enter Try.func69, Try.ntmps69
  go_wp2_with fail
  go_loopw [1, 2] (fun x1 x2 wr => wr = w ∧ x1 = .int .i64 0 ∧ x2 = .int .i64 (L.length : Int)) (fun _ _ _ => 0)
  case atStart => exact ⟨rfl, rfl, rfl⟩
  case round =>
    obtain ⟨rfl, rfl, rfl⟩ := hrel
    have hl' : (L.length : Int) ≤ 12 := by omega
    go_wp2_with fail
    refine CI.out.mono ?_
    rintro e w' ⟨rfl, L', q1, q2, q3⟩
    have HQ := Lib.hid (And.intro q1 (And.intro q2 q3))
    clear q1 q2 q3
    go_wp2_with fail
    refine bodyPost_ret (results_none rfl _ _ _) rfl ?_
    exact ⟨rfl, L', HQ.out⟩
set_option maxRecDepth 100000 in
set_option maxHeartbeats 2000000 in
theorem sortfunc_any (w0 w : World) (g c hh : Nat) (s : Int) (L : List It) (h : SR w0 g c L w) (hp : PdqC w0 g c hh s L) (hl : L.length ≤ 100000) :
    Calls Try.prog 62 #[.slice (some ⟨g, 0, none⟩) L.length c, fv hh] w fun e w' => e = .returned (.tuple #[]) ∧ ∃ L', Sw 0 L.length L L' ∧ So s L' 0 L.length ∧ SR w0 g c L' w' := by
  have CB := Lib.hid (S.bits_Len (L.length : Int) w (by omega) (by omega))
  have CP := Lib.hid (fun lim h0 h1 => hp w lim h0 h1 h)
  clear h hp
  go_enter Try.func62, Try.ntmps62
  go_wp2_with fail
  refine CB.out.mono ?_
  rintro e w' ⟨rfl, rfl⟩
  have hl0 : (0 : Int) ≤ ((Lib.bitLen ((L.length : Int).toNat) : Nat) : Int) := Int.natCast_nonneg _
  have hl64 : ((Lib.bitLen ((L.length : Int).toNat) : Nat) : Int) ≤ 64 := by have := bitLen_le ((L.length : Int).toNat); omega
  generalize ((Lib.bitLen ((L.length : Int).toNat) : Nat) : Int) = lim at *
  have CP1 := Lib.hid (CP.out lim hl0 hl64)
  clear CP CB
  go_wp2_with fail
  refine CP1.out.mono ?_
  rintro e w' ⟨rfl, L', q1, q2, q3⟩
  have HQ := Lib.hid (And.intro q1 (And.intro q2 q3))
  clear q1 q2 q3
  go_wp2_with fail
  go_end0
  exact ⟨rfl, L', HQ.out⟩
set_option maxRecDepth 100000 in
set_option maxHeartbeats 2000000 in
/-- Of no element. -/
theorem ins_none (w : World) (A : Option Addr) (c : Nat) (f : Value) : Calls Try.prog 74 #[.slice A 0 c, .int .i64 0, .int .i64 0, f] w fun e w' => e = .returned (.tuple #[]) ∧ w = w' := by
  go_enter Try.func74, Try.ntmps74
  go_wp2_with fail
  go_loopw [8] (fun i wr => wr = w ∧ i = .int .i64 1) (fun _ _ => 0)
  case atStart => exact ⟨rfl, rfl⟩
  case round =>
    obtain ⟨rfl, rfl⟩ := hrel
    go_wp2_with fail
    go_end0
    exact ⟨rfl, rfl⟩
set_option maxRecDepth 100000 in
set_option maxHeartbeats 2000000 in
theorem sort_none (w : World) (A : Option Addr) (c : Nat) (f : Value) : Calls Try.prog 62 #[.slice A 0 c, f] w fun e w' => e = .returned (.tuple #[]) ∧ w = w' := by
  have CB := Lib.hid (S.bits_Len 0 w (by omega) (by omega))
  have CP : Hid (∀ lim : Int, Calls Try.prog 69 #[.slice A 0 c, .int .i64 0, .int .i64 0, .int .i64 lim, f] w fun e w' => e = .returned (.tuple #[]) ∧ w = w') := Lib.hid (fun lim => by
    have CI := Lib.hid (ins_none w A c f)
    clear CB
    go_enter Try.func69, Try.ntmps69
    go_wp2_with fail
    go_loopw [1, 2] (fun x1 x2 wr => wr = w ∧ x1 = .int .i64 0 ∧ x2 = .int .i64 0) (fun _ _ _ => 0)
    case atStart => exact ⟨rfl, rfl, rfl⟩
    case round =>
      obtain ⟨rfl, rfl, rfl⟩ := hrel
      go_wp2_with fail
      refine CI.out.mono ?_
      rintro e w' ⟨rfl, rfl⟩
      go_wp2_with fail
      refine bodyPost_ret (results_none rfl _ _ _) rfl ?_
      exact ⟨rfl, rfl⟩)
  go_enter Try.func62, Try.ntmps62
  go_wp2_with fail
  refine CB.out.mono ?_
  rintro e w' ⟨rfl, rfl⟩
  generalize ((Lib.bitLen (Int.toNat 0) : Nat) : Int) = lim at *
  have CP1 := Lib.hid (CP.out lim)
  clear CP CB
  go_wp2_with fail
  refine CP1.out.mono ?_
  rintro e w' ⟨rfl, rfl⟩
  go_wp2_with fail
  go_end0
  exact ⟨rfl, rfl⟩
end Go.Proofs.Ytcipgjelbnmdiaa.HP
