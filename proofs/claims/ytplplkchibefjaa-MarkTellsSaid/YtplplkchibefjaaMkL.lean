/-
  The fixed graph and markings of layer 5's awake: what each function answers of them.
-/
import Derived.Test.YtplplkchibefjaaMkI
import Derived.Test.YtplplkchibefjaaMkK
namespace Go.Proofs.Ytplplkchibefjaa.M5
open Go.RowKit Go.Shelf Go.Proofs.Ytplplkchibefjaa.B

def es0 : List Ev := [⟨⟨#[97]⟩, ⟨#[]⟩, ⟨#[]⟩, true, true, -1⟩, ⟨⟨#[98]⟩, ⟨#[]⟩, ⟨#[]⟩, true, false, -1⟩]
def ts0 : List Ti := [⟨1, 0, 1, 1⟩, ⟨2, 1, 0, 1⟩, ⟨5, 0, 1, 0⟩]
def m0 : List Mk := [⟨true, 0, -1⟩, ⟨true, -1, -1⟩]
def n0 : List Mk := [⟨true, 1, -1⟩, ⟨true, -1, -1⟩]
def k0 : List Mk := [⟨true, 1, 1⟩, ⟨true, 0, -1⟩]
def o0 : List Mk := [⟨true, 2, 0⟩, ⟨true, 1, -1⟩]
theorem v1 : es0.map startM = m0 := by kernel_rfl
theorem v2 : enabledB 2 ts0 m0 1 = false := by kernel_rfl
theorem v3 : doE 2 ts0 m0 1 = 11 := by kernel_rfl
theorem v4 : tickE 2 m0 = 0 := by kernel_rfl
theorem v4' : m0.map oldM = n0 := by kernel_rfl
theorem v5 : enabledB 2 ts0 n0 1 = true := by kernel_rfl
theorem v6 : doE 2 ts0 n0 1 = 0 := by kernel_rfl
theorem v6' : doL ts0 n0 1 = k0 := by kernel_rfl
theorem v7 : tickE 2 k0 = 0 := by kernel_rfl
theorem v7' : k0.map oldM = o0 := by kernel_rfl
theorem v8 : tickE 2 o0 = 13 := by kernel_rfl
theorem v9 : allI 2 ts0 o0 = [0] := by kernel_rfl
theorem v10 : slackI 2 o0 = 0 := by kernel_rfl
theorem v11 : slackI 2 [] = -1 := by kernel_rfl
theorem v12 : accB 2 n0 = true := by kernel_rfl
theorem v13 : accB 2 o0 = false := by kernel_rfl
theorem v14 : fitsB 2 m0 = true := by kernel_rfl
theorem v15 : fitsB 2 [] = false := by kernel_rfl
theorem v16 : decide (m0 = m0) = true := by kernel_rfl
theorem v17 : decide (m0 = n0) = false := by kernel_rfl

/-- The graph that awake has laid. -/
structure AW (w W : World) : Prop where
  b : Below w.heap.size w W
  e : W.heap[w.heap.size]? = some (.cells (es0.flatMap evC).toArray 46 (0, 0))
  t : W.heap[w.heap.size + 1]? = some (.cells (ts0.flatMap tiC).toArray 49 (0, 0))
  f : W.heap[w.heap.size + 1 + 1]? = some (.cells #[.slice (some ⟨w.heap.size, 0, none⟩) 2 2, .slice (some ⟨w.heap.size + 1, 0, none⟩) 3 3] 32 (0, 0))
theorem AW.lt {w W : World} (h : AW w W) : w.heap.size + 1 + 1 < W.heap.size := blk_lt h.f
theorem AW.call {w W W' : World} (h : AW w W) (hb : Below W.heap.size W W') : AW w W' :=
  have hl := h.lt
  ⟨h.b.trans (hb.mono (by omega)), (hb.block _ (by omega)).trans h.e, (hb.block _ (by omega)).trans h.t, (hb.block _ hl).trans h.f⟩
theorem row_blk {W : World} {b : Nat} {xs : List Value} {T : TypeId} (h : W.heap[b]? = some (.cells xs.toArray T (0, 0))) : Row W (some ⟨b, 0, none⟩) xs :=
  fun _ => ⟨b, 0, rfl, blk_lt h, fun j u hu => by rw [Nat.zero_add]; exact cell_blk h (by simpa using hu)⟩
theorem AW.es {w W : World} (h : AW w W) : Row W (some ⟨w.heap.size, 0, none⟩) (es0.flatMap evC) := row_blk h.e
theorem AW.ts {w W : World} (h : AW w W) : Row W (some ⟨w.heap.size + 1, 0, none⟩) (ts0.flatMap tiC) := row_blk h.t
theorem AW.cells {w W : World} (h : AW w W) : W.cell? ⟨w.heap.size + 1 + 1, 0, none⟩ = some (.slice (some ⟨w.heap.size, 0, none⟩) 2 2) ∧ W.cell? ⟨w.heap.size + 1 + 1, 1, none⟩ = some (.slice (some ⟨w.heap.size + 1, 0, none⟩) 3 3) := ⟨cell_blk h.f rfl, cell_blk h.f rfl⟩
/-- A marking of two events, somewhere. -/
def MR (W : World) (A : Option Addr) (l : List Mk) : Prop := l.length = 2 ∧ Row W A (l.flatMap mkC)
theorem MR.call {W W' : World} {A : Option Addr} {l : List Mk} (h : MR W A l) (hb : Below W.heap.size W W') : MR W' A l := ⟨h.1, h.2.below (Nat.le_refl _) hb⟩
def FA (w : World) : Value := .agg #[.slice (some ⟨w.heap.size, 0, none⟩) 2 2, .slice (some ⟨w.heap.size + 1, 0, none⟩) 3 3]
section
variable {w W : World} {A B : Option Addr} {c d : Nat} {l l' : List Mk}
theorem aw_start (h : AW w W) : Calls Try.prog 39 #[.agg #[.slice (some ⟨w.heap.size, 0, none⟩) 2 2, .slice (some ⟨w.heap.size + 1, 0, none⟩) 3 3]] W fun e w' => ∃ g c, e = .returned (.slice (some ⟨g, 0, none⟩) 2 c) ∧ MR w' (some ⟨g, 0, none⟩) m0 ∧ Below W.heap.size W w' ∧ (∀ j u, (m0.flatMap mkC)[j]? = some u → w'.cell? ⟨g, j, none⟩ = some u) ∧ g < w'.heap.size := by
  refine (start_any W _ _ 2 3 3 es0 h.es (by decide)).mono ?_
  rintro e w' ⟨v, rfl, ho, hb⟩
  rw [v1] at ho
  obtain ⟨g, cap, rfl, hg, hl⟩ := own_head ho (by decide)
  refine ⟨g, cap, rfl, ⟨rfl, Row.of_own ho⟩, hb, fun j u hu => ?_, hl⟩
  have := ho.cells (g := g) rfl j u hu
  rw [Addr.add_lit, Nat.zero_add] at this; exact this
theorem aw_enabled (h : AW w W) (hr : MR W A l) (i : Int) {b : Bool} (hv : enabledB 2 ts0 l i = b) : Calls Try.prog 31 #[.agg #[.slice (some ⟨w.heap.size, 0, none⟩) 2 2, .slice (some ⟨w.heap.size + 1, 0, none⟩) 3 3], .slice A 2 c, .int .i64 i] W fun e w' => e = .returned (.bool b) ∧ Below W.heap.size W w' := by
  have := enabled_any W (some ⟨w.heap.size, 0, none⟩) (some ⟨w.heap.size + 1, 0, none⟩) A 2 2 3 c ts0 l i h.ts (by decide) hr.2 (by rw [hr.1]; decide)
  rw [hr.1, hv] at this; exact this
theorem aw_fits (hr : MR W A l) {b : Bool} (hv : fitsB 2 l = b) : Calls Try.prog 32 #[.agg #[.slice (some ⟨w.heap.size, 0, none⟩) 2 2, .slice (some ⟨w.heap.size + 1, 0, none⟩) 3 3], .slice A 2 c] W fun e w' => e = .returned (.bool b) ∧ Below W.heap.size W w' := by
  have := fits_any W (some ⟨w.heap.size, 0, none⟩) (some ⟨w.heap.size + 1, 0, none⟩) A 2 2 3 3 c l hr.2 (by rw [hr.1]; decide)
  rw [hr.1, hv] at this; exact this
theorem aw_fits0 : Calls Try.prog 32 #[.agg #[.slice (some ⟨w.heap.size, 0, none⟩) 2 2, .slice (some ⟨w.heap.size + 1, 0, none⟩) 3 3], .slice none 0 0] W fun e w' => e = .returned (.bool false) ∧ Below W.heap.size W w' := by
  have := fits_any W (some ⟨w.heap.size, 0, none⟩) (some ⟨w.heap.size + 1, 0, none⟩) none 2 2 3 3 0 [] (fun h => absurd rfl h) (by decide)
  rw [v15] at this; exact this
theorem aw_acc (hr : MR W A l) {b : Bool} (hv : accB 2 l = b) : Calls Try.prog 36 #[.agg #[.slice (some ⟨w.heap.size, 0, none⟩) 2 2, .slice (some ⟨w.heap.size + 1, 0, none⟩) 3 3], .slice A 2 c] W fun e w' => e = .returned (.bool b) ∧ Below W.heap.size W w' := by
  have := acc_any W (some ⟨w.heap.size, 0, none⟩) (some ⟨w.heap.size + 1, 0, none⟩) A 2 2 3 3 c l hr.2 (by rw [hr.1]; decide)
  rw [hr.1, hv] at this; exact this
theorem aw_slack (hr : MR W A l) {i : Int} (hv : slackI 2 l = i) : Calls Try.prog 34 #[.agg #[.slice (some ⟨w.heap.size, 0, none⟩) 2 2, .slice (some ⟨w.heap.size + 1, 0, none⟩) 3 3], .slice A 2 c] W fun e w' => e = .returned (.int .i64 i) ∧ Below W.heap.size W w' := by
  have := slack_any W (some ⟨w.heap.size, 0, none⟩) (some ⟨w.heap.size + 1, 0, none⟩) A 2 2 3 3 c l hr.2 (by rw [hr.1]; decide)
  rw [hr.1, hv] at this; exact this
theorem aw_slack0 : Calls Try.prog 34 #[.agg #[.slice (some ⟨w.heap.size, 0, none⟩) 2 2, .slice (some ⟨w.heap.size + 1, 0, none⟩) 3 3], .slice none 0 0] W fun e w' => e = .returned (.int .i64 (-1)) ∧ Below W.heap.size W w' := by
  have := slack_any W (some ⟨w.heap.size, 0, none⟩) (some ⟨w.heap.size + 1, 0, none⟩) none 2 2 3 3 0 [] (fun h => absurd rfl h) (by decide)
  rw [v11] at this; exact this
theorem aw_do_off (h : AW w W) (hr : MR W A l) (i : Int) {x : Int} (hv : doE 2 ts0 l i = x) (hx : x ≠ 0) : Calls Try.prog 41 #[.agg #[.slice (some ⟨w.heap.size, 0, none⟩) 2 2, .slice (some ⟨w.heap.size + 1, 0, none⟩) 3 3], .slice A 2 c, .int .i64 i] W fun e w' => e = .returned (.tuple #[.slice none 0 0, .int .i64 x]) ∧ Below W.heap.size W w' := by
  have := do_any W (some ⟨w.heap.size, 0, none⟩) (some ⟨w.heap.size + 1, 0, none⟩) A 2 2 3 c ts0 l i h.ts (by decide) hr.2 (by rw [hr.1]; decide)
  rw [hr.1] at this
  refine this.mono ?_
  rintro e w' ⟨hb, v, rfl, _, h2⟩
  rw [hv] at h2 ⊢
  exact ⟨by rw [h2 hx], hb⟩
theorem aw_do (h : AW w W) (hr : MR W A l) (i : Int) (hv : doE 2 ts0 l i = 0) (hl : doL ts0 l i.toNat = l') : Calls Try.prog 41 #[.agg #[.slice (some ⟨w.heap.size, 0, none⟩) 2 2, .slice (some ⟨w.heap.size + 1, 0, none⟩) 3 3], .slice A 2 c, .int .i64 i] W fun e w' => ∃ g c, e = .returned (.tuple #[.slice (some ⟨g, 0, none⟩) 2 c, .int .i64 0]) ∧ MR w' (some ⟨g, 0, none⟩) l' ∧ Below W.heap.size W w' ∧ (∀ j u, (l'.flatMap mkC)[j]? = some u → w'.cell? ⟨g, j, none⟩ = some u) ∧ g < w'.heap.size := by
  have := do_any W (some ⟨w.heap.size, 0, none⟩) (some ⟨w.heap.size + 1, 0, none⟩) A 2 2 3 c ts0 l i h.ts (by decide) hr.2 (by rw [hr.1]; decide)
  rw [hr.1] at this
  refine this.mono ?_
  rintro e w' ⟨hb, v, rfl, h1, _⟩
  have ho := h1 hv
  rw [hl, hr.1] at ho
  obtain ⟨g, cap, rfl, hg, hgl⟩ := own_head ho (by decide)
  refine ⟨g, cap, by rw [hv], ⟨by rw [← hl, do_len, hr.1], Row.of_own ho⟩, hb, fun j u hu => ?_, hgl⟩
  have := ho.cells (g := g) rfl j u hu
  rw [Addr.add_lit, Nat.zero_add] at this; exact this
theorem aw_tick_off (hr : MR W A l) {x : Int} (hv : tickE 2 l = x) (hx : x ≠ 0) : Calls Try.prog 43 #[.agg #[.slice (some ⟨w.heap.size, 0, none⟩) 2 2, .slice (some ⟨w.heap.size + 1, 0, none⟩) 3 3], .slice A 2 c] W fun e w' => e = .returned (.tuple #[.slice none 0 0, .int .i64 x]) ∧ Below W.heap.size W w' := by
  have := tick_any W (some ⟨w.heap.size, 0, none⟩) (some ⟨w.heap.size + 1, 0, none⟩) A 2 2 3 3 c l hr.2 (by rw [hr.1]; decide)
  rw [hr.1] at this
  refine this.mono ?_
  rintro e w' ⟨hb, v, rfl, _, h2⟩
  rw [hv] at h2 ⊢
  exact ⟨by rw [h2 hx], hb⟩
theorem aw_tick (hr : MR W A l) (hv : tickE 2 l = 0) (hl : l.map oldM = l') : Calls Try.prog 43 #[.agg #[.slice (some ⟨w.heap.size, 0, none⟩) 2 2, .slice (some ⟨w.heap.size + 1, 0, none⟩) 3 3], .slice A 2 c] W fun e w' => ∃ g c, e = .returned (.tuple #[.slice (some ⟨g, 0, none⟩) 2 c, .int .i64 0]) ∧ MR w' (some ⟨g, 0, none⟩) l' ∧ Below W.heap.size W w' ∧ (∀ j u, (l'.flatMap mkC)[j]? = some u → w'.cell? ⟨g, j, none⟩ = some u) ∧ g < w'.heap.size := by
  have := tick_any W (some ⟨w.heap.size, 0, none⟩) (some ⟨w.heap.size + 1, 0, none⟩) A 2 2 3 3 c l hr.2 (by rw [hr.1]; decide)
  rw [hr.1] at this
  refine this.mono ?_
  rintro e w' ⟨hb, v, rfl, h1, _⟩
  have ho := h1 hv
  rw [hl, hr.1] at ho
  obtain ⟨g, cap, rfl, hg, hgl⟩ := own_head ho (by decide)
  refine ⟨g, cap, by rw [hv], ⟨by rw [← hl, List.length_map, hr.1], Row.of_own ho⟩, hb, fun j u hu => ?_, hgl⟩
  have := ho.cells (g := g) rfl j u hu
  rw [Addr.add_lit, Nat.zero_add] at this; exact this
theorem aw_all (h : AW w W) (hr : MR W A l) (hv : allI 2 ts0 l = [0]) : Calls Try.prog 29 #[.agg #[.slice (some ⟨w.heap.size, 0, none⟩) 2 2, .slice (some ⟨w.heap.size + 1, 0, none⟩) 3 3], .slice A 2 c] W fun e w' => ∃ g c, e = .returned (.slice (some ⟨g, 0, none⟩) 1 c) ∧ Below W.heap.size W w' ∧ w'.cell? ⟨g, 0, none⟩ = some (.int .i64 0) ∧ g < w'.heap.size := by
  have := all_any W (some ⟨w.heap.size, 0, none⟩) (some ⟨w.heap.size + 1, 0, none⟩) A 2 2 3 c ts0 l h.ts (by decide) hr.2 (by rw [hr.1]; decide)
  rw [hr.1] at this
  refine this.mono ?_
  rintro e w' ⟨v, rfl, ho, hb⟩
  rw [hv] at ho
  obtain ⟨g, cap, rfl, hg, hgl⟩ := own_head ho (by decide)
  refine ⟨g, cap, rfl, hb, ?_, hgl⟩
  have := ho.cells (g := g) rfl 0 (.int .i64 0) rfl
  rw [Addr.add_lit, Nat.zero_add] at this; exact this
theorem aw_same (hr : MR W A l) (hr' : MR W B l') {b : Bool} (hv : decide (l = l') = b) : Calls Try.prog 59 #[.slice A 2 c, .slice B 2 d] W fun e w' => e = .returned (.bool b) ∧ Below W.heap.size W w' := by
  have := same_any A B c d l l' W hr.2 hr'.2 (by rw [hr.1]; decide)
  rw [hr.1, hr'.1, hv] at this; exact this
end
end Go.Proofs.Ytplplkchibefjaa.M5
