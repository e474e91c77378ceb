/-
  Ways as keys; the looks of needs.Net.
-/
import Derived.Test.YtaagpnepkjkfoaaNdB
import Derived.Deep.RegionHeld3
import Derived.Deep.DrawnRows
import Derived.ChangeMaps5
namespace Go.Proofs.Ytaagpnepkjkfoaa.N7
open Go.RowKit Go.Shelf Go.Proofs.Ytaagpnepkjkfoaa.B Go.Proofs.Ytaagpnepkjkfoaa.R6
attribute [local go_sem ↓] Go.wp_at_zero Go.wp_at_succ

theorem bcell {W w1 : World} (hb : Below W.heap.size W w1) : (∀ b o, b < W.heap.size → w1.cell? ⟨b, o, none⟩ = W.cell? ⟨b, o, none⟩) ∧ (∀ b o, b < W.heap.size → w1.frozen? ⟨b, o, none⟩ = W.frozen? ⟨b, o, none⟩) :=
  ⟨fun b o h => hb.cell (p := ⟨b, o, none⟩) h, fun b o h => hb.frozen (p := ⟨b, o, none⟩) h⟩
set_option maxRecDepth 100000 in
set_option maxHeartbeats 2000000 in
theorem net1_any (w : World) (t : Ti) :
    Calls Try.prog 60 (#[tiW t] ++ #[]) w fun e w' => e = .returned (.tuple #[.agg #[.int .i64 t.to, .int .i64 t.fr], .bool (blkK t)]) ∧ Below w.heap.size w w' := by
  show Calls Try.prog 60 #[tiW t] w _
  generalize hk : blkK t = d
  have HC := Lib.hid (fun W => blocks_any W t)
  rw [hk] at HC
  clear hk
  go_enter Try.func60, Try.ntmps60
  go_wp2_with fail
  have hz2 : w.heap.size < ((w.alloc (.cells #[.int .i64 t.kind, .int .i64 t.fr, .int .i64 t.to, .int .i64 t.time] 62)).alloc (.cells #[.int .i64 0, .int .i64 0] 92)).heap.size := by rw [World.size_alloc, World.size_alloc]; omega
  go_region_with ((refine (HC.out _).mono ?_; rintro e w5 ⟨rfl, hb5⟩; obtain ⟨hc5, hf5⟩ := bcell hb5))
  all_goals have hz5 : w.heap.size + 1 < w5.heap.size := by have := hb5.size; simp at this; omega
  all_goals go_wp2_with fail
  all_goals
    refine bodyPost_ret (v := .tuple #[.agg #[.int .i64 t.to, .int .i64 t.fr], .bool d]) (by simp [results, Try.results60, go_sem, hc5]) rfl ⟨rfl, ?_⟩
  all_goals
    have hB2 : Below w.heap.size w ((w.alloc (.cells #[.int .i64 t.kind, .int .i64 t.fr, .int .i64 t.to, .int .i64 t.time] 62)).alloc (.cells #[.int .i64 0, .int .i64 0] 92)) := ((Below.refl _ _).alloc (Nat.le_refl _) _).alloc (by rw [World.size_alloc]; omega) _
    first
      | exact ((below_draws hB2 1).trans (hb5.mono (by simp; omega)))
      | exact ((((below_draws hB2 1).trans (hb5.mono (by simp; omega))).setCell (by simp) _).setCell (by simp) _)
      | exact ((((below_draws hB2 1).setCell (by simp) _).setCell (by simp) _).trans (hb5.mono (by simp; omega)))
set_option maxRecDepth 100000 in
set_option maxHeartbeats 2000000 in
theorem net2_any (w : World) (t : Ti) :
    Calls Try.prog 61 (#[tiW t] ++ #[]) w fun e w' => e = .returned (.tuple #[.agg #[.int .i64 t.fr, .int .i64 t.to], .bool (clK t)]) ∧ Below w.heap.size w w' := by
  show Calls Try.prog 61 #[tiW t] w _
  generalize hk : clK t = d
  have HC := Lib.hid (fun W => calls_any W t)
  rw [hk] at HC
  clear hk
  go_enter Try.func61, Try.ntmps61
  go_wp2_with fail
  have hz2 : w.heap.size < ((w.alloc (.cells #[.int .i64 t.kind, .int .i64 t.fr, .int .i64 t.to, .int .i64 t.time] 62)).alloc (.cells #[.int .i64 0, .int .i64 0] 92)).heap.size := by rw [World.size_alloc, World.size_alloc]; omega
  go_region_with ((refine (HC.out _).mono ?_; rintro e w5 ⟨rfl, hb5⟩; obtain ⟨hc5, hf5⟩ := bcell hb5))
  all_goals have hz5 : w.heap.size + 1 < w5.heap.size := by have := hb5.size; simp at this; omega
  all_goals go_wp2_with fail
  all_goals
    refine bodyPost_ret (v := .tuple #[.agg #[.int .i64 t.fr, .int .i64 t.to], .bool d]) (by simp [results, Try.results61, go_sem, hc5]) rfl ⟨rfl, ?_⟩
  all_goals
    have hB2 : Below w.heap.size w ((w.alloc (.cells #[.int .i64 t.kind, .int .i64 t.fr, .int .i64 t.to, .int .i64 t.time] 62)).alloc (.cells #[.int .i64 0, .int .i64 0] 92)) := ((Below.refl _ _).alloc (Nat.le_refl _) _).alloc (by rw [World.size_alloc]; omega) _
    first
      | exact ((below_draws hB2 1).trans (hb5.mono (by simp; omega)))
      | exact ((((below_draws hB2 1).trans (hb5.mono (by simp; omega))).setCell (by simp) _).setCell (by simp) _)
      | exact ((((below_draws hB2 1).setCell (by simp) _).setCell (by simp) _).trans (hb5.mono (by simp; omega)))

/-! ### ways as keys -/
noncomputable def wlit (a b : Int) : Lit := (DataW.agg [.lit (.int .i64 a), .lit (.int .i64 b)] : DataW Unit).asKey
theorem rowW : (92 : TypeId) < Try.prog.types.size := of_decide_eq_true (by kernel_rfl)
theorem deepW3 : Try.prog.keyTypeAt 3 92 = true := by kernel_rfl
theorem deepW : Try.prog.keyTypeAt (Try.prog.types.size + 1) 92 = true := by kernel_rfl
theorem cellsW : Try.prog.cellsOf 92 = 2 := by kernel_rfl
theorem formW (a b : Value) : (Value.agg #[a, b]).formed Try.prog 92 = true := by simp [Value.formed, Try.underlying92, cellsW]
theorem lawS_of {P : Program} (hl : laidOutB P = true) {k : TypeId} (hrow : k < P.types.size) (hk : P.keyTypeAt 3 k = true) {fs : Array Field} (h : P.underlying k = some (.struct fs)) : WideMaps.KeyLaw P k :=
  deep_law_laid hl (m := 3) (by omega) hrow hk (by rw [h])
theorem keyS_of {P : Program} {w : World} {k : TypeId} (hk : P.keyTypeAt (P.types.size + 1) k = true) {fs : Array Field} (h : P.underlying k = some (.struct fs)) {v : Value} (hf : v.formed P k = true) {d : DataW Unit} {ps : List MemPlace}
    (hd : DataW.Trod (fun _ => ()) P w 0 (fun _ => false) true k v d ps) : keyOf P k v = some d.asKey := (keyOf_asKey hk (by rw [h]) hf hd).1
theorem lawW : Maps.Keyed Try.prog 92 := Maps.Keyed.of_law (lawS_of progLaid rowW deepW3 Try.underlying92)
theorem keyW {a b : Int} (ha : (Lit.int .i64 a).wf = true) (hb : (Lit.int .i64 b).wf = true) : keyOf Try.prog 92 (.agg #[.int .i64 a, .int .i64 b]) = some (wlit a b) := by
  have hi : ∀ n : Int, (Lit.int .i64 n).wf = true → ∃ m, DataW.trod (fun _ => ()) Try.prog (default : World) 0 (fun _ => false) true m 3 [.int .i64 n] = some (.lit (.int .i64 n), []) := fun n hn => by
    obtain ⟨m, hm⟩ := Go.ChangeShapes.shut_int (enc := fun _ => ()) (P := Try.prog) (w := default) (base := 0) (spare := fun _ => false) (held := true) Try.underlying3 hn
    exact ⟨m, hm⟩
  have := Joins.shut_agg2 (enc := fun _ => ()) (P := Try.prog) (w := default) (base := 0) (spare := fun _ => false) (held := true) Try.underlying92 (by kernel_rfl) cellsW (hi _ ha) (hi _ hb)
  exact keyS_of deepW Try.underlying92 (formW _ _) this
theorem wlit_inj {a b c d : Int} (ha : (Lit.int .i64 a).wf = true) (hb : (Lit.int .i64 b).wf = true) (hc : (Lit.int .i64 c).wf = true) (hd : (Lit.int .i64 d).wf = true) (h : wlit a b = wlit c d) : a = c ∧ b = d := by
  have e1 := keyW ha hb
  rw [h] at e1
  have e2 := lawW.inj e1 (keyW hc hd)
  simp only [Value.agg.injEq, Array.mk.injEq, List.cons.injEq, Value.int.injEq, true_and, and_true] at e2
  exact e2
theorem wfN {n : Nat} (h : n ≤ 9223372036854775807) : (Lit.int .i64 (n : Int)).wf = true := WalkArith.wf_i64 (by omega)
/-- The ways of a set. -/
def WL (N : Nat) (S : Nat → Nat → Bool) (l : Lit) : Prop := ∃ a b : Nat, a < N ∧ b < N ∧ S a b = true ∧ l = wlit (a : Int) (b : Int)
/-- What a look finds in some ties. -/
def gW (N : Nat) (ka kb : Ti → Int) (ok : Ti → Bool) (ts : List Ti) (a b : Nat) : Bool := ts.any fun t => ok t && btw N t && (ka t == (a : Int) && kb t == (b : Int))
theorem gW_next {N : Nat} {ka kb : Ti → Int} {ok : Ti → Bool} {ts : List Ti} {k : Nat} (hk : k < ts.length) (a b : Nat) : gW N ka kb ok (ts.take (k + 1)) a b = (gW N ka kb ok (ts.take k) a b || (ok ts[k]! && btw N ts[k]! && (ka ts[k]! == (a : Int) && kb ts[k]! == (b : Int)))) := by
  unfold gW
  rw [take_next hk, List.any_append]; simp
theorem gW_skip {N : Nat} {ka kb : Ti → Int} {ok : Ti → Bool} {ts : List Ti} {k : Nat} (hk : k < ts.length) (h : (ok ts[k]! && btw N ts[k]!) = false) (l : Lit) : WL N (gW N ka kb ok (ts.take k)) l ↔ WL N (gW N ka kb ok (ts.take (k + 1))) l := by
  unfold WL
  simp only [gW_next hk, h, Bool.false_and, Bool.or_false]
theorem gW_put {N : Nat} {ka kb : Ti → Int} {ok : Ti → Bool} {ts : List Ti} {k x y : Nat} (hk : k < ts.length) (h : (ok ts[k]! && btw N ts[k]!) = true) (hx : ka ts[k]! = (x : Int)) (hy : kb ts[k]! = (y : Int)) (hxN : x < N) (hyN : y < N) (l : Lit) :
    (WL N (gW N ka kb ok (ts.take k)) l ∨ l = wlit x y) ↔ WL N (gW N ka kb ok (ts.take (k + 1))) l := by
  unfold WL
  simp only [gW_next hk, h, Bool.true_and, hx, hy, Bool.or_eq_true, Bool.and_eq_true, beq_iff_eq]
  constructor
  · rintro (⟨a, b, h1, h1', h2, h3⟩ | rfl)
    · exact ⟨a, b, h1, h1', .inl h2, h3⟩
    · exact ⟨x, y, hxN, hyN, .inr ⟨rfl, rfl⟩, rfl⟩
  · rintro ⟨a, b, h1, h1', h2 | ⟨h2, h2'⟩, h3⟩
    · exact .inl ⟨a, b, h1, h1', h2, h3⟩
    · exact .inr (by rw [h3, show x = a by omega, show y = b by omega])
end Go.Proofs.Ytaagpnepkjkfoaa.N7
