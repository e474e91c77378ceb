/-
  The frame of layer 5's laws; what holds of a run.
-/
import Derived.Test.YtplplkchibefjaaMkO
import Derived.Test.YtplplkchibefjaaMkQ
namespace Go.Proofs.Ytplplkchibefjaa.M5
open Go.RowKit Go.Shelf Go.Proofs.Ytplplkchibefjaa.B

theorem do_ok {n : Nat} {ts : List Ti} {l : List Mk} {i : Int} (h : doE n ts l i = 0) : fitsB n l = true ∧ ∃ k : Nat, k < l.length ∧ i = (k : Int) ∧ enB ts l k = true := by
  unfold doE at h
  split at h
  · rename_i h1
    split at h
    · rename_i h2
      obtain ⟨k, hk, rfl⟩ := has_iff.1 h2
      split at h
      · rename_i h3
        exact ⟨h1, k, hk, rfl, by simpa using h3⟩
      · omega
    · omega
  · omega
theorem tick_ok {n : Nat} {l : List Mk} (h : tickE n l = 0) : fitsB n l = true ∧ slackL l ≠ 0 := by
  unfold tickE at h
  split at h
  · rename_i h1
    split at h
    · omega
    · rename_i h2; exact ⟨h1, h2⟩
  · omega
theorem tick_yes {n : Nat} {l : List Mk} (h : fitsB n l = true) (h0 : slackL l ≠ 0) : tickE n l = 0 := by unfold tickE; rw [if_pos h, if_neg h0]
theorem tick_due {n : Nat} {l : List Mk} (h : fitsB n l = true) (h0 : slackL l = 0) : tickE n l = 13 := by unfold tickE; rw [if_pos h, if_pos h0]
theorem slackI_fits {n : Nat} {l : List Mk} (h : fitsB n l = true) : slackI n l = slackL l := if_pos h
theorem fits_step {n : Nat} {ts : List Ti} {l : List Mk} (h : fitsB n l = true) (b : UInt8) : fitsB n (stepR n ts l b) = true := by
  unfold stepR
  split
  · exact fits_do h _ _
  · split
    · exact fits_old h
    · exact h
theorem fits_runK (ts : List Ti) (es : List Ev) (bs : List UInt8) : ∀ k, fitsB es.length (runK ts es bs k) = true
  | 0 => by simp only [runK, List.take_zero, List.foldl_nil]; exact fits_start es
  | k + 1 => by
    by_cases h : k < bs.length
    · rw [runK_next h]; exact fits_step (fits_runK ts es bs k) _
    · have e : bs.take (k + 1) = bs.take k := by rw [List.take_of_length_le (by omega), List.take_of_length_le (by omega)]
      have := fits_runK ts es bs k
      unfold runK at this ⊢; rw [e]; exact this
theorem fits_run (ts : List Ti) (es : List Ev) (bs : List UInt8) : fitsB es.length (runL ts es bs) = true := fits_runK ts es bs _

/-- What stands as it did while a law is called: the graph's box. -/
structure LF (w : World) (fl : Array Value) (W : World) : Prop where
  b : Below w.heap.size w W
  f : W.heap[w.heap.size]? = some (.cells fl 32 (0, 0))
theorem LF.lt {w W : World} {fl : Array Value} (h : LF w fl W) : w.heap.size < W.heap.size := blk_lt h.f
theorem LF.call {w W W' : World} {fl : Array Value} (h : LF w fl W) (hb : Below W.heap.size W W') : LF w fl W' := ⟨h.b.trans (hb.mono (Nat.le_of_lt h.lt)), (hb.block _ h.lt).trans h.f⟩
theorem LF.alloc {w W : World} {fl : Array Value} (h : LF w fl W) (o : Obj) : LF w fl (W.alloc o) := h.call ((Below.refl _ _).alloc (Nat.le_refl _) _)
theorem LF.drew {w W : World} {fl : Array Value} (h : LF w fl W) : LF w fl W.drew := h.call (below_draws (Below.refl _ _) 1)
theorem LF.start (w : World) (fl : Array Value) : LF w fl (w.alloc (.cells fl 32)) := ⟨(Below.refl _ _).alloc (Nat.le_refl _) _, heap_new _ _⟩
theorem LF.cells {w W : World} {EA TA : Option Addr} {en ec tn tc : Nat} (h : LF w #[.slice EA en ec, .slice TA tn tc] W) : W.cell? ⟨w.heap.size, 0, none⟩ = some (.slice EA en ec) ∧ W.cell? ⟨w.heap.size, 1, none⟩ = some (.slice TA tn tc) := ⟨cell_blk h.f rfl, cell_blk h.f rfl⟩
end Go.Proofs.Ytplplkchibefjaa.M5
