/-
  Contract of layer 4's small: where it answers true, the graph has few parts.
-/
import Derived.Test.YtplplkchibefjaaGrLg
import Derived.Test.YtplplkchibefjaaF4p
namespace Go.Proofs.Ytplplkchibefjaa.P4
open Go.RowKit Go.Shelf

def FewG (g : Gr) : Prop := SmallG g ∧ g.rs.length ≤ 60 ∧ g.es.length ≤ 30
set_option maxRecDepth 100000 in
set_option maxHeartbeats 2000000 in
theorem small_any (w : World) (g : Gr) (hI : InG w g) (hz : SzG g) :
    Calls Try.prog 15 #[.agg #[.slice g.ga g.gs.length g.gc, .slice g.ea g.es.length g.ec, .slice g.ra g.rs.length g.rc, .slice g.ua g.us.length g.uc]] w fun e w' => ∃ b : Bool, e = .returned (.bool b) ∧ (b = true → FewG g) ∧ Below w.heap.size w w' := by
  have hb := (Below.refl w.heap.size w).alloc (Nat.le_refl _) (.cells #[.slice g.ga g.gs.length g.gc, .slice g.ea g.es.length g.ec, .slice g.ra g.rs.length g.rc, .slice g.ua g.us.length g.uc] 27)
  have hn := heap_alloc_new w (.cells #[.slice g.ga g.gs.length g.gc, .slice g.ea g.es.length g.ec, .slice g.ra g.rs.length g.rc, .slice g.ua g.us.length g.uc] 27)
  have L := Lib.hid (large_any (w.alloc (.cells #[.slice g.ga g.gs.length g.gc, .slice g.ea g.es.length g.ec, .slice g.ra g.rs.length g.rc, .slice g.ua g.us.length g.uc] 27)) g (hI.below (Nat.le_refl _) hb) hz)
  have HB := Lib.hid hb
  have HN := Lib.hid hn
  have hls : w.heap.size < (w.alloc (.cells #[.slice g.ga g.gs.length g.gc, .slice g.ea g.es.length g.ec, .slice g.ra g.rs.length g.rc, .slice g.ua g.us.length g.uc] 27)).heap.size := by rw [World.size_alloc]; omega
  clear hI hz hb hn
  go_enter Try.func15, Try.ntmps15
  go_wp2_with fail
  refine L.out.mono ?_
  rintro e w3 ⟨b, rfl, hs, hb3⟩
  have HB3 := Lib.hid (HB.out.trans (hb3.mono HB.out.size))
  have hn3 := (hb3.block _ hls).trans HN.out
  have c1 : w3.cell? ⟨w.heap.size, 1, none⟩ = some (.slice g.ea g.es.length g.ec) := cell_blk hn3 rfl
  have c2 : w3.cell? ⟨w.heap.size, 2, none⟩ = some (.slice g.ra g.rs.length g.rc) := cell_blk hn3 rfl
  have HS := Lib.hid hs
  clear hs hb3 hn3 L HB HN hls
  cases b with
  | true =>
    go_wp2_with fail
    go_ret
    exact ⟨false, rfl, fun h => absurd h (by decide), HB3.out⟩
  | false =>
    by_cases h1 : g.rs.length ≤ 60
    · by_cases h2 : g.es.length ≤ 30
      · have t1 : decide ((g.rs.length : Int) ≤ 60) = true := decide_eq_true (by omega)
        have t2 : decide ((g.es.length : Int) ≤ 30) = true := decide_eq_true (by omega)
        go_wp2_with fail
        go_ret
        exact ⟨true, rfl, fun _ => ⟨HS.out trivial, h1, h2⟩, HB3.out⟩
      · have t1 : decide ((g.rs.length : Int) ≤ 60) = true := decide_eq_true (by omega)
        have t2 : decide ((g.es.length : Int) ≤ 30) = false := decide_eq_false (by omega)
        go_wp2_with fail
        go_ret
        exact ⟨false, rfl, fun h => absurd h (by decide), HB3.out⟩
    · have t1 : decide ((g.rs.length : Int) ≤ 60) = false := decide_eq_false (by omega)
      go_wp2_with fail
      go_ret
      exact ⟨false, rfl, fun h => absurd h (by decide), HB3.out⟩
end Go.Proofs.Ytplplkchibefjaa.P4
