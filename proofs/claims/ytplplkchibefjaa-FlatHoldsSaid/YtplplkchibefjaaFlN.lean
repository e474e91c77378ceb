/-
  Contract of flat.Make of any graph.
-/
import Derived.Test.YtplplkchibefjaaFlI
import Derived.Test.YtplplkchibefjaaFlL
namespace Go.Proofs.Ytplplkchibefjaa
open Go.RowKit Go.Shelf

/-- What flat.Make answers. -/
structure MkEnd (w : World) (g : Gr) (e : Ending) (w' : World) : Prop where
  b : Below w.heap.size w w'
  no : mayL g = false → e = .returned (.tuple #[.agg #[.slice none 0 0, .slice none 0 0], .int .i64 (checkL g).2.2])
  many : mayL g = true → foldT [] (toldL g g.rs.length) = none → e = .returned (.tuple #[.agg #[.slice none 0 0, .slice none 0 0], .int .i64 4])
  ok : mayL g = true → ∀ l, foldT [] (toldL g g.rs.length) = some l → l.length ≤ 8000 ∧ (∀ t ∈ l, OkT t) ∧ ∃ v1 v2, e = .returned (.tuple #[.agg #[v1, v2], .int .i64 0]) ∧ w'.ownsRow w.heap.size 46 6 v1 g.es.length (g.es.flatMap evC) ∧ w'.ownsRow w.heap.size 49 4 v2 l.length (l.flatMap tiC)
theorem make_any (w : World) (g : Gr) (hI : InG w g) (hz : SzG g) (hcap : ∀ u ∈ g.us, u.roles.length ≤ u.rc) :
    Calls Try.prog 17 #[.agg #[.slice g.ga g.gs.length g.gc, .slice g.ea g.es.length g.ec, .slice g.ra g.rs.length g.rc, .slice g.ua g.us.length g.uc]] w (MkEnd w g) := by
  cases hm : mayL g with
  | false => exact (make_no w g hI hz hcap hm).mono (fun e w' h => ⟨h.2, fun _ => h.1, fun h2 => absurd (hm.symm.trans h2) (by decide), fun h2 => absurd (hm.symm.trans h2) (by decide)⟩)
  | true => exact (make_yes w g hI hz hcap hm).mono (fun e w' h => ⟨h.1, fun h2 => absurd (hm.symm.trans h2) (by decide), fun _ => h.2.1, fun _ => h.2.2⟩)
end Go.Proofs.Ytplplkchibefjaa
