/-
  Contract of the document's own there.
-/
import Derived.Test.YtandfjahfbeaiaaGreatGrNg
namespace Go.Proofs.YtandfjahfbeaiaaGreat
open Go.RowKit Go.Shelf
set_option maxRecDepth 100000 in
set_option maxHeartbeats 1000000 in
theorem rthere_any (w : World) (g : Gr) (s : ByteArray) (hI : InG w g) (hz : SzG g) :
    Calls Tryz.prog 97 #[.agg #[.slice g.ga g.gs.length g.gc, .slice g.ea g.es.length g.ec, .slice g.ra g.rs.length g.rc, .slice g.ua g.us.length g.uc], .string s] w fun e w' => e = .returned (.bool (thereB g s.toList)) ∧ Below w.heap.size w w' := by
  have HI := Lib.hid hI
  clear hI
  have z1 := hz.gs
  have z2 := hz.es
  clear hz
  have HT : Hid (thereB g s.toList = (hasB (ens g) s.toList || hasB (gns g) s.toList)) := Lib.hid rfl
  have C1 := fun W hW => Lib.hid (hasGroup_any W g s g.gs.length hW z1 (Nat.le_refl _))
  have C2 := fun W hW => Lib.hid (hasEvent_any W g s g.es.length hW z2 (Nat.le_refl _))
  rw [show aheadB (gns g) s.toList g.gs.length = hasB (gns g) s.toList from ahead_all Gp.name] at C1
  rw [show aheadB (ens g) s.toList g.es.length = hasB (ens g) s.toList from ahead_all Ev.name] at C2
  have hbx := box_below w g
  cases h1 : hasB (gns g) s.toList with
  | true =>
    rw [h1] at C1 HT
    clear h1
    go_enter Tryz.func97, Tryz.ntmps97
    go_wp2_with fail
    refine (C1 _ (HI.out.below (Nat.le_refl _) hbx)).out.mono ?_
    rintro e w1 ⟨rfl, hb1⟩
    go_wp2_with fail
    go_ret
    exact ⟨ret_bool (by rw [HT.out, Bool.or_true]), hbx.trans (hb1.mono hbx.size)⟩
  | false =>
    rw [h1] at C1 HT
    clear h1
    go_enter Tryz.func97, Tryz.ntmps97
    go_wp2_with fail
    refine (C1 _ (HI.out.below (Nat.le_refl _) hbx)).out.mono ?_
    rintro e w1 ⟨rfl, hb1⟩
    have hB1 : Below (w.heap.size + 1) (boxW w g) w1 := by rw [← box_size w g]; exact hb1
    obtain ⟨a0, a1, a2, a3⟩ := box_cells hB1
    have hbw := hbx.trans (hb1.mono hbx.size)
    go_wp2_with fail
    refine (C2 _ (HI.out.below (Nat.le_refl _) hbw)).out.mono ?_
    rintro e w2 ⟨rfl, hb2⟩
    go_wp2_with fail
    go_ret
    exact ⟨ret_bool (by rw [HT.out, Bool.or_false]), hbw.trans (hb2.mono hbw.size)⟩
end Go.Proofs.YtandfjahfbeaiaaGreat
