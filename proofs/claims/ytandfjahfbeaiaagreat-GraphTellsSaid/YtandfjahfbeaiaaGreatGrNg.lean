/-
  Contract of the document's own look at a group; what lies behind two boxes.
-/
import Derived.Test.YtandfjahfbeaiaaGreatGrNa
namespace Go.Proofs.YtandfjahfbeaiaaGreat
open Go.RowKit Go.Shelf
theorem rbox {w wr : World} {g : Gr} {cs : Array Value} {T : TypeId} (hB : Below (w.heap.size + 2) ((boxW w g).alloc (.cells cs T)) wr) :
    (wr.cell? ⟨w.heap.size, 0, none⟩ = some (.slice g.ga g.gs.length g.gc) ∧ wr.cell? ⟨w.heap.size, 1, none⟩ = some (.slice g.ea g.es.length g.ec) ∧ wr.cell? ⟨w.heap.size, 2, none⟩ = some (.slice g.ra g.rs.length g.rc) ∧ wr.cell? ⟨w.heap.size, 3, none⟩ = some (.slice g.ua g.us.length g.uc)) ∧
    ∀ j u, cs[j]? = some u → wr.cell? ⟨w.heap.size + 1, j, none⟩ = some u := by
  refine ⟨box_cells (((Below.refl _ _).alloc (by rw [box_size]; omega) _).trans (hB.mono (by omega))), fun j u hu => ?_⟩
  have hh := heap_new (boxW w g) (.cells cs T)
  rw [box_size] at hh
  exact cell_blk ((hB.block (w.heap.size + 1) (by omega)).trans hh) hu
theorem rbox_old {w wr : World} {g : Gr} {cs : Array Value} {T : TypeId} (hB : Below (w.heap.size + 2) ((boxW w g).alloc (.cells cs T)) wr) : Below w.heap.size w wr :=
  (box_below w g).trans (((Below.refl _ _).alloc (by rw [box_size]; omega) _).trans (hB.mono (by omega)))
theorem rbox_more {w w1 w2 : World} {g : Gr} {cs : Array Value} {T : TypeId} (h1 : Below (w.heap.size + 2) ((boxW w g).alloc (.cells cs T)) w1) (h2 : Below w1.heap.size w1 w2) : Below (w.heap.size + 2) ((boxW w g).alloc (.cells cs T)) w2 :=
  h1.trans (h2.mono (by have := h1.size; rw [World.size_alloc, box_size] at this; exact this))
theorem rbox_size (w : World) (g : Gr) (o : Obj) : ((boxW w g).alloc o).heap.size = w.heap.size + 2 := by rw [World.size_alloc, box_size]
theorem ahead_has {α : Type} [BEq α] [LawfulBEq α] {l : List α} {k : α} {i : Nat} (h : i ≤ l.length) : (hasB l k && aheadB l k i) = aheadB l k i := by
  cases ha : aheadB l k i with
  | false => rw [Bool.and_false]
  | true =>
    unfold aheadB at ha
    rw [decide_eq_true_eq] at ha
    rw [Bool.and_true]
    exact List.contains_iff_mem.2 (List.idxOf_lt_length_iff.1 (by omega))
theorem gns_len (g : Gr) : (gns g).length = g.gs.length := List.length_map _

set_option maxRecDepth 100000 in
set_option maxHeartbeats 2000000 in
theorem rgroup_any (w : World) (g : Gr) (i : Nat) (hI : InG w g) (hz : SzG g) (hi : i < g.gs.length) :
    Calls Tryz.prog 70 #[.agg #[.slice g.ga g.gs.length g.gc, .slice g.ea g.es.length g.ec, .slice g.ra g.rs.length g.rc, .slice g.ua g.us.length g.uc], .int .i64 i] w fun e w' => e = .returned (.int .i64 (groupE g i)) ∧ Below w.heap.size w w' := by
  obtain ⟨b, off, hA, hb, hc⟩ := hI.gs.at_ (k := 2) (fun _ => rfl) (by omega) hi
  have k0 := hc 0 _ rfl
  rw [Nat.add_zero] at k0
  have k1 := hc 1 _ rfl
  have HI := Lib.hid hI
  clear hI hc
  have z1 := hz.gs
  obtain ⟨hsn, hsp⟩ := hz.gp _ (mem_at hi)
  clear hz
  rw [← (box_below w g).cell (p := ⟨b, _, none⟩) hb] at k0 k1
  have i0 : (0 : Int) ≤ (i : Int) := Int.natCast_nonneg _
  have i1 : (i : Int) < (g.gs.length : Int) := by omega
  have HE : Hid (groupE g i = if nameK g.gs[i]!.name.toList then
    if aheadB (gns g) g.gs[i]!.name.toList i then 6
    else if g.gs[i]!.parent.toList == [] then 0
    else if aheadB (gns g) g.gs[i]!.parent.toList i then 0 else 10
    else 5) := Lib.hid (by unfold groupE; rw [ahead_has (by rw [gns_len]; omega)])
  have C0 := fun W => Lib.hid (rname_any g.gs[i]!.name W hsn)
  have C1 := fun W hW => Lib.hid (hasGroup_any W g g.gs[i]!.name i hW z1 (Nat.le_of_lt hi))
  have C2 := fun W hW => Lib.hid (hasGroup_any W g g.gs[i]!.parent i hW z1 (Nat.le_of_lt hi))
  generalize g.gs[i]! = p at *
  unfold boxW at k0 k1
  cases hn : nameK p.name.toList with
  | false =>
    rw [hn] at C0 HE
    clear hn
    rw [hA] at k0 k1 ⊢
    have HA := Lib.hid hA
    clear hA
    go_enter Tryz.func70, Tryz.ntmps70
    go_wp2_with fail
    refine (C0 _).out.mono ?_
    rintro e w1 ⟨rfl, hb1⟩
    rw [← HA.out] at hb1
    rw [show ((w.alloc _).alloc _).heap.size = w.heap.size + 2 from rbox_size w g _] at hb1
    go_wp2_with fail
    go_ret
    exact ⟨ret_i64 (by rw [HE.out]; rfl), rbox_old hb1⟩
  | true =>
    rw [hn] at C0 HE
    clear hn
    cases h1 : aheadB (gns g) p.name.toList i with
    | true =>
      rw [h1] at C1 HE
      clear h1
      rw [hA] at k0 k1 ⊢
      have HA := Lib.hid hA
      clear hA
      go_enter Tryz.func70, Tryz.ntmps70
      go_wp2_with fail
      refine (C0 _).out.mono ?_
      rintro e w1 ⟨rfl, hb1⟩
      rw [← HA.out] at hb1
      rw [show ((w.alloc _).alloc _).heap.size = w.heap.size + 2 from rbox_size w g _] at hb1
      obtain ⟨⟨a0, a1, a2, a3⟩, hx⟩ := rbox hb1
      have x0 : w1.cell? ⟨w.heap.size + 1, 0, none⟩ = some (.string p.name) := hx 0 _ rfl
      have x1 : w1.cell? ⟨w.heap.size + 1, 1, none⟩ = some (.string p.parent) := hx 1 _ rfl
      clear hx k0 k1
      go_wp2_with fail
      refine (C1 _ (HI.out.below (Nat.le_refl _) (rbox_old hb1))).out.mono ?_
      rintro e w2 ⟨rfl, hb2⟩
      have hB2 := rbox_more hb1 hb2
      go_wp2_with fail
      go_ret
      exact ⟨ret_i64 (by rw [HE.out]; rfl), rbox_old hB2⟩
    | false =>
      rw [h1] at C1 HE
      clear h1
      cases hp : (p.parent.toList == []) with
      | true =>
        rw [hp] at HE
        rw [hA] at k0 k1 ⊢
        have HA := Lib.hid hA
        clear hA
        go_enter Tryz.func70, Tryz.ntmps70
        go_wp2_with fail
        refine (C0 _).out.mono ?_
        rintro e w1 ⟨rfl, hb1⟩
        rw [← HA.out] at hb1
        rw [show ((w.alloc _).alloc _).heap.size = w.heap.size + 2 from rbox_size w g _] at hb1
        obtain ⟨⟨a0, a1, a2, a3⟩, hx⟩ := rbox hb1
        have x0 : w1.cell? ⟨w.heap.size + 1, 0, none⟩ = some (.string p.name) := hx 0 _ rfl
        have x1 : w1.cell? ⟨w.heap.size + 1, 1, none⟩ = some (.string p.parent) := hx 1 _ rfl
        clear hx k0 k1
        go_wp2_with fail
        refine (C1 _ (HI.out.below (Nat.le_refl _) (rbox_old hb1))).out.mono ?_
        rintro e w2 ⟨rfl, hb2⟩
        have hB2 := rbox_more hb1 hb2
        obtain ⟨⟨a0', a1', a2', a3'⟩, hx⟩ := rbox hB2
        have x1' : w2.cell? ⟨w.heap.size + 1, 1, none⟩ = some (.string p.parent) := hx 1 _ rfl
        clear hx a0 a1 a2 a3 x0 x1
        go_wp2_with fail
        go_ret
        exact ⟨ret_i64 (by rw [HE.out]; rfl), rbox_old hB2⟩
      | false =>
        rw [hp] at HE
        cases h2 : aheadB (gns g) p.parent.toList i with
        | _ =>
          rw [h2] at C2 HE
          clear h2
          rw [hA] at k0 k1 ⊢
          have HA := Lib.hid hA
          clear hA
          go_enter Tryz.func70, Tryz.ntmps70
          go_wp2_with fail
          refine (C0 _).out.mono ?_
          rintro e w1 ⟨rfl, hb1⟩
          rw [← HA.out] at hb1
          rw [show ((w.alloc _).alloc _).heap.size = w.heap.size + 2 from rbox_size w g _] at hb1
          obtain ⟨⟨a0, a1, a2, a3⟩, hx⟩ := rbox hb1
          have x0 : w1.cell? ⟨w.heap.size + 1, 0, none⟩ = some (.string p.name) := hx 0 _ rfl
          have x1 : w1.cell? ⟨w.heap.size + 1, 1, none⟩ = some (.string p.parent) := hx 1 _ rfl
          clear hx k0 k1
          go_wp2_with fail
          refine (C1 _ (HI.out.below (Nat.le_refl _) (rbox_old hb1))).out.mono ?_
          rintro e w2 ⟨rfl, hb2⟩
          have hB2 := rbox_more hb1 hb2
          obtain ⟨⟨a0', a1', a2', a3'⟩, hx⟩ := rbox hB2
          have x1' : w2.cell? ⟨w.heap.size + 1, 1, none⟩ = some (.string p.parent) := hx 1 _ rfl
          clear hx a0 a1 a2 a3 x0 x1
          go_wp2_with fail
          refine (C2 _ (HI.out.below (Nat.le_refl _) (rbox_old hB2))).out.mono ?_
          rintro e w3 ⟨rfl, hb3⟩
          have hB3 := rbox_more hB2 hb3
          clear a0' a1' a2' a3' x1'
          go_wp2_with fail
          go_ret
          exact ⟨ret_i64 (by rw [HE.out]; rfl), rbox_old hB3⟩
end Go.Proofs.YtandfjahfbeaiaaGreat
