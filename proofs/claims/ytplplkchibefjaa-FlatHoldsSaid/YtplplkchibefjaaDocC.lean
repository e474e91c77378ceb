/-
  Contracts of the document's own Check, Right, Above, Members. (made by wip/tools/gen_doc.py)
-/
import Derived.Test.YtplplkchibefjaaGrV
import Derived.Test.YtplplkchibefjaaDocB
namespace Go.Proofs.Ytplplkchibefjaa
open Go.RowKit Go.Shelf
theorem rbox {w wr : World} {g : Gr} {cs : Array Value} {T : TypeId} (hB : Below (w.heap.size + 2) ((boxW w g).alloc (.cells cs T)) wr) :
    (wr.cell? ⟨w.heap.size, 0, none⟩ = some (.slice g.ga g.gs.length g.gc) ∧ wr.cell? ⟨w.heap.size, 1, none⟩ = some (.slice g.ea g.es.length g.ec) ∧ wr.cell? ⟨w.heap.size, 2, none⟩ = some (.slice g.ra g.rs.length g.rc) ∧ wr.cell? ⟨w.heap.size, 3, none⟩ = some (.slice g.ua g.us.length g.uc)) ∧
    ∀ j u, cs[j]? = some u → wr.cell? ⟨w.heap.size + 1, j, none⟩ = some u := by
  refine ⟨box_cells (((Below.refl _ _).alloc (by rw [box_size]; omega) _).trans (hB.mono (by omega))), fun j u hu => ?_⟩
  have hh := heap_new (boxW w g) (.cells cs T)
  rw [box_size] at hh
  exact cell_blk ((hB.block (w.heap.size + 1) (by omega)).trans hh) hu
theorem rbox_old {w wr : World} {g : Gr} {cs : Array Value} {T : TypeId} (hB : Below (w.heap.size + 2) ((boxW w g).alloc (.cells cs T)) wr) : Below w.heap.size w wr :=
  (box_below w g).trans (((Below.refl _ _).alloc (by rw [box_size]; omega) _).trans (hB.mono (by omega)))
theorem rbox_more {w w1 w2 : World} {g : Gr} {cs : Array Value} {T : TypeId} (h1 : Below (w.heap.size + 2) ((boxW w g).alloc (.cells cs T)) w1) (h2 : Below w1.heap.size w1 w2) : Below (w.heap.size + 2) ((boxW w g).alloc (.cells cs T)) w2 :=
  h1.trans (h2.mono (by have := h1.size; rw [World.size_alloc, box_size] at this; exact this))
theorem rbox_size (w : World) (g : Gr) (o : Obj) : ((boxW w g).alloc o).heap.size = w.heap.size + 2 := by rw [World.size_alloc, box_size]
theorem ahead_has {α : Type} [BEq α] [LawfulBEq α] {l : List α} {k : α} {i : Nat} (h : i ≤ l.length) : (hasB l k && aheadB l k i) = aheadB l k i := by
  cases ha : aheadB l k i with
  | false => rw [Bool.and_false]
  | true =>
    unfold aheadB at ha
    rw [decide_eq_true_eq] at ha
    rw [Bool.and_true]
    exact List.contains_iff_mem.2 (List.idxOf_lt_length_iff.1 (by omega))
theorem gns_len (g : Gr) : (gns g).length = g.gs.length := List.length_map _

set_option maxRecDepth 100000 in
set_option maxHeartbeats 2000000 in
theorem rgroup_any (w : World) (g : Gr) (i : Nat) (hI : InG w g) (hz : SzG g) (hi : i < g.gs.length) :
    Calls Try.prog 71 #[.agg #[.slice g.ga g.gs.length g.gc, .slice g.ea g.es.length g.ec, .slice g.ra g.rs.length g.rc, .slice g.ua g.us.length g.uc], .int .i64 i] w fun e w' => e = .returned (.int .i64 (groupE g i)) ∧ Below w.heap.size w w' := by
  obtain ⟨b, off, hA, hb, hc⟩ := hI.gs.at_ (k := 2) (fun _ => rfl) (by omega) hi
  have k0 := hc 0 _ rfl
  rw [Nat.add_zero] at k0
  have k1 := hc 1 _ rfl
  have HI := Lib.hid hI
  clear hI hc
  have z1 := hz.gs
  obtain ⟨hsn, hsp⟩ := hz.gp _ (mem_at hi)
  clear hz
  rw [← (box_below w g).cell (p := ⟨b, _, none⟩) hb] at k0 k1
  have i0 : (0 : Int) ≤ (i : Int) := Int.natCast_nonneg _
  have i1 : (i : Int) < (g.gs.length : Int) := by omega
  have HE : Hid (groupE g i = if nameK g.gs[i]!.name.toList then
    if aheadB (gns g) g.gs[i]!.name.toList i then 6
    else if g.gs[i]!.parent.toList == [] then 0
    else if aheadB (gns g) g.gs[i]!.parent.toList i then 0 else 10
    else 5) := Lib.hid (by unfold groupE; rw [ahead_has (by rw [gns_len]; omega)])
  have C0 := fun W => Lib.hid (rname_any g.gs[i]!.name W hsn)
  have C1 := fun W hW => Lib.hid (hasGroup_any W g g.gs[i]!.name i hW z1 (Nat.le_of_lt hi))
  have C2 := fun W hW => Lib.hid (hasGroup_any W g g.gs[i]!.parent i hW z1 (Nat.le_of_lt hi))
  generalize g.gs[i]! = p at *
  unfold boxW at k0 k1
  cases hn : nameK p.name.toList with
  | false =>
    rw [hn] at C0 HE
    clear hn
    rw [hA] at k0 k1 ⊢
    have HA := Lib.hid hA
    clear hA
    go_enter Try.func71, Try.ntmps71
    go_wp2_with fail
    refine (C0 _).out.mono ?_
    rintro e w1 ⟨rfl, hb1⟩
    rw [← HA.out] at hb1
    rw [show ((w.alloc _).alloc _).heap.size = w.heap.size + 2 from rbox_size w g _] at hb1
    go_wp2_with fail
    go_ret
    exact ⟨ret_i64 (by rw [HE.out]; rfl), rbox_old hb1⟩
  | true =>
    rw [hn] at C0 HE
    clear hn
    cases h1 : aheadB (gns g) p.name.toList i with
    | true =>
      rw [h1] at C1 HE
      clear h1
      rw [hA] at k0 k1 ⊢
      have HA := Lib.hid hA
      clear hA
      go_enter Try.func71, Try.ntmps71
      go_wp2_with fail
      refine (C0 _).out.mono ?_
      rintro e w1 ⟨rfl, hb1⟩
      rw [← HA.out] at hb1
      rw [show ((w.alloc _).alloc _).heap.size = w.heap.size + 2 from rbox_size w g _] at hb1
      obtain ⟨⟨a0, a1, a2, a3⟩, hx⟩ := rbox hb1
      have x0 : w1.cell? ⟨w.heap.size + 1, 0, none⟩ = some (.string p.name) := hx 0 _ rfl
      have x1 : w1.cell? ⟨w.heap.size + 1, 1, none⟩ = some (.string p.parent) := hx 1 _ rfl
      clear hx k0 k1
      go_wp2_with fail
      refine (C1 _ (HI.out.below (Nat.le_refl _) (rbox_old hb1))).out.mono ?_
      rintro e w2 ⟨rfl, hb2⟩
      have hB2 := rbox_more hb1 hb2
      go_wp2_with fail
      go_ret
      exact ⟨ret_i64 (by rw [HE.out]; rfl), rbox_old hB2⟩
    | false =>
      rw [h1] at C1 HE
      clear h1
      cases hp : (p.parent.toList == []) with
      | true =>
        rw [hp] at HE
        rw [hA] at k0 k1 ⊢
        have HA := Lib.hid hA
        clear hA
        go_enter Try.func71, Try.ntmps71
        go_wp2_with fail
        refine (C0 _).out.mono ?_
        rintro e w1 ⟨rfl, hb1⟩
        rw [← HA.out] at hb1
        rw [show ((w.alloc _).alloc _).heap.size = w.heap.size + 2 from rbox_size w g _] at hb1
        obtain ⟨⟨a0, a1, a2, a3⟩, hx⟩ := rbox hb1
        have x0 : w1.cell? ⟨w.heap.size + 1, 0, none⟩ = some (.string p.name) := hx 0 _ rfl
        have x1 : w1.cell? ⟨w.heap.size + 1, 1, none⟩ = some (.string p.parent) := hx 1 _ rfl
        clear hx k0 k1
        go_wp2_with fail
        refine (C1 _ (HI.out.below (Nat.le_refl _) (rbox_old hb1))).out.mono ?_
        rintro e w2 ⟨rfl, hb2⟩
        have hB2 := rbox_more hb1 hb2
        obtain ⟨⟨a0', a1', a2', a3'⟩, hx⟩ := rbox hB2
        have x1' : w2.cell? ⟨w.heap.size + 1, 1, none⟩ = some (.string p.parent) := hx 1 _ rfl
        clear hx a0 a1 a2 a3 x0 x1
        go_wp2_with fail
        go_ret
        exact ⟨ret_i64 (by rw [HE.out]; rfl), rbox_old hB2⟩
      | false =>
        rw [hp] at HE
        cases h2 : aheadB (gns g) p.parent.toList i with
        | _ =>
          rw [h2] at C2 HE
          clear h2
          rw [hA] at k0 k1 ⊢
          have HA := Lib.hid hA
          clear hA
          go_enter Try.func71, Try.ntmps71
          go_wp2_with fail
          refine (C0 _).out.mono ?_
          rintro e w1 ⟨rfl, hb1⟩
          rw [← HA.out] at hb1
          rw [show ((w.alloc _).alloc _).heap.size = w.heap.size + 2 from rbox_size w g _] at hb1
          obtain ⟨⟨a0, a1, a2, a3⟩, hx⟩ := rbox hb1
          have x0 : w1.cell? ⟨w.heap.size + 1, 0, none⟩ = some (.string p.name) := hx 0 _ rfl
          have x1 : w1.cell? ⟨w.heap.size + 1, 1, none⟩ = some (.string p.parent) := hx 1 _ rfl
          clear hx k0 k1
          go_wp2_with fail
          refine (C1 _ (HI.out.below (Nat.le_refl _) (rbox_old hb1))).out.mono ?_
          rintro e w2 ⟨rfl, hb2⟩
          have hB2 := rbox_more hb1 hb2
          obtain ⟨⟨a0', a1', a2', a3'⟩, hx⟩ := rbox hB2
          have x1' : w2.cell? ⟨w.heap.size + 1, 1, none⟩ = some (.string p.parent) := hx 1 _ rfl
          clear hx a0 a1 a2 a3 x0 x1
          go_wp2_with fail
          refine (C2 _ (HI.out.below (Nat.le_refl _) (rbox_old hB2))).out.mono ?_
          rintro e w3 ⟨rfl, hb3⟩
          have hB3 := rbox_more hB2 hb3
          clear a0' a1' a2' a3' x1'
          go_wp2_with fail
          go_ret
          exact ⟨ret_i64 (by rw [HE.out]; rfl), rbox_old hB3⟩

set_option maxRecDepth 100000 in
set_option maxHeartbeats 1000000 in
theorem rthere_any (w : World) (g : Gr) (s : ByteArray) (hI : InG w g) (hz : SzG g) :
    Calls Try.prog 93 #[.agg #[.slice g.ga g.gs.length g.gc, .slice g.ea g.es.length g.ec, .slice g.ra g.rs.length g.rc, .slice g.ua g.us.length g.uc], .string s] w fun e w' => e = .returned (.bool (thereB g s.toList)) ∧ Below w.heap.size w w' := by
  have HI := Lib.hid hI
  clear hI
  have z1 := hz.gs
  have z2 := hz.es
  clear hz
  have HT : Hid (thereB g s.toList = (hasB (ens g) s.toList || hasB (gns g) s.toList)) := Lib.hid rfl
  have C1 := fun W hW => Lib.hid (hasGroup_any W g s g.gs.length hW z1 (Nat.le_refl _))
  have C2 := fun W hW => Lib.hid (hasEvent_any W g s g.es.length hW z2 (Nat.le_refl _))
  rw [show aheadB (gns g) s.toList g.gs.length = hasB (gns g) s.toList from ahead_all Gp.name] at C1
  rw [show aheadB (ens g) s.toList g.es.length = hasB (ens g) s.toList from ahead_all Ev.name] at C2
  have hbx := box_below w g
  cases h1 : hasB (gns g) s.toList with
  | true =>
    rw [h1] at C1 HT
    clear h1
    go_enter Try.func93, Try.ntmps93
    go_wp2_with fail
    refine (C1 _ (HI.out.below (Nat.le_refl _) hbx)).out.mono ?_
    rintro e w1 ⟨rfl, hb1⟩
    go_wp2_with fail
    go_ret
    exact ⟨ret_bool (by rw [HT.out, Bool.or_true]), hbx.trans (hb1.mono hbx.size)⟩
  | false =>
    rw [h1] at C1 HT
    clear h1
    go_enter Try.func93, Try.ntmps93
    go_wp2_with fail
    refine (C1 _ (HI.out.below (Nat.le_refl _) hbx)).out.mono ?_
    rintro e w1 ⟨rfl, hb1⟩
    have hB1 : Below (w.heap.size + 1) (boxW w g) w1 := by rw [← box_size w g]; exact hb1
    obtain ⟨a0, a1, a2, a3⟩ := box_cells hB1
    have hbw := hbx.trans (hb1.mono hbx.size)
    go_wp2_with fail
    refine (C2 _ (HI.out.below (Nat.le_refl _) hbw)).out.mono ?_
    rintro e w2 ⟨rfl, hb2⟩
    go_wp2_with fail
    go_ret
    exact ⟨ret_bool (by rw [HT.out, Bool.or_false]), hbw.trans (hb2.mono hbw.size)⟩

set_option maxRecDepth 100000 in
set_option maxHeartbeats 4000000 in
theorem revent_any (w : World) (g : Gr) (i : Nat) (hI : InG w g) (hz : SzG g) (hi : i < g.es.length) :
    Calls Try.prog 72 #[.agg #[.slice g.ga g.gs.length g.gc, .slice g.ea g.es.length g.ec, .slice g.ra g.rs.length g.rc, .slice g.ua g.us.length g.uc], .int .i64 i] w fun e w' => e = .returned (.int .i64 (eventE g i)) ∧ Below w.heap.size w w' := by
  obtain ⟨b, off, hA, hb, hc⟩ := hI.es.at_ (k := 6) (fun _ => rfl) (by omega) hi
  have k0 := hc 0 _ rfl
  rw [Nat.add_zero] at k0
  have k1 := hc 1 _ rfl
  have k2 := hc 2 _ rfl
  have k3 := hc 3 _ rfl
  have k4 := hc 4 _ rfl
  have k5 := hc 5 _ rfl
  have HI := Lib.hid hI
  clear hI hc
  have z1 := hz.gs
  have z2 := hz.es
  obtain ⟨hsn, hsp, hsr, _⟩ := hz.ev _ (mem_at hi)
  clear hz
  rw [← (box_below w g).cell (p := ⟨b, _, none⟩) hb] at k0 k1 k2 k3 k4 k5
  have i0 : (0 : Int) ≤ (i : Int) := Int.natCast_nonneg _
  have i1 : (i : Int) < (g.es.length : Int) := by omega
  have HE : Hid (eventE g i = if nameK g.es[i]!.name.toList && nameK g.es[i]!.role.toList && (g.es[i]!.group.toList == [] || nameK g.es[i]!.group.toList) then
    if hasB (gns g) g.es[i]!.name.toList || aheadB (ens g) g.es[i]!.name.toList i then 6
    else if g.es[i]!.group.toList == [] || hasB (gns g) g.es[i]!.group.toList then
      if g.es[i]!.due < -1 then 3 else if 1048576 < g.es[i]!.due then 3 else 0
    else 10
  else 5) := Lib.hid rfl
  have C0 := fun W => Lib.hid (rname_any g.es[i]!.name W hsn)
  have C1 := fun W => Lib.hid (rname_any g.es[i]!.role W hsr)
  have C2 := fun W => Lib.hid (rname_any g.es[i]!.group W hsp)
  have C3 := fun W hW => Lib.hid (hasGroup_any W g g.es[i]!.name g.gs.length hW z1 (Nat.le_refl _))
  have C4 := fun W hW => Lib.hid (hasEvent_any W g g.es[i]!.name i hW z2 (Nat.le_of_lt hi))
  have C5 := fun W hW => Lib.hid (hasGroup_any W g g.es[i]!.group g.gs.length hW z1 (Nat.le_refl _))
  rw [show aheadB (gns g) g.es[i]!.name.toList g.gs.length = hasB (gns g) g.es[i]!.name.toList from ahead_all Gp.name] at C3
  rw [show aheadB (gns g) g.es[i]!.group.toList g.gs.length = hasB (gns g) g.es[i]!.group.toList from ahead_all Gp.name] at C5
  generalize g.es[i]! = p at *
  unfold boxW at k0 k1 k2 k3 k4 k5
  rw [hA] at k0 k1 k2 k3 k4 k5 ⊢
  have HA := Lib.hid hA
  clear hA
  go_enter Try.func72, Try.ntmps72
  go_wp2_with fail
  refine (C0 _).out.mono ?_
  rintro e w1 ⟨rfl, hb⟩
  rw [← HA.out] at hb
  rw [show ((w.alloc _).alloc _).heap.size = w.heap.size + 2 from rbox_size w g _] at hb
  have hB1 : Below (w.heap.size + 2) ((boxW w g).alloc _) w1 := hb
  clear hb k0 k1 k2 k3 k4 k5
  cases h1 : nameK p.name.toList with
  | false =>
    rw [h1] at HE
    clear h1
    obtain ⟨⟨a0, a1, a2, a3⟩, hx⟩ := rbox hB1
    have x0 : w1.cell? ⟨w.heap.size + 1, 0, none⟩ = some (.string p.name) := hx 0 _ rfl
    have x1 : w1.cell? ⟨w.heap.size + 1, 1, none⟩ = some (.string p.group) := hx 1 _ rfl
    have x2 : w1.cell? ⟨w.heap.size + 1, 2, none⟩ = some (.string p.role) := hx 2 _ rfl
    have x5 : w1.cell? ⟨w.heap.size + 1, 5, none⟩ = some (.int .i64 p.due) := hx 5 _ rfl
    clear hx
    go_wp2_with fail
    go_ret
    exact ⟨ret_i64 (by rw [HE.out]; rfl), rbox_old hB1⟩
  | true =>
    rw [h1] at HE
    clear h1
    obtain ⟨⟨a0, a1, a2, a3⟩, hx⟩ := rbox hB1
    have x0 : w1.cell? ⟨w.heap.size + 1, 0, none⟩ = some (.string p.name) := hx 0 _ rfl
    have x1 : w1.cell? ⟨w.heap.size + 1, 1, none⟩ = some (.string p.group) := hx 1 _ rfl
    have x2 : w1.cell? ⟨w.heap.size + 1, 2, none⟩ = some (.string p.role) := hx 2 _ rfl
    have x5 : w1.cell? ⟨w.heap.size + 1, 5, none⟩ = some (.int .i64 p.due) := hx 5 _ rfl
    clear hx
    go_wp2_with fail
    refine (C1 _).out.mono ?_
    rintro e w2 ⟨rfl, hb⟩
    have hB2 := rbox_more hB1 hb
    clear hb hB1 a0 a1 a2 a3 x0 x1 x2 x5
    cases h2 : nameK p.role.toList with
    | false =>
      rw [h2] at HE
      clear h2
      obtain ⟨⟨a0, a1, a2, a3⟩, hx⟩ := rbox hB2
      have x0 : w2.cell? ⟨w.heap.size + 1, 0, none⟩ = some (.string p.name) := hx 0 _ rfl
      have x1 : w2.cell? ⟨w.heap.size + 1, 1, none⟩ = some (.string p.group) := hx 1 _ rfl
      have x2 : w2.cell? ⟨w.heap.size + 1, 2, none⟩ = some (.string p.role) := hx 2 _ rfl
      have x5 : w2.cell? ⟨w.heap.size + 1, 5, none⟩ = some (.int .i64 p.due) := hx 5 _ rfl
      clear hx
      go_wp2_with fail
      go_ret
      exact ⟨ret_i64 (by rw [HE.out]; rfl), rbox_old hB2⟩
    | true =>
      rw [h2] at HE
      clear h2
      obtain ⟨⟨a0, a1, a2, a3⟩, hx⟩ := rbox hB2
      have x0 : w2.cell? ⟨w.heap.size + 1, 0, none⟩ = some (.string p.name) := hx 0 _ rfl
      have x1 : w2.cell? ⟨w.heap.size + 1, 1, none⟩ = some (.string p.group) := hx 1 _ rfl
      have x2 : w2.cell? ⟨w.heap.size + 1, 2, none⟩ = some (.string p.role) := hx 2 _ rfl
      have x5 : w2.cell? ⟨w.heap.size + 1, 5, none⟩ = some (.int .i64 p.due) := hx 5 _ rfl
      clear hx
      cases hq : (p.group.toList == []) with
      | true =>
        rw [hq] at HE
        go_wp2_with fail
        refine (C3 _ (HI.out.below (Nat.le_refl _) (rbox_old hB2))).out.mono ?_
        rintro e w3 ⟨rfl, hb⟩
        have hB3 := rbox_more hB2 hb
        clear hb hB2 a0 a1 a2 a3 x0 x1 x2 x5
        cases h4 : hasB (gns g) p.name.toList with
        | false =>
          rw [h4] at HE
          clear h4
          obtain ⟨⟨a0, a1, a2, a3⟩, hx⟩ := rbox hB3
          have x0 : w3.cell? ⟨w.heap.size + 1, 0, none⟩ = some (.string p.name) := hx 0 _ rfl
          have x1 : w3.cell? ⟨w.heap.size + 1, 1, none⟩ = some (.string p.group) := hx 1 _ rfl
          have x2 : w3.cell? ⟨w.heap.size + 1, 2, none⟩ = some (.string p.role) := hx 2 _ rfl
          have x5 : w3.cell? ⟨w.heap.size + 1, 5, none⟩ = some (.int .i64 p.due) := hx 5 _ rfl
          clear hx
          go_wp2_with fail
          refine (C4 _ (HI.out.below (Nat.le_refl _) (rbox_old hB3))).out.mono ?_
          rintro e w4 ⟨rfl, hb⟩
          have hB4 := rbox_more hB3 hb
          clear hb hB3 a0 a1 a2 a3 x0 x1 x2 x5
          cases h5 : aheadB (ens g) p.name.toList i with
          | false =>
            rw [h5] at HE
            clear h5
            obtain ⟨⟨a0, a1, a2, a3⟩, hx⟩ := rbox hB4
            have x0 : w4.cell? ⟨w.heap.size + 1, 0, none⟩ = some (.string p.name) := hx 0 _ rfl
            have x1 : w4.cell? ⟨w.heap.size + 1, 1, none⟩ = some (.string p.group) := hx 1 _ rfl
            have x2 : w4.cell? ⟨w.heap.size + 1, 2, none⟩ = some (.string p.role) := hx 2 _ rfl
            have x5 : w4.cell? ⟨w.heap.size + 1, 5, none⟩ = some (.int .i64 p.due) := hx 5 _ rfl
            clear hx
            by_cases d1 : p.due < -1
            · rw [if_pos d1] at HE
              go_wp2_with fail
              go_ret
              exact ⟨ret_i64 (by rw [HE.out]; rfl), rbox_old hB4⟩
            rw [if_neg d1] at HE
            by_cases d2 : 1048576 < p.due
            · rw [if_pos d2] at HE
              go_wp2_with fail
              go_ret
              exact ⟨ret_i64 (by rw [HE.out]; rfl), rbox_old hB4⟩
            · rw [if_neg d2] at HE
              go_wp2_with fail
              go_ret
              exact ⟨ret_i64 (by rw [HE.out]; rfl), rbox_old hB4⟩
          | true =>
            rw [h5] at HE
            clear h5
            obtain ⟨⟨a0, a1, a2, a3⟩, hx⟩ := rbox hB4
            have x0 : w4.cell? ⟨w.heap.size + 1, 0, none⟩ = some (.string p.name) := hx 0 _ rfl
            have x1 : w4.cell? ⟨w.heap.size + 1, 1, none⟩ = some (.string p.group) := hx 1 _ rfl
            have x2 : w4.cell? ⟨w.heap.size + 1, 2, none⟩ = some (.string p.role) := hx 2 _ rfl
            have x5 : w4.cell? ⟨w.heap.size + 1, 5, none⟩ = some (.int .i64 p.due) := hx 5 _ rfl
            clear hx
            go_wp2_with fail
            go_ret
            exact ⟨ret_i64 (by rw [HE.out]; rfl), rbox_old hB4⟩
        | true =>
          rw [h4] at HE
          clear h4
          obtain ⟨⟨a0, a1, a2, a3⟩, hx⟩ := rbox hB3
          have x0 : w3.cell? ⟨w.heap.size + 1, 0, none⟩ = some (.string p.name) := hx 0 _ rfl
          have x1 : w3.cell? ⟨w.heap.size + 1, 1, none⟩ = some (.string p.group) := hx 1 _ rfl
          have x2 : w3.cell? ⟨w.heap.size + 1, 2, none⟩ = some (.string p.role) := hx 2 _ rfl
          have x5 : w3.cell? ⟨w.heap.size + 1, 5, none⟩ = some (.int .i64 p.due) := hx 5 _ rfl
          clear hx
          go_wp2_with fail
          go_ret
          exact ⟨ret_i64 (by rw [HE.out]; rfl), rbox_old hB3⟩
      | false =>
        rw [hq] at HE
        go_wp2_with fail
        refine (C2 _).out.mono ?_
        rintro e w3 ⟨rfl, hb⟩
        have hB3 := rbox_more hB2 hb
        clear hb hB2 a0 a1 a2 a3 x0 x1 x2 x5
        cases h3 : nameK p.group.toList with
        | false =>
          rw [h3] at HE
          clear h3
          obtain ⟨⟨a0, a1, a2, a3⟩, hx⟩ := rbox hB3
          have x0 : w3.cell? ⟨w.heap.size + 1, 0, none⟩ = some (.string p.name) := hx 0 _ rfl
          have x1 : w3.cell? ⟨w.heap.size + 1, 1, none⟩ = some (.string p.group) := hx 1 _ rfl
          have x2 : w3.cell? ⟨w.heap.size + 1, 2, none⟩ = some (.string p.role) := hx 2 _ rfl
          have x5 : w3.cell? ⟨w.heap.size + 1, 5, none⟩ = some (.int .i64 p.due) := hx 5 _ rfl
          clear hx
          go_wp2_with fail
          go_ret
          exact ⟨ret_i64 (by rw [HE.out]; rfl), rbox_old hB3⟩
        | true =>
          rw [h3] at HE
          clear h3
          obtain ⟨⟨a0, a1, a2, a3⟩, hx⟩ := rbox hB3
          have x0 : w3.cell? ⟨w.heap.size + 1, 0, none⟩ = some (.string p.name) := hx 0 _ rfl
          have x1 : w3.cell? ⟨w.heap.size + 1, 1, none⟩ = some (.string p.group) := hx 1 _ rfl
          have x2 : w3.cell? ⟨w.heap.size + 1, 2, none⟩ = some (.string p.role) := hx 2 _ rfl
          have x5 : w3.cell? ⟨w.heap.size + 1, 5, none⟩ = some (.int .i64 p.due) := hx 5 _ rfl
          clear hx
          go_wp2_with fail
          refine (C3 _ (HI.out.below (Nat.le_refl _) (rbox_old hB3))).out.mono ?_
          rintro e w4 ⟨rfl, hb⟩
          have hB4 := rbox_more hB3 hb
          clear hb hB3 a0 a1 a2 a3 x0 x1 x2 x5
          cases h4 : hasB (gns g) p.name.toList with
          | false =>
            rw [h4] at HE
            clear h4
            obtain ⟨⟨a0, a1, a2, a3⟩, hx⟩ := rbox hB4
            have x0 : w4.cell? ⟨w.heap.size + 1, 0, none⟩ = some (.string p.name) := hx 0 _ rfl
            have x1 : w4.cell? ⟨w.heap.size + 1, 1, none⟩ = some (.string p.group) := hx 1 _ rfl
            have x2 : w4.cell? ⟨w.heap.size + 1, 2, none⟩ = some (.string p.role) := hx 2 _ rfl
            have x5 : w4.cell? ⟨w.heap.size + 1, 5, none⟩ = some (.int .i64 p.due) := hx 5 _ rfl
            clear hx
            go_wp2_with fail
            refine (C4 _ (HI.out.below (Nat.le_refl _) (rbox_old hB4))).out.mono ?_
            rintro e w5 ⟨rfl, hb⟩
            have hB5 := rbox_more hB4 hb
            clear hb hB4 a0 a1 a2 a3 x0 x1 x2 x5
            cases h5 : aheadB (ens g) p.name.toList i with
            | false =>
              rw [h5] at HE
              clear h5
              obtain ⟨⟨a0, a1, a2, a3⟩, hx⟩ := rbox hB5
              have x0 : w5.cell? ⟨w.heap.size + 1, 0, none⟩ = some (.string p.name) := hx 0 _ rfl
              have x1 : w5.cell? ⟨w.heap.size + 1, 1, none⟩ = some (.string p.group) := hx 1 _ rfl
              have x2 : w5.cell? ⟨w.heap.size + 1, 2, none⟩ = some (.string p.role) := hx 2 _ rfl
              have x5 : w5.cell? ⟨w.heap.size + 1, 5, none⟩ = some (.int .i64 p.due) := hx 5 _ rfl
              clear hx
              go_wp2_with fail
              refine (C5 _ (HI.out.below (Nat.le_refl _) (rbox_old hB5))).out.mono ?_
              rintro e w6 ⟨rfl, hb⟩
              have hB6 := rbox_more hB5 hb
              clear hb hB5 a0 a1 a2 a3 x0 x1 x2 x5
              cases h6 : hasB (gns g) p.group.toList with
              | false =>
                rw [h6] at HE
                clear h6
                obtain ⟨⟨a0, a1, a2, a3⟩, hx⟩ := rbox hB6
                have x0 : w6.cell? ⟨w.heap.size + 1, 0, none⟩ = some (.string p.name) := hx 0 _ rfl
                have x1 : w6.cell? ⟨w.heap.size + 1, 1, none⟩ = some (.string p.group) := hx 1 _ rfl
                have x2 : w6.cell? ⟨w.heap.size + 1, 2, none⟩ = some (.string p.role) := hx 2 _ rfl
                have x5 : w6.cell? ⟨w.heap.size + 1, 5, none⟩ = some (.int .i64 p.due) := hx 5 _ rfl
                clear hx
                go_wp2_with fail
                go_ret
                exact ⟨ret_i64 (by rw [HE.out]; rfl), rbox_old hB6⟩
              | true =>
                rw [h6] at HE
                clear h6
                obtain ⟨⟨a0, a1, a2, a3⟩, hx⟩ := rbox hB6
                have x0 : w6.cell? ⟨w.heap.size + 1, 0, none⟩ = some (.string p.name) := hx 0 _ rfl
                have x1 : w6.cell? ⟨w.heap.size + 1, 1, none⟩ = some (.string p.group) := hx 1 _ rfl
                have x2 : w6.cell? ⟨w.heap.size + 1, 2, none⟩ = some (.string p.role) := hx 2 _ rfl
                have x5 : w6.cell? ⟨w.heap.size + 1, 5, none⟩ = some (.int .i64 p.due) := hx 5 _ rfl
                clear hx
                by_cases d1 : p.due < -1
                · rw [if_pos d1] at HE
                  go_wp2_with fail
                  go_ret
                  exact ⟨ret_i64 (by rw [HE.out]; rfl), rbox_old hB6⟩
                rw [if_neg d1] at HE
                by_cases d2 : 1048576 < p.due
                · rw [if_pos d2] at HE
                  go_wp2_with fail
                  go_ret
                  exact ⟨ret_i64 (by rw [HE.out]; rfl), rbox_old hB6⟩
                · rw [if_neg d2] at HE
                  go_wp2_with fail
                  go_ret
                  exact ⟨ret_i64 (by rw [HE.out]; rfl), rbox_old hB6⟩
            | true =>
              rw [h5] at HE
              clear h5
              obtain ⟨⟨a0, a1, a2, a3⟩, hx⟩ := rbox hB5
              have x0 : w5.cell? ⟨w.heap.size + 1, 0, none⟩ = some (.string p.name) := hx 0 _ rfl
              have x1 : w5.cell? ⟨w.heap.size + 1, 1, none⟩ = some (.string p.group) := hx 1 _ rfl
              have x2 : w5.cell? ⟨w.heap.size + 1, 2, none⟩ = some (.string p.role) := hx 2 _ rfl
              have x5 : w5.cell? ⟨w.heap.size + 1, 5, none⟩ = some (.int .i64 p.due) := hx 5 _ rfl
              clear hx
              go_wp2_with fail
              go_ret
              exact ⟨ret_i64 (by rw [HE.out]; rfl), rbox_old hB5⟩
          | true =>
            rw [h4] at HE
            clear h4
            obtain ⟨⟨a0, a1, a2, a3⟩, hx⟩ := rbox hB4
            have x0 : w4.cell? ⟨w.heap.size + 1, 0, none⟩ = some (.string p.name) := hx 0 _ rfl
            have x1 : w4.cell? ⟨w.heap.size + 1, 1, none⟩ = some (.string p.group) := hx 1 _ rfl
            have x2 : w4.cell? ⟨w.heap.size + 1, 2, none⟩ = some (.string p.role) := hx 2 _ rfl
            have x5 : w4.cell? ⟨w.heap.size + 1, 5, none⟩ = some (.int .i64 p.due) := hx 5 _ rfl
            clear hx
            go_wp2_with fail
            go_ret
            exact ⟨ret_i64 (by rw [HE.out]; rfl), rbox_old hB4⟩

theorem kidx_le {α β : Type} [Inhabited α] [BEq β] [LawfulBEq β] (f : α → β) (b : β) : ∀ (l : List α) (k : Nat), k < l.length → f l[k]! = b → (l.map f).idxOf b ≤ k
  | [], _, h, _ => by simp at h
  | a :: r, 0, _, h => by
    have h' : f a = b := h
    rw [List.map_cons, h', List.idxOf_cons_self]; exact Nat.le_refl _
  | a :: r, k + 1, hk, h => by
    have ih := kidx_le f b r k (by simpa using hk) h
    rw [List.map_cons, List.idxOf_cons]
    cases (f a == b) with
    | true => exact Nat.zero_le _
    | false => exact Nat.succ_le_succ ih
theorem le_kidx {α β : Type} [Inhabited α] [BEq β] [LawfulBEq β] (f : α → β) (b : β) : ∀ (l : List α) (n : Nat), n ≤ l.length → (∀ j, j < n → f l[j]! ≠ b) → n ≤ (l.map f).idxOf b
  | _, 0, _, _ => Nat.zero_le _
  | [], n + 1, h, _ => by simp at h
  | a :: r, n + 1, hn, h => by
    have ih := le_kidx f b r n (by simpa using hn) (fun j hj => h (j + 1) (by omega))
    have h' : f a ≠ b := h 0 (by omega)
    rw [List.map_cons, List.idxOf_cons, beq_eq_false_iff_ne.2 h']
    exact Nat.succ_le_succ ih
theorem rk_hit {g : Gr} {r : Rl} {k n : Nat} (hk : k < n) (hl : k < g.rs.length) (h : rkey g.rs[k]! = rkey r) : aheadB (rks g) (rkey r) n = true := by
  have := kidx_le rkey (rkey r) g.rs k hl h
  unfold aheadB rks; rw [decide_eq_true_eq]; omega
theorem rk_miss {g : Gr} {r : Rl} {n : Nat} (hn : n ≤ g.rs.length) (h : ∀ j, j < n → rkey g.rs[j]! ≠ rkey r) : aheadB (rks g) (rkey r) n = false := by
  have := le_kidx rkey (rkey r) g.rs n hn h
  unfold aheadB rks; rw [decide_eq_false_iff_not]; omega
theorem rk_more {g : Gr} {r : Rl} {k : Nat} (h : ∀ j, j < k → rkey g.rs[j]! ≠ rkey r) (hk : rkey g.rs[k]! ≠ rkey r) : ∀ j, j < k + 1 → rkey g.rs[j]! ≠ rkey r := by
  intro j hj
  rcases Nat.lt_or_ge j k with h1 | h1
  · exact h j h1
  · obtain rfl : j = k := by omega
    exact hk
theorem rk_eq {a b : Rl} (h1 : (a.kind == b.kind) = true) (h2 : (a.src.toList == b.src.toList) = true) (h3 : (a.dst.toList == b.dst.toList) = true) : rkey a = rkey b := by
  unfold rkey; rw [eq_of_beq h1, eq_of_beq h2, eq_of_beq h3]
theorem rk_ne1 {a b : Rl} (h : (a.kind == b.kind) = false) : rkey a ≠ rkey b := fun e => by
  unfold rkey at e; rw [(Prod.mk.inj e).1, beq_self_eq_true] at h; cases h
theorem rk_ne2 {a b : Rl} (h : (a.src.toList == b.src.toList) = false) : rkey a ≠ rkey b := fun e => by
  unfold rkey at e; rw [(Prod.mk.inj (Prod.mk.inj e).2).1, beq_self_eq_true] at h; cases h
theorem rk_ne3 {a b : Rl} (h : (a.dst.toList == b.dst.toList) = false) : rkey a ≠ rkey b := fun e => by
  unfold rkey at e; rw [(Prod.mk.inj (Prod.mk.inj e).2).2, beq_self_eq_true] at h; cases h

set_option maxRecDepth 100000 in
set_option maxHeartbeats 4000000 in
theorem rrel_any (w : World) (g : Gr) (i : Nat) (hI : InG w g) (hz : SzG g) (hi : i < g.rs.length) :
    Calls Try.prog 73 #[.agg #[.slice g.ga g.gs.length g.gc, .slice g.ea g.es.length g.ec, .slice g.ra g.rs.length g.rc, .slice g.ua g.us.length g.uc], .int .i64 i] w fun e w' => e = .returned (.int .i64 (relE g i)) ∧ Below w.heap.size w w' := by
  obtain ⟨b, off, hA, hb, hc⟩ := hI.rs.at_ (k := 4) (fun _ => rfl) (by omega) hi
  have k0 := hc 0 _ rfl
  rw [Nat.add_zero] at k0
  have k1 := hc 1 _ rfl
  have k2 := hc 2 _ rfl
  have k3 := hc 3 _ rfl
  have HI := Lib.hid hI
  clear hc
  have z3 := hz.rs
  rw [← (box_below w g).cell (p := ⟨b, _, none⟩) hb] at k0 k1 k2 k3
  have i0 : (0 : Int) ≤ (i : Int) := Int.natCast_nonneg _
  have i1 : (i : Int) < (g.rs.length : Int) := by omega
  have HE : Hid (relE g i = if g.rs[i]!.kind < 1 then 1 else if 5 < g.rs[i]!.kind then 1
    else if thereB g g.rs[i]!.src.toList && thereB g g.rs[i]!.dst.toList then
      if g.rs[i]!.time < 0 then 3 else if longL g.rs[i]!.kind < g.rs[i]!.time then 3
      else if aheadB (rks g) (rkey g.rs[i]!) i then 6 else 0
    else 10) := Lib.hid rfl
  have C1 := fun W hW => Lib.hid (rthere_any W g g.rs[i]!.src hW hz)
  have C2 := fun W hW => Lib.hid (rthere_any W g g.rs[i]!.dst hW hz)
  clear hz
  generalize g.rs[i]! = p at *
  have hbx : Below w.heap.size w ((boxW w g).alloc (.cells #[.int .i64 p.kind, .string p.src, .string p.dst, .int .i64 p.time] 53)) := (box_below w g).alloc (by rw [box_size]; omega) _
  replace C1 := C1 _ (hI.below (Nat.le_refl _) hbx)
  clear hI
  unfold boxW at k0 k1 k2 k3 hbx C1
  rw [hA] at k0 k1 k2 k3 hbx C1 ⊢
  have HA := Lib.hid hA
  clear hA
  go_enter Try.func73, Try.ntmps73
  by_cases d1 : p.kind < 1
  · rw [if_pos d1] at HE
    go_wp2_with fail
    go_ret
    exact ⟨ret_i64 (by rw [HE.out]; rfl), hbx⟩
  rw [if_neg d1] at HE
  by_cases d2 : 5 < p.kind
  · rw [if_pos d2] at HE
    go_wp2_with fail
    go_ret
    exact ⟨ret_i64 (by rw [HE.out]; rfl), hbx⟩
  rw [if_neg d2] at HE
  clear hbx
  go_wp2_with fail
  refine (C1).out.mono ?_
  rintro e w1 ⟨rfl, hb⟩
  rw [← HA.out] at hb
  rw [show ((w.alloc _).alloc _).heap.size = w.heap.size + 2 from rbox_size w g _] at hb
  have hB1 : Below (w.heap.size + 2) ((boxW w g).alloc _) w1 := hb
  clear hb k0 k1 k2 k3
  cases h1 : thereB g p.src.toList with
  | false =>
    rw [h1] at HE
    clear h1
    obtain ⟨⟨a0, a1, a2, a3⟩, hx⟩ := rbox hB1
    have x0 : w1.cell? ⟨w.heap.size + 1, 0, none⟩ = some (.int .i64 p.kind) := hx 0 _ rfl
    have x1 : w1.cell? ⟨w.heap.size + 1, 1, none⟩ = some (.string p.src) := hx 1 _ rfl
    have x2 : w1.cell? ⟨w.heap.size + 1, 2, none⟩ = some (.string p.dst) := hx 2 _ rfl
    have x3 : w1.cell? ⟨w.heap.size + 1, 3, none⟩ = some (.int .i64 p.time) := hx 3 _ rfl
    clear hx
    go_wp2_with fail
    go_ret
    exact ⟨ret_i64 (by rw [HE.out]; rfl), rbox_old hB1⟩
  | true =>
    rw [h1] at HE
    clear h1
    obtain ⟨⟨a0, a1, a2, a3⟩, hx⟩ := rbox hB1
    have x0 : w1.cell? ⟨w.heap.size + 1, 0, none⟩ = some (.int .i64 p.kind) := hx 0 _ rfl
    have x1 : w1.cell? ⟨w.heap.size + 1, 1, none⟩ = some (.string p.src) := hx 1 _ rfl
    have x2 : w1.cell? ⟨w.heap.size + 1, 2, none⟩ = some (.string p.dst) := hx 2 _ rfl
    have x3 : w1.cell? ⟨w.heap.size + 1, 3, none⟩ = some (.int .i64 p.time) := hx 3 _ rfl
    clear hx
    go_wp2_with fail
    refine (C2 _ (HI.out.below (Nat.le_refl _) (rbox_old hB1))).out.mono ?_
    rintro e w2 ⟨rfl, hb⟩
    have hB2 := rbox_more hB1 hb
    clear hb hB1 a0 a1 a2 a3 x0 x1 x2 x3
    cases h2 : thereB g p.dst.toList with
    | false =>
      rw [h2] at HE
      clear h2
      obtain ⟨⟨a0, a1, a2, a3⟩, hx⟩ := rbox hB2
      have x0 : w2.cell? ⟨w.heap.size + 1, 0, none⟩ = some (.int .i64 p.kind) := hx 0 _ rfl
      have x1 : w2.cell? ⟨w.heap.size + 1, 1, none⟩ = some (.string p.src) := hx 1 _ rfl
      have x2 : w2.cell? ⟨w.heap.size + 1, 2, none⟩ = some (.string p.dst) := hx 2 _ rfl
      have x3 : w2.cell? ⟨w.heap.size + 1, 3, none⟩ = some (.int .i64 p.time) := hx 3 _ rfl
      clear hx
      go_wp2_with fail
      go_ret
      exact ⟨ret_i64 (by rw [HE.out]; rfl), rbox_old hB2⟩
    | true =>
      rw [h2] at HE
      clear h2
      obtain ⟨⟨a0, a1, a2, a3⟩, hx⟩ := rbox hB2
      have x0 : w2.cell? ⟨w.heap.size + 1, 0, none⟩ = some (.int .i64 p.kind) := hx 0 _ rfl
      have x1 : w2.cell? ⟨w.heap.size + 1, 1, none⟩ = some (.string p.src) := hx 1 _ rfl
      have x2 : w2.cell? ⟨w.heap.size + 1, 2, none⟩ = some (.string p.dst) := hx 2 _ rfl
      have x3 : w2.cell? ⟨w.heap.size + 1, 3, none⟩ = some (.int .i64 p.time) := hx 3 _ rfl
      clear hx
      rw [if_pos (show (true && true) = true from rfl)] at HE
      obtain ⟨top, htop⟩ : ∃ top, top = longL p.kind := ⟨_, rfl⟩
      rw [← htop] at HE
      unfold longL at htop
      by_cases e1 : p.kind = 1
      · rw [if_pos e1] at htop
        have f1 : (p.kind == 1) = true := beq_iff_eq.2 e1
        have f2 : (p.kind == 2) = false := beq_eq_false_iff_ne.2 (by omega)
        clear e1
        by_cases t1 : p.time < 0
        · rw [if_pos t1] at HE
          go_wp2_with fail
          go_ret
          exact ⟨ret_i64 (by rw [HE.out]; rfl), rbox_old hB2⟩
        rw [if_neg t1] at HE
        by_cases t2 : top < p.time
        · rw [if_pos t2] at HE
          subst htop
          go_wp2_with fail
          go_ret
          exact ⟨ret_i64 (by rw [HE.out]; rfl), rbox_old hB2⟩
        rw [if_neg t2] at HE
        subst htop
        go_wp2_with fail
        clear a0 a1 a2 a3 x0 x1 x2 x3
        go_loopw [7] (fun j wr => ∃ k : Nat, k ≤ i ∧ j = .int .i64 k ∧ Hid (∀ j, j < k → rkey g.rs[j]! ≠ rkey p) ∧ Below (w.heap.size + 2) ((boxW w g).alloc (.cells #[.int .i64 p.kind, .string p.src, .string p.dst, .int .i64 p.time] 53)) wr) (fun j _ => i - (intOf j).toNat)
        case atStart => exact ⟨0, Nat.zero_le _, rfl, Lib.hid (fun j hj => absurd hj (Nat.not_lt_zero _)), hB2⟩
        case round =>
          clear hB2
          obtain ⟨k, hk, rfl, HR, hB3⟩ := hrel
          obtain ⟨⟨a0, a1, a2, a3⟩, hx⟩ := rbox hB3
          have x0 : wr.cell? ⟨w.heap.size + 1, 0, none⟩ = some (.int .i64 p.kind) := hx 0 _ rfl
          have x1 : wr.cell? ⟨w.heap.size + 1, 1, none⟩ = some (.string p.src) := hx 1 _ rfl
          have x2 : wr.cell? ⟨w.heap.size + 1, 2, none⟩ = some (.string p.dst) := hx 2 _ rfl
          have x3 : wr.cell? ⟨w.heap.size + 1, 3, none⟩ = some (.int .i64 p.time) := hx 3 _ rfl
          clear hx
          have hs1 : w.heap.size + 2 ≤ wr.heap.size := by have := hB3.size; rw [World.size_alloc, box_size] at this; exact this
          have hs2 : w.heap.size < wr.heap.size := by omega
          have hs3 : w.heap.size + 1 < wr.heap.size := by omega
          by_cases hlt : k < i
          · have hll : k < g.rs.length := by omega
            obtain ⟨b, off, hA, hb, hc⟩ := HI.out.rs.at_ (k := 4) (fun _ => rfl) (by omega) hll
            have k0 := hc 0 _ rfl
            have k1 := hc 1 _ rfl
            have k2 := hc 2 _ rfl
            have k3 := hc 3 _ rfl
            rw [Nat.add_zero] at k0
            rw [← (rbox_old hB3).cell (p := ⟨b, _, none⟩) hb] at k0 k1 k2 k3
            rw [hA] at a2
            clear hA hc
            have j0 : (0 : Int) ≤ (k : Int) := Int.natCast_nonneg _
            have j1 : (k : Int) < (g.rs.length : Int) := by omega
            have j2 : (k : Int) < (i : Int) := by omega
            have hbz : b < wr.heap.size := by omega
            have hB4 : ∀ o, Below (w.heap.size + 2) ((boxW w g).alloc (.cells #[.int .i64 p.kind, .string p.src, .string p.dst, .int .i64 p.time] 53)) (wr.alloc o) := fun o => hB3.alloc hs1 o
            cases c1 : (g.rs[k]!.kind == p.kind) with
            | false =>
              have HR' := Lib.hid (rk_more HR.out (rk_ne1 c1))
              clear HR
              generalize g.rs[k]! = q at *
              go_wp2_with fail
              go_roundw
              case rel => exact ⟨k + 1, hlt, by go_num, HR', hB4 _⟩
              case measure => simp [intOf]; omega
            | true =>
              cases c2 : (g.rs[k]!.src.toList == p.src.toList) with
              | false =>
                have HR' := Lib.hid (rk_more HR.out (rk_ne2 c2))
                clear HR
                generalize g.rs[k]! = q at *
                go_wp2_with fail
                go_roundw
                case rel => exact ⟨k + 1, hlt, by go_num, HR', hB4 _⟩
                case measure => simp [intOf]; omega
              | true =>
                cases c3 : (g.rs[k]!.dst.toList == p.dst.toList) with
                | false =>
                  have HR' := Lib.hid (rk_more HR.out (rk_ne3 c3))
                  clear HR
                  generalize g.rs[k]! = q at *
                  go_wp2_with fail
                  go_roundw
                  case rel => exact ⟨k + 1, hlt, by go_num, HR', hB4 _⟩
                  case measure => simp [intOf]; omega
                | true =>
                  rw [rk_hit hlt hll (rk_eq c1 c2 c3)] at HE
                  clear HR
                  generalize g.rs[k]! = q at *
                  go_wp2_with fail
                  go_ret
                  exact ⟨ret_i64 (by rw [HE.out]; rfl), rbox_old (hB4 _)⟩
          · obtain rfl : k = i := by omega
            rw [rk_miss (Nat.le_of_lt hi) HR.out] at HE
            have j2 : ¬ (k : Int) < (k : Int) := by omega
            clear HR
            go_wp2_with fail
            go_ret
            exact ⟨ret_i64 (by rw [HE.out]; rfl), rbox_old hB3⟩
      · rw [if_neg e1] at htop
        have f1 : (p.kind == 1) = false := beq_eq_false_iff_ne.2 e1
        by_cases e2 : p.kind = 2
        · rw [if_pos e2] at htop
          have f2 : (p.kind == 2) = true := beq_iff_eq.2 e2
          clear e1 e2
          by_cases t1 : p.time < 0
          · rw [if_pos t1] at HE
            go_wp2_with fail
            go_ret
            exact ⟨ret_i64 (by rw [HE.out]; rfl), rbox_old hB2⟩
          rw [if_neg t1] at HE
          by_cases t2 : top < p.time
          · rw [if_pos t2] at HE
            subst htop
            go_wp2_with fail
            go_ret
            exact ⟨ret_i64 (by rw [HE.out]; rfl), rbox_old hB2⟩
          rw [if_neg t2] at HE
          subst htop
          go_wp2_with fail
          clear a0 a1 a2 a3 x0 x1 x2 x3
          go_loopw [7] (fun j wr => ∃ k : Nat, k ≤ i ∧ j = .int .i64 k ∧ Hid (∀ j, j < k → rkey g.rs[j]! ≠ rkey p) ∧ Below (w.heap.size + 2) ((boxW w g).alloc (.cells #[.int .i64 p.kind, .string p.src, .string p.dst, .int .i64 p.time] 53)) wr) (fun j _ => i - (intOf j).toNat)
          case atStart => exact ⟨0, Nat.zero_le _, rfl, Lib.hid (fun j hj => absurd hj (Nat.not_lt_zero _)), hB2⟩
          case round =>
            clear hB2
            obtain ⟨k, hk, rfl, HR, hB3⟩ := hrel
            obtain ⟨⟨a0, a1, a2, a3⟩, hx⟩ := rbox hB3
            have x0 : wr.cell? ⟨w.heap.size + 1, 0, none⟩ = some (.int .i64 p.kind) := hx 0 _ rfl
            have x1 : wr.cell? ⟨w.heap.size + 1, 1, none⟩ = some (.string p.src) := hx 1 _ rfl
            have x2 : wr.cell? ⟨w.heap.size + 1, 2, none⟩ = some (.string p.dst) := hx 2 _ rfl
            have x3 : wr.cell? ⟨w.heap.size + 1, 3, none⟩ = some (.int .i64 p.time) := hx 3 _ rfl
            clear hx
            have hs1 : w.heap.size + 2 ≤ wr.heap.size := by have := hB3.size; rw [World.size_alloc, box_size] at this; exact this
            have hs2 : w.heap.size < wr.heap.size := by omega
            have hs3 : w.heap.size + 1 < wr.heap.size := by omega
            by_cases hlt : k < i
            · have hll : k < g.rs.length := by omega
              obtain ⟨b, off, hA, hb, hc⟩ := HI.out.rs.at_ (k := 4) (fun _ => rfl) (by omega) hll
              have k0 := hc 0 _ rfl
              have k1 := hc 1 _ rfl
              have k2 := hc 2 _ rfl
              have k3 := hc 3 _ rfl
              rw [Nat.add_zero] at k0
              rw [← (rbox_old hB3).cell (p := ⟨b, _, none⟩) hb] at k0 k1 k2 k3
              rw [hA] at a2
              clear hA hc
              have j0 : (0 : Int) ≤ (k : Int) := Int.natCast_nonneg _
              have j1 : (k : Int) < (g.rs.length : Int) := by omega
              have j2 : (k : Int) < (i : Int) := by omega
              have hbz : b < wr.heap.size := by omega
              have hB4 : ∀ o, Below (w.heap.size + 2) ((boxW w g).alloc (.cells #[.int .i64 p.kind, .string p.src, .string p.dst, .int .i64 p.time] 53)) (wr.alloc o) := fun o => hB3.alloc hs1 o
              cases c1 : (g.rs[k]!.kind == p.kind) with
              | false =>
                have HR' := Lib.hid (rk_more HR.out (rk_ne1 c1))
                clear HR
                generalize g.rs[k]! = q at *
                go_wp2_with fail
                go_roundw
                case rel => exact ⟨k + 1, hlt, by go_num, HR', hB4 _⟩
                case measure => simp [intOf]; omega
              | true =>
                cases c2 : (g.rs[k]!.src.toList == p.src.toList) with
                | false =>
                  have HR' := Lib.hid (rk_more HR.out (rk_ne2 c2))
                  clear HR
                  generalize g.rs[k]! = q at *
                  go_wp2_with fail
                  go_roundw
                  case rel => exact ⟨k + 1, hlt, by go_num, HR', hB4 _⟩
                  case measure => simp [intOf]; omega
                | true =>
                  cases c3 : (g.rs[k]!.dst.toList == p.dst.toList) with
                  | false =>
                    have HR' := Lib.hid (rk_more HR.out (rk_ne3 c3))
                    clear HR
                    generalize g.rs[k]! = q at *
                    go_wp2_with fail
                    go_roundw
                    case rel => exact ⟨k + 1, hlt, by go_num, HR', hB4 _⟩
                    case measure => simp [intOf]; omega
                  | true =>
                    rw [rk_hit hlt hll (rk_eq c1 c2 c3)] at HE
                    clear HR
                    generalize g.rs[k]! = q at *
                    go_wp2_with fail
                    go_ret
                    exact ⟨ret_i64 (by rw [HE.out]; rfl), rbox_old (hB4 _)⟩
            · obtain rfl : k = i := by omega
              rw [rk_miss (Nat.le_of_lt hi) HR.out] at HE
              have j2 : ¬ (k : Int) < (k : Int) := by omega
              clear HR
              go_wp2_with fail
              go_ret
              exact ⟨ret_i64 (by rw [HE.out]; rfl), rbox_old hB3⟩
        · rw [if_neg e2] at htop
          have f2 : (p.kind == 2) = false := beq_eq_false_iff_ne.2 e2
          clear e1 e2
          by_cases t1 : p.time < 0
          · rw [if_pos t1] at HE
            go_wp2_with fail
            go_ret
            exact ⟨ret_i64 (by rw [HE.out]; rfl), rbox_old hB2⟩
          rw [if_neg t1] at HE
          by_cases t2 : top < p.time
          · rw [if_pos t2] at HE
            subst htop
            go_wp2_with fail
            go_ret
            exact ⟨ret_i64 (by rw [HE.out]; rfl), rbox_old hB2⟩
          rw [if_neg t2] at HE
          subst htop
          go_wp2_with fail
          clear a0 a1 a2 a3 x0 x1 x2 x3
          go_loopw [7] (fun j wr => ∃ k : Nat, k ≤ i ∧ j = .int .i64 k ∧ Hid (∀ j, j < k → rkey g.rs[j]! ≠ rkey p) ∧ Below (w.heap.size + 2) ((boxW w g).alloc (.cells #[.int .i64 p.kind, .string p.src, .string p.dst, .int .i64 p.time] 53)) wr) (fun j _ => i - (intOf j).toNat)
          case atStart => exact ⟨0, Nat.zero_le _, rfl, Lib.hid (fun j hj => absurd hj (Nat.not_lt_zero _)), hB2⟩
          case round =>
            clear hB2
            obtain ⟨k, hk, rfl, HR, hB3⟩ := hrel
            obtain ⟨⟨a0, a1, a2, a3⟩, hx⟩ := rbox hB3
            have x0 : wr.cell? ⟨w.heap.size + 1, 0, none⟩ = some (.int .i64 p.kind) := hx 0 _ rfl
            have x1 : wr.cell? ⟨w.heap.size + 1, 1, none⟩ = some (.string p.src) := hx 1 _ rfl
            have x2 : wr.cell? ⟨w.heap.size + 1, 2, none⟩ = some (.string p.dst) := hx 2 _ rfl
            have x3 : wr.cell? ⟨w.heap.size + 1, 3, none⟩ = some (.int .i64 p.time) := hx 3 _ rfl
            clear hx
            have hs1 : w.heap.size + 2 ≤ wr.heap.size := by have := hB3.size; rw [World.size_alloc, box_size] at this; exact this
            have hs2 : w.heap.size < wr.heap.size := by omega
            have hs3 : w.heap.size + 1 < wr.heap.size := by omega
            by_cases hlt : k < i
            · have hll : k < g.rs.length := by omega
              obtain ⟨b, off, hA, hb, hc⟩ := HI.out.rs.at_ (k := 4) (fun _ => rfl) (by omega) hll
              have k0 := hc 0 _ rfl
              have k1 := hc 1 _ rfl
              have k2 := hc 2 _ rfl
              have k3 := hc 3 _ rfl
              rw [Nat.add_zero] at k0
              rw [← (rbox_old hB3).cell (p := ⟨b, _, none⟩) hb] at k0 k1 k2 k3
              rw [hA] at a2
              clear hA hc
              have j0 : (0 : Int) ≤ (k : Int) := Int.natCast_nonneg _
              have j1 : (k : Int) < (g.rs.length : Int) := by omega
              have j2 : (k : Int) < (i : Int) := by omega
              have hbz : b < wr.heap.size := by omega
              have hB4 : ∀ o, Below (w.heap.size + 2) ((boxW w g).alloc (.cells #[.int .i64 p.kind, .string p.src, .string p.dst, .int .i64 p.time] 53)) (wr.alloc o) := fun o => hB3.alloc hs1 o
              cases c1 : (g.rs[k]!.kind == p.kind) with
              | false =>
                have HR' := Lib.hid (rk_more HR.out (rk_ne1 c1))
                clear HR
                generalize g.rs[k]! = q at *
                go_wp2_with fail
                go_roundw
                case rel => exact ⟨k + 1, hlt, by go_num, HR', hB4 _⟩
                case measure => simp [intOf]; omega
              | true =>
                cases c2 : (g.rs[k]!.src.toList == p.src.toList) with
                | false =>
                  have HR' := Lib.hid (rk_more HR.out (rk_ne2 c2))
                  clear HR
                  generalize g.rs[k]! = q at *
                  go_wp2_with fail
                  go_roundw
                  case rel => exact ⟨k + 1, hlt, by go_num, HR', hB4 _⟩
                  case measure => simp [intOf]; omega
                | true =>
                  cases c3 : (g.rs[k]!.dst.toList == p.dst.toList) with
                  | false =>
                    have HR' := Lib.hid (rk_more HR.out (rk_ne3 c3))
                    clear HR
                    generalize g.rs[k]! = q at *
                    go_wp2_with fail
                    go_roundw
                    case rel => exact ⟨k + 1, hlt, by go_num, HR', hB4 _⟩
                    case measure => simp [intOf]; omega
                  | true =>
                    rw [rk_hit hlt hll (rk_eq c1 c2 c3)] at HE
                    clear HR
                    generalize g.rs[k]! = q at *
                    go_wp2_with fail
                    go_ret
                    exact ⟨ret_i64 (by rw [HE.out]; rfl), rbox_old (hB4 _)⟩
            · obtain rfl : k = i := by omega
              rw [rk_miss (Nat.le_of_lt hi) HR.out] at HE
              have j2 : ¬ (k : Int) < (k : Int) := by omega
              clear HR
              go_wp2_with fail
              go_ret
              exact ⟨ret_i64 (by rw [HE.out]; rfl), rbox_old hB3⟩

theorem user_yes {g : Gr} {s : Key} {n : Nat} (h : aheadB (uns g) s n = true) : userAt g s n = (((uns g).idxOf s : Nat) : Int) := by rw [userAt, h]; rfl
theorem user_none {g : Gr} {s : Key} (h : hasB (uns g) s = false) : userAt g s g.us.length = -1 := by
  have h1 : aheadB (uns g) s g.us.length = false := by
    have h2 : (uns g).length = g.us.length := List.length_map _
    cases h3 : aheadB (uns g) s g.us.length with
    | false => rfl
    | true =>
      unfold aheadB at h3; rw [decide_eq_true_eq, ← h2] at h3
      have h4 := List.contains_iff_mem.2 (List.idxOf_lt_length_iff.1 h3)
      unfold hasB at h; rw [h4] at h; cases h
  rw [userAt, h1]; rfl
theorem user_lt {g : Gr} {s : Key} (h : hasB (uns g) s = true) : (uns g).idxOf s < g.us.length := by
  have h2 : (uns g).length = g.us.length := List.length_map _
  rw [← h2]; exact List.idxOf_lt_length_iff.2 (List.contains_iff_mem.1 h)
theorem user_some {g : Gr} {s : Key} (h : hasB (uns g) s = true) : userAt g s g.us.length = (((uns g).idxOf s : Nat) : Int) :=
  user_yes (by unfold aheadB; rw [decide_eq_true_eq]; exact user_lt h)
theorem rback_step (g : Gr) (i n f : Nat) : backL g i (n + 1) f = if (g.us[f]!.sub.toList == []) = true then false else if hasB (uns g) g.us[f]!.sub.toList = true then (if (uns g).idxOf g.us[f]!.sub.toList = i then true else backL g i n ((uns g).idxOf g.us[f]!.sub.toList)) else false := rfl
theorem names_step {l : List ByteArray} {k : Nat} (h : ∀ j, j < k → nameK l[j]!.toList = true) (hk : nameK l[k]!.toList = true) : ∀ j, j < k + 1 → nameK l[j]!.toList = true := by
  intro j hj
  by_cases e : j = k
  · rw [e]; exact hk
  · exact h j (by omega)
theorem names_all {l : List ByteArray} (h : ∀ j, j < l.length → nameK l[j]!.toList = true) : (l.all fun s => nameK s.toList) = true := by
  rw [List.all_eq_true]
  intro s hs
  obtain ⟨j, hj, rfl⟩ := List.getElem_of_mem hs
  have := h j hj
  rw [getElem!_pos l j hj] at this; exact this
theorem names_not {l : List ByteArray} {k : Nat} (hk : k < l.length) (h : nameK l[k]!.toList = false) : (l.all fun s => nameK s.toList) = false := by
  rw [List.all_eq_false]
  exact ⟨_, mem_at hk, by rw [h]; decide⟩
theorem no_take {l : List ByteArray} {k : Nat} (hk : k < l.length) (h : ∀ j, j < k → (l[j]!.toList == l[k]!.toList) = false) : ((l.take k).map (·.toList)).contains l[k]!.toList = false := by
  cases hc : ((l.take k).map (·.toList)).contains l[k]!.toList with
  | false => rfl
  | true =>
    rw [List.contains_iff_mem] at hc
    obtain ⟨x, hx, e⟩ := List.mem_map.1 hc
    obtain ⟨j, hj, rfl⟩ := List.getElem_of_mem hx
    rw [List.length_take] at hj
    have h1 := h j (by omega)
    rw [getElem!_pos l j (by omega), ← List.getElem_take (j := k) (h := by rw [List.length_take]; omega), beq_eq_false_iff_ne] at h1
    exact absurd e h1
theorem yes_take {l : List ByteArray} {j k : Nat} (hj : j < k) (hk : k < l.length) (h : (l[j]!.toList == l[k]!.toList) = true) : ((l.take k).map (·.toList)).contains l[k]!.toList = true := by
  rw [List.contains_iff_mem, ← beq_iff_eq.1 h]
  refine List.mem_map.2 ⟨l[j]!, ?_, rfl⟩
  rw [getElem!_pos l j (by omega), ← List.getElem_take (j := k) (h := by rw [List.length_take]; omega)]
  exact List.getElem_mem _
theorem none_more {l : List ByteArray} {x : Key} {k : Nat} (h : ∀ j, j < k → (l[j]!.toList == x) = false) (hk : (l[k]!.toList == x) = false) : ∀ j, j < k + 1 → (l[j]!.toList == x) = false := by
  intro j hj
  by_cases e : j = k
  · rw [e]; exact hk
  · exact h j (by omega)
/-- The two boxes, and all that came in, stand as they did. -/
abbrev UX (w : World) (g : Gr) (p : Us) (W : World) : Prop := Below (w.heap.size + 2) ((boxW w g).alloc (.cells #[.string p.name, .slice p.ra p.roles.length p.rc, .string p.sub] 87)) W

set_option maxRecDepth 100000 in
set_option maxHeartbeats 8000000 in
theorem ruser_any (w : World) (g : Gr) (i : Nat) (hI : InG w g) (hz : SzG g) (hi : i < g.us.length) :
    Calls Try.prog 74 #[.agg #[.slice g.ga g.gs.length g.gc, .slice g.ea g.es.length g.ec, .slice g.ra g.rs.length g.rc, .slice g.ua g.us.length g.uc], .int .i64 i] w fun e w' => e = .returned (.int .i64 (userE g i)) ∧ Below w.heap.size w w' := by
  obtain ⟨b, off, hA, hbb, hc⟩ := hI.us.at_ (k := 3) (fun _ => rfl) (by omega) hi
  have k0 := hc 0 _ rfl
  rw [Nat.add_zero] at k0
  have k1 := hc 1 _ rfl
  have k2 := hc 2 _ rfl
  have HRo := Lib.hid (hI.roles _ (mem_at hi))
  have HI := Lib.hid hI
  have z1 := hz.us
  obtain ⟨hsn, hss, hrl, hrs⟩ := hz.ur _ (mem_at hi)
  have HRS := Lib.hid hrs
  clear hI hc hz hrs
  rw [← (box_below w g).cell (p := ⟨b, _, none⟩) hbb] at k0 k1 k2
  have i0 : (0 : Int) ≤ (i : Int) := Int.natCast_nonneg _
  have i1 : (i : Int) < (g.us.length : Int) := by omega
  have HE : Hid (userE g i = if nameK g.us[i]!.name.toList && g.us[i]!.roles.all (fun s => nameK s.toList) then
    if aheadB (uns g) g.us[i]!.name.toList i || repeatsL (g.us[i]!.roles.map (·.toList)) g.us[i]!.roles.length then 6
    else if g.us[i]!.sub.toList == [] || hasB (uns g) g.us[i]!.sub.toList then
      if backL g i g.us.length i then 7 else 0
    else 10
  else 5) := Lib.hid rfl
  have C0 := fun W => Lib.hid (rname_any g.us[i]!.name W hsn)
  have C1 := fun W hW => Lib.hid (hasUser_any W g g.us[i]!.name i hW z1 (Nat.le_of_lt hi))
  have C2 := fun W hW => Lib.hid (hasUser_any W g g.us[i]!.sub g.us.length hW z1 (Nat.le_refl _))
  generalize g.us[i]! = p at *
  unfold boxW at k0 k1 k2
  rw [hA] at k0 k1 k2 ⊢
  have HA := Lib.hid hA
  clear hA
  go_enter Try.func74, Try.ntmps74
  go_wp2_with fail
  refine (C0 _).out.mono ?_
  rintro e w1 ⟨rfl, hb⟩
  rw [← HA.out] at hb
  rw [show ((w.alloc _).alloc _).heap.size = w.heap.size + 2 from rbox_size w g _] at hb
  have X1 : Hid (UX w g p w1) := Lib.hid hb
  clear hb k0 k1 k2
  cases h1 : nameK p.name.toList with
  | false =>
    rw [h1] at HE
    clear h1
    obtain ⟨⟨a0, a1, a2, a3⟩, hx⟩ := rbox X1.out
    have x0 : w1.cell? ⟨w.heap.size + 1, 0, none⟩ = some (.string p.name) := hx 0 _ rfl
    have x1 : w1.cell? ⟨w.heap.size + 1, 1, none⟩ = some (.slice p.ra p.roles.length p.rc) := hx 1 _ rfl
    have x2 : w1.cell? ⟨w.heap.size + 1, 2, none⟩ = some (.string p.sub) := hx 2 _ rfl
    clear hx
    go_wp2_with fail
    go_ret
    exact ⟨ret_i64 (by rw [HE.out]; rfl), rbox_old X1.out⟩
  | true =>
    rw [h1] at HE
    clear h1
    obtain ⟨⟨a0, a1, a2, a3⟩, hx⟩ := rbox X1.out
    have x0 : w1.cell? ⟨w.heap.size + 1, 0, none⟩ = some (.string p.name) := hx 0 _ rfl
    have x1 : w1.cell? ⟨w.heap.size + 1, 1, none⟩ = some (.slice p.ra p.roles.length p.rc) := hx 1 _ rfl
    have x2 : w1.cell? ⟨w.heap.size + 1, 2, none⟩ = some (.string p.sub) := hx 2 _ rfl
    clear hx
    go_wp2_with fail
    clear a0 a1 a2 a3 x0 x1 x2
    go_loopw [6] (fun i wr => ∃ k : Nat, k ≤ p.roles.length ∧ i = .int .i64 k ∧ Hid (∀ j, j < k → nameK p.roles[j]!.toList = true) ∧ Hid (UX w g p wr)) (fun i _ => p.roles.length - (intOf i).toNat)
    case atStart => exact ⟨0, Nat.zero_le _, rfl, Lib.hid (fun j hj => absurd hj (Nat.not_lt_zero _)), X1⟩
    case round =>
      clear X1
      obtain ⟨k, hk, rfl, HN, HX⟩ := hrel
      obtain ⟨⟨a0, a1, a2, a3⟩, hx⟩ := rbox HX.out
      have x0 : wr.cell? ⟨w.heap.size + 1, 0, none⟩ = some (.string p.name) := hx 0 _ rfl
      have x1 : wr.cell? ⟨w.heap.size + 1, 1, none⟩ = some (.slice p.ra p.roles.length p.rc) := hx 1 _ rfl
      have x2 : wr.cell? ⟨w.heap.size + 1, 2, none⟩ = some (.string p.sub) := hx 2 _ rfl
      clear hx
      by_cases hlt : k < p.roles.length
      · obtain ⟨rb, roff, hAr, hrb, hcr⟩ := HRo.out.str_at (i := k) hlt
        rw [hAr] at x1
        rw [← (rbox_old HX.out).cell (p := ⟨rb, _, none⟩) hrb] at hcr
        have hk0 : (0 : Int) ≤ (k : Int) := Int.natCast_nonneg _
        have hk1 : (k : Int) < (p.roles.length : Int) := by omega
        have C := fun W => Lib.hid (rname_any p.roles[k]! W (HRS.out _ (mem_at hlt)))
        clear hAr
        cases hn : nameK p.roles[k]!.toList with
        | false =>
          have HF := Lib.hid (names_not hlt hn)
          rw [hn] at C
          clear hn HN
          generalize p.roles[k]! = s at *
          go_wp2_with fail
          refine (C _).out.mono ?_
          rintro e w2 ⟨rfl, hb2⟩
          have HB2 := rbox_more HX.out hb2
          go_wp2_with fail
          go_ret
          exact ⟨ret_i64 (by rw [HE.out, HF.out]; rfl), rbox_old HB2⟩
        | true =>
          have HN' := Lib.hid (names_step HN.out hn)
          rw [hn] at C
          clear hn HN
          generalize p.roles[k]! = s at *
          go_wp2_with fail
          refine (C _).out.mono ?_
          rintro e w2 ⟨rfl, hb2⟩
          have HB2 := rbox_more HX.out hb2
          clear a0 a1 a2 a3 x0 x1 x2 hcr
          go_wp2_with fail
          go_roundw
          case rel => exact ⟨k + 1, hlt, by go_num, HN', Lib.hid HB2⟩
          case measure => simp [intOf]; omega
      · obtain rfl : k = p.roles.length := by omega
        have HE2 : Hid (userE g i = if aheadB (uns g) p.name.toList i || repeatsL (p.roles.map (·.toList)) p.roles.length then 6
          else if p.sub.toList == [] || hasB (uns g) p.sub.toList then
            if backL g i g.us.length i then 7 else 0
          else 10) := Lib.hid (by rw [HE.out, names_all HN.out]; rfl)
        clear HE HN hk hlt
        cases h3 : aheadB (uns g) p.name.toList i with
        | true =>
          rw [user_yes h3] at C1
          rw [h3] at HE2
          clear h3
          generalize (uns g).idxOf p.name.toList = q at *
          have hq0 : (0 : Int) ≤ (q : Int) := Int.natCast_nonneg _
          go_wp2_with fail
          refine (C1 _ (HI.out.below (Nat.le_refl _) (rbox_old HX.out))).out.mono ?_
          rintro e w3 ⟨rfl, hb3⟩
          have HB3 := rbox_more HX.out hb3
          go_wp2_with fail
          go_ret
          exact ⟨ret_i64 (by rw [HE2.out]; rfl), rbox_old HB3⟩
        | false =>
          rw [user_miss h3] at C1
          rw [h3] at HE2
          clear h3
          go_wp2_with fail
          refine (C1 _ (HI.out.below (Nat.le_refl _) (rbox_old HX.out))).out.mono ?_
          rintro e w3 ⟨rfl, hb3⟩
          have X3 : Hid (UX w g p w3) := Lib.hid (rbox_more HX.out hb3)
          clear hb3 HX a0 a1 a2 a3 x0 x1 x2
          obtain ⟨⟨a0, a1, a2, a3⟩, hx⟩ := rbox X3.out
          have x0 : w3.cell? ⟨w.heap.size + 1, 0, none⟩ = some (.string p.name) := hx 0 _ rfl
          have x1 : w3.cell? ⟨w.heap.size + 1, 1, none⟩ = some (.slice p.ra p.roles.length p.rc) := hx 1 _ rfl
          have x2 : w3.cell? ⟨w.heap.size + 1, 2, none⟩ = some (.string p.sub) := hx 2 _ rfl
          clear hx
          go_wp2_with fail
          clear a0 a1 a2 a3 x0 x1 x2
          go_loopw [7] (fun i wr => ∃ k : Nat, k ≤ p.roles.length ∧ i = .int .i64 k ∧ Hid (repeatsL (p.roles.map (·.toList)) k = false) ∧ Hid (UX w g p wr)) (fun i _ => p.roles.length - (intOf i).toNat)
          case atStart => exact ⟨0, Nat.zero_le _, rfl, Lib.hid rfl, X3⟩
          case round =>
            clear X3
            obtain ⟨k, hk, rfl, HR, HX⟩ := hrel
            obtain ⟨⟨a0, a1, a2, a3⟩, hx⟩ := rbox HX.out
            have x0 : wr.cell? ⟨w.heap.size + 1, 0, none⟩ = some (.string p.name) := hx 0 _ rfl
            have x1 : wr.cell? ⟨w.heap.size + 1, 1, none⟩ = some (.slice p.ra p.roles.length p.rc) := hx 1 _ rfl
            have x2 : wr.cell? ⟨w.heap.size + 1, 2, none⟩ = some (.string p.sub) := hx 2 _ rfl
            clear hx
            by_cases hlt : k < p.roles.length
            · have hk0 : (0 : Int) ≤ (k : Int) := Int.natCast_nonneg _
              have hk1 : (k : Int) < (p.roles.length : Int) := by omega
              obtain ⟨rb, roff, hAr, hrb, hcr⟩ := HRo.out.str_at (i := k) hlt
              have HAr := Lib.hid hAr
              have HCr := Lib.hid hcr
              clear hAr hcr
              go_wp2_with fail
              obtain ⟨wo, rfl⟩ : ∃ wo : World, wo = wr := ⟨_, rfl⟩
              clear a0 a1 a2 a3 x0 x1 x2
              go_loopw [8] (fun i wr => ∃ j : Nat, j ≤ k ∧ i = .int .i64 j ∧ Hid (∀ m, m < j → (p.roles[m]!.toList == p.roles[k]!.toList) = false) ∧ Hid (UX w g p wr)) (fun i _ => k - (intOf i).toNat)
              case atStart => exact ⟨0, Nat.zero_le _, rfl, Lib.hid (fun j hj => absurd hj (Nat.not_lt_zero _)), HX⟩
              case round =>
                clear HX
                obtain ⟨j, hj, rfl, HM, HX⟩ := hrel
                obtain ⟨⟨a0, a1, a2, a3⟩, hx⟩ := rbox HX.out
                have x0 : wr.cell? ⟨w.heap.size + 1, 0, none⟩ = some (.string p.name) := hx 0 _ rfl
                have x1 : wr.cell? ⟨w.heap.size + 1, 1, none⟩ = some (.slice p.ra p.roles.length p.rc) := hx 1 _ rfl
                have x2 : wr.cell? ⟨w.heap.size + 1, 2, none⟩ = some (.string p.sub) := hx 2 _ rfl
                clear hx
                by_cases hjt : j < k
                · obtain ⟨rb', roff', hAr', _, hcj⟩ := HRo.out.str_at (i := j) (by omega)
                  obtain ⟨rfl, rfl⟩ : rb' = rb ∧ roff' = roff := by
                    have h1 := hAr'.symm.trans HAr.out
                    injection h1 with h1
                    injection h1 with h1 h2
                    exact ⟨h1, h2⟩
                  have hck := HCr.out
                  rw [hAr'] at x1
                  rw [← (rbox_old HX.out).cell (p := ⟨rb', _, none⟩) hrb] at hcj hck
                  have hj0 : (0 : Int) ≤ (j : Int) := Int.natCast_nonneg _
                  have hj1 : (j : Int) < (k : Int) := by omega
                  have hj2 : (j : Int) < (p.roles.length : Int) := by omega
                  have hrw : rb' < wr.heap.size := by have := (rbox_old HX.out).size; omega
                  clear hAr'
                  cases hq : (p.roles[j]!.toList == p.roles[k]!.toList) with
                  | true =>
                    have HF := Lib.hid (rep_hit hlt (yes_take hjt hlt hq))
                    clear HM
                    generalize p.roles[j]! = s at *
                    generalize p.roles[k]! = t at *
                    go_wp2_with fail
                    go_quiet (fail)
                    go_wp2_with fail
                    go_ret
                    exact ⟨ret_i64 (by rw [HE2.out, HF.out]; rfl), rbox_old (below_draws HX.out _)⟩
                  | false =>
                    have HM' := Lib.hid (none_more HM.out hq)
                    clear HM
                    generalize p.roles[j]! = s at *
                    obtain ⟨t, ht⟩ : ∃ t, p.roles[k]! = t := ⟨_, rfl⟩
                    rw [ht] at hq hck
                    clear ht
                    go_wp2_with fail
                    go_quiet (fail)
                    go_wp2_with fail
                    go_roundw
                    case rel => exact ⟨j + 1, hjt, by go_num, HM', Lib.hid (below_draws HX.out _)⟩
                    case measure => simp [intOf]; omega
                · obtain rfl : j = k := by omega
                  have HR' := Lib.hid (rep_step hlt HR.out (no_take hlt HM.out))
                  clear HM HR a0 a1 a2 a3 x0 x1 x2
                  go_wp2_with fail
                  go_roundw
                  case rel => exact ⟨j + 1, hlt, by go_num, HR', HX⟩
                  case measure => simp [intOf]; omega
            · obtain rfl : k = p.roles.length := by omega
              have HE5 : Hid (userE g i = if p.sub.toList == [] || hasB (uns g) p.sub.toList then
                  if backL g i g.us.length i then 7 else 0
                else 10) := Lib.hid (by rw [HE2.out, HR.out]; rfl)
              clear HE2 HR hk hlt
              cases hq : (p.sub.toList == []) with
              | true =>
                have HE3 : Hid (userE g i = if backL g i g.us.length i then 7 else 0) := Lib.hid (by rw [HE5.out, hq]; rfl)
                clear HE5
                go_wp2_with fail
                clear hq
                clear a0 a1 a2 a3 x0 x1 x2
                go_loopw [10, 11] (fun a k wr => ∃ (f m : Nat), m ≤ g.us.length ∧ f < g.us.length ∧ a = .int .i64 f ∧ k = .int .i64 m ∧ Hid (backL g i (g.us.length - m) f = backL g i g.us.length i) ∧ Hid (UX w g p wr)) (fun _ k _ => g.us.length - (intOf k).toNat)
                case atStart => exact ⟨i, 0, Nat.zero_le _, hi, rfl, rfl, Lib.hid rfl, HX⟩
                case round =>
                  obtain ⟨f, m, hm, hf, rfl, rfl, HBk, HX⟩ := hrel
                  obtain ⟨⟨a0, a1, a2, a3⟩, hx⟩ := rbox HX.out
                  clear hx
                  by_cases hlt : m < g.us.length
                  · obtain ⟨b', off', hA', _, hc⟩ := HI.out.us.at_ (k := 3) (fun _ => rfl) (by omega) hf
                    obtain ⟨rfl, rfl⟩ : b' = b ∧ off' = off := by
                      have h1 := hA'.symm.trans HA.out
                      injection h1 with h1
                      injection h1 with h1 h2
                      exact ⟨h1, h2⟩
                    have c2 := hc 2 _ rfl
                    rw [← (rbox_old HX.out).cell (p := ⟨b', _, none⟩) hbb] at c2
                    have hbw : b' < wr.heap.size := by have := (rbox_old HX.out).size; omega
                    rw [HA.out] at a3
                    have hm0 : (0 : Int) ≤ (m : Int) := Int.natCast_nonneg _
                    have hm1 : (m : Int) < (g.us.length : Int) := by omega
                    have hf0 : (0 : Int) ≤ (f : Int) := Int.natCast_nonneg _
                    have hf1 : (f : Int) < (g.us.length : Int) := by omega
                    have HS := Lib.hid (rback_step g i (g.us.length - (m + 1)) f)
                    have HN : Hid (g.us.length - m = g.us.length - (m + 1) + 1) := Lib.hid (by omega)
                    rw [HN.out] at HBk
                    have HW2 : Hid (Below (w.heap.size + 2) ((boxW w g).alloc (.cells #[.string p.name, .slice p.ra p.roles.length p.rc, .string p.sub] 87)) wr.drew) := Lib.hid (below_draws HX.out 1)
                    have C := Lib.hid (hasUser_any wr.drew g g.us[f]!.sub g.us.length (HI.out.below (Nat.le_refl _) (rbox_old HW2.out)) z1 (Nat.le_refl _))
                    rw [HA.out] at C
                    clear hc hA'
                    cases hq : (g.us[f]!.sub.toList == []) with
                    | true =>
                      have HE4 : Hid (userE g i = 0) := Lib.hid (by rw [HE3.out, ← HBk.out, HS.out, hq]; rfl)
                      clear C
                      generalize g.us[f]!.sub = s at *
                      go_wp2_with fail
                      go_ret
                      exact ⟨ret_i64 (by rw [HE4.out]; rfl), rbox_old HX.out⟩
                    | false =>
                      cases hu : hasB (uns g) g.us[f]!.sub.toList with
                      | false =>
                        have HE4 : Hid (userE g i = 0) := Lib.hid (by rw [HE3.out, ← HBk.out, HS.out, hq, hu]; rfl)
                        rw [user_none hu] at C
                        clear HS hu
                        generalize g.us[f]!.sub = s at *
                        go_wp2_with fail
                        go_still_tail 8, (by kernel_rfl)
                        go_wp2_with fail
                        refine C.out.mono ?_
                        rintro e w5 ⟨rfl, hb5⟩
                        have hB5 := rbox_more HW2.out hb5
                        go_wp2_with fail
                        go_ret
                        exact ⟨ret_i64 (by rw [HE4.out]; rfl), rbox_old hB5⟩
                      | true =>
                        have hq2 := user_lt hu
                        have HS2 : Hid (backL g i (g.us.length - m) f = if (uns g).idxOf g.us[f]!.sub.toList = i then true else backL g i (g.us.length - (m + 1)) ((uns g).idxOf g.us[f]!.sub.toList)) := Lib.hid (by rw [HN.out, HS.out, hq, hu]; rfl)
                        rw [user_some hu] at C
                        clear hu HS
                        rw [← HN.out] at HBk
                        generalize (uns g).idxOf g.us[f]!.sub.toList = q at *
                        generalize g.us[f]!.sub = s at *
                        have hq0 : (0 : Int) ≤ (q : Int) := Int.natCast_nonneg _
                        by_cases hqi : q = i
                        · subst hqi
                          have HE4 : Hid (userE g q = 7) := Lib.hid (by rw [HE3.out, ← HBk.out, HS2.out, if_pos rfl]; rfl)
                          go_wp2_with fail
                          go_still_tail 8, (by kernel_rfl)
                          go_wp2_with fail
                          refine C.out.mono ?_
                          rintro e w5 ⟨rfl, hb5⟩
                          have hB5 := rbox_more HW2.out hb5
                          go_wp2_with fail
                          go_ret
                          exact ⟨ret_i64 (by rw [HE4.out]; rfl), rbox_old hB5⟩
                        · have hqn : ((q : Int) == (i : Int)) = false := by rw [beq_eq_false_iff_ne]; omega
                          have HBk' : Hid (backL g i (g.us.length - (m + 1)) q = backL g i g.us.length i) := Lib.hid (by rw [← HBk.out, HS2.out, if_neg hqi])
                          go_wp2_with fail
                          go_still_tail 8, (by kernel_rfl)
                          go_wp2_with fail
                          refine C.out.mono ?_
                          rintro e w5 ⟨rfl, hb5⟩
                          have hB5 := rbox_more HW2.out hb5
                          clear a0 a1 a2 a3 c2
                          go_wp2_with fail
                          go_roundw
                          case rel => exact ⟨q, m + 1, hlt, hq2, rfl, by go_num, HBk', Lib.hid hB5⟩
                          case measure => simp [intOf]; omega
                  · obtain rfl : m = g.us.length := by omega
                    have HE4 : Hid (userE g i = 0) := Lib.hid (by rw [HE3.out, ← HBk.out, Nat.sub_self]; rfl)
                    go_wp2_with fail
                    go_ret
                    exact ⟨ret_i64 (by rw [HE4.out]; rfl), rbox_old HX.out⟩
              | false =>
                cases hu : hasB (uns g) p.sub.toList with
                | false =>
                  have HE3 : Hid (userE g i = 10) := Lib.hid (by rw [HE5.out, hq, hu]; rfl)
                  rw [user_none hu] at C2
                  clear HE5 hu
                  go_wp2_with fail
                  refine (C2 _ (HI.out.below (Nat.le_refl _) (rbox_old HX.out))).out.mono ?_
                  rintro e w4 ⟨rfl, hb4⟩
                  have HB4 := rbox_more HX.out hb4
                  go_wp2_with fail
                  go_ret
                  exact ⟨ret_i64 (by rw [HE3.out]; rfl), rbox_old HB4⟩
                | true =>
                  have HE3 : Hid (userE g i = if backL g i g.us.length i then 7 else 0) := Lib.hid (by rw [HE5.out, hq, hu]; rfl)
                  rw [user_some hu] at C2
                  clear HE5 hu
                  generalize (uns g).idxOf p.sub.toList = qq at *
                  have hqq0 : (0 : Int) ≤ (qq : Int) := Int.natCast_nonneg _
                  go_wp2_with fail
                  refine (C2 _ (HI.out.below (Nat.le_refl _) (rbox_old HX.out))).out.mono ?_
                  rintro e w4 ⟨rfl, hb4⟩
                  have X4 : Hid (UX w g p w4) := Lib.hid (rbox_more HX.out hb4)
                  clear hb4 HX a0 a1 a2 a3 x0 x1 x2
                  obtain ⟨⟨a0, a1, a2, a3⟩, hx⟩ := rbox X4.out
                  have x0 : w4.cell? ⟨w.heap.size + 1, 0, none⟩ = some (.string p.name) := hx 0 _ rfl
                  have x1 : w4.cell? ⟨w.heap.size + 1, 1, none⟩ = some (.slice p.ra p.roles.length p.rc) := hx 1 _ rfl
                  have x2 : w4.cell? ⟨w.heap.size + 1, 2, none⟩ = some (.string p.sub) := hx 2 _ rfl
                  clear hx
                  go_wp2_with fail
                  clear hq
                  clear a0 a1 a2 a3 x0 x1 x2
                  go_loopw [10, 11] (fun a k wr => ∃ (f m : Nat), m ≤ g.us.length ∧ f < g.us.length ∧ a = .int .i64 f ∧ k = .int .i64 m ∧ Hid (backL g i (g.us.length - m) f = backL g i g.us.length i) ∧ Hid (UX w g p wr)) (fun _ k _ => g.us.length - (intOf k).toNat)
                  case atStart => exact ⟨i, 0, Nat.zero_le _, hi, rfl, rfl, Lib.hid rfl, X4⟩
                  case round =>
                    obtain ⟨f, m, hm, hf, rfl, rfl, HBk, HX⟩ := hrel
                    obtain ⟨⟨a0, a1, a2, a3⟩, hx⟩ := rbox HX.out
                    clear hx
                    by_cases hlt : m < g.us.length
                    · obtain ⟨b', off', hA', _, hc⟩ := HI.out.us.at_ (k := 3) (fun _ => rfl) (by omega) hf
                      obtain ⟨rfl, rfl⟩ : b' = b ∧ off' = off := by
                        have h1 := hA'.symm.trans HA.out
                        injection h1 with h1
                        injection h1 with h1 h2
                        exact ⟨h1, h2⟩
                      have c2 := hc 2 _ rfl
                      rw [← (rbox_old HX.out).cell (p := ⟨b', _, none⟩) hbb] at c2
                      have hbw : b' < wr.heap.size := by have := (rbox_old HX.out).size; omega
                      rw [HA.out] at a3
                      have hm0 : (0 : Int) ≤ (m : Int) := Int.natCast_nonneg _
                      have hm1 : (m : Int) < (g.us.length : Int) := by omega
                      have hf0 : (0 : Int) ≤ (f : Int) := Int.natCast_nonneg _
                      have hf1 : (f : Int) < (g.us.length : Int) := by omega
                      have HS := Lib.hid (rback_step g i (g.us.length - (m + 1)) f)
                      have HN : Hid (g.us.length - m = g.us.length - (m + 1) + 1) := Lib.hid (by omega)
                      rw [HN.out] at HBk
                      have HW2 : Hid (Below (w.heap.size + 2) ((boxW w g).alloc (.cells #[.string p.name, .slice p.ra p.roles.length p.rc, .string p.sub] 87)) wr.drew) := Lib.hid (below_draws HX.out 1)
                      have C := Lib.hid (hasUser_any wr.drew g g.us[f]!.sub g.us.length (HI.out.below (Nat.le_refl _) (rbox_old HW2.out)) z1 (Nat.le_refl _))
                      rw [HA.out] at C
                      clear hc hA'
                      cases hq : (g.us[f]!.sub.toList == []) with
                      | true =>
                        have HE4 : Hid (userE g i = 0) := Lib.hid (by rw [HE3.out, ← HBk.out, HS.out, hq]; rfl)
                        clear C
                        generalize g.us[f]!.sub = s at *
                        go_wp2_with fail
                        go_ret
                        exact ⟨ret_i64 (by rw [HE4.out]; rfl), rbox_old HX.out⟩
                      | false =>
                        cases hu : hasB (uns g) g.us[f]!.sub.toList with
                        | false =>
                          have HE4 : Hid (userE g i = 0) := Lib.hid (by rw [HE3.out, ← HBk.out, HS.out, hq, hu]; rfl)
                          rw [user_none hu] at C
                          clear HS hu
                          generalize g.us[f]!.sub = s at *
                          go_wp2_with fail
                          go_still_tail 8, (by kernel_rfl)
                          go_wp2_with fail
                          refine C.out.mono ?_
                          rintro e w5 ⟨rfl, hb5⟩
                          have hB5 := rbox_more HW2.out hb5
                          go_wp2_with fail
                          go_ret
                          exact ⟨ret_i64 (by rw [HE4.out]; rfl), rbox_old hB5⟩
                        | true =>
                          have hq2 := user_lt hu
                          have HS2 : Hid (backL g i (g.us.length - m) f = if (uns g).idxOf g.us[f]!.sub.toList = i then true else backL g i (g.us.length - (m + 1)) ((uns g).idxOf g.us[f]!.sub.toList)) := Lib.hid (by rw [HN.out, HS.out, hq, hu]; rfl)
                          rw [user_some hu] at C
                          clear hu HS
                          rw [← HN.out] at HBk
                          generalize (uns g).idxOf g.us[f]!.sub.toList = q at *
                          generalize g.us[f]!.sub = s at *
                          have hq0 : (0 : Int) ≤ (q : Int) := Int.natCast_nonneg _
                          by_cases hqi : q = i
                          · subst hqi
                            have HE4 : Hid (userE g q = 7) := Lib.hid (by rw [HE3.out, ← HBk.out, HS2.out, if_pos rfl]; rfl)
                            go_wp2_with fail
                            go_still_tail 8, (by kernel_rfl)
                            go_wp2_with fail
                            refine C.out.mono ?_
                            rintro e w5 ⟨rfl, hb5⟩
                            have hB5 := rbox_more HW2.out hb5
                            go_wp2_with fail
                            go_ret
                            exact ⟨ret_i64 (by rw [HE4.out]; rfl), rbox_old hB5⟩
                          · have hqn : ((q : Int) == (i : Int)) = false := by rw [beq_eq_false_iff_ne]; omega
                            have HBk' : Hid (backL g i (g.us.length - (m + 1)) q = backL g i g.us.length i) := Lib.hid (by rw [← HBk.out, HS2.out, if_neg hqi])
                            go_wp2_with fail
                            go_still_tail 8, (by kernel_rfl)
                            go_wp2_with fail
                            refine C.out.mono ?_
                            rintro e w5 ⟨rfl, hb5⟩
                            have hB5 := rbox_more HW2.out hb5
                            clear a0 a1 a2 a3 c2
                            go_wp2_with fail
                            go_roundw
                            case rel => exact ⟨q, m + 1, hlt, hq2, rfl, by go_num, HBk', Lib.hid hB5⟩
                            case measure => simp [intOf]; omega
                    · obtain rfl : m = g.us.length := by omega
                      have HE4 : Hid (userE g i = 0) := Lib.hid (by rw [HE3.out, ← HBk.out, Nat.sub_self]; rfl)
                      go_wp2_with fail
                      go_ret
                      exact ⟨ret_i64 (by rw [HE4.out]; rfl), rbox_old HX.out⟩

/-- Nothing is wrong among the first of a part. -/
def fineB (f : Nat → Nat) (n : Nat) : Prop := ∀ j, j < n → f j = 0
theorem fine_more {f : Nat → Nat} {k : Nat} (h : fineB f k) (hk : f k = 0) : fineB f (k + 1) := by
  intro j hj
  by_cases e : j = k
  · rw [e]; exact hk
  · exact h j (by omega)
theorem tell_hit {f : Nat → Nat} {s : St} {part k n : Nat} (hs : s.2.2 = 0) (h : fineB f k) (hk : f k ≠ 0) (hn : k < n) : tellS s part f n = (part, k, f k) := by
  have h1 : tellL f (k + 1) = some (k, f k) := by
    rw [tellL, tellL_none.2 h]; simp only [if_neg hk]
  have h2 := tellL_more h1 (show k + 1 ≤ n from hn)
  unfold tellS; rw [if_pos hs, h2]
theorem tell_fine {f : Nat → Nat} {s : St} {part n : Nat} (hs : s.2.2 = 0) (h : fineB f n) : tellS s part f n = s := by
  unfold tellS; rw [if_pos hs, tellL_none.2 h]
theorem tell_bad {f : Nat → Nat} {s : St} {part n : Nat} (hs : s.2.2 ≠ 0) : tellS s part f n = s := by unfold tellS; rw [if_neg hs]
def chk0 (g : Gr) : St := tellS (0, 0, 0) 0 (fun _ => limitE g) 1
def chk1 (g : Gr) : St := tellS (chk0 g) 1 (groupE g) g.gs.length
def chk2 (g : Gr) : St := tellS (chk1 g) 2 (eventE g) g.es.length
def chk3 (g : Gr) : St := tellS (chk2 g) 3 (relE g) g.rs.length
theorem chk_eq (g : Gr) : checkL g = tellS (chk3 g) 4 (userE g) g.us.length := rfl
theorem chk0_ok {g : Gr} (h : limitE g = 0) : chk0 g = (0, 0, 0) := tell_fine rfl (fun _ _ => h)
theorem chk0_bad {g : Gr} (h : limitE g ≠ 0) : checkL g = (0, 0, limitE g) := by
  have h0 : chk0 g = (0, 0, limitE g) := tell_hit rfl (fun j hj => absurd hj (Nat.not_lt_zero _)) h (by omega)
  have h1 : chk1 g = (0, 0, limitE g) := by rw [chk1, h0]; exact tell_bad h
  have h2 : chk2 g = (0, 0, limitE g) := by rw [chk2, h1]; exact tell_bad h
  have h3 : chk3 g = (0, 0, limitE g) := by rw [chk3, h2]; exact tell_bad h
  rw [chk_eq, h3]; exact tell_bad h
theorem chk_gs {g : Gr} {k : Nat} (h0 : limitE g = 0) (h : fineB (groupE g) k) (hk : groupE g k ≠ 0) (hn : k < g.gs.length) : checkL g = (1, k, groupE g k) := by
  have h1 : chk1 g = (1, k, groupE g k) := by rw [chk1, chk0_ok h0]; exact tell_hit rfl h hk hn
  have h2 : chk2 g = (1, k, groupE g k) := by rw [chk2, h1]; exact tell_bad hk
  have h3 : chk3 g = (1, k, groupE g k) := by rw [chk3, h2]; exact tell_bad hk
  rw [chk_eq, h3]; exact tell_bad hk
theorem chk1_ok {g : Gr} (h0 : limitE g = 0) (h1 : fineB (groupE g) g.gs.length) : chk1 g = (0, 0, 0) := by rw [chk1, chk0_ok h0]; exact tell_fine rfl h1
theorem chk_es {g : Gr} {k : Nat} (h0 : chk1 g = (0, 0, 0)) (h : fineB (eventE g) k) (hk : eventE g k ≠ 0) (hn : k < g.es.length) : checkL g = (2, k, eventE g k) := by
  have h2 : chk2 g = (2, k, eventE g k) := by rw [chk2, h0]; exact tell_hit rfl h hk hn
  have h3 : chk3 g = (2, k, eventE g k) := by rw [chk3, h2]; exact tell_bad hk
  rw [chk_eq, h3]; exact tell_bad hk
theorem chk2_ok {g : Gr} (h0 : chk1 g = (0, 0, 0)) (h1 : fineB (eventE g) g.es.length) : chk2 g = (0, 0, 0) := by rw [chk2, h0]; exact tell_fine rfl h1
theorem chk_rs {g : Gr} {k : Nat} (h0 : chk2 g = (0, 0, 0)) (h : fineB (relE g) k) (hk : relE g k ≠ 0) (hn : k < g.rs.length) : checkL g = (3, k, relE g k) := by
  have h3 : chk3 g = (3, k, relE g k) := by rw [chk3, h0]; exact tell_hit rfl h hk hn
  rw [chk_eq, h3]; exact tell_bad hk
theorem chk3_ok {g : Gr} (h0 : chk2 g = (0, 0, 0)) (h1 : fineB (relE g) g.rs.length) : chk3 g = (0, 0, 0) := by rw [chk3, h0]; exact tell_fine rfl h1
theorem chk_us {g : Gr} {k : Nat} (h0 : chk3 g = (0, 0, 0)) (h : fineB (userE g) k) (hk : userE g k ≠ 0) (hn : k < g.us.length) : checkL g = (4, k, userE g k) := by
  rw [chk_eq, h0]; exact tell_hit rfl h hk hn
theorem chk_ok {g : Gr} (h0 : chk3 g = (0, 0, 0)) (h1 : fineB (userE g) g.us.length) : checkL g = (0, 0, 0) := by rw [chk_eq, h0]; exact tell_fine rfl h1
theorem lim_many {g : Gr} (h : 40 < g.gs.length ∨ 80 < g.es.length ∨ 300 < g.rs.length ∨ 40 < g.us.length) : limitE g = 4 := by
  unfold limitE
  by_cases a : 40 < g.gs.length
  · rw [if_pos a]
  rw [if_neg a]
  by_cases b : 80 < g.es.length
  · rw [if_pos b]
  rw [if_neg b]
  by_cases c : 300 < g.rs.length
  · rw [if_pos c]
  rw [if_neg c]
  by_cases d : 40 < g.us.length
  · rw [if_pos d]
  omega
theorem lim_role {g : Gr} {k : Nat} (hk : k < g.us.length) (h : 8 < g.us[k]!.roles.length) : limitE g = 4 := by
  have e : (g.us.any fun u => decide (8 < u.roles.length)) = true := List.any_eq_true.2 ⟨_, mem_at hk, by simpa using h⟩
  unfold limitE; rw [if_pos e]
  simp
theorem lim_ok {g : Gr} (h1 : ¬ 40 < g.gs.length) (h2 : ¬ 80 < g.es.length) (h3 : ¬ 300 < g.rs.length) (h4 : ¬ 40 < g.us.length) (h : ∀ k, k < g.us.length → ¬ 8 < g.us[k]!.roles.length) : limitE g = 0 := by
  have e : ¬ (g.us.any fun u => decide (8 < u.roles.length)) = true := by
    intro h5
    obtain ⟨u, hu, h6⟩ := List.any_eq_true.1 h5
    obtain ⟨k, hk, rfl⟩ := List.getElem_of_mem hu
    have := h k hk
    rw [getElem!_pos g.us k hk] at this
    exact this (by simpa using h6)
  unfold limitE
  rw [if_neg h1, if_neg h2, if_neg h3, if_neg h4, if_neg e]
theorem roles_more {g : Gr} {k : Nat} (h : ∀ j, j < k → ¬ 8 < g.us[j]!.roles.length) (hk : ¬ 8 < g.us[k]!.roles.length) : ∀ j, j < k + 1 → ¬ 8 < g.us[j]!.roles.length := by
  intro j hj
  by_cases e : j = k
  · rw [e]; exact hk
  · exact h j (by omega)
theorem code_pos {n : Nat} (h : n ≠ 0) : ((n : Int) != 0) = true := by rw [bne_iff_ne]; omega
theorem code_nil : (((0 : Nat) : Int) != 0) = false := rfl
/-- What Check answers, as a value. -/
def stV (s : St) : Value := .tuple #[.int .i64 s.1, .int .i64 s.2.1, .int .i64 s.2.2]
theorem stV_mk (a b c : Nat) : Ending.returned (.tuple #[.int .i64 a, .int .i64 b, .int .i64 c]) = .returned (stV (a, b, c)) := rfl
/-- The argument's box, and all that came in, stand as they did. -/
abbrev GX (w : World) (g : Gr) (W : World) : Prop := Below (w.heap.size + 1) (boxW w g) W
theorem gx_old {w W : World} {g : Gr} (h : GX w g W) : Below w.heap.size w W := (box_below w g).trans (h.mono (by omega))
theorem gx_more {w w1 w2 : World} {g : Gr} (h1 : GX w g w1) (h2 : Below w1.heap.size w1 w2) : GX w g w2 := h1.trans (h2.mono (by have := h1.size; rw [box_size] at this; exact this))
theorem gx_start (w : World) (g : Gr) : GX w g (boxW w g) := Below.refl _ _

set_option maxRecDepth 100000 in
set_option maxHeartbeats 8000000 in
theorem rcheck_any (w : World) (g : Gr) (hI : InG w g) (hz : SzG g) :
    Calls Try.prog 47 #[.agg #[.slice g.ga g.gs.length g.gc, .slice g.ea g.es.length g.ec, .slice g.ra g.rs.length g.rc, .slice g.ua g.us.length g.uc]] w fun e w' => e = .returned (stV (checkL g)) ∧ Below w.heap.size w w' := by
  have HI := Lib.hid hI
  have HZ := Lib.hid hz
  have z1 := hz.gs
  have z2 := hz.es
  have z3 := hz.rs
  have z4 := hz.us
  have X0 := Lib.hid (gx_start w g)
  obtain ⟨a0, a1, a2, a3⟩ := box_cells X0.out
  clear hI hz
  unfold boxW at a0 a1 a2 a3
  by_cases c1 : 40 < g.gs.length
  · have HL := Lib.hid (lim_many (g := g) (.inl c1))
    have HF := Lib.hid (chk0_bad (g := g) (by rw [HL.out]; decide))
    go_enter Try.func47, Try.ntmps47
    go_wp2_with fail
    go_ret3
    exact ⟨by rw [HF.out, HL.out]; rfl, gx_old X0.out⟩
  by_cases c2 : 80 < g.es.length
  · have HL := Lib.hid (lim_many (g := g) (.inr (.inl c2)))
    have HF := Lib.hid (chk0_bad (g := g) (by rw [HL.out]; decide))
    go_enter Try.func47, Try.ntmps47
    go_wp2_with fail
    go_ret3
    exact ⟨by rw [HF.out, HL.out]; rfl, gx_old X0.out⟩
  by_cases c3 : 300 < g.rs.length
  · have HL := Lib.hid (lim_many (g := g) (.inr (.inr (.inl c3))))
    have HF := Lib.hid (chk0_bad (g := g) (by rw [HL.out]; decide))
    go_enter Try.func47, Try.ntmps47
    go_wp2_with fail
    go_ret3
    exact ⟨by rw [HF.out, HL.out]; rfl, gx_old X0.out⟩
  by_cases c4 : 40 < g.us.length
  · have HL := Lib.hid (lim_many (g := g) (.inr (.inr (.inr c4))))
    have HF := Lib.hid (chk0_bad (g := g) (by rw [HL.out]; decide))
    go_enter Try.func47, Try.ntmps47
    go_wp2_with fail
    go_ret3
    exact ⟨by rw [HF.out, HL.out]; rfl, gx_old X0.out⟩
  go_enter Try.func47, Try.ntmps47
  go_wp2_with fail
  clear a0 a1 a2 a3
  go_loopw [5] (fun i wr => ∃ k : Nat, k ≤ g.us.length ∧ i = .int .i64 k ∧ Hid (∀ j, j < k → ¬ 8 < g.us[j]!.roles.length) ∧ Hid (GX w g wr)) (fun i _ => g.us.length - (intOf i).toNat)
  case atStart => exact ⟨0, Nat.zero_le _, rfl, Lib.hid (fun j hj => absurd hj (Nat.not_lt_zero _)), X0⟩
  case round =>
    clear X0
    obtain ⟨k, hk, rfl, HR, HX⟩ := hrel
    obtain ⟨a0, a1, a2, a3⟩ := box_cells HX.out
    by_cases hlt : k < g.us.length
    · obtain ⟨b, off, hA, hb, hc⟩ := HI.out.us.at_ (k := 3) (fun _ => rfl) (by omega) hlt
      have k1 := hc 1 _ rfl
      rw [← (gx_old HX.out).cell (p := ⟨b, _, none⟩) hb] at k1
      rw [hA] at a3
      have hk0 : (0 : Int) ≤ (k : Int) := Int.natCast_nonneg _
      have hk1 : (k : Int) < (g.us.length : Int) := by omega
      have hzr := (HZ.out.ur _ (mem_at hlt)).2.2.1
      clear hc hA
      by_cases h8 : 8 < g.us[k]!.roles.length
      · have HL := Lib.hid (lim_role hlt h8)
        have HF := Lib.hid (chk0_bad (g := g) (by rw [HL.out]; decide))
        clear HR
        generalize g.us[k]! = p at *
        go_wp2_with fail
        go_ret3
        exact ⟨by rw [HF.out, HL.out]; rfl, gx_old HX.out⟩
      · have HR' := Lib.hid (roles_more HR.out h8)
        clear HR
        generalize g.us[k]! = p at *
        go_wp2_with fail
        go_roundw
        case rel => exact ⟨k + 1, hlt, by go_num, HR', HX⟩
        case measure => simp [intOf]; omega
    · obtain rfl : k = g.us.length := by omega
      have HL := Lib.hid (lim_ok c1 c2 c3 c4 HR.out)
      clear HR hk hlt
      go_wp2_with fail
      clear a0 a1 a2 a3
      go_loopw [6] (fun i wr => ∃ k : Nat, k ≤ g.gs.length ∧ i = .int .i64 k ∧ Hid (fineB (groupE g) k) ∧ Hid (GX w g wr)) (fun i _ => g.gs.length - (intOf i).toNat)
      case atStart => exact ⟨0, Nat.zero_le _, rfl, Lib.hid (fun j hj => absurd hj (Nat.not_lt_zero _)), HX⟩
      case round =>
        clear HX
        obtain ⟨k, hk, rfl, HN, HX⟩ := hrel
        obtain ⟨a0, a1, a2, a3⟩ := box_cells HX.out
        by_cases hlt : k < g.gs.length
        · have hk0 : (0 : Int) ≤ (k : Int) := Int.natCast_nonneg _
          have hk1 : (k : Int) < (g.gs.length : Int) := by omega
          have C := Lib.hid (rgroup_any wr g k (HI.out.below (Nat.le_refl _) (gx_old HX.out)) HZ.out hlt)
          by_cases hq : groupE g k = 0
          · have HN' := Lib.hid (fine_more HN.out hq)
            rw [hq] at C
            clear hq HN
            go_wp2_with fail
            refine C.out.mono ?_
            rintro e w1 ⟨rfl, hb1⟩
            have HX1 := Lib.hid (gx_more HX.out hb1)
            clear hb1 a0 a1 a2 a3
            go_wp2_with fail
            go_roundw
            case rel => exact ⟨k + 1, hlt, by go_num, HN', HX1⟩
            case measure => simp [intOf]; omega
          · have HF := Lib.hid (chk_gs HL.out HN.out hq hlt)
            have ht := code_pos hq
            clear hq HN
            generalize groupE g k = q at *
            go_wp2_with fail
            refine C.out.mono ?_
            rintro e w1 ⟨rfl, hb1⟩
            have HX1 := Lib.hid (gx_more HX.out hb1)
            go_wp2_with fail
            go_ret3
            exact ⟨by rw [HF.out]; rfl, gx_old HX1.out⟩
        · obtain rfl : k = g.gs.length := by omega
          have HK := Lib.hid (chk1_ok HL.out HN.out)
          clear HN hk hlt
          go_wp2_with fail
          clear a0 a1 a2 a3
          go_loopw [8] (fun i wr => ∃ k : Nat, k ≤ g.es.length ∧ i = .int .i64 k ∧ Hid (fineB (eventE g) k) ∧ Hid (GX w g wr)) (fun i _ => g.es.length - (intOf i).toNat)
          case atStart => exact ⟨0, Nat.zero_le _, rfl, Lib.hid (fun j hj => absurd hj (Nat.not_lt_zero _)), HX⟩
          case round =>
            clear HX
            obtain ⟨k, hk, rfl, HN, HX⟩ := hrel
            obtain ⟨a0, a1, a2, a3⟩ := box_cells HX.out
            by_cases hlt : k < g.es.length
            · have hk0 : (0 : Int) ≤ (k : Int) := Int.natCast_nonneg _
              have hk1 : (k : Int) < (g.es.length : Int) := by omega
              have C := Lib.hid (revent_any wr g k (HI.out.below (Nat.le_refl _) (gx_old HX.out)) HZ.out hlt)
              by_cases hq : eventE g k = 0
              · have HN' := Lib.hid (fine_more HN.out hq)
                rw [hq] at C
                clear hq HN
                go_wp2_with fail
                refine C.out.mono ?_
                rintro e w1 ⟨rfl, hb1⟩
                have HX1 := Lib.hid (gx_more HX.out hb1)
                clear hb1 a0 a1 a2 a3
                go_wp2_with fail
                go_roundw
                case rel => exact ⟨k + 1, hlt, by go_num, HN', HX1⟩
                case measure => simp [intOf]; omega
              · have HF := Lib.hid (chk_es HK.out HN.out hq hlt)
                have ht := code_pos hq
                clear hq HN
                generalize eventE g k = q at *
                go_wp2_with fail
                refine C.out.mono ?_
                rintro e w1 ⟨rfl, hb1⟩
                have HX1 := Lib.hid (gx_more HX.out hb1)
                go_wp2_with fail
                go_ret3
                exact ⟨by rw [HF.out]; rfl, gx_old HX1.out⟩
            · obtain rfl : k = g.es.length := by omega
              have HK := Lib.hid (chk2_ok HK.out HN.out)
              clear HN hk hlt
              go_wp2_with fail
              clear a0 a1 a2 a3
              go_loopw [10] (fun i wr => ∃ k : Nat, k ≤ g.rs.length ∧ i = .int .i64 k ∧ Hid (fineB (relE g) k) ∧ Hid (GX w g wr)) (fun i _ => g.rs.length - (intOf i).toNat)
              case atStart => exact ⟨0, Nat.zero_le _, rfl, Lib.hid (fun j hj => absurd hj (Nat.not_lt_zero _)), HX⟩
              case round =>
                clear HX
                obtain ⟨k, hk, rfl, HN, HX⟩ := hrel
                obtain ⟨a0, a1, a2, a3⟩ := box_cells HX.out
                by_cases hlt : k < g.rs.length
                · have hk0 : (0 : Int) ≤ (k : Int) := Int.natCast_nonneg _
                  have hk1 : (k : Int) < (g.rs.length : Int) := by omega
                  have C := Lib.hid (rrel_any wr g k (HI.out.below (Nat.le_refl _) (gx_old HX.out)) HZ.out hlt)
                  by_cases hq : relE g k = 0
                  · have HN' := Lib.hid (fine_more HN.out hq)
                    rw [hq] at C
                    clear hq HN
                    go_wp2_with fail
                    refine C.out.mono ?_
                    rintro e w1 ⟨rfl, hb1⟩
                    have HX1 := Lib.hid (gx_more HX.out hb1)
                    clear hb1 a0 a1 a2 a3
                    go_wp2_with fail
                    go_roundw
                    case rel => exact ⟨k + 1, hlt, by go_num, HN', HX1⟩
                    case measure => simp [intOf]; omega
                  · have HF := Lib.hid (chk_rs HK.out HN.out hq hlt)
                    have ht := code_pos hq
                    clear hq HN
                    generalize relE g k = q at *
                    go_wp2_with fail
                    refine C.out.mono ?_
                    rintro e w1 ⟨rfl, hb1⟩
                    have HX1 := Lib.hid (gx_more HX.out hb1)
                    go_wp2_with fail
                    go_ret3
                    exact ⟨by rw [HF.out]; rfl, gx_old HX1.out⟩
                · obtain rfl : k = g.rs.length := by omega
                  have HK := Lib.hid (chk3_ok HK.out HN.out)
                  clear HN hk hlt
                  go_wp2_with fail
                  clear a0 a1 a2 a3
                  go_loopw [12] (fun i wr => ∃ k : Nat, k ≤ g.us.length ∧ i = .int .i64 k ∧ Hid (fineB (userE g) k) ∧ Hid (GX w g wr)) (fun i _ => g.us.length - (intOf i).toNat)
                  case atStart => exact ⟨0, Nat.zero_le _, rfl, Lib.hid (fun j hj => absurd hj (Nat.not_lt_zero _)), HX⟩
                  case round =>
                    clear HX
                    obtain ⟨k, hk, rfl, HN, HX⟩ := hrel
                    obtain ⟨a0, a1, a2, a3⟩ := box_cells HX.out
                    by_cases hlt : k < g.us.length
                    · have hk0 : (0 : Int) ≤ (k : Int) := Int.natCast_nonneg _
                      have hk1 : (k : Int) < (g.us.length : Int) := by omega
                      have C := Lib.hid (ruser_any wr g k (HI.out.below (Nat.le_refl _) (gx_old HX.out)) HZ.out hlt)
                      by_cases hq : userE g k = 0
                      · have HN' := Lib.hid (fine_more HN.out hq)
                        rw [hq] at C
                        clear hq HN
                        go_wp2_with fail
                        refine C.out.mono ?_
                        rintro e w1 ⟨rfl, hb1⟩
                        have HX1 := Lib.hid (gx_more HX.out hb1)
                        clear hb1 a0 a1 a2 a3
                        go_wp2_with fail
                        go_roundw
                        case rel => exact ⟨k + 1, hlt, by go_num, HN', HX1⟩
                        case measure => simp [intOf]; omega
                      · have HF := Lib.hid (chk_us HK.out HN.out hq hlt)
                        have ht := code_pos hq
                        clear hq HN
                        generalize userE g k = q at *
                        go_wp2_with fail
                        refine C.out.mono ?_
                        rintro e w1 ⟨rfl, hb1⟩
                        have HX1 := Lib.hid (gx_more HX.out hb1)
                        go_wp2_with fail
                        go_ret3
                        exact ⟨by rw [HF.out]; rfl, gx_old HX1.out⟩
                    · obtain rfl : k = g.us.length := by omega
                      have HF := Lib.hid (chk_ok HK.out HN.out)
                      clear HN hk hlt
                      go_wp2_with fail
                      go_ret3
                      exact ⟨by rw [HF.out]; rfl, gx_old HX.out⟩

set_option maxRecDepth 100000 in
set_option maxHeartbeats 2000000 in
theorem rright_any (w : World) (g : Gr) (hI : InG w g) (hz : SzG g) :
    Calls Try.prog 16 #[.agg #[.slice g.ga g.gs.length g.gc, .slice g.ea g.es.length g.ec, .slice g.ra g.rs.length g.rc, .slice g.ua g.us.length g.uc]] w fun e w' => e = .returned (.bool (mayL g)) ∧ Below w.heap.size w w' := by
  have C := Lib.hid (rcheck_any (boxW w g) g (hI.below (Nat.le_refl _) (box_below w g)) hz)
  have HM := Lib.hid (mayL_eq g)
  have hb0 := Lib.hid (gx_start w g)
  clear hI hz
  unfold stV at C
  generalize checkL g = s at *
  go_enter Try.func16, Try.ntmps16
  go_wp2_with fail
  refine C.out.mono ?_
  rintro e w1 ⟨rfl, hb1⟩
  have HX1 := Lib.hid (gx_more hb0.out hb1)
  go_wp2_with fail
  go_ret
  exact ⟨ret_bool HM.out, gx_old HX1.out⟩

theorem own_emp (w : World) (T : TypeId) (z : Nat) {B : Nat} (hB : B ≤ w.heap.size) : (w.alloc (.cells #[] T)).ownsRow B T z (.slice (some ⟨w.heap.size, 0, none⟩) 0 0) 0 [] :=
  ⟨by simp, .inr ⟨w.heap.size, 0, #[], rfl, hB, heap_new _ _, by simp, by unfold maxLen; omega, by simp, by simp⟩⟩
theorem gx_alloc {w W : World} {g : Gr} (h : GX w g W) (o : Obj) : GX w g (W.alloc o) := h.alloc (by have := h.size; rw [box_size] at this; exact this) o
theorem gx_size {w W : World} {g : Gr} (h : GX w g W) : w.heap.size + 1 ≤ W.heap.size := by have := h.size; rw [box_size] at this; exact this

set_option maxRecDepth 100000 in
set_option maxHeartbeats 4000000 in
theorem rabove_any (w : World) (g : Gr) (s : ByteArray) (hI : InG w g) (hz : SzG g) :
    Calls Try.prog 56 #[.agg #[.slice g.ga g.gs.length g.gc, .slice g.ea g.es.length g.ec, .slice g.ra g.rs.length g.rc, .slice g.ua g.us.length g.uc], .string s] w (StrsOf (aboveL g s) w) := by
  have HI := Lib.hid hI
  have z1 := hz.gs
  have hs0 := box_size w g
  have C := Lib.hid (rright_any ((boxW w g).alloc (.cells #[] 9)) g (hI.below (Nat.le_refl _) ((box_below w g).alloc (by omega) _)) hz)
  have X0 := Lib.hid (gx_alloc (gx_start w g) (.cells #[] 9))
  have V0 : Hid (((boxW w g).alloc (.cells #[] 9)).ownsRow (w.heap.size + 1) 9 1 (.slice (some ⟨w.heap.size + 1, 0, none⟩) 0 0) 0 []) := Lib.hid (by
    have h := own_emp (boxW w g) 9 1 (B := w.heap.size + 1) (by omega)
    rw [hs0] at h; exact h)
  have HS0 := Lib.hid hs0
  clear hI hz hs0
  cases hm : mayL g with
  | false =>
    have HL : Hid (aboveL g s = []) := Lib.hid (by rw [aboveL, hm]; rfl)
    rw [hm] at C
    clear hm
    go_enter Try.func56, Try.ntmps56
    go_wp2_with fail
    refine C.out.mono ?_
    rintro e w1 ⟨rfl, hb1⟩
    have HX1 := Lib.hid (gx_more X0.out hb1)
    have HV1 := Lib.hid (own_base (own_below V0.out hb1) (Nat.le_succ _))
    go_wp2_with fail
    go_ret
    exact ⟨_, rfl, by rw [HL.out]; exact HV1.out, gx_old HX1.out⟩
  | true =>
    have HL : Hid (aboveL g s = downL g g.gs.length s) := Lib.hid (down_above hm s).symm
    rw [hm] at C
    clear hm
    obtain ⟨i0, hi, hz0, hz1, hz2⟩ := info_parts info_st
    have HI0 := Lib.hid hi
    have HZ0 := Lib.hid hz0
    have HZ1 := Lib.hid hz1
    have HZ2 := Lib.hid hz2
    clear hi hz0 hz1 hz2
    go_enter Try.func56, Try.ntmps56
    go_wp2_with fail
    refine C.out.mono ?_
    rintro e w1 ⟨rfl, hb1⟩
    have X1 := Lib.hid (gx_more X0.out hb1)
    have V1 := Lib.hid (own_below V0.out hb1)
    obtain ⟨a0, a1, a2, a3⟩ := box_cells X1.out
    clear hb1 C X0 V0
    go_wp2_with fail
    clear a0 a1 a2 a3
    go_loopw [1, 5, 6] (fun s' v i wr => ∃ (k : Nat) (t : ByteArray) (z : Int) (acc : List ByteArray), acc.length + k ≤ g.gs.length ∧ s' = .string t ∧ i = .int .i64 z ∧ z + 1 = k ∧ Hid (wr.ownsRow (w.heap.size + 1) 9 1 v acc.length (acc.map Value.string)) ∧ Hid (acc ++ downL g k t = aboveL g s) ∧ Hid (GX w g wr)) (fun _ _ i _ => (intOf i + 1).toNat)
    case atStart => exact ⟨g.gs.length, s, _, [], by simp, rfl, rfl, by omega, V1, Lib.hid HL.out.symm, X1⟩
    case round =>
      clear X1 V1
      obtain ⟨k, t, z, acc, hlen, rfl, rfl, hzk, HV, HE, HX⟩ := hrel
      obtain ⟨a0, a1, a2, a3⟩ := box_cells HX.out
      have hgs := gx_size HX.out
      by_cases h0 : 0 ≤ z
      · obtain ⟨m, rfl⟩ : ∃ m : Nat, z = (m : Int) := ⟨z.toNat, by omega⟩
        obtain rfl : k = m + 1 := by omega
        have hlt : m < g.gs.length := by omega
        obtain ⟨b, off, hA, hb, hc⟩ := HI.out.gs.at_ (k := 2) (fun _ => rfl) (by omega) hlt
        have k0 := hc 0 _ rfl
        rw [Nat.add_zero] at k0
        have k1 := hc 1 _ rfl
        rw [← (gx_old HX.out).cell (p := ⟨b, _, none⟩) hb] at k0 k1
        rw [hA] at a0
        have HA := Lib.hid hA
        obtain ⟨va, vc, rfl⟩ := own_slice HV.out
        have hk0 : (0 : Int) ≤ (m : Int) := Int.natCast_nonneg _
        have hk1 : (m : Int) < (g.gs.length : Int) := by omega
        clear hc hA h0 hzk
        cases hq : (g.gs[m]!.name.toList == t.toList) with
        | false =>
          have HE' : Hid (acc ++ downL g m t = aboveL g s) := Lib.hid (by rw [← HE.out, down_miss hq])
          clear HE
          generalize g.gs[m]! = p at *
          go_wp2_with fail
          go_roundw
          case rel => exact ⟨m, t, _, acc, by omega, rfl, rfl, by omega, HV, HE', HX⟩
          case measure => simp [intOf]
        | true =>
          have HE' : Hid ((acc ++ [t]) ++ downL g m g.gs[m]!.parent = aboveL g s) := Lib.hid (by rw [← HE.out, down_hit hq, List.append_assoc]; rfl)
          clear HE
          generalize g.gs[m]! = p at *
          go_wp2_with (at_builtin; refine wpList_append_own _ rfl (.tmp 28) (.tmp 30) 84 rfl (w.heap.size + 1) 9 i0 _ 1 16 Try.underlying84 HI0.out HZ0.out HZ1.out HZ2.out rfl (by omega) _ _ _ rfl (HV.out.alloc _) ⟨wr.heap.size, 0, none⟩ 1 1 [.string t] rfl rfl ?c1 ?c2 ?c3 ?c4 ?c5 ?_)
          case c1 =>
            intro j u hj
            match j, hj with
            | 0, hj => simp at hj; subst hj; simp [Addr.add]
          case c2 => intro u hu; simp at hu; subst hu; rfl
          case c3 => unfold maxLen; omega
          case c4 => omega
          case c5 => simp; omega
          intro v' w4 hown' hgrow _
          have HX4 : Hid (GX w g w4) := Lib.hid ((gx_alloc HX.out _).grown hgrow (by rw [World.size_alloc]; omega) (fun j hj => (HV.out.lt j hj).1))
          have HV4 : Hid (w4.ownsRow (w.heap.size + 1) 9 1 v' (acc ++ [t]).length ((acc ++ [t]).map Value.string)) := Lib.hid (by
            rw [List.map_append, List.length_append]; exact hown')
          rw [(gx_old HX.out).cell (p := ⟨b, _, none⟩) hb, ← (gx_old HX4.out).cell (p := ⟨b, _, none⟩) hb] at k1
          clear hown' hgrow a0 a1 a2 a3 k0
          obtain ⟨a0, a1, a2, a3⟩ := box_cells HX4.out
          rw [HA.out] at a0
          go_wp2_with fail
          go_roundw
          case rel => exact ⟨m, p.parent, _, acc ++ [t], by simp; omega, rfl, rfl, by omega, HV4, HE', HX4⟩
          case measure => simp [intOf]
      · obtain rfl : z = -1 := by omega
        obtain rfl : k = 0 := by omega
        go_wp2_with fail
        go_ret
        exact ⟨_, rfl, by rw [← HE.out, show downL g 0 t = [] from rfl, List.append_nil]; exact own_base HV.out (Nat.le_succ _), gx_old HX.out⟩

theorem hasT_snoc {l : List ByteArray} {j : Nat} (h : j < l.length) (s : Key) : hasT (l.take (j + 1)) s = (hasT (l.take j) s || l[j]!.toList == s) := by
  rw [hasT, hasT, List.take_succ_eq_append_getElem h, List.any_append, getElem!_pos l j h]; simp
theorem hasT_nil (s : Key) : hasT [] s = false := rfl
def memC (g : Gr) (s : ByteArray) (k j : Nat) (L : List ByteArray) : Bool := g.es[k]!.name.toList == s.toList || hasT (L.take j) s.toList
theorem memC_0 (g : Gr) (s : ByteArray) (k : Nat) (L : List ByteArray) : memC g s k 0 L = (g.es[k]!.name.toList == s.toList) := by rw [memC, List.take_zero, hasT_nil, Bool.or_false]
theorem memC_yes {g : Gr} {s : ByteArray} {k j : Nat} {L : List ByteArray} (hj : j < L.length) (h : memC g s k j L = true) : memC g s k (j + 1) L = true := by
  rw [memC, hasT_snoc hj, ← Bool.or_assoc]; unfold memC at h; rw [h, Bool.true_or]
theorem memC_no {g : Gr} {s : ByteArray} {k j : Nat} {L : List ByteArray} (hj : j < L.length) (h : memC g s k j L = false) : memC g s k (j + 1) L = (L[j]!.toList == s.toList) := by
  rw [memC, hasT_snoc hj, ← Bool.or_assoc]; unfold memC at h; rw [h, Bool.false_or]
theorem memC_all (g : Gr) (s : ByteArray) (k : Nat) : memC g s k (aboveL g g.es[k]!.group).length (aboveL g g.es[k]!.group) = memR g s k := by rw [memC, memR, List.take_length]
theorem own_two {w : World} {B e e2 z z2 n n2 : Nat} {v v2 : Value} {xs ys : List Value} (h : w.ownsRow B e z v n xs) (h2 : w.ownsRow B e2 z2 v2 n2 ys) (hne : e ≠ e2) : v.ownBlock = none ∨ v.ownBlock ≠ v2.ownBlock := by
  rcases h.2 with ⟨rfl, _⟩ | ⟨g, cap, cur, rfl, _, hg, _⟩
  · exact .inl rfl
  · right
    rcases h2.2 with ⟨rfl, _⟩ | ⟨g2, cap2, cur2, rfl, _, hg2, _⟩
    · intro hb; cases hb
    · intro hb
      cases hb
      rw [hg] at hg2
      injection hg2 with hg2
      injection hg2 with _ h3
      exact hne h3
theorem str_cell {w : World} {B j : Nat} {L : List ByteArray} {gb c : Nat} (h : w.ownsRow B 9 1 (.slice (some ⟨gb, 0, none⟩) L.length c) L.length (L.map Value.string)) (hj : j < L.length) : w.cell? ⟨gb, j, none⟩ = some (.string L[j]!) := by
  have h1 := h.cellAt j (by omega)
  rw [List.getElem?_map, List.getElem?_eq_getElem hj, ← getElem!_pos L j hj] at h1
  exact h1
theorem own_some' {w : World} {B e z n : Nat} {v : Value} {xs : List Value} (h : w.ownsRow B e z v n xs) (hn : 0 < n) : ∃ b cap, v = .slice (some ⟨b, 0, none⟩) n cap ∧ b < w.heap.size := by
  rcases h.2 with ⟨hv, h0⟩ | ⟨g, cap, cur, hv, _, hg, _⟩
  · omega
  · exact ⟨g, cap, hv, (Array.getElem?_eq_some_iff.1 hg).1⟩

set_option maxRecDepth 100000 in
set_option maxHeartbeats 8000000 in
theorem rmembers_any (w : World) (g : Gr) (s : ByteArray) (hI : InG w g) (hz : SzG g) :
    Calls Try.prog 23 #[.agg #[.slice g.ga g.gs.length g.gc, .slice g.ea g.es.length g.ec, .slice g.ra g.rs.length g.rc, .slice g.ua g.us.length g.uc], .string s] w (IntsOf (memL g s) w) := by
  have HI := Lib.hid hI
  have z2 := hz.es
  have HZ := Lib.hid hz
  have hs0 := box_size w g
  have C := Lib.hid (rright_any ((boxW w g).alloc (.cells #[] 3)) g (hI.below (Nat.le_refl _) ((box_below w g).alloc (by omega) _)) hz)
  have X0 := Lib.hid (gx_alloc (gx_start w g) (.cells #[] 3))
  have V0 : Hid (((boxW w g).alloc (.cells #[] 3)).ownsRow (w.heap.size + 1) 3 1 (.slice (some ⟨w.heap.size + 1, 0, none⟩) 0 0) 0 []) := Lib.hid (by
    have h := own_emp (boxW w g) 3 1 (B := w.heap.size + 1) (by omega)
    rw [hs0] at h; exact h)
  have HS0 := Lib.hid hs0
  clear hI hz hs0
  cases hm : mayL g with
  | false =>
    have HL : Hid (memL g s = []) := Lib.hid (by rw [memL, hm]; rfl)
    rw [hm] at C
    clear hm
    go_enter Try.func23, Try.ntmps23
    go_wp2_with fail
    refine C.out.mono ?_
    rintro e w1 ⟨rfl, hb1⟩
    have HX1 := Lib.hid (gx_more X0.out hb1)
    have HV1 := Lib.hid (own_base (own_below V0.out hb1) (Nat.le_succ _))
    go_wp2_with fail
    go_ret
    exact ⟨_, rfl, by rw [HL.out]; exact HV1.out, gx_old HX1.out⟩
  | true =>
    have HL : Hid (memL g s = memF g s g.es.length) := Lib.hid (memF_mem hm s).symm
    have HF := Lib.hid (may_few hm)
    have f1 := HF.out.gs
    have f2 := HF.out.es
    have HAL : Hid (∀ c, (aboveL g c).length ≤ 40) := Lib.hid (fun c => by rw [← down_above hm]; have := down_len g g.gs.length c; omega)
    rw [hm] at C
    clear hm
    obtain ⟨i0, hi, hz0, hz1, hz2⟩ := info_parts infoInt
    have HI0 := Lib.hid hi
    have HZ0 := Lib.hid hz0
    have HZ1 := Lib.hid hz1
    have HZ2 := Lib.hid hz2
    clear hi hz0 hz1 hz2
    go_enter Try.func23, Try.ntmps23
    go_wp2_with fail
    refine C.out.mono ?_
    rintro e w1 ⟨rfl, hb1⟩
    have X1 := Lib.hid (gx_more X0.out hb1)
    have V1 := Lib.hid (own_below V0.out hb1)
    obtain ⟨a0, a1, a2, a3⟩ := box_cells X1.out
    clear hb1 C X0 V0
    go_wp2_with fail
    clear a0 a1 a2 a3
    go_loopw [5, 6] (fun v i wr => ∃ k : Nat, k ≤ g.es.length ∧ i = .int .i64 k ∧ Hid (wr.ownsRow (w.heap.size + 1) 3 1 v (memF g s k).length (intC (memF g s k))) ∧ Hid (GX w g wr)) (fun _ i _ => g.es.length - (intOf i).toNat)
    case atStart => exact ⟨0, Nat.zero_le _, rfl, V1, X1⟩
    case round =>
      clear X1 V1
      obtain ⟨k, hk, rfl, HV, HX⟩ := hrel
      obtain ⟨a0, a1, a2, a3⟩ := box_cells HX.out
      have hgs := gx_size HX.out
      have hml := memF_le g s k
      by_cases hlt : k < g.es.length
      · obtain ⟨b, off, hA, hb, hc⟩ := HI.out.es.at_ (k := 6) (fun _ => rfl) (by omega) hlt
        have k0 := hc 0 _ rfl
        rw [Nat.add_zero] at k0
        have k1 := hc 1 _ rfl
        rw [← (gx_old HX.out).cell (p := ⟨b, _, none⟩) hb] at k0 k1
        rw [hA] at a1
        have HA := Lib.hid hA
        obtain ⟨va, vc, rfl⟩ := own_slice HV.out
        have hk0 : (0 : Int) ≤ (k : Int) := Int.natCast_nonneg _
        have hk1 : (k : Int) < (g.es.length : Int) := by omega
        have hbw : b < wr.heap.size := by have := (gx_old HX.out).size; omega
        have HXd : Hid (GX w g wr.drew) := Lib.hid (below_draws HX.out 1)
        have HVd := Lib.hid (HV.out.drew)
        have C := Lib.hid (rabove_any wr.drew g g.es[k]!.group (HI.out.below (Nat.le_refl _) (gx_old HXd.out)) HZ.out)
        rw [hA] at C
        have hal := HAL.out g.es[k]!.group
        have HM0 := fun L => Lib.hid (memC_0 g s k L)
        have HMA := Lib.hid (memC_all g s k)
        clear hc hA
        obtain ⟨L, hL⟩ : ∃ L, aboveL g g.es[k]!.group = L := ⟨_, rfl⟩
        rw [hL] at C hal HMA
        clear hL
        obtain ⟨q, hq⟩ : ∃ q : Bool, (g.es[k]!.name.toList == s.toList) = q := ⟨_, rfl⟩
        have HM0' : Hid (memC g s k 0 L = q) := Lib.hid ((HM0 L).out.trans hq)
        clear HM0
        obtain ⟨p, hp⟩ : ∃ p, g.es[k]! = p := ⟨_, rfl⟩
        rw [hp] at k0 k1 C hq
        clear hp
        go_wp2_with fail
        clear hq
        go_still_tail 7, (by kernel_rfl)
        go_wp2_with fail
        refine C.out.mono ?_
        rintro e w5 ⟨v5, rfl, ho5, hb5⟩
        have HX5 := Lib.hid (gx_more HXd.out hb5)
        have HV5 := Lib.hid (own_below HVd.out hb5)
        obtain ⟨la, lc, rfl⟩ := own_slice ho5
        have HO5 := Lib.hid (own_base (B' := w.heap.size + 1) ho5 (by show w.heap.size + 1 ≤ wr.heap.size; omega))
        clear ho5 hb5 C HXd HVd HX HV a0 a1 a2 a3 k0 k1 hbw
        go_wp2_with fail
        obtain ⟨wo, rfl⟩ : ∃ wo : World, wo = wr := ⟨_, rfl⟩
        obtain ⟨va', hva⟩ : ∃ v : Value, v = .slice va (memF g s k).length vc := ⟨_, rfl⟩
        go_loopw [7, 9] (fun b j wx => ∃ m : Nat, m ≤ L.length ∧ j = .int .i64 m ∧ b = .bool (memC g s k m L) ∧ Hid (wx.ownsRow (w.heap.size + 1) 3 1 (.slice va (memF g s k).length vc) (memF g s k).length (intC (memF g s k))) ∧ Hid (wx.ownsRow (w.heap.size + 1) 9 1 (.slice la L.length lc) L.length (L.map Value.string)) ∧ Hid (GX w g wx)) (fun _ j _ => L.length - (intOf j).toNat)
        case atStart => exact ⟨0, Nat.zero_le _, rfl, by rw [HM0'.out], HV5, HO5, HX5⟩
        case round =>
          clear HV5 HO5 HX5
          obtain ⟨m, hm, rfl, rfl, HV, HO, HX⟩ := hrel
          by_cases hmt : m < L.length
          · obtain ⟨ob, oc, ho, hob⟩ := own_some' HO.out (by omega)
            injection ho with ho1 ho2 ho3
            subst ho1 ho3
            have hcell := str_cell HO.out hmt
            have hm0 : (0 : Int) ≤ (m : Int) := Int.natCast_nonneg _
            have hm1 : (m : Int) < (L.length : Int) := by omega
            cases hc : memC g s k m L with
            | true =>
              have HC := Lib.hid (memC_yes hmt hc)
              clear hc ho2
              go_wp2_with fail
              go_roundw
              case rel => exact ⟨m + 1, hmt, by go_num, by rw [HC.out], HV, HO, HX⟩
              case measure => simp [intOf]; omega
            | false =>
              have HC := Lib.hid (memC_no hmt hc)
              clear hc ho2
              generalize L[m]! = x at *
              go_wp2_with fail
              go_roundw
              case rel => exact ⟨m + 1, hmt, by go_num, by rw [HC.out], HV, HO, HX⟩
              case measure => simp [intOf]; omega
          · obtain rfl : m = L.length := by omega
            rw [HMA.out]
            clear HMA HM0'
            have hgs2 := gx_size HX.out
            cases hr : memR g s k with
            | false =>
              have HR := Lib.hid (memF_no hr)
              clear hr
              go_wp2_with fail
              go_roundw
              case rel => exact ⟨k + 1, hlt, by go_num, Lib.hid (by rw [HR.out]; exact HV.out), HX⟩
              case measure => simp [intOf]; omega
            | true =>
              have HR := Lib.hid (memF_yes hr)
              clear hr
              go_wp2_with (at_builtin; refine wpList_append_own _ rfl (.tmp 54) (.tmp 56) 54 rfl (w.heap.size + 1) 3 i0 _ 1 8 Try.underlying54 HI0.out HZ0.out HZ1.out HZ2.out rfl (by omega) _ _ _ rfl (HV.out.alloc _) ⟨wr.heap.size, 0, none⟩ 1 1 [.int .i64 k] rfl rfl ?c1 ?c2 ?c3 ?c4 ?c5 ?_)
              case c1 =>
                intro j u hj
                match j, hj with
                | 0, hj => simp at hj; subst hj; simp [Addr.add]
              case c2 => intro u hu; simp at hu; subst hu; rfl
              case c3 => unfold maxLen; omega
              case c4 => omega
              case c5 => simp; omega
              intro v' w4 hown' hgrow _
              have HX4 : Hid (GX w g w4) := Lib.hid ((gx_alloc HX.out _).grown hgrow (by rw [World.size_alloc]; omega) (fun j hj => (HV.out.lt j hj).1))
              have HV4 : Hid (w4.ownsRow (w.heap.size + 1) 3 1 v' (memF g s (k + 1)).length (intC (memF g s (k + 1)))) := Lib.hid (by
                rw [HR.out, intC, List.map_append, List.length_append]; exact hown')
              clear hown' hgrow
              go_wp2_with fail
              go_roundw
              case rel => exact ⟨k + 1, hlt, by go_num, HV4, HX4⟩
              case measure => simp [intOf]; omega
      · obtain rfl : k = g.es.length := by omega
        go_wp2_with fail
        go_ret
        exact ⟨_, rfl, by rw [HL.out]; exact own_base HV.out (Nat.le_succ _), gx_old HX.out⟩

end Go.Proofs.Ytplplkchibefjaa
