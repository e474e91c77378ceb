/-
  Contract of the document's own look at an event. (made by wip/tools/gen_rev.py)
-/
import Derived.Test.YtahhhhacoigpmaaScca
namespace Go.Proofs.Ytahhhhacoigpmaa
open Go.RowKit Go.Shelf
set_option maxRecDepth 100000 in
set_option maxHeartbeats 4000000 in
theorem revent_any (w : World) (g : Gr) (i : Nat) (hI : InG w g) (hz : SzG g) (hi : i < g.es.length) :
    Calls Try.prog 45 #[.agg #[.slice g.ga g.gs.length g.gc, .slice g.ea g.es.length g.ec, .slice g.ra g.rs.length g.rc, .slice g.ua g.us.length g.uc], .int .i64 i] w fun e w' => e = .returned (.int .i64 (eventE g i)) ∧ Below w.heap.size w w' := by
  obtain ⟨b, off, hA, hb, hc⟩ := hI.es.at_ (k := 6) (fun _ => rfl) (by omega) hi
  have k0 := hc 0 _ rfl
  rw [Nat.add_zero] at k0
  have k1 := hc 1 _ rfl
  have k2 := hc 2 _ rfl
  have k3 := hc 3 _ rfl
  have k4 := hc 4 _ rfl
  have k5 := hc 5 _ rfl
  have HI := Lib.hid hI
  clear hI hc
  have z1 := hz.gs
  have z2 := hz.es
  obtain ⟨hsn, hsp, hsr, _⟩ := hz.ev _ (mem_at hi)
  clear hz
  rw [← (box_below w g).cell (p := ⟨b, _, none⟩) hb] at k0 k1 k2 k3 k4 k5
  have i0 : (0 : Int) ≤ (i : Int) := Int.natCast_nonneg _
  have i1 : (i : Int) < (g.es.length : Int) := by omega
  have HE : Hid (eventE g i = if nameK g.es[i]!.name.toList && nameK g.es[i]!.role.toList && (g.es[i]!.group.toList == [] || nameK g.es[i]!.group.toList) then
    if hasB (gns g) g.es[i]!.name.toList || aheadB (ens g) g.es[i]!.name.toList i then 6
    else if g.es[i]!.group.toList == [] || hasB (gns g) g.es[i]!.group.toList then
      if g.es[i]!.due < -1 then 3 else if 1048576 < g.es[i]!.due then 3 else 0
    else 10
  else 5) := Lib.hid rfl
  have C0 := fun W => Lib.hid (rname_any g.es[i]!.name W hsn)
  have C1 := fun W => Lib.hid (rname_any g.es[i]!.role W hsr)
  have C2 := fun W => Lib.hid (rname_any g.es[i]!.group W hsp)
  have C3 := fun W hW => Lib.hid (hasGroup_any W g g.es[i]!.name g.gs.length hW z1 (Nat.le_refl _))
  have C4 := fun W hW => Lib.hid (hasEvent_any W g g.es[i]!.name i hW z2 (Nat.le_of_lt hi))
  have C5 := fun W hW => Lib.hid (hasGroup_any W g g.es[i]!.group g.gs.length hW z1 (Nat.le_refl _))
  rw [show aheadB (gns g) g.es[i]!.name.toList g.gs.length = hasB (gns g) g.es[i]!.name.toList from ahead_all Gp.name] at C3
  rw [show aheadB (gns g) g.es[i]!.group.toList g.gs.length = hasB (gns g) g.es[i]!.group.toList from ahead_all Gp.name] at C5
  generalize g.es[i]! = p at *
  unfold boxW at k0 k1 k2 k3 k4 k5
  rw [hA] at k0 k1 k2 k3 k4 k5 ⊢
  have HA := Lib.hid hA
  clear hA
  go_enter Try.func45, Try.ntmps45
  go_wp2_with fail
  refine (C0 _).out.mono ?_
  rintro e w1 ⟨rfl, hb⟩
  rw [← HA.out] at hb
  rw [show ((w.alloc _).alloc _).heap.size = w.heap.size + 2 from rbox_size w g _] at hb
  have hB1 : Below (w.heap.size + 2) ((boxW w g).alloc _) w1 := hb
  clear hb k0 k1 k2 k3 k4 k5
  cases h1 : nameK p.name.toList with
  | false =>
    rw [h1] at HE
    clear h1
    obtain ⟨⟨a0, a1, a2, a3⟩, hx⟩ := rbox hB1
    have x0 : w1.cell? ⟨w.heap.size + 1, 0, none⟩ = some (.string p.name) := hx 0 _ rfl
    have x1 : w1.cell? ⟨w.heap.size + 1, 1, none⟩ = some (.string p.group) := hx 1 _ rfl
    have x2 : w1.cell? ⟨w.heap.size + 1, 2, none⟩ = some (.string p.role) := hx 2 _ rfl
    have x5 : w1.cell? ⟨w.heap.size + 1, 5, none⟩ = some (.int .i64 p.due) := hx 5 _ rfl
    clear hx
    go_wp2_with fail
    go_ret
    exact ⟨ret_i64 (by rw [HE.out]; rfl), rbox_old hB1⟩
  | true =>
    rw [h1] at HE
    clear h1
    obtain ⟨⟨a0, a1, a2, a3⟩, hx⟩ := rbox hB1
    have x0 : w1.cell? ⟨w.heap.size + 1, 0, none⟩ = some (.string p.name) := hx 0 _ rfl
    have x1 : w1.cell? ⟨w.heap.size + 1, 1, none⟩ = some (.string p.group) := hx 1 _ rfl
    have x2 : w1.cell? ⟨w.heap.size + 1, 2, none⟩ = some (.string p.role) := hx 2 _ rfl
    have x5 : w1.cell? ⟨w.heap.size + 1, 5, none⟩ = some (.int .i64 p.due) := hx 5 _ rfl
    clear hx
    go_wp2_with fail
    refine (C1 _).out.mono ?_
    rintro e w2 ⟨rfl, hb⟩
    have hB2 := rbox_more hB1 hb
    clear hb hB1 a0 a1 a2 a3 x0 x1 x2 x5
    cases h2 : nameK p.role.toList with
    | false =>
      rw [h2] at HE
      clear h2
      obtain ⟨⟨a0, a1, a2, a3⟩, hx⟩ := rbox hB2
      have x0 : w2.cell? ⟨w.heap.size + 1, 0, none⟩ = some (.string p.name) := hx 0 _ rfl
      have x1 : w2.cell? ⟨w.heap.size + 1, 1, none⟩ = some (.string p.group) := hx 1 _ rfl
      have x2 : w2.cell? ⟨w.heap.size + 1, 2, none⟩ = some (.string p.role) := hx 2 _ rfl
      have x5 : w2.cell? ⟨w.heap.size + 1, 5, none⟩ = some (.int .i64 p.due) := hx 5 _ rfl
      clear hx
      go_wp2_with fail
      go_ret
      exact ⟨ret_i64 (by rw [HE.out]; rfl), rbox_old hB2⟩
    | true =>
      rw [h2] at HE
      clear h2
      obtain ⟨⟨a0, a1, a2, a3⟩, hx⟩ := rbox hB2
      have x0 : w2.cell? ⟨w.heap.size + 1, 0, none⟩ = some (.string p.name) := hx 0 _ rfl
      have x1 : w2.cell? ⟨w.heap.size + 1, 1, none⟩ = some (.string p.group) := hx 1 _ rfl
      have x2 : w2.cell? ⟨w.heap.size + 1, 2, none⟩ = some (.string p.role) := hx 2 _ rfl
      have x5 : w2.cell? ⟨w.heap.size + 1, 5, none⟩ = some (.int .i64 p.due) := hx 5 _ rfl
      clear hx
      cases hq : (p.group.toList == []) with
      | true =>
        rw [hq] at HE
        go_wp2_with fail
        refine (C3 _ (HI.out.below (Nat.le_refl _) (rbox_old hB2))).out.mono ?_
        rintro e w3 ⟨rfl, hb⟩
        have hB3 := rbox_more hB2 hb
        clear hb hB2 a0 a1 a2 a3 x0 x1 x2 x5
        cases h4 : hasB (gns g) p.name.toList with
        | false =>
          rw [h4] at HE
          clear h4
          obtain ⟨⟨a0, a1, a2, a3⟩, hx⟩ := rbox hB3
          have x0 : w3.cell? ⟨w.heap.size + 1, 0, none⟩ = some (.string p.name) := hx 0 _ rfl
          have x1 : w3.cell? ⟨w.heap.size + 1, 1, none⟩ = some (.string p.group) := hx 1 _ rfl
          have x2 : w3.cell? ⟨w.heap.size + 1, 2, none⟩ = some (.string p.role) := hx 2 _ rfl
          have x5 : w3.cell? ⟨w.heap.size + 1, 5, none⟩ = some (.int .i64 p.due) := hx 5 _ rfl
          clear hx
          go_wp2_with fail
          refine (C4 _ (HI.out.below (Nat.le_refl _) (rbox_old hB3))).out.mono ?_
          rintro e w4 ⟨rfl, hb⟩
          have hB4 := rbox_more hB3 hb
          clear hb hB3 a0 a1 a2 a3 x0 x1 x2 x5
          cases h5 : aheadB (ens g) p.name.toList i with
          | false =>
            rw [h5] at HE
            clear h5
            obtain ⟨⟨a0, a1, a2, a3⟩, hx⟩ := rbox hB4
            have x0 : w4.cell? ⟨w.heap.size + 1, 0, none⟩ = some (.string p.name) := hx 0 _ rfl
            have x1 : w4.cell? ⟨w.heap.size + 1, 1, none⟩ = some (.string p.group) := hx 1 _ rfl
            have x2 : w4.cell? ⟨w.heap.size + 1, 2, none⟩ = some (.string p.role) := hx 2 _ rfl
            have x5 : w4.cell? ⟨w.heap.size + 1, 5, none⟩ = some (.int .i64 p.due) := hx 5 _ rfl
            clear hx
            by_cases d1 : p.due < -1
            · rw [if_pos d1] at HE
              go_wp2_with fail
              go_ret
              exact ⟨ret_i64 (by rw [HE.out]; rfl), rbox_old hB4⟩
            rw [if_neg d1] at HE
            by_cases d2 : 1048576 < p.due
            · rw [if_pos d2] at HE
              go_wp2_with fail
              go_ret
              exact ⟨ret_i64 (by rw [HE.out]; rfl), rbox_old hB4⟩
            · rw [if_neg d2] at HE
              go_wp2_with fail
              go_ret
              exact ⟨ret_i64 (by rw [HE.out]; rfl), rbox_old hB4⟩
          | true =>
            rw [h5] at HE
            clear h5
            obtain ⟨⟨a0, a1, a2, a3⟩, hx⟩ := rbox hB4
            have x0 : w4.cell? ⟨w.heap.size + 1, 0, none⟩ = some (.string p.name) := hx 0 _ rfl
            have x1 : w4.cell? ⟨w.heap.size + 1, 1, none⟩ = some (.string p.group) := hx 1 _ rfl
            have x2 : w4.cell? ⟨w.heap.size + 1, 2, none⟩ = some (.string p.role) := hx 2 _ rfl
            have x5 : w4.cell? ⟨w.heap.size + 1, 5, none⟩ = some (.int .i64 p.due) := hx 5 _ rfl
            clear hx
            go_wp2_with fail
            go_ret
            exact ⟨ret_i64 (by rw [HE.out]; rfl), rbox_old hB4⟩
        | true =>
          rw [h4] at HE
          clear h4
          obtain ⟨⟨a0, a1, a2, a3⟩, hx⟩ := rbox hB3
          have x0 : w3.cell? ⟨w.heap.size + 1, 0, none⟩ = some (.string p.name) := hx 0 _ rfl
          have x1 : w3.cell? ⟨w.heap.size + 1, 1, none⟩ = some (.string p.group) := hx 1 _ rfl
          have x2 : w3.cell? ⟨w.heap.size + 1, 2, none⟩ = some (.string p.role) := hx 2 _ rfl
          have x5 : w3.cell? ⟨w.heap.size + 1, 5, none⟩ = some (.int .i64 p.due) := hx 5 _ rfl
          clear hx
          go_wp2_with fail
          go_ret
          exact ⟨ret_i64 (by rw [HE.out]; rfl), rbox_old hB3⟩
      | false =>
        rw [hq] at HE
        go_wp2_with fail
        refine (C2 _).out.mono ?_
        rintro e w3 ⟨rfl, hb⟩
        have hB3 := rbox_more hB2 hb
        clear hb hB2 a0 a1 a2 a3 x0 x1 x2 x5
        cases h3 : nameK p.group.toList with
        | false =>
          rw [h3] at HE
          clear h3
          obtain ⟨⟨a0, a1, a2, a3⟩, hx⟩ := rbox hB3
          have x0 : w3.cell? ⟨w.heap.size + 1, 0, none⟩ = some (.string p.name) := hx 0 _ rfl
          have x1 : w3.cell? ⟨w.heap.size + 1, 1, none⟩ = some (.string p.group) := hx 1 _ rfl
          have x2 : w3.cell? ⟨w.heap.size + 1, 2, none⟩ = some (.string p.role) := hx 2 _ rfl
          have x5 : w3.cell? ⟨w.heap.size + 1, 5, none⟩ = some (.int .i64 p.due) := hx 5 _ rfl
          clear hx
          go_wp2_with fail
          go_ret
          exact ⟨ret_i64 (by rw [HE.out]; rfl), rbox_old hB3⟩
        | true =>
          rw [h3] at HE
          clear h3
          obtain ⟨⟨a0, a1, a2, a3⟩, hx⟩ := rbox hB3
          have x0 : w3.cell? ⟨w.heap.size + 1, 0, none⟩ = some (.string p.name) := hx 0 _ rfl
          have x1 : w3.cell? ⟨w.heap.size + 1, 1, none⟩ = some (.string p.group) := hx 1 _ rfl
          have x2 : w3.cell? ⟨w.heap.size + 1, 2, none⟩ = some (.string p.role) := hx 2 _ rfl
          have x5 : w3.cell? ⟨w.heap.size + 1, 5, none⟩ = some (.int .i64 p.due) := hx 5 _ rfl
          clear hx
          go_wp2_with fail
          refine (C3 _ (HI.out.below (Nat.le_refl _) (rbox_old hB3))).out.mono ?_
          rintro e w4 ⟨rfl, hb⟩
          have hB4 := rbox_more hB3 hb
          clear hb hB3 a0 a1 a2 a3 x0 x1 x2 x5
          cases h4 : hasB (gns g) p.name.toList with
          | false =>
            rw [h4] at HE
            clear h4
            obtain ⟨⟨a0, a1, a2, a3⟩, hx⟩ := rbox hB4
            have x0 : w4.cell? ⟨w.heap.size + 1, 0, none⟩ = some (.string p.name) := hx 0 _ rfl
            have x1 : w4.cell? ⟨w.heap.size + 1, 1, none⟩ = some (.string p.group) := hx 1 _ rfl
            have x2 : w4.cell? ⟨w.heap.size + 1, 2, none⟩ = some (.string p.role) := hx 2 _ rfl
            have x5 : w4.cell? ⟨w.heap.size + 1, 5, none⟩ = some (.int .i64 p.due) := hx 5 _ rfl
            clear hx
            go_wp2_with fail
            refine (C4 _ (HI.out.below (Nat.le_refl _) (rbox_old hB4))).out.mono ?_
            rintro e w5 ⟨rfl, hb⟩
            have hB5 := rbox_more hB4 hb
            clear hb hB4 a0 a1 a2 a3 x0 x1 x2 x5
            cases h5 : aheadB (ens g) p.name.toList i with
            | false =>
              rw [h5] at HE
              clear h5
              obtain ⟨⟨a0, a1, a2, a3⟩, hx⟩ := rbox hB5
              have x0 : w5.cell? ⟨w.heap.size + 1, 0, none⟩ = some (.string p.name) := hx 0 _ rfl
              have x1 : w5.cell? ⟨w.heap.size + 1, 1, none⟩ = some (.string p.group) := hx 1 _ rfl
              have x2 : w5.cell? ⟨w.heap.size + 1, 2, none⟩ = some (.string p.role) := hx 2 _ rfl
              have x5 : w5.cell? ⟨w.heap.size + 1, 5, none⟩ = some (.int .i64 p.due) := hx 5 _ rfl
              clear hx
              go_wp2_with fail
              refine (C5 _ (HI.out.below (Nat.le_refl _) (rbox_old hB5))).out.mono ?_
              rintro e w6 ⟨rfl, hb⟩
              have hB6 := rbox_more hB5 hb
              clear hb hB5 a0 a1 a2 a3 x0 x1 x2 x5
              cases h6 : hasB (gns g) p.group.toList with
              | false =>
                rw [h6] at HE
                clear h6
                obtain ⟨⟨a0, a1, a2, a3⟩, hx⟩ := rbox hB6
                have x0 : w6.cell? ⟨w.heap.size + 1, 0, none⟩ = some (.string p.name) := hx 0 _ rfl
                have x1 : w6.cell? ⟨w.heap.size + 1, 1, none⟩ = some (.string p.group) := hx 1 _ rfl
                have x2 : w6.cell? ⟨w.heap.size + 1, 2, none⟩ = some (.string p.role) := hx 2 _ rfl
                have x5 : w6.cell? ⟨w.heap.size + 1, 5, none⟩ = some (.int .i64 p.due) := hx 5 _ rfl
                clear hx
                go_wp2_with fail
                go_ret
                exact ⟨ret_i64 (by rw [HE.out]; rfl), rbox_old hB6⟩
              | true =>
                rw [h6] at HE
                clear h6
                obtain ⟨⟨a0, a1, a2, a3⟩, hx⟩ := rbox hB6
                have x0 : w6.cell? ⟨w.heap.size + 1, 0, none⟩ = some (.string p.name) := hx 0 _ rfl
                have x1 : w6.cell? ⟨w.heap.size + 1, 1, none⟩ = some (.string p.group) := hx 1 _ rfl
                have x2 : w6.cell? ⟨w.heap.size + 1, 2, none⟩ = some (.string p.role) := hx 2 _ rfl
                have x5 : w6.cell? ⟨w.heap.size + 1, 5, none⟩ = some (.int .i64 p.due) := hx 5 _ rfl
                clear hx
                by_cases d1 : p.due < -1
                · rw [if_pos d1] at HE
                  go_wp2_with fail
                  go_ret
                  exact ⟨ret_i64 (by rw [HE.out]; rfl), rbox_old hB6⟩
                rw [if_neg d1] at HE
                by_cases d2 : 1048576 < p.due
                · rw [if_pos d2] at HE
                  go_wp2_with fail
                  go_ret
                  exact ⟨ret_i64 (by rw [HE.out]; rfl), rbox_old hB6⟩
                · rw [if_neg d2] at HE
                  go_wp2_with fail
                  go_ret
                  exact ⟨ret_i64 (by rw [HE.out]; rfl), rbox_old hB6⟩
            | true =>
              rw [h5] at HE
              clear h5
              obtain ⟨⟨a0, a1, a2, a3⟩, hx⟩ := rbox hB5
              have x0 : w5.cell? ⟨w.heap.size + 1, 0, none⟩ = some (.string p.name) := hx 0 _ rfl
              have x1 : w5.cell? ⟨w.heap.size + 1, 1, none⟩ = some (.string p.group) := hx 1 _ rfl
              have x2 : w5.cell? ⟨w.heap.size + 1, 2, none⟩ = some (.string p.role) := hx 2 _ rfl
              have x5 : w5.cell? ⟨w.heap.size + 1, 5, none⟩ = some (.int .i64 p.due) := hx 5 _ rfl
              clear hx
              go_wp2_with fail
              go_ret
              exact ⟨ret_i64 (by rw [HE.out]; rfl), rbox_old hB5⟩
          | true =>
            rw [h4] at HE
            clear h4
            obtain ⟨⟨a0, a1, a2, a3⟩, hx⟩ := rbox hB4
            have x0 : w4.cell? ⟨w.heap.size + 1, 0, none⟩ = some (.string p.name) := hx 0 _ rfl
            have x1 : w4.cell? ⟨w.heap.size + 1, 1, none⟩ = some (.string p.group) := hx 1 _ rfl
            have x2 : w4.cell? ⟨w.heap.size + 1, 2, none⟩ = some (.string p.role) := hx 2 _ rfl
            have x5 : w4.cell? ⟨w.heap.size + 1, 5, none⟩ = some (.int .i64 p.due) := hx 5 _ rfl
            clear hx
            go_wp2_with fail
            go_ret
            exact ⟨ret_i64 (by rw [HE.out]; rfl), rbox_old hB4⟩
end Go.Proofs.Ytahhhhacoigpmaa
