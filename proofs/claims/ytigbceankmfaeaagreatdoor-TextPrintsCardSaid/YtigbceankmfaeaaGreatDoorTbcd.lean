/-
  Contract of the looker's look at an event.
-/
import Derived.Test.YtigbceankmfaeaaGreatDoorTbbi
namespace Go.Proofs.YtigbceankmfaeaaGreatDoor
open Go.RowKit Go.Shelf
section
variable {L : Nat} {g : Gr} {bg be br bu : Nat}
set_option maxRecDepth 100000 in
set_option maxHeartbeats 4000000 in
theorem event_any (w : World) (h : LkIn w L g bg be br bu) (hz : SzG g) (i : Nat) (hi : i < g.es.length) :
    Calls Tryz.prog 44 #[.pointer (some ⟨L, 0, none⟩), .int .i64 i] w fun e w' => e = .returned (.int .i64 (eventE g i)) ∧ Below w.heap.size w w' := by
  have hgl := hz.es
  have c1 := h.c1
  have c4 := h.c4
  have c5 := h.c5
  have hL := h.lt
  obtain ⟨b, off, hA, hb, hc⟩ := h.ing.es.at_ (k := 6) (fun _ => rfl) (by omega) hi
  obtain ⟨hsn, hsg, hsr, _⟩ := hz.ev _ (mem_at hi)
  have k0 := hc 0 _ rfl
  rw [Nat.add_zero] at k0
  have k1 := hc 1 _ rfl
  have k2 := hc 2 _ rfl
  have k3 := hc 3 _ rfl
  have k4 := hc 4 _ rfl
  have k5 := hc 5 _ rfl
  have HE : Hid (eventE g i = if nameK g.es[i]!.name.toList && nameK g.es[i]!.role.toList && (g.es[i]!.group.toList == [] || nameK g.es[i]!.group.toList) then
    if hasB (gns g) g.es[i]!.name.toList || aheadB (ens g) g.es[i]!.name.toList i then 6
    else if g.es[i]!.group.toList == [] || hasB (gns g) g.es[i]!.group.toList then
      if g.es[i]!.due < -1 then 3 else if 1048576 < g.es[i]!.due then 3 else 0
    else 10
    else 5) := Lib.hid rfl
  have hat := has_at Ev.name hi
  have hbw : Below w.heap.size w (w.alloc (.cells #[.string g.es[i]!.name, .string g.es[i]!.group, .string g.es[i]!.role, .bool g.es[i]!.inn, .bool g.es[i]!.done, .int .i64 g.es[i]!.due] 46)) := (Below.refl _ _).alloc (Nat.le_refl _) _
  obtain ⟨q, hlk, hq, _⟩ := look_nm Ev.name g.es hsn
  have hl := fun n => (hlk _ _ (h.below (below_draws hbw n)).em).2
  have hq' := (hq hat).1
  have HA : Hid (decide (q < i) = aheadB (ens g) g.es[i]!.name.toList i) := Lib.hid (by rw [hq']; rfl)
  have H := Lib.hid h
  rw [hA] at c1
  clear h hc hA hq hq' hat hlk
  generalize g.es[i]! = v at *
  generalize ens g = ns at *
  have CG := fun n => Lib.hid (isGroup_any _ (H.out.below (below_draws hbw n)) v.name hsn)
  have CG2 := fun n => Lib.hid (isGroup_any _ (H.out.below (below_draws hbw n)) v.group hsg)
  cases hn1 : nameK v.name.toList with
  | false =>
    go_enter Tryz.func44, Tryz.ntmps44
    go_wp2_with (go_at_call 84; refine (isName_any _ _ (by assumption)).mono ?_; rintro e w' ⟨rfl, rfl⟩)
    go_ret
    exact ⟨ret_i64 (by rw [HE.out, hn1]; rfl), hbw⟩
  | true =>
    cases hn2 : nameK v.role.toList with
    | false =>
      go_enter Tryz.func44, Tryz.ntmps44
      go_wp2_with (go_at_call 84; refine (isName_any _ _ (by assumption)).mono ?_; rintro e w' ⟨rfl, rfl⟩)
      go_ret
      exact ⟨ret_i64 (by rw [HE.out, hn1, hn2]; rfl), hbw⟩
    | true =>
      cases hg0 : (v.group.toList == []) with
      | true =>
        cases hg1 : hasB (gns g) v.name.toList with
        | true =>
          rw [hg1] at CG
          go_enter Tryz.func44, Tryz.ntmps44
          go_wp2_with (go_at_call 84; refine (isName_any _ _ (by assumption)).mono ?_; rintro e w' ⟨rfl, rfl⟩)
          go_quiet ((go_at_call 86; exact quiet_left (CG _).out))
          go_wp2_with fail
          go_ret
          exact ⟨ret_i64 (by rw [HE.out, hn1, hn2, hg0, hg1]; rfl), below_draws hbw _⟩
        | false =>
          rw [hg1] at CG
          by_cases hqi : q < i
          · have hd : decide (q < i) = true := by simpa using hqi
            rw [hd] at HA
            go_enter Tryz.func44, Tryz.ntmps44
            go_wp2_with (go_at_call 84; refine (isName_any _ _ (by assumption)).mono ?_; rintro e w' ⟨rfl, rfl⟩)
            go_quiet ((go_at_call 86; exact quiet_left (CG _).out))
            go_wp2_with fail
            go_ret
            exact ⟨ret_i64 (by rw [HE.out, hn1, hn2, hg0, hg1, ← HA.out]; rfl), below_draws hbw _⟩
          · have hd : decide (q < i) = false := by simpa using hqi
            rw [hd] at HA
            by_cases d1 : v.due < -1
            · go_enter Tryz.func44, Tryz.ntmps44
              go_wp2_with (go_at_call 84; refine (isName_any _ _ (by assumption)).mono ?_; rintro e w' ⟨rfl, rfl⟩)
              go_quiet ((go_at_call 86; exact quiet_left (CG _).out))
              go_wp2_with (go_at_call 86; refine (CG2 _).out.mono ?_; rintro e w' ⟨rfl, rfl⟩)
              go_ret
              exact ⟨ret_i64 (by rw [HE.out, hn1, hn2, hg0, hg1, ← HA.out, if_pos (by omega : v.due < -1)]; rfl), below_draws hbw _⟩
            · by_cases d2 : 1048576 < v.due
              · go_enter Tryz.func44, Tryz.ntmps44
                go_wp2_with (go_at_call 84; refine (isName_any _ _ (by assumption)).mono ?_; rintro e w' ⟨rfl, rfl⟩)
                go_quiet ((go_at_call 86; exact quiet_left (CG _).out))
                go_wp2_with (go_at_call 86; refine (CG2 _).out.mono ?_; rintro e w' ⟨rfl, rfl⟩)
                go_ret
                exact ⟨ret_i64 (by rw [HE.out, hn1, hn2, hg0, hg1, ← HA.out, if_neg (by omega : ¬ v.due < -1), if_pos (by omega : 1048576 < v.due)]; rfl), below_draws hbw _⟩
              · go_enter Tryz.func44, Tryz.ntmps44
                go_wp2_with (go_at_call 84; refine (isName_any _ _ (by assumption)).mono ?_; rintro e w' ⟨rfl, rfl⟩)
                go_quiet ((go_at_call 86; exact quiet_left (CG _).out))
                go_wp2_with (go_at_call 86; refine (CG2 _).out.mono ?_; rintro e w' ⟨rfl, rfl⟩)
                go_ret
                exact ⟨ret_i64 (by rw [HE.out, hn1, hn2, hg0, hg1, ← HA.out, if_neg (by omega : ¬ v.due < -1), if_neg (by omega : ¬ 1048576 < v.due)]; rfl), below_draws hbw _⟩
      | false =>
        cases hn3 : nameK v.group.toList with
        | false =>
          go_enter Tryz.func44, Tryz.ntmps44
          go_wp2_with (go_at_call 84; refine (isName_any _ _ (by assumption)).mono ?_; rintro e w' ⟨rfl, rfl⟩)
          go_ret
          exact ⟨ret_i64 (by rw [HE.out, hn1, hn2, hg0, hn3]; rfl), hbw⟩
        | true =>
          cases hg1 : hasB (gns g) v.name.toList with
          | true =>
            rw [hg1] at CG
            go_enter Tryz.func44, Tryz.ntmps44
            go_wp2_with (go_at_call 84; refine (isName_any _ _ (by assumption)).mono ?_; rintro e w' ⟨rfl, rfl⟩)
            go_quiet ((go_at_call 86; exact quiet_left (CG _).out))
            go_wp2_with fail
            go_ret
            exact ⟨ret_i64 (by rw [HE.out, hn1, hn2, hg0, hn3, hg1]; rfl), below_draws hbw _⟩
          | false =>
            rw [hg1] at CG
            by_cases hqi : q < i
            · have hd : decide (q < i) = true := by simpa using hqi
              rw [hd] at HA
              go_enter Tryz.func44, Tryz.ntmps44
              go_wp2_with (go_at_call 84; refine (isName_any _ _ (by assumption)).mono ?_; rintro e w' ⟨rfl, rfl⟩)
              go_quiet ((go_at_call 86; exact quiet_left (CG _).out))
              go_wp2_with fail
              go_ret
              exact ⟨ret_i64 (by rw [HE.out, hn1, hn2, hg0, hn3, hg1, ← HA.out]; rfl), below_draws hbw _⟩
            · have hd : decide (q < i) = false := by simpa using hqi
              rw [hd] at HA
              cases hg2 : hasB (gns g) v.group.toList with
              | false =>
                rw [hg2] at CG2
                go_enter Tryz.func44, Tryz.ntmps44
                go_wp2_with (go_at_call 84; refine (isName_any _ _ (by assumption)).mono ?_; rintro e w' ⟨rfl, rfl⟩)
                go_quiet ((go_at_call 86; exact quiet_left (CG _).out))
                go_wp2_with (go_at_call 86; refine (CG2 _).out.mono ?_; rintro e w' ⟨rfl, rfl⟩)
                go_ret
                exact ⟨ret_i64 (by rw [HE.out, hn1, hn2, hg0, hn3, hg1, ← HA.out, hg2]; rfl), below_draws hbw _⟩
              | true =>
                rw [hg2] at CG2
                by_cases d1 : v.due < -1
                · go_enter Tryz.func44, Tryz.ntmps44
                  go_wp2_with (go_at_call 84; refine (isName_any _ _ (by assumption)).mono ?_; rintro e w' ⟨rfl, rfl⟩)
                  go_quiet ((go_at_call 86; exact quiet_left (CG _).out))
                  go_wp2_with (go_at_call 86; refine (CG2 _).out.mono ?_; rintro e w' ⟨rfl, rfl⟩)
                  go_ret
                  exact ⟨ret_i64 (by rw [HE.out, hn1, hn2, hg0, hn3, hg1, ← HA.out, hg2, if_pos (by omega : v.due < -1)]; rfl), below_draws hbw _⟩
                · by_cases d2 : 1048576 < v.due
                  · go_enter Tryz.func44, Tryz.ntmps44
                    go_wp2_with (go_at_call 84; refine (isName_any _ _ (by assumption)).mono ?_; rintro e w' ⟨rfl, rfl⟩)
                    go_quiet ((go_at_call 86; exact quiet_left (CG _).out))
                    go_wp2_with (go_at_call 86; refine (CG2 _).out.mono ?_; rintro e w' ⟨rfl, rfl⟩)
                    go_ret
                    exact ⟨ret_i64 (by rw [HE.out, hn1, hn2, hg0, hn3, hg1, ← HA.out, hg2, if_neg (by omega : ¬ v.due < -1), if_pos (by omega : 1048576 < v.due)]; rfl), below_draws hbw _⟩
                  · go_enter Tryz.func44, Tryz.ntmps44
                    go_wp2_with (go_at_call 84; refine (isName_any _ _ (by assumption)).mono ?_; rintro e w' ⟨rfl, rfl⟩)
                    go_quiet ((go_at_call 86; exact quiet_left (CG _).out))
                    go_wp2_with (go_at_call 86; refine (CG2 _).out.mono ?_; rintro e w' ⟨rfl, rfl⟩)
                    go_ret
                    exact ⟨ret_i64 (by rw [HE.out, hn1, hn2, hg0, hn3, hg1, ← HA.out, hg2, if_neg (by omega : ¬ v.due < -1), if_neg (by omega : ¬ 1048576 < v.due)]; rfl), below_draws hbw _⟩
end
end Go.Proofs.YtigbceankmfaeaaGreatDoor
