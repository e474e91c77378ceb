/-
  Contract of the looker's look at an event. Contract of the looker's look at a relation. Contracts of the library's search for a text, of graph.repeats, and of the looker's look at the limits.
-/
import Derived.Test.YtahhhhacoigpmaaScah
import Derived.Deep.RegionWith
namespace Go.Proofs.Ytahhhhacoigpmaa
open Go.RowKit Go.Shelf
section
variable {L : Nat} {g : Gr} {bg be br bu : Nat}
set_option maxRecDepth 100000 in
set_option maxHeartbeats 4000000 in
theorem event_any (w : World) (h : LkIn w L g bg be br bu) (hz : SzG g) (i : Nat) (hi : i < g.es.length) :
    Calls Try.prog 41 #[.pointer (some ⟨L, 0, none⟩), .int .i64 i] w fun e w' => e = .returned (.int .i64 (eventE g i)) ∧ Below w.heap.size w w' := by
  have hgl := hz.es
  have c1 := h.c1
  have c4 := h.c4
  have c5 := h.c5
  have hL := h.lt
  obtain ⟨b, off, hA, hb, hc⟩ := h.ing.es.at_ (k := 6) (fun _ => rfl) (by omega) hi
  obtain ⟨hsn, hsg, hsr, _⟩ := hz.ev _ (mem_at hi)
  have k0 := hc 0 _ rfl
  rw [Nat.add_zero] at k0
  have k1 := hc 1 _ rfl
  have k2 := hc 2 _ rfl
  have k3 := hc 3 _ rfl
  have k4 := hc 4 _ rfl
  have k5 := hc 5 _ rfl
  have HE : Hid (eventE g i = if nameK g.es[i]!.name.toList && nameK g.es[i]!.role.toList && (g.es[i]!.group.toList == [] || nameK g.es[i]!.group.toList) then
    if hasB (gns g) g.es[i]!.name.toList || aheadB (ens g) g.es[i]!.name.toList i then 6
    else if g.es[i]!.group.toList == [] || hasB (gns g) g.es[i]!.group.toList then
      if g.es[i]!.due < -1 then 3 else if 1048576 < g.es[i]!.due then 3 else 0
    else 10
    else 5) := Lib.hid rfl
  have hat := has_at Ev.name hi
  have hbw : Below w.heap.size w (w.alloc (.cells #[.string g.es[i]!.name, .string g.es[i]!.group, .string g.es[i]!.role, .bool g.es[i]!.inn, .bool g.es[i]!.done, .int .i64 g.es[i]!.due] 58)) := (Below.refl _ _).alloc (Nat.le_refl _) _
  obtain ⟨q, hlk, hq, _⟩ := look_nm Ev.name g.es hsn
  have hl := fun n => (hlk _ _ (h.below (below_draws hbw n)).em).2
  have hq' := (hq hat).1
  have HA : Hid (decide (q < i) = aheadB (ens g) g.es[i]!.name.toList i) := Lib.hid (by rw [hq']; rfl)
  have H := Lib.hid h
  rw [hA] at c1
  clear h hc hA hq hq' hat hlk
  generalize g.es[i]! = v at *
  generalize ens g = ns at *
  have CG := fun n => Lib.hid (isGroup_any _ (H.out.below (below_draws hbw n)) v.name hsn)
  have CG2 := fun n => Lib.hid (isGroup_any _ (H.out.below (below_draws hbw n)) v.group hsg)
  cases hn1 : nameK v.name.toList with
  | false =>
    go_enter Try.func41, Try.ntmps41
    go_wp2_with (go_at_call 61; refine (isName_any _ _ (by assumption)).mono ?_; rintro e w' ⟨rfl, rfl⟩)
    go_ret
    exact ⟨ret_i64 (by rw [HE.out, hn1]; rfl), hbw⟩
  | true =>
    cases hn2 : nameK v.role.toList with
    | false =>
      go_enter Try.func41, Try.ntmps41
      go_wp2_with (go_at_call 61; refine (isName_any _ _ (by assumption)).mono ?_; rintro e w' ⟨rfl, rfl⟩)
      go_ret
      exact ⟨ret_i64 (by rw [HE.out, hn1, hn2]; rfl), hbw⟩
    | true =>
      cases hg0 : (v.group.toList == []) with
      | true =>
        cases hg1 : hasB (gns g) v.name.toList with
        | true =>
          rw [hg1] at CG
          go_enter Try.func41, Try.ntmps41
          go_wp2_with (go_at_call 61; refine (isName_any _ _ (by assumption)).mono ?_; rintro e w' ⟨rfl, rfl⟩)
          go_quiet ((go_at_call 63; exact quiet_left (CG _).out))
          go_wp2_with fail
          go_ret
          exact ⟨ret_i64 (by rw [HE.out, hn1, hn2, hg0, hg1]; rfl), below_draws hbw _⟩
        | false =>
          rw [hg1] at CG
          by_cases hqi : q < i
          · have hd : decide (q < i) = true := by simpa using hqi
            rw [hd] at HA
            go_enter Try.func41, Try.ntmps41
            go_wp2_with (go_at_call 61; refine (isName_any _ _ (by assumption)).mono ?_; rintro e w' ⟨rfl, rfl⟩)
            go_quiet ((go_at_call 63; exact quiet_left (CG _).out))
            go_wp2_with fail
            go_ret
            exact ⟨ret_i64 (by rw [HE.out, hn1, hn2, hg0, hg1, ← HA.out]; rfl), below_draws hbw _⟩
          · have hd : decide (q < i) = false := by simpa using hqi
            rw [hd] at HA
            by_cases d1 : v.due < -1
            · go_enter Try.func41, Try.ntmps41
              go_wp2_with (go_at_call 61; refine (isName_any _ _ (by assumption)).mono ?_; rintro e w' ⟨rfl, rfl⟩)
              go_quiet ((go_at_call 63; exact quiet_left (CG _).out))
              go_wp2_with (go_at_call 63; refine (CG2 _).out.mono ?_; rintro e w' ⟨rfl, rfl⟩)
              go_ret
              exact ⟨ret_i64 (by rw [HE.out, hn1, hn2, hg0, hg1, ← HA.out, if_pos (by omega : v.due < -1)]; rfl), below_draws hbw _⟩
            · by_cases d2 : 1048576 < v.due
              · go_enter Try.func41, Try.ntmps41
                go_wp2_with (go_at_call 61; refine (isName_any _ _ (by assumption)).mono ?_; rintro e w' ⟨rfl, rfl⟩)
                go_quiet ((go_at_call 63; exact quiet_left (CG _).out))
                go_wp2_with (go_at_call 63; refine (CG2 _).out.mono ?_; rintro e w' ⟨rfl, rfl⟩)
                go_ret
                exact ⟨ret_i64 (by rw [HE.out, hn1, hn2, hg0, hg1, ← HA.out, if_neg (by omega : ¬ v.due < -1), if_pos (by omega : 1048576 < v.due)]; rfl), below_draws hbw _⟩
              · go_enter Try.func41, Try.ntmps41
                go_wp2_with (go_at_call 61; refine (isName_any _ _ (by assumption)).mono ?_; rintro e w' ⟨rfl, rfl⟩)
                go_quiet ((go_at_call 63; exact quiet_left (CG _).out))
                go_wp2_with (go_at_call 63; refine (CG2 _).out.mono ?_; rintro e w' ⟨rfl, rfl⟩)
                go_ret
                exact ⟨ret_i64 (by rw [HE.out, hn1, hn2, hg0, hg1, ← HA.out, if_neg (by omega : ¬ v.due < -1), if_neg (by omega : ¬ 1048576 < v.due)]; rfl), below_draws hbw _⟩
      | false =>
        cases hn3 : nameK v.group.toList with
        | false =>
          go_enter Try.func41, Try.ntmps41
          go_wp2_with (go_at_call 61; refine (isName_any _ _ (by assumption)).mono ?_; rintro e w' ⟨rfl, rfl⟩)
          go_ret
          exact ⟨ret_i64 (by rw [HE.out, hn1, hn2, hg0, hn3]; rfl), hbw⟩
        | true =>
          cases hg1 : hasB (gns g) v.name.toList with
          | true =>
            rw [hg1] at CG
            go_enter Try.func41, Try.ntmps41
            go_wp2_with (go_at_call 61; refine (isName_any _ _ (by assumption)).mono ?_; rintro e w' ⟨rfl, rfl⟩)
            go_quiet ((go_at_call 63; exact quiet_left (CG _).out))
            go_wp2_with fail
            go_ret
            exact ⟨ret_i64 (by rw [HE.out, hn1, hn2, hg0, hn3, hg1]; rfl), below_draws hbw _⟩
          | false =>
            rw [hg1] at CG
            by_cases hqi : q < i
            · have hd : decide (q < i) = true := by simpa using hqi
              rw [hd] at HA
              go_enter Try.func41, Try.ntmps41
              go_wp2_with (go_at_call 61; refine (isName_any _ _ (by assumption)).mono ?_; rintro e w' ⟨rfl, rfl⟩)
              go_quiet ((go_at_call 63; exact quiet_left (CG _).out))
              go_wp2_with fail
              go_ret
              exact ⟨ret_i64 (by rw [HE.out, hn1, hn2, hg0, hn3, hg1, ← HA.out]; rfl), below_draws hbw _⟩
            · have hd : decide (q < i) = false := by simpa using hqi
              rw [hd] at HA
              cases hg2 : hasB (gns g) v.group.toList with
              | false =>
                rw [hg2] at CG2
                go_enter Try.func41, Try.ntmps41
                go_wp2_with (go_at_call 61; refine (isName_any _ _ (by assumption)).mono ?_; rintro e w' ⟨rfl, rfl⟩)
                go_quiet ((go_at_call 63; exact quiet_left (CG _).out))
                go_wp2_with (go_at_call 63; refine (CG2 _).out.mono ?_; rintro e w' ⟨rfl, rfl⟩)
                go_ret
                exact ⟨ret_i64 (by rw [HE.out, hn1, hn2, hg0, hn3, hg1, ← HA.out, hg2]; rfl), below_draws hbw _⟩
              | true =>
                rw [hg2] at CG2
                by_cases d1 : v.due < -1
                · go_enter Try.func41, Try.ntmps41
                  go_wp2_with (go_at_call 61; refine (isName_any _ _ (by assumption)).mono ?_; rintro e w' ⟨rfl, rfl⟩)
                  go_quiet ((go_at_call 63; exact quiet_left (CG _).out))
                  go_wp2_with (go_at_call 63; refine (CG2 _).out.mono ?_; rintro e w' ⟨rfl, rfl⟩)
                  go_ret
                  exact ⟨ret_i64 (by rw [HE.out, hn1, hn2, hg0, hn3, hg1, ← HA.out, hg2, if_pos (by omega : v.due < -1)]; rfl), below_draws hbw _⟩
                · by_cases d2 : 1048576 < v.due
                  · go_enter Try.func41, Try.ntmps41
                    go_wp2_with (go_at_call 61; refine (isName_any _ _ (by assumption)).mono ?_; rintro e w' ⟨rfl, rfl⟩)
                    go_quiet ((go_at_call 63; exact quiet_left (CG _).out))
                    go_wp2_with (go_at_call 63; refine (CG2 _).out.mono ?_; rintro e w' ⟨rfl, rfl⟩)
                    go_ret
                    exact ⟨ret_i64 (by rw [HE.out, hn1, hn2, hg0, hn3, hg1, ← HA.out, hg2, if_neg (by omega : ¬ v.due < -1), if_pos (by omega : 1048576 < v.due)]; rfl), below_draws hbw _⟩
                  · go_enter Try.func41, Try.ntmps41
                    go_wp2_with (go_at_call 61; refine (isName_any _ _ (by assumption)).mono ?_; rintro e w' ⟨rfl, rfl⟩)
                    go_quiet ((go_at_call 63; exact quiet_left (CG _).out))
                    go_wp2_with (go_at_call 63; refine (CG2 _).out.mono ?_; rintro e w' ⟨rfl, rfl⟩)
                    go_ret
                    exact ⟨ret_i64 (by rw [HE.out, hn1, hn2, hg0, hn3, hg1, ← HA.out, hg2, if_neg (by omega : ¬ v.due < -1), if_neg (by omega : ¬ 1048576 < v.due)]; rfl), below_draws hbw _⟩
end
end Go.Proofs.Ytahhhhacoigpmaa

namespace Go.Proofs.Ytahhhhacoigpmaa
open Go.RowKit Go.Shelf
theorem first_rl {l : List Rl} (hl : ∀ x ∈ l, OkR x) {r : Rl} (hr : OkR r) : firstOf (l.map fun p => rlit (rkey p)) (rlit (rkey r)) = if hasB (l.map rkey) (rkey r) then some ((l.map rkey).idxOf (rkey r)) else none := by
  have h := firstOf_map rlit (rkey r) (l.map rkey) (fun x hx e => by
    obtain ⟨y, hy, rfl⟩ := List.mem_map.1 hx
    have e1 := keyR (hl y hy)
    rw [e] at e1
    have e2 := lawR.inj e1 (keyR hr)
    simp only [Value.agg.injEq, Array.mk.injEq, List.cons.injEq, Value.int.injEq, Value.string.injEq, true_and, and_true] at e2
    unfold rkey
    rw [e2.1, e2.2.1, e2.2.2])
  rw [List.map_map] at h
  exact h
theorem look_rl {l : List Rl} (hl : ∀ x ∈ l, OkR x) {r : Rl} (hr : OkR r) (hm : hasB (l.map rkey) (rkey r) = true) (b : Nat) (w : World) (h : MapFn w Try.prog 60 3 b l.length (firstOf (l.map fun p => rlit (rkey p)))) :
    (Instr.lookup 86 (.map (some b)) (.agg #[.int .i64 r.kind, .string r.src, .string r.dst, .int .i64 0]) false).run Try.prog w = .ok (.int .i64 (((l.map rkey).idxOf (rkey r) : Nat) : Int)) w := by
  have h2 := h.look lawR Try.underlying86 Try.underlying3 (Try.zeroValue3 w) (keyR hr)
  rw [first_rl hl hr, hm] at h2
  exact h2
set_option maxHeartbeats 400000 in
theorem timeless_any (v : Rl) (w : World) : Calls Try.prog 58 #[.agg #[.int .i64 v.kind, .string v.src, .string v.dst, .int .i64 v.time]] w fun e w' => e = .returned (.agg #[.int .i64 v.kind, .string v.src, .string v.dst, .int .i64 0]) ∧ w' = (w.alloc (.cells #[.int .i64 v.kind, .string v.src, .string v.dst, .int .i64 0] 60)).alloc (.cells #[.int .i64 v.kind, .string v.src, .string v.dst, .int .i64 0] 60) := by
  go_enter Try.func58, Try.ntmps58
  go_wp2
  exact bodyPost_ret (v := .agg #[.int .i64 v.kind, .string v.src, .string v.dst, .int .i64 0]) (by simp [results, Try.results58, go_sem]) rfl ⟨rfl, rfl⟩
section
variable {L : Nat} {g : Gr} {bg be br bu : Nat}
set_option maxRecDepth 100000 in
set_option maxHeartbeats 4000000 in
theorem relation_any (w : World) (h : LkIn w L g bg be br bu) (hz : SzG g) (i : Nat) (hi : i < g.rs.length) :
    Calls Try.prog 42 #[.pointer (some ⟨L, 0, none⟩), .int .i64 i] w fun e w' => e = .returned (.int .i64 (relE g i)) ∧ Below w.heap.size w w' := by
  have hgl := hz.rs
  have c2 := h.c2
  have c6 := h.c6
  have hL := h.lt
  obtain ⟨b, off, hA, hb, hc⟩ := h.ing.rs.at_ (k := 4) (fun _ => rfl) (by omega) hi
  obtain ⟨hss, hsd, hwk, _⟩ := hz.rl _ (mem_at hi)
  have hok : OkR g.rs[i]! := ⟨hss, hsd, hwk⟩
  have hall : ∀ x ∈ g.rs, OkR x := fun x hx => by obtain ⟨a1, a2, a3, _⟩ := hz.rl x hx; exact ⟨a1, a2, a3⟩
  have k0 := hc 0 _ rfl
  rw [Nat.add_zero] at k0
  have k1 := hc 1 _ rfl
  have k2 := hc 2 _ rfl
  have k3 := hc 3 _ rfl
  have HE : Hid (relE g i = if g.rs[i]!.kind < 1 then 1 else if 5 < g.rs[i]!.kind then 1
    else if thereB g g.rs[i]!.src.toList && thereB g g.rs[i]!.dst.toList then
      if g.rs[i]!.time < 0 then 3 else if longL g.rs[i]!.kind < g.rs[i]!.time then 3
      else if aheadB (rks g) (rkey g.rs[i]!) i then 6 else 0
    else 10) := Lib.hid rfl
  have hat : hasB (g.rs.map rkey) (rkey g.rs[i]!) = true := by
    simp only [hasB, List.contains_iff_mem, List.mem_map]
    exact ⟨_, mem_at hi, rfl⟩
  have hbw : Below w.heap.size w (w.alloc (.cells #[.int .i64 g.rs[i]!.kind, .string g.rs[i]!.src, .string g.rs[i]!.dst, .int .i64 g.rs[i]!.time] 60)) := (Below.refl _ _).alloc (Nat.le_refl _) _
  have hlk := look_rl hall hok hat br
  obtain ⟨q, hq⟩ : ∃ q, q = (g.rs.map rkey).idxOf (rkey g.rs[i]!) := ⟨_, rfl⟩
  rw [← hq] at hlk
  have HA : Hid (decide (q < i) = aheadB (rks g) (rkey g.rs[i]!) i) := Lib.hid (by rw [hq]; rfl)
  have hql : q < g.rs.length := by
    rw [hq]
    have := List.idxOf_lt_length_iff.2 (List.contains_iff_mem.1 hat)
    simpa using this
  have HLK := Lib.hid hlk
  have H := Lib.hid h
  rw [hA] at c2
  clear h hc hA hq hat hlk hok hall
  generalize g.rs[i]! = v at *
  have C1 := fun n => Lib.hid (isThere_any _ (H.out.below (below_draws hbw n)) v.src hss)
  have C2 := fun n => Lib.hid (isThere_any _ (H.out.below (below_draws hbw n)) v.dst hsd)
  have C1' := Lib.hid (isThere_any _ (H.out.below hbw) v.src hss)
  have C2' := Lib.hid (isThere_any _ (H.out.below hbw) v.dst hsd)
  have CL := fun n => Lib.hid (longest_any v.kind ((w.alloc (.cells #[.int .i64 v.kind, .string v.src, .string v.dst, .int .i64 v.time] 60)).drewN n))
  clear C1 C2
  by_cases d1 : v.kind < 1
  · go_enter Try.func42, Try.ntmps42
    go_wp2_with (first | (go_at_call_of 64 v.src; refine C1'.out.mono ?_; rintro e w' ⟨rfl, rfl⟩) | (go_at_call_of 64 v.dst; refine C2'.out.mono ?_; rintro e w' ⟨rfl, rfl⟩))
    go_ret
    exact ⟨ret_i64 (by rw [HE.out, if_pos (by omega)]; rfl), hbw⟩
  · by_cases d2 : 5 < v.kind
    · go_enter Try.func42, Try.ntmps42
      go_wp2_with (first | (go_at_call_of 64 v.src; refine C1'.out.mono ?_; rintro e w' ⟨rfl, rfl⟩) | (go_at_call_of 64 v.dst; refine C2'.out.mono ?_; rintro e w' ⟨rfl, rfl⟩))
      go_ret
      exact ⟨ret_i64 (by rw [HE.out, if_neg (by omega : ¬ v.kind < 1), if_pos (by omega)]; rfl), hbw⟩
    · cases t1 : thereB g v.src.toList with
      | false =>
        rw [t1] at C1'
        go_enter Try.func42, Try.ntmps42
        go_wp2_with (first | (go_at_call_of 64 v.src; refine C1'.out.mono ?_; rintro e w' ⟨rfl, rfl⟩) | (go_at_call_of 64 v.dst; refine C2'.out.mono ?_; rintro e w' ⟨rfl, rfl⟩))
        go_ret
        exact ⟨ret_i64 (by rw [HE.out, if_neg (by omega : ¬ v.kind < 1), if_neg (by omega : ¬ 5 < v.kind), t1]; rfl), hbw⟩
      | true =>
        rw [t1] at C1'
        cases t2 : thereB g v.dst.toList with
        | false =>
          rw [t2] at C2'
          go_enter Try.func42, Try.ntmps42
          go_wp2_with (first | (go_at_call_of 64 v.src; refine C1'.out.mono ?_; rintro e w' ⟨rfl, rfl⟩) | (go_at_call_of 64 v.dst; refine C2'.out.mono ?_; rintro e w' ⟨rfl, rfl⟩))
          go_ret
          exact ⟨ret_i64 (by rw [HE.out, if_neg (by omega : ¬ v.kind < 1), if_neg (by omega : ¬ 5 < v.kind), t1, t2]; rfl), hbw⟩
        | true =>
          rw [t2] at C2'
          by_cases d3 : v.time < 0
          · have d3' : decide (v.time < 0) = true := by simpa using d3
            go_enter Try.func42, Try.ntmps42
            go_wp2_with (first | (go_at_call_of 64 v.src; refine C1'.out.mono ?_; rintro e w' ⟨rfl, rfl⟩) | (go_at_call_of 64 v.dst; refine C2'.out.mono ?_; rintro e w' ⟨rfl, rfl⟩))
            go_quiet (fail)
            go_wp2_with fail
            go_ret
            exact ⟨ret_i64 (by rw [HE.out, if_neg (by omega : ¬ v.kind < 1), if_neg (by omega : ¬ 5 < v.kind), t1, t2, if_pos (by rfl), if_pos (by omega)]; rfl), below_draws hbw _⟩
          · have d3' : decide (v.time < 0) = false := by simpa using d3
            by_cases d4 : longL v.kind < v.time
            · go_enter Try.func42, Try.ntmps42
              go_wp2_with (first | (go_at_call_of 64 v.src; refine C1'.out.mono ?_; rintro e w' ⟨rfl, rfl⟩) | (go_at_call_of 64 v.dst; refine C2'.out.mono ?_; rintro e w' ⟨rfl, rfl⟩))
              go_quiet ((go_at_call 65; exact quiet_left (CL _).out))
              go_wp2_with fail
              go_ret
              exact ⟨ret_i64 (by rw [HE.out, if_neg (by omega : ¬ v.kind < 1), if_neg (by omega : ¬ 5 < v.kind), t1, t2, if_pos (by rfl), if_neg (by omega : ¬ v.time < 0), if_pos (by omega)]; rfl), below_draws hbw _⟩
            · have d4' : decide (longL v.kind < v.time) = false := by simpa using d4
              by_cases hqi : q < i
              · have hd : decide (q < i) = true := by simpa using hqi
                rw [hd] at HA
                have hmx : Try.prog.follows .mixedOrders = true := by kernel_rfl
                have hbV : ∀ n, Below w.heap.size w ((((w.alloc (.cells #[.int .i64 v.kind, .string v.src, .string v.dst, .int .i64 v.time] 60)).drewN n).alloc (.cells #[.int .i64 v.kind, .string v.src, .string v.dst, .int .i64 0] 60)).alloc (.cells #[.int .i64 v.kind, .string v.src, .string v.dst, .int .i64 0] 60)) := fun n => ((below_draws hbw n).alloc hbw.size _).alloc (by rw [World.size_alloc]; exact Nat.le_succ_of_le hbw.size) _
                have l1 : ∀ n, (Instr.lookup 86 (.map (some br)) (.agg #[.int .i64 v.kind, .string v.src, .string v.dst, .int .i64 0]) false).run Try.prog ((((w.alloc (.cells #[.int .i64 v.kind, .string v.src, .string v.dst, .int .i64 v.time] 60)).drewN n).alloc (.cells #[.int .i64 v.kind, .string v.src, .string v.dst, .int .i64 0] 60)).alloc (.cells #[.int .i64 v.kind, .string v.src, .string v.dst, .int .i64 0] 60)) = .ok (.int .i64 (q : Int)) ((((w.alloc (.cells #[.int .i64 v.kind, .string v.src, .string v.dst, .int .i64 v.time] 60)).drewN n).alloc (.cells #[.int .i64 v.kind, .string v.src, .string v.dst, .int .i64 0] 60)).alloc (.cells #[.int .i64 v.kind, .string v.src, .string v.dst, .int .i64 0] 60)) := fun n => HLK.out _ (H.out.below (hbV n)).rm
                have c6V : ∀ n, ((((w.alloc (.cells #[.int .i64 v.kind, .string v.src, .string v.dst, .int .i64 v.time] 60)).drewN n).alloc (.cells #[.int .i64 v.kind, .string v.src, .string v.dst, .int .i64 0] 60)).alloc (.cells #[.int .i64 v.kind, .string v.src, .string v.dst, .int .i64 0] 60)).cell? ⟨L, 6, none⟩ = some (.map (some br)) := fun n => (H.out.below (hbV n)).c6
                have HBV := Lib.hid hbV
                clear hbV
                go_enter Try.func42, Try.ntmps42
                go_wp2_with (first | (go_at_call_of 64 v.src; refine C1'.out.mono ?_; rintro e w' ⟨rfl, rfl⟩) | (go_at_call_of 64 v.dst; refine C2'.out.mono ?_; rintro e w' ⟨rfl, rfl⟩))
                go_quiet ((go_at_call 65; exact quiet_left (CL _).out))
                go_wp2_with fail
                go_region_with (go_at_call 58; refine (timeless_any v _).mono ?_; rintro e w' ⟨rfl, rfl⟩)
                all_goals go_wp2_with fail
                all_goals go_ret
                all_goals exact ⟨ret_i64 (by rw [HE.out, if_neg (by omega : ¬ v.kind < 1), if_neg (by omega : ¬ 5 < v.kind), t1, t2, if_pos (by rfl), if_neg (by omega : ¬ v.time < 0), if_neg (by omega : ¬ longL v.kind < v.time), ← HA.out]; rfl), HBV.out _⟩
              · have hd : decide (q < i) = false := by simpa using hqi
                rw [hd] at HA
                have hmx : Try.prog.follows .mixedOrders = true := by kernel_rfl
                have hbV : ∀ n, Below w.heap.size w ((((w.alloc (.cells #[.int .i64 v.kind, .string v.src, .string v.dst, .int .i64 v.time] 60)).drewN n).alloc (.cells #[.int .i64 v.kind, .string v.src, .string v.dst, .int .i64 0] 60)).alloc (.cells #[.int .i64 v.kind, .string v.src, .string v.dst, .int .i64 0] 60)) := fun n => ((below_draws hbw n).alloc hbw.size _).alloc (by rw [World.size_alloc]; exact Nat.le_succ_of_le hbw.size) _
                have l1 : ∀ n, (Instr.lookup 86 (.map (some br)) (.agg #[.int .i64 v.kind, .string v.src, .string v.dst, .int .i64 0]) false).run Try.prog ((((w.alloc (.cells #[.int .i64 v.kind, .string v.src, .string v.dst, .int .i64 v.time] 60)).drewN n).alloc (.cells #[.int .i64 v.kind, .string v.src, .string v.dst, .int .i64 0] 60)).alloc (.cells #[.int .i64 v.kind, .string v.src, .string v.dst, .int .i64 0] 60)) = .ok (.int .i64 (q : Int)) ((((w.alloc (.cells #[.int .i64 v.kind, .string v.src, .string v.dst, .int .i64 v.time] 60)).drewN n).alloc (.cells #[.int .i64 v.kind, .string v.src, .string v.dst, .int .i64 0] 60)).alloc (.cells #[.int .i64 v.kind, .string v.src, .string v.dst, .int .i64 0] 60)) := fun n => HLK.out _ (H.out.below (hbV n)).rm
                have c6V : ∀ n, ((((w.alloc (.cells #[.int .i64 v.kind, .string v.src, .string v.dst, .int .i64 v.time] 60)).drewN n).alloc (.cells #[.int .i64 v.kind, .string v.src, .string v.dst, .int .i64 0] 60)).alloc (.cells #[.int .i64 v.kind, .string v.src, .string v.dst, .int .i64 0] 60)).cell? ⟨L, 6, none⟩ = some (.map (some br)) := fun n => (H.out.below (hbV n)).c6
                have HBV := Lib.hid hbV
                clear hbV
                go_enter Try.func42, Try.ntmps42
                go_wp2_with (first | (go_at_call_of 64 v.src; refine C1'.out.mono ?_; rintro e w' ⟨rfl, rfl⟩) | (go_at_call_of 64 v.dst; refine C2'.out.mono ?_; rintro e w' ⟨rfl, rfl⟩))
                go_quiet ((go_at_call 65; exact quiet_left (CL _).out))
                go_wp2_with fail
                go_region_with (go_at_call 58; refine (timeless_any v _).mono ?_; rintro e w' ⟨rfl, rfl⟩)
                all_goals go_wp2_with fail
                all_goals go_ret
                all_goals exact ⟨ret_i64 (by rw [HE.out, if_neg (by omega : ¬ v.kind < 1), if_neg (by omega : ¬ 5 < v.kind), t1, t2, if_pos (by rfl), if_neg (by omega : ¬ v.time < 0), if_neg (by omega : ¬ longL v.kind < v.time), ← HA.out]; rfl), HBV.out _⟩
end
end Go.Proofs.Ytahhhhacoigpmaa

namespace Go.Proofs.Ytahhhhacoigpmaa
open Go.RowKit Go.Shelf
theorem Row.take {w : World} {A : Option Addr} {l : List ByteArray} (h : Row w A (l.map Value.string)) (i : Nat) : Row w A ((l.take i).map Value.string) := by
  intro hn
  obtain ⟨b, off, h1, h2, h3⟩ := h (fun e => hn (by rw [List.map_take, e]; simp))
  refine ⟨b, off, h1, h2, fun j u hu => h3 j u ?_⟩
  rw [List.map_take, List.getElem?_take] at hu
  split at hu
  · exact hu
  · cases hu
def eqS (s x : ByteArray) : Bool := s.toList == x.toList
set_option maxHeartbeats 1000000 in
theorem index_any (A : Option Addr) (c : Nat) (l : List ByteArray) (s : ByteArray) (w : World) (hr : Row w A (l.map Value.string)) (hl : l.length * 16 ≤ 140737488351232) :
    Calls Try.prog 75 #[.slice A l.length c, .string s] w fun e w' => e = .returned (.int .i64 (idxB (eqS s) l)) ∧ w = w' := by
  go_enter Try.func75, Try.ntmps75
  go_wp2
  go_loop [5, 8] (fun _ i => ∃ k : Nat, k ≤ l.length ∧ i = .int .i64 k ∧ Hid (∀ j, j < k → eqS s l[j]! = false)) (fun _ i => l.length - (intOf i).toNat)
  case atStart => exact ⟨0, Nat.zero_le _, rfl, fun j hj => absurd hj (Nat.not_lt_zero _)⟩
  case round =>
    obtain ⟨k, hk, rfl, HR⟩ := hrel
    by_cases hlt : k < l.length
    · obtain ⟨b, off, rfl, hb, hc⟩ := hr.str_at hlt
      cases hn : eqS s l[k]! with
      | false =>
        have HR' := Lib.hid (all_step (p := eqS s) HR.out hn)
        have hn' : (s.toList == l[k]!.toList) = false := hn
        clear hn HR
        generalize l[k]! = x at *
        go_wp2_with fail
        go_round
        case rel => exact ⟨k + 1, hlt, by go_num, HR'⟩
        case measure => simp [intOf]; omega
      | true =>
        have HF := Lib.hid (idxB_hit (p := eqS s) hlt hn HR.out)
        have hn' : (s.toList == l[k]!.toList) = true := hn
        clear hn HR
        generalize l[k]! = x at *
        go_wp2_with fail
        go_ret
        exact ⟨ret_i64 HF.out.symm, rfl⟩
    · obtain rfl : k = l.length := by omega
      have HF := Lib.hid (idxB_miss (p := eqS s) HR.out)
      clear HR
      go_wp2_with fail
      go_ret
      exact ⟨ret_i64 HF.out.symm, rfl⟩
theorem any_eqS (s : ByteArray) : ∀ l : List ByteArray, l.any (eqS s) = (l.map (·.toList)).contains s.toList
  | [] => rfl
  | x :: r => by rw [List.any_cons, List.map_cons, List.contains_cons, any_eqS s r]; rfl
set_option maxHeartbeats 400000 in
theorem contains_any (A : Option Addr) (c : Nat) (l : List ByteArray) (s : ByteArray) (w : World) (hr : Row w A (l.map Value.string)) (hl : l.length * 16 ≤ 140737488351232) :
    Calls Try.prog 49 #[.slice A l.length c, .string s] w fun e w' => e = .returned (.bool ((l.map (·.toList)).contains s.toList)) ∧ w = w' := by
  have HA := Lib.hid (idxB_any (eqS s) l)
  go_enter Try.func49, Try.ntmps49
  go_wp2_with (go_at_call 75; refine (index_any A c l s _ hr hl).mono ?_; rintro e w' ⟨rfl, rfl⟩)
  go_ret
  exact ⟨ret_bool (by rw [← any_eqS, ← HA.out]), rfl⟩
theorem rep_step {l : List ByteArray} {k : Nat} (hk : k < l.length) (h : repeatsL (l.map (·.toList)) k = false) (hc : ((l.take k).map (·.toList)).contains l[k]!.toList = false) : repeatsL (l.map (·.toList)) (k + 1) = false := by
  rw [repeatsL, h, Bool.false_or, ← List.map_take, List.getElem?_map, List.getElem?_eq_getElem hk, ← getElem!_pos l k hk]
  exact hc
theorem rep_mono {l : List Key} : ∀ {n k : Nat}, repeatsL l k = true → k ≤ n → repeatsL l n = true
  | 0, k, h, hk => by obtain rfl : k = 0 := by omega
                      exact h
  | n + 1, k, h, hk => by
    by_cases e : k = n + 1
    · rw [← e]; exact h
    · rw [repeatsL, rep_mono h (by omega : k ≤ n), Bool.true_or]
theorem rep_hit {l : List ByteArray} {k : Nat} (hk : k < l.length) (hc : ((l.take k).map (·.toList)).contains l[k]!.toList = true) : repeatsL (l.map (·.toList)) l.length = true := by
  refine rep_mono (k := k + 1) ?_ hk
  rw [repeatsL, ← List.map_take, List.getElem?_map, List.getElem?_eq_getElem hk, ← getElem!_pos l k hk]
  show (_ || ((l.take k).map (·.toList)).contains l[k]!.toList) = true
  rw [hc, Bool.or_true]
set_option maxHeartbeats 1000000 in
theorem repeats_any (A : Option Addr) (c : Nat) (l : List ByteArray) (w : World) (hr : Row w A (l.map Value.string)) (hl : l.length * 16 ≤ 140737488351232) (hlc : l.length ≤ c) :
    Calls Try.prog 67 #[.slice A l.length c] w fun e w' => e = .returned (.bool (repeatsL (l.map (·.toList)) l.length)) ∧ w = w' := by
  go_enter Try.func67, Try.ntmps67
  go_wp2
  go_loop [3, 4, 7] (fun _ _ i => ∃ k : Nat, k ≤ l.length ∧ i = .int .i64 k ∧ Hid (repeatsL (l.map (·.toList)) k = false)) (fun _ _ i => l.length - (intOf i).toNat)
  case atStart => exact ⟨0, Nat.zero_le _, rfl, rfl⟩
  case round =>
    obtain ⟨k, hk, rfl, HR⟩ := hrel
    by_cases hlt : k < l.length
    · obtain ⟨b, off, rfl, hb, hc⟩ := hr.str_at hlt
      have hlen : (l.take k).length = k := by rw [List.length_take]; omega
      have C := contains_any (some ⟨b, off, none⟩) c (l.take k) l[k]! w (hr.take k) (by rw [hlen]; omega)
      rw [hlen] at C
      have CC := Lib.hid C
      clear C hlen
      cases hn : ((l.take k).map (·.toList)).contains l[k]!.toList with
      | false =>
        have HR' := Lib.hid (rep_step hlt HR.out hn)
        rw [hn] at CC
        clear hn HR
        generalize l[k]! = x at *
        go_wp2_with (go_at_call 49; refine CC.out.mono ?_; rintro e w' ⟨rfl, rfl⟩)
        go_round
        case rel => exact ⟨k + 1, hlt, by go_num, HR'⟩
        case measure => simp [intOf]; omega
      | true =>
        have HF := Lib.hid (rep_hit hlt hn)
        rw [hn] at CC
        clear hn HR
        generalize l[k]! = x at *
        go_wp2_with (go_at_call 49; refine CC.out.mono ?_; rintro e w' ⟨rfl, rfl⟩)
        go_ret
        exact ⟨ret_bool HF.out.symm, rfl⟩
    · obtain rfl : k = l.length := by omega
      go_wp2_with fail
      go_ret
      exact ⟨ret_bool HR.out.symm, rfl⟩
end Go.Proofs.Ytahhhhacoigpmaa
