/-
  Contract of the looker's look at a relation.
-/
import Derived.Test.YtplplkchibefjaaGrD
import Derived.Deep.RegionWith
namespace Go.Proofs.Ytplplkchibefjaa
open Go.RowKit Go.Shelf
theorem first_rl {l : List Rl} (hl : ∀ x ∈ l, OkR x) {r : Rl} (hr : OkR r) : firstOf (l.map fun p => rlit (rkey p)) (rlit (rkey r)) = if hasB (l.map rkey) (rkey r) then some ((l.map rkey).idxOf (rkey r)) else none := by
  have h := firstOf_map rlit (rkey r) (l.map rkey) (fun x hx e => by
    obtain ⟨y, hy, rfl⟩ := List.mem_map.1 hx
    have e1 := keyR (hl y hy)
    rw [e] at e1
    have e2 := lawR.inj e1 (keyR hr)
    simp only [Value.agg.injEq, Array.mk.injEq, List.cons.injEq, Value.int.injEq, Value.string.injEq, true_and, and_true] at e2
    unfold rkey
    rw [e2.1, e2.2.1, e2.2.2])
  rw [List.map_map] at h
  exact h
theorem look_rl {l : List Rl} (hl : ∀ x ∈ l, OkR x) {r : Rl} (hr : OkR r) (hm : hasB (l.map rkey) (rkey r) = true) (b : Nat) (w : World) (h : MapFn w Try.prog 53 3 b l.length (firstOf (l.map fun p => rlit (rkey p)))) :
    (Instr.lookup 118 (.map (some b)) (.agg #[.int .i64 r.kind, .string r.src, .string r.dst, .int .i64 0]) false).run Try.prog w = .ok (.int .i64 (((l.map rkey).idxOf (rkey r) : Nat) : Int)) w := by
  have h2 := h.look lawR Try.underlying118 Try.underlying3 (Try.zeroValue3 w) (keyR hr)
  rw [first_rl hl hr, hm] at h2
  exact h2
set_option maxHeartbeats 400000 in
theorem timeless_any (v : Rl) (w : World) : Calls Try.prog 102 #[.agg #[.int .i64 v.kind, .string v.src, .string v.dst, .int .i64 v.time]] w fun e w' => e = .returned (.agg #[.int .i64 v.kind, .string v.src, .string v.dst, .int .i64 0]) ∧ w' = (w.alloc (.cells #[.int .i64 v.kind, .string v.src, .string v.dst, .int .i64 0] 53)).alloc (.cells #[.int .i64 v.kind, .string v.src, .string v.dst, .int .i64 0] 53) := by
  go_enter Try.func102, Try.ntmps102
  go_wp2
  exact bodyPost_ret (v := .agg #[.int .i64 v.kind, .string v.src, .string v.dst, .int .i64 0]) (by simp [results, Try.results102, go_sem]) rfl ⟨rfl, rfl⟩
section
variable {L : Nat} {g : Gr} {bg be br bu : Nat}
set_option maxRecDepth 100000 in
set_option maxHeartbeats 4000000 in
theorem relation_any (w : World) (h : LkIn w L g bg be br bu) (hz : SzG g) (i : Nat) (hi : i < g.rs.length) :
    Calls Try.prog 80 #[.pointer (some ⟨L, 0, none⟩), .int .i64 i] w fun e w' => e = .returned (.int .i64 (relE g i)) ∧ Below w.heap.size w w' := by
  have hgl := hz.rs
  have c2 := h.c2
  have c6 := h.c6
  have hL := h.lt
  obtain ⟨b, off, hA, hb, hc⟩ := h.ing.rs.at_ (k := 4) (fun _ => rfl) (by omega) hi
  obtain ⟨hss, hsd, hwk, _⟩ := hz.rl _ (mem_at hi)
  have hok : OkR g.rs[i]! := ⟨hss, hsd, hwk⟩
  have hall : ∀ x ∈ g.rs, OkR x := fun x hx => by obtain ⟨a1, a2, a3, _⟩ := hz.rl x hx; exact ⟨a1, a2, a3⟩
  have k0 := hc 0 _ rfl
  rw [Nat.add_zero] at k0
  have k1 := hc 1 _ rfl
  have k2 := hc 2 _ rfl
  have k3 := hc 3 _ rfl
  have HE : Hid (relE g i = if g.rs[i]!.kind < 1 then 1 else if 5 < g.rs[i]!.kind then 1
    else if thereB g g.rs[i]!.src.toList && thereB g g.rs[i]!.dst.toList then
      if g.rs[i]!.time < 0 then 3 else if longL g.rs[i]!.kind < g.rs[i]!.time then 3
      else if aheadB (rks g) (rkey g.rs[i]!) i then 6 else 0
    else 10) := Lib.hid rfl
  have hat : hasB (g.rs.map rkey) (rkey g.rs[i]!) = true := by
    simp only [hasB, List.contains_iff_mem, List.mem_map]
    exact ⟨_, mem_at hi, rfl⟩
  have hbw : Below w.heap.size w (w.alloc (.cells #[.int .i64 g.rs[i]!.kind, .string g.rs[i]!.src, .string g.rs[i]!.dst, .int .i64 g.rs[i]!.time] 53)) := (Below.refl _ _).alloc (Nat.le_refl _) _
  have hlk := look_rl hall hok hat br
  obtain ⟨q, hq⟩ : ∃ q, q = (g.rs.map rkey).idxOf (rkey g.rs[i]!) := ⟨_, rfl⟩
  rw [← hq] at hlk
  have HA : Hid (decide (q < i) = aheadB (rks g) (rkey g.rs[i]!) i) := Lib.hid (by rw [hq]; rfl)
  have hql : q < g.rs.length := by
    rw [hq]
    have := List.idxOf_lt_length_iff.2 (List.contains_iff_mem.1 hat)
    simpa using this
  have HLK := Lib.hid hlk
  have H := Lib.hid h
  rw [hA] at c2
  clear h hc hA hq hat hlk hok hall
  generalize g.rs[i]! = v at *
  have C1 := fun n => Lib.hid (isThere_any _ (H.out.below (below_draws hbw n)) v.src hss)
  have C2 := fun n => Lib.hid (isThere_any _ (H.out.below (below_draws hbw n)) v.dst hsd)
  have C1' := Lib.hid (isThere_any _ (H.out.below hbw) v.src hss)
  have C2' := Lib.hid (isThere_any _ (H.out.below hbw) v.dst hsd)
  have CL := fun n => Lib.hid (longest_any v.kind ((w.alloc (.cells #[.int .i64 v.kind, .string v.src, .string v.dst, .int .i64 v.time] 53)).drewN n))
  clear C1 C2
  by_cases d1 : v.kind < 1
  · go_enter Try.func80, Try.ntmps80
    go_wp2_with (first | (go_at_call_of 108 v.src; refine C1'.out.mono ?_; rintro e w' ⟨rfl, rfl⟩) | (go_at_call_of 108 v.dst; refine C2'.out.mono ?_; rintro e w' ⟨rfl, rfl⟩))
    go_ret
    exact ⟨ret_i64 (by rw [HE.out, if_pos (by omega)]; rfl), hbw⟩
  · by_cases d2 : 5 < v.kind
    · go_enter Try.func80, Try.ntmps80
      go_wp2_with (first | (go_at_call_of 108 v.src; refine C1'.out.mono ?_; rintro e w' ⟨rfl, rfl⟩) | (go_at_call_of 108 v.dst; refine C2'.out.mono ?_; rintro e w' ⟨rfl, rfl⟩))
      go_ret
      exact ⟨ret_i64 (by rw [HE.out, if_neg (by omega : ¬ v.kind < 1), if_pos (by omega)]; rfl), hbw⟩
    · cases t1 : thereB g v.src.toList with
      | false =>
        rw [t1] at C1'
        go_enter Try.func80, Try.ntmps80
        go_wp2_with (first | (go_at_call_of 108 v.src; refine C1'.out.mono ?_; rintro e w' ⟨rfl, rfl⟩) | (go_at_call_of 108 v.dst; refine C2'.out.mono ?_; rintro e w' ⟨rfl, rfl⟩))
        go_ret
        exact ⟨ret_i64 (by rw [HE.out, if_neg (by omega : ¬ v.kind < 1), if_neg (by omega : ¬ 5 < v.kind), t1]; rfl), hbw⟩
      | true =>
        rw [t1] at C1'
        cases t2 : thereB g v.dst.toList with
        | false =>
          rw [t2] at C2'
          go_enter Try.func80, Try.ntmps80
          go_wp2_with (first | (go_at_call_of 108 v.src; refine C1'.out.mono ?_; rintro e w' ⟨rfl, rfl⟩) | (go_at_call_of 108 v.dst; refine C2'.out.mono ?_; rintro e w' ⟨rfl, rfl⟩))
          go_ret
          exact ⟨ret_i64 (by rw [HE.out, if_neg (by omega : ¬ v.kind < 1), if_neg (by omega : ¬ 5 < v.kind), t1, t2]; rfl), hbw⟩
        | true =>
          rw [t2] at C2'
          by_cases d3 : v.time < 0
          · have d3' : decide (v.time < 0) = true := by simpa using d3
            go_enter Try.func80, Try.ntmps80
            go_wp2_with (first | (go_at_call_of 108 v.src; refine C1'.out.mono ?_; rintro e w' ⟨rfl, rfl⟩) | (go_at_call_of 108 v.dst; refine C2'.out.mono ?_; rintro e w' ⟨rfl, rfl⟩))
            go_quiet (fail)
            go_wp2_with fail
            go_ret
            exact ⟨ret_i64 (by rw [HE.out, if_neg (by omega : ¬ v.kind < 1), if_neg (by omega : ¬ 5 < v.kind), t1, t2, if_pos (by rfl), if_pos (by omega)]; rfl), below_draws hbw _⟩
          · have d3' : decide (v.time < 0) = false := by simpa using d3
            by_cases d4 : longL v.kind < v.time
            · go_enter Try.func80, Try.ntmps80
              go_wp2_with (first | (go_at_call_of 108 v.src; refine C1'.out.mono ?_; rintro e w' ⟨rfl, rfl⟩) | (go_at_call_of 108 v.dst; refine C2'.out.mono ?_; rintro e w' ⟨rfl, rfl⟩))
              go_quiet ((go_at_call 109; exact quiet_left (CL _).out))
              go_wp2_with fail
              go_ret
              exact ⟨ret_i64 (by rw [HE.out, if_neg (by omega : ¬ v.kind < 1), if_neg (by omega : ¬ 5 < v.kind), t1, t2, if_pos (by rfl), if_neg (by omega : ¬ v.time < 0), if_pos (by omega)]; rfl), below_draws hbw _⟩
            · have d4' : decide (longL v.kind < v.time) = false := by simpa using d4
              by_cases hqi : q < i
              · have hd : decide (q < i) = true := by simpa using hqi
                rw [hd] at HA
                have hmx : Try.prog.follows .mixedOrders = true := by kernel_rfl
                have hbV : ∀ n, Below w.heap.size w ((((w.alloc (.cells #[.int .i64 v.kind, .string v.src, .string v.dst, .int .i64 v.time] 53)).drewN n).alloc (.cells #[.int .i64 v.kind, .string v.src, .string v.dst, .int .i64 0] 53)).alloc (.cells #[.int .i64 v.kind, .string v.src, .string v.dst, .int .i64 0] 53)) := fun n => ((below_draws hbw n).alloc hbw.size _).alloc (by rw [World.size_alloc]; exact Nat.le_succ_of_le hbw.size) _
                have l1 : ∀ n, (Instr.lookup 118 (.map (some br)) (.agg #[.int .i64 v.kind, .string v.src, .string v.dst, .int .i64 0]) false).run Try.prog ((((w.alloc (.cells #[.int .i64 v.kind, .string v.src, .string v.dst, .int .i64 v.time] 53)).drewN n).alloc (.cells #[.int .i64 v.kind, .string v.src, .string v.dst, .int .i64 0] 53)).alloc (.cells #[.int .i64 v.kind, .string v.src, .string v.dst, .int .i64 0] 53)) = .ok (.int .i64 (q : Int)) ((((w.alloc (.cells #[.int .i64 v.kind, .string v.src, .string v.dst, .int .i64 v.time] 53)).drewN n).alloc (.cells #[.int .i64 v.kind, .string v.src, .string v.dst, .int .i64 0] 53)).alloc (.cells #[.int .i64 v.kind, .string v.src, .string v.dst, .int .i64 0] 53)) := fun n => HLK.out _ (H.out.below (hbV n)).rm
                have c6V : ∀ n, ((((w.alloc (.cells #[.int .i64 v.kind, .string v.src, .string v.dst, .int .i64 v.time] 53)).drewN n).alloc (.cells #[.int .i64 v.kind, .string v.src, .string v.dst, .int .i64 0] 53)).alloc (.cells #[.int .i64 v.kind, .string v.src, .string v.dst, .int .i64 0] 53)).cell? ⟨L, 6, none⟩ = some (.map (some br)) := fun n => (H.out.below (hbV n)).c6
                have HBV := Lib.hid hbV
                clear hbV
                go_enter Try.func80, Try.ntmps80
                go_wp2_with (first | (go_at_call_of 108 v.src; refine C1'.out.mono ?_; rintro e w' ⟨rfl, rfl⟩) | (go_at_call_of 108 v.dst; refine C2'.out.mono ?_; rintro e w' ⟨rfl, rfl⟩))
                go_quiet ((go_at_call 109; exact quiet_left (CL _).out))
                go_wp2_with fail
                go_region_with (go_at_call 102; refine (timeless_any v _).mono ?_; rintro e w' ⟨rfl, rfl⟩)
                all_goals go_wp2_with fail
                all_goals go_ret
                all_goals exact ⟨ret_i64 (by rw [HE.out, if_neg (by omega : ¬ v.kind < 1), if_neg (by omega : ¬ 5 < v.kind), t1, t2, if_pos (by rfl), if_neg (by omega : ¬ v.time < 0), if_neg (by omega : ¬ longL v.kind < v.time), ← HA.out]; rfl), HBV.out _⟩
              · have hd : decide (q < i) = false := by simpa using hqi
                rw [hd] at HA
                have hmx : Try.prog.follows .mixedOrders = true := by kernel_rfl
                have hbV : ∀ n, Below w.heap.size w ((((w.alloc (.cells #[.int .i64 v.kind, .string v.src, .string v.dst, .int .i64 v.time] 53)).drewN n).alloc (.cells #[.int .i64 v.kind, .string v.src, .string v.dst, .int .i64 0] 53)).alloc (.cells #[.int .i64 v.kind, .string v.src, .string v.dst, .int .i64 0] 53)) := fun n => ((below_draws hbw n).alloc hbw.size _).alloc (by rw [World.size_alloc]; exact Nat.le_succ_of_le hbw.size) _
                have l1 : ∀ n, (Instr.lookup 118 (.map (some br)) (.agg #[.int .i64 v.kind, .string v.src, .string v.dst, .int .i64 0]) false).run Try.prog ((((w.alloc (.cells #[.int .i64 v.kind, .string v.src, .string v.dst, .int .i64 v.time] 53)).drewN n).alloc (.cells #[.int .i64 v.kind, .string v.src, .string v.dst, .int .i64 0] 53)).alloc (.cells #[.int .i64 v.kind, .string v.src, .string v.dst, .int .i64 0] 53)) = .ok (.int .i64 (q : Int)) ((((w.alloc (.cells #[.int .i64 v.kind, .string v.src, .string v.dst, .int .i64 v.time] 53)).drewN n).alloc (.cells #[.int .i64 v.kind, .string v.src, .string v.dst, .int .i64 0] 53)).alloc (.cells #[.int .i64 v.kind, .string v.src, .string v.dst, .int .i64 0] 53)) := fun n => HLK.out _ (H.out.below (hbV n)).rm
                have c6V : ∀ n, ((((w.alloc (.cells #[.int .i64 v.kind, .string v.src, .string v.dst, .int .i64 v.time] 53)).drewN n).alloc (.cells #[.int .i64 v.kind, .string v.src, .string v.dst, .int .i64 0] 53)).alloc (.cells #[.int .i64 v.kind, .string v.src, .string v.dst, .int .i64 0] 53)).cell? ⟨L, 6, none⟩ = some (.map (some br)) := fun n => (H.out.below (hbV n)).c6
                have HBV := Lib.hid hbV
                clear hbV
                go_enter Try.func80, Try.ntmps80
                go_wp2_with (first | (go_at_call_of 108 v.src; refine C1'.out.mono ?_; rintro e w' ⟨rfl, rfl⟩) | (go_at_call_of 108 v.dst; refine C2'.out.mono ?_; rintro e w' ⟨rfl, rfl⟩))
                go_quiet ((go_at_call 109; exact quiet_left (CL _).out))
                go_wp2_with fail
                go_region_with (go_at_call 102; refine (timeless_any v _).mono ?_; rintro e w' ⟨rfl, rfl⟩)
                all_goals go_wp2_with fail
                all_goals go_ret
                all_goals exact ⟨ret_i64 (by rw [HE.out, if_neg (by omega : ¬ v.kind < 1), if_neg (by omega : ¬ 5 < v.kind), t1, t2, if_pos (by rfl), if_neg (by omega : ¬ v.time < 0), if_neg (by omega : ¬ longL v.kind < v.time), ← HA.out]; rfl), HBV.out _⟩
end
end Go.Proofs.Ytplplkchibefjaa
