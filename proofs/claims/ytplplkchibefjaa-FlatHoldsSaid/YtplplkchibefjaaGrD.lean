/-
  Contracts of the looker's looks at groups.
-/
import Derived.Test.YtplplkchibefjaaGrC
namespace Go.Proofs.Ytplplkchibefjaa
open Go.RowKit Go.Shelf

theorem below_draws {B : Nat} {a w : World} (h : Below B a w) (n : Nat) : Below B a (w.drewN n) := ⟨h.os, h.tape, h.output, h.size, h.block⟩
theorem quiet_left {P : Program} {f : FuncId} {args : Array Value} {w : World} {n : Nat} {v : Value}
    (h : Calls P f args (w.drewN n) fun e w' => e = .returned v ∧ w.drewN n = w') : Calls P f args (w.drewN n) fun e w'' => e = .returned v ∧ ∃ m, w'' = w.drewN m :=
  h.mono fun _ _ ⟨he, hm⟩ => ⟨he, n, hm.symm⟩
section
variable {L : Nat} {g : Gr} {bg be br bu : Nat}
theorem has_at {α : Type} [Inhabited α] (nm : α → ByteArray) {l : List α} {i : Nat} (hi : i < l.length) : hasB (l.map fun x => (nm x).toList) (nm l[i]!).toList = true := by
  simp only [hasB, List.contains_iff_mem, List.mem_map]
  exact ⟨_, mem_at hi, rfl⟩

set_option maxRecDepth 100000 in
set_option maxHeartbeats 1000000 in
theorem group_any (w : World) (h : LkIn w L g bg be br bu) (hz : SzG g) (i : Nat) (hi : i < g.gs.length) :
    Calls Try.prog 78 #[.pointer (some ⟨L, 0, none⟩), .int .i64 i] w fun e w' => e = .returned (.int .i64 (groupE g i)) ∧ Below w.heap.size w w' := by
  have hgl := hz.gs
  have c0 := h.c0
  have c4 := h.c4
  have hL := h.lt
  obtain ⟨b, off, hA, hb, hc⟩ := h.ing.gs.at_ (k := 2) (fun _ => rfl) (by omega) hi
  obtain ⟨hsn, hsp⟩ := hz.gp _ (mem_at hi)
  have k0 := hc 0 _ rfl
  rw [Nat.add_zero] at k0
  have k1 := hc 1 _ rfl
  have HE : Hid (groupE g i = if nameK g.gs[i]!.name.toList then
    if aheadB (gns g) g.gs[i]!.name.toList i then 6
    else if g.gs[i]!.parent.toList == [] then 0
    else if hasB (gns g) g.gs[i]!.parent.toList && aheadB (gns g) g.gs[i]!.parent.toList i then 0 else 10
    else 5) := Lib.hid rfl
  have hat := has_at Gp.name hi
  have hbw : Below w.heap.size w (w.alloc (.cells #[.string g.gs[i]!.name, .string g.gs[i]!.parent] 83)) := (Below.refl _ _).alloc (Nat.le_refl _) _
  obtain ⟨q, hlk, hq, _⟩ := look_nm Gp.name g.gs hsn
  have hl := fun n => (hlk _ _ (h.below (below_draws hbw n)).gm).2
  have hq' := (hq hat).1
  have HA : Hid (decide (q < i) = aheadB (gns g) g.gs[i]!.name.toList i) := Lib.hid (by rw [hq']; rfl)
  have CA := fun W hW => Lib.hid (isGroupAhead_any (L := L) (g := g) (bg := bg) (be := be) (br := br) (bu := bu) W hW g.gs[i]!.parent hsp i)
  have CN := fun W => Lib.hid (isName_any g.gs[i]!.name W hsn)
  have H := Lib.hid h
  rw [hA] at c0
  clear h hc hA hq hq' hat hlk
  generalize g.gs[i]! = p at *
  generalize gns g = ns at *
  cases hn : nameK p.name.toList with
  | false =>
    rw [hn] at CN HE
    clear hn
    go_enter Try.func78, Try.ntmps78
    go_wp2_with (go_at_call 105; refine (CN _).out.mono ?_; rintro e w' ⟨rfl, rfl⟩)
    go_ret
    exact ⟨ret_i64 (by rw [HE.out]; rfl), hbw⟩
  | true =>
    rw [hn] at CN HE
    clear hn
    by_cases hqi : q < i
    · have hd : decide (q < i) = true := by simpa using hqi
      rw [hd] at HA
      rw [← HA.out] at HE
      go_enter Try.func78, Try.ntmps78
      go_wp2_with (go_at_call 105; refine (CN _).out.mono ?_; rintro e w' ⟨rfl, rfl⟩)
      go_quiet (fail)
      go_wp2_with fail
      go_ret
      exact ⟨ret_i64 (by rw [HE.out]; rfl), below_draws hbw _⟩
    · have hd : decide (q < i) = false := by simpa using hqi
      rw [hd] at HA
      rw [← HA.out] at HE
      cases hp : (p.parent.toList == []) with
      | true =>
        rw [hp] at HE
        go_enter Try.func78, Try.ntmps78
        go_wp2_with (go_at_call 105; refine (CN _).out.mono ?_; rintro e w' ⟨rfl, rfl⟩)
        go_quiet (fail)
        go_wp2_with fail
        go_ret
        exact ⟨ret_i64 (by rw [HE.out]; rfl), below_draws hbw _⟩
      | false =>
        rw [hp] at HE
        cases ha : (hasB ns p.parent.toList && aheadB ns p.parent.toList i) with
        | true =>
          rw [ha] at CA HE
          clear ha
          go_enter Try.func78, Try.ntmps78
          go_wp2_with (go_at_call 105; refine (CN _).out.mono ?_; rintro e w' ⟨rfl, rfl⟩)
          go_quiet (fail)
          go_wp2_with (go_at_call 106; refine (CA _ (H.out.below (below_draws hbw _))).out.mono ?_; rintro e w' ⟨rfl, rfl⟩)
          go_ret
          exact ⟨ret_i64 (by rw [HE.out]; rfl), below_draws hbw _⟩
        | false =>
          rw [ha] at CA HE
          clear ha
          go_enter Try.func78, Try.ntmps78
          go_wp2_with (go_at_call 105; refine (CN _).out.mono ?_; rintro e w' ⟨rfl, rfl⟩)
          go_quiet (fail)
          go_wp2_with (go_at_call 106; refine (CA _ (H.out.below (below_draws hbw _))).out.mono ?_; rintro e w' ⟨rfl, rfl⟩)
          go_ret
          exact ⟨ret_i64 (by rw [HE.out]; rfl), below_draws hbw _⟩
end
end Go.Proofs.Ytplplkchibefjaa
