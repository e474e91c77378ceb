/-
  Contract of the looker's look at the limits.
-/
import Derived.Test.YtplplkchibefjaaGrJ
namespace Go.Proofs.Ytplplkchibefjaa
open Go.RowKit Go.Shelf

set_option maxHeartbeats 400000 in
theorem manyRoles_any (u : Us) (w : World) : Calls Try.prog 96 #[.agg #[.string u.name, .slice u.ra u.roles.length u.rc, .string u.sub]] w fun e w' => e = .returned (.bool (decide (8 < u.roles.length))) ∧ Below w.heap.size w w' := by
  go_enter Try.func96, Try.ntmps96
  go_wp2
  go_ret
  exact ⟨ret_bool (by rw [Bool.eq_iff_iff]; simp; omega), (Below.refl _ _).alloc (Nat.le_refl _) _⟩

def manyB (u : Us) : Bool := decide (8 < u.roles.length)
set_option maxHeartbeats 1000000 in
theorem idxUsers_any (A : Option Addr) (c : Nat) (l : List Us) (w : World) (hr : Row w A (l.flatMap usC)) (hl : l.length * 56 ≤ 140737488351232) :
    Calls Try.prog 118 #[.slice A l.length c, .func (.func 96) #[] #[]] w fun e w' => e = .returned (.int .i64 (idxB manyB l)) ∧ Below w.heap.size w w' := by
  go_enter Try.func118, Try.ntmps118
  go_wp2
  go_loopw [5, 8] (fun _ i wr => ∃ k : Nat, k ≤ l.length ∧ i = .int .i64 k ∧ Hid (∀ j, j < k → manyB l[j]! = false) ∧ Below w.heap.size w wr) (fun _ i _ => l.length - (intOf i).toNat)
  case atStart => exact ⟨0, Nat.zero_le _, rfl, fun j hj => absurd hj (Nat.not_lt_zero _), Below.refl _ _⟩
  case round =>
    obtain ⟨k, hk, rfl, HR, hB⟩ := hrel
    have hBz := hB.size
    by_cases hlt : k < l.length
    · obtain ⟨b, off, rfl, hb, hc⟩ := hr.at_ (k := 3) (fun _ => rfl) (by omega) hlt
      have k0 := hc 0 _ rfl
      rw [Nat.add_zero] at k0
      have k1 := hc 1 _ rfl
      have k2 := hc 2 _ rfl
      rw [← hB.cell (p := ⟨b, _, none⟩) hb] at k0 k1 k2
      clear hc
      have C := fun W => Lib.hid (manyRoles_any l[k]! W)
      cases hn : manyB l[k]! with
      | false =>
        have HR' := Lib.hid (all_step (p := manyB) HR.out hn)
        have hn' : decide (8 < l[k]!.roles.length) = false := hn
        rw [hn'] at C
        clear hn hn' HR
        generalize l[k]! = x at *
        go_wp2_with (go_at_call 96; refine (C _).out.mono ?_; rintro e w' ⟨rfl, hb'⟩)
        go_roundw
        case rel => exact ⟨k + 1, hlt, by go_num, HR', hB.trans (hb'.mono hBz)⟩
        case measure => simp [intOf]; omega
      | true =>
        have HF := Lib.hid (idxB_hit (p := manyB) hlt hn HR.out)
        have hn' : decide (8 < l[k]!.roles.length) = true := hn
        rw [hn'] at C
        clear hn hn' HR
        generalize l[k]! = x at *
        go_wp2_with (go_at_call 96; refine (C _).out.mono ?_; rintro e w' ⟨rfl, hb'⟩)
        go_ret
        exact ⟨ret_i64 HF.out.symm, hB.trans (hb'.mono hBz)⟩
    · obtain rfl : k = l.length := by omega
      have HF := Lib.hid (idxB_miss (p := manyB) HR.out)
      clear HR
      go_wp2_with fail
      go_ret
      exact ⟨ret_i64 HF.out.symm, hB⟩
set_option maxHeartbeats 400000 in
theorem anyMany_any (A : Option Addr) (c : Nat) (l : List Us) (w : World) (hr : Row w A (l.flatMap usC)) (hl : l.length * 56 ≤ 140737488351232) :
    Calls Try.prog 95 #[.slice A l.length c, .func (.func 96) #[] #[]] w fun e w' => e = .returned (.bool (l.any manyB)) ∧ Below w.heap.size w w' := by
  have HA := Lib.hid (idxB_any manyB l)
  go_enter Try.func95, Try.ntmps95
  go_wp2_with (go_at_call 118; refine (idxUsers_any A c l _ hr hl).mono ?_; rintro e w' ⟨rfl, hb'⟩)
  go_ret
  exact ⟨ret_bool HA.out, hb'⟩

/-- The looker ahead of its maps. -/
structure Lk0 (w : World) (L : Nat) (g : Gr) : Prop where
  c0 : w.cell? ⟨L, 0, none⟩ = some (.slice g.ga g.gs.length g.gc)
  c1 : w.cell? ⟨L, 1, none⟩ = some (.slice g.ea g.es.length g.ec)
  c2 : w.cell? ⟨L, 2, none⟩ = some (.slice g.ra g.rs.length g.rc)
  c3 : w.cell? ⟨L, 3, none⟩ = some (.slice g.ua g.us.length g.uc)
  ing : InG w g
theorem limitE_eq (g : Gr) : limitE g = if 40 < g.gs.length then 4 else if 80 < g.es.length then 4 else if 300 < g.rs.length then 4 else if 40 < g.us.length then 4 else if g.us.any manyB then 4 else 0 := rfl
set_option maxRecDepth 100000 in
set_option maxHeartbeats 1000000 in
theorem limits_any (w : World) (L : Nat) (g : Gr) (h : Lk0 w L g) (hz : SzG g) (i : Int) :
    Calls Try.prog 76 #[.pointer (some ⟨L, 0, none⟩), .int .i64 i] w fun e w' => e = .returned (.int .i64 (limitE g)) ∧ Below w.heap.size w w' := by
  have c0 := h.c0
  have c1 := h.c1
  have c2 := h.c2
  have c3 := h.c3
  have hbw : Below w.heap.size w (w.alloc (.cells #[.slice g.ga g.gs.length g.gc, .slice g.ea g.es.length g.ec, .slice g.ra g.rs.length g.rc, .slice g.ua g.us.length g.uc] 27)) := (Below.refl _ _).alloc (Nat.le_refl _) _
  have C := Lib.hid (anyMany_any g.ua g.uc g.us _ (h.ing.us.below (Nat.le_refl _) hbw) hz.us)
  have HE := Lib.hid (limitE_eq g)
  have z1 := hz.gs
  have z2 := hz.es
  have z3 := hz.rs
  have z4 := hz.us
  clear h hz
  by_cases h1 : 40 < g.gs.length
  · go_enter Try.func76, Try.ntmps76
    go_wp2_with fail
    go_ret
    exact ⟨ret_i64 (by rw [HE.out, if_pos h1]; rfl), hbw⟩
  · by_cases h2 : 80 < g.es.length
    · go_enter Try.func76, Try.ntmps76
      go_wp2_with fail
      go_ret
      exact ⟨ret_i64 (by rw [HE.out, if_neg h1, if_pos h2]; rfl), hbw⟩
    · by_cases h3 : 300 < g.rs.length
      · go_enter Try.func76, Try.ntmps76
        go_wp2_with fail
        go_ret
        exact ⟨ret_i64 (by rw [HE.out, if_neg h1, if_neg h2, if_pos h3]; rfl), hbw⟩
      · by_cases h4 : 40 < g.us.length
        · go_enter Try.func76, Try.ntmps76
          go_wp2_with fail
          go_ret
          exact ⟨ret_i64 (by rw [HE.out, if_neg h1, if_neg h2, if_neg h3, if_pos h4]; rfl), hbw⟩
        · cases h5 : g.us.any manyB with
          | true =>
            rw [h5] at C HE
            clear h5
            go_enter Try.func76, Try.ntmps76
            go_wp2_with (go_at_call 95; refine C.out.mono ?_; rintro e w' ⟨rfl, hb'⟩)
            go_ret
            exact ⟨ret_i64 (by rw [HE.out, if_neg h1, if_neg h2, if_neg h3, if_neg h4]; rfl), hbw.trans (hb'.mono hbw.size)⟩
          | false =>
            rw [h5] at C HE
            clear h5
            go_enter Try.func76, Try.ntmps76
            go_wp2_with (go_at_call 95; refine C.out.mono ?_; rintro e w' ⟨rfl, hb'⟩)
            go_ret
            exact ⟨ret_i64 (by rw [HE.out, if_neg h1, if_neg h2, if_neg h3, if_neg h4]; rfl), hbw.trans (hb'.mono hbw.size)⟩
end Go.Proofs.Ytplplkchibefjaa
