/-
  Contract of the document's own Statement (gen_tuh.py).
-/
import Derived.Test.YtjgcjnkeeiaafaaGreatDoorTcch
import Derived.Test.YtjgcjnkeeiaafaaGreatDoorTcdd
import Derived.Test.YtjgcjnkeeiaafaaGreatDoorTcde
import Derived.Test.YtjgcjnkeeiaafaaGreatDoorTcdf
namespace Go.Proofs.YtjgcjnkeeiaafaaGreatDoor.P3.D
open Go.RowKit Go.Shelf Go.Proofs.YtjgcjnkeeiaafaaGreatDoor Go.Proofs.YtjgcjnkeeiaafaaGreatDoor.P3 Go.Proofs.YtjgcjnkeeiaafaaGreatDoor.P3.C Go.Proofs.YtjgcjnkeeiaafaaGreatDoor.P3.L Go.Proofs.YtjgcjnkeeiaafaaGreatDoor.Lx
/-- What the document's Statement hands back. -/
def StD (L : List B3) (w : World) (e : Ending) (w' : World) : Prop :=
  Below w.heap.size w w' ∧ if (stS L).2 = true then e = .returned (.tuple #[grZ, .int .i64 ((stS L).1 : Int), .int .i64 2])
    else ∃ z0 z1 z2 z3, e = .returned (.tuple #[.agg #[z0, z1, z2, z3], .int .i64 0, .int .i64 0]) ∧ GrO w.heap.size [P3.stV L] z0 z1 z2 z3 w'
theorem GrO.base {B0 B' : Nat} {vs : List PartV} {z0 z1 z2 z3 : Value} {W : World} (h : GrO B0 vs z0 z1 z2 z3 W) (hB : B' ≤ B0) : GrO B' vs z0 z1 z2 z3 W := by
  obtain ⟨U, h0, h1, h2, h3, h4, h5⟩ := h
  exact ⟨U, h0, B.own_base h1 hB, B.own_base h2 hB, B.own_base h3 hB, B.own_base h4 hB, fun u hu => B.own_base (h5 u hu) hB⟩
theorem own_kept {W W' : World} {B0 e z n q : Nat} {v : Value} {xs : List Value} (h : W.ownsRow B0 e z v n xs) (hg : W.grownBy W' (some q)) (hq : q < B0) : W'.ownsRow B0 e z v n xs :=
  h.kept hg (.inr (fun e => by have := (h.lt q e).1; omega))
theorem GrO.kept {B0 q : Nat} {vs : List PartV} {z0 z1 z2 z3 : Value} {W W' : World} (h : GrO B0 vs z0 z1 z2 z3 W) (hg : W.grownBy W' (some q)) (hq : q < B0) : GrO B0 vs z0 z1 z2 z3 W' := by
  obtain ⟨U, h0, h1, h2, h3, h4, h5⟩ := h
  exact ⟨U, h0, own_kept h1 hg hq, own_kept h2 hg hq, own_kept h3 hg hq, own_kept h4 hg hq, fun u hu => own_kept (h5 u hu) hg hq⟩
theorem GrO.sl {B0 : Nat} {vs : List PartV} {z0 z1 z2 z3 : Value} {W : World} (h : GrO B0 vs z0 z1 z2 z3 W) : (∃ a n c, z0 = .slice a n c) ∧ (∃ a n c, z1 = .slice a n c) ∧ (∃ a n c, z2 = .slice a n c) ∧ ∃ a n c, z3 = .slice a n c := by
  obtain ⟨U, _, h1, h2, h3, h4, _⟩ := h
  obtain ⟨a, c, rfl⟩ := B.own_slice h1
  obtain ⟨a1, c1, rfl⟩ := B.own_slice h2
  obtain ⟨a2, c2, rfl⟩ := B.own_slice h3
  obtain ⟨a3, c3, rfl⟩ := B.own_slice h4
  exact ⟨⟨_, _, _, rfl⟩, ⟨_, _, _, rfl⟩, ⟨_, _, _, rfl⟩, ⟨_, _, _, rfl⟩⟩
theorem st_one {L : List B3} (h : clsAt L 0 = kGroup) : stS L = dGr L ∧ P3.stV L = .g (grV L).1 (grV L).2 := by
  unfold stS P3.stV
  rw [if_pos (see_yes (by decide) h), if_pos (see_yes (by decide) h)]
  exact ⟨gr_doc L, rfl⟩
theorem st_two {L : List B3} (h : clsAt L 0 = kEvent) : stS L = dEv L ∧ P3.stV L = .e (evV L) := by
  have n1 : ¬ seeB L kGroup (0, false) = true := by rw [see_no (by decide) (by rw [h]; decide)]; decide
  unfold stS P3.stV
  rw [if_neg n1, if_neg n1, if_pos (see_yes (by decide) h), if_pos (see_yes (by decide) h)]
  exact ⟨ev_doc L, rfl⟩
theorem st_three {L : List B3} (h : clsAt L 0 = kUser) : stS L = dUs L ∧ P3.stV L = .u (usV L) := by
  have n1 : ¬ seeB L kGroup (0, false) = true := by rw [see_no (by decide) (by rw [h]; decide)]; decide
  have n2 : ¬ seeB L kEvent (0, false) = true := by rw [see_no (by decide) (by rw [h]; decide)]; decide
  unfold stS P3.stV
  rw [if_neg n1, if_neg n1, if_neg n2, if_neg n2, if_pos (see_yes (by decide) h), if_pos (see_yes (by decide) h)]
  exact ⟨us_doc L, rfl⟩
theorem st_four {L : List B3} (h1 : clsAt L 0 ≠ kGroup) (h2 : clsAt L 0 ≠ kEvent) (h3 : clsAt L 0 ≠ kUser) : stS L = endS L (rlS L) ∧ P3.stV L = .r (rlV L) := by
  have n1 : ¬ seeB L kGroup (0, false) = true := by rw [see_no (by decide) h1]; decide
  have n2 : ¬ seeB L kEvent (0, false) = true := by rw [see_no (by decide) h2]; decide
  have n3 : ¬ seeB L kUser (0, false) = true := by rw [see_no (by decide) h3]; decide
  unfold stS P3.stV
  rw [if_neg n1, if_neg n1, if_neg n2, if_neg n2, if_neg n3, if_neg n3]
  exact ⟨rfl, rfl⟩
theorem kind_none {L : List B3} (h : kindV L (0, false) = 0) : ∀ k : Nat, 1 ≤ k → k ≤ 5 → clsAt L 0 ≠ kwB (k : Int) := by
  intro k h1 h5 e
  have hne : ∀ k, kwB k ≠ [46] := by intro k; unfold kwB; split <;> (try split) <;> (try split) <;> (try split) <;> decide
  unfold kindV at h
  simp only [see_cls (hne _), e] at h
  have hk : k = 1 ∨ k = 2 ∨ k = 3 ∨ k = 4 ∨ k = 5 := by omega
  rcases hk with rfl | rfl | rfl | rfl | rfl <;> exact absurd h (by decide)
set_option maxRecDepth 100000 in
set_option maxHeartbeats 16000000 in
theorem rstatement_any (w : World) (A : Option Addr) (c : Nat) (T : List Tok) (hR : Row w A (rowC T)) (hl : T.length ≤ 1000000) :
    Calls Tryz.prog 17 #[.slice A T.length c] w (StD (T.map bare) w) := by
  have hlen : (T.map bare).length = T.length := List.length_map ..
  have HL := Lib.hid hlen
  obtain ⟨wg, hwg⟩ : ∃ wg, wg = (w.alloc (.cells #[nilV, nilV, nilV, nilV] 28)).alloc (.cells #[nilV, nilV, nilV, nilV] 28) := ⟨_, rfl⟩
  have hbg : Below w.heap.size w wg := by rw [hwg]; exact ((Below.refl _ _).alloc (Nat.le_refl _) _).alloc (by rw [World.size_alloc]; omega) _
  have hgz : wg.heap.size = w.heap.size + 1 + 1 := by rw [hwg, World.size_alloc, World.size_alloc]
  have hgx : wg.heap[w.heap.size + 1]? = some (.cells #[nilV, nilV, nilV, nilV] 28 (0, 0)) := by
    have h := B.heap_new (w.alloc (.cells #[nilV, nilV, nilV, nilV] 28)) (.cells #[nilV, nilV, nilV, nilV] 28)
    rw [World.size_alloc, ← hwg] at h; exact h
  have hrx : wg.heap[w.heap.size]? = some (.cells #[nilV, nilV, nilV, nilV] 28 (0, 0)) := by
    rw [hwg]; exact B.heap_old (by rw [World.size_alloc]; omega) (B.heap_new _ _)
  have CK := Lib.hid (kinds_any wg A c T (Row.below hR (Nat.le_refl _) hbg) hl)
  have HBG := Lib.hid hbg
  have HGX := Lib.hid hgx
  have HRX := Lib.hid hrx
  have HR := Lib.hid hR
  have HZ := Lib.hid hgz
  have HFA : Hid (1 ≤ T.length → Far (w.heap.size + 1) A) := Lib.hid (fun h b o e => by
    obtain ⟨b', o', e', hlt, _⟩ := tok_at hR (i := 0) (by omega)
    rw [e] at e'
    simp only [Option.some.injEq, Addr.mk.injEq, and_true] at e'
    omega)
  clear hbg hgz hgx hrx hR
  go_enter Tryz.func17, Tryz.ntmps17
  go_wp2_with fail
  rw [← hwg]
  clear hwg
  refine CK.out.mono ?_
  rintro e wk ⟨v, rfl, hown, hbk⟩
  obtain ⟨ka, kcap, rfl⟩ := B.own_slice hown
  have hkr : KR wk ka (T.map bare) := Row.of_own hown
  obtain ⟨kg, kcap', hkv, hkge, _⟩ := B.own_head hown (by omega)
  injection hkv with hka _ hkq
  subst hka
  subst hkq
  have HFK : Hid (Far (w.heap.size + 1) (some ⟨kg, 0, none⟩)) := Lib.hid (fun b o e => by
    simp only [Option.some.injEq, Addr.mk.injEq, and_true] at e
    have := HZ.out; omega)
  obtain ⟨kb, ko, hkb', hkl, hkc⟩ := hkr.at_
  simp only [Option.some.injEq, Addr.mk.injEq, and_true] at hkb'
  obtain ⟨rfl, rfl⟩ := hkb'
  obtain ⟨s0, hs0, he0⟩ := hkc 0 (Nat.zero_le _)
  rw [Nat.add_zero] at hs0
  have HB := Lib.hid (HBG.out.trans (hbk.mono (by have := HZ.out; omega)))
  have HGK := Lib.hid ((hbk.block _ (B.blk_lt HGX.out)).trans HGX.out)
  have HRK := Lib.hid ((hbk.block _ (B.blk_lt HRX.out)).trans HRX.out)
  have HKR := Lib.hid hkr
  have HRW := Lib.hid (Row.below HR.out (Nat.le_refl _) HB.out)
  have hK0 : (0 : Int) < ((T.length + 1 : Nat) : Int) := by omega
  have HPOS : Hid (clsAt (T.map bare) 0 ≠ [46] → 1 ≤ T.length) := Lib.hid (fun h => by rw [← hlen]; exact at_lt h)
  clear CK hown hkr hkc hbk hkge HGX HRX HBG
  by_cases hkGroup : clsAt (T.map bare) 0 = kGroup
  · have HST := Lib.hid (st_one hkGroup)
    have hs0' : s0.toList = [103, 114, 111, 117, 112] := he0.trans hkGroup
    have h1 := HPOS.out (by rw [hkGroup]; decide)
    have CC := Lib.hid (rgroup_any wk (w.heap.size + 1) A c T (some ⟨kg, 0, none⟩) kcap HGK.out HRW.out HKR.out (HFA.out h1) HFK.out hl h1)
    clear he0 hkGroup HPOS HFA
    go_wp2_with fail
    refine CC.out.mono ?_
    rintro e w8 ⟨hg8, rfl, h8⟩
    have HG8 := Lib.hid hg8
    have hx8 := (hg8.block w.heap.size (B.blk_lt HRK.out) (by intro e; have := Option.some.inj e; omega)).trans HRK.out
    have HX8 := Lib.hid hx8
    have HB8 : Hid (Below w.heap.size w w8) := Lib.hid (HB.out.grown hg8 HB.out.size (fun j hj => by cases hj; omega))
    have f0 := B.frozen_blk (i := 0) hx8
    have y0 := B.cell_blk (i := 0) hx8 rfl
    have f1 := B.frozen_blk (i := 1) hx8
    have y1 := B.cell_blk (i := 1) hx8 rfl
    have f2 := B.frozen_blk (i := 2) hx8
    have y2 := B.cell_blk (i := 2) hx8 rfl
    have f3 := B.frozen_blk (i := 3) hx8
    have y3 := B.cell_blk (i := 3) hx8 rfl
    have hlx := B.blk_lt hx8
    have H8 := Lib.hid h8
    have HS1 := HST
    clear hg8 hx8 h8
    generalize dGr (T.map bare) = st at *
    obtain ⟨k, q⟩ := st
    cases q with
    | true =>
      have hri : resI (k, true) = (k : Int) := rfl
      rw [hri]
      clear H8 hri
      go_wp2_with fail
      obtain ⟨w5, hw5⟩ : ∃ w5, w5 = set4 w8 w.heap.size nilV nilV nilV nilV := ⟨_, rfl⟩
      have e5 := blk4 HX8.out nilV nilV nilV nilV
      have b5 := below_set4 HB8.out (Nat.le_refl _) nilV nilV nilV nilV
      rw [← hw5] at e5 b5
      unfold set4 at hw5
      rw [← hw5]
      have x0 := B.cell_blk (i := 0) e5 rfl
      have x1 := B.cell_blk (i := 1) e5 rfl
      have x2 := B.cell_blk (i := 2) e5 rfl
      have x3 := B.cell_blk (i := 3) e5 rfl
      exact bodyPost_ret (v := .tuple #[grZ, .int .i64 (k : Int), .int .i64 2]) (by simp [results, Tryz.results17, go_sem, x0, x1, x2, x3]) rfl ⟨b5, by rw [HST.out.1, if_pos rfl]⟩
    | false =>
      obtain ⟨z0, z1, z2, z3, hz, hgo⟩ := H8.out (by first | rfl | trivial)
      have hri : resI (k, false) = -1 := rfl
      rw [hri]
      obtain ⟨⟨a0, n0, k0, rfl⟩, ⟨a1, n1, k1, rfl⟩, ⟨a2, n2, k2, rfl⟩, a3, n3, k3, rfl⟩ := GrO.sl hgo
      have HGO := Lib.hid hgo
      have u0 := B.cell_blk (i := 0) hz rfl
      have u1 := B.cell_blk (i := 1) hz rfl
      have u2 := B.cell_blk (i := 2) hz rfl
      have u3 := B.cell_blk (i := 3) hz rfl
      have hlz := B.blk_lt hz
      clear H8 hri hgo hz
      go_wp2_with fail
      obtain ⟨w5, hw5⟩ : ∃ w5, w5 = set4 w8 w.heap.size (.slice a0 n0 k0) (.slice a1 n1 k1) (.slice a2 n2 k2) (.slice a3 n3 k3) := ⟨_, rfl⟩
      have e5 := blk4 HX8.out (.slice a0 n0 k0) (.slice a1 n1 k1) (.slice a2 n2 k2) (.slice a3 n3 k3)
      have b5 := below_set4 HB8.out (Nat.le_refl _) (.slice a0 n0 k0) (.slice a1 n1 k1) (.slice a2 n2 k2) (.slice a3 n3 k3)
      have v5 := GrO.kept HGO.out (grown4 w8 w.heap.size (.slice a0 n0 k0) (.slice a1 n1 k1) (.slice a2 n2 k2) (.slice a3 n3 k3)) (by have := HB.out.size; have := B.blk_lt HRK.out; omega)
      rw [← hw5] at e5 b5 v5
      unfold set4 at hw5
      rw [← hw5]
      have x0 := B.cell_blk (i := 0) e5 rfl
      have x1 := B.cell_blk (i := 1) e5 rfl
      have x2 := B.cell_blk (i := 2) e5 rfl
      have x3 := B.cell_blk (i := 3) e5 rfl
      exact bodyPost_ret (v := .tuple #[.agg #[.slice a0 n0 k0, .slice a1 n1 k1, .slice a2 n2 k2, .slice a3 n3 k3], .int .i64 0, .int .i64 0]) (by simp [results, Tryz.results17, go_sem, x0, x1, x2, x3]) rfl ⟨b5, by rw [HST.out.1, if_neg (show ¬ (false = true) by decide), HST.out.2]; exact ⟨_, _, _, _, rfl, GrO.base v5 HB.out.size⟩⟩
  by_cases hkEvent : clsAt (T.map bare) 0 = kEvent
  · have HST := Lib.hid (st_two hkEvent)
    have hs0' : s0.toList = [101, 118, 101, 110, 116] := he0.trans hkEvent
    have h1 := HPOS.out (by rw [hkEvent]; decide)
    have CC := Lib.hid (revents_any wk (w.heap.size + 1) A c T (some ⟨kg, 0, none⟩) kcap HGK.out HRW.out HKR.out HFK.out hl h1)
    clear he0 hkEvent HPOS HFA
    go_wp2_with fail
    refine CC.out.mono ?_
    rintro e w8 ⟨hg8, rfl, h8⟩
    have HG8 := Lib.hid hg8
    have hx8 := (hg8.block w.heap.size (B.blk_lt HRK.out) (by intro e; have := Option.some.inj e; omega)).trans HRK.out
    have HX8 := Lib.hid hx8
    have HB8 : Hid (Below w.heap.size w w8) := Lib.hid (HB.out.grown hg8 HB.out.size (fun j hj => by cases hj; omega))
    have f0 := B.frozen_blk (i := 0) hx8
    have y0 := B.cell_blk (i := 0) hx8 rfl
    have f1 := B.frozen_blk (i := 1) hx8
    have y1 := B.cell_blk (i := 1) hx8 rfl
    have f2 := B.frozen_blk (i := 2) hx8
    have y2 := B.cell_blk (i := 2) hx8 rfl
    have f3 := B.frozen_blk (i := 3) hx8
    have y3 := B.cell_blk (i := 3) hx8 rfl
    have hlx := B.blk_lt hx8
    have H8 := Lib.hid h8
    have HS1 := HST
    clear hg8 hx8 h8
    generalize dEv (T.map bare) = st at *
    obtain ⟨k, q⟩ := st
    cases q with
    | true =>
      have hri : resI (k, true) = (k : Int) := rfl
      rw [hri]
      clear H8 hri
      go_wp2_with fail
      obtain ⟨w5, hw5⟩ : ∃ w5, w5 = set4 w8 w.heap.size nilV nilV nilV nilV := ⟨_, rfl⟩
      have e5 := blk4 HX8.out nilV nilV nilV nilV
      have b5 := below_set4 HB8.out (Nat.le_refl _) nilV nilV nilV nilV
      rw [← hw5] at e5 b5
      unfold set4 at hw5
      rw [← hw5]
      have x0 := B.cell_blk (i := 0) e5 rfl
      have x1 := B.cell_blk (i := 1) e5 rfl
      have x2 := B.cell_blk (i := 2) e5 rfl
      have x3 := B.cell_blk (i := 3) e5 rfl
      exact bodyPost_ret (v := .tuple #[grZ, .int .i64 (k : Int), .int .i64 2]) (by simp [results, Tryz.results17, go_sem, x0, x1, x2, x3]) rfl ⟨b5, by rw [HST.out.1, if_pos rfl]⟩
    | false =>
      obtain ⟨z0, z1, z2, z3, hz, hgo⟩ := H8.out (by first | rfl | trivial)
      have hri : resI (k, false) = -1 := rfl
      rw [hri]
      obtain ⟨⟨a0, n0, k0, rfl⟩, ⟨a1, n1, k1, rfl⟩, ⟨a2, n2, k2, rfl⟩, a3, n3, k3, rfl⟩ := GrO.sl hgo
      have HGO := Lib.hid hgo
      have u0 := B.cell_blk (i := 0) hz rfl
      have u1 := B.cell_blk (i := 1) hz rfl
      have u2 := B.cell_blk (i := 2) hz rfl
      have u3 := B.cell_blk (i := 3) hz rfl
      have hlz := B.blk_lt hz
      clear H8 hri hgo hz
      go_wp2_with fail
      obtain ⟨w5, hw5⟩ : ∃ w5, w5 = set4 w8 w.heap.size (.slice a0 n0 k0) (.slice a1 n1 k1) (.slice a2 n2 k2) (.slice a3 n3 k3) := ⟨_, rfl⟩
      have e5 := blk4 HX8.out (.slice a0 n0 k0) (.slice a1 n1 k1) (.slice a2 n2 k2) (.slice a3 n3 k3)
      have b5 := below_set4 HB8.out (Nat.le_refl _) (.slice a0 n0 k0) (.slice a1 n1 k1) (.slice a2 n2 k2) (.slice a3 n3 k3)
      have v5 := GrO.kept HGO.out (grown4 w8 w.heap.size (.slice a0 n0 k0) (.slice a1 n1 k1) (.slice a2 n2 k2) (.slice a3 n3 k3)) (by have := HB.out.size; have := B.blk_lt HRK.out; omega)
      rw [← hw5] at e5 b5 v5
      unfold set4 at hw5
      rw [← hw5]
      have x0 := B.cell_blk (i := 0) e5 rfl
      have x1 := B.cell_blk (i := 1) e5 rfl
      have x2 := B.cell_blk (i := 2) e5 rfl
      have x3 := B.cell_blk (i := 3) e5 rfl
      exact bodyPost_ret (v := .tuple #[.agg #[.slice a0 n0 k0, .slice a1 n1 k1, .slice a2 n2 k2, .slice a3 n3 k3], .int .i64 0, .int .i64 0]) (by simp [results, Tryz.results17, go_sem, x0, x1, x2, x3]) rfl ⟨b5, by rw [HST.out.1, if_neg (show ¬ (false = true) by decide), HST.out.2]; exact ⟨_, _, _, _, rfl, GrO.base v5 HB.out.size⟩⟩
  by_cases hkUser : clsAt (T.map bare) 0 = kUser
  · have HST := Lib.hid (st_three hkUser)
    have hs0' : s0.toList = [117, 115, 101, 114] := he0.trans hkUser
    have h1 := HPOS.out (by rw [hkUser]; decide)
    have CC := Lib.hid (rusers_any wk (w.heap.size + 1) A c T (some ⟨kg, 0, none⟩) kcap HGK.out HRW.out HKR.out (HFA.out h1) HFK.out hl h1)
    clear he0 hkUser HPOS HFA
    go_wp2_with fail
    refine CC.out.mono ?_
    rintro e w8 ⟨hg8, rfl, h8⟩
    have HG8 := Lib.hid hg8
    have hx8 := (hg8.block w.heap.size (B.blk_lt HRK.out) (by intro e; have := Option.some.inj e; omega)).trans HRK.out
    have HX8 := Lib.hid hx8
    have HB8 : Hid (Below w.heap.size w w8) := Lib.hid (HB.out.grown hg8 HB.out.size (fun j hj => by cases hj; omega))
    have f0 := B.frozen_blk (i := 0) hx8
    have y0 := B.cell_blk (i := 0) hx8 rfl
    have f1 := B.frozen_blk (i := 1) hx8
    have y1 := B.cell_blk (i := 1) hx8 rfl
    have f2 := B.frozen_blk (i := 2) hx8
    have y2 := B.cell_blk (i := 2) hx8 rfl
    have f3 := B.frozen_blk (i := 3) hx8
    have y3 := B.cell_blk (i := 3) hx8 rfl
    have hlx := B.blk_lt hx8
    have H8 := Lib.hid h8
    have HS1 := HST
    clear hg8 hx8 h8
    generalize dUs (T.map bare) = st at *
    obtain ⟨k, q⟩ := st
    cases q with
    | true =>
      have hri : resI (k, true) = (k : Int) := rfl
      rw [hri]
      clear H8 hri
      go_wp2_with fail
      obtain ⟨w5, hw5⟩ : ∃ w5, w5 = set4 w8 w.heap.size nilV nilV nilV nilV := ⟨_, rfl⟩
      have e5 := blk4 HX8.out nilV nilV nilV nilV
      have b5 := below_set4 HB8.out (Nat.le_refl _) nilV nilV nilV nilV
      rw [← hw5] at e5 b5
      unfold set4 at hw5
      rw [← hw5]
      have x0 := B.cell_blk (i := 0) e5 rfl
      have x1 := B.cell_blk (i := 1) e5 rfl
      have x2 := B.cell_blk (i := 2) e5 rfl
      have x3 := B.cell_blk (i := 3) e5 rfl
      exact bodyPost_ret (v := .tuple #[grZ, .int .i64 (k : Int), .int .i64 2]) (by simp [results, Tryz.results17, go_sem, x0, x1, x2, x3]) rfl ⟨b5, by rw [HST.out.1, if_pos rfl]⟩
    | false =>
      obtain ⟨z0, z1, z2, z3, hz, hgo⟩ := H8.out (by first | rfl | trivial)
      have hri : resI (k, false) = -1 := rfl
      rw [hri]
      obtain ⟨⟨a0, n0, k0, rfl⟩, ⟨a1, n1, k1, rfl⟩, ⟨a2, n2, k2, rfl⟩, a3, n3, k3, rfl⟩ := GrO.sl hgo
      have HGO := Lib.hid hgo
      have u0 := B.cell_blk (i := 0) hz rfl
      have u1 := B.cell_blk (i := 1) hz rfl
      have u2 := B.cell_blk (i := 2) hz rfl
      have u3 := B.cell_blk (i := 3) hz rfl
      have hlz := B.blk_lt hz
      clear H8 hri hgo hz
      go_wp2_with fail
      obtain ⟨w5, hw5⟩ : ∃ w5, w5 = set4 w8 w.heap.size (.slice a0 n0 k0) (.slice a1 n1 k1) (.slice a2 n2 k2) (.slice a3 n3 k3) := ⟨_, rfl⟩
      have e5 := blk4 HX8.out (.slice a0 n0 k0) (.slice a1 n1 k1) (.slice a2 n2 k2) (.slice a3 n3 k3)
      have b5 := below_set4 HB8.out (Nat.le_refl _) (.slice a0 n0 k0) (.slice a1 n1 k1) (.slice a2 n2 k2) (.slice a3 n3 k3)
      have v5 := GrO.kept HGO.out (grown4 w8 w.heap.size (.slice a0 n0 k0) (.slice a1 n1 k1) (.slice a2 n2 k2) (.slice a3 n3 k3)) (by have := HB.out.size; have := B.blk_lt HRK.out; omega)
      rw [← hw5] at e5 b5 v5
      unfold set4 at hw5
      rw [← hw5]
      have x0 := B.cell_blk (i := 0) e5 rfl
      have x1 := B.cell_blk (i := 1) e5 rfl
      have x2 := B.cell_blk (i := 2) e5 rfl
      have x3 := B.cell_blk (i := 3) e5 rfl
      exact bodyPost_ret (v := .tuple #[.agg #[.slice a0 n0 k0, .slice a1 n1 k1, .slice a2 n2 k2, .slice a3 n3 k3], .int .i64 0, .int .i64 0]) (by simp [results, Tryz.results17, go_sem, x0, x1, x2, x3]) rfl ⟨b5, by rw [HST.out.1, if_neg (show ¬ (false = true) by decide), HST.out.2]; exact ⟨_, _, _, _, rfl, GrO.base v5 HB.out.size⟩⟩
  have HST4 := Lib.hid (st_four hkGroup hkEvent hkUser)
  have q1 : (s0.toList == [103, 114, 111, 117, 112]) = false := by rw [beq_eq_false_iff_ne, he0]; exact hkGroup
  have q2 : (s0.toList == [101, 118, 101, 110, 116]) = false := by rw [beq_eq_false_iff_ne, he0]; exact hkEvent
  have q3 : (s0.toList == [117, 115, 101, 114]) = false := by rw [beq_eq_false_iff_ne, he0]; exact hkUser
  by_cases hkv : kindV (T.map bare) (0, false) = 0
  · have HST : Hid (stS (T.map bare) = (0, true)) := Lib.hid (HST4.out.1.trans (rl_none hkv))
    have p1 : (s0.toList == [99, 111, 110, 100, 105, 116, 105, 111, 110]) = false := by rw [beq_eq_false_iff_ne, he0]; exact kind_none hkv 1 (by decide) (by decide)
    have p2 : (s0.toList == [114, 101, 115, 112, 111, 110, 115, 101]) = false := by rw [beq_eq_false_iff_ne, he0]; exact kind_none hkv 2 (by decide) (by decide)
    have p3 : (s0.toList == [105, 110, 99, 108, 117, 100, 101]) = false := by rw [beq_eq_false_iff_ne, he0]; exact kind_none hkv 3 (by decide) (by decide)
    have p4 : (s0.toList == [101, 120, 99, 108, 117, 100, 101]) = false := by rw [beq_eq_false_iff_ne, he0]; exact kind_none hkv 4 (by decide) (by decide)
    have p5 : (s0.toList == [109, 105, 108, 101, 115, 116, 111, 110, 101]) = false := by rw [beq_eq_false_iff_ne, he0]; exact kind_none hkv 5 (by decide) (by decide)
    have f0 := B.frozen_blk (i := 0) HRK.out
    have y0 := B.cell_blk (i := 0) HRK.out rfl
    have f1 := B.frozen_blk (i := 1) HRK.out
    have y1 := B.cell_blk (i := 1) HRK.out rfl
    have f2 := B.frozen_blk (i := 2) HRK.out
    have y2 := B.cell_blk (i := 2) HRK.out rfl
    have f3 := B.frozen_blk (i := 3) HRK.out
    have y3 := B.cell_blk (i := 3) HRK.out rfl
    have hlx := B.blk_lt HRK.out
    clear he0 hkv hkGroup hkEvent hkUser HPOS HFA
    go_wp2_with fail
    obtain ⟨w5, hw5⟩ : ∃ w5, w5 = set4 wk w.heap.size nilV nilV nilV nilV := ⟨_, rfl⟩
    have e5 := blk4 HRK.out nilV nilV nilV nilV
    have b5 := below_set4 HB.out (Nat.le_refl _) nilV nilV nilV nilV
    rw [← hw5] at e5 b5
    unfold set4 at hw5
    rw [← hw5]
    have x0 := B.cell_blk (i := 0) e5 rfl
    have x1 := B.cell_blk (i := 1) e5 rfl
    have x2 := B.cell_blk (i := 2) e5 rfl
    have x3 := B.cell_blk (i := 3) e5 rfl
    exact bodyPost_ret (v := .tuple #[grZ, .int .i64 0, .int .i64 2]) (by simp [results, Tryz.results17, go_sem, x0, x1, x2, x3]) rfl ⟨b5, by rw [HST.out, if_pos rfl]; rfl⟩
  · have HST : Hid (stS (T.map bare) = dRl (T.map bare) (kindV (T.map bare) (0, false)) ∧ P3.stV (T.map bare) = .r (rlV (T.map bare))) := Lib.hid ⟨HST4.out.1.trans (rl_doc hkv), HST4.out.2⟩
    obtain ⟨kn, hkn, g1, g5, hc0⟩ := kind_cls hkv
    have hpos : clsAt (T.map bare) 0 ≠ [46] := by
      rw [hc0]; intro e
      have hk : kn = 1 ∨ kn = 2 ∨ kn = 3 ∨ kn = 4 ∨ kn = 5 := by omega
      rcases hk with rfl | rfl | rfl | rfl | rfl <;> exact absurd e (by decide)
    have h1 := HPOS.out hpos
    have CC := Lib.hid (rrelation_any wk (w.heap.size + 1) A c T (some ⟨kg, 0, none⟩) kcap HGK.out HRW.out HKR.out (HFA.out h1) HFK.out hl h1 hkv)
    have hs0' : s0.toList = kwB (kn : Int) := he0.trans hc0
    have hk : kn = 1 ∨ kn = 2 ∨ kn = 3 ∨ kn = 4 ∨ kn = 5 := by omega
    clear he0 hc0 hkv hkn g1 g5 hkGroup hkEvent hkUser HPOS HFA HST4 q1 q2 q3
    rcases hk with rfl | rfl | rfl | rfl | rfl
    · have hs1 : s0.toList = [99, 111, 110, 100, 105, 116, 105, 111, 110] := hs0'
      clear hs0'
      go_wp2_with fail
      refine CC.out.mono ?_
      rintro e w8 ⟨hg8, rfl, h8⟩
      have HG8 := Lib.hid hg8
      have hx8 := (hg8.block w.heap.size (B.blk_lt HRK.out) (by intro e; have := Option.some.inj e; omega)).trans HRK.out
      have HX8 := Lib.hid hx8
      have HB8 : Hid (Below w.heap.size w w8) := Lib.hid (HB.out.grown hg8 HB.out.size (fun j hj => by cases hj; omega))
      have f0 := B.frozen_blk (i := 0) hx8
      have y0 := B.cell_blk (i := 0) hx8 rfl
      have f1 := B.frozen_blk (i := 1) hx8
      have y1 := B.cell_blk (i := 1) hx8 rfl
      have f2 := B.frozen_blk (i := 2) hx8
      have y2 := B.cell_blk (i := 2) hx8 rfl
      have f3 := B.frozen_blk (i := 3) hx8
      have y3 := B.cell_blk (i := 3) hx8 rfl
      have hlx := B.blk_lt hx8
      have H8 := Lib.hid h8
      have HS1 := HST
      clear hg8 hx8 h8
      generalize dRl (T.map bare) (kindV (T.map bare) (0, false)) = st at *
      obtain ⟨k, q⟩ := st
      cases q with
      | true =>
        have hri : resI (k, true) = (k : Int) := rfl
        rw [hri]
        clear H8 hri
        go_wp2_with fail
        obtain ⟨w5, hw5⟩ : ∃ w5, w5 = set4 w8 w.heap.size nilV nilV nilV nilV := ⟨_, rfl⟩
        have e5 := blk4 HX8.out nilV nilV nilV nilV
        have b5 := below_set4 HB8.out (Nat.le_refl _) nilV nilV nilV nilV
        rw [← hw5] at e5 b5
        unfold set4 at hw5
        rw [← hw5]
        have x0 := B.cell_blk (i := 0) e5 rfl
        have x1 := B.cell_blk (i := 1) e5 rfl
        have x2 := B.cell_blk (i := 2) e5 rfl
        have x3 := B.cell_blk (i := 3) e5 rfl
        exact bodyPost_ret (v := .tuple #[grZ, .int .i64 (k : Int), .int .i64 2]) (by simp [results, Tryz.results17, go_sem, x0, x1, x2, x3]) rfl ⟨b5, by rw [HST.out.1, if_pos rfl]⟩
      | false =>
        obtain ⟨z0, z1, z2, z3, hz, hgo⟩ := H8.out (by first | rfl | trivial)
        have hri : resI (k, false) = -1 := rfl
        rw [hri]
        obtain ⟨⟨a0, n0, k0, rfl⟩, ⟨a1, n1, k1, rfl⟩, ⟨a2, n2, k2, rfl⟩, a3, n3, k3, rfl⟩ := GrO.sl hgo
        have HGO := Lib.hid hgo
        have u0 := B.cell_blk (i := 0) hz rfl
        have u1 := B.cell_blk (i := 1) hz rfl
        have u2 := B.cell_blk (i := 2) hz rfl
        have u3 := B.cell_blk (i := 3) hz rfl
        have hlz := B.blk_lt hz
        clear H8 hri hgo hz
        go_wp2_with fail
        obtain ⟨w5, hw5⟩ : ∃ w5, w5 = set4 w8 w.heap.size (.slice a0 n0 k0) (.slice a1 n1 k1) (.slice a2 n2 k2) (.slice a3 n3 k3) := ⟨_, rfl⟩
        have e5 := blk4 HX8.out (.slice a0 n0 k0) (.slice a1 n1 k1) (.slice a2 n2 k2) (.slice a3 n3 k3)
        have b5 := below_set4 HB8.out (Nat.le_refl _) (.slice a0 n0 k0) (.slice a1 n1 k1) (.slice a2 n2 k2) (.slice a3 n3 k3)
        have v5 := GrO.kept HGO.out (grown4 w8 w.heap.size (.slice a0 n0 k0) (.slice a1 n1 k1) (.slice a2 n2 k2) (.slice a3 n3 k3)) (by have := HB.out.size; have := B.blk_lt HRK.out; omega)
        rw [← hw5] at e5 b5 v5
        unfold set4 at hw5
        rw [← hw5]
        have x0 := B.cell_blk (i := 0) e5 rfl
        have x1 := B.cell_blk (i := 1) e5 rfl
        have x2 := B.cell_blk (i := 2) e5 rfl
        have x3 := B.cell_blk (i := 3) e5 rfl
        exact bodyPost_ret (v := .tuple #[.agg #[.slice a0 n0 k0, .slice a1 n1 k1, .slice a2 n2 k2, .slice a3 n3 k3], .int .i64 0, .int .i64 0]) (by simp [results, Tryz.results17, go_sem, x0, x1, x2, x3]) rfl ⟨b5, by rw [HST.out.1, if_neg (show ¬ (false = true) by decide), HST.out.2]; exact ⟨_, _, _, _, rfl, GrO.base v5 HB.out.size⟩⟩
    · have hs1 : s0.toList = [114, 101, 115, 112, 111, 110, 115, 101] := hs0'
      clear hs0'
      go_wp2_with fail
      refine CC.out.mono ?_
      rintro e w8 ⟨hg8, rfl, h8⟩
      have HG8 := Lib.hid hg8
      have hx8 := (hg8.block w.heap.size (B.blk_lt HRK.out) (by intro e; have := Option.some.inj e; omega)).trans HRK.out
      have HX8 := Lib.hid hx8
      have HB8 : Hid (Below w.heap.size w w8) := Lib.hid (HB.out.grown hg8 HB.out.size (fun j hj => by cases hj; omega))
      have f0 := B.frozen_blk (i := 0) hx8
      have y0 := B.cell_blk (i := 0) hx8 rfl
      have f1 := B.frozen_blk (i := 1) hx8
      have y1 := B.cell_blk (i := 1) hx8 rfl
      have f2 := B.frozen_blk (i := 2) hx8
      have y2 := B.cell_blk (i := 2) hx8 rfl
      have f3 := B.frozen_blk (i := 3) hx8
      have y3 := B.cell_blk (i := 3) hx8 rfl
      have hlx := B.blk_lt hx8
      have H8 := Lib.hid h8
      have HS1 := HST
      clear hg8 hx8 h8
      generalize dRl (T.map bare) (kindV (T.map bare) (0, false)) = st at *
      obtain ⟨k, q⟩ := st
      cases q with
      | true =>
        have hri : resI (k, true) = (k : Int) := rfl
        rw [hri]
        clear H8 hri
        go_wp2_with fail
        obtain ⟨w5, hw5⟩ : ∃ w5, w5 = set4 w8 w.heap.size nilV nilV nilV nilV := ⟨_, rfl⟩
        have e5 := blk4 HX8.out nilV nilV nilV nilV
        have b5 := below_set4 HB8.out (Nat.le_refl _) nilV nilV nilV nilV
        rw [← hw5] at e5 b5
        unfold set4 at hw5
        rw [← hw5]
        have x0 := B.cell_blk (i := 0) e5 rfl
        have x1 := B.cell_blk (i := 1) e5 rfl
        have x2 := B.cell_blk (i := 2) e5 rfl
        have x3 := B.cell_blk (i := 3) e5 rfl
        exact bodyPost_ret (v := .tuple #[grZ, .int .i64 (k : Int), .int .i64 2]) (by simp [results, Tryz.results17, go_sem, x0, x1, x2, x3]) rfl ⟨b5, by rw [HST.out.1, if_pos rfl]⟩
      | false =>
        obtain ⟨z0, z1, z2, z3, hz, hgo⟩ := H8.out (by first | rfl | trivial)
        have hri : resI (k, false) = -1 := rfl
        rw [hri]
        obtain ⟨⟨a0, n0, k0, rfl⟩, ⟨a1, n1, k1, rfl⟩, ⟨a2, n2, k2, rfl⟩, a3, n3, k3, rfl⟩ := GrO.sl hgo
        have HGO := Lib.hid hgo
        have u0 := B.cell_blk (i := 0) hz rfl
        have u1 := B.cell_blk (i := 1) hz rfl
        have u2 := B.cell_blk (i := 2) hz rfl
        have u3 := B.cell_blk (i := 3) hz rfl
        have hlz := B.blk_lt hz
        clear H8 hri hgo hz
        go_wp2_with fail
        obtain ⟨w5, hw5⟩ : ∃ w5, w5 = set4 w8 w.heap.size (.slice a0 n0 k0) (.slice a1 n1 k1) (.slice a2 n2 k2) (.slice a3 n3 k3) := ⟨_, rfl⟩
        have e5 := blk4 HX8.out (.slice a0 n0 k0) (.slice a1 n1 k1) (.slice a2 n2 k2) (.slice a3 n3 k3)
        have b5 := below_set4 HB8.out (Nat.le_refl _) (.slice a0 n0 k0) (.slice a1 n1 k1) (.slice a2 n2 k2) (.slice a3 n3 k3)
        have v5 := GrO.kept HGO.out (grown4 w8 w.heap.size (.slice a0 n0 k0) (.slice a1 n1 k1) (.slice a2 n2 k2) (.slice a3 n3 k3)) (by have := HB.out.size; have := B.blk_lt HRK.out; omega)
        rw [← hw5] at e5 b5 v5
        unfold set4 at hw5
        rw [← hw5]
        have x0 := B.cell_blk (i := 0) e5 rfl
        have x1 := B.cell_blk (i := 1) e5 rfl
        have x2 := B.cell_blk (i := 2) e5 rfl
        have x3 := B.cell_blk (i := 3) e5 rfl
        exact bodyPost_ret (v := .tuple #[.agg #[.slice a0 n0 k0, .slice a1 n1 k1, .slice a2 n2 k2, .slice a3 n3 k3], .int .i64 0, .int .i64 0]) (by simp [results, Tryz.results17, go_sem, x0, x1, x2, x3]) rfl ⟨b5, by rw [HST.out.1, if_neg (show ¬ (false = true) by decide), HST.out.2]; exact ⟨_, _, _, _, rfl, GrO.base v5 HB.out.size⟩⟩
    · have hs1 : s0.toList = [105, 110, 99, 108, 117, 100, 101] := hs0'
      clear hs0'
      go_wp2_with fail
      refine CC.out.mono ?_
      rintro e w8 ⟨hg8, rfl, h8⟩
      have HG8 := Lib.hid hg8
      have hx8 := (hg8.block w.heap.size (B.blk_lt HRK.out) (by intro e; have := Option.some.inj e; omega)).trans HRK.out
      have HX8 := Lib.hid hx8
      have HB8 : Hid (Below w.heap.size w w8) := Lib.hid (HB.out.grown hg8 HB.out.size (fun j hj => by cases hj; omega))
      have f0 := B.frozen_blk (i := 0) hx8
      have y0 := B.cell_blk (i := 0) hx8 rfl
      have f1 := B.frozen_blk (i := 1) hx8
      have y1 := B.cell_blk (i := 1) hx8 rfl
      have f2 := B.frozen_blk (i := 2) hx8
      have y2 := B.cell_blk (i := 2) hx8 rfl
      have f3 := B.frozen_blk (i := 3) hx8
      have y3 := B.cell_blk (i := 3) hx8 rfl
      have hlx := B.blk_lt hx8
      have H8 := Lib.hid h8
      have HS1 := HST
      clear hg8 hx8 h8
      generalize dRl (T.map bare) (kindV (T.map bare) (0, false)) = st at *
      obtain ⟨k, q⟩ := st
      cases q with
      | true =>
        have hri : resI (k, true) = (k : Int) := rfl
        rw [hri]
        clear H8 hri
        go_wp2_with fail
        obtain ⟨w5, hw5⟩ : ∃ w5, w5 = set4 w8 w.heap.size nilV nilV nilV nilV := ⟨_, rfl⟩
        have e5 := blk4 HX8.out nilV nilV nilV nilV
        have b5 := below_set4 HB8.out (Nat.le_refl _) nilV nilV nilV nilV
        rw [← hw5] at e5 b5
        unfold set4 at hw5
        rw [← hw5]
        have x0 := B.cell_blk (i := 0) e5 rfl
        have x1 := B.cell_blk (i := 1) e5 rfl
        have x2 := B.cell_blk (i := 2) e5 rfl
        have x3 := B.cell_blk (i := 3) e5 rfl
        exact bodyPost_ret (v := .tuple #[grZ, .int .i64 (k : Int), .int .i64 2]) (by simp [results, Tryz.results17, go_sem, x0, x1, x2, x3]) rfl ⟨b5, by rw [HST.out.1, if_pos rfl]⟩
      | false =>
        obtain ⟨z0, z1, z2, z3, hz, hgo⟩ := H8.out (by first | rfl | trivial)
        have hri : resI (k, false) = -1 := rfl
        rw [hri]
        obtain ⟨⟨a0, n0, k0, rfl⟩, ⟨a1, n1, k1, rfl⟩, ⟨a2, n2, k2, rfl⟩, a3, n3, k3, rfl⟩ := GrO.sl hgo
        have HGO := Lib.hid hgo
        have u0 := B.cell_blk (i := 0) hz rfl
        have u1 := B.cell_blk (i := 1) hz rfl
        have u2 := B.cell_blk (i := 2) hz rfl
        have u3 := B.cell_blk (i := 3) hz rfl
        have hlz := B.blk_lt hz
        clear H8 hri hgo hz
        go_wp2_with fail
        obtain ⟨w5, hw5⟩ : ∃ w5, w5 = set4 w8 w.heap.size (.slice a0 n0 k0) (.slice a1 n1 k1) (.slice a2 n2 k2) (.slice a3 n3 k3) := ⟨_, rfl⟩
        have e5 := blk4 HX8.out (.slice a0 n0 k0) (.slice a1 n1 k1) (.slice a2 n2 k2) (.slice a3 n3 k3)
        have b5 := below_set4 HB8.out (Nat.le_refl _) (.slice a0 n0 k0) (.slice a1 n1 k1) (.slice a2 n2 k2) (.slice a3 n3 k3)
        have v5 := GrO.kept HGO.out (grown4 w8 w.heap.size (.slice a0 n0 k0) (.slice a1 n1 k1) (.slice a2 n2 k2) (.slice a3 n3 k3)) (by have := HB.out.size; have := B.blk_lt HRK.out; omega)
        rw [← hw5] at e5 b5 v5
        unfold set4 at hw5
        rw [← hw5]
        have x0 := B.cell_blk (i := 0) e5 rfl
        have x1 := B.cell_blk (i := 1) e5 rfl
        have x2 := B.cell_blk (i := 2) e5 rfl
        have x3 := B.cell_blk (i := 3) e5 rfl
        exact bodyPost_ret (v := .tuple #[.agg #[.slice a0 n0 k0, .slice a1 n1 k1, .slice a2 n2 k2, .slice a3 n3 k3], .int .i64 0, .int .i64 0]) (by simp [results, Tryz.results17, go_sem, x0, x1, x2, x3]) rfl ⟨b5, by rw [HST.out.1, if_neg (show ¬ (false = true) by decide), HST.out.2]; exact ⟨_, _, _, _, rfl, GrO.base v5 HB.out.size⟩⟩
    · have hs1 : s0.toList = [101, 120, 99, 108, 117, 100, 101] := hs0'
      clear hs0'
      go_wp2_with fail
      refine CC.out.mono ?_
      rintro e w8 ⟨hg8, rfl, h8⟩
      have HG8 := Lib.hid hg8
      have hx8 := (hg8.block w.heap.size (B.blk_lt HRK.out) (by intro e; have := Option.some.inj e; omega)).trans HRK.out
      have HX8 := Lib.hid hx8
      have HB8 : Hid (Below w.heap.size w w8) := Lib.hid (HB.out.grown hg8 HB.out.size (fun j hj => by cases hj; omega))
      have f0 := B.frozen_blk (i := 0) hx8
      have y0 := B.cell_blk (i := 0) hx8 rfl
      have f1 := B.frozen_blk (i := 1) hx8
      have y1 := B.cell_blk (i := 1) hx8 rfl
      have f2 := B.frozen_blk (i := 2) hx8
      have y2 := B.cell_blk (i := 2) hx8 rfl
      have f3 := B.frozen_blk (i := 3) hx8
      have y3 := B.cell_blk (i := 3) hx8 rfl
      have hlx := B.blk_lt hx8
      have H8 := Lib.hid h8
      have HS1 := HST
      clear hg8 hx8 h8
      generalize dRl (T.map bare) (kindV (T.map bare) (0, false)) = st at *
      obtain ⟨k, q⟩ := st
      cases q with
      | true =>
        have hri : resI (k, true) = (k : Int) := rfl
        rw [hri]
        clear H8 hri
        go_wp2_with fail
        obtain ⟨w5, hw5⟩ : ∃ w5, w5 = set4 w8 w.heap.size nilV nilV nilV nilV := ⟨_, rfl⟩
        have e5 := blk4 HX8.out nilV nilV nilV nilV
        have b5 := below_set4 HB8.out (Nat.le_refl _) nilV nilV nilV nilV
        rw [← hw5] at e5 b5
        unfold set4 at hw5
        rw [← hw5]
        have x0 := B.cell_blk (i := 0) e5 rfl
        have x1 := B.cell_blk (i := 1) e5 rfl
        have x2 := B.cell_blk (i := 2) e5 rfl
        have x3 := B.cell_blk (i := 3) e5 rfl
        exact bodyPost_ret (v := .tuple #[grZ, .int .i64 (k : Int), .int .i64 2]) (by simp [results, Tryz.results17, go_sem, x0, x1, x2, x3]) rfl ⟨b5, by rw [HST.out.1, if_pos rfl]⟩
      | false =>
        obtain ⟨z0, z1, z2, z3, hz, hgo⟩ := H8.out (by first | rfl | trivial)
        have hri : resI (k, false) = -1 := rfl
        rw [hri]
        obtain ⟨⟨a0, n0, k0, rfl⟩, ⟨a1, n1, k1, rfl⟩, ⟨a2, n2, k2, rfl⟩, a3, n3, k3, rfl⟩ := GrO.sl hgo
        have HGO := Lib.hid hgo
        have u0 := B.cell_blk (i := 0) hz rfl
        have u1 := B.cell_blk (i := 1) hz rfl
        have u2 := B.cell_blk (i := 2) hz rfl
        have u3 := B.cell_blk (i := 3) hz rfl
        have hlz := B.blk_lt hz
        clear H8 hri hgo hz
        go_wp2_with fail
        obtain ⟨w5, hw5⟩ : ∃ w5, w5 = set4 w8 w.heap.size (.slice a0 n0 k0) (.slice a1 n1 k1) (.slice a2 n2 k2) (.slice a3 n3 k3) := ⟨_, rfl⟩
        have e5 := blk4 HX8.out (.slice a0 n0 k0) (.slice a1 n1 k1) (.slice a2 n2 k2) (.slice a3 n3 k3)
        have b5 := below_set4 HB8.out (Nat.le_refl _) (.slice a0 n0 k0) (.slice a1 n1 k1) (.slice a2 n2 k2) (.slice a3 n3 k3)
        have v5 := GrO.kept HGO.out (grown4 w8 w.heap.size (.slice a0 n0 k0) (.slice a1 n1 k1) (.slice a2 n2 k2) (.slice a3 n3 k3)) (by have := HB.out.size; have := B.blk_lt HRK.out; omega)
        rw [← hw5] at e5 b5 v5
        unfold set4 at hw5
        rw [← hw5]
        have x0 := B.cell_blk (i := 0) e5 rfl
        have x1 := B.cell_blk (i := 1) e5 rfl
        have x2 := B.cell_blk (i := 2) e5 rfl
        have x3 := B.cell_blk (i := 3) e5 rfl
        exact bodyPost_ret (v := .tuple #[.agg #[.slice a0 n0 k0, .slice a1 n1 k1, .slice a2 n2 k2, .slice a3 n3 k3], .int .i64 0, .int .i64 0]) (by simp [results, Tryz.results17, go_sem, x0, x1, x2, x3]) rfl ⟨b5, by rw [HST.out.1, if_neg (show ¬ (false = true) by decide), HST.out.2]; exact ⟨_, _, _, _, rfl, GrO.base v5 HB.out.size⟩⟩
    · have hs1 : s0.toList = [109, 105, 108, 101, 115, 116, 111, 110, 101] := hs0'
      clear hs0'
      go_wp2_with fail
      refine CC.out.mono ?_
      rintro e w8 ⟨hg8, rfl, h8⟩
      have HG8 := Lib.hid hg8
      have hx8 := (hg8.block w.heap.size (B.blk_lt HRK.out) (by intro e; have := Option.some.inj e; omega)).trans HRK.out
      have HX8 := Lib.hid hx8
      have HB8 : Hid (Below w.heap.size w w8) := Lib.hid (HB.out.grown hg8 HB.out.size (fun j hj => by cases hj; omega))
      have f0 := B.frozen_blk (i := 0) hx8
      have y0 := B.cell_blk (i := 0) hx8 rfl
      have f1 := B.frozen_blk (i := 1) hx8
      have y1 := B.cell_blk (i := 1) hx8 rfl
      have f2 := B.frozen_blk (i := 2) hx8
      have y2 := B.cell_blk (i := 2) hx8 rfl
      have f3 := B.frozen_blk (i := 3) hx8
      have y3 := B.cell_blk (i := 3) hx8 rfl
      have hlx := B.blk_lt hx8
      have H8 := Lib.hid h8
      have HS1 := HST
      clear hg8 hx8 h8
      generalize dRl (T.map bare) (kindV (T.map bare) (0, false)) = st at *
      obtain ⟨k, q⟩ := st
      cases q with
      | true =>
        have hri : resI (k, true) = (k : Int) := rfl
        rw [hri]
        clear H8 hri
        go_wp2_with fail
        obtain ⟨w5, hw5⟩ : ∃ w5, w5 = set4 w8 w.heap.size nilV nilV nilV nilV := ⟨_, rfl⟩
        have e5 := blk4 HX8.out nilV nilV nilV nilV
        have b5 := below_set4 HB8.out (Nat.le_refl _) nilV nilV nilV nilV
        rw [← hw5] at e5 b5
        unfold set4 at hw5
        rw [← hw5]
        have x0 := B.cell_blk (i := 0) e5 rfl
        have x1 := B.cell_blk (i := 1) e5 rfl
        have x2 := B.cell_blk (i := 2) e5 rfl
        have x3 := B.cell_blk (i := 3) e5 rfl
        exact bodyPost_ret (v := .tuple #[grZ, .int .i64 (k : Int), .int .i64 2]) (by simp [results, Tryz.results17, go_sem, x0, x1, x2, x3]) rfl ⟨b5, by rw [HST.out.1, if_pos rfl]⟩
      | false =>
        obtain ⟨z0, z1, z2, z3, hz, hgo⟩ := H8.out (by first | rfl | trivial)
        have hri : resI (k, false) = -1 := rfl
        rw [hri]
        obtain ⟨⟨a0, n0, k0, rfl⟩, ⟨a1, n1, k1, rfl⟩, ⟨a2, n2, k2, rfl⟩, a3, n3, k3, rfl⟩ := GrO.sl hgo
        have HGO := Lib.hid hgo
        have u0 := B.cell_blk (i := 0) hz rfl
        have u1 := B.cell_blk (i := 1) hz rfl
        have u2 := B.cell_blk (i := 2) hz rfl
        have u3 := B.cell_blk (i := 3) hz rfl
        have hlz := B.blk_lt hz
        clear H8 hri hgo hz
        go_wp2_with fail
        obtain ⟨w5, hw5⟩ : ∃ w5, w5 = set4 w8 w.heap.size (.slice a0 n0 k0) (.slice a1 n1 k1) (.slice a2 n2 k2) (.slice a3 n3 k3) := ⟨_, rfl⟩
        have e5 := blk4 HX8.out (.slice a0 n0 k0) (.slice a1 n1 k1) (.slice a2 n2 k2) (.slice a3 n3 k3)
        have b5 := below_set4 HB8.out (Nat.le_refl _) (.slice a0 n0 k0) (.slice a1 n1 k1) (.slice a2 n2 k2) (.slice a3 n3 k3)
        have v5 := GrO.kept HGO.out (grown4 w8 w.heap.size (.slice a0 n0 k0) (.slice a1 n1 k1) (.slice a2 n2 k2) (.slice a3 n3 k3)) (by have := HB.out.size; have := B.blk_lt HRK.out; omega)
        rw [← hw5] at e5 b5 v5
        unfold set4 at hw5
        rw [← hw5]
        have x0 := B.cell_blk (i := 0) e5 rfl
        have x1 := B.cell_blk (i := 1) e5 rfl
        have x2 := B.cell_blk (i := 2) e5 rfl
        have x3 := B.cell_blk (i := 3) e5 rfl
        exact bodyPost_ret (v := .tuple #[.agg #[.slice a0 n0 k0, .slice a1 n1 k1, .slice a2 n2 k2, .slice a3 n3 k3], .int .i64 0, .int .i64 0]) (by simp [results, Tryz.results17, go_sem, x0, x1, x2, x3]) rfl ⟨b5, by rw [HST.out.1, if_neg (show ¬ (false = true) by decide), HST.out.2]; exact ⟨_, _, _, _, rfl, GrO.base v5 HB.out.size⟩⟩
end Go.Proofs.YtjgcjnkeeiaafaaGreatDoor.P3.D
