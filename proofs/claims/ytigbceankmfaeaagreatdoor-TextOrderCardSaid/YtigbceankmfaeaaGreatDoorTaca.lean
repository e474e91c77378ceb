/-
  Contract of the looker's gather: its four maps tell where each name, and each relation without its time, stands first. Contract of the looker's look at an event. Contract of the looker's look at a relation.
-/
import Derived.Test.YtigbceankmfaeaaGreatDoorTabh
import Derived.Test.YtigbceankmfaeaaGreatDoorTabi
import Derived.Test.YtigbceankmfaeaaGreatDoorTabj
import Derived.Deep.RegionWith
namespace Go.Proofs.YtigbceankmfaeaaGreatDoor
open Go.RowKit Go.Shelf
def lkA (g : Gr) (a b c d : Value) : Array Value := #[.slice g.ga g.gs.length g.gc, .slice g.ea g.es.length g.ec, .slice g.ra g.rs.length g.rc, .slice g.ua g.us.length g.uc, a, b, c, d]
/-- The looker while its maps are gathered. -/
structure GS (w0 w W : World) (L : Nat) (g : Gr) (a b c d : Value) : Prop where
  blk : W.heap[L]? = some (.cells (lkA g a b c d) 108 (0, 0))
  bel : Below w0.heap.size w0 W
  kept : ∀ k, k < w.heap.size → k ≠ L → W.heap[k]? = w.heap[k]?
  size : w.heap.size ≤ W.heap.size
theorem GS.next {w0 w W W' : World} {L : Nat} {g : Gr} {a b c d : Value} (h : GS w0 w W L g a b c d) (hb : Below W.heap.size W W') : GS w0 w W' L g a b c d :=
  ⟨(hb.block _ (Array.getElem?_eq_some_iff.1 h.blk).1).trans h.blk, h.bel.trans (hb.mono h.bel.size), fun k h1 h2 => (hb.block k (Nat.lt_of_lt_of_le h1 h.size)).trans (h.kept k h1 h2), Nat.le_trans h.size hb.size⟩
theorem GS.set {w0 w W : World} {L i : Nat} {g : Gr} {a b c d a' b' c' d' : Value} (h : GS w0 w W L g a b c d) (hL : w0.heap.size ≤ L) (v : Value) (he : (lkA g a b c d).setIfInBounds i v = lkA g a' b' c' d') : GS w0 w (W.setCell ⟨L, i, none⟩ v) L g a' b' c' d' :=
  ⟨by rw [blk_set h.blk, he], h.bel.setCell (p := ⟨L, i, none⟩) hL v, fun k h1 h2 => (blk_other h2).trans (h.kept k h1 h2), by have := h.size; simp [World.setCell]; exact this⟩
theorem MapFn.set {w : World} {P : Program} {k e : TypeId} {b n L i : Nat} {f : Lit → Option Nat} {v : Value} (h : MapFn w P k e b n f) (hne : b ≠ L) : MapFn (w.setCell ⟨L, i, none⟩ v) P k e b n f := h.block (blk_other hne)
theorem size_set (w : World) (p : Addr) (v : Value) : (w.setCell p v).heap.size = w.heap.size := by simp [World.setCell]
set_option maxRecDepth 100000 in
set_option maxHeartbeats 4000000 in
theorem gather_any (w0 w : World) (L : Nat) (g : Gr) (hI : InG w0 g) (hz : SzG g) (h1 : g.gs.length ≤ 1000000) (h2 : g.es.length ≤ 1000000) (h3 : g.rs.length ≤ 1000000) (h4 : g.us.length ≤ 1000000) (hL0 : w0.heap.size ≤ L)
    (hg : GS w0 w w L g (.map none) (.map none) (.map none) (.map none)) :
    Calls Tryz.prog 42 #[.pointer (some ⟨L, 0, none⟩)] w fun e w' => (∃ v, e = .returned v) ∧ ∃ bg be br bu, LkIn w' L g bg be br bu ∧ GS w0 w w' L g (.map (some bg)) (.map (some be)) (.map (some br)) (.map (some bu)) ∧ (L < bg ∧ L < be ∧ L < br ∧ L < bu) := by
  have hLs : L < w.heap.size := (Array.getElem?_eq_some_iff.1 hg.blk).1
  have c0 := cell_blk (i := 0) hg.blk rfl
  have c4 := cell_blk (i := 4) hg.blk rfl
  have HI := Lib.hid hI
  have HZ := Lib.hid hz
  have HG := Lib.hid hg
  clear hI hz hg
  go_enter Tryz.func42, Tryz.ntmps42
  go_wp2_with fail
  refine (firsts_gp g.ga g.gc g.gs _ (HI.out.gs.below (Nat.le_refl _) HG.out.bel) h1 (fun p hp => (HZ.out.gp p hp).1)).mono ?_
  rintro e w1 ⟨b4, rfl, m4, hb1, hl4⟩
  have g1 := HG.out.next hb1
  have s1 := hb1.size
  have d1 := cell_blk (i := 1) g1.blk rfl
  have d4 := cell_blk (i := 4) g1.blk rfl
  have f4 := frozen_blk (i := 4) g1.blk
  have G1 := Lib.hid (g1.set (i := 4) hL0 (.map (some b4)) (a' := .map (some b4)) (b' := .map none) (c' := .map none) (d' := .map none) rfl)
  have M4 := Lib.hid (m4.set (L := L) (i := 4) (v := .map (some b4)) (by omega))
  clear hb1 g1 m4 c0 c4
  go_wp2_with fail
  refine (firsts_ev g.ea g.ec g.es _ (HI.out.es.below (Nat.le_refl _) G1.out.bel) h2 (fun p hp => (HZ.out.ev p hp).1)).mono ?_
  rintro e w2 ⟨b5, rfl, m5, hb2, hl5⟩
  have g2 := G1.out.next hb2
  have s2 := hb2.size
  rw [size_set] at s2 hl5
  have M4' := Lib.hid (M4.out.below (Nat.le_refl _) hb2)
  have d2 := cell_blk (i := 2) g2.blk rfl
  have d5 := cell_blk (i := 5) g2.blk rfl
  have f5 := frozen_blk (i := 5) g2.blk
  have G2 := Lib.hid (g2.set (i := 5) hL0 (.map (some b5)) (a' := .map (some b4)) (b' := .map (some b5)) (c' := .map none) (d' := .map none) rfl)
  have M4 := Lib.hid (M4'.out.set (L := L) (i := 5) (v := .map (some b5)) (by omega))
  have M5 := Lib.hid (m5.set (L := L) (i := 5) (v := .map (some b5)) (by omega))
  clear hb2 g2 m5 M4' d1 d4 f4 G1
  go_wp2_with fail
  refine (firsts_rl g.ra g.rc g.rs _ (HI.out.rs.below (Nat.le_refl _) G2.out.bel) h3 (fun p hp => ⟨(HZ.out.rl p hp).1, (HZ.out.rl p hp).2.1, (HZ.out.rl p hp).2.2.1⟩)).mono ?_
  rintro e w3 ⟨b6, rfl, m6, hb3, hl6⟩
  have g3 := G2.out.next hb3
  have s3 := hb3.size
  rw [size_set] at s3 hl6
  have M4' := Lib.hid (M4.out.below (Nat.le_refl _) hb3)
  have M5' := Lib.hid (M5.out.below (Nat.le_refl _) hb3)
  have d3 := cell_blk (i := 3) g3.blk rfl
  have d6 := cell_blk (i := 6) g3.blk rfl
  have f6 := frozen_blk (i := 6) g3.blk
  have G3 := Lib.hid (g3.set (i := 6) hL0 (.map (some b6)) (a' := .map (some b4)) (b' := .map (some b5)) (c' := .map (some b6)) (d' := .map none) rfl)
  have M4 := Lib.hid (M4'.out.set (L := L) (i := 6) (v := .map (some b6)) (by omega))
  have M5 := Lib.hid (M5'.out.set (L := L) (i := 6) (v := .map (some b6)) (by omega))
  have M6 := Lib.hid (m6.set (L := L) (i := 6) (v := .map (some b6)) (by omega))
  clear hb3 g3 m6 M4' M5' d2 d5 f5 G2
  go_wp2_with fail
  refine (firsts_us g.ua g.uc g.us _ (HI.out.us.below (Nat.le_refl _) G3.out.bel) h4 (fun p hp => (HZ.out.ur p hp).1)).mono ?_
  rintro e w4 ⟨b7, rfl, m7, hb4, hl7⟩
  have g4 := G3.out.next hb4
  have s4 := hb4.size
  rw [size_set] at s4 hl7
  have M4' := Lib.hid (M4.out.below (Nat.le_refl _) hb4)
  have M5' := Lib.hid (M5.out.below (Nat.le_refl _) hb4)
  have M6' := Lib.hid (M6.out.below (Nat.le_refl _) hb4)
  have d7 := cell_blk (i := 7) g4.blk rfl
  have f7 := frozen_blk (i := 7) g4.blk
  have G4 := Lib.hid (g4.set (i := 7) hL0 (.map (some b7)) (a' := .map (some b4)) (b' := .map (some b5)) (c' := .map (some b6)) (d' := .map (some b7)) rfl)
  have M4 := Lib.hid (M4'.out.set (L := L) (i := 7) (v := .map (some b7)) (by omega))
  have M5 := Lib.hid (M5'.out.set (L := L) (i := 7) (v := .map (some b7)) (by omega))
  have M6 := Lib.hid (M6'.out.set (L := L) (i := 7) (v := .map (some b7)) (by omega))
  have M7 := Lib.hid (m7.set (L := L) (i := 7) (v := .map (some b7)) (by omega))
  clear hb4 g4 m7 M4' M5' M6' d3 d6 f6 G3
  go_wp2_with fail
  go_end0
  have gb := G4.out.blk
  exact ⟨⟨_, rfl⟩, b4, b5, b6, b7, ⟨cell_blk gb rfl, cell_blk gb rfl, cell_blk gb rfl, cell_blk gb rfl, cell_blk gb rfl, cell_blk gb rfl, cell_blk gb rfl, cell_blk gb rfl, M4.out, M5.out, M6.out, M7.out, HI.out.below (Nat.le_refl _) G4.out.bel⟩, G4.out, by omega, by omega, by omega, by omega⟩
end Go.Proofs.YtigbceankmfaeaaGreatDoor

namespace Go.Proofs.YtigbceankmfaeaaGreatDoor
open Go.RowKit Go.Shelf
section
variable {L : Nat} {g : Gr} {bg be br bu : Nat}
set_option maxRecDepth 100000 in
set_option maxHeartbeats 4000000 in
theorem event_any (w : World) (h : LkIn w L g bg be br bu) (hz : SzG g) (i : Nat) (hi : i < g.es.length) :
    Calls Tryz.prog 44 #[.pointer (some ⟨L, 0, none⟩), .int .i64 i] w fun e w' => e = .returned (.int .i64 (eventE g i)) ∧ Below w.heap.size w w' := by
  have hgl := hz.es
  have c1 := h.c1
  have c4 := h.c4
  have c5 := h.c5
  have hL := h.lt
  obtain ⟨b, off, hA, hb, hc⟩ := h.ing.es.at_ (k := 6) (fun _ => rfl) (by omega) hi
  obtain ⟨hsn, hsg, hsr, _⟩ := hz.ev _ (mem_at hi)
  have k0 := hc 0 _ rfl
  rw [Nat.add_zero] at k0
  have k1 := hc 1 _ rfl
  have k2 := hc 2 _ rfl
  have k3 := hc 3 _ rfl
  have k4 := hc 4 _ rfl
  have k5 := hc 5 _ rfl
  have HE : Hid (eventE g i = if nameK g.es[i]!.name.toList && nameK g.es[i]!.role.toList && (g.es[i]!.group.toList == [] || nameK g.es[i]!.group.toList) then
    if hasB (gns g) g.es[i]!.name.toList || aheadB (ens g) g.es[i]!.name.toList i then 6
    else if g.es[i]!.group.toList == [] || hasB (gns g) g.es[i]!.group.toList then
      if g.es[i]!.due < -1 then 3 else if 1048576 < g.es[i]!.due then 3 else 0
    else 10
    else 5) := Lib.hid rfl
  have hat := has_at Ev.name hi
  have hbw : Below w.heap.size w (w.alloc (.cells #[.string g.es[i]!.name, .string g.es[i]!.group, .string g.es[i]!.role, .bool g.es[i]!.inn, .bool g.es[i]!.done, .int .i64 g.es[i]!.due] 46)) := (Below.refl _ _).alloc (Nat.le_refl _) _
  obtain ⟨q, hlk, hq, _⟩ := look_nm Ev.name g.es hsn
  have hl := fun n => (hlk _ _ (h.below (below_draws hbw n)).em).2
  have hq' := (hq hat).1
  have HA : Hid (decide (q < i) = aheadB (ens g) g.es[i]!.name.toList i) := Lib.hid (by rw [hq']; rfl)
  have H := Lib.hid h
  rw [hA] at c1
  clear h hc hA hq hq' hat hlk
  generalize g.es[i]! = v at *
  generalize ens g = ns at *
  have CG := fun n => Lib.hid (isGroup_any _ (H.out.below (below_draws hbw n)) v.name hsn)
  have CG2 := fun n => Lib.hid (isGroup_any _ (H.out.below (below_draws hbw n)) v.group hsg)
  cases hn1 : nameK v.name.toList with
  | false =>
    go_enter Tryz.func44, Tryz.ntmps44
    go_wp2_with (go_at_call 84; refine (isName_any _ _ (by assumption)).mono ?_; rintro e w' ⟨rfl, rfl⟩)
    go_ret
    exact ⟨ret_i64 (by rw [HE.out, hn1]; rfl), hbw⟩
  | true =>
    cases hn2 : nameK v.role.toList with
    | false =>
      go_enter Tryz.func44, Tryz.ntmps44
      go_wp2_with (go_at_call 84; refine (isName_any _ _ (by assumption)).mono ?_; rintro e w' ⟨rfl, rfl⟩)
      go_ret
      exact ⟨ret_i64 (by rw [HE.out, hn1, hn2]; rfl), hbw⟩
    | true =>
      cases hg0 : (v.group.toList == []) with
      | true =>
        cases hg1 : hasB (gns g) v.name.toList with
        | true =>
          rw [hg1] at CG
          go_enter Tryz.func44, Tryz.ntmps44
          go_wp2_with (go_at_call 84; refine (isName_any _ _ (by assumption)).mono ?_; rintro e w' ⟨rfl, rfl⟩)
          go_quiet ((go_at_call 86; exact quiet_left (CG _).out))
          go_wp2_with fail
          go_ret
          exact ⟨ret_i64 (by rw [HE.out, hn1, hn2, hg0, hg1]; rfl), below_draws hbw _⟩
        | false =>
          rw [hg1] at CG
          by_cases hqi : q < i
          · have hd : decide (q < i) = true := by simpa using hqi
            rw [hd] at HA
            go_enter Tryz.func44, Tryz.ntmps44
            go_wp2_with (go_at_call 84; refine (isName_any _ _ (by assumption)).mono ?_; rintro e w' ⟨rfl, rfl⟩)
            go_quiet ((go_at_call 86; exact quiet_left (CG _).out))
            go_wp2_with fail
            go_ret
            exact ⟨ret_i64 (by rw [HE.out, hn1, hn2, hg0, hg1, ← HA.out]; rfl), below_draws hbw _⟩
          · have hd : decide (q < i) = false := by simpa using hqi
            rw [hd] at HA
            by_cases d1 : v.due < -1
            · go_enter Tryz.func44, Tryz.ntmps44
              go_wp2_with (go_at_call 84; refine (isName_any _ _ (by assumption)).mono ?_; rintro e w' ⟨rfl, rfl⟩)
              go_quiet ((go_at_call 86; exact quiet_left (CG _).out))
              go_wp2_with (go_at_call 86; refine (CG2 _).out.mono ?_; rintro e w' ⟨rfl, rfl⟩)
              go_ret
              exact ⟨ret_i64 (by rw [HE.out, hn1, hn2, hg0, hg1, ← HA.out, if_pos (by omega : v.due < -1)]; rfl), below_draws hbw _⟩
            · by_cases d2 : 1048576 < v.due
              · go_enter Tryz.func44, Tryz.ntmps44
                go_wp2_with (go_at_call 84; refine (isName_any _ _ (by assumption)).mono ?_; rintro e w' ⟨rfl, rfl⟩)
                go_quiet ((go_at_call 86; exact quiet_left (CG _).out))
                go_wp2_with (go_at_call 86; refine (CG2 _).out.mono ?_; rintro e w' ⟨rfl, rfl⟩)
                go_ret
                exact ⟨ret_i64 (by rw [HE.out, hn1, hn2, hg0, hg1, ← HA.out, if_neg (by omega : ¬ v.due < -1), if_pos (by omega : 1048576 < v.due)]; rfl), below_draws hbw _⟩
              · go_enter Tryz.func44, Tryz.ntmps44
                go_wp2_with (go_at_call 84; refine (isName_any _ _ (by assumption)).mono ?_; rintro e w' ⟨rfl, rfl⟩)
                go_quiet ((go_at_call 86; exact quiet_left (CG _).out))
                go_wp2_with (go_at_call 86; refine (CG2 _).out.mono ?_; rintro e w' ⟨rfl, rfl⟩)
                go_ret
                exact ⟨ret_i64 (by rw [HE.out, hn1, hn2, hg0, hg1, ← HA.out, if_neg (by omega : ¬ v.due < -1), if_neg (by omega : ¬ 1048576 < v.due)]; rfl), below_draws hbw _⟩
      | false =>
        cases hn3 : nameK v.group.toList with
        | false =>
          go_enter Tryz.func44, Tryz.ntmps44
          go_wp2_with (go_at_call 84; refine (isName_any _ _ (by assumption)).mono ?_; rintro e w' ⟨rfl, rfl⟩)
          go_ret
          exact ⟨ret_i64 (by rw [HE.out, hn1, hn2, hg0, hn3]; rfl), hbw⟩
        | true =>
          cases hg1 : hasB (gns g) v.name.toList with
          | true =>
            rw [hg1] at CG
            go_enter Tryz.func44, Tryz.ntmps44
            go_wp2_with (go_at_call 84; refine (isName_any _ _ (by assumption)).mono ?_; rintro e w' ⟨rfl, rfl⟩)
            go_quiet ((go_at_call 86; exact quiet_left (CG _).out))
            go_wp2_with fail
            go_ret
            exact ⟨ret_i64 (by rw [HE.out, hn1, hn2, hg0, hn3, hg1]; rfl), below_draws hbw _⟩
          | false =>
            rw [hg1] at CG
            by_cases hqi : q < i
            · have hd : decide (q < i) = true := by simpa using hqi
              rw [hd] at HA
              go_enter Tryz.func44, Tryz.ntmps44
              go_wp2_with (go_at_call 84; refine (isName_any _ _ (by assumption)).mono ?_; rintro e w' ⟨rfl, rfl⟩)
              go_quiet ((go_at_call 86; exact quiet_left (CG _).out))
              go_wp2_with fail
              go_ret
              exact ⟨ret_i64 (by rw [HE.out, hn1, hn2, hg0, hn3, hg1, ← HA.out]; rfl), below_draws hbw _⟩
            · have hd : decide (q < i) = false := by simpa using hqi
              rw [hd] at HA
              cases hg2 : hasB (gns g) v.group.toList with
              | false =>
                rw [hg2] at CG2
                go_enter Tryz.func44, Tryz.ntmps44
                go_wp2_with (go_at_call 84; refine (isName_any _ _ (by assumption)).mono ?_; rintro e w' ⟨rfl, rfl⟩)
                go_quiet ((go_at_call 86; exact quiet_left (CG _).out))
                go_wp2_with (go_at_call 86; refine (CG2 _).out.mono ?_; rintro e w' ⟨rfl, rfl⟩)
                go_ret
                exact ⟨ret_i64 (by rw [HE.out, hn1, hn2, hg0, hn3, hg1, ← HA.out, hg2]; rfl), below_draws hbw _⟩
              | true =>
                rw [hg2] at CG2
                by_cases d1 : v.due < -1
                · go_enter Tryz.func44, Tryz.ntmps44
                  go_wp2_with (go_at_call 84; refine (isName_any _ _ (by assumption)).mono ?_; rintro e w' ⟨rfl, rfl⟩)
                  go_quiet ((go_at_call 86; exact quiet_left (CG _).out))
                  go_wp2_with (go_at_call 86; refine (CG2 _).out.mono ?_; rintro e w' ⟨rfl, rfl⟩)
                  go_ret
                  exact ⟨ret_i64 (by rw [HE.out, hn1, hn2, hg0, hn3, hg1, ← HA.out, hg2, if_pos (by omega : v.due < -1)]; rfl), below_draws hbw _⟩
                · by_cases d2 : 1048576 < v.due
                  · go_enter Tryz.func44, Tryz.ntmps44
                    go_wp2_with (go_at_call 84; refine (isName_any _ _ (by assumption)).mono ?_; rintro e w' ⟨rfl, rfl⟩)
                    go_quiet ((go_at_call 86; exact quiet_left (CG _).out))
                    go_wp2_with (go_at_call 86; refine (CG2 _).out.mono ?_; rintro e w' ⟨rfl, rfl⟩)
                    go_ret
                    exact ⟨ret_i64 (by rw [HE.out, hn1, hn2, hg0, hn3, hg1, ← HA.out, hg2, if_neg (by omega : ¬ v.due < -1), if_pos (by omega : 1048576 < v.due)]; rfl), below_draws hbw _⟩
                  · go_enter Tryz.func44, Tryz.ntmps44
                    go_wp2_with (go_at_call 84; refine (isName_any _ _ (by assumption)).mono ?_; rintro e w' ⟨rfl, rfl⟩)
                    go_quiet ((go_at_call 86; exact quiet_left (CG _).out))
                    go_wp2_with (go_at_call 86; refine (CG2 _).out.mono ?_; rintro e w' ⟨rfl, rfl⟩)
                    go_ret
                    exact ⟨ret_i64 (by rw [HE.out, hn1, hn2, hg0, hn3, hg1, ← HA.out, hg2, if_neg (by omega : ¬ v.due < -1), if_neg (by omega : ¬ 1048576 < v.due)]; rfl), below_draws hbw _⟩
end
end Go.Proofs.YtigbceankmfaeaaGreatDoor

namespace Go.Proofs.YtigbceankmfaeaaGreatDoor
open Go.RowKit Go.Shelf
theorem first_rl {l : List Rl} (hl : ∀ x ∈ l, OkR x) {r : Rl} (hr : OkR r) : firstOf (l.map fun p => rlit (rkey p)) (rlit (rkey r)) = if hasB (l.map rkey) (rkey r) then some ((l.map rkey).idxOf (rkey r)) else none := by
  have h := firstOf_map rlit (rkey r) (l.map rkey) (fun x hx e => by
    obtain ⟨y, hy, rfl⟩ := List.mem_map.1 hx
    have e1 := keyR (hl y hy)
    rw [e] at e1
    have e2 := lawR.inj e1 (keyR hr)
    simp only [Value.agg.injEq, Array.mk.injEq, List.cons.injEq, Value.int.injEq, Value.string.injEq, true_and, and_true] at e2
    unfold rkey
    rw [e2.1, e2.2.1, e2.2.2])
  rw [List.map_map] at h
  exact h
theorem look_rl {l : List Rl} (hl : ∀ x ∈ l, OkR x) {r : Rl} (hr : OkR r) (hm : hasB (l.map rkey) (rkey r) = true) (b : Nat) (w : World) (h : MapFn w Tryz.prog 48 3 b l.length (firstOf (l.map fun p => rlit (rkey p)))) :
    (Instr.lookup 106 (.map (some b)) (.agg #[.int .i64 r.kind, .string r.src, .string r.dst, .int .i64 0]) false).run Tryz.prog w = .ok (.int .i64 (((l.map rkey).idxOf (rkey r) : Nat) : Int)) w := by
  have h2 := h.look lawR Tryz.underlying106 Tryz.underlying3 (Tryz.zeroValue3 w) (keyR hr)
  rw [first_rl hl hr, hm] at h2
  exact h2
set_option maxHeartbeats 400000 in
theorem timeless_any (v : Rl) (w : World) : Calls Tryz.prog 81 #[.agg #[.int .i64 v.kind, .string v.src, .string v.dst, .int .i64 v.time]] w fun e w' => e = .returned (.agg #[.int .i64 v.kind, .string v.src, .string v.dst, .int .i64 0]) ∧ w' = (w.alloc (.cells #[.int .i64 v.kind, .string v.src, .string v.dst, .int .i64 0] 48)).alloc (.cells #[.int .i64 v.kind, .string v.src, .string v.dst, .int .i64 0] 48) := by
  go_enter Tryz.func81, Tryz.ntmps81
  go_wp2
  exact bodyPost_ret (v := .agg #[.int .i64 v.kind, .string v.src, .string v.dst, .int .i64 0]) (by simp [results, Tryz.results81, go_sem]) rfl ⟨rfl, rfl⟩
section
variable {L : Nat} {g : Gr} {bg be br bu : Nat}
set_option maxRecDepth 100000 in
set_option maxHeartbeats 4000000 in
theorem relation_any (w : World) (h : LkIn w L g bg be br bu) (hz : SzG g) (i : Nat) (hi : i < g.rs.length) :
    Calls Tryz.prog 45 #[.pointer (some ⟨L, 0, none⟩), .int .i64 i] w fun e w' => e = .returned (.int .i64 (relE g i)) ∧ Below w.heap.size w w' := by
  have hgl := hz.rs
  have c2 := h.c2
  have c6 := h.c6
  have hL := h.lt
  obtain ⟨b, off, hA, hb, hc⟩ := h.ing.rs.at_ (k := 4) (fun _ => rfl) (by omega) hi
  obtain ⟨hss, hsd, hwk, _⟩ := hz.rl _ (mem_at hi)
  have hok : OkR g.rs[i]! := ⟨hss, hsd, hwk⟩
  have hall : ∀ x ∈ g.rs, OkR x := fun x hx => by obtain ⟨a1, a2, a3, _⟩ := hz.rl x hx; exact ⟨a1, a2, a3⟩
  have k0 := hc 0 _ rfl
  rw [Nat.add_zero] at k0
  have k1 := hc 1 _ rfl
  have k2 := hc 2 _ rfl
  have k3 := hc 3 _ rfl
  have HE : Hid (relE g i = if g.rs[i]!.kind < 1 then 1 else if 5 < g.rs[i]!.kind then 1
    else if thereB g g.rs[i]!.src.toList && thereB g g.rs[i]!.dst.toList then
      if g.rs[i]!.time < 0 then 3 else if longL g.rs[i]!.kind < g.rs[i]!.time then 3
      else if aheadB (rks g) (rkey g.rs[i]!) i then 6 else 0
    else 10) := Lib.hid rfl
  have hat : hasB (g.rs.map rkey) (rkey g.rs[i]!) = true := by
    simp only [hasB, List.contains_iff_mem, List.mem_map]
    exact ⟨_, mem_at hi, rfl⟩
  have hbw : Below w.heap.size w (w.alloc (.cells #[.int .i64 g.rs[i]!.kind, .string g.rs[i]!.src, .string g.rs[i]!.dst, .int .i64 g.rs[i]!.time] 48)) := (Below.refl _ _).alloc (Nat.le_refl _) _
  have hlk := look_rl hall hok hat br
  obtain ⟨q, hq⟩ : ∃ q, q = (g.rs.map rkey).idxOf (rkey g.rs[i]!) := ⟨_, rfl⟩
  rw [← hq] at hlk
  have HA : Hid (decide (q < i) = aheadB (rks g) (rkey g.rs[i]!) i) := Lib.hid (by rw [hq]; rfl)
  have hql : q < g.rs.length := by
    rw [hq]
    have := List.idxOf_lt_length_iff.2 (List.contains_iff_mem.1 hat)
    simpa using this
  have HLK := Lib.hid hlk
  have H := Lib.hid h
  rw [hA] at c2
  clear h hc hA hq hat hlk hok hall
  generalize g.rs[i]! = v at *
  have C1 := fun n => Lib.hid (isThere_any _ (H.out.below (below_draws hbw n)) v.src hss)
  have C2 := fun n => Lib.hid (isThere_any _ (H.out.below (below_draws hbw n)) v.dst hsd)
  have C1' := Lib.hid (isThere_any _ (H.out.below hbw) v.src hss)
  have C2' := Lib.hid (isThere_any _ (H.out.below hbw) v.dst hsd)
  have CL := fun n => Lib.hid (longest_any v.kind ((w.alloc (.cells #[.int .i64 v.kind, .string v.src, .string v.dst, .int .i64 v.time] 48)).drewN n))
  clear C1 C2
  by_cases d1 : v.kind < 1
  · go_enter Tryz.func45, Tryz.ntmps45
    go_wp2_with (first | (go_at_call_of 87 v.src; refine C1'.out.mono ?_; rintro e w' ⟨rfl, rfl⟩) | (go_at_call_of 87 v.dst; refine C2'.out.mono ?_; rintro e w' ⟨rfl, rfl⟩))
    go_ret
    exact ⟨ret_i64 (by rw [HE.out, if_pos (by omega)]; rfl), hbw⟩
  · by_cases d2 : 5 < v.kind
    · go_enter Tryz.func45, Tryz.ntmps45
      go_wp2_with (first | (go_at_call_of 87 v.src; refine C1'.out.mono ?_; rintro e w' ⟨rfl, rfl⟩) | (go_at_call_of 87 v.dst; refine C2'.out.mono ?_; rintro e w' ⟨rfl, rfl⟩))
      go_ret
      exact ⟨ret_i64 (by rw [HE.out, if_neg (by omega : ¬ v.kind < 1), if_pos (by omega)]; rfl), hbw⟩
    · cases t1 : thereB g v.src.toList with
      | false =>
        rw [t1] at C1'
        go_enter Tryz.func45, Tryz.ntmps45
        go_wp2_with (first | (go_at_call_of 87 v.src; refine C1'.out.mono ?_; rintro e w' ⟨rfl, rfl⟩) | (go_at_call_of 87 v.dst; refine C2'.out.mono ?_; rintro e w' ⟨rfl, rfl⟩))
        go_ret
        exact ⟨ret_i64 (by rw [HE.out, if_neg (by omega : ¬ v.kind < 1), if_neg (by omega : ¬ 5 < v.kind), t1]; rfl), hbw⟩
      | true =>
        rw [t1] at C1'
        cases t2 : thereB g v.dst.toList with
        | false =>
          rw [t2] at C2'
          go_enter Tryz.func45, Tryz.ntmps45
          go_wp2_with (first | (go_at_call_of 87 v.src; refine C1'.out.mono ?_; rintro e w' ⟨rfl, rfl⟩) | (go_at_call_of 87 v.dst; refine C2'.out.mono ?_; rintro e w' ⟨rfl, rfl⟩))
          go_ret
          exact ⟨ret_i64 (by rw [HE.out, if_neg (by omega : ¬ v.kind < 1), if_neg (by omega : ¬ 5 < v.kind), t1, t2]; rfl), hbw⟩
        | true =>
          rw [t2] at C2'
          by_cases d3 : v.time < 0
          · have d3' : decide (v.time < 0) = true := by simpa using d3
            go_enter Tryz.func45, Tryz.ntmps45
            go_wp2_with (first | (go_at_call_of 87 v.src; refine C1'.out.mono ?_; rintro e w' ⟨rfl, rfl⟩) | (go_at_call_of 87 v.dst; refine C2'.out.mono ?_; rintro e w' ⟨rfl, rfl⟩))
            go_quiet (fail)
            go_wp2_with fail
            go_ret
            exact ⟨ret_i64 (by rw [HE.out, if_neg (by omega : ¬ v.kind < 1), if_neg (by omega : ¬ 5 < v.kind), t1, t2, if_pos (by rfl), if_pos (by omega)]; rfl), below_draws hbw _⟩
          · have d3' : decide (v.time < 0) = false := by simpa using d3
            by_cases d4 : longL v.kind < v.time
            · go_enter Tryz.func45, Tryz.ntmps45
              go_wp2_with (first | (go_at_call_of 87 v.src; refine C1'.out.mono ?_; rintro e w' ⟨rfl, rfl⟩) | (go_at_call_of 87 v.dst; refine C2'.out.mono ?_; rintro e w' ⟨rfl, rfl⟩))
              go_quiet ((go_at_call 88; exact quiet_left (CL _).out))
              go_wp2_with fail
              go_ret
              exact ⟨ret_i64 (by rw [HE.out, if_neg (by omega : ¬ v.kind < 1), if_neg (by omega : ¬ 5 < v.kind), t1, t2, if_pos (by rfl), if_neg (by omega : ¬ v.time < 0), if_pos (by omega)]; rfl), below_draws hbw _⟩
            · have d4' : decide (longL v.kind < v.time) = false := by simpa using d4
              by_cases hqi : q < i
              · have hd : decide (q < i) = true := by simpa using hqi
                rw [hd] at HA
                have hmx : Tryz.prog.follows .mixedOrders = true := by kernel_rfl
                have hbV : ∀ n, Below w.heap.size w ((((w.alloc (.cells #[.int .i64 v.kind, .string v.src, .string v.dst, .int .i64 v.time] 48)).drewN n).alloc (.cells #[.int .i64 v.kind, .string v.src, .string v.dst, .int .i64 0] 48)).alloc (.cells #[.int .i64 v.kind, .string v.src, .string v.dst, .int .i64 0] 48)) := fun n => ((below_draws hbw n).alloc hbw.size _).alloc (by rw [World.size_alloc]; exact Nat.le_succ_of_le hbw.size) _
                have l1 : ∀ n, (Instr.lookup 106 (.map (some br)) (.agg #[.int .i64 v.kind, .string v.src, .string v.dst, .int .i64 0]) false).run Tryz.prog ((((w.alloc (.cells #[.int .i64 v.kind, .string v.src, .string v.dst, .int .i64 v.time] 48)).drewN n).alloc (.cells #[.int .i64 v.kind, .string v.src, .string v.dst, .int .i64 0] 48)).alloc (.cells #[.int .i64 v.kind, .string v.src, .string v.dst, .int .i64 0] 48)) = .ok (.int .i64 (q : Int)) ((((w.alloc (.cells #[.int .i64 v.kind, .string v.src, .string v.dst, .int .i64 v.time] 48)).drewN n).alloc (.cells #[.int .i64 v.kind, .string v.src, .string v.dst, .int .i64 0] 48)).alloc (.cells #[.int .i64 v.kind, .string v.src, .string v.dst, .int .i64 0] 48)) := fun n => HLK.out _ (H.out.below (hbV n)).rm
                have c6V : ∀ n, ((((w.alloc (.cells #[.int .i64 v.kind, .string v.src, .string v.dst, .int .i64 v.time] 48)).drewN n).alloc (.cells #[.int .i64 v.kind, .string v.src, .string v.dst, .int .i64 0] 48)).alloc (.cells #[.int .i64 v.kind, .string v.src, .string v.dst, .int .i64 0] 48)).cell? ⟨L, 6, none⟩ = some (.map (some br)) := fun n => (H.out.below (hbV n)).c6
                have HBV := Lib.hid hbV
                clear hbV
                go_enter Tryz.func45, Tryz.ntmps45
                go_wp2_with (first | (go_at_call_of 87 v.src; refine C1'.out.mono ?_; rintro e w' ⟨rfl, rfl⟩) | (go_at_call_of 87 v.dst; refine C2'.out.mono ?_; rintro e w' ⟨rfl, rfl⟩))
                go_quiet ((go_at_call 88; exact quiet_left (CL _).out))
                go_wp2_with fail
                go_region_with (go_at_call 81; refine (timeless_any v _).mono ?_; rintro e w' ⟨rfl, rfl⟩)
                all_goals go_wp2_with fail
                all_goals go_ret
                all_goals exact ⟨ret_i64 (by rw [HE.out, if_neg (by omega : ¬ v.kind < 1), if_neg (by omega : ¬ 5 < v.kind), t1, t2, if_pos (by rfl), if_neg (by omega : ¬ v.time < 0), if_neg (by omega : ¬ longL v.kind < v.time), ← HA.out]; rfl), HBV.out _⟩
              · have hd : decide (q < i) = false := by simpa using hqi
                rw [hd] at HA
                have hmx : Tryz.prog.follows .mixedOrders = true := by kernel_rfl
                have hbV : ∀ n, Below w.heap.size w ((((w.alloc (.cells #[.int .i64 v.kind, .string v.src, .string v.dst, .int .i64 v.time] 48)).drewN n).alloc (.cells #[.int .i64 v.kind, .string v.src, .string v.dst, .int .i64 0] 48)).alloc (.cells #[.int .i64 v.kind, .string v.src, .string v.dst, .int .i64 0] 48)) := fun n => ((below_draws hbw n).alloc hbw.size _).alloc (by rw [World.size_alloc]; exact Nat.le_succ_of_le hbw.size) _
                have l1 : ∀ n, (Instr.lookup 106 (.map (some br)) (.agg #[.int .i64 v.kind, .string v.src, .string v.dst, .int .i64 0]) false).run Tryz.prog ((((w.alloc (.cells #[.int .i64 v.kind, .string v.src, .string v.dst, .int .i64 v.time] 48)).drewN n).alloc (.cells #[.int .i64 v.kind, .string v.src, .string v.dst, .int .i64 0] 48)).alloc (.cells #[.int .i64 v.kind, .string v.src, .string v.dst, .int .i64 0] 48)) = .ok (.int .i64 (q : Int)) ((((w.alloc (.cells #[.int .i64 v.kind, .string v.src, .string v.dst, .int .i64 v.time] 48)).drewN n).alloc (.cells #[.int .i64 v.kind, .string v.src, .string v.dst, .int .i64 0] 48)).alloc (.cells #[.int .i64 v.kind, .string v.src, .string v.dst, .int .i64 0] 48)) := fun n => HLK.out _ (H.out.below (hbV n)).rm
                have c6V : ∀ n, ((((w.alloc (.cells #[.int .i64 v.kind, .string v.src, .string v.dst, .int .i64 v.time] 48)).drewN n).alloc (.cells #[.int .i64 v.kind, .string v.src, .string v.dst, .int .i64 0] 48)).alloc (.cells #[.int .i64 v.kind, .string v.src, .string v.dst, .int .i64 0] 48)).cell? ⟨L, 6, none⟩ = some (.map (some br)) := fun n => (H.out.below (hbV n)).c6
                have HBV := Lib.hid hbV
                clear hbV
                go_enter Tryz.func45, Tryz.ntmps45
                go_wp2_with (first | (go_at_call_of 87 v.src; refine C1'.out.mono ?_; rintro e w' ⟨rfl, rfl⟩) | (go_at_call_of 87 v.dst; refine C2'.out.mono ?_; rintro e w' ⟨rfl, rfl⟩))
                go_quiet ((go_at_call 88; exact quiet_left (CL _).out))
                go_wp2_with fail
                go_region_with (go_at_call 81; refine (timeless_any v _).mono ?_; rintro e w' ⟨rfl, rfl⟩)
                all_goals go_wp2_with fail
                all_goals go_ret
                all_goals exact ⟨ret_i64 (by rw [HE.out, if_neg (by omega : ¬ v.kind < 1), if_neg (by omega : ¬ 5 < v.kind), t1, t2, if_pos (by rfl), if_neg (by omega : ¬ v.time < 0), if_neg (by omega : ¬ longL v.kind < v.time), ← HA.out]; rfl), HBV.out _⟩
end
end Go.Proofs.YtigbceankmfaeaaGreatDoor
