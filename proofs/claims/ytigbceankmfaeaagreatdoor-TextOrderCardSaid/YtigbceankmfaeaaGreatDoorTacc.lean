/-
  Contract of graph.Check: the first thing wrong with any graph, as the plain model tells it. Plain facts for Parse: where statements begin, the first wrong one, the beginnings of each part.
-/
import Derived.Test.YtigbceankmfaeaaGreatDoorTaca
import Derived.Test.YtigbceankmfaeaaGreatDoorTacb
import Derived.RegionTactic
import Derived.ChangeAlike
import Derived.Test.YtigbceankmfaeaaGreatDoorTabe
import Derived.Test.YtigbceankmfaeaaGreatDoorTabf
namespace Go.Proofs.YtigbceankmfaeaaGreatDoor
open Go.RowKit Go.Shelf
theorem Kx.below {Be Bp n : Nat} {w w' : World} (h : Kx Be Bp w w') (h1 : n ≤ Be) (h2 : n ≤ Bp) (h3 : n ≤ w.heap.size) : Below n w w' :=
  ⟨h.os, h.tape, h.output, h.size, fun k hk => h.block k (by omega) (by omega) (by omega)⟩
/-- The variables of Check. -/
structure CS (w W : World) (g : Gr) (s : St) : Prop where
  box : W.heap[w.heap.size]? = some (.cells #[.slice g.ga g.gs.length g.gc, .slice g.ea g.es.length g.ec, .slice g.ra g.rs.length g.rc, .slice g.ua g.us.length g.uc] 27 (0, 0))
  res : W.heap[w.heap.size + 1]? = some (.cells #[.int .i64 0, .int .i64 0] 53 (0, 0))
  ts : TS (w.heap.size + 3) (w.heap.size + 2) W s
  bel : Below w.heap.size w W
  big : w.heap.size + 5 ≤ W.heap.size
theorem CS.kx {w W W' : World} {g : Gr} {s s' : St} (h : CS w W g s) (hk : Kx (w.heap.size + 3) (w.heap.size + 2) W W') (ht : TS (w.heap.size + 3) (w.heap.size + 2) W' s') : CS w W' g s' := by
  have hb := h.big
  exact ⟨(hk.block _ (by omega) (by omega) (by omega)).trans h.box, (hk.block _ (by omega) (by omega) (by omega)).trans h.res, ht, h.bel.trans (hk.below (by omega) (by omega) (by omega)), Nat.le_trans hb hk.size⟩
theorem CS.gs {w W W' : World} {g : Gr} {s : St} {a b c d : Value} (h : CS w W g s) (hg : GS w W W' (w.heap.size + 4) g a b c d) : CS w W' g s := by
  have hb := h.big
  exact ⟨(hg.kept _ (by omega) (by omega)).trans h.box, (hg.kept _ (by omega) (by omega)).trans h.res, ⟨(hg.kept _ (by omega) (by omega)).trans h.ts.e, (hg.kept _ (by omega) (by omega)).trans h.ts.p⟩, hg.bel, Nat.le_trans hb hg.size⟩
theorem LkIn.kx {w w' : World} {L : Nat} {g : Gr} {bg be br bu Be Bp : Nat} (h : LkIn w L g bg be br bu) (hk : Kx Be Bp w w') (hI : InG w' g) (h1 : Be < L) (h2 : Bp < L) (hm : L < bg ∧ L < be ∧ L < br ∧ L < bu) : LkIn w' L g bg be br bu := by
  have hL := h.lt
  have hc : ∀ i : Nat, w'.cell? ⟨L, i, none⟩ = w.cell? ⟨L, i, none⟩ := fun i => World.cell?_of_block (w := w) (a := ⟨L, i, none⟩) (hk.block L hL (by omega) (by omega))
  have l1 := h.gm.lt
  have l2 := h.em.lt
  have l3 := h.rm.lt
  have l4 := h.um.lt
  exact ⟨(hc 0).trans h.c0, (hc 1).trans h.c1, (hc 2).trans h.c2, (hc 3).trans h.c3, (hc 4).trans h.c4, (hc 5).trans h.c5, (hc 6).trans h.c6, (hc 7).trans h.c7,
    h.gm.block (hk.block _ l1 (by omega) (by omega)), h.em.block (hk.block _ l2 (by omega) (by omega)), h.rm.block (hk.block _ l3 (by omega) (by omega)), h.um.block (hk.block _ l4 (by omega) (by omega)), hI⟩
theorem tell_go (w : World) (Be Bp L fl part n : Nat) (f : Nat → Nat) (s : St) (hne : Be ≠ Bp) (hs : TS Be Bp w s) (hn : n ≤ 140737488351232) (eg : ∀ args w, (callFunc fl args).run Tryz.prog w = .ok (.enter fl args) w)
    (hcall : ∀ (W : World) (i : Nat), s.2.2 = 0 → Kx Be Bp w W → i < n → Calls Tryz.prog fl #[.pointer (some ⟨L, 0, none⟩), .int .i64 i] W fun e W' => e = .returned (.int .i64 (f i)) ∧ Below W.heap.size W W')
    {pi ni : Int} {be bp l : Nat} (hp : pi = (part : Int)) (hni : ni = (n : Int)) (h1 : be = Be) (h2 : bp = Bp) (h3 : l = L) :
    Calls Tryz.prog 40 #[.int .i64 pi, .int .i64 ni, .func (.func fl) #[.pointer (some ⟨l, 0, none⟩)] #[], .pointer (some ⟨be, 0, none⟩), .pointer (some ⟨bp, 0, none⟩)] w fun e w' =>
      (∃ v, e = .returned v) ∧ TS Be Bp w' (tellS s part f n) ∧ Kx Be Bp w w' := by
  subst hp hni h1 h2 h3
  exact tell_any w be bp l fl part n f s hne hs hn eg hcall
theorem CS.cells {w W : World} {g : Gr} {s : St} (h : CS w W g s) :
    (W.cell? ⟨w.heap.size, 0, none⟩ = some (.slice g.ga g.gs.length g.gc) ∧ W.cell? ⟨w.heap.size, 1, none⟩ = some (.slice g.ea g.es.length g.ec) ∧ W.cell? ⟨w.heap.size, 2, none⟩ = some (.slice g.ra g.rs.length g.rc) ∧ W.cell? ⟨w.heap.size, 3, none⟩ = some (.slice g.ua g.us.length g.uc)) ∧
    W.cell? ⟨w.heap.size + 1 + 1 + 1, 0, none⟩ = some (.int .i64 (s.2.2 : Int)) ∧ (W.cell? ⟨w.heap.size + 1 + 1, 0, none⟩ = some (.int .i64 (s.1 : Int)) ∧ W.cell? ⟨w.heap.size + 1 + 1, 1, none⟩ = some (.int .i64 (s.2.1 : Int))) ∧
    (W.cell? ⟨w.heap.size + 1, 0, none⟩ = some (.int .i64 0) ∧ W.cell? ⟨w.heap.size + 1, 1, none⟩ = some (.int .i64 0)) ∧ W.frozen? ⟨w.heap.size + 1, 0, none⟩ = false ∧ W.frozen? ⟨w.heap.size + 1, 1, none⟩ = false :=
  ⟨⟨cell_blk h.box rfl, cell_blk h.box rfl, cell_blk h.box rfl, cell_blk h.box rfl⟩, cell_blk h.ts.e rfl, ⟨cell_blk h.ts.p rfl, cell_blk h.ts.p rfl⟩, ⟨cell_blk h.res rfl, cell_blk h.res rfl⟩, frozen_blk h.res, frozen_blk h.res⟩
theorem heap_new (w : World) (o : Obj) : (w.alloc o).heap[w.heap.size]? = some o := World.alloc_heap_new w o
theorem heap_old {w : World} {o : Obj} {k : Nat} {u : Option Obj} (h : k < w.heap.size) (hu : w.heap[k]? = u) : (w.alloc o).heap[k]? = u := (Below.heap_alloc w o k h).trans hu
def checkW (w : World) (g : Gr) : World :=
  ((((w.alloc (.cells #[.slice g.ga g.gs.length g.gc, .slice g.ea g.es.length g.ec, .slice g.ra g.rs.length g.rc, .slice g.ua g.us.length g.uc] 27)).alloc (.cells #[.int .i64 0, .int .i64 0] 53)).alloc (.cells #[.int .i64 0, .int .i64 0] 53)).alloc (.cells #[.int .i64 0] 30)).alloc (.cells (lkA g (.map none) (.map none) (.map none) (.map none)) 108)
theorem checkW_cs (w : World) (g : Gr) : CS w (checkW w g) g (0, 0, 0) ∧ (checkW w g).heap[w.heap.size + 4]? = some (.cells (lkA g (.map none) (.map none) (.map none) (.map none)) 108 (0, 0)) := by
  refine ⟨⟨?_, ?_, ⟨?_, ?_⟩, ?_, by simp [checkW]⟩, ?_⟩
  · exact heap_old (by simp; omega) (heap_old (by simp; omega) (heap_old (by simp; omega) (heap_old (by simp) (heap_new _ _))))
  · refine heap_old (by simp) (heap_old (by simp) (heap_old (by simp) ?_))
    have := heap_new (w.alloc (.cells #[.slice g.ga g.gs.length g.gc, .slice g.ea g.es.length g.ec, .slice g.ra g.rs.length g.rc, .slice g.ua g.us.length g.uc] 27)) (.cells #[.int .i64 0, .int .i64 0] 53)
    rw [World.size_alloc] at this; exact this
  · refine heap_old (by simp) ?_
    have := heap_new (((w.alloc (.cells #[.slice g.ga g.gs.length g.gc, .slice g.ea g.es.length g.ec, .slice g.ra g.rs.length g.rc, .slice g.ua g.us.length g.uc] 27)).alloc (.cells #[.int .i64 0, .int .i64 0] 53)).alloc (.cells #[.int .i64 0, .int .i64 0] 53)) (.cells #[.int .i64 0] 30)
    rw [World.size_alloc, World.size_alloc, World.size_alloc] at this; exact this
  · refine heap_old (by simp) (heap_old (by simp) ?_)
    have := heap_new ((w.alloc (.cells #[.slice g.ga g.gs.length g.gc, .slice g.ea g.es.length g.ec, .slice g.ra g.rs.length g.rc, .slice g.ua g.us.length g.uc] 27)).alloc (.cells #[.int .i64 0, .int .i64 0] 53)) (.cells #[.int .i64 0, .int .i64 0] 53)
    rw [World.size_alloc, World.size_alloc] at this; exact this
  · exact (((((Below.refl _ w).alloc (Nat.le_refl _) _).alloc (by simp) _).alloc (by simp; omega) _).alloc (by simp; omega) _).alloc (by simp; omega) _
  · have := heap_new ((((w.alloc (.cells #[.slice g.ga g.gs.length g.gc, .slice g.ea g.es.length g.ec, .slice g.ra g.rs.length g.rc, .slice g.ua g.us.length g.uc] 27)).alloc (.cells #[.int .i64 0, .int .i64 0] 53)).alloc (.cells #[.int .i64 0, .int .i64 0] 53)).alloc (.cells #[.int .i64 0] 30)) (.cells (lkA g (.map none) (.map none) (.map none) (.map none)) 108)
    rw [World.size_alloc, World.size_alloc, World.size_alloc, World.size_alloc] at this; exact this
theorem limit_small {g : Gr} (h : (tellS (0, 0, 0) 0 (fun _ => limitE g) 1).2.2 = 0) : g.gs.length ≤ 40 ∧ g.es.length ≤ 80 ∧ g.rs.length ≤ 300 ∧ g.us.length ≤ 40 ∧ ∀ u ∈ g.us, u.roles.length ≤ 8 := by
  have h0 : limitE g = 0 := (tellS_ok.1 h).2 0 (by omega)
  rw [limitE_eq] at h0
  have z : (4 : Nat) ≠ 0 := by decide
  by_cases a : 40 < g.gs.length
  · rw [if_pos a] at h0; exact absurd h0 z
  by_cases b : 80 < g.es.length
  · rw [if_neg a, if_pos b] at h0; exact absurd h0 z
  by_cases c : 300 < g.rs.length
  · rw [if_neg a, if_neg b, if_pos c] at h0; exact absurd h0 z
  by_cases d : 40 < g.us.length
  · rw [if_neg a, if_neg b, if_neg c, if_pos d] at h0; exact absurd h0 z
  rw [if_neg a, if_neg b, if_neg c, if_neg d] at h0
  cases e : g.us.any manyB with
  | true => rw [e] at h0; exact absurd h0 z
  | false =>
    refine ⟨by omega, by omega, by omega, by omega, fun u hu => ?_⟩
    have := List.any_eq_false.1 e u hu
    simp [manyB] at this
    exact this
set_option maxRecDepth 100000 in
set_option maxHeartbeats 4000000 in
theorem check_any (w : World) (g : Gr) (hI : InG w g) (hz : SzG g) (hcap : ∀ u ∈ g.us, u.roles.length ≤ u.rc) :
    Calls Tryz.prog 18 #[.agg #[.slice g.ga g.gs.length g.gc, .slice g.ea g.es.length g.ec, .slice g.ra g.rs.length g.rc, .slice g.ua g.us.length g.uc]] w fun e w' =>
      e = .returned (.tuple #[.agg #[.int .i64 (checkL g).1, .int .i64 (checkL g).2.1], .int .i64 (checkL g).2.2]) ∧ Below w.heap.size w w' := by
  have HI := Lib.hid hI
  have HZ := Lib.hid hz
  have HCap := Lib.hid hcap
  have z1 := hz.gs
  have z2 := hz.es
  have z3 := hz.rs
  have z4 := hz.us
  clear hI hz hcap
  obtain ⟨H0, hL0⟩ := checkW_cs w g
  have HL0 := Lib.hid hL0
  clear hL0
  have e28 := enters_of Tryz.func41 (by kernel_rfl) rfl
  have e30 := enters_of Tryz.func43 (by kernel_rfl) rfl
  have e31 := enters_of Tryz.func44 (by kernel_rfl) rfl
  have e32 := enters_of Tryz.func45 (by kernel_rfl) rfl
  have e33 := enters_of Tryz.func46 (by kernel_rfl) rfl
  have E28 := Lib.hid e28
  have E30 := Lib.hid e30
  have E31 := Lib.hid e31
  have E32 := Lib.hid e32
  have E33 := Lib.hid e33
  clear e28 e30 e31 e32 e33
  go_enter Tryz.func18, Tryz.ntmps18
  go_wp2_with fail
  refine (tell_go (checkW w g) (w.heap.size + 3) (w.heap.size + 2) (w.heap.size + 4) 41 0 1 (fun _ => limitE g) (0, 0, 0) (by omega) H0.ts (by omega) E28.out (fun W i _ hk hi => ?lim) rfl rfl rfl rfl rfl).mono ?_
  case lim =>
    have hbW := H0.bel.trans (hk.below (n := w.heap.size) (by omega) (by omega) (by have := H0.big; omega))
    have hb := (hk.block (w.heap.size + 4) (by have := H0.big; omega) (by omega) (by omega)).trans HL0.out
    exact limits_any W (w.heap.size + 4) g ⟨cell_blk hb rfl, cell_blk hb rfl, cell_blk hb rfl, cell_blk hb rfl, HI.out.below (Nat.le_refl _) hbW⟩ HZ.out i
  rintro e W1 ⟨⟨v1, rfl⟩, t1, x1⟩
  have C1 := Lib.hid (H0.kx x1 t1)
  have HB1 := Lib.hid ((x1.block (w.heap.size + 4) (by have := H0.big; omega) (by omega) (by omega)).trans HL0.out)
  obtain ⟨⟨a0, a1, a2, a3⟩, aE, _⟩ := C1.out.cells
  have HS1 : Hid (limit_small (g := g) = limit_small) := rfl
  clear H0 HL0 t1 x1 HS1
  by_cases h0 : (tellS (0, 0, 0) 0 (fun _ => limitE g) 1).2.2 = 0
  · have hsm := limit_small h0
    obtain ⟨y1, y2, y3, y4, _⟩ := hsm
    have hE0 : (((tellS (0, 0, 0) 0 (fun _ => limitE g) 1).2.2 : Int) == 0) = true := by rw [beq_iff_eq]; omega
    have HST : Hid (checkL g = tellS (tellS (tellS (tellS (tellS (0, 0, 0) 0 (fun _ => limitE g) 1) 1 (groupE g) g.gs.length) 2 (eventE g) g.es.length) 3 (relE g) g.rs.length) 4 (userE g) g.us.length) := rfl
    generalize tellS (0, 0, 0) 0 (fun _ => limitE g) 1 = s1 at *
    clear h0
    have hgs : GS w W1 W1 (w.heap.size + 4) g (.map none) (.map none) (.map none) (.map none) := ⟨HB1.out, C1.out.bel, fun _ _ _ => rfl, Nat.le_refl _⟩
    have CG := Lib.hid (gather_any w W1 (w.heap.size + 4) g HI.out HZ.out (by omega) (by omega) (by omega) (by omega) (by omega) hgs)
    clear hgs
    go_wp2_with fail
    refine CG.out.mono ?_
    rintro e W2 ⟨⟨v2, rfl⟩, bg, be, br, bu, lk, gs2, hm⟩
    have C2 := Lib.hid (C1.out.gs gs2)
    have LK := Lib.hid lk
    clear lk gs2 CG a0 a1 a2 a3 aE C1
    obtain ⟨⟨a0, a1, a2, a3⟩, _⟩ := C2.out.cells
    go_wp2_with fail
    refine (tell_go W2 (w.heap.size + 3) (w.heap.size + 2) (w.heap.size + 4) 43 1 g.gs.length (groupE g) s1 (by omega) C2.out.ts (by omega) E30.out (fun W i _ hk hi => ?c1) rfl rfl rfl rfl rfl).mono ?_
    case c1 =>
      have hbW := C2.out.bel.trans (hk.below (n := w.heap.size) (by omega) (by omega) (by have := C2.out.big; omega))
      exact group_any W (LK.out.kx hk (HI.out.below (Nat.le_refl _) hbW) (by omega) (by omega) hm) HZ.out i hi
    rintro e W3 ⟨⟨v3, rfl⟩, t3, x3⟩
    have C3 := Lib.hid (C2.out.kx x3 t3)
    have LKn := Lib.hid (LK.out.kx x3 (HI.out.below (Nat.le_refl _) C3.out.bel) (by omega) (by omega) hm)
    clear LK
    have LK := LKn
    clear LKn
    obtain ⟨s2, hq⟩ : ∃ s, s = tellS s1 1 (groupE g) g.gs.length := ⟨_, rfl⟩
    rw [← hq] at C3 HST
    have HQ1 := Lib.hid hq
    clear hq x3 t3 a0 a1 a2 a3
    obtain ⟨⟨a0, a1, a2, a3⟩, _⟩ := C3.out.cells
    go_wp2_with fail
    refine (tell_go W3 (w.heap.size + 3) (w.heap.size + 2) (w.heap.size + 4) 44 2 g.es.length (eventE g) s2 (by omega) C3.out.ts (by omega) E31.out (fun W i _ hk hi => ?c2) rfl rfl rfl rfl rfl).mono ?_
    case c2 =>
      have hbW := C3.out.bel.trans (hk.below (n := w.heap.size) (by omega) (by omega) (by have := C3.out.big; omega))
      exact event_any W (LK.out.kx hk (HI.out.below (Nat.le_refl _) hbW) (by omega) (by omega) hm) HZ.out i hi
    rintro e W4 ⟨⟨v4, rfl⟩, t4, x4⟩
    have C4 := Lib.hid (C3.out.kx x4 t4)
    have LKn := Lib.hid (LK.out.kx x4 (HI.out.below (Nat.le_refl _) C4.out.bel) (by omega) (by omega) hm)
    clear LK
    have LK := LKn
    clear LKn
    obtain ⟨s3, hq⟩ : ∃ s, s = tellS s2 2 (eventE g) g.es.length := ⟨_, rfl⟩
    rw [← hq] at C4 HST
    have HQ2 := Lib.hid hq
    clear hq x4 t4 a0 a1 a2 a3
    obtain ⟨⟨a0, a1, a2, a3⟩, _⟩ := C4.out.cells
    go_wp2_with fail
    refine (tell_go W4 (w.heap.size + 3) (w.heap.size + 2) (w.heap.size + 4) 45 3 g.rs.length (relE g) s3 (by omega) C4.out.ts (by omega) E32.out (fun W i _ hk hi => ?c3) rfl rfl rfl rfl rfl).mono ?_
    case c3 =>
      have hbW := C4.out.bel.trans (hk.below (n := w.heap.size) (by omega) (by omega) (by have := C4.out.big; omega))
      exact relation_any W (LK.out.kx hk (HI.out.below (Nat.le_refl _) hbW) (by omega) (by omega) hm) HZ.out i hi
    rintro e W5 ⟨⟨v5, rfl⟩, t5, x5⟩
    have C5 := Lib.hid (C4.out.kx x5 t5)
    have LKn := Lib.hid (LK.out.kx x5 (HI.out.below (Nat.le_refl _) C5.out.bel) (by omega) (by omega) hm)
    clear LK
    have LK := LKn
    clear LKn
    obtain ⟨s4, hq⟩ : ∃ s, s = tellS s3 3 (relE g) g.rs.length := ⟨_, rfl⟩
    rw [← hq] at C5 HST
    have HQ3 := Lib.hid hq
    clear hq x5 t5 a0 a1 a2 a3
    obtain ⟨⟨a0, a1, a2, a3⟩, _⟩ := C5.out.cells
    go_wp2_with fail
    refine (tell_go W5 (w.heap.size + 3) (w.heap.size + 2) (w.heap.size + 4) 46 4 g.us.length (userE g) s4 (by omega) C5.out.ts (by omega) E33.out (fun W i _ hk hi => ?c4) rfl rfl rfl rfl rfl).mono ?_
    case c4 =>
      have hbW := C5.out.bel.trans (hk.below (n := w.heap.size) (by omega) (by omega) (by have := C5.out.big; omega))
      exact user_any W (LK.out.kx hk (HI.out.below (Nat.le_refl _) hbW) (by omega) (by omega) hm) HZ.out HCap.out i hi
    rintro e W6 ⟨⟨v6, rfl⟩, t6, x6⟩
    have C6 := Lib.hid (C5.out.kx x6 t6)
    have LKn := Lib.hid (LK.out.kx x6 (HI.out.below (Nat.le_refl _) C6.out.bel) (by omega) (by omega) hm)
    clear LK
    have LK := LKn
    clear LKn
    obtain ⟨s5, hq⟩ : ∃ s, s = tellS s4 4 (userE g) g.us.length := ⟨_, rfl⟩
    rw [← hq] at C6 HST
    have HQ4 := Lib.hid hq
    clear hq x6 t6 a0 a1 a2 a3
    obtain ⟨_, aE, ⟨aP0, aP1⟩, ⟨aR0, aR1⟩, fR0, fR1⟩ := C6.out.cells
    have HB := Lib.hid C6.out.bel
    go_wp2_with fail
    go_region
    all_goals go_wp2_with fail
    refine bodyPost_ret (v := .tuple #[.agg #[.int .i64 (s5.1 : Int), .int .i64 (s5.2.1 : Int)], .int .i64 (s5.2.2 : Int)]) (by simp [results, Tryz.results18, go_sem, aR0, aR1]) rfl ⟨by rw [HST.out], ?_⟩
    exact ((HB.out.setCell (p := ⟨w.heap.size + 1, 0, none⟩) (by simp) _).setCell (p := ⟨w.heap.size + 1, 1, none⟩) (by simp) _).drew
  · have hE0 : (((tellS (0, 0, 0) 0 (fun _ => limitE g) 1).2.2 : Int) == 0) = false := by rw [beq_eq_false_iff_ne]; omega
    have HST : Hid (checkL g = tellS (tellS (tellS (tellS (tellS (0, 0, 0) 0 (fun _ => limitE g) 1) 1 (groupE g) g.gs.length) 2 (eventE g) g.es.length) 3 (relE g) g.rs.length) 4 (userE g) g.us.length) := rfl
    generalize tellS (0, 0, 0) 0 (fun _ => limitE g) 1 = s1 at *
    have C2 := C1
    go_wp2_with fail
    have hbad1 : ¬ s1.2.2 = 0 := h0
    refine (tell_go W1 (w.heap.size + 3) (w.heap.size + 2) (w.heap.size + 4) 43 1 g.gs.length (groupE g) s1 (by omega) C2.out.ts (by omega) E30.out (fun W i hz0 _ _ => absurd hz0 hbad1) rfl rfl rfl rfl rfl).mono ?_
    rintro e W3 ⟨⟨v3, rfl⟩, t3, x3⟩
    have C3 := Lib.hid (C2.out.kx x3 t3)
    obtain ⟨s2, hq⟩ : ∃ s, s = tellS s1 1 (groupE g) g.gs.length := ⟨_, rfl⟩
    rw [← hq] at C3 HST
    have HQ1 := Lib.hid hq
    clear hq x3 t3 a0 a1 a2 a3
    obtain ⟨⟨a0, a1, a2, a3⟩, _⟩ := C3.out.cells
    go_wp2_with fail
    have hbad2 : ¬ s2.2.2 = 0 := fun e => hbad1 (by rw [HQ1.out] at e; exact (tellS_ok.1 e).1)
    refine (tell_go W3 (w.heap.size + 3) (w.heap.size + 2) (w.heap.size + 4) 44 2 g.es.length (eventE g) s2 (by omega) C3.out.ts (by omega) E31.out (fun W i hz0 _ _ => absurd hz0 hbad2) rfl rfl rfl rfl rfl).mono ?_
    rintro e W4 ⟨⟨v4, rfl⟩, t4, x4⟩
    have C4 := Lib.hid (C3.out.kx x4 t4)
    obtain ⟨s3, hq⟩ : ∃ s, s = tellS s2 2 (eventE g) g.es.length := ⟨_, rfl⟩
    rw [← hq] at C4 HST
    have HQ2 := Lib.hid hq
    clear hq x4 t4 a0 a1 a2 a3
    obtain ⟨⟨a0, a1, a2, a3⟩, _⟩ := C4.out.cells
    go_wp2_with fail
    have hbad3 : ¬ s3.2.2 = 0 := fun e => hbad2 (by rw [HQ2.out] at e; exact (tellS_ok.1 e).1)
    refine (tell_go W4 (w.heap.size + 3) (w.heap.size + 2) (w.heap.size + 4) 45 3 g.rs.length (relE g) s3 (by omega) C4.out.ts (by omega) E32.out (fun W i hz0 _ _ => absurd hz0 hbad3) rfl rfl rfl rfl rfl).mono ?_
    rintro e W5 ⟨⟨v5, rfl⟩, t5, x5⟩
    have C5 := Lib.hid (C4.out.kx x5 t5)
    obtain ⟨s4, hq⟩ : ∃ s, s = tellS s3 3 (relE g) g.rs.length := ⟨_, rfl⟩
    rw [← hq] at C5 HST
    have HQ3 := Lib.hid hq
    clear hq x5 t5 a0 a1 a2 a3
    obtain ⟨⟨a0, a1, a2, a3⟩, _⟩ := C5.out.cells
    go_wp2_with fail
    have hbad4 : ¬ s4.2.2 = 0 := fun e => hbad3 (by rw [HQ3.out] at e; exact (tellS_ok.1 e).1)
    refine (tell_go W5 (w.heap.size + 3) (w.heap.size + 2) (w.heap.size + 4) 46 4 g.us.length (userE g) s4 (by omega) C5.out.ts (by omega) E33.out (fun W i hz0 _ _ => absurd hz0 hbad4) rfl rfl rfl rfl rfl).mono ?_
    rintro e W6 ⟨⟨v6, rfl⟩, t6, x6⟩
    have C6 := Lib.hid (C5.out.kx x6 t6)
    obtain ⟨s5, hq⟩ : ∃ s, s = tellS s4 4 (userE g) g.us.length := ⟨_, rfl⟩
    rw [← hq] at C6 HST
    have HQ4 := Lib.hid hq
    clear hq x6 t6 a0 a1 a2 a3
    obtain ⟨_, aE, ⟨aP0, aP1⟩, ⟨aR0, aR1⟩, fR0, fR1⟩ := C6.out.cells
    have HB := Lib.hid C6.out.bel
    go_wp2_with fail
    go_region
    all_goals go_wp2_with fail
    refine bodyPost_ret (v := .tuple #[.agg #[.int .i64 (s5.1 : Int), .int .i64 (s5.2.1 : Int)], .int .i64 (s5.2.2 : Int)]) (by simp [results, Tryz.results18, go_sem, aR0, aR1]) rfl ⟨by rw [HST.out], ?_⟩
    exact ((HB.out.setCell (p := ⟨w.heap.size + 1, 0, none⟩) (by simp) _).setCell (p := ⟨w.heap.size + 1, 1, none⟩) (by simp) _).drew
end Go.Proofs.YtigbceankmfaeaaGreatDoor

namespace Go.Proofs.YtigbceankmfaeaaGreatDoor.P3.C
open Go.RowKit Go.Shelf Go.Proofs.YtigbceankmfaeaaGreatDoor.B Go.Proofs.YtigbceankmfaeaaGreatDoor.Lx Go.Proofs.YtigbceankmfaeaaGreatDoor.P3
/-- Parts that follow each other, a sign between. -/
def Chn (n : Nat) : Nat → List (Nat × Nat) → Prop
  | _, [] => True
  | st, s :: r => s.1 = st ∧ st ≤ s.2 ∧ s.2 < n ∧ Chn n (s.2 + 1) r
theorem seg_chn : ∀ (l : List Tok) (k st : Nat), st ≤ k → Chn (k + l.length) st (segS l k st).1
  | [], _, _, _ => trivial
  | t :: r, k, st, h => by
    rw [segS]
    have e : k + (t :: r).length = k + 1 + r.length := by simp; omega
    rw [e]
    by_cases h3 : t.kind = 3
    · rw [if_pos h3]
      exact ⟨rfl, h, by omega, seg_chn r (k + 1) (k + 1) (Nat.le_refl _)⟩
    · rw [if_neg h3]
      exact seg_chn r (k + 1) st (by omega)
/-- How many tokens statements have, with their signs. -/
def szL : List (List B3) → Nat
  | [] => 0
  | l :: r => l.length + 1 + szL r
theorem sz_app (a b : List (List B3)) : szL (a ++ b) = szL a + szL b := by
  induction a with
  | nil => simp [szL]
  | cons x r ih => rw [List.cons_append, szL, szL, ih]; omega
def segT (l : List Tok) (s : Nat × Nat) : List Tok := (l.take s.2).drop s.1
theorem chn_at (l : List Tok) : ∀ (ss : List (Nat × Nat)) (st i : Nat) (s : Nat × Nat), Chn l.length st ss → ss[i]? = some s →
    s.1 = st + szL ((ss.map fun s => (segT l s).map bare).take i) ∧ s.1 ≤ s.2 ∧ s.2 < l.length ∧ (segT l s).length = s.2 - s.1
  | [], _, _, _, _, h => by cases h
  | x :: r, st, 0, s, h, hs => by
    simp only [List.getElem?_cons_zero, Option.some.injEq] at hs
    subst hs
    obtain ⟨h1, h2, h3, _⟩ := h
    refine ⟨by simp [szL, h1], by omega, h3, ?_⟩
    unfold segT
    rw [List.length_drop, List.length_take]; omega
  | x :: r, st, i + 1, s, h, hs => by
    rw [List.getElem?_cons_succ] at hs
    obtain ⟨h1, h2, h3, h4⟩ := h
    obtain ⟨a1, a2, a3, a4⟩ := chn_at l r (x.2 + 1) i s h4 hs
    refine ⟨?_, a2, a3, a4⟩
    rw [a1, List.map_cons, List.take_succ_cons, szL, List.length_map]
    have : (segT l x).length = x.2 - x.1 := by unfold segT; rw [List.length_drop, List.length_take]; omega
    rw [this]; omega
theorem bad_at : ∀ (ls : List (List B3)) (k i : Nat) (L : List B3), ls[i]? = some L → (ls.take i).all (fun l => !(stS l).2) = true → (stS L).2 = true → firstBad ls k = some (k + szL (ls.take i) + (stS L).1)
  | [], _, _, _, h, _, _ => by cases h
  | x :: r, k, 0, L, h, _, hb => by
    simp only [List.getElem?_cons_zero, Option.some.injEq] at h
    subst h
    rw [firstBad, if_pos hb]; simp [szL]
  | x :: r, k, i + 1, L, h, hg, hb => by
    rw [List.getElem?_cons_succ] at h
    rw [List.take_succ_cons, List.all_cons, Bool.and_eq_true] at hg
    have hx : ¬ (stS x).2 = true := by have := hg.1; simpa using this
    rw [firstBad, if_neg hx, bad_at r _ i L h hg.2 hb, List.take_succ_cons, szL]
    congr 1; omega
theorem beg_app : ∀ (a b : List (List B3)) (k : Nat), begL (a ++ b) k = begL a k ++ begL b (k + szL a)
  | [], b, k => by simp [begL, szL]
  | x :: r, b, k => by
    rw [List.cons_append, begL, begL, beg_app r b, szL, List.cons_append]
    rw [show k + x.length + 1 + szL r = k + (x.length + 1 + szL r) by omega]
/-- Where a part's statements begin. -/
def blOf (ls : List (List B3)) (toks : List Tok) (p : Nat) : List Int := (begins ls toks p).map Int.ofNat
theorem bl_snoc (ls : List (List B3)) (toks : List Tok) (L : List B3) (p : Nat) :
    blOf (ls ++ [L]) toks p = if p = partNo (stV L) then blOf ls toks p ++ [((locAt toks (szL ls) : Nat) : Int)] else blOf ls toks p := by
  unfold blOf begins
  rw [beg_app, Nat.zero_add, List.filter_append, List.map_append, List.map_append]
  have : begL [L] (szL ls) = [(partNo (stV L), szL ls)] := by simp [begL]
  rw [this]
  by_cases h : p = partNo (stV L)
  · rw [if_pos h, List.filter_cons_of_pos (by simp [h])]; simp
  · rw [if_neg h, List.filter_cons_of_neg (by simp [Ne.symm h])]; simp
theorem begins_len (toks : List Tok) (p : Nat) : ∀ (ls : List (List B3)) (k : Nat), (((begL ls k).filter (fun x => x.1 == p)).map fun x => locAt toks x.2).length = ((ls.map stV).filter (fun v => partNo v == p)).length
  | [], _ => rfl
  | x :: r, k => by
    have ih := begins_len toks p r (k + x.length + 1)
    rw [List.length_map] at ih ⊢
    rw [begL, List.map_cons]
    by_cases h : partNo (stV x) = p
    · rw [List.filter_cons_of_pos (by simp [h]), List.filter_cons_of_pos (by simp [h]), List.length_cons, List.length_cons, ih]
    · rw [List.filter_cons_of_neg (by simp [h]), List.filter_cons_of_neg (by simp [h]), ih]
theorem bl_len (ls : List (List B3)) (toks : List Tok) (p : Nat) : (blOf ls toks p).length = ((ls.map stV).filter (fun v => partNo v == p)).length := by
  unfold blOf begins; rw [List.length_map]; exact begins_len toks p ls 0
theorem gs_len : ∀ vs : List PartV, (gsOf vs).length = (vs.filter fun v => partNo v == 1).length
  | [] => rfl
  | v :: r => by
    have ih := gs_len r
    cases v <;> simp_all [gsOf, partNo]
theorem es_len : ∀ vs : List PartV, (esOf vs).length = (vs.filter fun v => partNo v == 2).length
  | [] => rfl
  | v :: r => by
    have ih := es_len r
    cases v <;> simp_all [esOf, partNo]
theorem rs_len : ∀ vs : List PartV, (rsOf vs).length = (vs.filter fun v => partNo v == 3).length
  | [] => rfl
  | v :: r => by
    have ih := rs_len r
    cases v <;> simp_all [rsOf, partNo]
theorem us_len : ∀ vs : List PartV, (usOf vs).length = (vs.filter fun v => partNo v == 4).length
  | [] => rfl
  | v :: r => by
    have ih := us_len r
    cases v <;> simp_all [usOf, partNo]
theorem of_app (a b : List PartV) : gsOf (a ++ b) = gsOf a ++ gsOf b ∧ esOf (a ++ b) = esOf a ++ esOf b ∧ rsOf (a ++ b) = rsOf a ++ rsOf b ∧ usOf (a ++ b) = usOf a ++ usOf b := by
  simp [gsOf, esOf, rsOf, usOf, List.filterMap_append]
/-- The place that Check tells has its beginning. -/
theorem place_beg (ls : List (List B3)) (toks : List Tok) (c : St) (h : PlOk c (gsOf (ls.map stV)).length (esOf (ls.map stV)).length (rsOf (ls.map stV)).length (usOf (ls.map stV)).length) (h0 : c.2.2 ≠ 0) (hp : c.1 ≠ 0) :
    c.1 < 5 ∧ c.2.1 < (blOf ls toks c.1).length := by
  rw [bl_len]
  rw [gs_len, es_len, rs_len, us_len] at h
  rcases h with h | h | ⟨h1, h2⟩ | ⟨h1, h2⟩ | ⟨h1, h2⟩ | ⟨h1, h2⟩
  · exact absurd h h0
  · exact absurd h hp
  all_goals (rw [h1]; exact ⟨by decide, h2⟩)
theorem bl_get (ls : List (List B3)) (toks : List Tok) (p i : Nat) (h : i < (blOf ls toks p).length) : (blOf ls toks p)[i]! = ((((begins ls toks p)[i]?).getD 0 : Nat) : Int) := by
  unfold blOf at h ⊢
  rw [List.length_map] at h
  rw [getElem!_pos _ i (by rw [List.length_map]; exact h), List.getElem_map, List.getElem?_eq_getElem h]; rfl
end Go.Proofs.YtigbceankmfaeaaGreatDoor.P3.C
