/-
  Contract of graph.Check: the first thing wrong with any graph, as the plain model tells it. Contracts of graph.groupsWithin and Members. Contract of graph.Members. Contracts of slices.Clone at groups, events, relations, users and texts.
-/
import Derived.Test.YtahhhhacoigpmaaScaj
import Derived.Test.YtahhhhacoigpmaaScba
import Derived.Test.YtahhhhacoigpmaaScbb
import Derived.RegionTactic
import Derived.ChangeAlike
namespace Go.Proofs.Ytahhhhacoigpmaa
open Go.RowKit Go.Shelf
theorem Kx.below {Be Bp n : Nat} {w w' : World} (h : Kx Be Bp w w') (h1 : n ≤ Be) (h2 : n ≤ Bp) (h3 : n ≤ w.heap.size) : Below n w w' :=
  ⟨h.os, h.tape, h.output, h.size, fun k hk => h.block k (by omega) (by omega) (by omega)⟩
/-- The variables of Check. -/
structure CS (w W : World) (g : Gr) (s : St) : Prop where
  box : W.heap[w.heap.size]? = some (.cells #[.slice g.ga g.gs.length g.gc, .slice g.ea g.es.length g.ec, .slice g.ra g.rs.length g.rc, .slice g.ua g.us.length g.uc] 27 (0, 0))
  res : W.heap[w.heap.size + 1]? = some (.cells #[.int .i64 0, .int .i64 0] 62 (0, 0))
  ts : TS (w.heap.size + 3) (w.heap.size + 2) W s
  bel : Below w.heap.size w W
  big : w.heap.size + 5 ≤ W.heap.size
theorem CS.kx {w W W' : World} {g : Gr} {s s' : St} (h : CS w W g s) (hk : Kx (w.heap.size + 3) (w.heap.size + 2) W W') (ht : TS (w.heap.size + 3) (w.heap.size + 2) W' s') : CS w W' g s' := by
  have hb := h.big
  exact ⟨(hk.block _ (by omega) (by omega) (by omega)).trans h.box, (hk.block _ (by omega) (by omega) (by omega)).trans h.res, ht, h.bel.trans (hk.below (by omega) (by omega) (by omega)), Nat.le_trans hb hk.size⟩
theorem CS.gs {w W W' : World} {g : Gr} {s : St} {a b c d : Value} (h : CS w W g s) (hg : GS w W W' (w.heap.size + 4) g a b c d) : CS w W' g s := by
  have hb := h.big
  exact ⟨(hg.kept _ (by omega) (by omega)).trans h.box, (hg.kept _ (by omega) (by omega)).trans h.res, ⟨(hg.kept _ (by omega) (by omega)).trans h.ts.e, (hg.kept _ (by omega) (by omega)).trans h.ts.p⟩, hg.bel, Nat.le_trans hb hg.size⟩
theorem LkIn.kx {w w' : World} {L : Nat} {g : Gr} {bg be br bu Be Bp : Nat} (h : LkIn w L g bg be br bu) (hk : Kx Be Bp w w') (hI : InG w' g) (h1 : Be < L) (h2 : Bp < L) (hm : L < bg ∧ L < be ∧ L < br ∧ L < bu) : LkIn w' L g bg be br bu := by
  have hL := h.lt
  have hc : ∀ i : Nat, w'.cell? ⟨L, i, none⟩ = w.cell? ⟨L, i, none⟩ := fun i => World.cell?_of_block (w := w) (a := ⟨L, i, none⟩) (hk.block L hL (by omega) (by omega))
  have l1 := h.gm.lt
  have l2 := h.em.lt
  have l3 := h.rm.lt
  have l4 := h.um.lt
  exact ⟨(hc 0).trans h.c0, (hc 1).trans h.c1, (hc 2).trans h.c2, (hc 3).trans h.c3, (hc 4).trans h.c4, (hc 5).trans h.c5, (hc 6).trans h.c6, (hc 7).trans h.c7,
    h.gm.block (hk.block _ l1 (by omega) (by omega)), h.em.block (hk.block _ l2 (by omega) (by omega)), h.rm.block (hk.block _ l3 (by omega) (by omega)), h.um.block (hk.block _ l4 (by omega) (by omega)), hI⟩
theorem tell_go (w : World) (Be Bp L fl part n : Nat) (f : Nat → Nat) (s : St) (hne : Be ≠ Bp) (hs : TS Be Bp w s) (hn : n ≤ 140737488351232) (eg : ∀ args w, (callFunc fl args).run Try.prog w = .ok (.enter fl args) w)
    (hcall : ∀ (W : World) (i : Nat), s.2.2 = 0 → Kx Be Bp w W → i < n → Calls Try.prog fl #[.pointer (some ⟨L, 0, none⟩), .int .i64 i] W fun e W' => e = .returned (.int .i64 (f i)) ∧ Below W.heap.size W W')
    {pi ni : Int} {be bp l : Nat} (hp : pi = (part : Int)) (hni : ni = (n : Int)) (h1 : be = Be) (h2 : bp = Bp) (h3 : l = L) :
    Calls Try.prog 37 #[.int .i64 pi, .int .i64 ni, .func (.func fl) #[.pointer (some ⟨l, 0, none⟩)] #[], .pointer (some ⟨be, 0, none⟩), .pointer (some ⟨bp, 0, none⟩)] w fun e w' =>
      (∃ v, e = .returned v) ∧ TS Be Bp w' (tellS s part f n) ∧ Kx Be Bp w w' := by
  subst hp hni h1 h2 h3
  exact tell_any w be bp l fl part n f s hne hs hn eg hcall
theorem CS.cells {w W : World} {g : Gr} {s : St} (h : CS w W g s) :
    (W.cell? ⟨w.heap.size, 0, none⟩ = some (.slice g.ga g.gs.length g.gc) ∧ W.cell? ⟨w.heap.size, 1, none⟩ = some (.slice g.ea g.es.length g.ec) ∧ W.cell? ⟨w.heap.size, 2, none⟩ = some (.slice g.ra g.rs.length g.rc) ∧ W.cell? ⟨w.heap.size, 3, none⟩ = some (.slice g.ua g.us.length g.uc)) ∧
    W.cell? ⟨w.heap.size + 1 + 1 + 1, 0, none⟩ = some (.int .i64 (s.2.2 : Int)) ∧ (W.cell? ⟨w.heap.size + 1 + 1, 0, none⟩ = some (.int .i64 (s.1 : Int)) ∧ W.cell? ⟨w.heap.size + 1 + 1, 1, none⟩ = some (.int .i64 (s.2.1 : Int))) ∧
    (W.cell? ⟨w.heap.size + 1, 0, none⟩ = some (.int .i64 0) ∧ W.cell? ⟨w.heap.size + 1, 1, none⟩ = some (.int .i64 0)) ∧ W.frozen? ⟨w.heap.size + 1, 0, none⟩ = false ∧ W.frozen? ⟨w.heap.size + 1, 1, none⟩ = false :=
  ⟨⟨cell_blk h.box rfl, cell_blk h.box rfl, cell_blk h.box rfl, cell_blk h.box rfl⟩, cell_blk h.ts.e rfl, ⟨cell_blk h.ts.p rfl, cell_blk h.ts.p rfl⟩, ⟨cell_blk h.res rfl, cell_blk h.res rfl⟩, frozen_blk h.res, frozen_blk h.res⟩
theorem heap_new (w : World) (o : Obj) : (w.alloc o).heap[w.heap.size]? = some o := World.alloc_heap_new w o
theorem heap_old {w : World} {o : Obj} {k : Nat} {u : Option Obj} (h : k < w.heap.size) (hu : w.heap[k]? = u) : (w.alloc o).heap[k]? = u := (Below.heap_alloc w o k h).trans hu
def checkW (w : World) (g : Gr) : World :=
  ((((w.alloc (.cells #[.slice g.ga g.gs.length g.gc, .slice g.ea g.es.length g.ec, .slice g.ra g.rs.length g.rc, .slice g.ua g.us.length g.uc] 27)).alloc (.cells #[.int .i64 0, .int .i64 0] 62)).alloc (.cells #[.int .i64 0, .int .i64 0] 62)).alloc (.cells #[.int .i64 0] 32)).alloc (.cells (lkA g (.map none) (.map none) (.map none) (.map none)) 88)
theorem checkW_cs (w : World) (g : Gr) : CS w (checkW w g) g (0, 0, 0) ∧ (checkW w g).heap[w.heap.size + 4]? = some (.cells (lkA g (.map none) (.map none) (.map none) (.map none)) 88 (0, 0)) := by
  refine ⟨⟨?_, ?_, ⟨?_, ?_⟩, ?_, by simp [checkW]⟩, ?_⟩
  · exact heap_old (by simp; omega) (heap_old (by simp; omega) (heap_old (by simp; omega) (heap_old (by simp) (heap_new _ _))))
  · refine heap_old (by simp) (heap_old (by simp) (heap_old (by simp) ?_))
    have := heap_new (w.alloc (.cells #[.slice g.ga g.gs.length g.gc, .slice g.ea g.es.length g.ec, .slice g.ra g.rs.length g.rc, .slice g.ua g.us.length g.uc] 27)) (.cells #[.int .i64 0, .int .i64 0] 62)
    rw [World.size_alloc] at this; exact this
  · refine heap_old (by simp) ?_
    have := heap_new (((w.alloc (.cells #[.slice g.ga g.gs.length g.gc, .slice g.ea g.es.length g.ec, .slice g.ra g.rs.length g.rc, .slice g.ua g.us.length g.uc] 27)).alloc (.cells #[.int .i64 0, .int .i64 0] 62)).alloc (.cells #[.int .i64 0, .int .i64 0] 62)) (.cells #[.int .i64 0] 32)
    rw [World.size_alloc, World.size_alloc, World.size_alloc] at this; exact this
  · refine heap_old (by simp) (heap_old (by simp) ?_)
    have := heap_new ((w.alloc (.cells #[.slice g.ga g.gs.length g.gc, .slice g.ea g.es.length g.ec, .slice g.ra g.rs.length g.rc, .slice g.ua g.us.length g.uc] 27)).alloc (.cells #[.int .i64 0, .int .i64 0] 62)) (.cells #[.int .i64 0, .int .i64 0] 62)
    rw [World.size_alloc, World.size_alloc] at this; exact this
  · exact (((((Below.refl _ w).alloc (Nat.le_refl _) _).alloc (by simp) _).alloc (by simp; omega) _).alloc (by simp; omega) _).alloc (by simp; omega) _
  · have := heap_new ((((w.alloc (.cells #[.slice g.ga g.gs.length g.gc, .slice g.ea g.es.length g.ec, .slice g.ra g.rs.length g.rc, .slice g.ua g.us.length g.uc] 27)).alloc (.cells #[.int .i64 0, .int .i64 0] 62)).alloc (.cells #[.int .i64 0, .int .i64 0] 62)).alloc (.cells #[.int .i64 0] 32)) (.cells (lkA g (.map none) (.map none) (.map none) (.map none)) 88)
    rw [World.size_alloc, World.size_alloc, World.size_alloc, World.size_alloc] at this; exact this
theorem limit_small {g : Gr} (h : (tellS (0, 0, 0) 0 (fun _ => limitE g) 1).2.2 = 0) : g.gs.length ≤ 40 ∧ g.es.length ≤ 80 ∧ g.rs.length ≤ 300 ∧ g.us.length ≤ 40 ∧ ∀ u ∈ g.us, u.roles.length ≤ 8 := by
  have h0 : limitE g = 0 := (tellS_ok.1 h).2 0 (by omega)
  rw [limitE_eq] at h0
  have z : (4 : Nat) ≠ 0 := by decide
  by_cases a : 40 < g.gs.length
  · rw [if_pos a] at h0; exact absurd h0 z
  by_cases b : 80 < g.es.length
  · rw [if_neg a, if_pos b] at h0; exact absurd h0 z
  by_cases c : 300 < g.rs.length
  · rw [if_neg a, if_neg b, if_pos c] at h0; exact absurd h0 z
  by_cases d : 40 < g.us.length
  · rw [if_neg a, if_neg b, if_neg c, if_pos d] at h0; exact absurd h0 z
  rw [if_neg a, if_neg b, if_neg c, if_neg d] at h0
  cases e : g.us.any manyB with
  | true => rw [e] at h0; exact absurd h0 z
  | false =>
    refine ⟨by omega, by omega, by omega, by omega, fun u hu => ?_⟩
    have := List.any_eq_false.1 e u hu
    simp [manyB] at this
    exact this
set_option maxRecDepth 100000 in
set_option maxHeartbeats 4000000 in
theorem check_any (w : World) (g : Gr) (hI : InG w g) (hz : SzG g) (hcap : ∀ u ∈ g.us, u.roles.length ≤ u.rc) :
    Calls Try.prog 28 #[.agg #[.slice g.ga g.gs.length g.gc, .slice g.ea g.es.length g.ec, .slice g.ra g.rs.length g.rc, .slice g.ua g.us.length g.uc]] w fun e w' =>
      e = .returned (.tuple #[.agg #[.int .i64 (checkL g).1, .int .i64 (checkL g).2.1], .int .i64 (checkL g).2.2]) ∧ Below w.heap.size w w' := by
  have HI := Lib.hid hI
  have HZ := Lib.hid hz
  have HCap := Lib.hid hcap
  have z1 := hz.gs
  have z2 := hz.es
  have z3 := hz.rs
  have z4 := hz.us
  clear hI hz hcap
  obtain ⟨H0, hL0⟩ := checkW_cs w g
  have HL0 := Lib.hid hL0
  clear hL0
  have e28 := enters_of Try.func38 (by kernel_rfl) rfl
  have e30 := enters_of Try.func40 (by kernel_rfl) rfl
  have e31 := enters_of Try.func41 (by kernel_rfl) rfl
  have e32 := enters_of Try.func42 (by kernel_rfl) rfl
  have e33 := enters_of Try.func43 (by kernel_rfl) rfl
  have E28 := Lib.hid e28
  have E30 := Lib.hid e30
  have E31 := Lib.hid e31
  have E32 := Lib.hid e32
  have E33 := Lib.hid e33
  clear e28 e30 e31 e32 e33
  go_enter Try.func28, Try.ntmps28
  go_wp2_with fail
  refine (tell_go (checkW w g) (w.heap.size + 3) (w.heap.size + 2) (w.heap.size + 4) 38 0 1 (fun _ => limitE g) (0, 0, 0) (by omega) H0.ts (by omega) E28.out (fun W i _ hk hi => ?lim) rfl rfl rfl rfl rfl).mono ?_
  case lim =>
    have hbW := H0.bel.trans (hk.below (n := w.heap.size) (by omega) (by omega) (by have := H0.big; omega))
    have hb := (hk.block (w.heap.size + 4) (by have := H0.big; omega) (by omega) (by omega)).trans HL0.out
    exact limits_any W (w.heap.size + 4) g ⟨cell_blk hb rfl, cell_blk hb rfl, cell_blk hb rfl, cell_blk hb rfl, HI.out.below (Nat.le_refl _) hbW⟩ HZ.out i
  rintro e W1 ⟨⟨v1, rfl⟩, t1, x1⟩
  have C1 := Lib.hid (H0.kx x1 t1)
  have HB1 := Lib.hid ((x1.block (w.heap.size + 4) (by have := H0.big; omega) (by omega) (by omega)).trans HL0.out)
  obtain ⟨⟨a0, a1, a2, a3⟩, aE, _⟩ := C1.out.cells
  have HS1 : Hid (limit_small (g := g) = limit_small) := rfl
  clear H0 HL0 t1 x1 HS1
  by_cases h0 : (tellS (0, 0, 0) 0 (fun _ => limitE g) 1).2.2 = 0
  · have hsm := limit_small h0
    obtain ⟨y1, y2, y3, y4, _⟩ := hsm
    have hE0 : (((tellS (0, 0, 0) 0 (fun _ => limitE g) 1).2.2 : Int) == 0) = true := by rw [beq_iff_eq]; omega
    have HST : Hid (checkL g = tellS (tellS (tellS (tellS (tellS (0, 0, 0) 0 (fun _ => limitE g) 1) 1 (groupE g) g.gs.length) 2 (eventE g) g.es.length) 3 (relE g) g.rs.length) 4 (userE g) g.us.length) := rfl
    generalize tellS (0, 0, 0) 0 (fun _ => limitE g) 1 = s1 at *
    clear h0
    have hgs : GS w W1 W1 (w.heap.size + 4) g (.map none) (.map none) (.map none) (.map none) := ⟨HB1.out, C1.out.bel, fun _ _ _ => rfl, Nat.le_refl _⟩
    have CG := Lib.hid (gather_any w W1 (w.heap.size + 4) g HI.out HZ.out (by omega) (by omega) (by omega) (by omega) (by omega) hgs)
    clear hgs
    go_wp2_with fail
    refine CG.out.mono ?_
    rintro e W2 ⟨⟨v2, rfl⟩, bg, be, br, bu, lk, gs2, hm⟩
    have C2 := Lib.hid (C1.out.gs gs2)
    have LK := Lib.hid lk
    clear lk gs2 CG a0 a1 a2 a3 aE C1
    obtain ⟨⟨a0, a1, a2, a3⟩, _⟩ := C2.out.cells
    go_wp2_with fail
    refine (tell_go W2 (w.heap.size + 3) (w.heap.size + 2) (w.heap.size + 4) 40 1 g.gs.length (groupE g) s1 (by omega) C2.out.ts (by omega) E30.out (fun W i _ hk hi => ?c1) rfl rfl rfl rfl rfl).mono ?_
    case c1 =>
      have hbW := C2.out.bel.trans (hk.below (n := w.heap.size) (by omega) (by omega) (by have := C2.out.big; omega))
      exact group_any W (LK.out.kx hk (HI.out.below (Nat.le_refl _) hbW) (by omega) (by omega) hm) HZ.out i hi
    rintro e W3 ⟨⟨v3, rfl⟩, t3, x3⟩
    have C3 := Lib.hid (C2.out.kx x3 t3)
    have LKn := Lib.hid (LK.out.kx x3 (HI.out.below (Nat.le_refl _) C3.out.bel) (by omega) (by omega) hm)
    clear LK
    have LK := LKn
    clear LKn
    obtain ⟨s2, hq⟩ : ∃ s, s = tellS s1 1 (groupE g) g.gs.length := ⟨_, rfl⟩
    rw [← hq] at C3 HST
    have HQ1 := Lib.hid hq
    clear hq x3 t3 a0 a1 a2 a3
    obtain ⟨⟨a0, a1, a2, a3⟩, _⟩ := C3.out.cells
    go_wp2_with fail
    refine (tell_go W3 (w.heap.size + 3) (w.heap.size + 2) (w.heap.size + 4) 41 2 g.es.length (eventE g) s2 (by omega) C3.out.ts (by omega) E31.out (fun W i _ hk hi => ?c2) rfl rfl rfl rfl rfl).mono ?_
    case c2 =>
      have hbW := C3.out.bel.trans (hk.below (n := w.heap.size) (by omega) (by omega) (by have := C3.out.big; omega))
      exact event_any W (LK.out.kx hk (HI.out.below (Nat.le_refl _) hbW) (by omega) (by omega) hm) HZ.out i hi
    rintro e W4 ⟨⟨v4, rfl⟩, t4, x4⟩
    have C4 := Lib.hid (C3.out.kx x4 t4)
    have LKn := Lib.hid (LK.out.kx x4 (HI.out.below (Nat.le_refl _) C4.out.bel) (by omega) (by omega) hm)
    clear LK
    have LK := LKn
    clear LKn
    obtain ⟨s3, hq⟩ : ∃ s, s = tellS s2 2 (eventE g) g.es.length := ⟨_, rfl⟩
    rw [← hq] at C4 HST
    have HQ2 := Lib.hid hq
    clear hq x4 t4 a0 a1 a2 a3
    obtain ⟨⟨a0, a1, a2, a3⟩, _⟩ := C4.out.cells
    go_wp2_with fail
    refine (tell_go W4 (w.heap.size + 3) (w.heap.size + 2) (w.heap.size + 4) 42 3 g.rs.length (relE g) s3 (by omega) C4.out.ts (by omega) E32.out (fun W i _ hk hi => ?c3) rfl rfl rfl rfl rfl).mono ?_
    case c3 =>
      have hbW := C4.out.bel.trans (hk.below (n := w.heap.size) (by omega) (by omega) (by have := C4.out.big; omega))
      exact relation_any W (LK.out.kx hk (HI.out.below (Nat.le_refl _) hbW) (by omega) (by omega) hm) HZ.out i hi
    rintro e W5 ⟨⟨v5, rfl⟩, t5, x5⟩
    have C5 := Lib.hid (C4.out.kx x5 t5)
    have LKn := Lib.hid (LK.out.kx x5 (HI.out.below (Nat.le_refl _) C5.out.bel) (by omega) (by omega) hm)
    clear LK
    have LK := LKn
    clear LKn
    obtain ⟨s4, hq⟩ : ∃ s, s = tellS s3 3 (relE g) g.rs.length := ⟨_, rfl⟩
    rw [← hq] at C5 HST
    have HQ3 := Lib.hid hq
    clear hq x5 t5 a0 a1 a2 a3
    obtain ⟨⟨a0, a1, a2, a3⟩, _⟩ := C5.out.cells
    go_wp2_with fail
    refine (tell_go W5 (w.heap.size + 3) (w.heap.size + 2) (w.heap.size + 4) 43 4 g.us.length (userE g) s4 (by omega) C5.out.ts (by omega) E33.out (fun W i _ hk hi => ?c4) rfl rfl rfl rfl rfl).mono ?_
    case c4 =>
      have hbW := C5.out.bel.trans (hk.below (n := w.heap.size) (by omega) (by omega) (by have := C5.out.big; omega))
      exact user_any W (LK.out.kx hk (HI.out.below (Nat.le_refl _) hbW) (by omega) (by omega) hm) HZ.out HCap.out i hi
    rintro e W6 ⟨⟨v6, rfl⟩, t6, x6⟩
    have C6 := Lib.hid (C5.out.kx x6 t6)
    have LKn := Lib.hid (LK.out.kx x6 (HI.out.below (Nat.le_refl _) C6.out.bel) (by omega) (by omega) hm)
    clear LK
    have LK := LKn
    clear LKn
    obtain ⟨s5, hq⟩ : ∃ s, s = tellS s4 4 (userE g) g.us.length := ⟨_, rfl⟩
    rw [← hq] at C6 HST
    have HQ4 := Lib.hid hq
    clear hq x6 t6 a0 a1 a2 a3
    obtain ⟨_, aE, ⟨aP0, aP1⟩, ⟨aR0, aR1⟩, fR0, fR1⟩ := C6.out.cells
    have HB := Lib.hid C6.out.bel
    go_wp2_with fail
    go_region
    all_goals go_wp2_with fail
    refine bodyPost_ret (v := .tuple #[.agg #[.int .i64 (s5.1 : Int), .int .i64 (s5.2.1 : Int)], .int .i64 (s5.2.2 : Int)]) (by simp [results, Try.results28, go_sem, aR0, aR1]) rfl ⟨by rw [HST.out], ?_⟩
    exact ((HB.out.setCell (p := ⟨w.heap.size + 1, 0, none⟩) (by simp) _).setCell (p := ⟨w.heap.size + 1, 1, none⟩) (by simp) _).drew
  · have hE0 : (((tellS (0, 0, 0) 0 (fun _ => limitE g) 1).2.2 : Int) == 0) = false := by rw [beq_eq_false_iff_ne]; omega
    have HST : Hid (checkL g = tellS (tellS (tellS (tellS (tellS (0, 0, 0) 0 (fun _ => limitE g) 1) 1 (groupE g) g.gs.length) 2 (eventE g) g.es.length) 3 (relE g) g.rs.length) 4 (userE g) g.us.length) := rfl
    generalize tellS (0, 0, 0) 0 (fun _ => limitE g) 1 = s1 at *
    have C2 := C1
    go_wp2_with fail
    have hbad1 : ¬ s1.2.2 = 0 := h0
    refine (tell_go W1 (w.heap.size + 3) (w.heap.size + 2) (w.heap.size + 4) 40 1 g.gs.length (groupE g) s1 (by omega) C2.out.ts (by omega) E30.out (fun W i hz0 _ _ => absurd hz0 hbad1) rfl rfl rfl rfl rfl).mono ?_
    rintro e W3 ⟨⟨v3, rfl⟩, t3, x3⟩
    have C3 := Lib.hid (C2.out.kx x3 t3)
    obtain ⟨s2, hq⟩ : ∃ s, s = tellS s1 1 (groupE g) g.gs.length := ⟨_, rfl⟩
    rw [← hq] at C3 HST
    have HQ1 := Lib.hid hq
    clear hq x3 t3 a0 a1 a2 a3
    obtain ⟨⟨a0, a1, a2, a3⟩, _⟩ := C3.out.cells
    go_wp2_with fail
    have hbad2 : ¬ s2.2.2 = 0 := fun e => hbad1 (by rw [HQ1.out] at e; exact (tellS_ok.1 e).1)
    refine (tell_go W3 (w.heap.size + 3) (w.heap.size + 2) (w.heap.size + 4) 41 2 g.es.length (eventE g) s2 (by omega) C3.out.ts (by omega) E31.out (fun W i hz0 _ _ => absurd hz0 hbad2) rfl rfl rfl rfl rfl).mono ?_
    rintro e W4 ⟨⟨v4, rfl⟩, t4, x4⟩
    have C4 := Lib.hid (C3.out.kx x4 t4)
    obtain ⟨s3, hq⟩ : ∃ s, s = tellS s2 2 (eventE g) g.es.length := ⟨_, rfl⟩
    rw [← hq] at C4 HST
    have HQ2 := Lib.hid hq
    clear hq x4 t4 a0 a1 a2 a3
    obtain ⟨⟨a0, a1, a2, a3⟩, _⟩ := C4.out.cells
    go_wp2_with fail
    have hbad3 : ¬ s3.2.2 = 0 := fun e => hbad2 (by rw [HQ2.out] at e; exact (tellS_ok.1 e).1)
    refine (tell_go W4 (w.heap.size + 3) (w.heap.size + 2) (w.heap.size + 4) 42 3 g.rs.length (relE g) s3 (by omega) C4.out.ts (by omega) E32.out (fun W i hz0 _ _ => absurd hz0 hbad3) rfl rfl rfl rfl rfl).mono ?_
    rintro e W5 ⟨⟨v5, rfl⟩, t5, x5⟩
    have C5 := Lib.hid (C4.out.kx x5 t5)
    obtain ⟨s4, hq⟩ : ∃ s, s = tellS s3 3 (relE g) g.rs.length := ⟨_, rfl⟩
    rw [← hq] at C5 HST
    have HQ3 := Lib.hid hq
    clear hq x5 t5 a0 a1 a2 a3
    obtain ⟨⟨a0, a1, a2, a3⟩, _⟩ := C5.out.cells
    go_wp2_with fail
    have hbad4 : ¬ s4.2.2 = 0 := fun e => hbad3 (by rw [HQ3.out] at e; exact (tellS_ok.1 e).1)
    refine (tell_go W5 (w.heap.size + 3) (w.heap.size + 2) (w.heap.size + 4) 43 4 g.us.length (userE g) s4 (by omega) C5.out.ts (by omega) E33.out (fun W i hz0 _ _ => absurd hz0 hbad4) rfl rfl rfl rfl rfl).mono ?_
    rintro e W6 ⟨⟨v6, rfl⟩, t6, x6⟩
    have C6 := Lib.hid (C5.out.kx x6 t6)
    obtain ⟨s5, hq⟩ : ∃ s, s = tellS s4 4 (userE g) g.us.length := ⟨_, rfl⟩
    rw [← hq] at C6 HST
    have HQ4 := Lib.hid hq
    clear hq x6 t6 a0 a1 a2 a3
    obtain ⟨_, aE, ⟨aP0, aP1⟩, ⟨aR0, aR1⟩, fR0, fR1⟩ := C6.out.cells
    have HB := Lib.hid C6.out.bel
    go_wp2_with fail
    go_region
    all_goals go_wp2_with fail
    refine bodyPost_ret (v := .tuple #[.agg #[.int .i64 (s5.1 : Int), .int .i64 (s5.2.1 : Int)], .int .i64 (s5.2.2 : Int)]) (by simp [results, Try.results28, go_sem, aR0, aR1]) rfl ⟨by rw [HST.out], ?_⟩
    exact ((HB.out.setCell (p := ⟨w.heap.size + 1, 0, none⟩) (by simp) _).setCell (p := ⟨w.heap.size + 1, 1, none⟩) (by simp) _).drew
end Go.Proofs.Ytahhhhacoigpmaa

namespace Go.Proofs.Ytahhhhacoigpmaa
open Go.RowKit Go.Shelf
theorem MapFn.mono {w : World} {P : Program} {k e : TypeId} {b n m : Nat} {f : Lit → Option Nat} (h : MapFn w P k e b n f) (hn : n ≤ m) : MapFn w P k e b m f := by
  obtain ⟨D, h, hf⟩ := h; exact ⟨D, h.mono hn, hf⟩
theorem MapFn.update {w : World} {P : Program} {k e t : TypeId} {b n : Nat} {f : Lit → Option Nat} (h : MapFn w P k e b n f) (K : Maps.Keyed P k) (ht : P.underlying t = some (.map k e)) (he : P.underlying e = some (.int .i64)) (hn : n < maxLen) {key : Value} {kl : Lit} (hkey : keyOf P k key = some kl) (i : Nat) (hi : i ≤ 9223372036854775807) :
    ∃ w1, (Instr.mapUpdate t (.map (some b)) key (.int .i64 (i : Int))).run P w = .ok () w1 ∧ MapFn w1 P k e b (n + 1) (fun l => if l = kl then some i else f l) ∧ w.grownBy w1 (some b) := by
  obtain ⟨D, h, hf⟩ := h
  obtain ⟨w1, h1, h2, h3⟩ := h.update K ht hn hkey (val := .int .i64 (i : Int)) (plainElem_int he (WalkArith.wf_i64 (by omega)))
  exact ⟨w1, h1, MapFn.of_own hf h.isMap (K.key hkey) h2, h3⟩
end Go.Proofs.Ytahhhhacoigpmaa

namespace Go.Proofs.Ytahhhhacoigpmaa
open Go.RowKit Go.Shelf
theorem own_slice {w : World} {B e z n : Nat} {v : Value} {xs : List Value} (h : w.ownsRow B e z v n xs) : ∃ ao cap, v = .slice ao n cap := by
  rcases h.2 with ⟨hv, h0⟩ | ⟨g, cap, cur, hv, _⟩
  · exact ⟨none, 0, by rw [hv, h0]⟩
  · exact ⟨_, _, hv⟩
theorem own_below {w w1 : World} {B e z n : Nat} {v : Value} {xs : List Value} (h : w.ownsRow B e z v n xs) (hb : Below w.heap.size w w1) : w1.ownsRow B e z v n xs :=
  h.kept (row := none) ⟨hb.os, hb.tape, hb.output, hb.size, fun k hk _ => hb.block k hk⟩ (by cases hv : v.ownBlock <;> simp)
theorem own_base {w : World} {B B' e z n : Nat} {v : Value} {xs : List Value} (h : w.ownsRow B e z v n xs) (hB : B' ≤ B) : w.ownsRow B' e z v n xs := by
  refine ⟨h.1, ?_⟩
  rcases h.2 with h | ⟨g, cap, cur, h1, h2, h3⟩
  · exact .inl h
  · exact .inr ⟨g, cap, cur, h1, Nat.le_trans hB h2, h3⟩
def boxW (w : World) (g : Gr) : World := w.alloc (.cells #[.slice g.ga g.gs.length g.gc, .slice g.ea g.es.length g.ec, .slice g.ra g.rs.length g.rc, .slice g.ua g.us.length g.uc] 27)
theorem box_below (w : World) (g : Gr) : Below w.heap.size w (boxW w g) := (Below.refl _ _).alloc (Nat.le_refl _) _
theorem box_size (w : World) (g : Gr) : (boxW w g).heap.size = w.heap.size + 1 := by simp [boxW]
theorem box_cells {w w1 : World} {g : Gr} (hb : Below (w.heap.size + 1) (boxW w g) w1) : w1.cell? ⟨w.heap.size, 0, none⟩ = some (.slice g.ga g.gs.length g.gc) ∧ w1.cell? ⟨w.heap.size, 1, none⟩ = some (.slice g.ea g.es.length g.ec) ∧ w1.cell? ⟨w.heap.size, 2, none⟩ = some (.slice g.ra g.rs.length g.rc) ∧ w1.cell? ⟨w.heap.size, 3, none⟩ = some (.slice g.ua g.us.length g.uc) := by
  have hh : w1.heap[w.heap.size]? = some (.cells #[.slice g.ga g.gs.length g.gc, .slice g.ea g.es.length g.ec, .slice g.ra g.rs.length g.rc, .slice g.ua g.us.length g.uc] 27 (0, 0)) := (hb.block w.heap.size (by omega)).trans (heap_new _ _)
  exact ⟨cell_blk hh rfl, cell_blk hh rfl, cell_blk hh rfl, cell_blk hh rfl⟩
end Go.Proofs.Ytahhhhacoigpmaa

namespace Go.Proofs.Ytahhhhacoigpmaa
open Go.RowKit Go.Shelf
theorem flat_one {α : Type} {enc : α → List Value} (h : ∀ x, ∀ u ∈ enc x, u.oneCell' = true) (l : List α) : ∀ u ∈ l.flatMap enc, u.oneCell' = true := by
  intro u hu
  obtain ⟨x, _, hx⟩ := List.mem_flatMap.1 hu
  exact h x u hx
theorem one_st (x : ByteArray) : ∀ u ∈ stC x, u.oneCell' = true := by intro u hu; simp [stC] at hu; subst hu; rfl
theorem info_st : (Try.prog.info? 9).map (fun i => (i.zero, i.size, i.bytes)) = some (some (.string ⟨#[]⟩), 1, 16) := by kernel_rfl
set_option maxHeartbeats 1000000 in
theorem clone_st (A : Option Addr) (c : Nat) (l : List ByteArray) (w : World) (hr : Row w A (l.flatMap stC)) (hl : l.length * 16 ≤ 140737488351232) :
    Calls Try.prog 29 #[.slice A l.length c] w fun e w' => ∃ v, e = .returned v ∧ w'.ownsRow w.heap.size 9 1 v l.length (l.flatMap stC) ∧ Below w.heap.size w w' := by
  obtain ⟨i0, hi, hz0, hz1, hz2⟩ := info_parts info_st
  have HI := Lib.hid hi
  have HZ0 := Lib.hid hz0
  have HZ1 := Lib.hid hz1
  have HZ2 := Lib.hid hz2
  have q : ∀ (w : World) (a : Option Addr) (n c n' c' : Nat), (binOp .eql 43 (.slice a n c) (.slice none n' c')).run Try.prog w = .ok (.bool a.isNone) w := fun w a n c n' c' => Lib.run_eql_slice_nil w _ _ a n c n' c' Try.underlying43
  have hfl := flat_len stC 1 (fun _ => rfl) l
  clear hi hz0 hz1 hz2
  cases A with
  | none =>
    have h0 : l = [] := by
      cases l with
      | nil => rfl
      | cons t r =>
        obtain ⟨b, off, e, _⟩ := hr (fun e => by rw [e] at hfl; simp at hfl)
        cases e
    subst h0
    clear hfl
    go_enter Try.func29, Try.ntmps29
    go_wp2
    go_ret
    exact ⟨_, rfl, World.ownsRow_nil _ _ _ _, Below.refl _ _⟩
  | some ad =>
    have hc' : ∀ j u, (l.flatMap stC)[j]? = some u → (w.alloc (.cells #[] 9)).cell? (ad.add j) = some u := by
      intro j u hu
      have hne : l.flatMap stC ≠ [] := fun e => by rw [e, List.getElem?_nil] at hu; cases hu
      obtain ⟨b, off, e, hb, hcell⟩ := hr hne
      obtain rfl : ad = ⟨b, off, none⟩ := Option.some.inj e
      rw [Addr.add_lit]
      exact (World.cell?_alloc_lt _ _ ⟨b, off + j, none⟩ hb).trans (hcell j u hu)
    have hc := Lib.hid hc'
    clear hc'
    have HFL := Lib.hid hfl
    have H1 := Lib.hid (flat_one one_st l)
    clear hfl
    go_enter Try.func29, Try.ntmps29
    go_wp2_with (at_builtin; refine wpList_append_own _ rfl (.tmp 5) (.tmp 6) 43 rfl w.heap.size 9 i0 _ 1 16 Try.underlying43 HI.out HZ0.out HZ1.out HZ2.out rfl (by omega) _ _ _ rfl (World.ownsRow_made w #[] 0 (Nat.le_refl _) (Nat.zero_le _) (by simp)) ad l.length c (l.flatMap stC) rfl HFL.out ?c1 H1.out ?c3 ?c4 ?c5 ?_)
    case c1 => exact hc.out
    case c3 => unfold maxLen; omega
    case c4 => omega
    case c5 => simp
    intro v' w1 hown hgrow _
    go_wp2
    go_ret
    exact ⟨v', rfl, by simpa using hown, ((Below.refl _ w).alloc (Nat.le_refl _) _).grown hgrow (by simp) (by intro k hk; simp [Value.ownBlock] at hk; omega)⟩
end Go.Proofs.Ytahhhhacoigpmaa
