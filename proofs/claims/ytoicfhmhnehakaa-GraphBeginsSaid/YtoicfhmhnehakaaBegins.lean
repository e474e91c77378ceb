/-
  GraphBegins: for every graph the law answers true, and its argument reads as it did. Conditions: none.
-/
import Derived.Test.YtoicfhmhnehakaaRows
import Derived.Test.YtoicfhmhnehakaaGrAx
import Derived.Test.YtoicfhmhnehakaaGrLg
import Derived.Test.YtoicfhmhnehakaaGrPb
import Derived.Test.YtoicfhmhnehakaaGrOp
import Derived.ProofKit
import Derived.OpenShut
import Derived.Carry
import Derived.BigRegion
namespace Go.Proofs.Ytoicfhmhnehakaa.graphBegins
open Go.ChangeShapes Go.WideShapes Go.ChangeAt Go.RowKit

theorem check_ok (W : World) (c : Gr) (hI : InG W c) (hz : SzG c) (hcap : ∀ u ∈ c.us, u.roles.length ≤ u.rc) (hm : mayL c = true) :
    Calls Try.prog 11 #[.agg #[.slice c.ga c.gs.length c.gc, .slice c.ea c.es.length c.ec, .slice c.ra c.rs.length c.rc, .slice c.ua c.us.length c.uc]] W fun e w' => e = .returned (.tuple #[.agg #[.int .i64 0, .int .i64 0], .int .i64 0]) ∧ Below W.heap.size W w' :=
  (check_any W c hI hz hcap).mono fun e w' ⟨he, hb⟩ => ⟨by rw [he, may_check hm]; rfl, hb⟩
theorem Row.pre {α : Type} {en : α → List Value} {W : World} {A : Option Addr} {l : List α} {n : Nat} (h : Row W A (l.flatMap en)) : Row W A ((l.take n).flatMap en) := by
  intro hne
  have e : l.flatMap en = (l.take n).flatMap en ++ (l.drop n).flatMap en := by rw [← List.flatMap_append, List.take_append_drop]
  obtain ⟨b, off, h1, h2, h3⟩ := h (fun h0 => by rw [e] at h0; exact hne (List.append_eq_nil_iff.1 h0).1)
  refine ⟨b, off, h1, h2, fun j u hj => h3 j u ?_⟩
  rw [e, List.getElem?_append_left (List.getElem?_eq_some_iff.1 hj).1]; exact hj
/-- A part of a graph that may be: its call of Check. -/
theorem check_part (W : World) (g c : Gr) (a b d : Nat) (hI : InG W c) (hz : SzG c) (hs : SameG c g) (hm : mayL g = true) (ha : a ≤ c.gs.length) (hb : b ≤ c.es.length) (hd : d ≤ c.rs.length) (hcase : (b = 0 ∧ d = 0) ∨ (a = c.gs.length ∧ (d = 0 ∨ b = c.es.length))) (A1 A2 : Option Addr) (n1 n2 : Nat) (h1 : 0 < b → A1 = c.ea) (h2 : 0 < d → A2 = c.ra) :
    Calls Try.prog 11 #[.agg #[.slice c.ga a c.gc, .slice A1 b n1, .slice A2 d n2, .slice none 0 0]] W fun e w' => e = .returned (.tuple #[.agg #[.int .i64 0, .int .i64 0], .int .i64 0]) ∧ Below W.heap.size W w' := by
  have la : (c.gs.take a).length = a := by rw [List.length_take]; omega
  have lb : (c.es.take b).length = b := by rw [List.length_take]; omega
  have ld : (c.rs.take d).length = d := by rw [List.length_take]; omega
  have hmay : mayL ⟨c.gs.take a, c.es.take b, c.rs.take d, [], c.ga, c.gc, A1, n1, A2, n2, none, 0⟩ = true := by
    rcases hcase with ⟨hb0, hd0⟩ | ⟨ha0, hor⟩
    · refine may_groups hm (a := a) (by rw [← hs.gs]; exact ha) (by rw [hs.gs]) ?_ ?_ rfl
      · show c.es.take b = []; rw [hb0]; rfl
      · show c.rs.take d = []; rw [hd0]; rfl
    · refine may_begin hm (b := b) (d := d) (by rw [← hs.es]; exact hb) (by rw [← hs.rs]; exact hd) (by rw [← hs.es]; exact hor) ?_ (by rw [hs.es]) (by rw [hs.rs]) rfl
      show c.gs.take a = g.gs
      rw [ha0, List.take_length, hs.gs]
  have h := check_ok W ⟨c.gs.take a, c.es.take b, c.rs.take d, [], c.ga, c.gc, A1, n1, A2, n2, none, 0⟩
    ⟨Row.pre hI.gs, by
      rcases Nat.eq_zero_or_pos b with h0 | h0
      · show Row W A1 ((c.es.take b).flatMap evC); rw [h0]; exact fun h => absurd rfl h
      · show Row W A1 ((c.es.take b).flatMap evC); rw [h1 h0]; exact Row.pre hI.es, by
      rcases Nat.eq_zero_or_pos d with h0 | h0
      · show Row W A2 ((c.rs.take d).flatMap rlC); rw [h0]; exact fun h => absurd rfl h
      · show Row W A2 ((c.rs.take d).flatMap rlC); rw [h2 h0]; exact Row.pre hI.rs, fun h => absurd rfl h, fun u hu => by cases hu⟩
    ⟨by have := hz.gs; show (c.gs.take a).length * 32 ≤ _; omega, by have := hz.es; show (c.es.take b).length * 64 ≤ _; omega, by have := hz.rs; show (c.rs.take d).length * 48 ≤ _; omega, by show ([] : List Us).length * 56 ≤ _; simp,
      fun p hp => hz.gp p (List.mem_of_mem_take hp), fun p hp => hz.ev p (List.mem_of_mem_take hp), fun p hp => hz.rl p (List.mem_of_mem_take hp), fun u hu => by cases hu⟩ (fun u hu => by cases hu) hmay
  simp only [la, lb, ld] at h
  exact h

/-- The clone's box, and all that came before it. -/
structure CB (w4 : World) (b : Nat) (x0 x1 x2 x3 : Value) (W : World) : Prop where
  old : Below w4.heap.size w4 W
  at_ : w4.heap.size ≤ b
  box : W.heap[b]? = some (.cells #[x0, x1, x2, x3] 27 (0, 0))
theorem cb_new (w4 : World) (x0 x1 x2 x3 : Value) : CB w4 w4.heap.size x0 x1 x2 x3 (w4.alloc (.cells #[x0, x1, x2, x3] 27)) := ⟨(Below.refl _ _).alloc (Nat.le_refl _) _, Nat.le_refl _, heap_new _ _⟩
theorem CB.call {w4 W W' : World} {b : Nat} {x0 x1 x2 x3 : Value} (h : CB w4 b x0 x1 x2 x3 W) (hb : Below W.heap.size W W') : CB w4 b x0 x1 x2 x3 W' :=
  ⟨h.old.trans (hb.mono h.old.size), h.at_, (hb.block _ (Array.getElem?_eq_some_iff.1 h.box).1).trans h.box⟩
theorem CB.alloc {w4 W : World} {b : Nat} {x0 x1 x2 x3 : Value} (h : CB w4 b x0 x1 x2 x3 W) (o : Obj) : CB w4 b x0 x1 x2 x3 (W.alloc o) := ⟨h.old.alloc h.old.size o, h.at_, hA_old h.box⟩
theorem CB.drew {w4 W : World} {b : Nat} {x0 x1 x2 x3 : Value} (h : CB w4 b x0 x1 x2 x3 W) (n : Nat) : CB w4 b x0 x1 x2 x3 (W.drewN n) := ⟨⟨h.old.os, h.old.tape, h.old.output, h.old.size, h.old.block⟩, h.at_, h.box⟩
theorem CB.drew1 {w4 W : World} {b : Nat} {x0 x1 x2 x3 : Value} (h : CB w4 b x0 x1 x2 x3 W) : CB w4 b x0 x1 x2 x3 W.drew := ⟨⟨h.old.os, h.old.tape, h.old.output, h.old.size, h.old.block⟩, h.at_, h.box⟩
theorem CB.set0 {w4 W : World} {b : Nat} {x0 x1 x2 x3 : Value} (h : CB w4 b x0 x1 x2 x3 W) (y : Value) : CB w4 b y x1 x2 x3 (W.setCell ⟨b, 0, none⟩ y) := ⟨h.old.setCell h.at_ _, h.at_, blk_set h.box⟩
theorem CB.set1 {w4 W : World} {b : Nat} {x0 x1 x2 x3 : Value} (h : CB w4 b x0 x1 x2 x3 W) (y : Value) : CB w4 b x0 y x2 x3 (W.setCell ⟨b, 1, none⟩ y) := ⟨h.old.setCell h.at_ _, h.at_, blk_set h.box⟩
theorem CB.set2 {w4 W : World} {b : Nat} {x0 x1 x2 x3 : Value} (h : CB w4 b x0 x1 x2 x3 W) (y : Value) : CB w4 b x0 x1 y x3 (W.setCell ⟨b, 2, none⟩ y) := ⟨h.old.setCell h.at_ _, h.at_, blk_set h.box⟩
theorem CB.cells {w4 W : World} {b : Nat} {x0 x1 x2 x3 : Value} (h : CB w4 b x0 x1 x2 x3 W) : W.cell? ⟨b, 0, none⟩ = some x0 ∧ W.cell? ⟨b, 1, none⟩ = some x1 ∧ W.cell? ⟨b, 2, none⟩ = some x2 ∧ W.cell? ⟨b, 3, none⟩ = some x3 ∧ W.frozen? ⟨b, 0, none⟩ = false ∧ W.frozen? ⟨b, 1, none⟩ = false ∧ W.frozen? ⟨b, 2, none⟩ = false ∧ b < W.heap.size :=
  ⟨cell_blk h.box rfl, cell_blk h.box rfl, cell_blk h.box rfl, cell_blk h.box rfl, frozen_blk h.box, frozen_blk h.box, frozen_blk h.box, (Array.getElem?_eq_some_iff.1 h.box).1⟩

theorem code_false (g : Gr) : mayL g = false → (((checkL g).2.2 : Int) != 0) = true := by
  intro h; rw [bne_iff_ne]; simp only [mayL, decide_eq_false_iff_not] at h; omega

set_option maxRecDepth 100000 in
set_option maxHeartbeats 8000000 in
theorem walk (w : World) (g : Gr) (hI : InG w g) (hz : SzG g) (hcap : ∀ u ∈ g.us, u.roles.length ≤ u.rc) :
    Calls Try.prog 4 #[.agg #[.slice g.ga g.gs.length g.gc, .slice g.ea g.es.length g.ec, .slice g.ra g.rs.length g.rc, .slice g.ua g.us.length g.uc]] w fun e w' => e = .returned (.bool true) ∧ Below w.heap.size w w' := by
  have HI := Lib.hid hI
  have HZ := Lib.hid hz
  have HC := Lib.hid hcap
  have B0 : Hid (Below (w.heap.size + 1) (boxW w g) (boxW w g)) := Lib.hid (Below.refl _ _)
  have hs0 := box_size w g
  have HS0 := Lib.hid hs0
  clear hI hz hcap hs0
  go_enter Try.func4, Try.ntmps4
  go_wp2_with fail
  refine (awake_any _).mono ?_
  rintro e w1 ⟨rfl, hb1⟩
  have X1 : Hid (Below (w.heap.size + 1) (boxW w g) w1) := Lib.hid (hb1.mono (by have h := HS0.out; simp only [boxW] at h; rw [h]; exact Nat.le_refl _))
  have y1 : w.heap.size + 1 ≤ w1.heap.size := by have := X1.out.size; rw [HS0.out] at this; exact this
  obtain ⟨a0, a1, a2, a3⟩ := box_cells X1.out
  clear hb1
  go_wp2_with fail
  refine (large_any w1 g (HI.out.below (Nat.le_refl _) (box_old X1.out)) HZ.out).mono ?_
  rintro e w2 ⟨b, rfl, hsm, hb2⟩
  have X2 := Lib.hid (X1.out.trans (hb2.mono y1))
  have y2 := hb2.size
  have HSM := Lib.hid hsm
  clear a0 a1 a2 a3 hb2 hsm
  cases b with
  | true =>
    go_wp2_with fail
    go_ret
    exact ⟨rfl, box_old X2.out⟩
  | false =>
    clear HSM
    obtain ⟨a0, a1, a2, a3⟩ := box_cells X2.out
    go_wp2_with fail
    cases hm : mayL g with
    | false =>
      have C := Lib.hid (check_any w2 g (HI.out.below (Nat.le_refl _) (box_old X2.out)) HZ.out HC.out)
      have hcode := code_false g hm
      clear hm
      generalize checkL g = s at *
      refine C.out.mono ?_
      rintro e w3 ⟨rfl, hb3⟩
      go_wp2_with fail
      go_ret
      exact ⟨rfl, ((box_old X2.out).trans (hb3.mono (box_old X2.out).size)).alloc (by have := hb3.size; omega) _⟩
    | true =>
      have HM := Lib.hid hm
      have C := Lib.hid (check_ok w2 g (HI.out.below (Nat.le_refl _) (box_old X2.out)) HZ.out HC.out hm)
      clear hm
      refine C.out.mono ?_
      rintro e w3 ⟨rfl, hb3⟩
      have X3 := Lib.hid (X2.out.trans (hb3.mono (by omega)))
      have y3 := hb3.size
      clear a0 a1 a2 a3 hb3 C
      obtain ⟨a0, a1, a2, a3⟩ := box_cells X3.out
      have l3 : w.heap.size < w3.heap.size := by omega
      go_wp2_with fail
      refine (gclone_any _ g (HI.out.below (Nat.le_refl _) ((box_old X3.out).alloc (by omega) _)) HZ.out).mono ?_
      rintro e w4 ⟨c, rfl, hs, ho, hb4⟩
      have B4 : Hid (Below w.heap.size w w4) := Lib.hid (((box_old X3.out).alloc (by omega) _).trans (hb4.mono (by simp; omega)))
      have HS := Lib.hid hs
      have HO := Lib.hid ho
      have hz4 := hs.sz HZ.out
      have HZ4 := Lib.hid hz4
      have zr := hz4.rs
      have ze := hz4.es
      have zg := hz4.gs
      have hcr := (own_cap' ho.rs).1
      have hce := (own_cap' ho.es).1
      have hcg := (own_cap' ho.gs).1
      have HB4 : Hid (CB w4 w4.heap.size (.slice c.ga c.gs.length c.gc) (.slice c.ea c.es.length c.ec) (.slice c.ra c.rs.length c.rc) (.slice c.ua c.us.length c.uc) (w4.alloc (.cells #[.slice c.ga c.gs.length c.gc, .slice c.ea c.es.length c.ec, .slice c.ra c.rs.length c.rc, .slice c.ua c.us.length c.uc] 27))) :=
        Lib.hid ⟨(Below.refl _ _).alloc (Nat.le_refl _) _, Nat.le_refl _, heap_new _ _⟩
      clear a0 a1 a2 a3 hb4 hs ho hz4
      obtain ⟨rn, hrn⟩ : ∃ rn, c.rs.length = rn := ⟨_, rfl⟩
      obtain ⟨en, hen⟩ : ∃ en, c.es.length = en := ⟨_, rfl⟩
      obtain ⟨gn, hgn⟩ : ∃ gn, c.gs.length = gn := ⟨_, rfl⟩
      rw [hrn, hen, hgn] at HB4 ⊢
      rw [hrn] at zr hcr
      rw [hen] at ze hce
      rw [hgn] at zg hcg
      have HRN := Lib.hid hrn
      have HEN := Lib.hid hen
      have HGN := Lib.hid hgn
      clear hrn hen hgn
      have PART : Hid (∀ (W : World) (a b d : Nat), Below w4.heap.size w4 W → a ≤ gn → b ≤ en → d ≤ rn → ((b = 0 ∧ d = 0) ∨ (a = gn ∧ (d = 0 ∨ b = en))) → ∀ (A1 A2 : Option Addr) (n1 n2 : Nat), (0 < b → A1 = c.ea) → (0 < d → A2 = c.ra) →
          Calls Try.prog 11 #[.agg #[.slice c.ga a c.gc, .slice A1 b n1, .slice A2 d n2, .slice none 0 0]] W fun e w' => e = .returned (.tuple #[.agg #[.int .i64 0, .int .i64 0], .int .i64 0]) ∧ Below W.heap.size W w') := Lib.hid (fun W a b d hW h1 h2 h3 h4 A1 A2 n1 n2 h5 h6 =>
        check_part W g c a b d (HO.out.inG.below (Nat.le_refl _) hW) HZ4.out HS.out HM.out (by rw [HGN.out]; exact h1) (by rw [HEN.out]; exact h2) (by rw [HRN.out]; exact h3) (by rw [HGN.out, HEN.out]; exact h4) A1 A2 n1 n2 h5 h6)
      have Y4 := B4.out.size
      clear HI HZ HC HS HO HZ4 HM HRN HEN HGN X1 X2 X3
      have FIN : Hid (∀ W, Below w4.heap.size w4 W → Below w.heap.size w W) := Lib.hid (fun W h => B4.out.trans (h.mono Y4))
      clear B4
      rcases rn with _ | rn
      · go_wp2_with fail
        refine (PART.out _ gn en 0 (cb_new w4 _ _ _ _).old (Nat.le_refl _) (Nat.le_refl _) (Nat.le_refl _) (.inr ⟨rfl, .inr rfl⟩) _ _ _ _ (fun _ => rfl) (fun _ => rfl)).mono ?_
        rintro e w5 ⟨rfl, hb5⟩
        have C5 := Lib.hid (CB.call (cb_new w4 _ _ _ _) hb5)
        obtain ⟨c0, c1, c2, c3, f0, f1, f2, lb⟩ := C5.out.cells
        clear hb5 HB4
        rcases en with _ | en
        · go_wp2_with fail
          refine (PART.out _ gn 0 0 ((C5.out.set2 _).alloc _).old (Nat.le_refl _) (Nat.le_refl _) (Nat.zero_le _) (.inr ⟨rfl, .inl rfl⟩) _ _ _ _ (fun _ => rfl) (fun h => absurd h (Nat.lt_irrefl 0))).mono ?_
          rintro e w6 ⟨rfl, hb6⟩
          have C6 := Lib.hid (CB.call ((C5.out.set2 _).alloc _) hb6)
          clear hb6 c0 c1 c2 c3 f0 f1 f2 lb C5
          have C7 := Lib.hid (C6.out.alloc (.cells #[.int .i64 0, .int .i64 0] 42))
          have K6 := C6.out.cells
          obtain ⟨c0, c1, c2, c3, f0, f1, f2, lb⟩ := K6
          go_wp2_with fail
          obtain ⟨W7, hW7⟩ : ∃ W7, W7 = w6.alloc (.cells #[.int .i64 0, .int .i64 0] 42) := ⟨_, rfl⟩
          rw [← hW7] at C7 ⊢
          clear c0 c1 c2 c3 f0 f1 f2 lb hW7 C6
          obtain ⟨c0, c1, c2, c3, f0, f1, f2, lb⟩ := C7.out.cells
          have q1 : Int.tdiv (gn : Int) 2 = ((gn / 2 : Nat) : Int) := by rw [Int.tdiv_eq_ediv_of_nonneg (by omega)]; omega
          have q2 : (gn : Int) / 2 = ((gn / 2 : Nat) : Int) := by omega
          have q3 : gn / 2 ≤ gn := Nat.div_le_self _ _
          have q4 : (0 : Int) ≤ ((gn / 2 : Nat) : Int) := Int.natCast_nonneg _
          have q5 : ((gn / 2 : Nat) : Int) ≤ (c.gc : Int) := by omega
          generalize gn / 2 = gm at *
          go_region
          have C8 := Lib.hid (((C7.out.set1 (.slice none 0 0)).set0 (.slice c.ga gm c.gc)).drew1)
          obtain ⟨W8, hW8⟩ : ∃ W8, W8 = ((W7.setCell ⟨w4.heap.size, 1, none⟩ (.slice none 0 0)).setCell ⟨w4.heap.size, 0, none⟩ (.slice c.ga gm c.gc)).drew := ⟨_, rfl⟩
          rw [← hW8] at C8 ⊢
          clear c0 c1 c2 c3 f0 f1 f2 lb hW8 C7 q1 q2 q4 q5
          obtain ⟨c0, c1, c2, c3, f0, f1, f2, lb⟩ := C8.out.cells
          go_wp2_with fail
          refine (PART.out _ gm 0 0 C8.out.old q3 (Nat.zero_le _) (Nat.zero_le _) (.inl ⟨rfl, rfl⟩) none none 0 0 (fun h => absurd h (Nat.lt_irrefl 0)) (fun h => absurd h (Nat.lt_irrefl 0))).mono ?_
          rintro e w9 ⟨rfl, hb9⟩
          have C9 := Lib.hid ((CB.call C8.out hb9).alloc (.cells #[.int .i64 0, .int .i64 0] 42))
          clear hb9 c0 c1 c2 c3 f0 f1 f2 lb C8
          go_wp2_with fail
          go_ret
          exact ⟨rfl, FIN.out _ C9.out.old⟩
        · go_wp2_with fail
          refine (PART.out _ gn en 0 (((C5.out.set2 _).set1 _).alloc _).old (Nat.le_refl _) (Nat.le_succ _) (Nat.zero_le _) (.inr ⟨rfl, .inl rfl⟩) _ _ _ _ (fun _ => rfl) (fun h => absurd h (Nat.lt_irrefl 0))).mono ?_
          rintro e w6 ⟨rfl, hb6⟩
          have C6 := Lib.hid (CB.call (((C5.out.set2 _).set1 _).alloc _) hb6)
          clear hb6 c0 c1 c2 c3 f0 f1 f2 lb C5
          have C7 := Lib.hid (C6.out.alloc (.cells #[.int .i64 0, .int .i64 0] 42))
          have K6 := C6.out.cells
          obtain ⟨c0, c1, c2, c3, f0, f1, f2, lb⟩ := K6
          go_wp2_with fail
          obtain ⟨W7, hW7⟩ : ∃ W7, W7 = w6.alloc (.cells #[.int .i64 0, .int .i64 0] 42) := ⟨_, rfl⟩
          rw [← hW7] at C7 ⊢
          clear c0 c1 c2 c3 f0 f1 f2 lb hW7 C6
          obtain ⟨c0, c1, c2, c3, f0, f1, f2, lb⟩ := C7.out.cells
          have q1 : Int.tdiv (gn : Int) 2 = ((gn / 2 : Nat) : Int) := by rw [Int.tdiv_eq_ediv_of_nonneg (by omega)]; omega
          have q2 : (gn : Int) / 2 = ((gn / 2 : Nat) : Int) := by omega
          have q3 : gn / 2 ≤ gn := Nat.div_le_self _ _
          have q4 : (0 : Int) ≤ ((gn / 2 : Nat) : Int) := Int.natCast_nonneg _
          have q5 : ((gn / 2 : Nat) : Int) ≤ (c.gc : Int) := by omega
          generalize gn / 2 = gm at *
          go_region
          have C8 := Lib.hid (((C7.out.set1 (.slice none 0 0)).set0 (.slice c.ga gm c.gc)).drew1)
          obtain ⟨W8, hW8⟩ : ∃ W8, W8 = ((W7.setCell ⟨w4.heap.size, 1, none⟩ (.slice none 0 0)).setCell ⟨w4.heap.size, 0, none⟩ (.slice c.ga gm c.gc)).drew := ⟨_, rfl⟩
          rw [← hW8] at C8 ⊢
          clear c0 c1 c2 c3 f0 f1 f2 lb hW8 C7 q1 q2 q4 q5
          obtain ⟨c0, c1, c2, c3, f0, f1, f2, lb⟩ := C8.out.cells
          go_wp2_with fail
          refine (PART.out _ gm 0 0 C8.out.old q3 (Nat.zero_le _) (Nat.zero_le _) (.inl ⟨rfl, rfl⟩) none none 0 0 (fun h => absurd h (Nat.lt_irrefl 0)) (fun h => absurd h (Nat.lt_irrefl 0))).mono ?_
          rintro e w9 ⟨rfl, hb9⟩
          have C9 := Lib.hid ((CB.call C8.out hb9).alloc (.cells #[.int .i64 0, .int .i64 0] 42))
          clear hb9 c0 c1 c2 c3 f0 f1 f2 lb C8
          go_wp2_with fail
          go_ret
          exact ⟨rfl, FIN.out _ C9.out.old⟩
      · go_wp2_with fail
        refine (PART.out _ gn en rn (cb_new w4 _ _ _ _).old (Nat.le_refl _) (Nat.le_refl _) (Nat.le_succ _) (.inr ⟨rfl, .inr rfl⟩) _ _ _ _ (fun _ => rfl) (fun _ => rfl)).mono ?_
        rintro e w5 ⟨rfl, hb5⟩
        have C5 := Lib.hid (CB.call (cb_new w4 _ _ _ _) hb5)
        obtain ⟨c0, c1, c2, c3, f0, f1, f2, lb⟩ := C5.out.cells
        clear hb5 HB4
        rcases en with _ | en
        · go_wp2_with fail
          refine (PART.out _ gn 0 0 ((C5.out.set2 _).alloc _).old (Nat.le_refl _) (Nat.le_refl _) (Nat.zero_le _) (.inr ⟨rfl, .inl rfl⟩) _ _ _ _ (fun _ => rfl) (fun h => absurd h (Nat.lt_irrefl 0))).mono ?_
          rintro e w6 ⟨rfl, hb6⟩
          have C6 := Lib.hid (CB.call ((C5.out.set2 _).alloc _) hb6)
          clear hb6 c0 c1 c2 c3 f0 f1 f2 lb C5
          have C7 := Lib.hid (C6.out.alloc (.cells #[.int .i64 0, .int .i64 0] 42))
          have K6 := C6.out.cells
          obtain ⟨c0, c1, c2, c3, f0, f1, f2, lb⟩ := K6
          go_wp2_with fail
          obtain ⟨W7, hW7⟩ : ∃ W7, W7 = w6.alloc (.cells #[.int .i64 0, .int .i64 0] 42) := ⟨_, rfl⟩
          rw [← hW7] at C7 ⊢
          clear c0 c1 c2 c3 f0 f1 f2 lb hW7 C6
          obtain ⟨c0, c1, c2, c3, f0, f1, f2, lb⟩ := C7.out.cells
          have q1 : Int.tdiv (gn : Int) 2 = ((gn / 2 : Nat) : Int) := by rw [Int.tdiv_eq_ediv_of_nonneg (by omega)]; omega
          have q2 : (gn : Int) / 2 = ((gn / 2 : Nat) : Int) := by omega
          have q3 : gn / 2 ≤ gn := Nat.div_le_self _ _
          have q4 : (0 : Int) ≤ ((gn / 2 : Nat) : Int) := Int.natCast_nonneg _
          have q5 : ((gn / 2 : Nat) : Int) ≤ (c.gc : Int) := by omega
          generalize gn / 2 = gm at *
          go_region
          have C8 := Lib.hid (((C7.out.set1 (.slice none 0 0)).set0 (.slice c.ga gm c.gc)).drew1)
          obtain ⟨W8, hW8⟩ : ∃ W8, W8 = ((W7.setCell ⟨w4.heap.size, 1, none⟩ (.slice none 0 0)).setCell ⟨w4.heap.size, 0, none⟩ (.slice c.ga gm c.gc)).drew := ⟨_, rfl⟩
          rw [← hW8] at C8 ⊢
          clear c0 c1 c2 c3 f0 f1 f2 lb hW8 C7 q1 q2 q4 q5
          obtain ⟨c0, c1, c2, c3, f0, f1, f2, lb⟩ := C8.out.cells
          go_wp2_with fail
          refine (PART.out _ gm 0 0 C8.out.old q3 (Nat.zero_le _) (Nat.zero_le _) (.inl ⟨rfl, rfl⟩) none none 0 0 (fun h => absurd h (Nat.lt_irrefl 0)) (fun h => absurd h (Nat.lt_irrefl 0))).mono ?_
          rintro e w9 ⟨rfl, hb9⟩
          have C9 := Lib.hid ((CB.call C8.out hb9).alloc (.cells #[.int .i64 0, .int .i64 0] 42))
          clear hb9 c0 c1 c2 c3 f0 f1 f2 lb C8
          go_wp2_with fail
          go_ret
          exact ⟨rfl, FIN.out _ C9.out.old⟩
        · go_wp2_with fail
          refine (PART.out _ gn en 0 (((C5.out.set2 _).set1 _).alloc _).old (Nat.le_refl _) (Nat.le_succ _) (Nat.zero_le _) (.inr ⟨rfl, .inl rfl⟩) _ _ _ _ (fun _ => rfl) (fun h => absurd h (Nat.lt_irrefl 0))).mono ?_
          rintro e w6 ⟨rfl, hb6⟩
          have C6 := Lib.hid (CB.call (((C5.out.set2 _).set1 _).alloc _) hb6)
          clear hb6 c0 c1 c2 c3 f0 f1 f2 lb C5
          have C7 := Lib.hid (C6.out.alloc (.cells #[.int .i64 0, .int .i64 0] 42))
          have K6 := C6.out.cells
          obtain ⟨c0, c1, c2, c3, f0, f1, f2, lb⟩ := K6
          go_wp2_with fail
          obtain ⟨W7, hW7⟩ : ∃ W7, W7 = w6.alloc (.cells #[.int .i64 0, .int .i64 0] 42) := ⟨_, rfl⟩
          rw [← hW7] at C7 ⊢
          clear c0 c1 c2 c3 f0 f1 f2 lb hW7 C6
          obtain ⟨c0, c1, c2, c3, f0, f1, f2, lb⟩ := C7.out.cells
          have q1 : Int.tdiv (gn : Int) 2 = ((gn / 2 : Nat) : Int) := by rw [Int.tdiv_eq_ediv_of_nonneg (by omega)]; omega
          have q2 : (gn : Int) / 2 = ((gn / 2 : Nat) : Int) := by omega
          have q3 : gn / 2 ≤ gn := Nat.div_le_self _ _
          have q4 : (0 : Int) ≤ ((gn / 2 : Nat) : Int) := Int.natCast_nonneg _
          have q5 : ((gn / 2 : Nat) : Int) ≤ (c.gc : Int) := by omega
          generalize gn / 2 = gm at *
          go_region
          have C8 := Lib.hid (((C7.out.set1 (.slice none 0 0)).set0 (.slice c.ga gm c.gc)).drew1)
          obtain ⟨W8, hW8⟩ : ∃ W8, W8 = ((W7.setCell ⟨w4.heap.size, 1, none⟩ (.slice none 0 0)).setCell ⟨w4.heap.size, 0, none⟩ (.slice c.ga gm c.gc)).drew := ⟨_, rfl⟩
          rw [← hW8] at C8 ⊢
          clear c0 c1 c2 c3 f0 f1 f2 lb hW8 C7 q1 q2 q4 q5
          obtain ⟨c0, c1, c2, c3, f0, f1, f2, lb⟩ := C8.out.cells
          go_wp2_with fail
          refine (PART.out _ gm 0 0 C8.out.old q3 (Nat.zero_le _) (Nat.zero_le _) (.inl ⟨rfl, rfl⟩) none none 0 0 (fun h => absurd h (Nat.lt_irrefl 0)) (fun h => absurd h (Nat.lt_irrefl 0))).mono ?_
          rintro e w9 ⟨rfl, hb9⟩
          have C9 := Lib.hid ((CB.call C8.out hb9).alloc (.cells #[.int .i64 0, .int .i64 0] 42))
          clear hb9 c0 c1 c2 c3 f0 f1 f2 lb C8
          go_wp2_with fail
          go_ret
          exact ⟨rfl, FIN.out _ C9.out.old⟩

theorem own : ownKnob Try.prog.godebug = none := by kernel_rfl
set_option maxRecDepth 100000 in
theorem lifted (os : Os) (started : os.Started) (H : Type) (enc : TypeId × Value → H) :
    ReturnsInHanded {} Try.checked os 4 .any (Rows.graphBeginsSpec.pre6 enc Try.prog Try.f4 Rows.graphBeginsRow.domain false) (Rows.graphBeginsSpec.post enc Try.prog Try.f4 false true false false) := by
  refine returnsInHanded_of_change_sized (C := Try.checked) own started (by kernel_rfl) Try.func4
    (ChangeSpec.witness6 (enc := enc) (C := Try.checked) false ⟨#[], #[.agg #[.slice none 0 0, .slice none 0 0, .slice none 0 0, .slice none 0 0]], []⟩ 8 (by kernel_rfl) (by kernel_rfl) (by kernel_rfl) (by kernel_rfl)) ?_
  intro W base args ds gs before hval0 hW _ hsz0 _
  have hsz : (DataW.weightsEach Try.prog (Try.f4.params.toList ++ Rows.graphBeginsSpec.plain.varTypes Try.prog) (ds ++ gs)).all (· ≤ reachBytes) = true := hsz0
  have hval : ∀ (j : Nat) t v, Try.f4.params[j]? = some t → args[j]? = some v → Value.okWide Try.prog W .any base t v := hval0
  have hW' := hW
  obtain ⟨p, q, hA0, hV, rfl, _, _⟩ := hW
  have hA : DataW.TrodAll enc Try.prog W 0 (fun _ => true) true Try.f4.params.toList args.toList ds p := hA0
  rw [Try.params4] at hA hval hsz
  obtain ⟨v0, vs0, d0, ds0, p0, q0, hargs, rfl, rfl, h0, r0⟩ := trodAll_cons hA
  obtain ⟨rfl, rfl, rfl⟩ := trodAll_nil r0
  obtain rfl : args = #[v0] := by cases args; simp_all
  obtain ⟨rfl, rfl⟩ := trodVars_none hV
  have hw0 : Wt Try.prog 27 d0 := Wt.of hsz (j := 0) rfl rfl
  obtain ⟨g, rfl, hI, hz, hcap, hnil, _⟩ := open_graph (hval 0 _ v0 rfl rfl) h0 hw0
  clear hA0 hval0 hsz0
  simp only [List.append_nil] at hW'
  have hlt : ∀ x ∈ p0, x.block < W.heap.size := fun x hx => hW'.lt x hx
  refine (walk W g hI hz hcap).mono fun e W' ⟨he, hg⟩ => ?_
  subst he
  have hargs := trodAll_cons_mk (Below.trod progLaid (by kernel_rfl) (of_decide_eq_true (by kernel_rfl)) h0 hg hlt) (trodAll_mk0 (enc := enc) (P := Try.prog) (w := W'))
  rw [List.append_nil] at hargs
  exact ⟨_, rfl, _, _, _, [], p0, [], hW', trodAll_cons_mk (shut_bool Try.underlying4 _) trodAll_mk0, hargs, rfl, hg.frame _, fun h => by cases h⟩

theorem proved : Rows.GraphBeginsSaid :=
  OpenClaim.holds_of_wide 4 Try.f4 rfl rfl rfl rfl rfl rfl rfl ⟨rfl, rfl, rfl, rfl, rfl⟩ rfl rfl rfl rfl rfl (by kernel_rfl) Try.func4 (by kernel_rfl)
    (of_decide_eq_true (by kernel_rfl)) (by unfold Func.isWrapper; first | (rw [if_pos (by decide +kernel)]; kernel_rfl) | (rw [if_neg (by decide +kernel)]; exact ⟨rfl, rfl⟩))
    (fun os started H enc _ => lifted os started H enc)
end Go.Proofs.Ytoicfhmhnehakaa.graphBegins
