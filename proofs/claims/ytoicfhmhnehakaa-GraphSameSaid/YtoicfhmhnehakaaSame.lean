/-
  GraphSame: for any two graphs the law answers true, and its arguments read as they did. Conditions: none.
-/
import Derived.Test.YtoicfhmhnehakaaRows
import Derived.Test.YtoicfhmhnehakaaGrAx
import Derived.Test.YtoicfhmhnehakaaGrMu
import Derived.Test.YtoicfhmhnehakaaGrOp
import Derived.ProofKit
import Derived.OpenShut
import Derived.Carry
namespace Go.Proofs.Ytoicfhmhnehakaa.graphSame
open Go.ChangeShapes Go.WideShapes Go.ChangeAt Go.RowKit

/-- Behind the clone's box. -/
structure RB (W5 W : World) : Prop where
  b : Below W5.heap.size W5 W
theorem rb_begin (W : World) : RB W W := ⟨Below.refl _ _⟩
theorem rb_drew {W5 W : World} (h : RB W5 W) : RB W5 W.drew := ⟨⟨h.b.os, h.b.tape, h.b.output, h.b.size, h.b.block⟩⟩
theorem rb_call {W5 W W' : World} (hb : Below W.heap.size W W') (h : RB W5 W) : RB W5 W' := ⟨h.b.trans (hb.mono h.b.size)⟩
def Box (W : World) (b : Nat) (g : Gr) : Prop := W.heap[b]? = some (.cells #[.slice g.ga g.gs.length g.gc, .slice g.ea g.es.length g.ec, .slice g.ra g.rs.length g.rc, .slice g.ua g.us.length g.uc] 27 (0, 0))
theorem Box.below {W W' : World} {b : Nat} {g : Gr} (h : Box W b g) (hb : Below W.heap.size W W') : Box W' b g := (hb.block _ (Array.getElem?_eq_some_iff.1 h).1).trans h
theorem Box.cells {W : World} {b : Nat} {g : Gr} (h : Box W b g) : W.cell? ⟨b, 0, none⟩ = some (.slice g.ga g.gs.length g.gc) ∧ W.cell? ⟨b, 1, none⟩ = some (.slice g.ea g.es.length g.ec) ∧ W.cell? ⟨b, 2, none⟩ = some (.slice g.ra g.rs.length g.rc) ∧ W.cell? ⟨b, 3, none⟩ = some (.slice g.ua g.us.length g.uc) :=
  ⟨cell_blk h rfl, cell_blk h rfl, cell_blk h rfl, cell_blk h rfl⟩
theorem Box.lt {W : World} {b : Nat} {g : Gr} (h : Box W b g) : b < W.heap.size := (Array.getElem?_eq_some_iff.1 h).1
theorem Box.mu {lo hi b : Nat} {W8 W : World} {g : Gr} (h : Box W8 b g) (hm : MU lo hi W8 W) (ho : b < lo ∨ hi ≤ b) : Box W b g := hm.blk h ho
theorem two_box {w w1 : World} {a b : Gr} (hb : Below (w.heap.size + 2) (boxW (boxW w a) b) w1) : Box w1 w.heap.size a ∧ Box w1 (w.heap.size + 1) b := by
  have hz := box_size w a
  constructor
  · refine (hb.block _ (by omega)).trans ((Below.heap_alloc _ _ _ (by rw [hz]; omega)).trans (heap_new _ _))
  · refine (hb.block _ (by omega)).trans ?_
    rw [← hz]; exact heap_new _ _
theorem s_all {W5 W : World} {x y z : Nat} {a b c : Gr} (h : Hid (Box W5 x a ∧ Box W5 y b ∧ Box W5 z c)) (hr : RB W5 W) : RB W5 W ∧
    (W.cell? ⟨x, 0, none⟩ = some (.slice a.ga a.gs.length a.gc) ∧ W.cell? ⟨x, 1, none⟩ = some (.slice a.ea a.es.length a.ec) ∧ W.cell? ⟨x, 2, none⟩ = some (.slice a.ra a.rs.length a.rc) ∧ W.cell? ⟨x, 3, none⟩ = some (.slice a.ua a.us.length a.uc)) ∧
    (W.cell? ⟨y, 0, none⟩ = some (.slice b.ga b.gs.length b.gc) ∧ W.cell? ⟨y, 1, none⟩ = some (.slice b.ea b.es.length b.ec) ∧ W.cell? ⟨y, 2, none⟩ = some (.slice b.ra b.rs.length b.rc) ∧ W.cell? ⟨y, 3, none⟩ = some (.slice b.ua b.us.length b.uc)) ∧
    W.cell? ⟨z, 0, none⟩ = some (.slice c.ga c.gs.length c.gc) ∧ W.cell? ⟨z, 1, none⟩ = some (.slice c.ea c.es.length c.ec) ∧ W.cell? ⟨z, 2, none⟩ = some (.slice c.ra c.rs.length c.rc) ∧ W.cell? ⟨z, 3, none⟩ = some (.slice c.ua c.us.length c.uc) :=
  ⟨hr, (h.out.1.below hr.b).cells, (h.out.2.1.below hr.b).cells, (h.out.2.2.below hr.b).cells⟩

def SRel (lo hi : Nat) (W8 : World) (c : Gr) (n : Nat) (good : Nat → List Gp → Prop) (tf : Nat → Nat) (i : Value) (wr : World) : Prop :=
  ∃ (k : Nat) (lg : List Gp) (le : List Ev) (lr : List Rl), k ≤ n ∧ i = .int .i64 k ∧ Hid (MU lo hi W8 wr) ∧ Hid (CL wr lo c lg le lr (tf k)) ∧ Hid (good k lg)

set_option maxRecDepth 100000 in
set_option maxHeartbeats 8000000 in
theorem walk (w : World) (a b : Gr) (hIa : InG w a) (hza : SzG a) (hIb : InG w b) (hzb : SzG b) :
    Calls Try.prog 3 #[.agg #[.slice a.ga a.gs.length a.gc, .slice a.ea a.es.length a.ec, .slice a.ra a.rs.length a.rc, .slice a.ua a.us.length a.uc], .agg #[.slice b.ga b.gs.length b.gc, .slice b.ea b.es.length b.ec, .slice b.ra b.rs.length b.rc, .slice b.ua b.us.length b.uc]] w fun e w' => e = .returned (.bool true) ∧ Below w.heap.size w w' := by
  have HA := Lib.hid hIa
  have HB := Lib.hid hIb
  have HZA := Lib.hid hza
  have HZB := Lib.hid hzb
  have hs2 : (boxW (boxW w a) b).heap.size = w.heap.size + 2 := by rw [box_size, box_size]
  have HS2 := Lib.hid hs2
  clear hIa hIb hza hzb hs2
  go_enter Try.func3, Try.ntmps3
  go_wp2_with fail
  refine (awake_any _).mono ?_
  rintro e w1 ⟨rfl, hb1⟩
  have X1 : Hid (Below (w.heap.size + 2) (boxW (boxW w a) b) w1) := Lib.hid (hb1.mono (by have h := HS2.out; simp only [boxW] at h; rw [h]; exact Nat.le_refl _))
  have y1 : w.heap.size + 2 ≤ w1.heap.size := by have := X1.out.size; rw [HS2.out] at this; exact this
  obtain ⟨⟨a0, a1, a2, a3⟩, b0, b1, b2, b3⟩ := two_cells X1.out
  clear hb1
  go_wp2_with fail
  refine (large_any w1 a (HA.out.below (Nat.le_refl _) (two_old X1.out)) HZA.out).mono ?_
  rintro e w2 ⟨v, rfl, hsm, hb2⟩
  have HSM := Lib.hid hsm
  have X2 := Lib.hid (X1.out.trans (hb2.mono y1))
  have y2 := hb2.size
  clear a0 a1 a2 a3 b0 b1 b2 b3 hb2 hsm
  cases v with
  | true =>
    go_wp2_with fail
    go_ret
    exact ⟨rfl, two_old X2.out⟩
  | false =>
    have HSA := Lib.hid (HSM.out rfl)
    clear HSM
    obtain ⟨⟨a0, a1, a2, a3⟩, b0, b1, b2, b3⟩ := two_cells X2.out
    go_wp2_with fail
    refine (large_any w2 b (HB.out.below (Nat.le_refl _) (two_old X2.out)) HZB.out).mono ?_
    rintro e w3 ⟨v, rfl, _, hb3⟩
    have X3 := Lib.hid (X2.out.trans (hb3.mono (by omega)))
    have y3 := hb3.size
    clear a0 a1 a2 a3 b0 b1 b2 b3 hb3
    cases v with
    | true =>
      go_wp2_with fail
      go_ret
      exact ⟨rfl, two_old X3.out⟩
    | false =>
      obtain ⟨⟨a0, a1, a2, a3⟩, b0, b1, b2, b3⟩ := two_cells X3.out
      go_wp2_with fail
      refine (gclone_any w3 a (HA.out.below (Nat.le_refl _) (two_old X3.out)) HZA.out).mono ?_
      rintro e w4 ⟨c, rfl, hs, ho, hb4⟩
      have X4 := Lib.hid (X3.out.trans (hb4.mono (by omega)))
      have y4 := hb4.size
      have HS := Lib.hid hs
      have HO := Lib.hid ho
      clear a0 a1 a2 a3 b0 b1 b2 b3 hb4 hs ho
      have BX : Hid (Box (w4.alloc (.cells #[.slice c.ga c.gs.length c.gc, .slice c.ea c.es.length c.ec, .slice c.ra c.rs.length c.rc, .slice c.ua c.us.length c.uc] 27)) w.heap.size a ∧ Box (w4.alloc (.cells #[.slice c.ga c.gs.length c.gc, .slice c.ea c.es.length c.ec, .slice c.ra c.rs.length c.rc, .slice c.ua c.us.length c.uc] 27)) (w.heap.size + 1) b ∧ Box (w4.alloc (.cells #[.slice c.ga c.gs.length c.gc, .slice c.ea c.es.length c.ec, .slice c.ra c.rs.length c.rc, .slice c.ua c.us.length c.uc] 27)) w4.heap.size c) :=
        Lib.hid ⟨(two_box X4.out).1.below ((Below.refl _ _).alloc (Nat.le_refl _) _), (two_box X4.out).2.below ((Below.refl _ _).alloc (Nat.le_refl _) _), heap_new _ _⟩
      have R0 := rb_begin (w4.alloc (.cells #[.slice c.ga c.gs.length c.gc, .slice c.ea c.es.length c.ec, .slice c.ra c.rs.length c.rc, .slice c.ua c.us.length c.uc] 27))
      have U4 : Hid (∀ W, RB (w4.alloc (.cells #[.slice c.ga c.gs.length c.gc, .slice c.ea c.es.length c.ec, .slice c.ra c.rs.length c.rc, .slice c.ua c.us.length c.uc] 27)) W → Below w4.heap.size w4 W) := Lib.hid (fun W h => later_alloc h.b)
      have HW5z : Hid ((w4.alloc (.cells #[.slice c.ga c.gs.length c.gc, .slice c.ea c.es.length c.ec, .slice c.ra c.rs.length c.rc, .slice c.ua c.us.length c.uc] 27)).heap.size = w4.heap.size + 1) := Lib.hid (World.size_alloc _ _)
      go_wp2_with fail
      obtain ⟨W5, hW5⟩ : ∃ W5, W5 = w4.alloc (.cells #[.slice c.ga c.gs.length c.gc, .slice c.ea c.es.length c.ec, .slice c.ra c.rs.length c.rc, .slice c.ua c.us.length c.uc] 27) := ⟨_, rfl⟩
      rw [← hW5] at BX R0 U4 HW5z ⊢
      clear hW5
      have OLD : Hid (∀ W, RB W5 W → Below w.heap.size w W) := Lib.hid (fun W h => (two_old X4.out).trans ((U4.out W h).mono (by omega)))
      obtain ⟨v, hv⟩ : ∃ v, sameL a b = v := ⟨_, rfl⟩
      have C1 : Hid (∀ W, RB W5 W → Calls Try.prog 9 #[.agg #[.slice a.ga a.gs.length a.gc, .slice a.ea a.es.length a.ec, .slice a.ra a.rs.length a.rc, .slice a.ua a.us.length a.uc], .agg #[.slice b.ga b.gs.length b.gc, .slice b.ea b.es.length b.ec, .slice b.ra b.rs.length b.rc, .slice b.ua b.us.length b.uc]] W fun e w' => e = .returned (.bool v) ∧ Below W.heap.size W w') :=
        Lib.hid (fun W h => by rw [← hv]; exact same_any W a b (HA.out.below (Nat.le_refl _) (OLD.out W h)) (HB.out.below (Nat.le_refl _) (OLD.out W h)) HZA.out)
      have C2 : Hid (∀ W, RB W5 W → Calls Try.prog 10 #[.agg #[.slice a.ga a.gs.length a.gc, .slice a.ea a.es.length a.ec, .slice a.ra a.rs.length a.rc, .slice a.ua a.us.length a.uc], .agg #[.slice b.ga b.gs.length b.gc, .slice b.ea b.es.length b.ec, .slice b.ra b.rs.length b.rc, .slice b.ua b.us.length b.uc]] W fun e w' => e = .returned (.bool v) ∧ Below W.heap.size W w') :=
        Lib.hid (fun W h => by rw [← hv]; exact refsame_any W a b (HA.out.below (Nat.le_refl _) (OLD.out W h)) (HB.out.below (Nat.le_refl _) (OLD.out W h)) HZA.out)
      have C3 : Hid (∀ W, RB W5 W → Calls Try.prog 9 #[.agg #[.slice c.ga c.gs.length c.gc, .slice c.ea c.es.length c.ec, .slice c.ra c.rs.length c.rc, .slice c.ua c.us.length c.uc], .agg #[.slice a.ga a.gs.length a.gc, .slice a.ea a.es.length a.ec, .slice a.ra a.rs.length a.rc, .slice a.ua a.us.length a.uc]] W fun e w' => e = .returned (.bool true) ∧ Below W.heap.size W w') :=
        Lib.hid (fun W h => (same_any W c a (HO.out.inG.below (Nat.le_refl _) (U4.out W h)) (HA.out.below (Nat.le_refl _) (OLD.out W h)) (HS.out.sz HZA.out)).mono fun e w' ⟨he, hb⟩ => ⟨by rw [he, HS.out.same], hb⟩)
      clear hv
      have tv : (v != v) = false := by simp
      go_region_held3 (fun W => RB W5 W ∧
          (W.cell? ⟨w.heap.size, 0, none⟩ = some (.slice a.ga a.gs.length a.gc) ∧ W.cell? ⟨w.heap.size, 1, none⟩ = some (.slice a.ea a.es.length a.ec) ∧ W.cell? ⟨w.heap.size, 2, none⟩ = some (.slice a.ra a.rs.length a.rc) ∧ W.cell? ⟨w.heap.size, 3, none⟩ = some (.slice a.ua a.us.length a.uc)) ∧
          (W.cell? ⟨w.heap.size + 1, 0, none⟩ = some (.slice b.ga b.gs.length b.gc) ∧ W.cell? ⟨w.heap.size + 1, 1, none⟩ = some (.slice b.ea b.es.length b.ec) ∧ W.cell? ⟨w.heap.size + 1, 2, none⟩ = some (.slice b.ra b.rs.length b.rc) ∧ W.cell? ⟨w.heap.size + 1, 3, none⟩ = some (.slice b.ua b.us.length b.uc)) ∧
          W.cell? ⟨w4.heap.size, 0, none⟩ = some (.slice c.ga c.gs.length c.gc) ∧ W.cell? ⟨w4.heap.size, 1, none⟩ = some (.slice c.ea c.es.length c.ec) ∧ W.cell? ⟨w4.heap.size, 2, none⟩ = some (.slice c.ra c.rs.length c.rc) ∧ W.cell? ⟨w4.heap.size, 3, none⟩ = some (.slice c.ua c.us.length c.uc))
        (((try go_split_ands); (first | exact s_all BX (by with_reducible assumption) | exact s_all BX (rb_drew (by with_reducible assumption)) | exact s_all BX (rb_call (by with_reducible assumption) (by with_reducible assumption)))))
        (first
          | (go_at_call 10; go_split_ands; refine (C2.out _ (by with_reducible assumption)).mono ?_; rintro e w6 ⟨rfl, hb6⟩)
          | (go_at_call_of 9 (Value.agg #[.slice c.ga c.gs.length c.gc, .slice c.ea c.es.length c.ec, .slice c.ra c.rs.length c.rc, .slice c.ua c.us.length c.uc]); go_split_ands; refine (C3.out _ (by with_reducible assumption)).mono ?_; rintro e w8 ⟨rfl, hb8⟩)
          | (go_at_call_of 9 (Value.agg #[.slice a.ga a.gs.length a.gc, .slice a.ea a.es.length a.ec, .slice a.ra a.rs.length a.rc, .slice a.ua a.us.length a.uc]); go_split_ands; refine (C1.out _ (by with_reducible assumption)).mono ?_; rintro e w7 ⟨rfl, hb7⟩))
      have R8 := Lib.hid (rb_call hb8 (rb_call hb6 (rb_call hb7 (rb_drew R0))))
      clear hb6 hb7 hb8 C1 C2 C3 R0 tv
      have BX8 : Hid (Box w8 w.heap.size a ∧ Box w8 w4.heap.size c) := Lib.hid ⟨BX.out.1.below R8.out.b, BX.out.2.2.below R8.out.b⟩
      obtain ⟨a0, a1, a2, a3⟩ := BX8.out.1.cells
      have y8 : w4.heap.size + 1 ≤ w8.heap.size := by have := R8.out.b.size; rw [HW5z.out] at this; exact this
      go_wp2_with fail
      refine (gclone_any w8 a (HA.out.below (Nat.le_refl _) (OLD.out _ R8.out)) HZA.out).mono ?_
      rintro e w9 ⟨d, rfl, hsd, hod, hb9⟩
      have HSD := Lib.hid hsd
      have HOD := Lib.hid hod
      have y9 := hb9.size
      have BX9 : Hid (Box w9 w.heap.size a ∧ Box w9 w4.heap.size c) := Lib.hid ⟨BX8.out.1.below hb9, BX8.out.2.below hb9⟩
      have HO9 : Hid (OwnG w9 w3.heap.size c) := Lib.hid ((HO.out.below (U4.out _ R8.out)).below hb9)
      have OLD9 : Hid (Below w.heap.size w w9) := Lib.hid ((OLD.out _ R8.out).trans (hb9.mono (OLD.out _ R8.out).size))
      clear a0 a1 a2 a3 hsd hod hb9 BX8 BX
      have l4 : w4.heap.size < w9.heap.size := by omega
      obtain ⟨c0, c1, c2, c3⟩ := BX9.out.2.cells
      have HZC := Lib.hid (HS.out.sz HZA.out)
      have z1 := HZC.out.gs
      have z2 := HZC.out.es
      have z3 := HZC.out.rs
      have z4 := HZC.out.us
      go_wp2_with fail
      clear c0 c1 c2 c3
      have BX10 : Hid (Box (w9.alloc (.cells #[.slice d.ga d.gs.length d.gc, .slice d.ea d.es.length d.ec, .slice d.ra d.rs.length d.rc, .slice d.ua d.us.length d.uc] 27)) w.heap.size a ∧ Box (w9.alloc (.cells #[.slice d.ga d.gs.length d.gc, .slice d.ea d.es.length d.ec, .slice d.ra d.rs.length d.rc, .slice d.ua d.us.length d.uc] 27)) w4.heap.size c ∧ Box (w9.alloc (.cells #[.slice d.ga d.gs.length d.gc, .slice d.ea d.es.length d.ec, .slice d.ra d.rs.length d.rc, .slice d.ua d.us.length d.uc] 27)) w9.heap.size d) :=
        Lib.hid ⟨BX9.out.1.below ((Below.refl _ _).alloc (Nat.le_refl _) _), BX9.out.2.below ((Below.refl _ _).alloc (Nat.le_refl _) _), heap_new _ _⟩
      have UP : Hid (Below w9.heap.size w9 (w9.alloc (.cells #[.slice d.ga d.gs.length d.gc, .slice d.ea d.es.length d.ec, .slice d.ra d.rs.length d.rc, .slice d.ua d.us.length d.uc] 27))) := Lib.hid ((Below.refl _ _).alloc (Nat.le_refl _) _)
      obtain ⟨W, hW⟩ : ∃ W, W = w9.alloc (.cells #[.slice d.ga d.gs.length d.gc, .slice d.ea d.es.length d.ec, .slice d.ra d.rs.length d.rc, .slice d.ua d.us.length d.uc] 27) := ⟨_, rfl⟩
      rw [← hW] at BX10 UP ⊢
      clear hW
      have HC10 : Hid (CL W w3.heap.size c c.gs c.es c.rs 0) := Lib.hid (CL.start (HO9.out.below UP.out) HZC.out)
      have HD10 : Hid (OwnG W w8.heap.size d) := Lib.hid (HOD.out.below UP.out)
      have OLD10 : Hid (Below w.heap.size w W) := Lib.hid (OLD9.out.trans (UP.out.mono OLD9.out.size))
      have HLT : Hid ((∀ g, (Value.slice c.ga c.gs.length c.gc).ownBlock = some g → w3.heap.size ≤ g ∧ g < w4.heap.size) ∧ (∀ g, (Value.slice c.ea c.es.length c.ec).ownBlock = some g → w3.heap.size ≤ g ∧ g < w4.heap.size) ∧ (∀ g, (Value.slice c.ra c.rs.length c.rc).ownBlock = some g → w3.heap.size ≤ g ∧ g < w4.heap.size) ∧ ∀ u ∈ c.us, ∀ g, (Value.slice u.ra u.roles.length u.rc).ownBlock = some g → w3.heap.size ≤ g ∧ g < w4.heap.size) :=
        Lib.hid ⟨HO.out.gs.lt, HO.out.es.lt, HO.out.rs.lt, fun u hu => (HO.out.ro u hu).lt⟩
      clear BX9 UP HO9 OLD9 HOD HO X1 X2 X3 X4 OLD U4 R8 HW5z HB HZB
      go_loopw [40] (fun i wr => SRel w3.heap.size w4.heap.size W c c.gs.length (fun k lg => ∀ j, k ≤ j → lg[j]! = c.gs[j]!) (fun _ => 0) i wr) (fun i _ => c.gs.length - (intOf i).toNat)
      case atStart => exact ⟨0, c.gs, c.es, c.rs, Nat.zero_le _, rfl, Lib.hid (MU.refl _ _ _), HC10, Lib.hid (fun _ _ => rfl)⟩
      case round =>
        obtain ⟨k, lg, le, lr, hk, rfl, HM, HL, HG⟩ := hrel
        have HBC := Lib.hid (BX10.out.2.1.mu HM.out (.inr (Nat.le_refl _)))
        obtain ⟨c0, c1, c2, c3⟩ := HBC.out.cells
        by_cases hlt : k < c.gs.length
        · obtain ⟨gb, cur, hA, hge, hgc, hcap⟩ := own_some HL.out.gs (by omega)
          have hgl := (HLT.out.1 gb (by rw [hA]; rfl)).2
          have hl := HL.out.gs
          rw [hA] at hl
          have hcell : wr.cell? ⟨gb, k * 2, none⟩ = some (.string c.gs[k]!.name) := by
            have h1 := hl.cellAt (k * 2 + 0) (by omega)
            rw [flat_at gpC 2 (fun _ => rfl) lg k (by rw [HL.out.nlg]; exact hlt) 0 (by omega), HG.out k (Nat.le_refl _)] at h1
            exact h1
          have hfr := frozen_blk (i := k * 2) hgc
          have hsz := (HZC.out.gp _ (mem_at hlt)).1
          have hk0 : (0 : Int) ≤ (k : Int) := Int.natCast_nonneg _
          have hk1 : (k : Int) < (c.gs.length : Int) := by omega
          have hL2 : Hid (∀ s, CL (wr.setCell ⟨gb, k * 2, none⟩ (.string s)) w3.heap.size c (lg.set k ⟨s, lg[k]!.parent⟩) le lr 0) := Lib.hid (fun s => HL.out.setG hlt hA hgc s)
          have hM2 : Hid (∀ v, MU w3.heap.size w4.heap.size W (wr.setCell ⟨gb, k * 2, none⟩ v)) := Lib.hid (fun v => HM.out.store hge hgl v)
          have hG2 : Hid (∀ y j, k + 1 ≤ j → (lg.set k y)[j]! = c.gs[j]!) := Lib.hid (fun y j hj => (set_at (by omega)).trans (HG.out j (by omega)))
          rw [hA] at c0
          clear hl hA hgc HM HL HG
          generalize c.gs[k]!.name = s at *
          go_wp2_with fail
          go_roundw
          case rel => exact ⟨k + 1, _, le, lr, hlt, by go_num, Lib.hid (hM2.out _), Lib.hid (hL2.out _), Lib.hid (hG2.out _)⟩
          case measure => simp [intOf]; omega
        · go_wp2_with fail
          clear HG hk hlt c0 c1 c2 c3
          go_loopw [56] (fun i wr => SRel w3.heap.size w4.heap.size W c c.es.length (fun _ _ => True) (fun _ => 0) i wr) (fun i _ => c.es.length - (intOf i).toNat)
          case atStart => exact ⟨0, lg, le, lr, Nat.zero_le _, rfl, HM, HL, Lib.hid trivial⟩
          case round =>
            clear HM HL HBC
            obtain ⟨k, lg, le, lr, hk, rfl, HM, HL, _⟩ := hrel
            have HBC := Lib.hid (BX10.out.2.1.mu HM.out (.inr (Nat.le_refl _)))
            obtain ⟨c0, c1, c2, c3⟩ := HBC.out.cells
            by_cases hlt : k < c.es.length
            · obtain ⟨gb, cur, hA, hge, hgc, hcap⟩ := own_some HL.out.es (by omega)
              have hgl := (HLT.out.2.1 gb (by rw [hA]; rfl)).2
              have hl := HL.out.es
              rw [hA] at hl
              have hcell : wr.cell? ⟨gb, k * 6 + 5, none⟩ = some (.int .i64 le[k]!.due) := by
                have h1 := hl.cellAt (k * 6 + 5) (by omega)
                rw [flat_at evC 6 (fun _ => rfl) le k (by rw [HL.out.nle]; exact hlt) 5 (by omega)] at h1
                exact h1
              have hfr := frozen_blk (i := k * 6 + 5) hgc
              have hk0 : (0 : Int) ≤ (k : Int) := Int.natCast_nonneg _
              have hk1 : (k : Int) < (c.es.length : Int) := by omega
              have hL2 : Hid (∀ i, CL (wr.setCell ⟨gb, k * 6 + 5, none⟩ (.int .i64 i)) w3.heap.size c lg (le.set k { le[k]! with due := i }) lr 0) := Lib.hid (fun i => HL.out.setE hlt hA hgc i)
              have hM2 : Hid (∀ v, MU w3.heap.size w4.heap.size W (wr.setCell ⟨gb, k * 6 + 5, none⟩ v)) := Lib.hid (fun v => HM.out.store hge hgl v)
              rw [hA] at c1
              clear hl hA hgc HM HL
              generalize le[k]!.due = s at hcell
              go_wp2_with fail
              go_roundw
              case rel => exact ⟨k + 1, lg, _, lr, hlt, by go_num, Lib.hid (hM2.out _), Lib.hid (hL2.out _), Lib.hid trivial⟩
              case measure => simp [intOf]; omega
            · go_wp2_with fail
              clear hk hlt c0 c1 c2 c3
              go_loopw [72] (fun i wr => SRel w3.heap.size w4.heap.size W c c.rs.length (fun _ _ => True) (fun _ => 0) i wr) (fun i _ => c.rs.length - (intOf i).toNat)
              case atStart => exact ⟨0, lg, le, lr, Nat.zero_le _, rfl, HM, HL, Lib.hid trivial⟩
              case round =>
                clear HM HL HBC
                obtain ⟨k, lg, le, lr, hk, rfl, HM, HL, _⟩ := hrel
                have HBC := Lib.hid (BX10.out.2.1.mu HM.out (.inr (Nat.le_refl _)))
                obtain ⟨c0, c1, c2, c3⟩ := HBC.out.cells
                by_cases hlt : k < c.rs.length
                · obtain ⟨gb, cur, hA, hge, hgc, hcap⟩ := own_some HL.out.rs (by omega)
                  have hgl := (HLT.out.2.2.1 gb (by rw [hA]; rfl)).2
                  have hl := HL.out.rs
                  rw [hA] at hl
                  have hcell : wr.cell? ⟨gb, k * 4 + 3, none⟩ = some (.int .i64 lr[k]!.time) := by
                    have h1 := hl.cellAt (k * 4 + 3) (by omega)
                    rw [flat_at rlC 4 (fun _ => rfl) lr k (by rw [HL.out.nlr]; exact hlt) 3 (by omega)] at h1
                    exact h1
                  have hfr := frozen_blk (i := k * 4 + 3) hgc
                  have hk0 : (0 : Int) ≤ (k : Int) := Int.natCast_nonneg _
                  have hk1 : (k : Int) < (c.rs.length : Int) := by omega
                  have hL2 : Hid (∀ i, CL (wr.setCell ⟨gb, k * 4 + 3, none⟩ (.int .i64 i)) w3.heap.size c lg le (lr.set k { lr[k]! with time := i }) 0) := Lib.hid (fun i => HL.out.setR hlt hA hgc i)
                  have hM2 : Hid (∀ v, MU w3.heap.size w4.heap.size W (wr.setCell ⟨gb, k * 4 + 3, none⟩ v)) := Lib.hid (fun v => HM.out.store hge hgl v)
                  rw [hA] at c2
                  clear hl hA hgc HM HL
                  generalize lr[k]!.time = s at hcell
                  go_wp2_with fail
                  go_roundw
                  case rel => exact ⟨k + 1, lg, le, _, hlt, by go_num, Lib.hid (hM2.out _), Lib.hid (hL2.out _), Lib.hid trivial⟩
                  case measure => simp [intOf]; omega
                · go_wp2_with fail
                  clear hk hlt c0 c1 c2 c3
                  go_loopw [88] (fun i wr => SRel w3.heap.size w4.heap.size W c c.us.length (fun _ _ => True) (fun k => k * 8796093022208) i wr) (fun i _ => c.us.length - (intOf i).toNat)
                  case atStart => exact ⟨0, lg, le, lr, Nat.zero_le _, rfl, HM, HL, Lib.hid trivial⟩
                  case round =>
                    clear HM HL HBC
                    obtain ⟨k, lg, le, lr, hk, rfl, HM, HL, _⟩ := hrel
                    have HBC := Lib.hid (BX10.out.2.1.mu HM.out (.inr (Nat.le_refl _)))
                    obtain ⟨c0, c1, c2, c3⟩ := HBC.out.cells
                    by_cases hlt : k < c.us.length
                    · obtain ⟨gb, cur, hA, hge, hgc, hcap⟩ := own_some HL.out.us (by omega)
                      have hl := HL.out.us
                      rw [hA] at hl
                      have hcell : wr.cell? ⟨gb, k * 3 + 1, none⟩ = some (.slice c.us[k]!.ra c.us[k]!.roles.length c.us[k]!.rc) := by
                        have h1 := hl.cellAt (k * 3 + 1) (by omega)
                        rw [flat_at usC 3 (fun _ => rfl) c.us k hlt 1 (by omega)] at h1
                        exact h1
                      have HA3 := Lib.hid hA
                      have hrl := (HZC.out.ur _ (mem_at hlt)).2.2.1
                      have hmem := mem_at hlt
                      have HME := Lib.hid hmem
                      have hk0 : (0 : Int) ≤ (k : Int) := Int.natCast_nonneg _
                      have hk1 : (k : Int) < (c.us.length : Int) := by omega
                      have hk50 : k < 50 := by have := HSA.out.2.2.2; have := HS.out.len; omega
                      rw [hA] at c3
                      clear hl hA hmem hgc
                      obtain ⟨x, hx⟩ : ∃ x, c.us[k]! = x := ⟨_, rfl⟩
                      rw [hx] at hcell hrl HME
                      have HX := Lib.hid hx
                      clear hx
                      go_wp2_with fail
                      obtain ⟨wo, rfl⟩ : ∃ wo : World, wo = wr := ⟨_, rfl⟩
                      clear hcell c0 c1 c2 c3
                      go_loopw [98] (fun i wr => SRel w3.heap.size w4.heap.size W c x.roles.length (fun _ _ => True) (fun j => k * 8796093022208 + j) i wr) (fun i _ => x.roles.length - (intOf i).toNat)
                      case atStart => exact ⟨0, lg, le, lr, Nat.zero_le _, rfl, HM, Lib.hid (HL.out.mono (by simp)), Lib.hid trivial⟩
                      case round =>
                        clear HM HL HBC
                        obtain ⟨j, lg, le, lr, hj, rfl, HM, HL, _⟩ := hrel
                        have HBC := Lib.hid (BX10.out.2.1.mu HM.out (.inr (Nat.le_refl _)))
                        obtain ⟨c0, c1, c2, c3⟩ := HBC.out.cells
                        by_cases hjt : j < x.roles.length
                        · have hl := HL.out.us
                          rw [HA3.out] at hl c3
                          have hcell : wr.cell? ⟨gb, k * 3 + 1, none⟩ = some (.slice x.ra x.roles.length x.rc) := by
                            have h1 := hl.cellAt (k * 3 + 1) (by omega)
                            rw [flat_at usC 3 (fun _ => rfl) c.us k hlt 1 (by omega), HX.out] at h1
                            exact h1
                          obtain ⟨l, hll, hlo, hls⟩ := HL.out.ro x HME.out
                          obtain ⟨rb, cur2, hrA, hrge, hrgc, _⟩ := own_some hlo (by omega)
                          have hrgl := (HLT.out.2.2.2 x HME.out rb (by rw [hrA]; rfl)).2
                          rw [hrA] at hlo hcell
                          have hrcell : wr.cell? ⟨rb, j, none⟩ = some (.string l[j]!) := by
                            have h1 := hlo.cellAt j (by omega)
                            rw [List.getElem?_map, List.getElem?_eq_getElem (by omega), ← getElem!_pos l j (by omega)] at h1
                            exact h1
                          have hrsz : l[j]!.size ≤ 140737488351232 + (k * 8796093022208 + j) := hls _ (mem_at (by omega : j < l.length))
                          have hrs2 : l[j]!.size ≤ 1125899906842624 := by omega
                          have HRS := Lib.hid hrsz
                          clear hrsz
                          have hrfr := frozen_blk (i := j) hrgc
                          have hj0 : (0 : Int) ≤ (j : Int) := Int.natCast_nonneg _
                          have hj1 : (j : Int) < (x.roles.length : Int) := by omega
                          have hl1 : CL wr w3.heap.size c lg le lr (k * 8796093022208 + j) := HL.out
                          have hL2 : Hid (∀ s : ByteArray, s.size ≤ 140737488351232 + (k * 8796093022208 + j + 1) → CL (wr.setCell ⟨rb, j, none⟩ (.string s)) w3.heap.size c lg le lr (k * 8796093022208 + (j + 1))) := Lib.hid (fun s hs => by
                            have h := hl1.setO (k := j) hrgc s hs
                            rw [Nat.add_assoc] at h
                            exact h)
                          clear hl1
                          have hM2 : Hid (∀ v, MU w3.heap.size w4.heap.size W (wr.setCell ⟨rb, j, none⟩ v)) := Lib.hid (fun v => HM.out.store hrge hrgl v)
                          clear hl hlo hrA hrgc HM HL hls hll
                          generalize l[j]! = s at *
                          go_wp2_with fail
                          go_roundw
                          case rel => exact ⟨j + 1, lg, le, lr, hjt, by go_num, Lib.hid (hM2.out _), Lib.hid (hL2.out _ (by have := HRS.out; have h1 : (⟨#[120]⟩ : ByteArray).size = 1 := rfl; rw [ByteArray.size_append, h1]; omega)), Lib.hid trivial⟩
                          case measure => simp [intOf]; omega
                        · have hl1 : CL wr w3.heap.size c lg le lr (k * 8796093022208 + j) := HL.out
                          have HLn : Hid (CL wr w3.heap.size c lg le lr ((k + 1) * 8796093022208)) := Lib.hid (hl1.mono (by omega))
                          clear hl1
                          go_wp2_with fail
                          go_roundw
                          case rel => exact ⟨k + 1, lg, le, lr, hlt, by go_num, HM, HLn, Lib.hid trivial⟩
                          case measure => simp [intOf]; omega
                    · clear c0 c1 c2 c3
                      obtain ⟨a0, a1, a2, a3⟩ := (BX10.out.1.mu HM.out (.inl (by omega))).cells
                      obtain ⟨d0, d1, d2, d3⟩ := (BX10.out.2.2.mu HM.out (.inr (by omega))).cells
                      have HBW := Lib.hid (HM.out.below OLD10.out (by omega))
                      have HID := Lib.hid (HM.out.ownG HD10.out (by omega)).inG
                      go_wp2_with fail
                      refine (refsame_any wr a d (HA.out.below (Nat.le_refl _) HBW.out) HID.out HZA.out).mono ?_
                      rintro e w11 ⟨rfl, hb11⟩
                      have HT := Lib.hid HSD.out.symm.same
                      go_wp2_with fail
                      go_ret
                      exact ⟨ret_bool HT.out, HBW.out.trans (hb11.mono HBW.out.size)⟩

theorem own : ownKnob Try.prog.godebug = none := by kernel_rfl
set_option maxRecDepth 100000 in
theorem lifted (os : Os) (started : os.Started) (H : Type) (enc : TypeId × Value → H) :
    ReturnsInHanded {} Try.checked os 3 .any (Rows.graphSameSpec.pre6 enc Try.prog Try.f3 Rows.graphSameRow.domain false) (Rows.graphSameSpec.post enc Try.prog Try.f3 false true false false) := by
  refine returnsInHanded_of_change_sized (C := Try.checked) own started (by kernel_rfl) Try.func3
    (ChangeSpec.witness6 (enc := enc) (C := Try.checked) false ⟨#[], #[.agg #[.slice none 0 0, .slice none 0 0, .slice none 0 0, .slice none 0 0], .agg #[.slice none 0 0, .slice none 0 0, .slice none 0 0, .slice none 0 0]], []⟩ 8 (by kernel_rfl) (by kernel_rfl) (by kernel_rfl) (by kernel_rfl)) ?_
  intro W base args ds gs before hval0 hW _ hsz0 _
  have hsz : (DataW.weightsEach Try.prog (Try.f3.params.toList ++ Rows.graphSameSpec.plain.varTypes Try.prog) (ds ++ gs)).all (· ≤ reachBytes) = true := hsz0
  have hval : ∀ (j : Nat) t v, Try.f3.params[j]? = some t → args[j]? = some v → Value.okWide Try.prog W .any base t v := hval0
  have hW' := hW
  obtain ⟨p, q, hA0, hV, rfl, _, _⟩ := hW
  have hA : DataW.TrodAll enc Try.prog W 0 (fun _ => true) true Try.f3.params.toList args.toList ds p := hA0
  rw [Try.params3] at hA hval hsz
  obtain ⟨v0, vs0, d0, ds0, p0, q0, hargs, rfl, rfl, h0, r0⟩ := trodAll_cons hA
  obtain ⟨v1, vs1, d1, ds1, p1, q1, rfl, rfl, rfl, h1, r1⟩ := trodAll_cons r0
  obtain ⟨rfl, rfl, rfl⟩ := trodAll_nil r1
  obtain rfl : args = #[v0, v1] := by cases args; simp_all
  obtain ⟨rfl, rfl⟩ := trodVars_none hV
  have hw0 : Wt Try.prog 27 d0 := Wt.of hsz (j := 0) rfl rfl
  have hw1 : Wt Try.prog 27 d1 := Wt.of hsz (j := 1) rfl rfl
  obtain ⟨g, rfl, hI, hz, _⟩ := open_graph (hval 0 _ v0 rfl rfl) h0 hw0
  obtain ⟨g', rfl, hI', hz', _⟩ := open_graph (hval 1 _ v1 rfl rfl) h1 hw1
  clear hA0 hval0 hsz0
  simp only [List.append_nil] at hW'
  have hlt : ∀ x ∈ p0, x.block < W.heap.size := fun x hx => hW'.lt x (List.mem_append_left _ hx)
  have hlt' : ∀ x ∈ p1, x.block < W.heap.size := fun x hx => hW'.lt x (List.mem_append_right _ hx)
  refine (walk W g g' hI hz hI' hz').mono fun e W' ⟨he, hg⟩ => ?_
  subst he
  have hargs := trodAll_cons_mk (Below.trod progLaid (by kernel_rfl) (of_decide_eq_true (by kernel_rfl)) h0 hg hlt) (trodAll_cons_mk (Below.trod progLaid (by kernel_rfl) (of_decide_eq_true (by kernel_rfl)) h1 hg hlt') (trodAll_mk0 (enc := enc) (P := Try.prog) (w := W')))
  rw [List.append_nil] at hargs
  exact ⟨_, rfl, _, _, _, [], p0 ++ p1, [], hW', trodAll_cons_mk (shut_bool Try.underlying4 _) trodAll_mk0, hargs, rfl, hg.frame _, fun h => by cases h⟩

theorem proved : Rows.GraphSameSaid :=
  OpenClaim.holds_of_wide 3 Try.f3 rfl rfl rfl rfl rfl rfl rfl ⟨rfl, rfl, rfl, rfl, rfl⟩ rfl rfl rfl rfl rfl (by kernel_rfl) Try.func3 (by kernel_rfl)
    (of_decide_eq_true (by kernel_rfl)) (by unfold Func.isWrapper; first | (rw [if_pos (by decide +kernel)]; kernel_rfl) | (rw [if_neg (by decide +kernel)]; exact ⟨rfl, rfl⟩))
    (fun os started H enc _ => lifted os started H enc)
end Go.Proofs.Ytoicfhmhnehakaa.graphSame
