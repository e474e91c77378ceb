/-
  GraphNests: for every graph the law answers true, and its argument reads as it did. Conditions: none.
-/
import Derived.Test.YtoicfhmhnehakaaRows
import Derived.Test.YtoicfhmhnehakaaGrAx
import Derived.Test.YtoicfhmhnehakaaGrLg
import Derived.Test.YtoicfhmhnehakaaGrBt
import Derived.Test.YtoicfhmhnehakaaGrOp
import Derived.ProofKit
import Derived.OpenShut
import Derived.Carry
namespace Go.Proofs.Ytoicfhmhnehakaa.graphNests
open Go.ChangeShapes Go.WideShapes Go.ChangeAt Go.RowKit

theorem check_ok (W : World) (c : Gr) (hI : InG W c) (hz : SzG c) (hcap : ∀ u ∈ c.us, u.roles.length ≤ u.rc) (hm : mayL c = true) :
    Calls Try.prog 11 #[.agg #[.slice c.ga c.gs.length c.gc, .slice c.ea c.es.length c.ec, .slice c.ra c.rs.length c.rc, .slice c.ua c.us.length c.uc]] W fun e w' => e = .returned (.tuple #[.agg #[.int .i64 0, .int .i64 0], .int .i64 0]) ∧ Below W.heap.size W w' :=
  (check_any W c hI hz hcap).mono fun e w' ⟨he, hb⟩ => ⟨by rw [he, may_check hm]; rfl, hb⟩
theorem code_false (g : Gr) : mayL g = false → (((checkL g).2.2 : Int) != 0) = true := by
  intro h; rw [bne_iff_ne]; simp only [mayL, decide_eq_false_iff_not] at h; omega
/-- The argument's box, and all that came in, stand as they did. -/
abbrev XB (w : World) (g : Gr) (W : World) : Prop := Below (w.heap.size + 1) (boxW w g) W
structure RB (W5 W : World) : Prop where
  b : Below W5.heap.size W5 W
theorem rb_begin (W : World) : RB W W := ⟨Below.refl _ _⟩
theorem rb_drew {W5 W : World} (h : RB W5 W) : RB W5 W.drew := ⟨⟨h.b.os, h.b.tape, h.b.output, h.b.size, h.b.block⟩⟩
theorem rb_call {W5 W W' : World} (hb : Below W.heap.size W W') (h : RB W5 W) : RB W5 W' := ⟨h.b.trans (hb.mono h.b.size)⟩
def At5 (W : World) (g : Gr) (A : Option Addr) (x : Nat) (p : Addr) (s : ByteArray) : Prop := W.cell? ⟨x, 0, none⟩ = some (.slice A g.gs.length g.gc) ∧ W.cell? ⟨x, 1, none⟩ = some (.slice g.ea g.es.length g.ec) ∧ W.cell? ⟨x, 2, none⟩ = some (.slice g.ra g.rs.length g.rc) ∧ W.cell? ⟨x, 3, none⟩ = some (.slice g.ua g.us.length g.uc) ∧ W.cell? p = some (.string s)
theorem s_all {W5 W : World} {g : Gr} {A : Option Addr} {x : Nat} {p : Addr} {s : ByteArray} (h : Hid (At5 W5 g A x p s)) (hr : RB W5 W) : RB W5 W ∧ W.cell? ⟨x, 0, none⟩ = some (.slice A g.gs.length g.gc) ∧ W.cell? ⟨x, 1, none⟩ = some (.slice g.ea g.es.length g.ec) ∧ W.cell? ⟨x, 2, none⟩ = some (.slice g.ra g.rs.length g.rc) ∧ W.cell? ⟨x, 3, none⟩ = some (.slice g.ua g.us.length g.uc) ∧ W.cell? p = some (.string s) := by
  obtain ⟨h1, h2, h3, h4, h5⟩ := h.out
  have k : ∀ q v, W5.cell? q = some v → W.cell? q = some v := fun q v hq => (hr.b.cell (World.block_lt_of_cell? _ _ hq)).trans hq
  exact ⟨hr, k _ _ h1, k _ _ h2, k _ _ h3, k _ _ h4, k _ _ h5⟩

def ORel (w : World) (g : Gr) (i : Value) (wr : World) : Prop := ∃ k : Nat, k ≤ g.gs.length ∧ i = .int .i64 k ∧ Hid (XB w g wr)
def ARel (w : World) (g : Gr) (M B : Nat) (L : List Nat) (v : Value) (i : Value) (wr : World) : Prop :=
  ∃ j : Nat, j ≤ L.length ∧ i = .int .i64 j ∧ Hid (XB w g wr) ∧ Hid (BSet wr M j fun k => (L.take j).contains k) ∧ Hid (wr.ownsRow B 3 1 v L.length (intC L))
def BRel (w : World) (g : Gr) (M : Nat) (L : List Nat) (many : Nat → Nat) (n : Nat) (m i : Value) (wr : World) : Prop :=
  ∃ j : Nat, j ≤ n ∧ i = .int .i64 j ∧ m = .int .i64 (many j : Nat) ∧ Hid (XB w g wr) ∧ Hid (BSet wr M L.length fun k => L.contains k)
def DRel (w : World) (g : Gr) (M B : Nat) (L Lx : List Nat) (m0 : Nat) (v : Value) (m i : Value) (wr : World) : Prop :=
  ∃ j : Nat, j ≤ Lx.length ∧ i = .int .i64 j ∧ m = .int .i64 ((m0 + j : Nat) : Int) ∧ Hid (XB w g wr) ∧ Hid (BSet wr M L.length fun k => L.contains k) ∧ Hid (wr.ownsRow B 3 1 v Lx.length (intC Lx))
theorem int_cell {w : World} {B j : Nat} {L : List Nat} {gb c : Nat} (h : w.ownsRow B 3 1 (.slice (some ⟨gb, 0, none⟩) L.length c) L.length (intC L)) (hj : j < L.length) : w.cell? ⟨gb, j, none⟩ = some (.int .i64 ((L[j]! : Nat) : Int)) := by
  have h1 := h.cellAt j (by omega)
  rw [intC, List.getElem?_map, List.getElem?_eq_getElem hj, ← getElem!_pos L j hj] at h1
  exact h1

set_option maxRecDepth 100000 in
set_option maxHeartbeats 8000000 in
theorem walk (w : World) (g : Gr) (hI : InG w g) (hz : SzG g) (hcap : ∀ u ∈ g.us, u.roles.length ≤ u.rc) :
    Calls Try.prog 5 #[.agg #[.slice g.ga g.gs.length g.gc, .slice g.ea g.es.length g.ec, .slice g.ra g.rs.length g.rc, .slice g.ua g.us.length g.uc]] w fun e w' => e = .returned (.bool true) ∧ Below w.heap.size w w' := by
  have HI := Lib.hid hI
  have HZ := Lib.hid hz
  have HC := Lib.hid hcap
  have hs0 := box_size w g
  have HS0 := Lib.hid hs0
  have hmm := @run_makeMap Try.prog
  clear hI hz hcap hs0
  go_enter Try.func5, Try.ntmps5
  go_wp2_with fail
  refine (awake_any _).mono ?_
  rintro e w1 ⟨rfl, hb1⟩
  have X1 : Hid (XB w g w1) := Lib.hid (hb1.mono (by have h := HS0.out; simp only [boxW] at h; rw [h]; exact Nat.le_refl _))
  have y1 : w.heap.size + 1 ≤ w1.heap.size := by have := X1.out.size; rw [HS0.out] at this; exact this
  obtain ⟨a0, a1, a2, a3⟩ := box_cells X1.out
  clear hb1
  go_wp2_with fail
  refine (large_any w1 g (HI.out.below (Nat.le_refl _) (box_old X1.out)) HZ.out).mono ?_
  rintro e w2 ⟨b, rfl, _, hb2⟩
  have X2 := Lib.hid (X1.out.trans (hb2.mono y1))
  have y2 := hb2.size
  clear a0 a1 a2 a3 hb2
  cases b with
  | true =>
    go_wp2_with fail
    go_ret
    exact ⟨rfl, box_old X2.out⟩
  | false =>
    obtain ⟨a0, a1, a2, a3⟩ := box_cells X2.out
    go_wp2_with fail
    cases hm : mayL g with
    | false =>
      have C := Lib.hid (check_any w2 g (HI.out.below (Nat.le_refl _) (box_old X2.out)) HZ.out HC.out)
      have hcode := code_false g hm
      have HM := Lib.hid hm
      clear hm
      generalize checkL g = s at *
      refine C.out.mono ?_
      rintro e w3 ⟨rfl, hb3⟩
      have X3 := Lib.hid ((X2.out.trans (hb3.mono (by omega))).alloc (by have := hb3.size; omega) (.cells #[.int .i64 s.1, .int .i64 s.2.1] 42))
      have y3 := hb3.size
      clear a0 a1 a2 a3 hb3 C
      obtain ⟨a0, a1, a2, a3⟩ := box_cells X3.out
      have hME : memL g ⟨#[97]⟩ = [] := by rw [memL, HM.out]; rfl
      have CM := Lib.hid (members_any (w3.alloc (.cells #[.int .i64 s.1, .int .i64 s.2.1] 42)) g ⟨#[97]⟩ (HI.out.below (Nat.le_refl _) (box_old X3.out)) HZ.out HC.out)
      rw [hME] at CM
      clear hME
      go_wp2_with fail
      refine CM.out.mono ?_
      rintro e w4 ⟨v, rfl, ho, hb4⟩
      have X4 := Lib.hid (X3.out.trans (hb4.mono (by simp; omega)))
      obtain ⟨va, vc, rfl⟩ := own_slice ho
      clear a0 a1 a2 a3 hb4 ho CM
      obtain ⟨a0, a1, a2, a3⟩ := box_cells X4.out
      have CF := Lib.hid (find_any w4 g ⟨#[97]⟩ (HI.out.below (Nat.le_refl _) (box_old X4.out)) HZ.out HC.out)
      rw [HM.out, if_neg (by decide)] at CF
      simp only [List.length_nil]
      go_wp2_with fail
      refine CF.out.mono ?_
      rintro e w5 ⟨rfl, hb5⟩
      go_wp2_with fail
      go_ret
      exact ⟨rfl, (box_old X4.out).trans (hb5.mono (box_old X4.out).size)⟩
    | true =>
      have HM := Lib.hid hm
      have HF := Lib.hid (may_few hm)
      have f1 := HF.out.gs
      have f2 := HF.out.es
      have C := Lib.hid (check_ok w2 g (HI.out.below (Nat.le_refl _) (box_old X2.out)) HZ.out HC.out hm)
      clear hm
      refine C.out.mono ?_
      rintro e w3 ⟨rfl, hb3⟩
      have X3 := Lib.hid ((X2.out.trans (hb3.mono (by omega))).alloc (by have := hb3.size; omega) (.cells #[.int .i64 0, .int .i64 0] 42))
      have y3 := hb3.size
      have l3 : w.heap.size < w3.heap.size := by omega
      clear a0 a1 a2 a3 C
      obtain ⟨a0, a1, a2, a3⟩ := box_cells (X2.out.trans (hb3.mono (by omega)))
      clear hb3
      go_wp2_with fail
      obtain ⟨ga, hga⟩ : ∃ ga, g.ga = ga := ⟨_, rfl⟩
      rw [hga]
      have HGA := Lib.hid hga
      clear hga a0 a1 a2 a3
      go_loopw [38] (fun i wr => ORel w g i wr) (fun i _ => g.gs.length - (intOf i).toNat)
      case atStart => exact ⟨0, Nat.zero_le _, rfl, X3⟩
      case round =>
        obtain ⟨i, hi, rfl, HX⟩ := hrel
        by_cases hlt : i < g.gs.length
        · obtain ⟨gb, off, hA, hgb, hc⟩ := HI.out.gs.at_ (k := 2) (fun _ => rfl) (by omega) hlt
          obtain rfl : ga = some ⟨gb, off, none⟩ := HGA.out.symm.trans hA
          have k0 := hc 0 _ rfl
          rw [Nat.add_zero] at k0
          have HK := Lib.hid k0
          have HXM : Hid (XB w g (wr.alloc (.map #[] 0))) := Lib.hid (HX.out.alloc (by have := HX.out.size; rw [HS0.out] at this; exact this) _)
          obtain ⟨a0, a1, a2, a3⟩ := box_cells HXM.out
          have A5 : Hid (At5 (wr.alloc (.map #[] 0)) g (some ⟨gb, off, none⟩) w.heap.size ⟨gb, off + i * 2, none⟩ g.gs[i]!.name) := Lib.hid ⟨a0.trans (by rw [hA]), a1, a2, a3, ((box_old HXM.out).cell (p := ⟨gb, _, none⟩) hgb).trans k0⟩
          have R0 := rb_begin (wr.alloc (.map #[] 0))
          have BS := Lib.hid (BSet.made wr)
          have hyw := HX.out.size
          rw [HS0.out] at hyw
          have HN : Hid (g.gs[i]!.name.size ≤ 140737488351232) := Lib.hid (HZ.out.gp _ (mem_at hlt)).1
          have CM : Hid (∀ W, RB (wr.alloc (.map #[] 0)) W → Calls Try.prog 12 #[.agg #[.slice g.ga g.gs.length g.gc, .slice g.ea g.es.length g.ec, .slice g.ra g.rs.length g.rc, .slice g.ua g.us.length g.uc], .string g.gs[i]!.name] W (IntsOf (filL g (nm g i) g.es.length) W)) :=
            Lib.hid (fun W h => by rw [← mem_group HM.out hlt]; exact members_any W g _ (HI.out.below (Nat.le_refl _) ((box_old HXM.out).trans (h.b.mono (box_old HXM.out).size))) HZ.out HC.out)
          have hk0 : (0 : Int) ≤ (i : Int) := Int.natCast_nonneg _
          have hk1 : (i : Int) < (g.gs.length : Int) := by omega
          rw [hA] at CM
          have HAG := Lib.hid hA
          clear hc k0 a0 a1 a2 a3 hA
          obtain ⟨s, hs⟩ : ∃ s, g.gs[i]!.name = s := ⟨_, rfl⟩
          rw [hs] at A5 CM HN
          have HSN := Lib.hid hs
          clear hs
          go_wp2_with fail
          obtain ⟨W5, hW5⟩ : ∃ W5, W5 = wr.alloc (.map #[] 0) := ⟨_, rfl⟩
          rw [← hW5] at A5 R0 BS CM HXM ⊢
          have hz5 : W5.heap.size = wr.heap.size + 1 := by rw [hW5]; simp
          clear hW5
          obtain ⟨wo, hwo⟩ : ∃ wo : World, wo = wr := ⟨_, rfl⟩
          subst hwo
          go_region_held3 (fun W => RB W5 W ∧ W.cell? ⟨w.heap.size, 0, none⟩ = some (.slice (some ⟨gb, off, none⟩) g.gs.length g.gc) ∧ W.cell? ⟨w.heap.size, 1, none⟩ = some (.slice g.ea g.es.length g.ec) ∧ W.cell? ⟨w.heap.size, 2, none⟩ = some (.slice g.ra g.rs.length g.rc) ∧ W.cell? ⟨w.heap.size, 3, none⟩ = some (.slice g.ua g.us.length g.uc) ∧ W.cell? ⟨gb, off + i * 2, none⟩ = some (.string s))
            (((try go_split_ands); (first | exact s_all A5 (by with_reducible assumption) | exact s_all A5 (rb_drew (by with_reducible assumption)) | exact s_all A5 (rb_call (by with_reducible assumption) (by with_reducible assumption)))))
            (first
              | (go_at_call 12; go_split_ands; refine (CM.out _ (by with_reducible assumption)).mono ?_; rintro e w6 ⟨v6, rfl, o6, hb6⟩; obtain ⟨va, vc, rfl⟩ := own_slice o6))
          have R6 := Lib.hid (rb_call hb6 (rb_drew R0))
          have X6 : Hid (XB w g w6) := Lib.hid (HXM.out.trans (R6.out.b.mono (by omega)))
          have B6 : Hid (BSet w6 wo.heap.size 0 fun _ => false) := Lib.hid (BS.out.below R6.out.b)
          have O6 := Lib.hid o6
          have hfl := filL_le g (nm g i) g.es.length
          have HND := Lib.hid (filL_nodup g (nm g i) g.es.length)
          clear hb6 o6 R0 R6 BS CM A5 HXM
          obtain ⟨L, hL⟩ : ∃ L, filL g (nm g i) g.es.length = L := ⟨_, rfl⟩
          rw [hL] at O6 hfl HND ⊢
          have HLL := Lib.hid hL
          clear hL
          go_wp2_with fail
          go_loopw [51] (fun j wx => ARel w g wo.heap.size W5.drew.heap.size L (.slice va L.length vc) j wx) (fun j _ => L.length - (intOf j).toNat)
          case atStart => exact ⟨0, Nat.zero_le _, rfl, X6, B6, O6⟩
          case round =>
            obtain ⟨j, hj, rfl, HXj, HBj, HOj⟩ := hrel
            by_cases hjt : j < L.length
            · obtain ⟨vb, cur, rfl, _, _, _⟩ := own_some HOj.out (by omega)
              have hcell := int_cell HOj.out hjt
              have hLj : L[j]! ≤ 80 := by
                have h1 := filL_lt (g := g) (s := nm g i) (m := g.es.length) (j := j) (by rw [HLL.out]; exact hjt)
                rw [HLL.out] at h1; omega
              obtain ⟨wy, hup, hBS, hgr⟩ := HBj.out.put (k := L[j]!) (by omega) (take_not HND.out hjt) (by unfold maxLen; omega)
              have HB' : Hid (BSet wy wo.heap.size (j + 1) fun k => (L.take (j + 1)).contains k) := Lib.hid (by
                have e : (fun k => (L.take (j + 1)).contains k) = fun k => ((L.take j).contains k || k == L[j]!) := by funext k; exact take_more hjt k
                rw [e]; exact hBS)
              have HX' : Hid (XB w g wy) := Lib.hid (HXj.out.grown hgr (by have := HXj.out.size; rw [HS0.out] at this; exact this) (fun q hq => by cases hq; omega))
              have HO' := Lib.hid (HOj.out.kept hgr (.inr (set_ne_own HOj.out HBj.out)))
              clear hBS hgr HXj HBj HOj
              generalize L[j]! = q at *
              go_wp2_with fail
              go_roundw
              case rel => exact ⟨j + 1, hjt, by go_num, HX', HB', HO'⟩
              case measure => simp [intOf]; omega
            · obtain rfl : j = L.length := by omega
              have HB0 : Hid (BSet wr wo.heap.size L.length fun k => L.contains k) := Lib.hid (by have h := HBj.out; rw [List.take_length] at h; exact h)
              have LC : Hid (∀ k, k < g.es.length → inB g (nm g i) g.gs.length g.es[k]!.group.toList = true → L.contains k = true) := Lib.hid (fun k hk h => by rw [← HLL.out, filL_has, h, decide_eq_true hk]; rfl)
              have HSM : Hid (s.toList = nm g i) := Lib.hid (by rw [← HSN.out]; rfl)
              obtain ⟨a0, a1, a2, a3⟩ := box_cells HXj.out
              clear hj hjt HBj HOj hfl hgb
              go_wp2_with fail
              clear a0 a1 a2 a3
              go_loopw [9, 61] (fun m j wx => BRel w g wo.heap.size L (fun j => own_ g (nm g i) j) g.es.length m j wx) (fun _ j _ => g.es.length - (intOf j).toNat)
              case atStart => exact ⟨0, Nat.zero_le _, rfl, rfl, HXj, HB0⟩
              case round =>
                clear HXj HB0
                obtain ⟨k, hk, rfl, hmq, HXk, HBk⟩ := hrel
                obtain rfl : _ = Value.int .i64 ((own_ g (nm g i) k : Nat) : Int) := hmq
                obtain ⟨a0, a1, a2, a3⟩ := box_cells HXk.out
                by_cases hkt : k < g.es.length
                · obtain ⟨eb, eoff, hAe, heb, hce⟩ := HI.out.es.at_ (k := 6) (fun _ => rfl) (by omega) hkt
                  have e1 := hce 1 _ rfl
                  have n0 := HK.out
                  rw [HSN.out] at n0
                  have hgb := World.block_lt_of_cell? _ _ n0
                  rw [← (box_old HXk.out).cell (p := ⟨eb, _, none⟩) heb] at e1
                  rw [← (box_old HXk.out).cell (p := ⟨gb, _, none⟩) hgb] at n0
                  rw [HAG.out] at a0
                  rw [hAe] at a1
                  have hk0 : (0 : Int) ≤ (k : Int) := Int.natCast_nonneg _
                  have hk1 : (k : Int) < (g.es.length : Int) := by omega
                  have hol := own_le g (nm g i) k
                  have HL2 := Lib.hid (LC.out k hkt)
                  have hlk := fun n => (HBk.out.block (w' := wr.drewN n) rfl).look (k := k) (by omega)
                  have HOS := Lib.hid (own_succ g (nm g i) k)
                  clear hce hAe
                  cases hq : (g.es[k]!.group.toList == s.toList) with
                  | true =>
                    have hin : L.contains k = true := HL2.out (by rw [show g.es[k]!.group.toList = nm g i from (beq_iff_eq.1 hq).trans HSM.out]; exact inB_self HM.out hlt)
                    have HO2 : Hid (own_ g (nm g i) (k + 1) = own_ g (nm g i) k + 1) := Lib.hid (by rw [HOS.out, show (g.es[k]!.group.toList == nm g i) = true from by rw [← HSM.out]; exact hq]; rfl)
                    simp only [hin] at hlk
                    clear hin
                    generalize g.es[k]! = x at *
                    generalize own_ g (nm g i) k = q at *
                    go_wp2_with fail
                    go_quiet (fail)
                    go_wp2_with fail
                    go_roundw
                    case rel => exact ⟨k + 1, hkt, by go_num, (by show _ = Value.int .i64 ((own_ g (nm g i) (k + 1) : Nat) : Int); rw [HO2.out]; go_num), Lib.hid (below_draws HXk.out _), Lib.hid (HBk.out.block rfl)⟩
                    case measure => simp [intOf]; omega
                  | false =>
                    have HO2 : Hid (own_ g (nm g i) (k + 1) = own_ g (nm g i) k) := Lib.hid (by rw [HOS.out, show (g.es[k]!.group.toList == nm g i) = false from by rw [← HSM.out]; exact hq]; rfl)
                    clear hlk
                    generalize g.es[k]! = x at *
                    generalize own_ g (nm g i) k = q at *
                    go_wp2_with fail
                    go_quiet (fail)
                    go_wp2_with fail
                    go_roundw
                    case rel => exact ⟨k + 1, hkt, by go_num, (by show _ = Value.int .i64 ((own_ g (nm g i) (k + 1) : Nat) : Int); rw [HO2.out]), Lib.hid (below_draws HXk.out _), Lib.hid (HBk.out.block rfl)⟩
                    case measure => simp [intOf]; omega
                · obtain rfl : k = g.es.length := by omega
                  rw [HAG.out] at a0
                  go_wp2_with fail
                  clear hk hkt a0 a1 a2 a3 LC
                  have hob := own_le g (nm g i) g.es.length
                  obtain ⟨OW, how⟩ : ∃ OW, own_ g (nm g i) g.es.length = OW := ⟨_, rfl⟩
                  rw [how] at hob ⊢
                  have HOW := Lib.hid how
                  clear how
                  go_loopw [9, 87] (fun m j wx => BRel w g wo.heap.size L (fun j => OW + below_ g (nm g i) j g.es.length) g.gs.length m j wx) (fun _ j _ => g.gs.length - (intOf j).toNat)
                  case atStart => exact ⟨0, Nat.zero_le _, rfl, rfl, HXk, HBk⟩
                  case round =>
                    clear HXk HBk
                    obtain ⟨k, hk, rfl, hmq, HXk, HBk⟩ := hrel
                    obtain rfl : _ = Value.int .i64 ((OW + below_ g (nm g i) k g.es.length : Nat) : Int) := hmq
                    obtain ⟨a0, a1, a2, a3⟩ := box_cells HXk.out
                    have hbl := below_le g (nm g i) g.es.length k
                    by_cases hkt : k < g.gs.length
                    · obtain ⟨gb', off', hAx, hgbx, hcx⟩ := HI.out.gs.at_ (k := 2) (fun _ => rfl) (by omega) hkt
                      obtain ⟨rfl, rfl⟩ : gb' = gb ∧ off' = off := by
                        have h1 := hAx.symm.trans HAG.out
                        injection h1 with h1
                        injection h1 with h1 h2
                        exact ⟨h1, h2⟩
                      have x0 := hcx 0 _ rfl
                      rw [Nat.add_zero] at x0
                      have x1 := hcx 1 _ rfl
                      have n0 := HK.out
                      rw [HSN.out] at n0
                      rw [← (box_old HXk.out).cell (p := ⟨gb', _, none⟩) hgbx] at x0 x1 n0
                      rw [HAG.out] at a0
                      have hk0 : (0 : Int) ≤ (k : Int) := Int.natCast_nonneg _
                      have hk1 : (k : Int) < (g.gs.length : Int) := by omega
                      have hbl2 : below_ g (nm g i) k g.es.length ≤ 3200 := by
                        have h1 : k * g.es.length ≤ 40 * 80 := Nat.mul_le_mul (by omega) f2
                        omega
                      have HBE := Lib.hid (below_succ g (nm g i) k g.es.length)
                      have lx := HXk.out.size
                      rw [HS0.out] at lx
                      have lg' : gb' < wr.heap.size := by omega
                      have lw : w.heap.size < wr.heap.size := by omega
                      have HXb : Hid (XB w g (wr.alloc (.cells #[.string g.gs[k]!.name, .string g.gs[k]!.parent] 33))) := Lib.hid (HXk.out.alloc (by omega) _)
                      have HBb : Hid (BSet (wr.alloc (.cells #[.string g.gs[k]!.name, .string g.gs[k]!.parent] 33)) wo.heap.size L.length fun k => L.contains k) := Lib.hid (HBk.out.below ((Below.refl _ _).alloc (Nat.le_refl _) _))
                      have CM : Hid (∀ W, XB w g W → Calls Try.prog 12 #[.agg #[.slice (some ⟨gb', off', none⟩) g.gs.length g.gc, .slice g.ea g.es.length g.ec, .slice g.ra g.rs.length g.rc, .slice g.ua g.us.length g.uc], .string g.gs[k]!.name] W (IntsOf (filL g (nm g k) g.es.length) W)) :=
                        Lib.hid (fun W h => by rw [← mem_group HM.out hkt, ← HAG.out]; exact members_any W g _ (HI.out.below (Nat.le_refl _) (box_old h)) HZ.out HC.out)
                      have HPR : Hid (pr g k = g.gs[k]!.parent.toList) := Lib.hid rfl
                      clear hcx hAx hbl
                      cases hq : (g.gs[k]!.parent.toList == s.toList) with
                      | false =>
                        have HO2 : Hid (below_ g (nm g i) (k + 1) g.es.length = below_ g (nm g i) k g.es.length) := Lib.hid (by rw [HBE.out, if_neg (by rw [HPR.out, ← HSM.out]; exact beq_eq_false_iff_ne.1 hq), Nat.add_zero])
                        generalize g.gs[k]! = x at *
                        generalize below_ g (nm g i) k g.es.length = q at *
                        go_wp2_with fail
                        go_quiet (fail)
                        go_wp2_with fail
                        go_roundw
                        case rel => exact ⟨k + 1, hkt, by go_num, (by show _ = Value.int .i64 ((OW + below_ g (nm g i) (k + 1) g.es.length : Nat) : Int); rw [HO2.out]), Lib.hid (below_draws HXb.out _), Lib.hid (HBb.out.block rfl)⟩
                        case measure => simp [intOf]; omega
                      | true =>
                        have hpk : pr g k = nm g i := by rw [HPR.out, ← HSM.out]; exact beq_iff_eq.1 hq
                        have HO2 : Hid (below_ g (nm g i) (k + 1) g.es.length = below_ g (nm g i) k g.es.length + (filL g (nm g k) g.es.length).length) := Lib.hid (by rw [HBE.out, if_pos hpk])
                        have HUP : Hid (∀ d, d < (filL g (nm g k) g.es.length).length → (filL g (nm g k) g.es.length)[d]! ≤ 80 ∧ L.contains (filL g (nm g k) g.es.length)[d]! = true) := Lib.hid (fun d hd => by
                          have h1 := filL_lt hd
                          have h2 : (filL g (nm g k) g.es.length).contains (filL g (nm g k) g.es.length)[d]! = true := List.contains_iff_mem.2 (mem_at hd)
                          rw [filL_has, Bool.and_eq_true] at h2
                          refine ⟨by omega, ?_⟩
                          rw [← HLL.out, filL_has, h2.1, inB_up HM.out hlt hkt hpk h2.2]; rfl)
                        have hfl2 := filL_le g (nm g k) g.es.length
                        obtain ⟨Lx, hLx⟩ : ∃ Lx, filL g (nm g k) g.es.length = Lx := ⟨_, rfl⟩
                        rw [hLx] at HO2 HUP hfl2 CM
                        clear hLx hpk HBE HPR
                        generalize g.gs[k]! = x at *
                        obtain ⟨q, hqq⟩ : ∃ q, OW + below_ g (nm g i) k g.es.length = q := ⟨_, rfl⟩
                        have hqb : q ≤ 4000 := by omega
                        rw [hqq]
                        have HQ := Lib.hid hqq
                        clear hqq
                        go_wp2_with fail
                        go_quiet (fail)
                        clear n0 x0 x1
                        have HXc := Lib.hid (below_draws HXb.out nq)
                        have HBc : Hid (BSet ((wr.alloc (.cells #[.string x.name, .string x.parent] 33)).drewN nq) wo.heap.size L.length fun k => L.contains k) := Lib.hid (HBb.out.block rfl)
                        go_wp2_with fail
                        refine (CM.out _ HXc.out).mono ?_
                        rintro e w7 ⟨v7, rfl, o7, hb7⟩
                        obtain ⟨va7, vc7, rfl⟩ := own_slice o7
                        have X7 : Hid (XB w g w7) := Lib.hid (HXc.out.trans (hb7.mono (by have := HXc.out.size; rw [HS0.out] at this; exact this)))
                        have B7 := Lib.hid (HBc.out.below hb7)
                        have O7 := Lib.hid o7
                        clear hb7 o7 HXc HBc CM a0 a1 a2 a3
                        go_wp2_with fail
                        obtain ⟨wp, hwp⟩ : ∃ wp : World, wp = wr := ⟨_, rfl⟩
                        subst hwp
                        obtain ⟨Bo, HOo⟩ : ∃ Bo, Hid (w7.ownsRow Bo 3 1 (.slice va7 Lx.length vc7) Lx.length (intC Lx)) := ⟨_, O7⟩
                        clear O7
                        go_loopw [9, 105] (fun m j wx => DRel w g wo.heap.size Bo L Lx q (.slice va7 Lx.length vc7) m j wx) (fun _ j _ => Lx.length - (intOf j).toNat)
                        case atStart => exact ⟨0, Nat.zero_le _, rfl, rfl, X7, B7, HOo⟩
                        case round =>
                          obtain ⟨d, hd, rfl, hmq, HXd, HBd, HOd⟩ := hrel
                          obtain rfl : _ = Value.int .i64 ((q + d : Nat) : Int) := hmq
                          by_cases hdt : d < Lx.length
                          · obtain ⟨vb, cur, rfl, _, _, _⟩ := own_some HOd.out (by omega)
                            have hcell := int_cell HOd.out hdt
                            obtain ⟨hle, hin⟩ := HUP.out d hdt
                            have hlk := HBd.out.look (k := Lx[d]!) (by omega)
                            simp only [hin] at hlk
                            clear hin
                            generalize Lx[d]! = y at *
                            go_wp2_with fail
                            go_roundw
                            case rel => exact ⟨d + 1, hdt, by go_num, (by show _ = Value.int .i64 ((q + (d + 1) : Nat) : Int); congr 1), HXd, HBd, HOd⟩
                            case measure => simp [intOf]; omega
                          · obtain rfl : d = Lx.length := by omega
                            go_wp2_with fail
                            go_roundw
                            case rel => exact ⟨k + 1, hkt, by go_num, (by show _ = Value.int .i64 ((OW + below_ g (nm g i) (k + 1) g.es.length : Nat) : Int); rw [HO2.out, ← Nat.add_assoc, HQ.out]), HXd, HBd⟩
                            case measure => simp [intOf]; omega
                    · obtain rfl : k = g.gs.length := by omega
                      have hnc : OW + below_ g (nm g i) g.gs.length g.es.length = L.length := by
                        have h1 := nest_count HM.out hlt g.es.length
                        rw [HLL.out, HOW.out] at h1; omega
                      rw [hnc]
                      have hln := HBk.out.len 3
                      have tt : ((L.length : Int) != (L.length : Int)) = false := by simp
                      clear hnc hbl
                      go_wp2_with fail
                      go_roundw
                      case rel => exact ⟨i + 1, hlt, by go_num, HXk⟩
                      case measure => simp [intOf]; omega
        · obtain rfl : i = g.gs.length := by omega
          go_wp2_with fail
          go_ret
          exact ⟨rfl, box_old HX.out⟩

theorem own : ownKnob Try.prog.godebug = none := by kernel_rfl
set_option maxRecDepth 100000 in
theorem lifted (os : Os) (started : os.Started) (H : Type) (enc : TypeId × Value → H) :
    ReturnsInHanded {} Try.checked os 5 .any (Rows.graphNestsSpec.pre6 enc Try.prog Try.f5 Rows.graphNestsRow.domain false) (Rows.graphNestsSpec.post enc Try.prog Try.f5 false true false false) := by
  refine returnsInHanded_of_change_sized (C := Try.checked) own started (by kernel_rfl) Try.func5
    (ChangeSpec.witness6 (enc := enc) (C := Try.checked) false ⟨#[], #[.agg #[.slice none 0 0, .slice none 0 0, .slice none 0 0, .slice none 0 0]], []⟩ 8 (by kernel_rfl) (by kernel_rfl) (by kernel_rfl) (by kernel_rfl)) ?_
  intro W base args ds gs before hval0 hW _ hsz0 _
  have hsz : (DataW.weightsEach Try.prog (Try.f5.params.toList ++ Rows.graphNestsSpec.plain.varTypes Try.prog) (ds ++ gs)).all (· ≤ reachBytes) = true := hsz0
  have hval : ∀ (j : Nat) t v, Try.f5.params[j]? = some t → args[j]? = some v → Value.okWide Try.prog W .any base t v := hval0
  have hW' := hW
  obtain ⟨p, q, hA0, hV, rfl, _, _⟩ := hW
  have hA : DataW.TrodAll enc Try.prog W 0 (fun _ => true) true Try.f5.params.toList args.toList ds p := hA0
  rw [Try.params5] at hA hval hsz
  obtain ⟨v0, vs0, d0, ds0, p0, q0, hargs, rfl, rfl, h0, r0⟩ := trodAll_cons hA
  obtain ⟨rfl, rfl, rfl⟩ := trodAll_nil r0
  obtain rfl : args = #[v0] := by cases args; simp_all
  obtain ⟨rfl, rfl⟩ := trodVars_none hV
  have hw0 : Wt Try.prog 27 d0 := Wt.of hsz (j := 0) rfl rfl
  obtain ⟨g, rfl, hI, hz, hcap, hnil, _⟩ := open_graph (hval 0 _ v0 rfl rfl) h0 hw0
  clear hA0 hval0 hsz0
  simp only [List.append_nil] at hW'
  have hlt : ∀ x ∈ p0, x.block < W.heap.size := fun x hx => hW'.lt x hx
  refine (walk W g hI hz hcap).mono fun e W' ⟨he, hg⟩ => ?_
  subst he
  have hargs := trodAll_cons_mk (Below.trod progLaid (by kernel_rfl) (of_decide_eq_true (by kernel_rfl)) h0 hg hlt) (trodAll_mk0 (enc := enc) (P := Try.prog) (w := W'))
  rw [List.append_nil] at hargs
  exact ⟨_, rfl, _, _, _, [], p0, [], hW', trodAll_cons_mk (shut_bool Try.underlying4 _) trodAll_mk0, hargs, rfl, hg.frame _, fun h => by cases h⟩

theorem proved : Rows.GraphNestsSaid :=
  OpenClaim.holds_of_wide 5 Try.f5 rfl rfl rfl rfl rfl rfl rfl ⟨rfl, rfl, rfl, rfl, rfl⟩ rfl rfl rfl rfl rfl (by kernel_rfl) Try.func5 (by kernel_rfl)
    (of_decide_eq_true (by kernel_rfl)) (by unfold Func.isWrapper; first | (rw [if_pos (by decide +kernel)]; kernel_rfl) | (rw [if_neg (by decide +kernel)]; exact ⟨rfl, rfl⟩))
    (fun os started H enc _ => lifted os started H enc)
end Go.Proofs.Ytoicfhmhnehakaa.graphNests
