/-
  GraphTells: for every graph and every text the law answers true, and its arguments read as they did. Conditions: none.
-/
import Derived.Test.YtandfjahfbeaiaaGreatRows
import Derived.Test.YtandfjahfbeaiaaGreatGrAx
import Derived.Test.YtandfjahfbeaiaaGreatGrLg
import Derived.Test.YtandfjahfbeaiaaGreatGrOp
import Derived.Test.YtandfjahfbeaiaaGreatGrWd
import Derived.Test.YtandfjahfbeaiaaGreatGrNf
import Derived.Test.YtandfjahfbeaiaaGreatGrNk
import Derived.Deep.RegionHeld3
import Derived.ProofKit
import Derived.OpenShut
import Derived.Carry
namespace Go.Proofs.YtandfjahfbeaiaaGreat.graphTells
open Go.ChangeShapes Go.WideShapes Go.ChangeAt Go.RowKit
open Go.ChangeMaps (open_string shut_string)

structure RB (W5 W : World) : Prop where
  b : Below W5.heap.size W5 W
theorem rb_begin (W : World) : RB W W := ⟨Below.refl _ _⟩
theorem rb_drew {W5 W : World} (h : RB W5 W) : RB W5 W.drew := ⟨⟨h.b.os, h.b.tape, h.b.output, h.b.size, h.b.block⟩⟩
theorem rb_call {W5 W W' : World} (hb : Below W.heap.size W W') (h : RB W5 W) : RB W5 W' := ⟨h.b.trans (hb.mono h.b.size)⟩
theorem gx_rb {w W5 W : World} {g : Gr} (h : Hid (GX w g W5)) (hr : RB W5 W) : GX w g W := gx_more h.out hr.b
theorem s_all {w W5 W : World} {g : Gr} (h : Hid (GX w g W5)) (hr : RB W5 W) : RB W5 W ∧ W.cell? ⟨w.heap.size, 0, none⟩ = some (.slice g.ga g.gs.length g.gc) ∧ W.cell? ⟨w.heap.size, 1, none⟩ = some (.slice g.ea g.es.length g.ec) ∧ W.cell? ⟨w.heap.size, 2, none⟩ = some (.slice g.ra g.rs.length g.rc) ∧ W.cell? ⟨w.heap.size, 3, none⟩ = some (.slice g.ua g.us.length g.uc) := ⟨hr, box_cells (gx_rb h hr)⟩
theorem old_rb {w W5 W : World} {g : Gr} (h : Hid (GX w g W5)) (hr : RB W5 W) : Below w.heap.size w W := gx_old (gx_rb h hr)
theorem int_cell {w : World} {B j : Nat} {L : List Nat} {gb c : Nat} (h : w.ownsRow B 3 1 (.slice (some ⟨gb, 0, none⟩) L.length c) L.length (intC L)) (hj : j < L.length) : w.cell? ⟨gb, j, none⟩ = some (.int .i64 ((L[j]! : Nat) : Int)) := by
  have h1 := h.cellAt j (by omega)
  rw [intC, List.getElem?_map, List.getElem?_eq_getElem hj, ← getElem!_pos L j hj] at h1
  exact h1
theorem words_self (A B : Option Addr) (c d : Nat) (a : List ByteArray) (w : World) (hr1 : Row w A (a.map Value.string)) (hr2 : Row w B (a.map Value.string)) (hla : a.length * 16 ≤ 140737488351232) :
    Calls Tryz.prog 10 #[.slice A a.length c, .slice B a.length d] w fun e w' => e = .returned (.bool true) ∧ Below w.heap.size w w' :=
  (words_any A B c d a a w hr1 hr2 hla).mono fun e w' ⟨he, hb⟩ => ⟨by rw [he, eqLB_self (p := same_st) (fun x => beq_self_eq_true _)], hb⟩
theorem mem_len (g : Gr) (s : ByteArray) : (memL g s).length ≤ g.es.length + 1 := by
  rw [memL]
  by_cases h : mayL g = true
  · rw [if_pos h]
    by_cases h2 : 0 ≤ idxB (named Ev.name s) g.es
    · rw [if_pos h2]; simp
    · rw [if_neg h2]; have := filL_le g s.toList g.es.length; omega
  · rw [if_neg h]; simp
theorem above_len (g : Gr) (s : ByteArray) : (aboveL g s).length ≤ g.gs.length := by
  cases hm : mayL g with
  | false => rw [aboveL, hm]; simp
  | true => rw [← down_above hm]; exact down_len g g.gs.length s
theorem roles_len (g : Gr) : (rolesL g).length ≤ 1000 := by
  cases hm : mayL g with
  | false => rw [rolesL, hm]; simp
  | true =>
    rw [← roles_add hm, ← rolesU_all]
    have h1 := addAll_len (rolesU g g.us.length) []
    have h2 := rolesU_len (may_few hm) (Nat.le_refl g.us.length)
    have h3 := (may_few hm).us
    simp only [List.length_nil] at h1; omega

set_option maxRecDepth 100000 in
set_option maxHeartbeats 8000000 in
theorem walk (w : World) (g : Gr) (s : ByteArray) (hI : InG w g) (hz : SzG g) (hcap : ∀ u ∈ g.us, u.roles.length ≤ u.rc) (hnil : ∀ u ∈ g.us, u.ra = none → u.rc = 0) (hs : s.size ≤ 140737488351232) :
    Calls Tryz.prog 3 #[.agg #[.slice g.ga g.gs.length g.gc, .slice g.ea g.es.length g.ec, .slice g.ra g.rs.length g.rc, .slice g.ua g.us.length g.uc], .string s] w fun e w' => e = .returned (.bool true) ∧ Below w.heap.size w w' := by
  have HI := Lib.hid hI
  have HZ := Lib.hid hz
  have HC := Lib.hid hcap
  have HN := Lib.hid hnil
  have hs0 := box_size w g
  have HS0 := Lib.hid hs0
  have z1 := hz.gs
  have z2 := hz.es
  clear hI hz hcap hnil hs0
  go_enter Tryz.func3, Tryz.ntmps3
  go_wp2_with fail
  refine (awake_any _).mono ?_
  rintro e w1 ⟨rfl, hb1⟩
  have X1 : Hid (GX w g w1) := Lib.hid (gx_more (gx_start w g) hb1)
  obtain ⟨a0, a1, a2, a3⟩ := box_cells X1.out
  clear hb1
  go_wp2_with fail
  refine (large_any w1 g (HI.out.below (Nat.le_refl _) (gx_old X1.out)) HZ.out).mono ?_
  rintro e w2 ⟨b, rfl, _, hb2⟩
  have X2 : Hid (GX w g w2) := Lib.hid (gx_more X1.out hb2)
  clear a0 a1 a2 a3 hb2 X1
  cases b with
  | true =>
    go_wp2_with fail
    go_ret
    exact ⟨rfl, gx_old X2.out⟩
  | false =>
    by_cases h100 : (100 : Int) < (s.size : Int)
    · go_wp2_with fail
      go_ret
      exact ⟨rfl, gx_old X2.out⟩
    go_wp2_with fail
    have R0 := rb_begin w2
    have hml := mem_len g s
    obtain ⟨L, hL⟩ : ∃ L, memL g s = L := ⟨_, rfl⟩
    have CM1 : Hid (∀ W, RB w2 W → Calls Tryz.prog 6 #[.agg #[.slice g.ga g.gs.length g.gc, .slice g.ea g.es.length g.ec, .slice g.ra g.rs.length g.rc, .slice g.ua g.us.length g.uc], .string s] W (IntsOf L W)) := Lib.hid (fun W h => by rw [← hL]; exact members_any W g s (HI.out.below (Nat.le_refl _) (old_rb X2 h)) HZ.out HC.out)
    have CM2 : Hid (∀ W, RB w2 W → Calls Tryz.prog 7 #[.agg #[.slice g.ga g.gs.length g.gc, .slice g.ea g.es.length g.ec, .slice g.ra g.rs.length g.rc, .slice g.ua g.us.length g.uc], .string s] W (IntsOf L W)) := Lib.hid (fun W h => by rw [← hL]; exact rmembers_any W g s (HI.out.below (Nat.le_refl _) (old_rb X2 h)) HZ.out)
    rw [hL] at hml
    clear hL
    go_region_held3 (fun W => RB w2 W ∧ W.cell? ⟨w.heap.size, 0, none⟩ = some (.slice g.ga g.gs.length g.gc) ∧ W.cell? ⟨w.heap.size, 1, none⟩ = some (.slice g.ea g.es.length g.ec) ∧ W.cell? ⟨w.heap.size, 2, none⟩ = some (.slice g.ra g.rs.length g.rc) ∧ W.cell? ⟨w.heap.size, 3, none⟩ = some (.slice g.ua g.us.length g.uc))
      (((try go_split_ands); (first | exact s_all X2 (by with_reducible assumption) | exact s_all X2 (rb_drew (by with_reducible assumption)) | exact s_all X2 (rb_call (by with_reducible assumption) (by with_reducible assumption)))))
      (first
        | (go_at_call 6; go_split_ands; refine (CM1.out _ (by with_reducible assumption)).mono ?_; rintro e w3 ⟨v3, rfl, o3, hb3⟩; obtain ⟨va3, vc3, rfl⟩ := own_slice o3)
        | (go_at_call 7; go_split_ands; refine (CM2.out _ (by with_reducible assumption)).mono ?_; rintro e w4 ⟨v4, rfl, o4, hb4⟩; obtain ⟨va4, vc4, rfl⟩ := own_slice o4))
    have X4 : Hid (GX w g w4) := Lib.hid (gx_rb X2 (rb_call hb4 (rb_call hb3 (rb_drew R0))))
    obtain ⟨B3, O3⟩ : ∃ B, Hid (w4.ownsRow B 3 1 (.slice va3 L.length vc3) L.length (intC L)) := ⟨_, Lib.hid (own_below o3 hb4)⟩
    obtain ⟨B4, O4⟩ : ∃ B, Hid (w4.ownsRow B 3 1 (.slice va4 L.length vc4) L.length (intC L)) := ⟨_, Lib.hid o4⟩
    have tt : ((L.length : Int) != (L.length : Int)) = false := by simp
    clear o3 o4 hb3 hb4 CM1 CM2 R0 X2
    go_wp2_with fail
    go_loopw [30] (fun i wr => ∃ k : Nat, k ≤ L.length ∧ i = .int .i64 k ∧ Hid (GX w g wr) ∧ Hid (wr.ownsRow B3 3 1 (.slice va3 L.length vc3) L.length (intC L)) ∧ Hid (wr.ownsRow B4 3 1 (.slice va4 L.length vc4) L.length (intC L))) (fun i _ => L.length - (intOf i).toNat)
    case atStart => exact ⟨0, Nat.zero_le _, rfl, X4, O3, O4⟩
    case round =>
      clear X4 O3 O4
      obtain ⟨k, hk, rfl, HX, H3, H4⟩ := hrel
      by_cases hlt : k < L.length
      · obtain ⟨b3, cc3, e3, hb3⟩ := own_some' H3.out (by omega)
        obtain ⟨b4, cc4, e4, hb4⟩ := own_some' H4.out (by omega)
        injection e3 with e3 _ e3'
        injection e4 with e4 _ e4'
        subst e3 e3' e4 e4'
        have k3 := int_cell H3.out hlt
        have k4 := int_cell H4.out hlt
        have hk0 : (0 : Int) ≤ (k : Int) := Int.natCast_nonneg _
        have hk1 : (k : Int) < (L.length : Int) := by omega
        generalize L[k]! = q at *
        have tq : ((q : Int) != (q : Int)) = false := by simp
        go_wp2_with fail
        go_quiet (fail)
        go_wp2_with fail
        go_roundw
        case rel => exact ⟨k + 1, hlt, by go_num, Lib.hid (below_draws HX.out _), Lib.hid (own_below H3.out (below_draws (Below.refl _ _) _)), Lib.hid (own_below H4.out (below_draws (Below.refl _ _) _))⟩
        case measure => simp [intOf]; omega
      · obtain rfl : k = L.length := by omega
        clear H3 H4 tt hml
        go_wp2_with fail
        obtain ⟨w5, hw5⟩ : ∃ w5 : World, w5 = wr := ⟨_, rfl⟩
        rw [← hw5] at HX ⊢
        clear hw5
        have R0 := rb_begin w5
        obtain ⟨z, hz⟩ : ∃ z : Int, (if mayL g then idxB (named Ev.name s) g.es else -1) = z := ⟨_, rfl⟩
        have CF1 : Hid (∀ W, RB w5 W → Calls Tryz.prog 8 #[.agg #[.slice g.ga g.gs.length g.gc, .slice g.ea g.es.length g.ec, .slice g.ra g.rs.length g.rc, .slice g.ua g.us.length g.uc], .string s] W (fun e w' => e = .returned (.int .i64 z) ∧ Below W.heap.size W w')) := Lib.hid (fun W h => by rw [← hz]; exact find_any W g s (HI.out.below (Nat.le_refl _) (old_rb HX h)) HZ.out HC.out)
        have CF2 : Hid (∀ W, RB w5 W → Calls Tryz.prog 9 #[.agg #[.slice g.ga g.gs.length g.gc, .slice g.ea g.es.length g.ec, .slice g.ra g.rs.length g.rc, .slice g.ua g.us.length g.uc], .string s] W (fun e w' => e = .returned (.int .i64 z) ∧ Below W.heap.size W w')) := Lib.hid (fun W h => by rw [← hz]; exact rfind_any W g s (HI.out.below (Nat.le_refl _) (old_rb HX h)) HZ.out)
        clear hz
        have hal := above_len g s
        have hrl := roles_len g
        obtain ⟨LA, hLA⟩ : ∃ L, aboveL g s = L := ⟨_, rfl⟩
        obtain ⟨LR, hLR⟩ : ∃ L, rolesL g = L := ⟨_, rfl⟩
        have CA1 : Hid (∀ W, RB w5 W → Calls Tryz.prog 11 #[.agg #[.slice g.ga g.gs.length g.gc, .slice g.ea g.es.length g.ec, .slice g.ra g.rs.length g.rc, .slice g.ua g.us.length g.uc], .string s] W (StrsOf LA W)) := Lib.hid (fun W h => by rw [← hLA]; exact above_any W g s (HI.out.below (Nat.le_refl _) (old_rb HX h)) HZ.out HC.out)
        have CA2 : Hid (∀ W, RB w5 W → Calls Tryz.prog 12 #[.agg #[.slice g.ga g.gs.length g.gc, .slice g.ea g.es.length g.ec, .slice g.ra g.rs.length g.rc, .slice g.ua g.us.length g.uc], .string s] W (StrsOf LA W)) := Lib.hid (fun W h => by rw [← hLA]; exact rabove_any W g s (HI.out.below (Nat.le_refl _) (old_rb HX h)) HZ.out)
        have CR1 : Hid (∀ W, RB w5 W → Calls Tryz.prog 13 #[.agg #[.slice g.ga g.gs.length g.gc, .slice g.ea g.es.length g.ec, .slice g.ra g.rs.length g.rc, .slice g.ua g.us.length g.uc]] W (StrsOf LR W)) := Lib.hid (fun W h => by rw [← hLR]; exact roles_any W g (HI.out.below (Nat.le_refl _) (old_rb HX h)) HZ.out HC.out HN.out)
        have CR2 : Hid (∀ W, RB w5 W → Calls Tryz.prog 14 #[.agg #[.slice g.ga g.gs.length g.gc, .slice g.ea g.es.length g.ec, .slice g.ra g.rs.length g.rc, .slice g.ua g.us.length g.uc]] W (StrsOf LR W)) := Lib.hid (fun W h => by rw [← hLR]; exact rroles_any W g (HI.out.below (Nat.le_refl _) (old_rb HX h)) HZ.out)
        rw [hLA] at hal
        rw [hLR] at hrl
        clear hLA hLR
        have hal' : LA.length * 16 ≤ 140737488351232 := by omega
        have hrl' : LR.length * 16 ≤ 140737488351232 := by omega
        have tz : (z == z) = true := by simp
        go_region_held3 (fun W => RB w5 W ∧ W.cell? ⟨w.heap.size, 0, none⟩ = some (.slice g.ga g.gs.length g.gc) ∧ W.cell? ⟨w.heap.size, 1, none⟩ = some (.slice g.ea g.es.length g.ec) ∧ W.cell? ⟨w.heap.size, 2, none⟩ = some (.slice g.ra g.rs.length g.rc) ∧ W.cell? ⟨w.heap.size, 3, none⟩ = some (.slice g.ua g.us.length g.uc))
          (((try go_split_ands); (first | exact s_all HX (by with_reducible assumption) | exact s_all HX (rb_drew (by with_reducible assumption)) | exact s_all HX (rb_call (by with_reducible assumption) (by with_reducible assumption)))))
          (first
            | (go_at_call 8; go_split_ands; refine (CF1.out _ (by with_reducible assumption)).mono ?_; rintro e w6 ⟨rfl, hb6⟩)
            | (go_at_call 9; go_split_ands; refine (CF2.out _ (by with_reducible assumption)).mono ?_; rintro e w7 ⟨rfl, hb7⟩)
            | (go_at_call 11; go_split_ands; refine (CA1.out _ (by with_reducible assumption)).mono ?_; rintro e w8 ⟨v8, rfl, o8, hb8⟩; obtain ⟨va8, vc8, rfl⟩ := own_slice o8)
            | (go_at_call 12; go_split_ands; refine (CA2.out _ (by with_reducible assumption)).mono ?_; rintro e w9 ⟨v9, rfl, o9, hb9⟩; obtain ⟨va9, vc9, rfl⟩ := own_slice o9)
            | (go_at_call 13; go_split_ands; refine (CR1.out _ (by with_reducible assumption)).mono ?_; rintro e w11 ⟨v11, rfl, o11, hb11⟩; obtain ⟨va11, vc11, rfl⟩ := own_slice o11)
            | (go_at_call 14; go_split_ands; refine (CR2.out _ (by with_reducible assumption)).mono ?_; rintro e w12 ⟨v12, rfl, o12, hb12⟩; obtain ⟨va12, vc12, rfl⟩ := own_slice o12)
            | (go_at_call 10; go_split_ands; refine (words_self va11 va12 vc11 vc12 LR w12 (Row.of_own (own_below o11 hb12)) (Row.of_own o12) hrl').mono ?_; rintro e w13 ⟨rfl, hb13⟩)
            | (go_at_call 10; go_split_ands; refine (words_self va8 va9 vc8 vc9 LA w9 (Row.of_own (own_below o8 hb9)) (Row.of_own o9) hal').mono ?_; rintro e w10 ⟨rfl, hb10⟩))
        have R13 := Lib.hid (old_rb HX (rb_call hb13 (rb_call hb12 (rb_call hb11 (rb_call hb10 (rb_call hb9 (rb_call hb8 (rb_call hb7 (rb_call hb6 (rb_drew R0))))))))))
        go_wp2_with fail
        go_ret
        exact ⟨rfl, R13.out⟩

theorem own : ownKnob Tryz.prog.godebug = none := by kernel_rfl
set_option maxRecDepth 100000 in
theorem lifted (os : Os) (started : os.Started) (H : Type) (enc : TypeId × Value → H) :
    ReturnsInHanded {} Tryz.checked os 3 .any (Rows.graphTellsSpec.pre6 enc Tryz.prog Tryz.f3 Rows.graphTellsRow.domain false) (Rows.graphTellsSpec.post enc Tryz.prog Tryz.f3 false true false false) := by
  refine returnsInHanded_of_change_sized (C := Tryz.checked) own started (by kernel_rfl) Tryz.func3
    (ChangeSpec.witness6 (enc := enc) (C := Tryz.checked) false ⟨#[], #[.agg #[.slice none 0 0, .slice none 0 0, .slice none 0 0, .slice none 0 0], .string ByteArray.empty], []⟩ 8 (by kernel_rfl) (by kernel_rfl) (by kernel_rfl) (by kernel_rfl)) ?_
  intro W base args ds gs before hval0 hW _ hsz0 _
  have hsz : (DataW.weightsEach Tryz.prog (Tryz.f3.params.toList ++ Rows.graphTellsSpec.plain.varTypes Tryz.prog) (ds ++ gs)).all (· ≤ reachBytes) = true := hsz0
  have hval : ∀ (j : Nat) t v, Tryz.f3.params[j]? = some t → args[j]? = some v → Value.okWide Tryz.prog W .any base t v := hval0
  have hW' := hW
  obtain ⟨p, q, hA0, hV, rfl, _, _⟩ := hW
  have hA : DataW.TrodAll enc Tryz.prog W 0 (fun _ => true) true Tryz.f3.params.toList args.toList ds p := hA0
  rw [Tryz.params3] at hA hval hsz
  obtain ⟨v0, vs0, d0, ds0, p0, q0, hargs, rfl, rfl, h0, r0⟩ := trodAll_cons hA
  obtain ⟨v1, vs1, d1, ds1, p1, q1, rfl, rfl, rfl, h1, r1⟩ := trodAll_cons r0
  obtain ⟨rfl, rfl, rfl⟩ := trodAll_nil r1
  obtain rfl : args = #[v0, v1] := by cases args; simp_all
  obtain ⟨rfl, rfl⟩ := trodVars_none hV
  have hw0 : Wt Tryz.prog 27 d0 := Wt.of hsz (j := 0) rfl rfl
  obtain ⟨g, rfl, hI, hz, hcap, hnil, _⟩ := open_graph (hval 0 _ v0 rfl rfl) h0 hw0
  have h1' := h1
  obtain ⟨a1, rfl, rfl, rfl, w1⟩ := open_string Tryz.underlying9 (hval 1 9 v1 rfl rfl) h1
  have s1 : a1.size ≤ 140737488351232 := by have := sized_string hsz (j := 1) (t := 9) rfl rfl; rw [bytes_len] at this; exact this
  clear hA0 hval0 hsz0
  simp only [List.append_nil] at hW'
  have hlt : ∀ x ∈ p0, x.block < W.heap.size := fun x hx => hW'.lt x hx
  refine (walk W g a1 hI hz hcap hnil s1).mono fun e W' ⟨he, hg⟩ => ?_
  subst he
  have hargs := trodAll_cons_mk (Below.trod progLaid (by kernel_rfl) (of_decide_eq_true (by kernel_rfl)) h0 hg hlt) (trodAll_cons_mk (Below.trod progLaid (by kernel_rfl) (of_decide_eq_true (by kernel_rfl)) h1' hg (fun x hx => absurd hx (by simp))) (trodAll_mk0 (enc := enc) (P := Tryz.prog) (w := W')))
  simp only [List.append_nil] at hargs
  exact ⟨_, rfl, _, _, _, [], p0, [], hW', trodAll_cons_mk (shut_bool Tryz.underlying4 _) trodAll_mk0, hargs, rfl, hg.frame _, fun h => by cases h⟩

theorem proved : Rows.GraphTellsSaid :=
  OpenClaim.holds_of_wide 3 Tryz.f3 rfl rfl rfl rfl rfl rfl rfl ⟨rfl, rfl, rfl, rfl, rfl⟩ rfl rfl rfl rfl rfl (by kernel_rfl) Tryz.func3 (by kernel_rfl)
    (of_decide_eq_true (by kernel_rfl)) (by unfold Func.isWrapper; first | (rw [if_pos (by decide +kernel)]; kernel_rfl) | (rw [if_neg (by decide +kernel)]; exact ⟨rfl, rfl⟩))
    (fun os started H enc _ => lifted os started H enc)
end Go.Proofs.YtandfjahfbeaiaaGreat.graphTells
