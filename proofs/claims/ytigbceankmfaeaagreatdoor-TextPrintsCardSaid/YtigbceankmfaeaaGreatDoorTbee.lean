/-
  TextPrints: for every graph, the law answers true, and its argument reads as it did. Conditions: none (three tables of the library are tied to the program's text). The walk of TextPrints: of every graph it answers true. Contract of the document's own Large, of every graph: where it answers false, the graph has few parts.
-/
import Derived.Test.YtigbceankmfaeaaGreatDoorTbcg
import Derived.Test.YtigbceankmfaeaaGreatDoorTbed
import Derived.Test.YtigbceankmfaeaaGreatDoorTbbf
import Derived.Test.YtigbceankmfaeaaGreatDoorTbch
import Derived.Test.YtigbceankmfaeaaGreatDoorCards
import Derived.Test.YtigbceankmfaeaaGreatDoorTie
import Derived.SevenTiedAt
import Derived.ShutString
namespace Go.Proofs.YtigbceankmfaeaaGreatDoor
open Go.RowKit Go.Shelf
/-- A graph of few parts. -/
def SmallG (g : Gr) : Prop := g.gs.length ≤ 50 ∧ g.es.length ≤ 90 ∧ g.rs.length ≤ 320 ∧ g.us.length ≤ 50
def LargeOf (g : Gr) (w : World) (e : Ending) (w' : World) : Prop := ∃ b : Bool, e = .returned (.bool b) ∧ (b = false → SmallG g) ∧ Below w.heap.size w w'
def LgRel (w : World) (g : Gr) (len : Nat) (n i : Value) (wr : World) : Prop :=
  ∃ (k : Nat) (x : Int), k ≤ len ∧ i = .int .i64 k ∧ n = .int .i64 x ∧ Below (w.heap.size + 1) (boxW w g) wr
theorem box_old {w w1 : World} {g : Gr} (hb : Below (w.heap.size + 1) (boxW w g) w1) : Below w.heap.size w w1 :=
  (box_below w g).trans (hb.mono (by omega))
set_option maxRecDepth 100000 in
set_option maxHeartbeats 8000000 in
theorem large_any (w : World) (g : Gr) (hI : InG w g) (hz : SzG g) :
    Calls Tryz.prog 9 #[.agg #[.slice g.ga g.gs.length g.gc, .slice g.ea g.es.length g.ec, .slice g.ra g.rs.length g.rc, .slice g.ua g.us.length g.uc]] w (LargeOf g w) := by
  have z1 := hz.gs
  have z2 := hz.es
  have z3 := hz.rs
  have z4 := hz.us
  have HI := Lib.hid hI
  have HZ := Lib.hid hz
  clear hI hz
  go_enter Tryz.func9, Tryz.ntmps9
  go_wp2_with fail
  go_loopw [3, 4] (fun n i wr => LgRel w g g.gs.length n i wr) (fun _ i _ => g.gs.length - (intOf i).toNat)
  case atStart => exact ⟨0, 0, Nat.zero_le _, rfl, rfl, by rw [← box_size w g]; exact Below.refl _ _⟩
  case round =>
    obtain ⟨k, x, hk, rfl, rfl, hB⟩ := hrel
    obtain ⟨a0, a1, a2, a3⟩ := box_cells hB
    by_cases hlt : k < g.gs.length
    · obtain ⟨b, off, hA, hb, hc⟩ := HI.out.gs.at_ (k := 2) (fun _ => rfl) (by omega) hlt
      have k0 := hc 0 _ rfl
      rw [Nat.add_zero] at k0
      have k1 := hc 1 _ rfl
      rw [← (box_old hB).cell (p := ⟨b, _, none⟩) hb] at k0 k1
      rw [hA] at a0
      obtain ⟨hs1, hs2⟩ := HZ.out.gp _ (mem_at hlt)
      clear hc hA
      generalize g.gs[k]! = p at *
      have hk0 : (0 : Int) ≤ (k : Int) := Int.natCast_nonneg _
      have hk1 : (k : Int) < (g.gs.length : Int) := by omega
      go_wp2_with fail
      go_quiet (fail)
      go_wp2_with fail
      go_roundw
      case rel => exact ⟨k + 1, _, hlt, by go_num, rfl, below_draws hB _⟩
      case measure => simp [intOf]; omega
    · obtain rfl : k = g.gs.length := by omega
      go_wp2_with fail
      clear hk a0 a1 a2 a3
      go_loopw [3, 5] (fun n i wr => LgRel w g g.es.length n i wr) (fun _ i _ => g.es.length - (intOf i).toNat)
      case atStart => exact ⟨0, _, Nat.zero_le _, rfl, rfl, hB⟩
      case round =>
        clear hB
        obtain ⟨k, y, hk, rfl, rfl, hB⟩ := hrel
        obtain ⟨a0, a1, a2, a3⟩ := box_cells hB
        by_cases hlt : k < g.es.length
        · obtain ⟨b, off, hA, hb, hc⟩ := HI.out.es.at_ (k := 6) (fun _ => rfl) (by omega) hlt
          have k0 := hc 0 _ rfl
          rw [Nat.add_zero] at k0
          have k1 := hc 1 _ rfl
          have k2 := hc 2 _ rfl
          have k3 := hc 3 _ rfl
          have k4 := hc 4 _ rfl
          have k5 := hc 5 _ rfl
          rw [← (box_old hB).cell (p := ⟨b, _, none⟩) hb] at k0 k1 k2 k3 k4 k5
          rw [hA] at a1
          obtain ⟨hs1, hs2, hs3, _⟩ := HZ.out.ev _ (mem_at hlt)
          clear hc hA
          generalize g.es[k]! = p at *
          have hk0 : (0 : Int) ≤ (k : Int) := Int.natCast_nonneg _
          have hk1 : (k : Int) < (g.es.length : Int) := by omega
          go_wp2_with fail
          go_quiet (fail)
          go_wp2_with fail
          go_roundw
          case rel => exact ⟨k + 1, _, hlt, by go_num, rfl, below_draws hB _⟩
          case measure => simp [intOf]; omega
        · obtain rfl : k = g.es.length := by omega
          go_wp2_with fail
          clear hk a0 a1 a2 a3
          go_loopw [3, 6] (fun n i wr => LgRel w g g.rs.length n i wr) (fun _ i _ => g.rs.length - (intOf i).toNat)
          case atStart => exact ⟨0, _, Nat.zero_le _, rfl, rfl, hB⟩
          case round =>
            clear hB
            obtain ⟨k, y, hk, rfl, rfl, hB⟩ := hrel
            obtain ⟨a0, a1, a2, a3⟩ := box_cells hB
            by_cases hlt : k < g.rs.length
            · obtain ⟨b, off, hA, hb, hc⟩ := HI.out.rs.at_ (k := 4) (fun _ => rfl) (by omega) hlt
              have k0 := hc 0 _ rfl
              rw [Nat.add_zero] at k0
              have k1 := hc 1 _ rfl
              have k2 := hc 2 _ rfl
              have k3 := hc 3 _ rfl
              rw [← (box_old hB).cell (p := ⟨b, _, none⟩) hb] at k0 k1 k2 k3
              rw [hA] at a2
              obtain ⟨hs1, hs2, _⟩ := HZ.out.rl _ (mem_at hlt)
              clear hc hA
              generalize g.rs[k]! = p at *
              have hk0 : (0 : Int) ≤ (k : Int) := Int.natCast_nonneg _
              have hk1 : (k : Int) < (g.rs.length : Int) := by omega
              go_wp2_with fail
              go_quiet (fail)
              go_wp2_with fail
              go_roundw
              case rel => exact ⟨k + 1, _, hlt, by go_num, rfl, below_draws hB _⟩
              case measure => simp [intOf]; omega
            · obtain rfl : k = g.rs.length := by omega
              go_wp2_with fail
              clear hk a0 a1 a2 a3
              go_loopw [3, 7] (fun n i wr => LgRel w g g.us.length n i wr) (fun _ i _ => g.us.length - (intOf i).toNat)
              case atStart => exact ⟨0, _, Nat.zero_le _, rfl, rfl, hB⟩
              case round =>
                clear hB
                obtain ⟨k, y, hk, rfl, rfl, hB⟩ := hrel
                obtain ⟨a0, a1, a2, a3⟩ := box_cells hB
                by_cases hlt : k < g.us.length
                · obtain ⟨b, off, hA, hb, hc⟩ := HI.out.us.at_ (k := 3) (fun _ => rfl) (by omega) hlt
                  have k0 := hc 0 _ rfl
                  rw [Nat.add_zero] at k0
                  have k1 := hc 1 _ rfl
                  have k2 := hc 2 _ rfl
                  rw [← (box_old hB).cell (p := ⟨b, _, none⟩) hb] at k0 k1 k2
                  rw [hA] at a3
                  obtain ⟨hs1, hs2, hs3, hs4⟩ := HZ.out.ur _ (mem_at hlt)
                  have HA := Lib.hid hA
                  have HC := Lib.hid hc
                  have HR := Lib.hid (HI.out.roles _ (mem_at hlt))
                  clear hc hA
                  generalize g.us[k]! = p at *
                  have hk0 : (0 : Int) ≤ (k : Int) := Int.natCast_nonneg _
                  have hk1 : (k : Int) < (g.us.length : Int) := by omega
                  go_wp2_with fail
                  go_quiet (fail)
                  go_wp2_with fail
                  obtain ⟨wo, rfl⟩ : ∃ wo : World, wo = wr := ⟨_, rfl⟩
                  clear k0 k1 k2 a0 a1 a2 a3
                  go_loopw [3, 8] (fun n i wr => LgRel w g p.roles.length n i wr) (fun _ i _ => p.roles.length - (intOf i).toNat)
                  case atStart => exact ⟨0, _, Nat.zero_le _, rfl, rfl, below_draws hB _⟩
                  case round =>
                    clear hB
                    obtain ⟨j, z, hj, rfl, rfl, hB⟩ := hrel
                    obtain ⟨a0, a1, a2, a3⟩ := box_cells hB
                    have k1 := HC.out 1 _ rfl
                    rw [← (box_old hB).cell (p := ⟨b, _, none⟩) hb] at k1
                    rw [HA.out] at a3
                    by_cases hjt : j < p.roles.length
                    · obtain ⟨b', off', hA', hb', hc'⟩ := HR.out.str_at hjt
                      rw [← (box_old hB).cell (p := ⟨b', _, none⟩) hb'] at hc'
                      rw [hA'] at k1
                      have hss := hs4 _ (mem_at hjt)
                      clear hA'
                      generalize p.roles[j]! = q at *
                      have hj0 : (0 : Int) ≤ (j : Int) := Int.natCast_nonneg _
                      have hj1 : (j : Int) < (p.roles.length : Int) := by omega
                      go_wp2_with fail
                      go_roundw
                      case rel => exact ⟨j + 1, _, hjt, by go_num, rfl, hB⟩
                      case measure => simp [intOf]; omega
                    · obtain rfl : j = p.roles.length := by omega
                      go_wp2_with fail
                      go_roundw
                      case rel => exact ⟨k + 1, _, hlt, by go_num, rfl, hB⟩
                      case measure => simp [intOf]; omega
                · obtain rfl : k = g.us.length := by omega
                  clear hk
                  by_cases e0 : 10000 < y
                  · go_wp2_with fail
                    go_ret
                    exact ⟨true, rfl, (fun h => by cases h), box_old hB⟩
                  go_wp2_with fail
                  all_goals
                    go_ret
                    first
                      | exact ⟨true, rfl, (fun h => by cases h), box_old hB⟩
                      | (refine ⟨_, rfl, (fun h => ?_), box_old hB⟩; simp only [Bool.or_eq_false_iff, decide_eq_false_iff_not, Int.not_lt] at h; exact ⟨by omega, by omega, by omega, by omega⟩)
end Go.Proofs.YtigbceankmfaeaaGreatDoor

namespace Go.Proofs.YtigbceankmfaeaaGreatDoor.P3.L
open Go.RowKit Go.Shelf Go.Proofs.YtigbceankmfaeaaGreatDoor Go.Proofs.YtigbceankmfaeaaGreatDoor.P3 Go.Proofs.YtigbceankmfaeaaGreatDoor.P3.C
theorem of_list {t : ByteArray} {S : List UInt8} (h : t.data.toList = S) : t = ⟨S.toArray⟩ := by
  apply ByteArray.ext
  rw [← h]
set_option maxRecDepth 100000 in
set_option maxHeartbeats 8000000 in
theorem prints_walk (w : World) (g : Gr) (hI : InG w g) (hz : SzG g) (hcap : ∀ u ∈ g.us, u.roles.length ≤ u.rc) (hnil : ∀ u ∈ g.us, u.ra = none → u.rc = 0) (ht : Tab w.heap.size w) :
    Calls Tryz.prog 3 #[.agg #[.slice g.ga g.gs.length g.gc, .slice g.ea g.es.length g.ec, .slice g.ra g.rs.length g.rc, .slice g.ua g.us.length g.uc]] w fun e w' => e = .returned (.bool true) ∧ Below w.heap.size w w' := by
  have HB := Lib.hid (GB.new g (Below.refl w.heap.size w))
  have HI := Lib.hid hI
  have HZ := Lib.hid hz
  have HC := Lib.hid hcap
  have HN := Lib.hid hnil
  have HT := Lib.hid ht
  clear hI hz hcap hnil ht
  go_enter Tryz.func3, Tryz.ntmps3
  go_wp2_with fail
  refine (awake_any _ (tab_on HT.out HB.out.old)).mono ?_
  rintro e w1 ⟨rfl, hb1⟩
  have HB1 := Lib.hid (HB.out.call hb1)
  obtain ⟨c0, c1, c2, c3, l1⟩ := HB1.out.cells
  clear hb1 HB
  go_wp2_with fail
  refine (large_any w1 g (HI.out.below (Nat.le_refl _) HB1.out.old) HZ.out).mono ?_
  rintro e w2 ⟨lb, rfl, hsm, hb2⟩
  have HB2 := Lib.hid (HB1.out.call hb2)
  clear hb2 HB1 c0 c1 c2 c3 l1 hsm
  cases lb
  case true =>
    go_wp2_with fail
    go_ret
    exact ⟨rfl, HB2.out.old⟩
  case false =>
    obtain ⟨c0, c1, c2, c3, l1⟩ := HB2.out.cells
    go_wp2_with fail
    refine (print_any w2 g (HI.out.below (Nat.le_refl _) HB2.out.old) HZ.out HC.out HN.out (tab_on HT.out HB2.out.old)).mono ?_
    rintro e w3 ⟨hb3, h3⟩
    have HB3 := Lib.hid (HB2.out.call hb3)
    clear hb3 HB2 c0 c1 c2 c3 l1
    obtain ⟨c0, c1, c2, c3, l1⟩ := HB3.out.cells
    by_cases hc : (checkL g).2.2 = 0
    · rw [if_pos hc] at h3
      subst h3
      have hm : mayL g = true := by unfold mayL; rw [hc]; rfl
      rw [print_join (may_ok hm).names]
      have HC0 := Lib.hid hc
      clear hc hm
      go_wp2_with fail
      refine (rprint_any w3 g (HI.out.below (Nat.le_refl _) HB3.out.old) HZ.out).mono ?_
      rintro e w4 ⟨hb4, h4⟩
      rw [if_pos HC0.out] at h4
      obtain ⟨t, rfl, h4⟩ := h4
      obtain rfl := of_list h4
      have HB4 := Lib.hid (HB3.out.call hb4)
      clear hb4 HB3 c0 c1 c2 c3 l1 h4
      go_wp2_with fail
      go_ret
      exact ⟨by simp, HB4.out.old⟩
    · rw [if_neg hc] at h3
      subst h3
      have HC0 := Lib.hid hc
      clear hc
      go_wp2_with fail
      refine (rprint_any w3 g (HI.out.below (Nat.le_refl _) HB3.out.old) HZ.out).mono ?_
      rintro e w4 ⟨hb4, h4⟩
      rw [if_neg HC0.out] at h4
      subst h4
      have HB4 := Lib.hid (HB3.out.call hb4)
      clear hb4 HB3 c0 c1 c2 c3 l1 HC0
      go_wp2_with fail
      go_ret
      exact ⟨by simp, HB4.out.old⟩
end Go.Proofs.YtigbceankmfaeaaGreatDoor.P3.L

namespace Go.Proofs.YtigbceankmfaeaaGreatDoor.textPrints
open Go.ChangeShapes Go.WideShapes Go.ChangeAt Go.RowKit Go.Proofs.YtigbceankmfaeaaGreatDoor.P3.L
set_option maxRecDepth 100000 in
theorem lifted (os : Os) (started : os.Started) (H : Type) (enc : TypeId × Value → H) :
    ReturnsInHanded {} Tryz.checked os 3 .any (fun w args => (Rows.textPrintsSpec.pre enc Tryz.prog Tryz.f3 [] false w args ∧ laidMetH Tryz.prog lay3 w) ∧ sizedMet enc Tryz.prog Tryz.f3 (OpenSpec.ofChange Rows.textPrintsSpec) false w args)
      (Rows.textPrintsSpec.post enc Tryz.prog Tryz.f3 false true false false) := by
  refine returnsInHanded_of_change_and (C := Tryz.checked) (X := fun w _ => laidMetH Tryz.prog lay3 w) (fun _ _ _ hh h => h.of_heap hh) own started (by kernel_rfl) Tryz.func3
    (ChangeSpec.witness_shaped (enc := enc) (C := Tryz.checked) (os := os) (X := fun w _ => laidMetH Tryz.prog lay3 w) false (World.doorLaid Tryz.prog 24 os) #[.agg #[.slice none 0 0, .slice none 0 0, .slice none 0 0, .slice none 0 0]] 8 rfl (World.shaped_of_RefB (by kernel_rfl) (by kernel_rfl)) (by kernel_rfl) (by kernel_rfl) (by kernel_rfl) (door_met os _)) ?_
  intro W base args ds gs before hval0 hW _ hsz0 hL _
  have hsz : (DataW.weightsEach Tryz.prog (Tryz.f3.params.toList ++ Rows.textPrintsSpec.plain.varTypes Tryz.prog) (ds ++ gs)).all (· ≤ reachBytes) = true := hsz0
  have hval : ∀ (j : Nat) t v, Tryz.f3.params[j]? = some t → args[j]? = some v → Value.okWide Tryz.prog W .any base t v := hval0
  have hW' := hW
  obtain ⟨p, q, hA0, hV, rfl, _, _⟩ := hW
  have hA : DataW.TrodAll enc Tryz.prog W 0 (fun _ => true) true Tryz.f3.params.toList args.toList ds p := hA0
  rw [Tryz.params3] at hA hval hsz
  obtain ⟨v0, vs0, d0, ds0, p0, q0, hargs, rfl, rfl, h0, r0⟩ := trodAll_cons hA
  obtain ⟨rfl, rfl, rfl⟩ := trodAll_nil r0
  obtain rfl : args = #[v0] := by cases args; simp_all
  obtain ⟨rfl, rfl⟩ := trodVars_none hV
  have hw0 : Wt Tryz.prog 27 d0 := Wt.of hsz (j := 0) rfl rfl
  obtain ⟨g, rfl, hI, hz, hcap, hnil, _⟩ := open_graph (hval 0 _ v0 rfl rfl) h0 hw0
  clear hA0 hval0 hsz0
  simp only [List.append_nil] at hW'
  have hlt : ∀ x ∈ p0, x.block < W.heap.size := fun x hx => hW'.lt x hx
  refine (prints_walk W g hI hz hcap hnil (tab_of hL)).mono fun e W' ⟨he, hg⟩ => ?_
  subst he
  have hargs := trodAll_cons_mk (Below.trod progLaid (by kernel_rfl) (of_decide_eq_true (by kernel_rfl)) h0 hg hlt) (trodAll_mk0 (enc := enc) (P := Tryz.prog) (w := W'))
  rw [List.append_nil] at hargs
  exact ⟨_, rfl, _, _, _, [], p0, [], hW', trodAll_cons_mk (shut_bool Tryz.underlying4 _) trodAll_mk0, hargs, rfl, hg.frame _, fun h => by cases h⟩
theorem said : Rows.TextPrintsSaid :=
  OpenClaim.holds_of_wide 3 Tryz.f3 rfl rfl rfl rfl rfl rfl rfl ⟨rfl, rfl, rfl, rfl, rfl⟩ rfl rfl rfl rfl rfl (by kernel_rfl) Tryz.func3 (by kernel_rfl)
    (of_decide_eq_true (by kernel_rfl)) (by unfold Func.isWrapper; first | (rw [if_pos (by decide +kernel)]; kernel_rfl) | (rw [if_neg (by decide +kernel)]; exact ⟨rfl, rfl⟩))
    (fun os started H enc _ => lifted os started H enc)
theorem proved : Rows.TextPrintsCardSaid :=
  Claim7.holds_tied_plain_at .later [] [.data, .data, .data] true _ false
    said (fun _ h => by cases h) (by kernel_rfl) (fun _ h => by cases h) textPrints_row_tie rfl ⟨rfl, rfl⟩ (by kernel_rfl) rfl
    (fun f fn hf hfn => by
      obtain rfl : f = 3 := Option.some.inj ((show Tryz.prog.funcNamed "replevin/replevinlaw03.TextPrints" = some 3 by kernel_rfl).symm.trans hf) |>.symm
      obtain rfl : fn = Tryz.f3 := (Option.some.inj (Tryz.func3.symm.trans hfn)).symm
      exact ⟨by kernel_rfl, fun j t ht => by
        rw [Tryz.params3] at ht
        have hm : t ∈ [(27 : Nat)] := by simpa using Array.mem_of_getElem? ht
        have hall : ([(27 : Nat)].all fun u => !Tryz.prog.wantsStandIn u) = true := by kernel_rfl
        exact (show Tryz.prog.wantsStandIn t = false by simpa using List.all_eq_true.1 hall t hm)⟩)
    (by kernel_rfl)
end Go.Proofs.YtigbceankmfaeaaGreatDoor.textPrints
