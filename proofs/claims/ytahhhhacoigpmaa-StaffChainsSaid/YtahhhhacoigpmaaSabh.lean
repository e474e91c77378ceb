/-
  StaffStands: of every graph, every acts and role, the law answers true, and its arguments read as they did. Conditions: none. Ties as they lie in memory; a map of slices; contracts of flat.timeless, stricter, pairs. What a chain is, by the users of the graph; who stands in for whom as a map; names that were seen as a map. A region that draws its order, in which what the others read stands behind each operation.
-/
import Derived.Test.YtahhhhacoigpmaaSabg
import Derived.Test.YtahhhhacoigpmaaChecked
import Derived.Test.YtahhhhacoigpmaaRows
import Derived.ProofKit
import Derived.OpenShut
import Derived.ShutString
import Derived.Test.YtahhhhacoigpmaaSabc
import Derived.Test.YtahhhhacoigpmaaSaab
import Derived.WalkLawsBesides
import Derived.Test.YtahhhhacoigpmaaSaad
namespace Go.Proofs.Ytahhhhacoigpmaa.SStands
open Go.ChangeShapes Go.WideShapes Go.ChangeAt Go.RowKit Go.Shelf Go.Proofs.Ytahhhhacoigpmaa.B Go.Proofs.Ytahhhhacoigpmaa.SF
open Go.ChangeMaps (open_string shut_string)
theorem any_next {l : List Nat} {k : Nat} (p : Nat → Bool) (hk : k < l.length) : (l.take (k + 1)).any p = ((l.take k).any p || p l[k]!) := by
  rw [take_next hk, List.any_append, List.any_cons, List.any_nil, Bool.or_false]
set_option maxRecDepth 100000 in
set_option maxHeartbeats 8000000 in
theorem walk (w : World) (g : Gr) (hI : InG w g) (hz : SzG g) (hcap : ∀ u ∈ g.us, u.roles.length ≤ u.rc) (la : Option Addr) (lc : Nat) (l : List Ac) (hl : Row w la (l.flatMap acC)) (hg : ∀ x ∈ l, goodA x) (r : ByteArray) :
    Calls Try.prog 4 #[.agg #[.slice g.ga g.gs.length g.gc, .slice g.ea g.es.length g.ec, .slice g.ra g.rs.length g.rc, .slice g.ua g.us.length g.uc], .slice la l.length lc, .string r] w fun e w' => e = .returned (.bool true) ∧ Below w.heap.size w w' := by
  have HB := Lib.hid ((Below.refl w.heap.size w).alloc (Nat.le_refl _) (.cells #[.slice g.ga g.gs.length g.gc, .slice g.ea g.es.length g.ec, .slice g.ra g.rs.length g.rc, .slice g.ua g.us.length g.uc] 27))
  have HX := Lib.hid (heap_new w (.cells #[.slice g.ga g.gs.length g.gc, .slice g.ea g.es.length g.ec, .slice g.ra g.rs.length g.rc, .slice g.ua g.us.length g.uc] 27))
  have HI := Lib.hid hI
  have HZ := Lib.hid hz
  have HC := Lib.hid hcap
  clear hI hz hcap
  have HL := Lib.hid hl
  have HG := Lib.hid hg
  clear hl hg
  go_enter Try.func4, Try.ntmps4
  go_wp2_with fail
  refine (awake_any _).mono ?_
  rintro e w1 ⟨rfl, hb1⟩
  have HB1 := Lib.hid (HB.out.trans (hb1.mono HB.out.size))
  have HX1 := Lib.hid ((hb1.block _ (blk_lt HX.out)).trans HX.out)
  have c0 := cell_blk (i := 0) HX1.out rfl
  have c1 := cell_blk (i := 1) HX1.out rfl
  have c2 := cell_blk (i := 2) HX1.out rfl
  have c3 := cell_blk (i := 3) HX1.out rfl
  have l1 := blk_lt HX1.out
  clear hb1 HB HX
  go_wp2_with fail
  refine (large_any w1 g (HI.out.below (Nat.le_refl _) HB1.out) HZ.out).mono ?_
  rintro e w2 ⟨lb, rfl, _, hb2⟩
  have HB2 := Lib.hid (HB1.out.trans (hb2.mono HB1.out.size))
  have HX2 := Lib.hid ((hb2.block _ (blk_lt HX1.out)).trans HX1.out)
  clear hb2 HB1 HX1 c0 c1 c2 c3 l1
  have c0 := cell_blk (i := 0) HX2.out rfl
  have c1 := cell_blk (i := 1) HX2.out rfl
  have c2 := cell_blk (i := 2) HX2.out rfl
  have c3 := cell_blk (i := 3) HX2.out rfl
  have l2 := blk_lt HX2.out
  cases lb
  case true =>
    go_wp2_with fail
    go_ret
    exact ⟨rfl, HB2.out⟩
  by_cases hr : r.size ≤ 100
  case neg =>
    go_wp2_with fail
    go_ret
    exact ⟨rfl, HB2.out⟩
  cases hm : mayL g
  case false =>
    have hne : (((checkL g).2.2 : Int) != 0) = true := by
      unfold mayL at hm
      rw [bne_iff_ne]
      have : ¬ (checkL g).2.2 = 0 := by simpa using hm
      omega
    have CN := Lib.hid (new_not w2 g (HI.out.below (Nat.le_refl _) HB2.out) HZ.out HC.out hm)
    generalize (checkL g).2.2 = cc at *
    clear hm
    go_wp2_with fail
    refine CN.out.mono ?_
    rintro e w3 ⟨rfl, hb3⟩
    have HB3 := Lib.hid (HB2.out.trans (hb3.mono HB2.out.size))
    clear hb3
    go_wp2_with fail
    go_ret
    exact ⟨rfl, HB3.out⟩
  have CN := Lib.hid (new_may w2 g (HI.out.below (Nat.le_refl _) HB2.out) HZ.out HC.out hm)
  have HM := Lib.hid hm
  clear hm
  go_wp2_with fail
  refine CN.out.mono ?_
  rintro e w3 ⟨sb, A, M, rfl, hS, hM⟩
  have HW := Lib.hid (hS.from HB2.out)
  have HMK := Lib.hid hM
  have HOK := Lib.hid (hM.ok HM.out HZ.out)
  have HX3 := Lib.hid ((hS.b.block _ (blk_lt HX2.out)).trans HX2.out)
  clear CN hS hM c0 c1 c2 c3 l2 HX2
  have HNE : Hid (NE M) := Lib.hid (by unfold NE; rw [HMK.out.nms]; exact name_not_nil HM.out)
  go_wp2_with fail
  go_loopw [9] (fun i wr => ∃ (k : Nat) (M' : List Mb), k ≤ l.length ∧ k ≤ 60 ∧ i = .int .i64 k ∧ Hid (SW w wr sb A M') ∧ Hid (OkM M') ∧ Hid (NE M')) (fun i _ => l.length - (intOf i).toNat)
  case atStart => exact ⟨0, M, Nat.zero_le _, Nat.zero_le _, rfl, HW, HOK, HNE⟩
  case round =>
    clear HW HOK HNE HMK HM HX3
    obtain ⟨k, M', hk, hk60, rfl, HW, HOK, HNE⟩ := hrel
    have hi0 : (0 : Int) ≤ (k : Int) := Int.natCast_nonneg _
    by_cases hlt : k < l.length ∧ k < 60
    · obtain ⟨hlt, h60⟩ := hlt
      obtain ⟨b, off, hA, hb, hc⟩ := HL.out.at_ (k := 2) (fun _ => rfl) (by omega) hlt
      obtain rfl : la = some ⟨b, off, none⟩ := hA
      have k0 := hc 0 _ rfl
      have k1 := hc 1 _ rfl
      rw [Nat.add_zero] at k0
      rw [← HW.out.b.cell (p := ⟨b, _, none⟩) hb] at k0 k1
      have hbl : b < wr.heap.size := by have := HW.out.b.size; omega
      have hi1 : (k : Int) < (l.length : Int) := by omega
      have hi2 : (k : Int) < 60 := by omega
      have hga := HG.out _ (mem_at hlt)
      have HWD := Lib.hid (HW.out.call (below_draws (Below.refl _ _) 1))
      have CA := Lib.hid (away_any wr.drew sb A M' HWD.out.st l[k]!.user hga l[k]!.away)
      have HOK1 := Lib.hid (awayL_ok HOK.out (placeL M' l[k]!.user.toList) l[k]!.away)
      have HNE1 := Lib.hid (HNE.out.away (placeL M' l[k]!.user.toList) l[k]!.away)
      have k0' : wr.drew.cell? ⟨b, off + k * 2, none⟩ = some (.string l[k]!.user) := k0
      have k1' : wr.drew.cell? ⟨b, off + k * 2 + 1, none⟩ = some (.bool l[k]!.away) := k1
      have hbl' : b < wr.drew.heap.size := hbl
      clear hc hga k0 k1
      generalize awayL M' (placeL M' l[k]!.user.toList) l[k]!.away = M2 at *
      generalize l[k]! = a at *
      go_wp2_with fail
      refine wp_region_still_tail 11 mixed (by kernel_rfl) ?_
      simp only [List.take_succ_cons, List.take_zero, List.drop_succ_cons, List.drop_zero]
      iterate 11 still_step
      refine wpStill_nil ?_
      go_wp2_with (go_at_call 11; refine CA.out.mono ?_; rintro e w9 ⟨rfl, ha⟩; have HW9 := Lib.hid (HWD.out.away ha); clear ha)
      go_roundw
      case rel => exact ⟨k + 1, M2, hlt, by omega, by go_num, HW9, HOK1, HNE1⟩
      case measure => simp [intOf]; omega
    · obtain ⟨wo, rfl⟩ : ∃ wo, wo = wr := ⟨wr, rfl⟩
      have hcnd : ¬ (k : Int) < (l.length : Int) ∨ ((k : Int) < (l.length : Int) ∧ ¬ (k : Int) < 60) := by omega
      have fin : Hid (∀ (P : Prop), P → P) := Lib.hid (fun _ h => h)
      rcases hcnd with h1 | ⟨h1, h2⟩
      all_goals
        go_wp2_with fail
        refine (holders_any _ sb A M' HW.out.st HOK.out.few HOK.out.roles r).mono ?_
        rintro e w4 ⟨v, rfl, ho, hb⟩
        obtain ⟨va, vc, rfl⟩ := own_slice ho
        have HO := Lib.hid ho
        have HW4 := Lib.hid (HW.out.call hb)
        have hz4 := hb.size
        clear ho hb HW
        go_wp2_with fail
        go_loopw [10, 61] (fun sm i wr => ∃ k : Nat, k ≤ (hold M' r.toList).length ∧ i = .int .i64 k ∧ sm = .bool (((hold M' r.toList).take k).any (stB M')) ∧ Hid (SW w wr sb A M') ∧ Hid (Below w4.heap.size w4 wr)) (fun _ i _ => (hold M' r.toList).length - (intOf i).toNat)
        case atStart => exact ⟨0, Nat.zero_le _, rfl, rfl, HW4, Lib.hid (Below.refl _ _)⟩
        case round =>
          clear HW4
          obtain ⟨k, hk, rfl, rfl, HW, HBW⟩ := hrel
          have hi0 : (0 : Int) ≤ (k : Int) := Int.natCast_nonneg _
          have hhl : (hold M' r.toList).length ≤ 40 := by have h9 := holdK_len M' r.toList M'.length; have h8 := HOK.out.few; have h7 : (hold M' r.toList).length ≤ M'.length := h9; omega
          by_cases hlt : k < (hold M' r.toList).length
          · obtain ⟨x, hx⟩ : ∃ x, x = (hold M' r.toList)[k]! := ⟨_, rfl⟩
            have hxm : x ∈ hold M' r.toList := by rw [hx]; exact mem_at hlt
            have hxl := hold_lt hxm
            have HAN := Lib.hid (any_next (stB M') hlt)
            obtain ⟨gv, cap, hv, hgB, hgl⟩ := own_head HO.out (by omega)
            injection hv with hv1 hv2 hv3
            subst hv1 hv3
            have ck : w4.cell? ⟨gv, k, none⟩ = some (.string M'[x]!.name) := (HO.out.cellAt k (by omega)).trans (by
              unfold nmC nmL
              rw [List.getElem?_map, List.getElem?_map, List.getElem?_eq_getElem hlt, hx, getElem!_pos _ k hlt]; rfl)
            rw [← HBW.out.cell (p := ⟨gv, k, none⟩) hgl] at ck
            have hgl2 : gv < wr.heap.size := by have := HBW.out.size; omega
            have hi1 : (k : Int) < ((hold M' r.toList).length : Int) := by omega
            have hns := HOK.out.names _ (mem_at hxl)
            have CF := Lib.hid (for_any wr sb A M' HW.out.st HOK.out M'[x]!.name hns)
            rw [place_at HOK.out hxl] at CF
            rw [← hx] at HAN
            clear hx
            cases hs : stB M' x with
            | false =>
              rw [for_no hs] at CF
              rw [hs] at HAN
              have hem : ByteArray.empty.toList.isEmpty = true := by kernel_rfl
              generalize ByteArray.empty = em at *
              clear hs
              generalize M'[x]!.name = nm at *
              generalize ((hold M' r.toList).take k).any (stB M') = sm at *
              generalize hn4 : (hold M' r.toList).length = nh at *
              go_wp2_with fail
              refine CF.out.mono ?_
              rintro e w5 ⟨rfl, hb⟩
              have HW5 := Lib.hid (HW.out.call hb)
              have HB5 := Lib.hid (HBW.out.trans (hb.mono HBW.out.size))
              clear hb
              go_wp2_with fail
              go_roundw
              case rel => exact ⟨k + 1, hlt, by go_num, by rw [HAN.out, Bool.or_false], HW5, HB5⟩
              case measure => simp [intOf]; omega
            | true =>
              obtain ⟨y, hy, hya, hyn⟩ := for_yes hs
              rw [hyn] at CF
              rw [hs] at HAN
              obtain ⟨q1, q2, q3⟩ := stands_may HOK.out hxm hy hya
              have hyl := chR_lt (chR HOK.out (x : Int) (by omega) (by omega)) y hy
              have hem : M'[y]!.name.toList.isEmpty = false := by
                have h5 := HNE.out.at_ hyl
                cases h6 : M'[y]!.name.toList with
                | nil => exact absurd h6 h5
                | cons a b => rfl
              have hsy := HOK.out.names _ (mem_at hyl)
              have CM := fun W h => Lib.hid (may_any W sb A M' h HOK.out M'[y]!.name r hsy)
              have CH := fun W h => Lib.hid (here_any W sb A M' h M'[y]!.name hsy)
              rw [q1, q2] at CM
              rw [q1, q3] at CH
              clear hs hyn q1 q2 q3
              generalize M'[x]!.name = nm at *
              generalize M'[y]!.name = fy at *
              generalize ((hold M' r.toList).take k).any (stB M') = sm at *
              generalize hn4 : (hold M' r.toList).length = nh at *
              go_wp2_with fail
              refine CF.out.mono ?_
              rintro e w5 ⟨rfl, hb⟩
              have HW5 := Lib.hid (HW.out.call hb)
              have HB5 := Lib.hid (HBW.out.trans (hb.mono HBW.out.size))
              clear hb
              go_wp2_with fail
              refine (CM _ HW5.out.st).out.mono ?_
              rintro e w6 ⟨rfl, hb⟩
              have HW6 := Lib.hid (HW5.out.call hb)
              have HB6 := Lib.hid (HB5.out.trans (hb.mono HB5.out.size))
              clear hb
              go_wp2_with fail
              refine (CH _ HW6.out.st).out.mono ?_
              rintro e w7 ⟨rfl, hww⟩
              subst hww
              go_wp2_with fail
              go_roundw
              case rel => exact ⟨k + 1, hlt, by go_num, by rw [HAN.out, Bool.or_true], HW6, HB6⟩
              case measure => simp [intOf]; omega
          · obtain rfl : k = (hold M' r.toList).length := by omega
            rw [List.take_length]
            rw [able_stands HOK.out r.toList]
            clear hhl HO
            generalize (hold M' r.toList).length = nh at *
            obtain ⟨wo2, rfl⟩ : ∃ wo2, wo2 = wr := ⟨wr, rfl⟩
            go_wp2_with fail
            refine (ableAll_any _ sb A M' HW.out.st HOK.out r).mono ?_
            rintro e w8 ⟨v, rfl, ho, hb⟩
            obtain ⟨va2, vc2, rfl⟩ := own_slice ho
            have HO2 := Lib.hid ho
            have HW8 := Lib.hid (HW.out.call hb)
            clear ho hb HW HBW
            go_wp2_with fail
            go_loopw [87] (fun i wr => ∃ k : Nat, k ≤ (ableL M' r.toList).length ∧ i = .int .i64 k ∧ Hid (SW w wr sb A M') ∧ Hid (Below w8.heap.size w8 wr)) (fun i _ => (ableL M' r.toList).length - (intOf i).toNat)
            case atStart => exact ⟨0, Nat.zero_le _, rfl, HW8, Lib.hid (Below.refl _ _)⟩
            case round =>
              clear HW8
              obtain ⟨k, hk, rfl, HW, HBW⟩ := hrel
              have hi0 : (0 : Int) ≤ (k : Int) := Int.natCast_nonneg _
              have hhl : (ableL M' r.toList).length ≤ 40 := by have h9 := ableK_len M' r.toList M'.length; have h8 := HOK.out.few; have h7 : (ableL M' r.toList).length ≤ M'.length := h9; omega
              by_cases hlt : k < (ableL M' r.toList).length
              · obtain ⟨x, hx⟩ : ∃ x, x = (ableL M' r.toList)[k]! := ⟨_, rfl⟩
                have hxm : x ∈ ableL M' r.toList := by rw [hx]; exact mem_at hlt
                obtain ⟨q1, q3, hxl⟩ := able_here HOK.out hxm
                obtain ⟨gv, cap, hv, hgB, hgl⟩ := own_head HO2.out (by omega)
                injection hv with hv1 hv2 hv3
                subst hv1 hv3
                have ck : w8.cell? ⟨gv, k, none⟩ = some (.string M'[x]!.name) := (HO2.out.cellAt k (by omega)).trans (by
                  unfold nmC nmL
                  rw [List.getElem?_map, List.getElem?_map, List.getElem?_eq_getElem hlt, hx, getElem!_pos _ k hlt]; rfl)
                rw [← HBW.out.cell (p := ⟨gv, k, none⟩) hgl] at ck
                have hgl2 : gv < wr.heap.size := by have := HBW.out.size; omega
                have hi1 : (k : Int) < ((ableL M' r.toList).length : Int) := by omega
                have hns := HOK.out.names _ (mem_at hxl)
                have CH := Lib.hid (here_any wr sb A M' HW.out.st M'[x]!.name hns)
                rw [q1, q3] at CH
                clear hx q1 q3
                generalize M'[x]!.name = nm at *
                generalize hn4 : (ableL M' r.toList).length = nh at *
                go_wp2_with fail
                refine CH.out.mono ?_
                rintro e w7 ⟨rfl, hww⟩
                subst hww
                go_wp2_with fail
                go_roundw
                case rel => exact ⟨k + 1, hlt, by go_num, HW, HBW⟩
                case measure => simp [intOf]; omega
              · obtain rfl : k = (ableL M' r.toList).length := by omega
                clear HO2 hhl
                generalize (ableL M' r.toList).length = nh at *
                go_wp2_with fail
                go_ret
                exact ⟨ret_bool (by simp), HW.out.b⟩
theorem own : ownKnob Try.prog.godebug = none := by kernel_rfl
set_option maxRecDepth 100000 in
theorem lifted (os : Os) (started : os.Started) (H : Type) (enc : TypeId × Value → H) :
    ReturnsInHanded {} Try.checked os 4 .any (Rows.staffStandsSpec.pre6 enc Try.prog Try.f4 Rows.staffStandsRow.domain false) (Rows.staffStandsSpec.post enc Try.prog Try.f4 false true false false) := by
  refine returnsInHanded_of_change_sized (C := Try.checked) own started (by kernel_rfl) Try.func4
    (ChangeSpec.witness6 (enc := enc) (C := Try.checked) false ⟨#[], #[.agg #[.slice none 0 0, .slice none 0 0, .slice none 0 0, .slice none 0 0], .slice none 0 0, .string ByteArray.empty], []⟩ 8 (by kernel_rfl) (by kernel_rfl) (by kernel_rfl) (by kernel_rfl)) ?_
  intro W base args ds gs before hval0 hW _ hsz0 _
  have hsz : (DataW.weightsEach Try.prog (Try.f4.params.toList ++ Rows.staffStandsSpec.plain.varTypes Try.prog) (ds ++ gs)).all (· ≤ reachBytes) = true := hsz0
  have hval : ∀ (j : Nat) t v, Try.f4.params[j]? = some t → args[j]? = some v → Value.okWide Try.prog W .any base t v := hval0
  have hW' := hW
  obtain ⟨p, q, hA0, hV, rfl, _, _⟩ := hW
  have hA : DataW.TrodAll enc Try.prog W 0 (fun _ => true) true Try.f4.params.toList args.toList ds p := hA0
  rw [Try.params4] at hA hval hsz
  obtain ⟨v0, vs0, d0, ds0, p0, q0, hargs, rfl, rfl, h0, r0⟩ := trodAll_cons hA
  obtain ⟨v1, vs1, d1, ds1, p1, q1, e1, rfl, rfl, h1, r1⟩ := trodAll_cons r0
  obtain ⟨v2, vs2, d2, ds2, p2, q2, e2, rfl, rfl, h2, r2⟩ := trodAll_cons r1
  obtain ⟨rfl, rfl, rfl⟩ := trodAll_nil r2
  subst e2
  subst e1
  obtain rfl : args = #[v0, v1, v2] := by cases args; simp_all
  obtain ⟨rfl, rfl⟩ := trodVars_none hV
  have hw0 : Wt Try.prog 27 d0 := Wt.of hsz (j := 0) rfl rfl
  obtain ⟨g0, rfl, hI0, hz0, hcap0, hnil0, _⟩ := open_graph (hval 0 _ v0 rfl rfl) h0 hw0
  have hw1 : Wt Try.prog 28 d1 := Wt.of hsz (j := 1) rfl rfl
  obtain ⟨A1, c1, l1, rfl, hr1, hg1⟩ := open_acs (hval 1 _ v1 rfl rfl) h1 hw1
  obtain ⟨a2, rfl, -, -, w2⟩ := open_string Try.underlying9 (hval 2 9 v2 rfl rfl) h2
  clear hA0 hval0 hsz0
  simp only [List.append_nil] at hW'
  have hlt0 := fun x hx => hW'.lt x hx
  refine (walk W g0 hI0 hz0 hcap0 A1 c1 l1 hr1 hg1 a2).mono fun e W' ⟨he2, hg⟩ => ?_
  subst he2
  have hargs := (trodAll_cons_mk (Below.trod progLaid (by kernel_rfl) (of_decide_eq_true (by kernel_rfl)) h0 hg (fun x hx => hlt0 x (List.mem_append_left _ hx))) (trodAll_cons_mk (Below.trod progLaid (by kernel_rfl) (of_decide_eq_true (by kernel_rfl)) h1 hg (fun x hx => hlt0 x (List.mem_append_right _ (List.mem_append_left _ hx)))) (trodAll_cons_mk (Below.trod progLaid (by kernel_rfl) (of_decide_eq_true (by kernel_rfl)) h2 hg (fun x hx => hlt0 x (List.mem_append_right _ (List.mem_append_right _ (hx))))) (trodAll_mk0 (enc := enc) (P := Try.prog) (w := W')))))
  simp only [List.append_nil] at hargs
  exact ⟨_, rfl, _, _, _, [], p0 ++ (p1 ++ (p2)), [], hW', trodAll_cons_mk (shut_bool Try.underlying4 _) trodAll_mk0, hargs, rfl, hg.frame _, fun h => by cases h⟩
theorem proved : Rows.StaffStandsSaid :=
  OpenClaim.holds_of_wide 4 Try.f4 rfl rfl rfl rfl rfl rfl rfl ⟨rfl, rfl, rfl, rfl, rfl⟩ rfl rfl rfl rfl rfl (by kernel_rfl) Try.func4 (by kernel_rfl)
    (of_decide_eq_true (by kernel_rfl)) (by unfold Func.isWrapper; first | (rw [if_pos (by decide +kernel)]; kernel_rfl) | (rw [if_neg (by decide +kernel)]; exact ⟨rfl, rfl⟩))
    (fun os started H enc _ => lifted os started H enc)
end Go.Proofs.Ytahhhhacoigpmaa.SStands

namespace Go.Proofs.Ytahhhhacoigpmaa
open Go.RowKit Go.Shelf
def Rv (v : Value) : Option (DataW Value × List MemPlace) := some (.held v, [])
/-- Block b is a map that holds, at each key, what f says; z where there is none. -/
def MapV (w : World) (P : Program) (k : TypeId) (z : Value) (b n : Nat) (f : Lit → Option Value) : Prop :=
  ∃ D : DataW Value, w.ownsMap P k Rv b n D ∧ ∀ l, WideAt.IsKeyLit l → Maps.has D l = (f l).isSome ∧ D.atKey l (.held z) = .held ((f l).getD z)
theorem MapV.lt {w : World} {P : Program} {k : TypeId} {z : Value} {b n : Nat} {f : Lit → Option Value} (h : MapV w P k z b n f) : b < w.heap.size := by obtain ⟨D, h, _⟩ := h; exact h.lt
theorem MapV.made (w : World) (P : Program) (k : TypeId) (z : Value) : MapV (w.alloc (.map #[] 0)) P k z w.heap.size 0 (fun _ => none) :=
  ⟨.map [], World.ownsMap_made w P k _, fun _ _ => ⟨rfl, rfl⟩⟩
theorem MapV.block {w w' : World} {P : Program} {k : TypeId} {z : Value} {b n : Nat} {f : Lit → Option Value} (h : MapV w P k z b n f) (hb : w'.heap[b]? = w.heap[b]?) : MapV w' P k z b n f := by
  obtain ⟨D, ⟨es, clock, h1, h2⟩, h3⟩ := h
  exact ⟨D, ⟨es, clock, hb.trans h1, h2⟩, h3⟩
theorem MapV.below {w w' : World} {P : Program} {k : TypeId} {z : Value} {b n : Nat} {f : Lit → Option Value} (h : MapV w P k z b n f) {B : Nat} (hB : w.heap.size ≤ B) (hb : Below B w w') : MapV w' P k z b n f :=
  h.block (hb.block b (by have := h.lt; omega))
theorem MapV.mono {w : World} {P : Program} {k : TypeId} {z : Value} {b n m : Nat} {f : Lit → Option Value} (h : MapV w P k z b n f) (hn : n ≤ m) : MapV w P k z b m f := by
  obtain ⟨D, h, hf⟩ := h; exact ⟨D, h.mono hn, hf⟩
theorem MapV.look {w : World} {P : Program} {k e t : TypeId} {z : Value} {b n : Nat} {f : Lit → Option Value} (h : MapV w P k z b n f) (K : Maps.Keyed P k) (ht : P.underlying t = some (.map k e)) (hz : (zeroValue e).run P w = .ok z w)
    {key : Value} {kl : Lit} (hkey : keyOf P k key = some kl) : (Instr.lookup t (.map (some b)) key false).run P w = .ok ((f kl).getD z) w := by
  obtain ⟨D, h, hf⟩ := h
  obtain ⟨v, ps, h1, h2⟩ := h.lookup K ht hz (zd := .held z) (zp := []) rfl hkey
  rw [(hf kl (K.key hkey)).2] at h2
  simp only [Rv, Option.some.injEq, Prod.mk.injEq, DataW.held.injEq] at h2
  rw [← h2.1]; exact h1
theorem MapV.look_ok {w : World} {P : Program} {k e t : TypeId} {z : Value} {b n : Nat} {f : Lit → Option Value} (h : MapV w P k z b n f) (K : Maps.Keyed P k) (ht : P.underlying t = some (.map k e)) (hz : (zeroValue e).run P w = .ok z w)
    {key : Value} {kl : Lit} (hkey : keyOf P k key = some kl) : (Instr.lookup t (.map (some b)) key true).run P w = .ok (.tuple #[(f kl).getD z, .bool (f kl).isSome]) w := by
  obtain ⟨D, h, hf⟩ := h
  obtain ⟨v, ps, h1, h2⟩ := h.look_ok K ht hz (zd := .held z) (zp := []) rfl hkey
  rw [(hf kl (K.key hkey)).1] at h1
  rw [(hf kl (K.key hkey)).2] at h2
  simp only [Rv, Option.some.injEq, Prod.mk.injEq, DataW.held.injEq] at h2
  rw [← h2.1]; exact h1
theorem MapV.update {w : World} {P : Program} {k e t : TypeId} {z : Value} {b n : Nat} {f : Lit → Option Value} (h : MapV w P k z b n f) (K : Maps.Keyed P k) (ht : P.underlying t = some (.map k e)) (hn : n < maxLen) {key : Value} {kl : Lit} (hkey : keyOf P k key = some kl) (v : Value) :
    ∃ w1, (Instr.mapUpdate t (.map (some b)) key v).run P w = .ok () w1 ∧ MapV w1 P k z b (n + 1) (fun l => if l = kl then some v else f l) ∧ w.grownBy w1 (some b) := by
  obtain ⟨D, h, hf⟩ := h
  obtain ⟨w1, h1, h2, h3⟩ := h.update K ht hn hkey (val := v) (d := .held v) (ps := []) rfl
  refine ⟨w1, h1, ⟨_, h2, fun l hl => ?_⟩, h3⟩
  have hk := K.key hkey
  by_cases e : l = kl
  · subst e
    simp only [if_true]
    exact ⟨by rw [Maps.has_put_same h.isMap hk]; rfl, by rw [Maps.atKey_put_same h.isMap hk]; rfl⟩
  · simp only [if_neg e]
    exact ⟨by rw [Maps.has_put_other e]; exact (hf l hl).1, by rw [Maps.atKey_put_other e]; exact (hf l hl).2⟩
end Go.Proofs.Ytahhhhacoigpmaa

namespace Go.Proofs.Ytahhhhacoigpmaa.SF
open Go.RowKit Go.Shelf Go.Proofs.Ytahhhhacoigpmaa Go.Proofs.Ytahhhhacoigpmaa.B
/-- Who stands in, by name: the first k users. -/
noncomputable def subF (g : Gr) : Nat → Lit → Option Value
  | 0 => fun _ => none
  | k + 1 => fun l => if l = litS g.us[k]!.name then some (.string g.us[k]!.sub) else subF g k l
theorem litS_of {a b : ByteArray} (h : litS a = litS b) : a.toList = b.toList := by
  rw [Lib.toList_data, Lib.toList_data]
  unfold litS at h
  injection h
theorem uns_ne {g : Gr} (h : mayL g = true) {i j : Nat} (hj : j < g.us.length) (hij : i < j) : ¬ litS g.us[i]!.name = litS g.us[j]!.name := fun e =>
  uns_apart h hj (List.mem_map.2 ⟨g.us[i]!, by
    have hi : i < g.us.length := by omega
    rw [getElem!_pos g.us i hi]
    have h1 : (g.us.take j)[i]'(by rw [List.length_take]; omega) = g.us[i] := List.getElem_take
    rw [← h1]; exact List.getElem_mem _, e⟩)
theorem subF_at {g : Gr} (h : mayL g = true) {i : Nat} : ∀ k, i < k → k ≤ g.us.length → subF g k (litS g.us[i]!.name) = some (.string g.us[i]!.sub)
  | 0, hi, _ => by omega
  | k + 1, hi, hk => by
    unfold subF
    by_cases e : i = k
    · subst e; rw [if_pos rfl]
    · rw [if_neg (uns_ne h (by omega) (by omega)), subF_at h k (by omega) (by omega)]
/-- Names that were seen. -/
noncomputable def seenF (ns : List ByteArray) : Lit → Option Value := fun l => if l ∈ ns.map litS then some (.bool true) else none
theorem seenF_no {ns : List ByteArray} {x : ByteArray} (h : ∀ y ∈ ns, litS y ≠ litS x) : (seenF ns (litS x)).getD (.bool false) = .bool false := by
  unfold seenF
  rw [if_neg (fun hm => by obtain ⟨y, hy, e⟩ := List.mem_map.1 hm; exact h y hy e)]; rfl
theorem seenF_snoc (ns : List ByteArray) (x : ByteArray) : seenF (ns ++ [x]) = fun l => if l = litS x then some (.bool true) else seenF ns l := by
  funext l
  unfold seenF
  by_cases e : l = litS x
  · rw [if_pos e, if_pos (List.mem_map.2 ⟨x, by simp, e.symm⟩)]
  · rw [if_neg e]
    by_cases hm : l ∈ ns.map litS
    · rw [if_pos hm, if_pos (by rw [List.map_append]; exact List.mem_append_left _ hm)]
    · rw [if_neg hm, if_neg (fun h => by
        rw [List.map_append] at h
        rcases List.mem_append.1 h with h | h
        · exact hm h
        · simp at h; exact e h)]
/-- Of a chain, by the graph's own users. -/
structure ChG (g : Gr) (M : List Mb) (x m : Nat) (c : List Nat) : Prop where
  len : c.length = m + 1
  few : m < 40
  lt : ∀ i, i < m + 1 → c[i]! < M.length
  head : c[0]! = x
  next : ∀ i, i < m → g.us[c[i]!]!.sub.toList = M[c[i + 1]!]!.name.toList
  last : g.us[c[m]!]!.sub.toList = []
  long : nextL M (x : Int) 1000 = M[c[m]!]!.name
  step : ∀ i : Nat, i < m + 1 → nextL M (x : Int) (i : Int) = M[c[i]!]!.name
  apart : ∀ i j, i < j → j < m + 1 → ¬ litS M[c[i]!]!.name = litS M[c[j]!]!.name
theorem sub_name {g : Gr} {M : List Mb} (h : MkM g M) {y z : Nat} (hy : y < M.length) (e : M[y]!.sub = (z : Int)) : g.us[y]!.sub.toList = M[z]!.name.toList := by
  rw [h.sub y hy, ← h.place] at e
  obtain ⟨p1, p2⟩ := place_name (M := M) (u := g.us[y]!.sub.toList) (by rw [e]; omega)
  rw [e, Int.toNat_natCast] at p2
  exact p2.symm
theorem sub_none {g : Gr} {M : List Mb} (h : MkM g M) (hm : mayL g = true) {y : Nat} (hy : y < M.length) (e : M[y]!.sub < 0) : g.us[y]!.sub.toList = [] := by
  rw [h.sub y hy] at e
  have hu := (may_iff.1 hm).2.2.2.2 y (by rw [← h.len]; exact hy)
  have hn : hasB (uns g) g.us[y]!.sub.toList = false := by
    unfold placeG at e
    cases hh : hasB (uns g) g.us[y]!.sub.toList with
    | false => rfl
    | true => rw [hh, if_pos rfl] at e; omega
  unfold userE at hu
  rw [hn, Bool.or_false] at hu
  split at hu
  · split at hu
    · cases hu
    · split at hu
      · rename_i h3; exact eq_of_beq h3
      · cases hu
  · cases hu
theorem chG_of {g : Gr} {M : List Mb} (h : MkM g M) (hm : mayL g = true) (hok : OkM M) {x : Nat} (hx : x < M.length) : ∃ m, ChG g M x m (chain M (x : Int)) := by
  have hc := chR hok (x : Int) (by omega) (by omega)
  have hl := chain_len M (x : Int)
  have hnd := chain_nodup hok (x : Int) (by omega) (by omega)
  generalize hcc : chain M (x : Int) = c at *
  have hf := hok.few
  cases c with
  | nil => have hc : (x : Int) < 0 := hc; omega
  | cons y r =>
    obtain ⟨h1, h2, h3⟩ := hc
    have hc : ChR M (x : Int) (y :: r) := ⟨h1, h2, h3⟩
    have hlt : ∀ i, i < r.length + 1 → (y :: r)[i]! < M.length := fun i hi => chR_lt hc _ (by rw [getElem!_pos _ i (by simpa using hi)]; exact List.getElem_mem _)
    have hsub : ∀ i, i < r.length + 1 → (i < r.length ∧ M[(y :: r)[i]!]!.sub = (((y :: r)[i + 1]! : Nat) : Int)) ∨ (i = r.length ∧ M[(y :: r)[i]!]!.sub < 0) := fun i hi => by
      have ht := chR_tail hc i (by simpa using hi)
      have hd : (y :: r).drop i = (y :: r)[i]'(by simpa using hi) :: (y :: r).drop (i + 1) := List.drop_eq_getElem_cons (by simpa using hi)
      rw [hd] at ht
      obtain ⟨e1, _, e3⟩ := ht
      rw [getElem!_pos (y :: r) i (by simpa using hi)]
      by_cases hi2 : i < r.length
      · left
        have hd2 : (y :: r).drop (i + 1) = (y :: r)[i + 1]'(by simpa using hi2) :: (y :: r).drop (i + 1 + 1) := List.drop_eq_getElem_cons (by simpa using hi2)
        rw [hd2] at e3
        exact ⟨hi2, by rw [getElem!_pos (y :: r) (i + 1) (by simpa using hi2)]; exact e3.1⟩
      · right
        have hi3 : i = r.length := by omega
        rw [List.drop_eq_nil_of_le (by simp; omega)] at e3
        exact ⟨hi3, e3⟩
    have hnx : ∀ (s : Int) (i : Nat), min s.toNat r.length = i → i < r.length + 1 → nextL M (x : Int) s = M[(y :: r)[i]!]!.name := fun s i he hi => by
      unfold nextL
      rw [hcc, List.length_cons, Nat.add_sub_cancel, he, List.getElem?_eq_getElem (by simpa using hi), getElem!_pos (y :: r) i (by simpa using hi)]
    refine ⟨r.length, ⟨List.length_cons, by rw [List.length_cons] at hl; omega, hlt, ?_, fun i hi => ?_, ?_, hnx 1000 _ (by rw [List.length_cons] at hl; omega) (by omega), fun i hi => hnx _ _ (by rw [Int.toNat_natCast]; omega) hi, fun i j hij hj e => ?_⟩⟩
    · rw [getElem!_pos (y :: r) 0 (by simp)]
      show y = x
      omega
    · rcases hsub i (by omega) with ⟨_, e⟩ | ⟨e, _⟩
      · exact sub_name h (hlt i (by omega)) e
      · omega
    · rcases hsub r.length (by omega) with ⟨e, _⟩ | ⟨_, e⟩
      · omega
      · exact sub_none h hm (hlt _ (by omega)) e
    · have hij' := name_one hok (hlt i (by omega)) (hlt j hj) (litS_of e)
      rw [getElem!_pos (y :: r) i (by simp; omega), getElem!_pos (y :: r) j (by simpa using hj)] at hij'
      rw [List.nodup_iff_pairwise_ne, List.pairwise_iff_getElem] at hnd
      exact hnd i j (by simp; omega) (by simpa using hj) hij hij'
end Go.Proofs.Ytahhhhacoigpmaa.SF

namespace Go.Proofs.Ytahhhhacoigpmaa.B
open Go
section
variable {P : Program} {ops : Array Oper} {Q : Exit → Act → World → Prop} {md : Region.Mode} {S : World → Prop} {z : Nat}
theorem anyT_firstU {i : Nat} {oi : Oper} {v : Value} (hz : ops.size ≤ z) (hi : ops[i]? = some oi) (hsel : ∀ (j : Nat) (o : Oper) cs b, ops[j]? = some o → o.op ≠ .select cs b)
    (hQ : ∀ c a w, Q (.panic c) (a.put oi.dst v) w → Q (.panic c) a w) :
    ∀ (fuel : Nat) (listed : Array Bool) (a : Act) (w : World),
      (∀ j oj, ops[j]? = some oj → j ≠ i → listed.getD j true = false → (∀ e ∈ oj.after, Region.binds md e = true → e.on ≠ i) → oi.apart ops oj = true) →
      i ∈ Region.ready md ops listed → YieldsIf P ops S oi v a → S w →
      wpAnyT P md ops Q S z fuel (listed.setIfInBounds i true) (a.put oi.dst v) w → wpAnyT P md ops Q S z (fuel + 1) listed a w
  | fuel, listed, a, w, hfree, hr, hy, hS, H => by
    refine ⟨fun h => (by rw [h] at hr; cases hr), fun j hj => ?_⟩
    by_cases hji : j = i
    · subst hji; exact hy.wpOp hi hS ⟨fun _ => hS, H⟩
    have hun := (mem_ready.1 hr).1
    cases fuel with
    | zero =>
      have := ready_mono hj hji
      rw [H.1] at this
      cases this
    | succ fuel =>
      have h1 := H.2 j (ready_mono hj hji)
      obtain ⟨hjun, oj, hoj, hall⟩ := mem_ready.1 hj
      have hnot : ∀ e ∈ oj.after, Region.binds md e = true → e.on ≠ i := fun e he hb heq => by
        have h2 := hall e he hb
        rw [heq, not_listed hun] at h2
        cases h2
      have hjz : j ≠ z := by
        have := (Array.getElem?_eq_some_iff.1 hoj).1
        omega
      have h2 := wpOp_putIf hoj (hfree j oj hoj hji hjun hnot) (fun cs b => hsel i oi cs b hi) (fun cs b => hsel j oj cs b hoj) hQ hy h1
      refine wpOp_mono (fun a' w' h3 => ⟨fun _ => h3.2.1 hjz, anyT_firstU hz hi hsel hQ fuel (listed.setIfInBounds j true) a' w' (fun k ok hk hki hun' hno => ?_) (ready_mono hr (Ne.symm hji)) h3.1 (h3.2.1 hjz) ?_⟩) h2
      · refine hfree k ok hk hki ?_ hno
        by_cases hjk : j = k
        · subst hjk; exact hjun
        · rw [getD_set_ne true hjk] at hun'; exact hun'
      · rw [Array.setIfInBounds_comm _ _ hji]
        exact h3.2.2
/-- Number i may be taken first, where each operation leaves what is read as it was. -/
theorem anyT_takeU {i : Nat} {oi : Oper} {v : Value} {fuel : Nat} {listed : Array Bool} {a : Act} {w : World} (hz : ops.size ≤ z) (hi : ops[i]? = some oi)
    (hs : Region.noSelect ops = true) (hf : Region.free md ops listed i = true) (hr : (Region.ready md ops listed).contains i = true)
    (hQ : ∀ c a w, Q (.panic c) (a.put oi.dst v) w → Q (.panic c) a w) (hS : S w) (hwant : Region.wanted oi (yielded ops a.tmps) = true) (hy : ∀ w, S w → (execOp a.eval oi).run P w = .ok (.value v) w)
    (h : wpAnyT P md ops Q S z fuel (listed.setIfInBounds i true) (a.put oi.dst v) w) : wpAnyT P md ops Q S z (fuel + 1) listed a w :=
  anyT_firstU hz hi (Region.noSelect_spec hs) hQ fuel listed a w (Region.free_spec hi hf) (by simpa using hr) (.inl ⟨hwant, hy⟩) hS h
end
end Go.Proofs.Ytahhhhacoigpmaa.B
