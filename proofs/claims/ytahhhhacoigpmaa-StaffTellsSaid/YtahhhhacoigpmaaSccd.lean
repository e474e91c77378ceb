/-
  Contract of the document's own look at a user. (made by wip/tools/gen_ruser.py)
-/
import Derived.Test.YtahhhhacoigpmaaSccc
namespace Go.Proofs.Ytahhhhacoigpmaa
open Go.RowKit Go.Shelf
theorem user_yes {g : Gr} {s : Key} {n : Nat} (h : aheadB (uns g) s n = true) : userAt g s n = (((uns g).idxOf s : Nat) : Int) := by rw [userAt, h]; rfl
theorem user_none {g : Gr} {s : Key} (h : hasB (uns g) s = false) : userAt g s g.us.length = -1 := by
  have h1 : aheadB (uns g) s g.us.length = false := by
    have h2 : (uns g).length = g.us.length := List.length_map _
    cases h3 : aheadB (uns g) s g.us.length with
    | false => rfl
    | true =>
      unfold aheadB at h3; rw [decide_eq_true_eq, ← h2] at h3
      have h4 := List.contains_iff_mem.2 (List.idxOf_lt_length_iff.1 h3)
      unfold hasB at h; rw [h4] at h; cases h
  rw [userAt, h1]; rfl
theorem user_lt {g : Gr} {s : Key} (h : hasB (uns g) s = true) : (uns g).idxOf s < g.us.length := by
  have h2 : (uns g).length = g.us.length := List.length_map _
  rw [← h2]; exact List.idxOf_lt_length_iff.2 (List.contains_iff_mem.1 h)
theorem user_some {g : Gr} {s : Key} (h : hasB (uns g) s = true) : userAt g s g.us.length = (((uns g).idxOf s : Nat) : Int) :=
  user_yes (by unfold aheadB; rw [decide_eq_true_eq]; exact user_lt h)
theorem rback_step (g : Gr) (i n f : Nat) : backL g i (n + 1) f = if (g.us[f]!.sub.toList == []) = true then false else if hasB (uns g) g.us[f]!.sub.toList = true then (if (uns g).idxOf g.us[f]!.sub.toList = i then true else backL g i n ((uns g).idxOf g.us[f]!.sub.toList)) else false := rfl
theorem names_step {l : List ByteArray} {k : Nat} (h : ∀ j, j < k → nameK l[j]!.toList = true) (hk : nameK l[k]!.toList = true) : ∀ j, j < k + 1 → nameK l[j]!.toList = true := by
  intro j hj
  by_cases e : j = k
  · rw [e]; exact hk
  · exact h j (by omega)
theorem names_all {l : List ByteArray} (h : ∀ j, j < l.length → nameK l[j]!.toList = true) : (l.all fun s => nameK s.toList) = true := by
  rw [List.all_eq_true]
  intro s hs
  obtain ⟨j, hj, rfl⟩ := List.getElem_of_mem hs
  have := h j hj
  rw [getElem!_pos l j hj] at this; exact this
theorem names_not {l : List ByteArray} {k : Nat} (hk : k < l.length) (h : nameK l[k]!.toList = false) : (l.all fun s => nameK s.toList) = false := by
  rw [List.all_eq_false]
  exact ⟨_, mem_at hk, by rw [h]; decide⟩
theorem no_take {l : List ByteArray} {k : Nat} (hk : k < l.length) (h : ∀ j, j < k → (l[j]!.toList == l[k]!.toList) = false) : ((l.take k).map (·.toList)).contains l[k]!.toList = false := by
  cases hc : ((l.take k).map (·.toList)).contains l[k]!.toList with
  | false => rfl
  | true =>
    rw [List.contains_iff_mem] at hc
    obtain ⟨x, hx, e⟩ := List.mem_map.1 hc
    obtain ⟨j, hj, rfl⟩ := List.getElem_of_mem hx
    rw [List.length_take] at hj
    have h1 := h j (by omega)
    rw [getElem!_pos l j (by omega), ← List.getElem_take (j := k) (h := by rw [List.length_take]; omega), beq_eq_false_iff_ne] at h1
    exact absurd e h1
theorem yes_take {l : List ByteArray} {j k : Nat} (hj : j < k) (hk : k < l.length) (h : (l[j]!.toList == l[k]!.toList) = true) : ((l.take k).map (·.toList)).contains l[k]!.toList = true := by
  rw [List.contains_iff_mem, ← beq_iff_eq.1 h]
  refine List.mem_map.2 ⟨l[j]!, ?_, rfl⟩
  rw [getElem!_pos l j (by omega), ← List.getElem_take (j := k) (h := by rw [List.length_take]; omega)]
  exact List.getElem_mem _
theorem none_more {l : List ByteArray} {x : Key} {k : Nat} (h : ∀ j, j < k → (l[j]!.toList == x) = false) (hk : (l[k]!.toList == x) = false) : ∀ j, j < k + 1 → (l[j]!.toList == x) = false := by
  intro j hj
  by_cases e : j = k
  · rw [e]; exact hk
  · exact h j (by omega)
/-- The two boxes, and all that came in, stand as they did. -/
abbrev UX (w : World) (g : Gr) (p : Us) (W : World) : Prop := Below (w.heap.size + 2) ((boxW w g).alloc (.cells #[.string p.name, .slice p.ra p.roles.length p.rc, .string p.sub] 52)) W
set_option maxRecDepth 100000 in
set_option maxHeartbeats 8000000 in
theorem ruser_any (w : World) (g : Gr) (i : Nat) (hI : InG w g) (hz : SzG g) (hi : i < g.us.length) :
    Calls Try.prog 47 #[.agg #[.slice g.ga g.gs.length g.gc, .slice g.ea g.es.length g.ec, .slice g.ra g.rs.length g.rc, .slice g.ua g.us.length g.uc], .int .i64 i] w fun e w' => e = .returned (.int .i64 (userE g i)) ∧ Below w.heap.size w w' := by
  obtain ⟨b, off, hA, hbb, hc⟩ := hI.us.at_ (k := 3) (fun _ => rfl) (by omega) hi
  have k0 := hc 0 _ rfl
  rw [Nat.add_zero] at k0
  have k1 := hc 1 _ rfl
  have k2 := hc 2 _ rfl
  have HRo := Lib.hid (hI.roles _ (mem_at hi))
  have HI := Lib.hid hI
  have z1 := hz.us
  obtain ⟨hsn, hss, hrl, hrs⟩ := hz.ur _ (mem_at hi)
  have HRS := Lib.hid hrs
  clear hI hc hz hrs
  rw [← (box_below w g).cell (p := ⟨b, _, none⟩) hbb] at k0 k1 k2
  have i0 : (0 : Int) ≤ (i : Int) := Int.natCast_nonneg _
  have i1 : (i : Int) < (g.us.length : Int) := by omega
  have HE : Hid (userE g i = if nameK g.us[i]!.name.toList && g.us[i]!.roles.all (fun s => nameK s.toList) then
    if aheadB (uns g) g.us[i]!.name.toList i || repeatsL (g.us[i]!.roles.map (·.toList)) g.us[i]!.roles.length then 6
    else if g.us[i]!.sub.toList == [] || hasB (uns g) g.us[i]!.sub.toList then
      if backL g i g.us.length i then 7 else 0
    else 10
  else 5) := Lib.hid rfl
  have C0 := fun W => Lib.hid (rname_any g.us[i]!.name W hsn)
  have C1 := fun W hW => Lib.hid (hasUser_any W g g.us[i]!.name i hW z1 (Nat.le_of_lt hi))
  have C2 := fun W hW => Lib.hid (hasUser_any W g g.us[i]!.sub g.us.length hW z1 (Nat.le_refl _))
  generalize g.us[i]! = p at *
  unfold boxW at k0 k1 k2
  rw [hA] at k0 k1 k2 ⊢
  have HA := Lib.hid hA
  clear hA
  go_enter Try.func47, Try.ntmps47
  go_wp2_with fail
  refine (C0 _).out.mono ?_
  rintro e w1 ⟨rfl, hb⟩
  rw [← HA.out] at hb
  rw [show ((w.alloc _).alloc _).heap.size = w.heap.size + 2 from rbox_size w g _] at hb
  have X1 : Hid (UX w g p w1) := Lib.hid hb
  clear hb k0 k1 k2
  cases h1 : nameK p.name.toList with
  | false =>
    rw [h1] at HE
    clear h1
    obtain ⟨⟨a0, a1, a2, a3⟩, hx⟩ := rbox X1.out
    have x0 : w1.cell? ⟨w.heap.size + 1, 0, none⟩ = some (.string p.name) := hx 0 _ rfl
    have x1 : w1.cell? ⟨w.heap.size + 1, 1, none⟩ = some (.slice p.ra p.roles.length p.rc) := hx 1 _ rfl
    have x2 : w1.cell? ⟨w.heap.size + 1, 2, none⟩ = some (.string p.sub) := hx 2 _ rfl
    clear hx
    go_wp2_with fail
    go_ret
    exact ⟨ret_i64 (by rw [HE.out]; rfl), rbox_old X1.out⟩
  | true =>
    rw [h1] at HE
    clear h1
    obtain ⟨⟨a0, a1, a2, a3⟩, hx⟩ := rbox X1.out
    have x0 : w1.cell? ⟨w.heap.size + 1, 0, none⟩ = some (.string p.name) := hx 0 _ rfl
    have x1 : w1.cell? ⟨w.heap.size + 1, 1, none⟩ = some (.slice p.ra p.roles.length p.rc) := hx 1 _ rfl
    have x2 : w1.cell? ⟨w.heap.size + 1, 2, none⟩ = some (.string p.sub) := hx 2 _ rfl
    clear hx
    go_wp2_with fail
    clear a0 a1 a2 a3 x0 x1 x2
    go_loopw [6] (fun i wr => ∃ k : Nat, k ≤ p.roles.length ∧ i = .int .i64 k ∧ Hid (∀ j, j < k → nameK p.roles[j]!.toList = true) ∧ Hid (UX w g p wr)) (fun i _ => p.roles.length - (intOf i).toNat)
    case atStart => exact ⟨0, Nat.zero_le _, rfl, Lib.hid (fun j hj => absurd hj (Nat.not_lt_zero _)), X1⟩
    case round =>
      clear X1
      obtain ⟨k, hk, rfl, HN, HX⟩ := hrel
      obtain ⟨⟨a0, a1, a2, a3⟩, hx⟩ := rbox HX.out
      have x0 : wr.cell? ⟨w.heap.size + 1, 0, none⟩ = some (.string p.name) := hx 0 _ rfl
      have x1 : wr.cell? ⟨w.heap.size + 1, 1, none⟩ = some (.slice p.ra p.roles.length p.rc) := hx 1 _ rfl
      have x2 : wr.cell? ⟨w.heap.size + 1, 2, none⟩ = some (.string p.sub) := hx 2 _ rfl
      clear hx
      by_cases hlt : k < p.roles.length
      · obtain ⟨rb, roff, hAr, hrb, hcr⟩ := HRo.out.str_at (i := k) hlt
        rw [hAr] at x1
        rw [← (rbox_old HX.out).cell (p := ⟨rb, _, none⟩) hrb] at hcr
        have hk0 : (0 : Int) ≤ (k : Int) := Int.natCast_nonneg _
        have hk1 : (k : Int) < (p.roles.length : Int) := by omega
        have C := fun W => Lib.hid (rname_any p.roles[k]! W (HRS.out _ (mem_at hlt)))
        clear hAr
        cases hn : nameK p.roles[k]!.toList with
        | false =>
          have HF := Lib.hid (names_not hlt hn)
          rw [hn] at C
          clear hn HN
          generalize p.roles[k]! = s at *
          go_wp2_with fail
          refine (C _).out.mono ?_
          rintro e w2 ⟨rfl, hb2⟩
          have HB2 := rbox_more HX.out hb2
          go_wp2_with fail
          go_ret
          exact ⟨ret_i64 (by rw [HE.out, HF.out]; rfl), rbox_old HB2⟩
        | true =>
          have HN' := Lib.hid (names_step HN.out hn)
          rw [hn] at C
          clear hn HN
          generalize p.roles[k]! = s at *
          go_wp2_with fail
          refine (C _).out.mono ?_
          rintro e w2 ⟨rfl, hb2⟩
          have HB2 := rbox_more HX.out hb2
          clear a0 a1 a2 a3 x0 x1 x2 hcr
          go_wp2_with fail
          go_roundw
          case rel => exact ⟨k + 1, hlt, by go_num, HN', Lib.hid HB2⟩
          case measure => simp [intOf]; omega
      · obtain rfl : k = p.roles.length := by omega
        have HE2 : Hid (userE g i = if aheadB (uns g) p.name.toList i || repeatsL (p.roles.map (·.toList)) p.roles.length then 6
          else if p.sub.toList == [] || hasB (uns g) p.sub.toList then
            if backL g i g.us.length i then 7 else 0
          else 10) := Lib.hid (by rw [HE.out, names_all HN.out]; rfl)
        clear HE HN hk hlt
        cases h3 : aheadB (uns g) p.name.toList i with
        | true =>
          rw [user_yes h3] at C1
          rw [h3] at HE2
          clear h3
          generalize (uns g).idxOf p.name.toList = q at *
          have hq0 : (0 : Int) ≤ (q : Int) := Int.natCast_nonneg _
          go_wp2_with fail
          refine (C1 _ (HI.out.below (Nat.le_refl _) (rbox_old HX.out))).out.mono ?_
          rintro e w3 ⟨rfl, hb3⟩
          have HB3 := rbox_more HX.out hb3
          go_wp2_with fail
          go_ret
          exact ⟨ret_i64 (by rw [HE2.out]; rfl), rbox_old HB3⟩
        | false =>
          rw [user_miss h3] at C1
          rw [h3] at HE2
          clear h3
          go_wp2_with fail
          refine (C1 _ (HI.out.below (Nat.le_refl _) (rbox_old HX.out))).out.mono ?_
          rintro e w3 ⟨rfl, hb3⟩
          have X3 : Hid (UX w g p w3) := Lib.hid (rbox_more HX.out hb3)
          clear hb3 HX a0 a1 a2 a3 x0 x1 x2
          obtain ⟨⟨a0, a1, a2, a3⟩, hx⟩ := rbox X3.out
          have x0 : w3.cell? ⟨w.heap.size + 1, 0, none⟩ = some (.string p.name) := hx 0 _ rfl
          have x1 : w3.cell? ⟨w.heap.size + 1, 1, none⟩ = some (.slice p.ra p.roles.length p.rc) := hx 1 _ rfl
          have x2 : w3.cell? ⟨w.heap.size + 1, 2, none⟩ = some (.string p.sub) := hx 2 _ rfl
          clear hx
          go_wp2_with fail
          clear a0 a1 a2 a3 x0 x1 x2
          go_loopw [7] (fun i wr => ∃ k : Nat, k ≤ p.roles.length ∧ i = .int .i64 k ∧ Hid (repeatsL (p.roles.map (·.toList)) k = false) ∧ Hid (UX w g p wr)) (fun i _ => p.roles.length - (intOf i).toNat)
          case atStart => exact ⟨0, Nat.zero_le _, rfl, Lib.hid rfl, X3⟩
          case round =>
            clear X3
            obtain ⟨k, hk, rfl, HR, HX⟩ := hrel
            obtain ⟨⟨a0, a1, a2, a3⟩, hx⟩ := rbox HX.out
            have x0 : wr.cell? ⟨w.heap.size + 1, 0, none⟩ = some (.string p.name) := hx 0 _ rfl
            have x1 : wr.cell? ⟨w.heap.size + 1, 1, none⟩ = some (.slice p.ra p.roles.length p.rc) := hx 1 _ rfl
            have x2 : wr.cell? ⟨w.heap.size + 1, 2, none⟩ = some (.string p.sub) := hx 2 _ rfl
            clear hx
            by_cases hlt : k < p.roles.length
            · have hk0 : (0 : Int) ≤ (k : Int) := Int.natCast_nonneg _
              have hk1 : (k : Int) < (p.roles.length : Int) := by omega
              obtain ⟨rb, roff, hAr, hrb, hcr⟩ := HRo.out.str_at (i := k) hlt
              have HAr := Lib.hid hAr
              have HCr := Lib.hid hcr
              clear hAr hcr
              go_wp2_with fail
              obtain ⟨wo, rfl⟩ : ∃ wo : World, wo = wr := ⟨_, rfl⟩
              clear a0 a1 a2 a3 x0 x1 x2
              go_loopw [8] (fun i wr => ∃ j : Nat, j ≤ k ∧ i = .int .i64 j ∧ Hid (∀ m, m < j → (p.roles[m]!.toList == p.roles[k]!.toList) = false) ∧ Hid (UX w g p wr)) (fun i _ => k - (intOf i).toNat)
              case atStart => exact ⟨0, Nat.zero_le _, rfl, Lib.hid (fun j hj => absurd hj (Nat.not_lt_zero _)), HX⟩
              case round =>
                clear HX
                obtain ⟨j, hj, rfl, HM, HX⟩ := hrel
                obtain ⟨⟨a0, a1, a2, a3⟩, hx⟩ := rbox HX.out
                have x0 : wr.cell? ⟨w.heap.size + 1, 0, none⟩ = some (.string p.name) := hx 0 _ rfl
                have x1 : wr.cell? ⟨w.heap.size + 1, 1, none⟩ = some (.slice p.ra p.roles.length p.rc) := hx 1 _ rfl
                have x2 : wr.cell? ⟨w.heap.size + 1, 2, none⟩ = some (.string p.sub) := hx 2 _ rfl
                clear hx
                by_cases hjt : j < k
                · obtain ⟨rb', roff', hAr', _, hcj⟩ := HRo.out.str_at (i := j) (by omega)
                  obtain ⟨rfl, rfl⟩ : rb' = rb ∧ roff' = roff := by
                    have h1 := hAr'.symm.trans HAr.out
                    injection h1 with h1
                    injection h1 with h1 h2
                    exact ⟨h1, h2⟩
                  have hck := HCr.out
                  rw [hAr'] at x1
                  rw [← (rbox_old HX.out).cell (p := ⟨rb', _, none⟩) hrb] at hcj hck
                  have hj0 : (0 : Int) ≤ (j : Int) := Int.natCast_nonneg _
                  have hj1 : (j : Int) < (k : Int) := by omega
                  have hj2 : (j : Int) < (p.roles.length : Int) := by omega
                  have hrw : rb' < wr.heap.size := by have := (rbox_old HX.out).size; omega
                  clear hAr'
                  cases hq : (p.roles[j]!.toList == p.roles[k]!.toList) with
                  | true =>
                    have HF := Lib.hid (rep_hit hlt (yes_take hjt hlt hq))
                    clear HM
                    generalize p.roles[j]! = s at *
                    generalize p.roles[k]! = t at *
                    go_wp2_with fail
                    go_quiet (fail)
                    go_wp2_with fail
                    go_ret
                    exact ⟨ret_i64 (by rw [HE2.out, HF.out]; rfl), rbox_old (below_draws HX.out _)⟩
                  | false =>
                    have HM' := Lib.hid (none_more HM.out hq)
                    clear HM
                    generalize p.roles[j]! = s at *
                    obtain ⟨t, ht⟩ : ∃ t, p.roles[k]! = t := ⟨_, rfl⟩
                    rw [ht] at hq hck
                    clear ht
                    go_wp2_with fail
                    go_quiet (fail)
                    go_wp2_with fail
                    go_roundw
                    case rel => exact ⟨j + 1, hjt, by go_num, HM', Lib.hid (below_draws HX.out _)⟩
                    case measure => simp [intOf]; omega
                · obtain rfl : j = k := by omega
                  have HR' := Lib.hid (rep_step hlt HR.out (no_take hlt HM.out))
                  clear HM HR a0 a1 a2 a3 x0 x1 x2
                  go_wp2_with fail
                  go_roundw
                  case rel => exact ⟨j + 1, hlt, by go_num, HR', HX⟩
                  case measure => simp [intOf]; omega
            · obtain rfl : k = p.roles.length := by omega
              have HE5 : Hid (userE g i = if p.sub.toList == [] || hasB (uns g) p.sub.toList then
                  if backL g i g.us.length i then 7 else 0
                else 10) := Lib.hid (by rw [HE2.out, HR.out]; rfl)
              clear HE2 HR hk hlt
              cases hq : (p.sub.toList == []) with
              | true =>
                have HE3 : Hid (userE g i = if backL g i g.us.length i then 7 else 0) := Lib.hid (by rw [HE5.out, hq]; rfl)
                clear HE5
                go_wp2_with fail
                clear hq
                clear a0 a1 a2 a3 x0 x1 x2
                go_loopw [10, 11] (fun a k wr => ∃ (f m : Nat), m ≤ g.us.length ∧ f < g.us.length ∧ a = .int .i64 f ∧ k = .int .i64 m ∧ Hid (backL g i (g.us.length - m) f = backL g i g.us.length i) ∧ Hid (UX w g p wr)) (fun _ k _ => g.us.length - (intOf k).toNat)
                case atStart => exact ⟨i, 0, Nat.zero_le _, hi, rfl, rfl, Lib.hid rfl, HX⟩
                case round =>
                  obtain ⟨f, m, hm, hf, rfl, rfl, HBk, HX⟩ := hrel
                  obtain ⟨⟨a0, a1, a2, a3⟩, hx⟩ := rbox HX.out
                  clear hx
                  by_cases hlt : m < g.us.length
                  · obtain ⟨b', off', hA', _, hc⟩ := HI.out.us.at_ (k := 3) (fun _ => rfl) (by omega) hf
                    obtain ⟨rfl, rfl⟩ : b' = b ∧ off' = off := by
                      have h1 := hA'.symm.trans HA.out
                      injection h1 with h1
                      injection h1 with h1 h2
                      exact ⟨h1, h2⟩
                    have c2 := hc 2 _ rfl
                    rw [← (rbox_old HX.out).cell (p := ⟨b', _, none⟩) hbb] at c2
                    have hbw : b' < wr.heap.size := by have := (rbox_old HX.out).size; omega
                    rw [HA.out] at a3
                    have hm0 : (0 : Int) ≤ (m : Int) := Int.natCast_nonneg _
                    have hm1 : (m : Int) < (g.us.length : Int) := by omega
                    have hf0 : (0 : Int) ≤ (f : Int) := Int.natCast_nonneg _
                    have hf1 : (f : Int) < (g.us.length : Int) := by omega
                    have HS := Lib.hid (rback_step g i (g.us.length - (m + 1)) f)
                    have HN : Hid (g.us.length - m = g.us.length - (m + 1) + 1) := Lib.hid (by omega)
                    rw [HN.out] at HBk
                    have HW2 : Hid (Below (w.heap.size + 2) ((boxW w g).alloc (.cells #[.string p.name, .slice p.ra p.roles.length p.rc, .string p.sub] 52)) wr.drew) := Lib.hid (below_draws HX.out 1)
                    have C := Lib.hid (hasUser_any wr.drew g g.us[f]!.sub g.us.length (HI.out.below (Nat.le_refl _) (rbox_old HW2.out)) z1 (Nat.le_refl _))
                    rw [HA.out] at C
                    clear hc hA'
                    cases hq : (g.us[f]!.sub.toList == []) with
                    | true =>
                      have HE4 : Hid (userE g i = 0) := Lib.hid (by rw [HE3.out, ← HBk.out, HS.out, hq]; rfl)
                      clear C
                      generalize g.us[f]!.sub = s at *
                      go_wp2_with fail
                      go_ret
                      exact ⟨ret_i64 (by rw [HE4.out]; rfl), rbox_old HX.out⟩
                    | false =>
                      cases hu : hasB (uns g) g.us[f]!.sub.toList with
                      | false =>
                        have HE4 : Hid (userE g i = 0) := Lib.hid (by rw [HE3.out, ← HBk.out, HS.out, hq, hu]; rfl)
                        rw [user_none hu] at C
                        clear HS hu
                        generalize g.us[f]!.sub = s at *
                        go_wp2_with fail
                        go_still_tail 8, (by kernel_rfl)
                        go_wp2_with fail
                        refine C.out.mono ?_
                        rintro e w5 ⟨rfl, hb5⟩
                        have hB5 := rbox_more HW2.out hb5
                        go_wp2_with fail
                        go_ret
                        exact ⟨ret_i64 (by rw [HE4.out]; rfl), rbox_old hB5⟩
                      | true =>
                        have hq2 := user_lt hu
                        have HS2 : Hid (backL g i (g.us.length - m) f = if (uns g).idxOf g.us[f]!.sub.toList = i then true else backL g i (g.us.length - (m + 1)) ((uns g).idxOf g.us[f]!.sub.toList)) := Lib.hid (by rw [HN.out, HS.out, hq, hu]; rfl)
                        rw [user_some hu] at C
                        clear hu HS
                        rw [← HN.out] at HBk
                        generalize (uns g).idxOf g.us[f]!.sub.toList = q at *
                        generalize g.us[f]!.sub = s at *
                        have hq0 : (0 : Int) ≤ (q : Int) := Int.natCast_nonneg _
                        by_cases hqi : q = i
                        · subst hqi
                          have HE4 : Hid (userE g q = 7) := Lib.hid (by rw [HE3.out, ← HBk.out, HS2.out, if_pos rfl]; rfl)
                          go_wp2_with fail
                          go_still_tail 8, (by kernel_rfl)
                          go_wp2_with fail
                          refine C.out.mono ?_
                          rintro e w5 ⟨rfl, hb5⟩
                          have hB5 := rbox_more HW2.out hb5
                          go_wp2_with fail
                          go_ret
                          exact ⟨ret_i64 (by rw [HE4.out]; rfl), rbox_old hB5⟩
                        · have hqn : ((q : Int) == (i : Int)) = false := by rw [beq_eq_false_iff_ne]; omega
                          have HBk' : Hid (backL g i (g.us.length - (m + 1)) q = backL g i g.us.length i) := Lib.hid (by rw [← HBk.out, HS2.out, if_neg hqi])
                          go_wp2_with fail
                          go_still_tail 8, (by kernel_rfl)
                          go_wp2_with fail
                          refine C.out.mono ?_
                          rintro e w5 ⟨rfl, hb5⟩
                          have hB5 := rbox_more HW2.out hb5
                          clear a0 a1 a2 a3 c2
                          go_wp2_with fail
                          go_roundw
                          case rel => exact ⟨q, m + 1, hlt, hq2, rfl, by go_num, HBk', Lib.hid hB5⟩
                          case measure => simp [intOf]; omega
                  · obtain rfl : m = g.us.length := by omega
                    have HE4 : Hid (userE g i = 0) := Lib.hid (by rw [HE3.out, ← HBk.out, Nat.sub_self]; rfl)
                    go_wp2_with fail
                    go_ret
                    exact ⟨ret_i64 (by rw [HE4.out]; rfl), rbox_old HX.out⟩
              | false =>
                cases hu : hasB (uns g) p.sub.toList with
                | false =>
                  have HE3 : Hid (userE g i = 10) := Lib.hid (by rw [HE5.out, hq, hu]; rfl)
                  rw [user_none hu] at C2
                  clear HE5 hu
                  go_wp2_with fail
                  refine (C2 _ (HI.out.below (Nat.le_refl _) (rbox_old HX.out))).out.mono ?_
                  rintro e w4 ⟨rfl, hb4⟩
                  have HB4 := rbox_more HX.out hb4
                  go_wp2_with fail
                  go_ret
                  exact ⟨ret_i64 (by rw [HE3.out]; rfl), rbox_old HB4⟩
                | true =>
                  have HE3 : Hid (userE g i = if backL g i g.us.length i then 7 else 0) := Lib.hid (by rw [HE5.out, hq, hu]; rfl)
                  rw [user_some hu] at C2
                  clear HE5 hu
                  generalize (uns g).idxOf p.sub.toList = qq at *
                  have hqq0 : (0 : Int) ≤ (qq : Int) := Int.natCast_nonneg _
                  go_wp2_with fail
                  refine (C2 _ (HI.out.below (Nat.le_refl _) (rbox_old HX.out))).out.mono ?_
                  rintro e w4 ⟨rfl, hb4⟩
                  have X4 : Hid (UX w g p w4) := Lib.hid (rbox_more HX.out hb4)
                  clear hb4 HX a0 a1 a2 a3 x0 x1 x2
                  obtain ⟨⟨a0, a1, a2, a3⟩, hx⟩ := rbox X4.out
                  have x0 : w4.cell? ⟨w.heap.size + 1, 0, none⟩ = some (.string p.name) := hx 0 _ rfl
                  have x1 : w4.cell? ⟨w.heap.size + 1, 1, none⟩ = some (.slice p.ra p.roles.length p.rc) := hx 1 _ rfl
                  have x2 : w4.cell? ⟨w.heap.size + 1, 2, none⟩ = some (.string p.sub) := hx 2 _ rfl
                  clear hx
                  go_wp2_with fail
                  clear hq
                  clear a0 a1 a2 a3 x0 x1 x2
                  go_loopw [10, 11] (fun a k wr => ∃ (f m : Nat), m ≤ g.us.length ∧ f < g.us.length ∧ a = .int .i64 f ∧ k = .int .i64 m ∧ Hid (backL g i (g.us.length - m) f = backL g i g.us.length i) ∧ Hid (UX w g p wr)) (fun _ k _ => g.us.length - (intOf k).toNat)
                  case atStart => exact ⟨i, 0, Nat.zero_le _, hi, rfl, rfl, Lib.hid rfl, X4⟩
                  case round =>
                    obtain ⟨f, m, hm, hf, rfl, rfl, HBk, HX⟩ := hrel
                    obtain ⟨⟨a0, a1, a2, a3⟩, hx⟩ := rbox HX.out
                    clear hx
                    by_cases hlt : m < g.us.length
                    · obtain ⟨b', off', hA', _, hc⟩ := HI.out.us.at_ (k := 3) (fun _ => rfl) (by omega) hf
                      obtain ⟨rfl, rfl⟩ : b' = b ∧ off' = off := by
                        have h1 := hA'.symm.trans HA.out
                        injection h1 with h1
                        injection h1 with h1 h2
                        exact ⟨h1, h2⟩
                      have c2 := hc 2 _ rfl
                      rw [← (rbox_old HX.out).cell (p := ⟨b', _, none⟩) hbb] at c2
                      have hbw : b' < wr.heap.size := by have := (rbox_old HX.out).size; omega
                      rw [HA.out] at a3
                      have hm0 : (0 : Int) ≤ (m : Int) := Int.natCast_nonneg _
                      have hm1 : (m : Int) < (g.us.length : Int) := by omega
                      have hf0 : (0 : Int) ≤ (f : Int) := Int.natCast_nonneg _
                      have hf1 : (f : Int) < (g.us.length : Int) := by omega
                      have HS := Lib.hid (rback_step g i (g.us.length - (m + 1)) f)
                      have HN : Hid (g.us.length - m = g.us.length - (m + 1) + 1) := Lib.hid (by omega)
                      rw [HN.out] at HBk
                      have HW2 : Hid (Below (w.heap.size + 2) ((boxW w g).alloc (.cells #[.string p.name, .slice p.ra p.roles.length p.rc, .string p.sub] 52)) wr.drew) := Lib.hid (below_draws HX.out 1)
                      have C := Lib.hid (hasUser_any wr.drew g g.us[f]!.sub g.us.length (HI.out.below (Nat.le_refl _) (rbox_old HW2.out)) z1 (Nat.le_refl _))
                      rw [HA.out] at C
                      clear hc hA'
                      cases hq : (g.us[f]!.sub.toList == []) with
                      | true =>
                        have HE4 : Hid (userE g i = 0) := Lib.hid (by rw [HE3.out, ← HBk.out, HS.out, hq]; rfl)
                        clear C
                        generalize g.us[f]!.sub = s at *
                        go_wp2_with fail
                        go_ret
                        exact ⟨ret_i64 (by rw [HE4.out]; rfl), rbox_old HX.out⟩
                      | false =>
                        cases hu : hasB (uns g) g.us[f]!.sub.toList with
                        | false =>
                          have HE4 : Hid (userE g i = 0) := Lib.hid (by rw [HE3.out, ← HBk.out, HS.out, hq, hu]; rfl)
                          rw [user_none hu] at C
                          clear HS hu
                          generalize g.us[f]!.sub = s at *
                          go_wp2_with fail
                          go_still_tail 8, (by kernel_rfl)
                          go_wp2_with fail
                          refine C.out.mono ?_
                          rintro e w5 ⟨rfl, hb5⟩
                          have hB5 := rbox_more HW2.out hb5
                          go_wp2_with fail
                          go_ret
                          exact ⟨ret_i64 (by rw [HE4.out]; rfl), rbox_old hB5⟩
                        | true =>
                          have hq2 := user_lt hu
                          have HS2 : Hid (backL g i (g.us.length - m) f = if (uns g).idxOf g.us[f]!.sub.toList = i then true else backL g i (g.us.length - (m + 1)) ((uns g).idxOf g.us[f]!.sub.toList)) := Lib.hid (by rw [HN.out, HS.out, hq, hu]; rfl)
                          rw [user_some hu] at C
                          clear hu HS
                          rw [← HN.out] at HBk
                          generalize (uns g).idxOf g.us[f]!.sub.toList = q at *
                          generalize g.us[f]!.sub = s at *
                          have hq0 : (0 : Int) ≤ (q : Int) := Int.natCast_nonneg _
                          by_cases hqi : q = i
                          · subst hqi
                            have HE4 : Hid (userE g q = 7) := Lib.hid (by rw [HE3.out, ← HBk.out, HS2.out, if_pos rfl]; rfl)
                            go_wp2_with fail
                            go_still_tail 8, (by kernel_rfl)
                            go_wp2_with fail
                            refine C.out.mono ?_
                            rintro e w5 ⟨rfl, hb5⟩
                            have hB5 := rbox_more HW2.out hb5
                            go_wp2_with fail
                            go_ret
                            exact ⟨ret_i64 (by rw [HE4.out]; rfl), rbox_old hB5⟩
                          · have hqn : ((q : Int) == (i : Int)) = false := by rw [beq_eq_false_iff_ne]; omega
                            have HBk' : Hid (backL g i (g.us.length - (m + 1)) q = backL g i g.us.length i) := Lib.hid (by rw [← HBk.out, HS2.out, if_neg hqi])
                            go_wp2_with fail
                            go_still_tail 8, (by kernel_rfl)
                            go_wp2_with fail
                            refine C.out.mono ?_
                            rintro e w5 ⟨rfl, hb5⟩
                            have hB5 := rbox_more HW2.out hb5
                            clear a0 a1 a2 a3 c2
                            go_wp2_with fail
                            go_roundw
                            case rel => exact ⟨q, m + 1, hlt, hq2, rfl, by go_num, HBk', Lib.hid hB5⟩
                            case measure => simp [intOf]; omega
                    · obtain rfl : m = g.us.length := by omega
                      have HE4 : Hid (userE g i = 0) := Lib.hid (by rw [HE3.out, ← HBk.out, Nat.sub_self]; rfl)
                      go_wp2_with fail
                      go_ret
                      exact ⟨ret_i64 (by rw [HE4.out]; rfl), rbox_old HX.out⟩
end Go.Proofs.Ytahhhhacoigpmaa
