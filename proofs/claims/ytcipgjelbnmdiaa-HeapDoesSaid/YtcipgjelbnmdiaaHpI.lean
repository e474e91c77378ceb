/-
  The contract of heap.sift.
-/
import Derived.Test.YtcipgjelbnmdiaaHpH
import Derived.Deep.CutBlock
import Derived.Deep.CutRange
namespace Go.Proofs.Ytcipgjelbnmdiaa.HP
open Go.RowKit Go.Shelf Go.Proofs.Ytcipgjelbnmdiaa.B
attribute [local go_sem] Oper.semAt_some

set_option maxRecDepth 100000 in
set_option maxHeartbeats 8000000 in
theorem sift_any (w0 : FW) (w : World) (hb : Nat) (A : HA) (s : Int) (L : List It) (h : HW w0 w hb A s L) (k : Nat) (hk : k < L.length) (he : EX s L k) :
    Calls Try.prog 43 #[pt hb, .int .i64 (k : Int)] w fun e w' => e = .returned (.tuple #[]) ∧ ∃ L', L'.Perm L ∧ HO s L' ∧ HW w0 w' hb A s L' := by
  obtain ⟨ia, ic, pb⟩ := A
  go_enter Try.func43, Try.ntmps43
  refine wp_scope_labels (fun l a' W => ∃ k L', SJ w0 hb ⟨ia, ic, pb⟩ s L l a' W k L') (fun l a' _ => if l = 0 then 2001 + (intOf (a'.tmps.getD 1 undef)).toNat else 2000 - (intOf (a'.tmps.getD 1 undef)).toNat) 0 ⟨k, L, rfl, rfl, rfl, rfl, hk, List.Perm.refl _, h, .inl ⟨rfl, he⟩⟩ ?_ ?_
  · intro x hx
    injection hx with hx
    injection hx with _ hx
    subst hx
    rfl
  clear h hk he k w
  rintro l ⟨tm, df⟩ W ⟨k, L', hJ⟩
  have hz := hJ.z
  obtain ⟨x0, x1, x2, x3, x4, x5, x6, x7, x8, x9, x10, x11, x12, x13, x14, x15, x16, x17, x18, x19, x20, x21, x22, x23, x24, x25, x26, x27, x28, x29, x30, x31, x32, x33, x34, x35, x36, x37, x38, x39, x40, x41, x42, x43, x44, x45, x46, x47, x48, x49, x50, x51, x52, x53, x54, x55, rfl⟩ := arr56 hz
  obtain rfl : x0 = _ := hJ.s0
  obtain rfl : x1 = _ := hJ.s1
  obtain rfl : df = _ := hJ.d
  obtain ⟨-, -, -, -, hk, hp, hH, ho⟩ := hJ
  clear hz
  have HP := Lib.hid hp
  have HHH := Lib.hid hH
  have hfew := hH.h.few
  clear hp hH
  rcases ho with ⟨rfl, hE⟩ | ⟨rfl, hD⟩
  · refine ⟨_, rfl, ?_⟩
    have HE := Lib.hid hE
    clear hE
    by_cases h0 : k = 0
    · have HD := Lib.hid (up_stop (p := (k - 1) / 2) HE.out rfl (.inl h0))
      have h1 : ¬ (0 : Int) < (k : Int) := (by omega)
      clear h0
      go_wp2_with fail
      go_step3
      have k1 : wrap64 (2 * (k : Int)) = 2 * (k : Int) := (by unfold wrap64; omega)
      have k2 : wrap64 (2 * (k : Int) + 1) = 2 * (k : Int) + 1 := (by unfold wrap64; omega)
      have k3 : wrap64 (2 * (k : Int) + 2) = 2 * (k : Int) + 2 := (by unfold wrap64; omega)
      go_upto_block 0 with fail
      go_cut [5] from 6 (fun f5 wx => ∃ f : Nat, f5 = .int .i64 (f : Int) ∧ Hid (best s L' k 2 = f) ∧ Hid (HW w0 wx hb ⟨ia, ic, pb⟩ s L'))
      case first =>
        go_wp2_with fail
        go_loopw [5, 6] (fun fv iv wr => ∃ (m j f : Nat), m ≤ 2 ∧ j = 2 * k + 1 + m ∧ fv = .int .i64 (f : Int) ∧ (∃ u : Int, iv = .int .i64 u ∧ u = (j : Int)) ∧ Hid (best s L' k m = f) ∧ Hid (HW w0 wr hb ⟨ia, ic, pb⟩ s L')) (fun _ iv _ => (2 * k + 3) - (intOf iv).toNat)
        case atStart => exact ⟨0, 2 * k + 1, k, by omega, by omega, rfl, ⟨_, rfl, by omega⟩, Lib.hid rfl, HHH⟩
        case round =>
          clear HHH
          obtain ⟨m, j, f, hm, hj, rfl, ⟨u, rfl, hu⟩, HB, HHr⟩ := hrel
          subst hu
          have c1 : wr.cell? ⟨hb, 1, none⟩ = some (.slice ia L'.length ic) := cell_blk (i := 1) HHr.out.h.box rfl
          have hbl := HHr.out.h.lt
          have hfl : f < L'.length := (by rw [← HB.out]; exact best_lt hk m)
          by_cases hm2 : m < 2
          · have hle : (j : Int) ≤ 2 * (k : Int) + 2 := (by omega)
            by_cases hjl : j < L'.length
            · have hlt : (j : Int) < (L'.length : Int) := (by omega)
              have CA := Lib.hid (ahead_any _ hb ⟨ia, ic, pb⟩ s L' HHr.out.h j f hjl hfl)
              have HBS : Hid (best s L' k (m + 1) = if ahB s L'[j]! L'[f]! = true then j else f) := Lib.hid (by
                unfold best
                rw [HB.out, ← hj]
                by_cases ha : ahB s L'[j]! L'[f]! = true
                · rw [if_pos ⟨hjl, ha⟩, if_pos ha]
                · rw [if_neg (fun h => ha h.2), if_neg ha])
              have hw1 : wrap64 ((j : Int) + 1) = (j : Int) + 1 := (by clear k1 k2 k3; unfold wrap64; omega)
              have HJ := Lib.hid hj
              have HN : Hid (m + 1 ≤ 2 ∧ j + 1 = 2 * k + 1 + (m + 1)) := Lib.hid ⟨Nat.succ_le_of_lt hm2, by rw [hj]; rfl⟩
              clear hj
              have HX := Lib.hid (And.intro hm (And.intro hm2 (And.intro hjl hfl)))
              clear hm hm2 hjl hfl
              cases hah : ahB s L'[j]! L'[f]! with
              | true =>
                rw [hah] at CA HBS
                rw [if_pos rfl] at HBS
                clear hah
                go_wp2_with fail
                refine CA.out.mono ?_
                rintro e w8 ⟨rfl, hb8⟩
                have HH8 := Lib.hid (HHr.out.call hb8)
                clear hb8 c1 hbl
                go_wp2_with fail
                go_roundw
                case rel => exact ⟨m + 1, j + 1, j, HN.out.1, HN.out.2, rfl, ⟨_, rfl, rfl⟩, HBS, HH8⟩
                case measure => (clear k1 k2 k3 hw1; simp [intOf]; omega)
              | false =>
                rw [hah] at CA HBS
                rw [if_neg (by decide)] at HBS
                clear hah
                go_wp2_with fail
                refine CA.out.mono ?_
                rintro e w8 ⟨rfl, hb8⟩
                have HH8 := Lib.hid (HHr.out.call hb8)
                clear hb8 c1 hbl
                go_wp2_with fail
                go_roundw
                case rel => exact ⟨m + 1, j + 1, f, HN.out.1, HN.out.2, rfl, ⟨_, rfl, rfl⟩, HBS, HH8⟩
                case measure => (clear k1 k2 k3 hw1; simp [intOf]; omega)
            · have hlt : ¬ (j : Int) < (L'.length : Int) := (by omega)
              have HB2 : Hid (best s L' k 2 = f) := Lib.hid (by
                rw [← HB.out]
                exact best_rest 2 (by omega) (by omega))
              clear hj
              go_wp2_with fail
              go_meet
              exact ⟨f, rfl, HB2, HHr⟩
          · obtain rfl : m = 2 := (by omega)
            have hle : ¬ (j : Int) ≤ 2 * (k : Int) + 2 := (by omega)
            have HB2 : Hid (best s L' k 2 = f) := HB
            clear hj
            go_wp2_with fail
            go_meet
            exact ⟨f, rfl, HB2, HHr⟩
      case rest =>
        obtain ⟨f, rfl, HB2, HHr⟩ := hcut
        clear k1 k2 k3 HHH
        by_cases hfk : f = k
        · subst hfk
          have HO1 := Lib.hid (best_stop HD.out HB2.out)
          go_wp2_with fail
          simp only [Exit.at_]
          go_end0
          exact ⟨rfl, L', HP.out, HO1.out, HHr.out⟩
        · have hne : ((f : Int) != (k : Int)) = true := (by rw [bne_iff_ne]; omega)
          obtain ⟨hd1, hkf, hfl2⟩ := best_step HD.out hk (by rw [HB2.out]; exact hfk)
          rw [HB2.out] at hd1 hkf hfl2
          have HD1 := Lib.hid hd1
          have CS := Lib.hid (swap_any w0 _ hb ⟨ia, ic, pb⟩ s L' HHr.out k f hk hfl2)
          clear hd1
          go_wp2_with fail
          refine CS.out.mono ?_
          rintro e w9 ⟨rfl, hH9⟩
          have HH9 := Lib.hid hH9
          clear hH9
          go_wp2_with fail
          go_step3
          exact ⟨⟨f, sw L' k f, rfl, rfl, rfl, rfl, by rw [sw_len]; exact hfl2, (sw_perm hk hfl2).trans HP.out, HH9.out, .inr ⟨rfl, HD1.out⟩⟩, by simp [intOf]; omega⟩
    · have hk0 : (0 : Int) < (k : Int) := (by omega)
      obtain ⟨p, hpp⟩ : ∃ p, p = (k - 1) / 2 := ⟨_, rfl⟩
      have hpl : p < L'.length := (by omega)
      have hpk : p < k := (by omega)
      have h4 : ((k : Int) - 1).tdiv 2 = (p : Int) := (by rw [hpp, Int.tdiv_eq_ediv_of_nonneg (by omega)]; omega)
      have hw0 : wrap64 ((k : Int) - 1) = (k : Int) - 1 := (by clear h4; unfold wrap64; omega)
      have CA := Lib.hid (ahead_any _ hb ⟨ia, ic, pb⟩ s L' HHH.out.h k p hk hpl)
      have HPP := Lib.hid hpp
      clear hpp
      cases hah : ahB s L'[k]! L'[p]! with
      | false =>
        have HD := Lib.hid (up_stop HE.out HPP.out (.inr hah))
        rw [hah] at CA
        clear hah
        go_wp2_with fail
        refine CA.out.mono ?_
        rintro e w8 ⟨rfl, hb8⟩
        replace HHH := Lib.hid (HHH.out.call hb8)
        clear hb8 CA hw0
        go_wp2_with fail
        go_step3
        clear h4
        have k1 : wrap64 (2 * (k : Int)) = 2 * (k : Int) := (by unfold wrap64; omega)
        have k2 : wrap64 (2 * (k : Int) + 1) = 2 * (k : Int) + 1 := (by unfold wrap64; omega)
        have k3 : wrap64 (2 * (k : Int) + 2) = 2 * (k : Int) + 2 := (by unfold wrap64; omega)
        go_upto_block 0 with fail
        go_cut [5] from 6 (fun f5 wx => ∃ f : Nat, f5 = .int .i64 (f : Int) ∧ Hid (best s L' k 2 = f) ∧ Hid (HW w0 wx hb ⟨ia, ic, pb⟩ s L'))
        case first =>
          go_wp2_with fail
          go_loopw [5, 6] (fun fv iv wr => ∃ (m j f : Nat), m ≤ 2 ∧ j = 2 * k + 1 + m ∧ fv = .int .i64 (f : Int) ∧ (∃ u : Int, iv = .int .i64 u ∧ u = (j : Int)) ∧ Hid (best s L' k m = f) ∧ Hid (HW w0 wr hb ⟨ia, ic, pb⟩ s L')) (fun _ iv _ => (2 * k + 3) - (intOf iv).toNat)
          case atStart => exact ⟨0, 2 * k + 1, k, by omega, by omega, rfl, ⟨_, rfl, by omega⟩, Lib.hid rfl, HHH⟩
          case round =>
            clear HHH
            obtain ⟨m, j, f, hm, hj, rfl, ⟨u, rfl, hu⟩, HB, HHr⟩ := hrel
            subst hu
            have c1 : wr.cell? ⟨hb, 1, none⟩ = some (.slice ia L'.length ic) := cell_blk (i := 1) HHr.out.h.box rfl
            have hbl := HHr.out.h.lt
            have hfl : f < L'.length := (by rw [← HB.out]; exact best_lt hk m)
            by_cases hm2 : m < 2
            · have hle : (j : Int) ≤ 2 * (k : Int) + 2 := (by omega)
              by_cases hjl : j < L'.length
              · have hlt : (j : Int) < (L'.length : Int) := (by omega)
                have CA := Lib.hid (ahead_any _ hb ⟨ia, ic, pb⟩ s L' HHr.out.h j f hjl hfl)
                have HBS : Hid (best s L' k (m + 1) = if ahB s L'[j]! L'[f]! = true then j else f) := Lib.hid (by
                  unfold best
                  rw [HB.out, ← hj]
                  by_cases ha : ahB s L'[j]! L'[f]! = true
                  · rw [if_pos ⟨hjl, ha⟩, if_pos ha]
                  · rw [if_neg (fun h => ha h.2), if_neg ha])
                have hw1 : wrap64 ((j : Int) + 1) = (j : Int) + 1 := (by clear k1 k2 k3; unfold wrap64; omega)
                have HJ := Lib.hid hj
                have HN : Hid (m + 1 ≤ 2 ∧ j + 1 = 2 * k + 1 + (m + 1)) := Lib.hid ⟨Nat.succ_le_of_lt hm2, by rw [hj]; rfl⟩
                clear hj
                have HX := Lib.hid (And.intro hm (And.intro hm2 (And.intro hjl hfl)))
                clear hm hm2 hjl hfl
                cases hah : ahB s L'[j]! L'[f]! with
                | true =>
                  rw [hah] at CA HBS
                  rw [if_pos rfl] at HBS
                  clear hah
                  go_wp2_with fail
                  refine CA.out.mono ?_
                  rintro e w8 ⟨rfl, hb8⟩
                  have HH8 := Lib.hid (HHr.out.call hb8)
                  clear hb8 c1 hbl
                  go_wp2_with fail
                  go_roundw
                  case rel => exact ⟨m + 1, j + 1, j, HN.out.1, HN.out.2, rfl, ⟨_, rfl, rfl⟩, HBS, HH8⟩
                  case measure => (clear k1 k2 k3 hw1; simp [intOf]; omega)
                | false =>
                  rw [hah] at CA HBS
                  rw [if_neg (by decide)] at HBS
                  clear hah
                  go_wp2_with fail
                  refine CA.out.mono ?_
                  rintro e w8 ⟨rfl, hb8⟩
                  have HH8 := Lib.hid (HHr.out.call hb8)
                  clear hb8 c1 hbl
                  go_wp2_with fail
                  go_roundw
                  case rel => exact ⟨m + 1, j + 1, f, HN.out.1, HN.out.2, rfl, ⟨_, rfl, rfl⟩, HBS, HH8⟩
                  case measure => (clear k1 k2 k3 hw1; simp [intOf]; omega)
              · have hlt : ¬ (j : Int) < (L'.length : Int) := (by omega)
                have HB2 : Hid (best s L' k 2 = f) := Lib.hid (by
                  rw [← HB.out]
                  exact best_rest 2 (by omega) (by omega))
                clear hj
                go_wp2_with fail
                go_meet
                exact ⟨f, rfl, HB2, HHr⟩
            · obtain rfl : m = 2 := (by omega)
              have hle : ¬ (j : Int) ≤ 2 * (k : Int) + 2 := (by omega)
              have HB2 : Hid (best s L' k 2 = f) := HB
              clear hj
              go_wp2_with fail
              go_meet
              exact ⟨f, rfl, HB2, HHr⟩
        case rest =>
          obtain ⟨f, rfl, HB2, HHr⟩ := hcut
          clear k1 k2 k3 HHH
          by_cases hfk : f = k
          · subst hfk
            have HO1 := Lib.hid (best_stop HD.out HB2.out)
            go_wp2_with fail
            simp only [Exit.at_]
            go_end0
            exact ⟨rfl, L', HP.out, HO1.out, HHr.out⟩
          · have hne : ((f : Int) != (k : Int)) = true := (by rw [bne_iff_ne]; omega)
            obtain ⟨hd1, hkf, hfl2⟩ := best_step HD.out hk (by rw [HB2.out]; exact hfk)
            rw [HB2.out] at hd1 hkf hfl2
            have HD1 := Lib.hid hd1
            have CS := Lib.hid (swap_any w0 _ hb ⟨ia, ic, pb⟩ s L' HHr.out k f hk hfl2)
            clear hd1
            go_wp2_with fail
            refine CS.out.mono ?_
            rintro e w9 ⟨rfl, hH9⟩
            have HH9 := Lib.hid hH9
            clear hH9
            go_wp2_with fail
            go_step3
            exact ⟨⟨f, sw L' k f, rfl, rfl, rfl, rfl, by rw [sw_len]; exact hfl2, (sw_perm hk hfl2).trans HP.out, HH9.out, .inr ⟨rfl, HD1.out⟩⟩, by simp [intOf]; omega⟩
      | true =>
        have HE1 := Lib.hid (up_step HE.out (by omega) hk HPP.out)
        rw [hah] at CA
        clear hah
        go_wp2_with fail
        refine CA.out.mono ?_
        rintro e w8 ⟨rfl, hb8⟩
        replace HHH := Lib.hid (HHH.out.call hb8)
        clear hb8 CA
        have CS := Lib.hid (swap_any w0 _ hb ⟨ia, ic, pb⟩ s L' HHH.out k p hk hpl)
        go_wp2_with fail
        refine CS.out.mono ?_
        rintro e w9 ⟨rfl, hH9⟩
        have HH9 := Lib.hid hH9
        clear hH9
        go_wp2_with fail
        go_step3
        exact ⟨⟨p, sw L' k p, rfl, rfl, rfl, rfl, by rw [sw_len]; exact hpl, (sw_perm hk hpl).trans HP.out, HH9.out, .inl ⟨rfl, HE1.out⟩⟩, by clear hw0 h4; simp [intOf]; omega⟩
  · refine ⟨_, rfl, ?_⟩
    have HD := Lib.hid hD
    clear hD
    have k1 : wrap64 (2 * (k : Int)) = 2 * (k : Int) := (by unfold wrap64; omega)
    have k2 : wrap64 (2 * (k : Int) + 1) = 2 * (k : Int) + 1 := (by unfold wrap64; omega)
    have k3 : wrap64 (2 * (k : Int) + 2) = 2 * (k : Int) + 2 := (by unfold wrap64; omega)
    go_upto_block 0 with fail
    go_cut [5] from 6 (fun f5 wx => ∃ f : Nat, f5 = .int .i64 (f : Int) ∧ Hid (best s L' k 2 = f) ∧ Hid (HW w0 wx hb ⟨ia, ic, pb⟩ s L'))
    case first =>
      go_wp2_with fail
      go_loopw [5, 6] (fun fv iv wr => ∃ (m j f : Nat), m ≤ 2 ∧ j = 2 * k + 1 + m ∧ fv = .int .i64 (f : Int) ∧ (∃ u : Int, iv = .int .i64 u ∧ u = (j : Int)) ∧ Hid (best s L' k m = f) ∧ Hid (HW w0 wr hb ⟨ia, ic, pb⟩ s L')) (fun _ iv _ => (2 * k + 3) - (intOf iv).toNat)
      case atStart => exact ⟨0, 2 * k + 1, k, by omega, by omega, rfl, ⟨_, rfl, by omega⟩, Lib.hid rfl, HHH⟩
      case round =>
        clear HHH
        obtain ⟨m, j, f, hm, hj, rfl, ⟨u, rfl, hu⟩, HB, HHr⟩ := hrel
        subst hu
        have c1 : wr.cell? ⟨hb, 1, none⟩ = some (.slice ia L'.length ic) := cell_blk (i := 1) HHr.out.h.box rfl
        have hbl := HHr.out.h.lt
        have hfl : f < L'.length := (by rw [← HB.out]; exact best_lt hk m)
        by_cases hm2 : m < 2
        · have hle : (j : Int) ≤ 2 * (k : Int) + 2 := (by omega)
          by_cases hjl : j < L'.length
          · have hlt : (j : Int) < (L'.length : Int) := (by omega)
            have CA := Lib.hid (ahead_any _ hb ⟨ia, ic, pb⟩ s L' HHr.out.h j f hjl hfl)
            have HBS : Hid (best s L' k (m + 1) = if ahB s L'[j]! L'[f]! = true then j else f) := Lib.hid (by
              unfold best
              rw [HB.out, ← hj]
              by_cases ha : ahB s L'[j]! L'[f]! = true
              · rw [if_pos ⟨hjl, ha⟩, if_pos ha]
              · rw [if_neg (fun h => ha h.2), if_neg ha])
            have hw1 : wrap64 ((j : Int) + 1) = (j : Int) + 1 := (by clear k1 k2 k3; unfold wrap64; omega)
            have HJ := Lib.hid hj
            have HN : Hid (m + 1 ≤ 2 ∧ j + 1 = 2 * k + 1 + (m + 1)) := Lib.hid ⟨Nat.succ_le_of_lt hm2, by rw [hj]; rfl⟩
            clear hj
            have HX := Lib.hid (And.intro hm (And.intro hm2 (And.intro hjl hfl)))
            clear hm hm2 hjl hfl
            cases hah : ahB s L'[j]! L'[f]! with
            | true =>
              rw [hah] at CA HBS
              rw [if_pos rfl] at HBS
              clear hah
              go_wp2_with fail
              refine CA.out.mono ?_
              rintro e w8 ⟨rfl, hb8⟩
              have HH8 := Lib.hid (HHr.out.call hb8)
              clear hb8 c1 hbl
              go_wp2_with fail
              go_roundw
              case rel => exact ⟨m + 1, j + 1, j, HN.out.1, HN.out.2, rfl, ⟨_, rfl, rfl⟩, HBS, HH8⟩
              case measure => (clear k1 k2 k3 hw1; simp [intOf]; omega)
            | false =>
              rw [hah] at CA HBS
              rw [if_neg (by decide)] at HBS
              clear hah
              go_wp2_with fail
              refine CA.out.mono ?_
              rintro e w8 ⟨rfl, hb8⟩
              have HH8 := Lib.hid (HHr.out.call hb8)
              clear hb8 c1 hbl
              go_wp2_with fail
              go_roundw
              case rel => exact ⟨m + 1, j + 1, f, HN.out.1, HN.out.2, rfl, ⟨_, rfl, rfl⟩, HBS, HH8⟩
              case measure => (clear k1 k2 k3 hw1; simp [intOf]; omega)
          · have hlt : ¬ (j : Int) < (L'.length : Int) := (by omega)
            have HB2 : Hid (best s L' k 2 = f) := Lib.hid (by
              rw [← HB.out]
              exact best_rest 2 (by omega) (by omega))
            clear hj
            go_wp2_with fail
            go_meet
            exact ⟨f, rfl, HB2, HHr⟩
        · obtain rfl : m = 2 := (by omega)
          have hle : ¬ (j : Int) ≤ 2 * (k : Int) + 2 := (by omega)
          have HB2 : Hid (best s L' k 2 = f) := HB
          clear hj
          go_wp2_with fail
          go_meet
          exact ⟨f, rfl, HB2, HHr⟩
    case rest =>
      obtain ⟨f, rfl, HB2, HHr⟩ := hcut
      clear k1 k2 k3 HHH
      by_cases hfk : f = k
      · subst hfk
        have HO1 := Lib.hid (best_stop HD.out HB2.out)
        go_wp2_with fail
        simp only [Exit.at_]
        go_end0
        exact ⟨rfl, L', HP.out, HO1.out, HHr.out⟩
      · have hne : ((f : Int) != (k : Int)) = true := (by rw [bne_iff_ne]; omega)
        obtain ⟨hd1, hkf, hfl2⟩ := best_step HD.out hk (by rw [HB2.out]; exact hfk)
        rw [HB2.out] at hd1 hkf hfl2
        have HD1 := Lib.hid hd1
        have CS := Lib.hid (swap_any w0 _ hb ⟨ia, ic, pb⟩ s L' HHr.out k f hk hfl2)
        clear hd1
        go_wp2_with fail
        refine CS.out.mono ?_
        rintro e w9 ⟨rfl, hH9⟩
        have HH9 := Lib.hid hH9
        clear hH9
        go_wp2_with fail
        go_step3
        exact ⟨⟨f, sw L' k f, rfl, rfl, rfl, rfl, by rw [sw_len]; exact hfl2, (sw_perm hk hfl2).trans HP.out, HH9.out, .inr ⟨rfl, HD1.out⟩⟩, by simp [intOf]; omega⟩
end Go.Proofs.Ytcipgjelbnmdiaa.HP
