/-
  HeapRests: what is taken out of the middle changes nothing of the others' order: whatever the step, the items, which are taken; no condition.
-/
import Derived.Test.YtcipgjelbnmdiaaHpY
import Derived.Deep.CutBlock
import Derived.Deep.CutRange
namespace Go.Proofs.Ytcipgjelbnmdiaa.HRests
open Go.RowKit Go.Shelf Go.Deep Go.Joins Go.ChangeShapes Go.WideShapes Go.ChangeMaps Go.Proofs.Ytcipgjelbnmdiaa.B Go.Proofs.Ytcipgjelbnmdiaa.HP Go.Proofs.Ytcipgjelbnmdiaa.OP
attribute [local go_sem] Oper.semAt_some

set_option maxRecDepth 100000 in
set_option maxHeartbeats 8000000 in
theorem walk (W : World) (st : Int) (A : Option Addr) (c : Nat) (l : List It) (hr : Row W A (l.flatMap itC)) (hg : ∀ x ∈ l, goodI x) (Ao : Option Addr) (co : Nat) (lo : List Bool) (hro : Row W Ao (lo.flatMap boC)) (hst : (Lit.int .u16 st).wf = true) :
    Calls Try.prog 4 #[.int .u16 st, .slice A l.length c, .slice Ao lo.length co] W fun e W' => e = .returned (.bool true) ∧ Below W.heap.size W W' := by
  have CA := Lib.hid (awake_any W)
  have hst2 : 0 ≤ st ∧ st ≤ 65535 := bounds_u16 hst
  obtain ⟨hst0, hst1⟩ := hst2
  have HR := Lib.hid hr
  have HRo := Lib.hid hro
  have HG := Lib.hid hg
  clear hr hg hst hro
  go_enter Try.func4, Try.ntmps4
  go_wp2_with fail
  refine CA.out.mono ?_
  rintro e W1 ⟨rfl, hb1⟩
  have HB1 := Lib.hid hb1
  clear hb1 CA
  obtain ⟨s, hs⟩ : ∃ s : Int, s = st + 1 := ⟨_, rfl⟩
  have hs1 : 1 ≤ s := by omega
  have hs2 : s ≤ 65536 := by omega
  have hst3 : st + 1 = s := hs.symm
  clear hs
  have CN := Lib.hid (new_yes W1 s hs1 (by omega) (fun _ => False))
  go_wp2_with fail
  refine CN.out.mono ?_
  rintro e W2 ⟨rfl, hb2, hw2⟩
  obtain ⟨ha, hha⟩ : ∃ ha, ha = W1.heap.size + 1 := ⟨_, rfl⟩
  rw [← hha] at hw2 ⊢
  have hH2 : HS ⟨W1, fun _ => False⟩ W2 ha s [] := ⟨⟨_, [], List.Perm.refl _, fun j h1 h2 => (by simp at h2), hw2⟩, List.Pairwise.nil⟩
  have HH2' := Lib.hid hH2
  have HB2 := Lib.hid hb2
  have CM := Lib.hid (new_yes W2 s hs1 (by omega) (fun _ => False))
  clear hw2 hha CN hb2 hH2
  go_wp2_with fail
  refine CM.out.mono ?_
  rintro e W3 ⟨rfl, hb3, hw3⟩
  obtain ⟨hb, hhb⟩ : ∃ hb, hb = W2.heap.size + 1 := ⟨_, rfl⟩
  rw [← hhb] at hw3 ⊢
  have hH3 : HS ⟨W2, fun _ => False⟩ W3 hb s [] := ⟨⟨_, [], List.Perm.refl _, fun j h1 h2 => (by simp at h2), hw3⟩, List.Pairwise.nil⟩
  have HI0 : Hid (HH2 W ha hb s [] [] W3) := Lib.hid ⟨(HB1.out.trans (HB2.out.mono HB1.out.size)).trans (hb3.mono (Nat.le_trans HB1.out.size HB2.out.size)), fun q => W1.heap.size ≤ q ∧ q < W2.heap.size, fun q => W2.heap.size ≤ q ∧ q < W3.heap.size,
    HH2'.out.reb (fun q hq hl => by
      rcases hq with hq | hq
      · exact hq.elim
      · exact ⟨hq, hl⟩) (fun q hq hl => hb3.block q hl), hH3.reb (fun q hq hl => by
      rcases hq with hq | hq
      · exact hq.elim
      · exact ⟨hq, hl⟩) (fun _ _ _ => rfl), fun q h1 h2 => by omega, fun q hq => ⟨by have := HB1.out.size; omega, by have := hb3.size; omega⟩, fun q hq => ⟨by have h1 := HB1.out.size; have h2 := HB2.out.size; omega, hq.2⟩⟩
  clear hw3 hhb CM hb3 hH3 HH2' HB2 HB1
  obtain ⟨m, hm⟩ : ∃ m, m = min l.length 100 := ⟨_, rfl⟩
  have hm1 : m ≤ 100 := by omega
  have hm2 : m ≤ l.length := by omega
  have hm3 : l.length ≤ m ∨ 100 ≤ m := by omega
  clear hm
  go_upto_block 0 with fail
  go_cut [11] from 40 to 84 (fun _ wx => ∃ SA SB : List It, Hid (R1 l SA SB m) ∧ Hid (HH2 W ha hb s SA SB wx))
  case first =>
    go_wp2_with fail
    go_loopw [11] (fun i wr => ∃ (k : Nat) (SA SB : List It), k ≤ l.length ∧ k ≤ 100 ∧ i = .int .i64 (k : Int) ∧ Hid (R1 l SA SB k) ∧ Hid (HH2 W ha hb s SA SB wr)) (fun i _ => 100 - (intOf i).toNat)
    case atStart => exact ⟨0, [], [], Nat.zero_le _, Nat.zero_le _, rfl, Lib.hid (R1.none l), HI0⟩
    case round =>
      clear HI0
      obtain ⟨k, SA, SB, hk, hk1, rfl, HPQ, HI⟩ := hrel
      have hk0 : (0 : Int) ≤ (k : Int) := Int.natCast_nonneg _
      by_cases hlt : k < l.length
      · have hlt1 : (k : Int) < (l.length : Int) := by omega
        have hlt2 : decide ((k : Int) < (l.length : Int)) = true := decide_eq_true hlt1
        by_cases hk4 : k < 100
        · have hk5 : (k : Int) < 100 := by omega
          obtain ⟨bk, off, hA, hbk, c0⟩ := (HR.out.below (Nat.le_refl _) HI.out.b).at_ (k := 3) (fun _ => rfl) (by omega) hlt
          have x0 : wr.cell? ⟨bk, off + k * 3, none⟩ = some (.int .i64 l[k]!.id) := by have := c0 0 _ rfl; rw [Nat.add_zero] at this; exact this
          have x1 : wr.cell? ⟨bk, off + k * 3 + 1, none⟩ = some (.int .i64 l[k]!.base) := c0 1 _ rfl
          have x2 : wr.cell? ⟨bk, off + k * 3 + 2, none⟩ = some (.int .i64 l[k]!.since) := c0 2 _ rfl
          have HBKW : Hid (∀ w', Below W.heap.size W w' → w'.cell? ⟨bk, off + k * 3, none⟩ = some (.int .i64 l[k]!.id) ∧ w'.cell? ⟨bk, off + k * 3 + 1, none⟩ = some (.int .i64 l[k]!.base) ∧ w'.cell? ⟨bk, off + k * 3 + 2, none⟩ = some (.int .i64 l[k]!.since)) := Lib.hid (fun w' hw' => by
            obtain ⟨bk', off', hA', _, c0'⟩ := (HR.out.below (Nat.le_refl _) hw').at_ (k := 3) (fun _ => rfl) (by omega) hlt
            rw [hA] at hA'
            injection hA' with hA'
            injection hA' with e1 e2 _
            subst e1 e2
            exact ⟨by have := c0' 0 _ rfl; rw [Nat.add_zero] at this; exact this, c0' 1 _ rfl, c0' 2 _ rfl⟩)
          obtain rfl : A = some ⟨bk, off, none⟩ := hA
          have HWF := Lib.hid (HG.out _ (mem_at hlt)).1
          have HPE := Lib.hid (putE_both (x := l[k]!) HPQ.out (by omega))
          have HPB := Lib.hid (HPQ.out.both s)
          have HPP := Lib.hid (HPQ.out.put s)
          obtain ⟨x, hx⟩ : ∃ x, x = l[k]! := ⟨_, rfl⟩
          rw [← hx] at x0 x1 x2 HWF HPE HPB HPP HBKW
          clear hx c0
          obtain ⟨xi, xb, xs⟩ := x
          simp only at x0 x1 x2
          cases hh : HP.hasB SA xi with
          | true =>
            have CH := Lib.hid (has2 HI.out xi HWF.out)
            rw [hh] at CH
            have HPM := Lib.hid HPQ.out.more
            go_wp2_with fail
            refine CH.out.mono ?_
            rintro e9 w2 ⟨rfl, hw⟩
            subst hw
            go_wp2_with fail
            go_roundw
            case rel => exact ⟨k + 1, SA, SB, hlt, hk4, by go_num, HPM, HI⟩
            case measure => simp [intOf]; omega
          | false =>
            have CH := Lib.hid (has2 HI.out xi HWF.out)
            rw [hh] at CH
            by_cases hlo : k < lo.length
            · have hlo1 : (k : Int) < (lo.length : Int) := by omega
              have hlo2 : decide ((k : Int) < (lo.length : Int)) = true := decide_eq_true hlo1
              obtain ⟨bo, oo, hAo, hbo, d0⟩ := (HRo.out.below (Nat.le_refl _) HI.out.b).at_ (k := 1) (fun _ => rfl) (by omega) hlo
              have z0 : wr.cell? ⟨bo, oo + k, none⟩ = some (.bool lo[k]!) := by have := d0 0 _ rfl; simpa using this
              obtain rfl : Ao = some ⟨bo, oo, none⟩ := hAo
              obtain ⟨g, hg⟩ : ∃ g, g = lo[k]! := ⟨_, rfl⟩
              rw [← hg] at z0
              clear hg d0
              cases g with
              | true =>
                go_wp2_with fail
                refine CH.out.mono ?_
                rintro e9 w2 ⟨rfl, hw⟩
                subst hw
                go_wp2_with fail
                refine (put2 HI.out ⟨xi, xb, xs⟩ HWF.out).mono ?_
                rintro e9 w2 ⟨rfl, hh2⟩
                have HI2 := Lib.hid hh2
                clear hh2
                by_cases hpe : putE SA ⟨xi, xb, xs⟩ = 0
                · rw [if_pos hpe] at HI2
                  rw [hpe]
                  clear hpe
                  go_wp2_with fail
                  go_roundw
                  case rel => exact ⟨k + 1, _, _, hlt, hk4, by go_num, HPP, HI2⟩
                  case measure => simp [intOf]; omega
                · rw [if_neg hpe] at HI2
                  clear hpe
                  have HPM := Lib.hid HPQ.out.more
                  go_wp2_with fail
                  go_roundw
                  case rel => exact ⟨k + 1, SA, SB, hlt, hk4, by go_num, HPM, HI2⟩
                  case measure => simp [intOf]; omega
              | false =>
                go_wp2_with fail
                refine CH.out.mono ?_
                rintro e9 w2 ⟨rfl, hw⟩
                subst hw
                go_wp2_with fail
                refine (put2 HI.out ⟨xi, xb, xs⟩ HWF.out).mono ?_
                rintro e9 w2 ⟨rfl, hh2⟩
                have HI2 := Lib.hid hh2
                clear hh2
                have HPE2 := Lib.hid (HPE.out hh)
                obtain ⟨y0, y1, y2⟩ := HBKW.out w2 HI2.out.b
                have CB := Lib.hid (put2 HI2.out.symm ⟨xi, xb, xs⟩ HWF.out)
                rw [HPE2.out] at CB
                obtain ⟨E, hE⟩ : ∃ E, E = putE SA ⟨xi, xb, xs⟩ := ⟨_, rfl⟩
                rw [← hE] at HI2 CB ⊢
                clear hE x0 x1 x2
                go_wp2_with fail
                refine CB.out.mono ?_
                rintro e9 w3 ⟨rfl, hh3⟩
                have HI3 := Lib.hid hh3.symm
                clear hh3 CB HI2
                by_cases hpe : E = 0
                · rw [if_pos hpe, if_pos hpe] at HI3
                  clear hpe
                  go_wp2_with fail
                  go_roundw
                  case rel => exact ⟨k + 1, _, _, hlt, hk4, by go_num, HPB, HI3⟩
                  case measure => simp [intOf]; omega
                · rw [if_neg hpe, if_neg hpe] at HI3
                  clear hpe
                  have HPM := Lib.hid HPQ.out.more
                  go_wp2_with fail
                  go_roundw
                  case rel => exact ⟨k + 1, SA, SB, hlt, hk4, by go_num, HPM, HI3⟩
                  case measure => simp [intOf]; omega
            · have hlo1 : ¬ (k : Int) < (lo.length : Int) := by omega
              have hlo2 : decide ((k : Int) < (lo.length : Int)) = false := decide_eq_false hlo1
              go_wp2_with fail
              refine CH.out.mono ?_
              rintro e9 w2 ⟨rfl, hw⟩
              subst hw
              go_wp2_with fail
              refine (put2 HI.out ⟨xi, xb, xs⟩ HWF.out).mono ?_
              rintro e9 w2 ⟨rfl, hh2⟩
              have HI2 := Lib.hid hh2
              clear hh2
              have HPE2 := Lib.hid (HPE.out hh)
              obtain ⟨y0, y1, y2⟩ := HBKW.out w2 HI2.out.b
              have CB := Lib.hid (put2 HI2.out.symm ⟨xi, xb, xs⟩ HWF.out)
              rw [HPE2.out] at CB
              obtain ⟨E, hE⟩ : ∃ E, E = putE SA ⟨xi, xb, xs⟩ := ⟨_, rfl⟩
              rw [← hE] at HI2 CB ⊢
              clear hE x0 x1 x2
              go_wp2_with fail
              refine CB.out.mono ?_
              rintro e9 w3 ⟨rfl, hh3⟩
              have HI3 := Lib.hid hh3.symm
              clear hh3 CB HI2
              by_cases hpe : E = 0
              · rw [if_pos hpe, if_pos hpe] at HI3
                clear hpe
                go_wp2_with fail
                go_roundw
                case rel => exact ⟨k + 1, _, _, hlt, hk4, by go_num, HPB, HI3⟩
                case measure => simp [intOf]; omega
              · rw [if_neg hpe, if_neg hpe] at HI3
                clear hpe
                have HPM := Lib.hid HPQ.out.more
                go_wp2_with fail
                go_roundw
                case rel => exact ⟨k + 1, SA, SB, hlt, hk4, by go_num, HPM, HI3⟩
                case measure => simp [intOf]; omega
        · have hk5 : ¬ (k : Int) < 100 := by omega
          obtain rfl : k = m := by omega
          go_wp2_with fail
          go_meet
          exact ⟨SA, SB, HPQ, HI⟩
      · have hlt1 : ¬ (k : Int) < (l.length : Int) := by omega
        have hlt2 : decide ((k : Int) < (l.length : Int)) = false := decide_eq_false hlt1
        obtain rfl : k = m := by omega
        go_wp2_with fail
        go_meet
        exact ⟨SA, SB, HPQ, HI⟩
  case rest =>
  clear HI0
  obtain ⟨SA0, SB, HP0, HI0⟩ := hcut
  have HP1 := Lib.hid (R2.start HP0.out)
  clear HP0
  obtain ⟨w5, hw5⟩ : ∃ w5, w5 = wc := ⟨_, rfl⟩
  rw [← hw5] at HI0 ⊢
  clear hw5
  go_upto_block 2 with fail
  go_cut [14] from 85 to 109 (fun _ wx => ∃ SA : List It, Hid (R2 l SA SB m m) ∧ Hid (HH2 W ha hb s SA SB wx))
  case first =>
    go_wp2_with fail
    go_loopw [14] (fun i wr => ∃ (k : Nat) (SA : List It), k ≤ l.length ∧ k ≤ 100 ∧ i = .int .i64 (k : Int) ∧ Hid (R2 l SA SB k m) ∧ Hid (HH2 W ha hb s SA SB wr)) (fun i _ => 100 - (intOf i).toNat)
    case atStart => exact ⟨0, SA0, Nat.zero_le _, Nat.zero_le _, rfl, HP1, HI0⟩
    case round =>
      clear HI0 HP1
      obtain ⟨k, SA, hk, hk1, rfl, HPQ, HI⟩ := hrel
      have hk0 : (0 : Int) ≤ (k : Int) := Int.natCast_nonneg _
      by_cases hlt : k < l.length
      · have hlt1 : (k : Int) < (l.length : Int) := by omega
        have hlt2 : decide ((k : Int) < (l.length : Int)) = true := decide_eq_true hlt1
        by_cases hk4 : k < 100
        · have hk5 : (k : Int) < 100 := by omega
          obtain ⟨bk, off, hA, hbk, c0⟩ := (HR.out.below (Nat.le_refl _) HI.out.b).at_ (k := 3) (fun _ => rfl) (by omega) hlt
          have x0 : wr.cell? ⟨bk, off + k * 3, none⟩ = some (.int .i64 l[k]!.id) := by have := c0 0 _ rfl; rw [Nat.add_zero] at this; exact this
          have HAE := Lib.hid hA
          rw [hA]
          clear hA
          have HWF := Lib.hid (HG.out _ (mem_at hlt)).1
          have HPH := Lib.hid (fun hh => HPQ.out.has HI.out.di hh)
          have HPR := Lib.hid (fun hh => HPQ.out.rem hh)
          obtain ⟨x, hx⟩ : ∃ x, x = l[k]! := ⟨_, rfl⟩
          rw [← hx] at x0 HWF HPH HPR
          clear hx c0
          obtain ⟨xi, xb, xs⟩ := x
          simp only at x0
          cases hh : HP.hasB SB xi with
          | true =>
            have CH := Lib.hid (has2 HI.out.symm xi HWF.out)
            rw [hh] at CH
            have HPM := Lib.hid (HPH.out hh)
            go_wp2_with fail
            refine CH.out.mono ?_
            rintro e9 w2 ⟨rfl, hw⟩
            subst hw
            go_wp2_with fail
            go_roundw
            case rel => exact ⟨k + 1, SA, hlt, hk4, by go_num, HPM, HI⟩
            case measure => simp [intOf]; omega
          | false =>
            have CH := Lib.hid (has2 HI.out.symm xi HWF.out)
            rw [hh] at CH
            have HPM := Lib.hid (HPR.out hh)
            go_wp2_with fail
            refine CH.out.mono ?_
            rintro e9 w2 ⟨rfl, hw⟩
            subst hw
            go_wp2_with fail
            refine (rem2 HI.out xi HWF.out).mono ?_
            rintro e9 w3 ⟨rfl, hh3⟩
            have HI3 := Lib.hid hh3
            clear hh3 x0
            go_wp2_with fail
            go_roundw
            case rel => exact ⟨k + 1, _, hlt, hk4, by go_num, HPM, HI3⟩
            case measure => simp [intOf]; omega
        · have hk5 : ¬ (k : Int) < 100 := by omega
          obtain rfl : k = m := by omega
          go_wp2_with fail
          go_meet
          exact ⟨SA, HPQ, HI⟩
      · have hlt1 : ¬ (k : Int) < (l.length : Int) := by omega
        have hlt2 : decide ((k : Int) < (l.length : Int)) = false := decide_eq_false hlt1
        obtain rfl : k = m := by omega
        go_wp2_with fail
        go_meet
        exact ⟨SA, HPQ, HI⟩
  case rest =>
  clear HI0 HP1
  obtain ⟨SA, HPQ, HI1⟩ := hcut
  obtain rfl : SA = SB := HPQ.out.done (Nat.le_refl _) HI1.out.so HI1.out.symm.so HI1.out.di HI1.out.symm.di
  have HI := HI1
  clear HI1 HPQ
  obtain ⟨w6, hw6⟩ : ∃ w6, w6 = wc := ⟨_, rfl⟩
  rw [← hw6] at HI ⊢
  clear hw6
  have hfew := HI.out.few
  go_wp2_with fail
  refine (list2 HI.out).mono ?_
  rintro e w7 ⟨ga, ca, rfl, hra, hb7⟩
  have HI7 := Lib.hid (HI.out.call hb7)
  have HRA := Lib.hid hra
  clear hra hb7
  go_wp2_with fail
  refine (list2 HI7.out.symm).mono ?_
  rintro e w8 ⟨gb, cb, rfl, hrb, hb8⟩
  have HRB := Lib.hid hrb
  have HRA8 := Lib.hid (B.own_below HRA.out hb8)
  have HB8 := Lib.hid (HI7.out.b.trans (hb8.mono HI7.out.b.size))
  clear hrb hb8 HRA HI7 HI
  go_wp2_with fail
  go_loopw [121] (fun i wr => ∃ k : Nat, k ≤ SA.length ∧ i = .int .i64 (k : Int) ∧ Hid (Below w8.heap.size w8 wr)) (fun i _ => SA.length - (intOf i).toNat)
  case atStart => exact ⟨0, Nat.zero_le _, rfl, Lib.hid (Below.refl _ _)⟩
  case round =>
    obtain ⟨k, hk, rfl, HBW⟩ := hrel
    by_cases hlt : k < SA.length
    · have hlt1 : (k : Int) < (SA.length : Int) := by omega
      have hk0 : (0 : Int) ≤ (k : Int) := Int.natCast_nonneg _
      obtain ⟨b1, o1, hA1, hl1, c1⟩ := (Row.of_own (B.own_below HRA8.out HBW.out)).at_ (k := 3) (fun _ => rfl) (by omega) hlt
      obtain ⟨b2, o2, hA2, hl2, c2⟩ := (Row.of_own (B.own_below HRB.out HBW.out)).at_ (k := 3) (fun _ => rfl) (by omega) hlt
      have x0 : wr.cell? ⟨b1, o1 + k * 3, none⟩ = some (.int .i64 SA[k]!.id) := by have := c1 0 _ rfl; rw [Nat.add_zero] at this; exact this
      have x1 : wr.cell? ⟨b1, o1 + k * 3 + 1, none⟩ = some (.int .i64 SA[k]!.base) := c1 1 _ rfl
      have x2 : wr.cell? ⟨b1, o1 + k * 3 + 2, none⟩ = some (.int .i64 SA[k]!.since) := c1 2 _ rfl
      have y0 : wr.cell? ⟨b2, o2 + k * 3, none⟩ = some (.int .i64 SA[k]!.id) := by have := c2 0 _ rfl; rw [Nat.add_zero] at this; exact this
      have y1 : wr.cell? ⟨b2, o2 + k * 3 + 1, none⟩ = some (.int .i64 SA[k]!.base) := c2 1 _ rfl
      have y2 : wr.cell? ⟨b2, o2 + k * 3 + 2, none⟩ = some (.int .i64 SA[k]!.since) := c2 2 _ rfl
      obtain ⟨x, hx⟩ : ∃ x, x = SA[k]! := ⟨_, rfl⟩
      rw [← hx] at x0 x1 x2 y0 y1 y2
      clear hx c1 c2
      obtain ⟨xi, xb, xs⟩ := x
      simp only at x0 x1 x2 y0 y1 y2
      have HA1 := Lib.hid hA1
      have HA2 := Lib.hid hA2
      rw [hA1, hA2]
      clear hA1 hA2
      go_wp2_with fail
      go_quiet (fail)
      have HBN := Lib.hid (HBW.out.trans (below_draws (Below.refl w8.heap.size wr) nq))
      go_wp2_with fail
      go_roundw
      case rel => exact ⟨k + 1, hlt, by go_num, HBN⟩
      case measure => simp [intOf]; omega
    · have hlt1 : ¬ (k : Int) < (SA.length : Int) := by omega
      have HBF := Lib.hid (HB8.out.trans (HBW.out.mono HB8.out.size))
      go_wp2_with fail
      go_ret
      exact ⟨rfl, HBF.out⟩

theorem own : ownKnob Try.prog.godebug = none := by kernel_rfl
set_option maxRecDepth 100000 in
theorem lifted (os : Os) (started : os.Started) (H : Type) (enc : TypeId × Value → H) :
    ReturnsInHanded {} Try.checked os 4 .any (Rows.heapRestsSpec.pre6 enc Try.prog Try.f4 Rows.heapRestsRow.domain false) (Rows.heapRestsSpec.post enc Try.prog Try.f4 false true false false) := by
  refine returnsInHanded_of_change_sized (C := Try.checked) own started (by kernel_rfl) Try.func4
    (ChangeSpec.witness6 (enc := enc) (C := Try.checked) false ⟨#[], #[.int .u16 0, .slice none 0 0, .slice none 0 0], []⟩ 8 (by kernel_rfl) (by kernel_rfl) (by kernel_rfl) (by kernel_rfl)) ?_
  intro W base args ds gs before hval0 hW _ hsz0 _
  have hsz : (DataW.weightsEach Try.prog (Try.f4.params.toList ++ Rows.heapRestsSpec.plain.varTypes Try.prog) (ds ++ gs)).all (· ≤ reachBytes) = true := hsz0
  have hval : ∀ (j : Nat) t v, Try.f4.params[j]? = some t → args[j]? = some v → Value.okWide Try.prog W .any base t v := hval0
  have hW' := hW
  obtain ⟨p, q, hA0, hV, rfl, _, _⟩ := hW
  have hA : DataW.TrodAll enc Try.prog W 0 (fun _ => true) true Try.f4.params.toList args.toList ds p := hA0
  rw [Try.params4] at hA hval hsz
  obtain ⟨v0, vs0, d0, ds0, p0, q0, hargs, rfl, rfl, h0, r0⟩ := trodAll_cons hA
  obtain ⟨v1, vs1, d1, ds1, p1, q1, e1, rfl, rfl, h1, r1⟩ := trodAll_cons r0
  obtain ⟨v2, vs2, d2, ds2, p2, q2, e2, rfl, rfl, h2, r2⟩ := trodAll_cons r1
  obtain ⟨rfl, rfl, rfl⟩ := trodAll_nil r2
  subst e2
  subst e1
  obtain rfl : args = #[v0, v1, v2] := by cases args; simp_all
  obtain ⟨rfl, rfl⟩ := trodVars_none hV
  obtain ⟨n0, rfl, hw0⟩ := open_intk Try.underlying54 (hval 0 _ v0 rfl rfl) h0
  have hw1 : Wt Try.prog 51 d1 := Wt.of hsz (j := 1) rfl rfl
  obtain ⟨A1, c1, l1, rfl, hr1, hg1⟩ := open_its (hval 1 _ v1 rfl rfl) h1 hw1
  have hw2 : Wt Try.prog 55 d2 := Wt.of hsz (j := 2) rfl rfl
  obtain ⟨A2, c2, l2, rfl, hr2, hl2⟩ := open_bos (hval 2 _ v2 rfl rfl) h2 hw2
  clear hA0 hval0 hsz0
  simp only [List.append_nil] at hW'
  have hlt0 := fun x hx => hW'.lt x hx
  refine (walk W n0 A1 c1 l1 hr1 hg1 A2 c2 l2 hr2 hw0).mono fun e W' ⟨he2, hg⟩ => ?_
  subst he2
  have hargs := (trodAll_cons_mk (Below.trod progLaid (by kernel_rfl) (of_decide_eq_true (by kernel_rfl)) h0 hg (fun x hx => hlt0 x (List.mem_append_left _ hx))) (trodAll_cons_mk (Below.trod progLaid (by kernel_rfl) (of_decide_eq_true (by kernel_rfl)) h1 hg (fun x hx => hlt0 x (List.mem_append_right _ (List.mem_append_left _ hx)))) (trodAll_cons_mk (Below.trod progLaid (by kernel_rfl) (of_decide_eq_true (by kernel_rfl)) h2 hg (fun x hx => hlt0 x (List.mem_append_right _ (List.mem_append_right _ (hx))))) (trodAll_mk0 (enc := enc) (P := Try.prog) (w := W')))))
  simp only [List.append_nil] at hargs
  exact ⟨_, rfl, _, _, _, [], p0 ++ (p1 ++ (p2)), [], hW', trodAll_cons_mk (shut_bool Try.underlying4 _) trodAll_mk0, hargs, rfl, hg.frame _, fun h => by cases h⟩

theorem proved : Rows.HeapRestsSaid :=
  OpenClaim.holds_of_wide 4 Try.f4 rfl rfl rfl rfl rfl rfl rfl ⟨rfl, rfl, rfl, rfl, rfl⟩ rfl rfl rfl rfl rfl (by kernel_rfl) Try.func4 (by kernel_rfl)
    (of_decide_eq_true (by kernel_rfl)) (by unfold Func.isWrapper; first | (rw [if_pos (by decide +kernel)]; kernel_rfl) | (rw [if_neg (by decide +kernel)]; exact ⟨rfl, rfl⟩))
    (fun os started H enc _ => lifted os started H enc)
end Go.Proofs.Ytcipgjelbnmdiaa.HRests
