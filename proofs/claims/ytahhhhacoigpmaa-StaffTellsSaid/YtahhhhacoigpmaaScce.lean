/-
  Contracts of the document's own Check and Right. (made by wip/tools/gen_rchk.py) The document's own staff: New. Both staffs side by side: what the one's Away leaves of the other; an integer argument. A region that draws its order, in which what the others read stands behind each operation.
-/
import Derived.Test.YtahhhhacoigpmaaSccd
import Derived.Test.YtahhhhacoigpmaaScbc
import Derived.Test.YtahhhhacoigpmaaScbh
import Derived.Test.YtahhhhacoigpmaaScbf
import Derived.Test.YtahhhhacoigpmaaScad
namespace Go.Proofs.Ytahhhhacoigpmaa
open Go.RowKit Go.Shelf
/-- Nothing is wrong among the first of a part. -/
def fineB (f : Nat → Nat) (n : Nat) : Prop := ∀ j, j < n → f j = 0
theorem fine_more {f : Nat → Nat} {k : Nat} (h : fineB f k) (hk : f k = 0) : fineB f (k + 1) := by
  intro j hj
  by_cases e : j = k
  · rw [e]; exact hk
  · exact h j (by omega)
theorem tell_hit {f : Nat → Nat} {s : St} {part k n : Nat} (hs : s.2.2 = 0) (h : fineB f k) (hk : f k ≠ 0) (hn : k < n) : tellS s part f n = (part, k, f k) := by
  have h1 : tellL f (k + 1) = some (k, f k) := by
    rw [tellL, tellL_none.2 h]; simp only [if_neg hk]
  have h2 := tellL_more h1 (show k + 1 ≤ n from hn)
  unfold tellS; rw [if_pos hs, h2]
theorem tell_fine {f : Nat → Nat} {s : St} {part n : Nat} (hs : s.2.2 = 0) (h : fineB f n) : tellS s part f n = s := by
  unfold tellS; rw [if_pos hs, tellL_none.2 h]
theorem tell_bad {f : Nat → Nat} {s : St} {part n : Nat} (hs : s.2.2 ≠ 0) : tellS s part f n = s := by unfold tellS; rw [if_neg hs]
def chk0 (g : Gr) : St := tellS (0, 0, 0) 0 (fun _ => limitE g) 1
def chk1 (g : Gr) : St := tellS (chk0 g) 1 (groupE g) g.gs.length
def chk2 (g : Gr) : St := tellS (chk1 g) 2 (eventE g) g.es.length
def chk3 (g : Gr) : St := tellS (chk2 g) 3 (relE g) g.rs.length
theorem chk_eq (g : Gr) : checkL g = tellS (chk3 g) 4 (userE g) g.us.length := rfl
theorem chk0_ok {g : Gr} (h : limitE g = 0) : chk0 g = (0, 0, 0) := tell_fine rfl (fun _ _ => h)
theorem chk0_bad {g : Gr} (h : limitE g ≠ 0) : checkL g = (0, 0, limitE g) := by
  have h0 : chk0 g = (0, 0, limitE g) := tell_hit rfl (fun j hj => absurd hj (Nat.not_lt_zero _)) h (by omega)
  have h1 : chk1 g = (0, 0, limitE g) := by rw [chk1, h0]; exact tell_bad h
  have h2 : chk2 g = (0, 0, limitE g) := by rw [chk2, h1]; exact tell_bad h
  have h3 : chk3 g = (0, 0, limitE g) := by rw [chk3, h2]; exact tell_bad h
  rw [chk_eq, h3]; exact tell_bad h
theorem chk_gs {g : Gr} {k : Nat} (h0 : limitE g = 0) (h : fineB (groupE g) k) (hk : groupE g k ≠ 0) (hn : k < g.gs.length) : checkL g = (1, k, groupE g k) := by
  have h1 : chk1 g = (1, k, groupE g k) := by rw [chk1, chk0_ok h0]; exact tell_hit rfl h hk hn
  have h2 : chk2 g = (1, k, groupE g k) := by rw [chk2, h1]; exact tell_bad hk
  have h3 : chk3 g = (1, k, groupE g k) := by rw [chk3, h2]; exact tell_bad hk
  rw [chk_eq, h3]; exact tell_bad hk
theorem chk1_ok {g : Gr} (h0 : limitE g = 0) (h1 : fineB (groupE g) g.gs.length) : chk1 g = (0, 0, 0) := by rw [chk1, chk0_ok h0]; exact tell_fine rfl h1
theorem chk_es {g : Gr} {k : Nat} (h0 : chk1 g = (0, 0, 0)) (h : fineB (eventE g) k) (hk : eventE g k ≠ 0) (hn : k < g.es.length) : checkL g = (2, k, eventE g k) := by
  have h2 : chk2 g = (2, k, eventE g k) := by rw [chk2, h0]; exact tell_hit rfl h hk hn
  have h3 : chk3 g = (2, k, eventE g k) := by rw [chk3, h2]; exact tell_bad hk
  rw [chk_eq, h3]; exact tell_bad hk
theorem chk2_ok {g : Gr} (h0 : chk1 g = (0, 0, 0)) (h1 : fineB (eventE g) g.es.length) : chk2 g = (0, 0, 0) := by rw [chk2, h0]; exact tell_fine rfl h1
theorem chk_rs {g : Gr} {k : Nat} (h0 : chk2 g = (0, 0, 0)) (h : fineB (relE g) k) (hk : relE g k ≠ 0) (hn : k < g.rs.length) : checkL g = (3, k, relE g k) := by
  have h3 : chk3 g = (3, k, relE g k) := by rw [chk3, h0]; exact tell_hit rfl h hk hn
  rw [chk_eq, h3]; exact tell_bad hk
theorem chk3_ok {g : Gr} (h0 : chk2 g = (0, 0, 0)) (h1 : fineB (relE g) g.rs.length) : chk3 g = (0, 0, 0) := by rw [chk3, h0]; exact tell_fine rfl h1
theorem chk_us {g : Gr} {k : Nat} (h0 : chk3 g = (0, 0, 0)) (h : fineB (userE g) k) (hk : userE g k ≠ 0) (hn : k < g.us.length) : checkL g = (4, k, userE g k) := by
  rw [chk_eq, h0]; exact tell_hit rfl h hk hn
theorem chk_ok {g : Gr} (h0 : chk3 g = (0, 0, 0)) (h1 : fineB (userE g) g.us.length) : checkL g = (0, 0, 0) := by rw [chk_eq, h0]; exact tell_fine rfl h1
theorem lim_many {g : Gr} (h : 40 < g.gs.length ∨ 80 < g.es.length ∨ 300 < g.rs.length ∨ 40 < g.us.length) : limitE g = 4 := by
  unfold limitE
  by_cases a : 40 < g.gs.length
  · rw [if_pos a]
  rw [if_neg a]
  by_cases b : 80 < g.es.length
  · rw [if_pos b]
  rw [if_neg b]
  by_cases c : 300 < g.rs.length
  · rw [if_pos c]
  rw [if_neg c]
  by_cases d : 40 < g.us.length
  · rw [if_pos d]
  omega
theorem lim_role {g : Gr} {k : Nat} (hk : k < g.us.length) (h : 8 < g.us[k]!.roles.length) : limitE g = 4 := by
  have e : (g.us.any fun u => decide (8 < u.roles.length)) = true := List.any_eq_true.2 ⟨_, mem_at hk, by simpa using h⟩
  unfold limitE; rw [if_pos e]
  simp
theorem lim_ok {g : Gr} (h1 : ¬ 40 < g.gs.length) (h2 : ¬ 80 < g.es.length) (h3 : ¬ 300 < g.rs.length) (h4 : ¬ 40 < g.us.length) (h : ∀ k, k < g.us.length → ¬ 8 < g.us[k]!.roles.length) : limitE g = 0 := by
  have e : ¬ (g.us.any fun u => decide (8 < u.roles.length)) = true := by
    intro h5
    obtain ⟨u, hu, h6⟩ := List.any_eq_true.1 h5
    obtain ⟨k, hk, rfl⟩ := List.getElem_of_mem hu
    have := h k hk
    rw [getElem!_pos g.us k hk] at this
    exact this (by simpa using h6)
  unfold limitE
  rw [if_neg h1, if_neg h2, if_neg h3, if_neg h4, if_neg e]
theorem roles_more {g : Gr} {k : Nat} (h : ∀ j, j < k → ¬ 8 < g.us[j]!.roles.length) (hk : ¬ 8 < g.us[k]!.roles.length) : ∀ j, j < k + 1 → ¬ 8 < g.us[j]!.roles.length := by
  intro j hj
  by_cases e : j = k
  · rw [e]; exact hk
  · exact h j (by omega)
theorem code_pos {n : Nat} (h : n ≠ 0) : ((n : Int) != 0) = true := by rw [bne_iff_ne]; omega
/-- What Check answers, as a value. -/
def stV (s : St) : Value := .tuple #[.int .i64 s.1, .int .i64 s.2.1, .int .i64 s.2.2]
/-- The argument's box, and all that came in, stand as they did. -/
abbrev GX (w : World) (g : Gr) (W : World) : Prop := Below (w.heap.size + 1) (boxW w g) W
theorem gx_old {w W : World} {g : Gr} (h : GX w g W) : Below w.heap.size w W := (box_below w g).trans (h.mono (by omega))
theorem gx_more {w w1 w2 : World} {g : Gr} (h1 : GX w g w1) (h2 : Below w1.heap.size w1 w2) : GX w g w2 := h1.trans (h2.mono (by have := h1.size; rw [box_size] at this; exact this))
theorem gx_start (w : World) (g : Gr) : GX w g (boxW w g) := Below.refl _ _
set_option maxRecDepth 100000 in
set_option maxHeartbeats 8000000 in
theorem rcheck_any (w : World) (g : Gr) (hI : InG w g) (hz : SzG g) :
    Calls Try.prog 31 #[.agg #[.slice g.ga g.gs.length g.gc, .slice g.ea g.es.length g.ec, .slice g.ra g.rs.length g.rc, .slice g.ua g.us.length g.uc]] w fun e w' => e = .returned (stV (checkL g)) ∧ Below w.heap.size w w' := by
  have HI := Lib.hid hI
  have HZ := Lib.hid hz
  have z1 := hz.gs
  have z2 := hz.es
  have z3 := hz.rs
  have z4 := hz.us
  have X0 := Lib.hid (gx_start w g)
  obtain ⟨a0, a1, a2, a3⟩ := box_cells X0.out
  clear hI hz
  unfold boxW at a0 a1 a2 a3
  by_cases c1 : 40 < g.gs.length
  · have HL := Lib.hid (lim_many (g := g) (.inl c1))
    have HF := Lib.hid (chk0_bad (g := g) (by rw [HL.out]; decide))
    go_enter Try.func31, Try.ntmps31
    go_wp2_with fail
    go_ret3
    exact ⟨by rw [HF.out, HL.out]; rfl, gx_old X0.out⟩
  by_cases c2 : 80 < g.es.length
  · have HL := Lib.hid (lim_many (g := g) (.inr (.inl c2)))
    have HF := Lib.hid (chk0_bad (g := g) (by rw [HL.out]; decide))
    go_enter Try.func31, Try.ntmps31
    go_wp2_with fail
    go_ret3
    exact ⟨by rw [HF.out, HL.out]; rfl, gx_old X0.out⟩
  by_cases c3 : 300 < g.rs.length
  · have HL := Lib.hid (lim_many (g := g) (.inr (.inr (.inl c3))))
    have HF := Lib.hid (chk0_bad (g := g) (by rw [HL.out]; decide))
    go_enter Try.func31, Try.ntmps31
    go_wp2_with fail
    go_ret3
    exact ⟨by rw [HF.out, HL.out]; rfl, gx_old X0.out⟩
  by_cases c4 : 40 < g.us.length
  · have HL := Lib.hid (lim_many (g := g) (.inr (.inr (.inr c4))))
    have HF := Lib.hid (chk0_bad (g := g) (by rw [HL.out]; decide))
    go_enter Try.func31, Try.ntmps31
    go_wp2_with fail
    go_ret3
    exact ⟨by rw [HF.out, HL.out]; rfl, gx_old X0.out⟩
  go_enter Try.func31, Try.ntmps31
  go_wp2_with fail
  clear a0 a1 a2 a3
  go_loopw [5] (fun i wr => ∃ k : Nat, k ≤ g.us.length ∧ i = .int .i64 k ∧ Hid (∀ j, j < k → ¬ 8 < g.us[j]!.roles.length) ∧ Hid (GX w g wr)) (fun i _ => g.us.length - (intOf i).toNat)
  case atStart => exact ⟨0, Nat.zero_le _, rfl, Lib.hid (fun j hj => absurd hj (Nat.not_lt_zero _)), X0⟩
  case round =>
    clear X0
    obtain ⟨k, hk, rfl, HR, HX⟩ := hrel
    obtain ⟨a0, a1, a2, a3⟩ := box_cells HX.out
    by_cases hlt : k < g.us.length
    · obtain ⟨b, off, hA, hb, hc⟩ := HI.out.us.at_ (k := 3) (fun _ => rfl) (by omega) hlt
      have k1 := hc 1 _ rfl
      rw [← (gx_old HX.out).cell (p := ⟨b, _, none⟩) hb] at k1
      rw [hA] at a3
      have hk0 : (0 : Int) ≤ (k : Int) := Int.natCast_nonneg _
      have hk1 : (k : Int) < (g.us.length : Int) := by omega
      have hzr := (HZ.out.ur _ (mem_at hlt)).2.2.1
      clear hc hA
      by_cases h8 : 8 < g.us[k]!.roles.length
      · have HL := Lib.hid (lim_role hlt h8)
        have HF := Lib.hid (chk0_bad (g := g) (by rw [HL.out]; decide))
        clear HR
        generalize g.us[k]! = p at *
        go_wp2_with fail
        go_ret3
        exact ⟨by rw [HF.out, HL.out]; rfl, gx_old HX.out⟩
      · have HR' := Lib.hid (roles_more HR.out h8)
        clear HR
        generalize g.us[k]! = p at *
        go_wp2_with fail
        go_roundw
        case rel => exact ⟨k + 1, hlt, by go_num, HR', HX⟩
        case measure => simp [intOf]; omega
    · obtain rfl : k = g.us.length := by omega
      have HL := Lib.hid (lim_ok c1 c2 c3 c4 HR.out)
      clear HR hk hlt
      go_wp2_with fail
      clear a0 a1 a2 a3
      go_loopw [6] (fun i wr => ∃ k : Nat, k ≤ g.gs.length ∧ i = .int .i64 k ∧ Hid (fineB (groupE g) k) ∧ Hid (GX w g wr)) (fun i _ => g.gs.length - (intOf i).toNat)
      case atStart => exact ⟨0, Nat.zero_le _, rfl, Lib.hid (fun j hj => absurd hj (Nat.not_lt_zero _)), HX⟩
      case round =>
        clear HX
        obtain ⟨k, hk, rfl, HN, HX⟩ := hrel
        obtain ⟨a0, a1, a2, a3⟩ := box_cells HX.out
        by_cases hlt : k < g.gs.length
        · have hk0 : (0 : Int) ≤ (k : Int) := Int.natCast_nonneg _
          have hk1 : (k : Int) < (g.gs.length : Int) := by omega
          have C := Lib.hid (rgroup_any wr g k (HI.out.below (Nat.le_refl _) (gx_old HX.out)) HZ.out hlt)
          by_cases hq : groupE g k = 0
          · have HN' := Lib.hid (fine_more HN.out hq)
            rw [hq] at C
            clear hq HN
            go_wp2_with fail
            refine C.out.mono ?_
            rintro e w1 ⟨rfl, hb1⟩
            have HX1 := Lib.hid (gx_more HX.out hb1)
            clear hb1 a0 a1 a2 a3
            go_wp2_with fail
            go_roundw
            case rel => exact ⟨k + 1, hlt, by go_num, HN', HX1⟩
            case measure => simp [intOf]; omega
          · have HF := Lib.hid (chk_gs HL.out HN.out hq hlt)
            have ht := code_pos hq
            clear hq HN
            generalize groupE g k = q at *
            go_wp2_with fail
            refine C.out.mono ?_
            rintro e w1 ⟨rfl, hb1⟩
            have HX1 := Lib.hid (gx_more HX.out hb1)
            go_wp2_with fail
            go_ret3
            exact ⟨by rw [HF.out]; rfl, gx_old HX1.out⟩
        · obtain rfl : k = g.gs.length := by omega
          have HK := Lib.hid (chk1_ok HL.out HN.out)
          clear HN hk hlt
          go_wp2_with fail
          clear a0 a1 a2 a3
          go_loopw [8] (fun i wr => ∃ k : Nat, k ≤ g.es.length ∧ i = .int .i64 k ∧ Hid (fineB (eventE g) k) ∧ Hid (GX w g wr)) (fun i _ => g.es.length - (intOf i).toNat)
          case atStart => exact ⟨0, Nat.zero_le _, rfl, Lib.hid (fun j hj => absurd hj (Nat.not_lt_zero _)), HX⟩
          case round =>
            clear HX
            obtain ⟨k, hk, rfl, HN, HX⟩ := hrel
            obtain ⟨a0, a1, a2, a3⟩ := box_cells HX.out
            by_cases hlt : k < g.es.length
            · have hk0 : (0 : Int) ≤ (k : Int) := Int.natCast_nonneg _
              have hk1 : (k : Int) < (g.es.length : Int) := by omega
              have C := Lib.hid (revent_any wr g k (HI.out.below (Nat.le_refl _) (gx_old HX.out)) HZ.out hlt)
              by_cases hq : eventE g k = 0
              · have HN' := Lib.hid (fine_more HN.out hq)
                rw [hq] at C
                clear hq HN
                go_wp2_with fail
                refine C.out.mono ?_
                rintro e w1 ⟨rfl, hb1⟩
                have HX1 := Lib.hid (gx_more HX.out hb1)
                clear hb1 a0 a1 a2 a3
                go_wp2_with fail
                go_roundw
                case rel => exact ⟨k + 1, hlt, by go_num, HN', HX1⟩
                case measure => simp [intOf]; omega
              · have HF := Lib.hid (chk_es HK.out HN.out hq hlt)
                have ht := code_pos hq
                clear hq HN
                generalize eventE g k = q at *
                go_wp2_with fail
                refine C.out.mono ?_
                rintro e w1 ⟨rfl, hb1⟩
                have HX1 := Lib.hid (gx_more HX.out hb1)
                go_wp2_with fail
                go_ret3
                exact ⟨by rw [HF.out]; rfl, gx_old HX1.out⟩
            · obtain rfl : k = g.es.length := by omega
              have HK := Lib.hid (chk2_ok HK.out HN.out)
              clear HN hk hlt
              go_wp2_with fail
              clear a0 a1 a2 a3
              go_loopw [10] (fun i wr => ∃ k : Nat, k ≤ g.rs.length ∧ i = .int .i64 k ∧ Hid (fineB (relE g) k) ∧ Hid (GX w g wr)) (fun i _ => g.rs.length - (intOf i).toNat)
              case atStart => exact ⟨0, Nat.zero_le _, rfl, Lib.hid (fun j hj => absurd hj (Nat.not_lt_zero _)), HX⟩
              case round =>
                clear HX
                obtain ⟨k, hk, rfl, HN, HX⟩ := hrel
                obtain ⟨a0, a1, a2, a3⟩ := box_cells HX.out
                by_cases hlt : k < g.rs.length
                · have hk0 : (0 : Int) ≤ (k : Int) := Int.natCast_nonneg _
                  have hk1 : (k : Int) < (g.rs.length : Int) := by omega
                  have C := Lib.hid (rrel_any wr g k (HI.out.below (Nat.le_refl _) (gx_old HX.out)) HZ.out hlt)
                  by_cases hq : relE g k = 0
                  · have HN' := Lib.hid (fine_more HN.out hq)
                    rw [hq] at C
                    clear hq HN
                    go_wp2_with fail
                    refine C.out.mono ?_
                    rintro e w1 ⟨rfl, hb1⟩
                    have HX1 := Lib.hid (gx_more HX.out hb1)
                    clear hb1 a0 a1 a2 a3
                    go_wp2_with fail
                    go_roundw
                    case rel => exact ⟨k + 1, hlt, by go_num, HN', HX1⟩
                    case measure => simp [intOf]; omega
                  · have HF := Lib.hid (chk_rs HK.out HN.out hq hlt)
                    have ht := code_pos hq
                    clear hq HN
                    generalize relE g k = q at *
                    go_wp2_with fail
                    refine C.out.mono ?_
                    rintro e w1 ⟨rfl, hb1⟩
                    have HX1 := Lib.hid (gx_more HX.out hb1)
                    go_wp2_with fail
                    go_ret3
                    exact ⟨by rw [HF.out]; rfl, gx_old HX1.out⟩
                · obtain rfl : k = g.rs.length := by omega
                  have HK := Lib.hid (chk3_ok HK.out HN.out)
                  clear HN hk hlt
                  go_wp2_with fail
                  clear a0 a1 a2 a3
                  go_loopw [12] (fun i wr => ∃ k : Nat, k ≤ g.us.length ∧ i = .int .i64 k ∧ Hid (fineB (userE g) k) ∧ Hid (GX w g wr)) (fun i _ => g.us.length - (intOf i).toNat)
                  case atStart => exact ⟨0, Nat.zero_le _, rfl, Lib.hid (fun j hj => absurd hj (Nat.not_lt_zero _)), HX⟩
                  case round =>
                    clear HX
                    obtain ⟨k, hk, rfl, HN, HX⟩ := hrel
                    obtain ⟨a0, a1, a2, a3⟩ := box_cells HX.out
                    by_cases hlt : k < g.us.length
                    · have hk0 : (0 : Int) ≤ (k : Int) := Int.natCast_nonneg _
                      have hk1 : (k : Int) < (g.us.length : Int) := by omega
                      have C := Lib.hid (ruser_any wr g k (HI.out.below (Nat.le_refl _) (gx_old HX.out)) HZ.out hlt)
                      by_cases hq : userE g k = 0
                      · have HN' := Lib.hid (fine_more HN.out hq)
                        rw [hq] at C
                        clear hq HN
                        go_wp2_with fail
                        refine C.out.mono ?_
                        rintro e w1 ⟨rfl, hb1⟩
                        have HX1 := Lib.hid (gx_more HX.out hb1)
                        clear hb1 a0 a1 a2 a3
                        go_wp2_with fail
                        go_roundw
                        case rel => exact ⟨k + 1, hlt, by go_num, HN', HX1⟩
                        case measure => simp [intOf]; omega
                      · have HF := Lib.hid (chk_us HK.out HN.out hq hlt)
                        have ht := code_pos hq
                        clear hq HN
                        generalize userE g k = q at *
                        go_wp2_with fail
                        refine C.out.mono ?_
                        rintro e w1 ⟨rfl, hb1⟩
                        have HX1 := Lib.hid (gx_more HX.out hb1)
                        go_wp2_with fail
                        go_ret3
                        exact ⟨by rw [HF.out]; rfl, gx_old HX1.out⟩
                    · obtain rfl : k = g.us.length := by omega
                      have HF := Lib.hid (chk_ok HK.out HN.out)
                      clear HN hk hlt
                      go_wp2_with fail
                      go_ret3
                      exact ⟨by rw [HF.out]; rfl, gx_old HX.out⟩
end Go.Proofs.Ytahhhhacoigpmaa

namespace Go.Proofs.Ytahhhhacoigpmaa.SF
open Go.RowKit Go.Shelf Go.Proofs.Ytahhhhacoigpmaa Go.Proofs.Ytahhhhacoigpmaa.B
attribute [local go_sem] Oper.semAt_some
theorem mk_away {g : Gr} {M : List Mb} (h : MkM g M) : (M.map fun m => Value.bool m.away) = (List.replicate g.us.length false).map Value.bool := by
  refine List.ext_getElem (by simpa using h.len) (fun i h1 h2 => ?_)
  rw [List.getElem_map, List.getElem_map, List.getElem_replicate]
  have h7 := h.away i (by simpa using h1)
  rw [getElem!_pos M i (by simpa using h1)] at h7
  rw [h7]
theorem may_few40 {g : Gr} (h : mayL g = true) : g.us.length ≤ 40 := by
  have h0 := (may_iff.1 h).1
  unfold limitE at h0
  split at h0; · cases h0
  split at h0; · cases h0
  split at h0; · cases h0
  split at h0; · cases h0
  omega
set_option maxRecDepth 100000 in
set_option maxHeartbeats 4000000 in
theorem rnew_may (w : World) (g : Gr) (hI : InG w g) (hz : SzG g) (hm : mayL g = true) :
    Calls Try.prog 10 #[.agg #[.slice g.ga g.gs.length g.gc, .slice g.ea g.es.length g.ec, .slice g.ra g.rs.length g.rc, .slice g.ua g.us.length g.uc]] w fun e w' =>
      ∃ (rb ab : Nat), e = .returned (.tuple #[pt rb, .int .i64 0]) ∧ Below w.heap.size w w' ∧ w.heap.size ≤ rb ∧ ∀ M, MkM g M → StR w' rb g (some ⟨ab, 0, none⟩) g.us.length w.heap.size M := by
  have hc : checkL g = (0, 0, 0) ∨ (checkL g).2.2 = 0 := .inr (by unfold mayL at hm; simpa using hm)
  have hc2 : (checkL g).2.2 = 0 := by unfold mayL at hm; simpa using hm
  have C := Lib.hid (rcheck_any (boxW w g) g (hI.below (Nat.le_refl _) (box_below w g)) hz)
  have HB0 := Lib.hid (gx_start w g)
  have HI := Lib.hid hI
  have HZ := Lib.hid hz
  have hfew := may_few40 hm
  have hmk := make_bools g.us.length (by omega)
  clear hI hz hc
  obtain ⟨a, b, hst⟩ : ∃ a b, stV (checkL g) = .tuple #[.int .i64 a, .int .i64 b, .int .i64 0] := ⟨_, _, by unfold stV; rw [hc2]; rfl⟩
  rw [hst] at C
  clear hst hc2 hm
  go_enter Try.func10, Try.ntmps10
  go_wp2_with fail
  refine C.out.mono ?_
  rintro e w1 ⟨rfl, hb1⟩
  have HX1 := Lib.hid (gx_more HB0.out hb1)
  obtain ⟨a0, a1, a2, a3⟩ := box_cells HX1.out
  have hsz : w.heap.size + 1 ≤ w1.heap.size := by have := HX1.out.size; rw [box_size] at this; exact this
  clear hb1 C HB0 a0 a1 a2
  go_wp2_with fail
  have hlx : w.heap.size < w1.heap.size := by omega
  have a4 : (w1.alloc (.cells (Array.replicate g.us.length (Value.bool false)) 4)).cell? ⟨w.heap.size, 3, none⟩ = some (.slice g.ua g.us.length g.uc) := (World.cell?_alloc_lt _ _ ⟨w.heap.size, 3, none⟩ hlx).trans a3
  go_region
  all_goals
    go_wp2_with fail
    go_ret2
    have hbW : Below w.heap.size w (((w1.alloc (.cells (Array.replicate g.us.length (Value.bool false)) 4)).alloc (.cells #[.slice g.ua g.us.length g.uc, .slice (some ⟨w1.heap.size, 0, none⟩) g.us.length g.us.length] 77))) := ((gx_old HX1.out).alloc (by omega) _).alloc (by rw [World.size_alloc]; omega) _
    refine ⟨w1.heap.size + 1, w1.heap.size, rfl, below_draws hbW 1, by omega, fun M hM => ?_⟩
    refine ⟨?_, HI.out.us.below (Nat.le_refl _) (below_draws hbW 1), fun u hu => (HI.out.roles u hu).below (Nat.le_refl _) (below_draws hbW 1), ?_, hM.mks HZ.out⟩
    · rw [hM.len]
      have h := heap_new (w1.alloc (.cells (Array.replicate g.us.length (Value.bool false)) 4)) (.cells #[.slice g.ua g.us.length g.uc, .slice (some ⟨w1.heap.size, 0, none⟩) g.us.length g.us.length] 77)
      rw [World.size_alloc] at h
      exact h
    · rw [hM.len, mk_away hM]
      refine own_all (by omega) ?_ (by simp) (by omega)
      refine (Below.heap_alloc (w1.alloc (.cells (Array.replicate g.us.length (Value.bool false)) 4)) _ _ (by rw [World.size_alloc]; omega)).trans ((heap_new w1 _).trans (by simp))
theorem code_ne {n : Nat} (h : n ≠ 0) : ((n : Int) != 0) = true := by rw [bne_iff_ne]; omega
set_option maxRecDepth 100000 in
set_option maxHeartbeats 4000000 in
theorem rnew_not (w : World) (g : Gr) (hI : InG w g) (hz : SzG g) (hm : mayL g = false) :
    Calls Try.prog 10 #[.agg #[.slice g.ga g.gs.length g.gc, .slice g.ea g.es.length g.ec, .slice g.ra g.rs.length g.rc, .slice g.ua g.us.length g.uc]] w fun e w' =>
      e = .returned (.tuple #[.pointer none, .int .i64 ((checkL g).2.2 : Int)]) ∧ Below w.heap.size w w' := by
  have hc2 : (checkL g).2.2 ≠ 0 := by unfold mayL at hm; simpa using hm
  have C := Lib.hid (rcheck_any (boxW w g) g (hI.below (Nat.le_refl _) (box_below w g)) hz)
  have HB0 := Lib.hid (gx_start w g)
  clear hI hz
  have hne := code_ne hc2
  obtain ⟨a, b, hst⟩ : ∃ a b, stV (checkL g) = .tuple #[.int .i64 a, .int .i64 b, .int .i64 ((checkL g).2.2 : Int)] := ⟨_, _, rfl⟩
  rw [hst] at C
  clear hst hc2 hm
  generalize ((checkL g).2.2 : Int) = cc at *
  go_enter Try.func10, Try.ntmps10
  go_wp2_with fail
  refine C.out.mono ?_
  rintro e w1 ⟨rfl, hb1⟩
  have HX1 := Lib.hid (gx_more HB0.out hb1)
  clear hb1 C HB0
  go_wp2_with fail
  go_ret2
  exact ⟨rfl, gx_old HX1.out⟩
end Go.Proofs.Ytahhhhacoigpmaa.SF

namespace Go.Proofs.Ytahhhhacoigpmaa.SF
open Go.RowKit Go.Shelf Go.ChangeShapes Go.WideShapes Go.Proofs.Ytahhhhacoigpmaa Go.Proofs.Ytahhhhacoigpmaa.B
section
variable {H : Type} {enc : TypeId × Value → H} {w : World} {base : Nat} {spare : Nat → Bool} {held : Bool}
set_option maxRecDepth 100000 in
theorem open_int {r : Reach} {b0 : Nat} {v : Value} {d : DataW H} {p : List MemPlace} (hv : Value.okWide Try.prog w r b0 3 v) (h : DataW.Trod enc Try.prog w base spare held 3 v d p) : ∃ i : Int, v = .int .i64 i ∧ (Lit.int .i64 i).wf = true := by
  obtain ⟨i, rfl⟩ := okWide_int Try.underlying3 hv
  obtain ⟨f, hf⟩ := h
  exact rd_int Try.underlying3 (v := .int .i64 i) hf
end
theorem i64_range {s : Int} (h : (Lit.int .i64 s).wf = true) : -9223372036854775808 ≤ s ∧ s < 9223372036854775808 := by
  simp [Lit.wf, IntKind.min, IntKind.max, IntKind.signed, IntKind.bits] at h
  omega
/-- A store into a block of bools leaves a staff. -/
theorem StI.other {w w' : World} {sb : Nat} {A : SA} {M : List Mb} (h : StI w sb A M) {q : Nat} {cur : Array Value} (hcur : w.heap[q]? = some (.cells cur 4 (0, 0))) (hk : ∀ k, k ≠ q → w'.heap[k]? = w.heap[k]?) : StI w' sb A M := by
  have hT : ∀ {k : Nat} {cs : Array Value} {T : TypeId}, w.heap[k]? = some (.cells cs T (0, 0)) → T ≠ 4 → k ≠ q := fun h1 h2 e => by
    subst e; rw [hcur] at h1; injection h1 with h1; injection h1 with _ e _; exact h2 e.symm
  have hO : ∀ {B e z n : Nat} {v : Value} {xs : List Value}, w.ownsRow B e z v n xs → e ≠ 4 → w'.ownsRow B e z v n xs := fun ho he => own_keep ho (fun g hg => by
    rcases ho.2 with ⟨rfl, _⟩ | ⟨g', cap, cur', rfl, _, hh, _⟩
    · cases hg
    · simp only [Value.ownBlock, Option.some.injEq] at hg
      subst hg
      exact hk _ (hT hh he))
  refine ⟨(hk _ (hT h.box (by decide))).trans h.box, ?_, fun m hm => ?_, ?_⟩
  · obtain ⟨B, hr⟩ := h.row; exact ⟨B, hO hr (by decide)⟩
  · obtain ⟨B, hr⟩ := h.roles m hm; exact ⟨B, hO hr (by decide)⟩
  · refine h.map.block (hk _ (fun e => ?_))
    obtain ⟨D, ⟨es, c, hm, _⟩, _⟩ := h.map
    rw [e] at hm
    rw [hcur] at hm
    cases hm
theorem StI.ma_blk {w : World} {sb : Nat} {A : SA} {M : List Mb} (h : StI w sb A M) (b off : Nat) (e : A.ma = some ⟨b, off, none⟩) : ∃ cur, w.heap[b]? = some (.cells cur 72 (0, 0)) := by
  obtain ⟨B, hr⟩ := h.row
  rcases hr.2 with ⟨hv, _⟩ | ⟨g, cap, cur, hv, _, hh, _⟩
  · injection hv with e1; rw [e] at e1; cases e1
  · injection hv with e1
    rw [e] at e1
    injection e1 with e1
    injection e1 with e1 _ _
    subst e1
    exact ⟨cur, hh⟩
/-- What Away writes leaves the document's staff. -/
theorem StR.away {w0 w w' : World} {sb rb : Nat} {A : SA} {g : Gr} {aa : Option Addr} {ac B : Nat} {M M2 : List Mb} (hs : SW w0 w sb A M) (h : StR w rb g aa ac B M) (hL : Lo g w0.heap.size) (ha : AwP w sb A M2 w') : StR w' rb g aa ac B M := by
  have hb := ha.below _ hs.base
  have hT : ∀ {k : Nat} {cs : Array Value} {T : TypeId}, w.heap[k]? = some (.cells cs T (0, 0)) → T ≠ 72 → w'.heap[k]? = w.heap[k]? := fun {k cs T} h1 h2 => ha.other k (fun b off e e2 => by
    obtain ⟨cur, hc⟩ := hs.st.ma_blk b off e
    subst e2
    rw [hc] at h1; injection h1 with h1; injection h1 with _ e3 _; exact h2 e3.symm)
  refine ⟨(hT h.box (by decide)).trans h.box, ?_, fun u hu => ?_, ?_, h.ms⟩
  · intro hne
    obtain ⟨q, off, h1, h2, h3⟩ := h.us hne
    have := hL.us hne q off h1
    exact ⟨q, off, h1, by rw [ha.size]; exact h2, fun j u hj => (hb.cell (p := ⟨q, off + j, none⟩) this).trans (h3 j u hj)⟩
  · intro hne
    obtain ⟨q, off, h1, h2, h3⟩ := h.rl u hu hne
    have := hL.rl u hu hne q off h1
    exact ⟨q, off, h1, by rw [ha.size]; exact h2, fun j u hj => (hb.cell (p := ⟨q, off + j, none⟩) this).trans (h3 j u hj)⟩
  · refine own_keep h.row (fun g hg => ?_)
    rcases h.row.2 with ⟨hv, _⟩ | ⟨g', cap, cur', hv, _, hh, _⟩
    · rw [hv] at hg; cases hg
    · rw [hv] at hg
      simp only [Value.ownBlock, Option.some.injEq] at hg
      subst hg
      exact hT hh (by decide)
theorem Lo.mono {g : Gr} {B B' : Nat} (h : Lo g B) (hB : B ≤ B') : Lo g B' := ⟨fun a q off e => Nat.lt_of_lt_of_le (h.us a q off e) hB, fun u hu a q off e => Nat.lt_of_lt_of_le (h.rl u hu a q off e) hB⟩
/-- The law's two staffs. -/
structure TT (w0 : World) (sb rb ab n B : Nat) (A : SA) (g : Gr) (M M' : List Mb) (W : World) : Prop where
  s : SW w0 W sb A M
  r : StR W rb g (some ⟨ab, 0, none⟩) n B M'
theorem TT.call {w0 W W' : World} {sb rb ab n B : Nat} {A : SA} {g : Gr} {M M' : List Mb} (h : TT w0 sb rb ab n B A g M M' W) (hb : Below W.heap.size W W') : TT w0 sb rb ab n B A g M M' W' := ⟨h.s.call hb, h.r.below hb⟩
theorem TT.one {w0 W W' : World} {sb rb ab n B : Nat} {A : SA} {g : Gr} {M M2 : List Mb} (h : TT w0 sb rb ab n B A g M M W) (hL : Lo g w0.heap.size) (ha : AwP W sb A M2 W') : TT w0 sb rb ab n B A g M2 M W' := ⟨h.s.away ha, h.r.away h.s hL ha⟩
theorem TT.two {w0 W W' : World} {sb rb ab n B : Nat} {A : SA} {g : Gr} {M M2 : List Mb} (h : TT w0 sb rb ab n B A g M2 M W) (hB : w0.heap.size ≤ B) (hn : StR W' rb g (some ⟨ab, 0, none⟩) n B M2) (hb : Below B W W') (ho : ∀ k, (∀ b, (some ⟨ab, 0, none⟩ : Option Addr) = some ⟨b, 0, none⟩ → k ≠ b) → W'.heap[k]? = W.heap[k]?) : TT w0 sb rb ab n B A g M2 M2 W' := by
  have hcur : ∃ cur, W.heap[ab]? = some (.cells cur 4 (0, 0)) := by
    rcases h.r.row.2 with ⟨hv, _⟩ | ⟨g', cap, cur, hv, _, hh, _⟩
    · injection hv with e _ _; cases e
    · injection hv with e _ _
      injection e with e
      injection e with e
      subst e
      exact ⟨cur, hh⟩
  obtain ⟨cur, hcur⟩ := hcur
  exact ⟨⟨h.s.b.trans (hb.mono hB), h.s.st.other hcur (fun k hk => ho k (fun b e => by injection e with e; injection e with e; omega)), h.s.base⟩, hn⟩
/-- Two lists of the same names are the same words. -/
theorem two_rows {W : World} {M : List Mb} {L : List Nat} {va va2 : Option Addr} {vc vc2 : Nat} (h1 : Row W va (nmC M L)) (h2 : Row W va2 (nmC M L)) (hl : L.length ≤ 1000) :
    Calls Try.prog 15 #[.slice va L.length vc, .slice va2 L.length vc2] W fun e w' => e = .returned (.bool true) ∧ Below W.heap.size W w' := by
  have h := words_any va va2 vc vc2 (nmL M L) (nmL M L) W h1 h2 (by rw [nmL_len]; omega)
  rw [same_words, nmL_len] at h
  exact h
end Go.Proofs.Ytahhhhacoigpmaa.SF

namespace Go.Proofs.Ytahhhhacoigpmaa.B
open Go
section
variable {P : Program} {ops : Array Oper} {Q : Exit → Act → World → Prop} {md : Region.Mode} {S : World → Prop} {z : Nat}
theorem anyT_firstU {i : Nat} {oi : Oper} {v : Value} (hz : ops.size ≤ z) (hi : ops[i]? = some oi) (hsel : ∀ (j : Nat) (o : Oper) cs b, ops[j]? = some o → o.op ≠ .select cs b)
    (hQ : ∀ c a w, Q (.panic c) (a.put oi.dst v) w → Q (.panic c) a w) :
    ∀ (fuel : Nat) (listed : Array Bool) (a : Act) (w : World),
      (∀ j oj, ops[j]? = some oj → j ≠ i → listed.getD j true = false → (∀ e ∈ oj.after, Region.binds md e = true → e.on ≠ i) → oi.apart ops oj = true) →
      i ∈ Region.ready md ops listed → YieldsIf P ops S oi v a → S w →
      wpAnyT P md ops Q S z fuel (listed.setIfInBounds i true) (a.put oi.dst v) w → wpAnyT P md ops Q S z (fuel + 1) listed a w
  | fuel, listed, a, w, hfree, hr, hy, hS, H => by
    refine ⟨fun h => (by rw [h] at hr; cases hr), fun j hj => ?_⟩
    by_cases hji : j = i
    · subst hji; exact hy.wpOp hi hS ⟨fun _ => hS, H⟩
    have hun := (mem_ready.1 hr).1
    cases fuel with
    | zero =>
      have := ready_mono hj hji
      rw [H.1] at this
      cases this
    | succ fuel =>
      have h1 := H.2 j (ready_mono hj hji)
      obtain ⟨hjun, oj, hoj, hall⟩ := mem_ready.1 hj
      have hnot : ∀ e ∈ oj.after, Region.binds md e = true → e.on ≠ i := fun e he hb heq => by
        have h2 := hall e he hb
        rw [heq, not_listed hun] at h2
        cases h2
      have hjz : j ≠ z := by
        have := (Array.getElem?_eq_some_iff.1 hoj).1
        omega
      have h2 := wpOp_putIf hoj (hfree j oj hoj hji hjun hnot) (fun cs b => hsel i oi cs b hi) (fun cs b => hsel j oj cs b hoj) hQ hy h1
      refine wpOp_mono (fun a' w' h3 => ⟨fun _ => h3.2.1 hjz, anyT_firstU hz hi hsel hQ fuel (listed.setIfInBounds j true) a' w' (fun k ok hk hki hun' hno => ?_) (ready_mono hr (Ne.symm hji)) h3.1 (h3.2.1 hjz) ?_⟩) h2
      · refine hfree k ok hk hki ?_ hno
        by_cases hjk : j = k
        · subst hjk; exact hjun
        · rw [getD_set_ne true hjk] at hun'; exact hun'
      · rw [Array.setIfInBounds_comm _ _ hji]
        exact h3.2.2
/-- Number i may be taken first, where each operation leaves what is read as it was. -/
theorem anyT_takeU {i : Nat} {oi : Oper} {v : Value} {fuel : Nat} {listed : Array Bool} {a : Act} {w : World} (hz : ops.size ≤ z) (hi : ops[i]? = some oi)
    (hs : Region.noSelect ops = true) (hf : Region.free md ops listed i = true) (hr : (Region.ready md ops listed).contains i = true)
    (hQ : ∀ c a w, Q (.panic c) (a.put oi.dst v) w → Q (.panic c) a w) (hS : S w) (hwant : Region.wanted oi (yielded ops a.tmps) = true) (hy : ∀ w, S w → (execOp a.eval oi).run P w = .ok (.value v) w)
    (h : wpAnyT P md ops Q S z fuel (listed.setIfInBounds i true) (a.put oi.dst v) w) : wpAnyT P md ops Q S z (fuel + 1) listed a w :=
  anyT_firstU hz hi (Region.noSelect_spec hs) hQ fuel listed a w (Region.free_spec hi hf) (by simpa using hr) (.inl ⟨hwant, hy⟩) hS h
end
end Go.Proofs.Ytahhhhacoigpmaa.B
