/-
  Contracts of the document's own Check and Right. (made by wip/tools/gen_rchk.py) Contract of the document's own Print (gen_tsc.py).
-/
import Derived.Test.YtjgcjnkeeiaafaaGreatDoorTcdb
import Derived.Test.YtjgcjnkeeiaafaaGreatDoorTcbg
import Derived.Test.YtjgcjnkeeiaafaaGreatDoorTccd
import Derived.Test.YtjgcjnkeeiaafaaGreatDoorTccb
import Derived.StillTailTactics
namespace Go.Proofs.YtjgcjnkeeiaafaaGreatDoor
open Go.RowKit Go.Shelf
/-- Nothing is wrong among the first of a part. -/
def fineB (f : Nat → Nat) (n : Nat) : Prop := ∀ j, j < n → f j = 0
theorem fine_more {f : Nat → Nat} {k : Nat} (h : fineB f k) (hk : f k = 0) : fineB f (k + 1) := by
  intro j hj
  by_cases e : j = k
  · rw [e]; exact hk
  · exact h j (by omega)
theorem tell_hit {f : Nat → Nat} {s : St} {part k n : Nat} (hs : s.2.2 = 0) (h : fineB f k) (hk : f k ≠ 0) (hn : k < n) : tellS s part f n = (part, k, f k) := by
  have h1 : tellL f (k + 1) = some (k, f k) := by
    rw [tellL, tellL_none.2 h]; simp only [if_neg hk]
  have h2 := tellL_more h1 (show k + 1 ≤ n from hn)
  unfold tellS; rw [if_pos hs, h2]
theorem tell_fine {f : Nat → Nat} {s : St} {part n : Nat} (hs : s.2.2 = 0) (h : fineB f n) : tellS s part f n = s := by
  unfold tellS; rw [if_pos hs, tellL_none.2 h]
theorem tell_bad {f : Nat → Nat} {s : St} {part n : Nat} (hs : s.2.2 ≠ 0) : tellS s part f n = s := by unfold tellS; rw [if_neg hs]
def chk0 (g : Gr) : St := tellS (0, 0, 0) 0 (fun _ => limitE g) 1
def chk1 (g : Gr) : St := tellS (chk0 g) 1 (groupE g) g.gs.length
def chk2 (g : Gr) : St := tellS (chk1 g) 2 (eventE g) g.es.length
def chk3 (g : Gr) : St := tellS (chk2 g) 3 (relE g) g.rs.length
theorem chk_eq (g : Gr) : checkL g = tellS (chk3 g) 4 (userE g) g.us.length := rfl
theorem chk0_ok {g : Gr} (h : limitE g = 0) : chk0 g = (0, 0, 0) := tell_fine rfl (fun _ _ => h)
theorem chk0_bad {g : Gr} (h : limitE g ≠ 0) : checkL g = (0, 0, limitE g) := by
  have h0 : chk0 g = (0, 0, limitE g) := tell_hit rfl (fun j hj => absurd hj (Nat.not_lt_zero _)) h (by omega)
  have h1 : chk1 g = (0, 0, limitE g) := by rw [chk1, h0]; exact tell_bad h
  have h2 : chk2 g = (0, 0, limitE g) := by rw [chk2, h1]; exact tell_bad h
  have h3 : chk3 g = (0, 0, limitE g) := by rw [chk3, h2]; exact tell_bad h
  rw [chk_eq, h3]; exact tell_bad h
theorem chk_gs {g : Gr} {k : Nat} (h0 : limitE g = 0) (h : fineB (groupE g) k) (hk : groupE g k ≠ 0) (hn : k < g.gs.length) : checkL g = (1, k, groupE g k) := by
  have h1 : chk1 g = (1, k, groupE g k) := by rw [chk1, chk0_ok h0]; exact tell_hit rfl h hk hn
  have h2 : chk2 g = (1, k, groupE g k) := by rw [chk2, h1]; exact tell_bad hk
  have h3 : chk3 g = (1, k, groupE g k) := by rw [chk3, h2]; exact tell_bad hk
  rw [chk_eq, h3]; exact tell_bad hk
theorem chk1_ok {g : Gr} (h0 : limitE g = 0) (h1 : fineB (groupE g) g.gs.length) : chk1 g = (0, 0, 0) := by rw [chk1, chk0_ok h0]; exact tell_fine rfl h1
theorem chk_es {g : Gr} {k : Nat} (h0 : chk1 g = (0, 0, 0)) (h : fineB (eventE g) k) (hk : eventE g k ≠ 0) (hn : k < g.es.length) : checkL g = (2, k, eventE g k) := by
  have h2 : chk2 g = (2, k, eventE g k) := by rw [chk2, h0]; exact tell_hit rfl h hk hn
  have h3 : chk3 g = (2, k, eventE g k) := by rw [chk3, h2]; exact tell_bad hk
  rw [chk_eq, h3]; exact tell_bad hk
theorem chk2_ok {g : Gr} (h0 : chk1 g = (0, 0, 0)) (h1 : fineB (eventE g) g.es.length) : chk2 g = (0, 0, 0) := by rw [chk2, h0]; exact tell_fine rfl h1
theorem chk_rs {g : Gr} {k : Nat} (h0 : chk2 g = (0, 0, 0)) (h : fineB (relE g) k) (hk : relE g k ≠ 0) (hn : k < g.rs.length) : checkL g = (3, k, relE g k) := by
  have h3 : chk3 g = (3, k, relE g k) := by rw [chk3, h0]; exact tell_hit rfl h hk hn
  rw [chk_eq, h3]; exact tell_bad hk
theorem chk3_ok {g : Gr} (h0 : chk2 g = (0, 0, 0)) (h1 : fineB (relE g) g.rs.length) : chk3 g = (0, 0, 0) := by rw [chk3, h0]; exact tell_fine rfl h1
theorem chk_us {g : Gr} {k : Nat} (h0 : chk3 g = (0, 0, 0)) (h : fineB (userE g) k) (hk : userE g k ≠ 0) (hn : k < g.us.length) : checkL g = (4, k, userE g k) := by
  rw [chk_eq, h0]; exact tell_hit rfl h hk hn
theorem chk_ok {g : Gr} (h0 : chk3 g = (0, 0, 0)) (h1 : fineB (userE g) g.us.length) : checkL g = (0, 0, 0) := by rw [chk_eq, h0]; exact tell_fine rfl h1
theorem lim_many {g : Gr} (h : 40 < g.gs.length ∨ 80 < g.es.length ∨ 300 < g.rs.length ∨ 40 < g.us.length) : limitE g = 4 := by
  unfold limitE
  by_cases a : 40 < g.gs.length
  · rw [if_pos a]
  rw [if_neg a]
  by_cases b : 80 < g.es.length
  · rw [if_pos b]
  rw [if_neg b]
  by_cases c : 300 < g.rs.length
  · rw [if_pos c]
  rw [if_neg c]
  by_cases d : 40 < g.us.length
  · rw [if_pos d]
  omega
theorem lim_role {g : Gr} {k : Nat} (hk : k < g.us.length) (h : 8 < g.us[k]!.roles.length) : limitE g = 4 := by
  have e : (g.us.any fun u => decide (8 < u.roles.length)) = true := List.any_eq_true.2 ⟨_, mem_at hk, by simpa using h⟩
  unfold limitE; rw [if_pos e]
  simp
theorem lim_ok {g : Gr} (h1 : ¬ 40 < g.gs.length) (h2 : ¬ 80 < g.es.length) (h3 : ¬ 300 < g.rs.length) (h4 : ¬ 40 < g.us.length) (h : ∀ k, k < g.us.length → ¬ 8 < g.us[k]!.roles.length) : limitE g = 0 := by
  have e : ¬ (g.us.any fun u => decide (8 < u.roles.length)) = true := by
    intro h5
    obtain ⟨u, hu, h6⟩ := List.any_eq_true.1 h5
    obtain ⟨k, hk, rfl⟩ := List.getElem_of_mem hu
    have := h k hk
    rw [getElem!_pos g.us k hk] at this
    exact this (by simpa using h6)
  unfold limitE
  rw [if_neg h1, if_neg h2, if_neg h3, if_neg h4, if_neg e]
theorem roles_more {g : Gr} {k : Nat} (h : ∀ j, j < k → ¬ 8 < g.us[j]!.roles.length) (hk : ¬ 8 < g.us[k]!.roles.length) : ∀ j, j < k + 1 → ¬ 8 < g.us[j]!.roles.length := by
  intro j hj
  by_cases e : j = k
  · rw [e]; exact hk
  · exact h j (by omega)
theorem code_pos {n : Nat} (h : n ≠ 0) : ((n : Int) != 0) = true := by rw [bne_iff_ne]; omega
/-- What Check answers, as a value. -/
def stV (s : St) : Value := .tuple #[.int .i64 s.1, .int .i64 s.2.1, .int .i64 s.2.2]
/-- The argument's box, and all that came in, stand as they did. -/
abbrev GX (w : World) (g : Gr) (W : World) : Prop := Below (w.heap.size + 1) (boxW w g) W
theorem gx_old {w W : World} {g : Gr} (h : GX w g W) : Below w.heap.size w W := (box_below w g).trans (h.mono (by omega))
theorem gx_more {w w1 w2 : World} {g : Gr} (h1 : GX w g w1) (h2 : Below w1.heap.size w1 w2) : GX w g w2 := h1.trans (h2.mono (by have := h1.size; rw [box_size] at this; exact this))
theorem gx_start (w : World) (g : Gr) : GX w g (boxW w g) := Below.refl _ _
set_option maxRecDepth 100000 in
set_option maxHeartbeats 8000000 in
theorem rcheck_any (w : World) (g : Gr) (hI : InG w g) (hz : SzG g) :
    Calls Tryz.prog 18 #[.agg #[.slice g.ga g.gs.length g.gc, .slice g.ea g.es.length g.ec, .slice g.ra g.rs.length g.rc, .slice g.ua g.us.length g.uc]] w fun e w' => e = .returned (stV (checkL g)) ∧ Below w.heap.size w w' := by
  have HI := Lib.hid hI
  have HZ := Lib.hid hz
  have z1 := hz.gs
  have z2 := hz.es
  have z3 := hz.rs
  have z4 := hz.us
  have X0 := Lib.hid (gx_start w g)
  obtain ⟨a0, a1, a2, a3⟩ := box_cells X0.out
  clear hI hz
  unfold boxW at a0 a1 a2 a3
  by_cases c1 : 40 < g.gs.length
  · have HL := Lib.hid (lim_many (g := g) (.inl c1))
    have HF := Lib.hid (chk0_bad (g := g) (by rw [HL.out]; decide))
    go_enter Tryz.func18, Tryz.ntmps18
    go_wp2_with fail
    go_ret3
    exact ⟨by rw [HF.out, HL.out]; rfl, gx_old X0.out⟩
  by_cases c2 : 80 < g.es.length
  · have HL := Lib.hid (lim_many (g := g) (.inr (.inl c2)))
    have HF := Lib.hid (chk0_bad (g := g) (by rw [HL.out]; decide))
    go_enter Tryz.func18, Tryz.ntmps18
    go_wp2_with fail
    go_ret3
    exact ⟨by rw [HF.out, HL.out]; rfl, gx_old X0.out⟩
  by_cases c3 : 300 < g.rs.length
  · have HL := Lib.hid (lim_many (g := g) (.inr (.inr (.inl c3))))
    have HF := Lib.hid (chk0_bad (g := g) (by rw [HL.out]; decide))
    go_enter Tryz.func18, Tryz.ntmps18
    go_wp2_with fail
    go_ret3
    exact ⟨by rw [HF.out, HL.out]; rfl, gx_old X0.out⟩
  by_cases c4 : 40 < g.us.length
  · have HL := Lib.hid (lim_many (g := g) (.inr (.inr (.inr c4))))
    have HF := Lib.hid (chk0_bad (g := g) (by rw [HL.out]; decide))
    go_enter Tryz.func18, Tryz.ntmps18
    go_wp2_with fail
    go_ret3
    exact ⟨by rw [HF.out, HL.out]; rfl, gx_old X0.out⟩
  go_enter Tryz.func18, Tryz.ntmps18
  go_wp2_with fail
  clear a0 a1 a2 a3
  go_loopw [5] (fun i wr => ∃ k : Nat, k ≤ g.us.length ∧ i = .int .i64 k ∧ Hid (∀ j, j < k → ¬ 8 < g.us[j]!.roles.length) ∧ Hid (GX w g wr)) (fun i _ => g.us.length - (intOf i).toNat)
  case atStart => exact ⟨0, Nat.zero_le _, rfl, Lib.hid (fun j hj => absurd hj (Nat.not_lt_zero _)), X0⟩
  case round =>
    clear X0
    obtain ⟨k, hk, rfl, HR, HX⟩ := hrel
    obtain ⟨a0, a1, a2, a3⟩ := box_cells HX.out
    by_cases hlt : k < g.us.length
    · obtain ⟨b, off, hA, hb, hc⟩ := HI.out.us.at_ (k := 3) (fun _ => rfl) (by omega) hlt
      have k1 := hc 1 _ rfl
      rw [← (gx_old HX.out).cell (p := ⟨b, _, none⟩) hb] at k1
      rw [hA] at a3
      have hk0 : (0 : Int) ≤ (k : Int) := Int.natCast_nonneg _
      have hk1 : (k : Int) < (g.us.length : Int) := by omega
      have hzr := (HZ.out.ur _ (mem_at hlt)).2.2.1
      clear hc hA
      by_cases h8 : 8 < g.us[k]!.roles.length
      · have HL := Lib.hid (lim_role hlt h8)
        have HF := Lib.hid (chk0_bad (g := g) (by rw [HL.out]; decide))
        clear HR
        generalize g.us[k]! = p at *
        go_wp2_with fail
        go_ret3
        exact ⟨by rw [HF.out, HL.out]; rfl, gx_old HX.out⟩
      · have HR' := Lib.hid (roles_more HR.out h8)
        clear HR
        generalize g.us[k]! = p at *
        go_wp2_with fail
        go_roundw
        case rel => exact ⟨k + 1, hlt, by go_num, HR', HX⟩
        case measure => simp [intOf]; omega
    · obtain rfl : k = g.us.length := by omega
      have HL := Lib.hid (lim_ok c1 c2 c3 c4 HR.out)
      clear HR hk hlt
      go_wp2_with fail
      clear a0 a1 a2 a3
      go_loopw [6] (fun i wr => ∃ k : Nat, k ≤ g.gs.length ∧ i = .int .i64 k ∧ Hid (fineB (groupE g) k) ∧ Hid (GX w g wr)) (fun i _ => g.gs.length - (intOf i).toNat)
      case atStart => exact ⟨0, Nat.zero_le _, rfl, Lib.hid (fun j hj => absurd hj (Nat.not_lt_zero _)), HX⟩
      case round =>
        clear HX
        obtain ⟨k, hk, rfl, HN, HX⟩ := hrel
        obtain ⟨a0, a1, a2, a3⟩ := box_cells HX.out
        by_cases hlt : k < g.gs.length
        · have hk0 : (0 : Int) ≤ (k : Int) := Int.natCast_nonneg _
          have hk1 : (k : Int) < (g.gs.length : Int) := by omega
          have C := Lib.hid (rgroup_any wr g k (HI.out.below (Nat.le_refl _) (gx_old HX.out)) HZ.out hlt)
          by_cases hq : groupE g k = 0
          · have HN' := Lib.hid (fine_more HN.out hq)
            rw [hq] at C
            clear hq HN
            go_wp2_with fail
            refine C.out.mono ?_
            rintro e w1 ⟨rfl, hb1⟩
            have HX1 := Lib.hid (gx_more HX.out hb1)
            clear hb1 a0 a1 a2 a3
            go_wp2_with fail
            go_roundw
            case rel => exact ⟨k + 1, hlt, by go_num, HN', HX1⟩
            case measure => simp [intOf]; omega
          · have HF := Lib.hid (chk_gs HL.out HN.out hq hlt)
            have ht := code_pos hq
            clear hq HN
            generalize groupE g k = q at *
            go_wp2_with fail
            refine C.out.mono ?_
            rintro e w1 ⟨rfl, hb1⟩
            have HX1 := Lib.hid (gx_more HX.out hb1)
            go_wp2_with fail
            go_ret3
            exact ⟨by rw [HF.out]; rfl, gx_old HX1.out⟩
        · obtain rfl : k = g.gs.length := by omega
          have HK := Lib.hid (chk1_ok HL.out HN.out)
          clear HN hk hlt
          go_wp2_with fail
          clear a0 a1 a2 a3
          go_loopw [8] (fun i wr => ∃ k : Nat, k ≤ g.es.length ∧ i = .int .i64 k ∧ Hid (fineB (eventE g) k) ∧ Hid (GX w g wr)) (fun i _ => g.es.length - (intOf i).toNat)
          case atStart => exact ⟨0, Nat.zero_le _, rfl, Lib.hid (fun j hj => absurd hj (Nat.not_lt_zero _)), HX⟩
          case round =>
            clear HX
            obtain ⟨k, hk, rfl, HN, HX⟩ := hrel
            obtain ⟨a0, a1, a2, a3⟩ := box_cells HX.out
            by_cases hlt : k < g.es.length
            · have hk0 : (0 : Int) ≤ (k : Int) := Int.natCast_nonneg _
              have hk1 : (k : Int) < (g.es.length : Int) := by omega
              have C := Lib.hid (revent_any wr g k (HI.out.below (Nat.le_refl _) (gx_old HX.out)) HZ.out hlt)
              by_cases hq : eventE g k = 0
              · have HN' := Lib.hid (fine_more HN.out hq)
                rw [hq] at C
                clear hq HN
                go_wp2_with fail
                refine C.out.mono ?_
                rintro e w1 ⟨rfl, hb1⟩
                have HX1 := Lib.hid (gx_more HX.out hb1)
                clear hb1 a0 a1 a2 a3
                go_wp2_with fail
                go_roundw
                case rel => exact ⟨k + 1, hlt, by go_num, HN', HX1⟩
                case measure => simp [intOf]; omega
              · have HF := Lib.hid (chk_es HK.out HN.out hq hlt)
                have ht := code_pos hq
                clear hq HN
                generalize eventE g k = q at *
                go_wp2_with fail
                refine C.out.mono ?_
                rintro e w1 ⟨rfl, hb1⟩
                have HX1 := Lib.hid (gx_more HX.out hb1)
                go_wp2_with fail
                go_ret3
                exact ⟨by rw [HF.out]; rfl, gx_old HX1.out⟩
            · obtain rfl : k = g.es.length := by omega
              have HK := Lib.hid (chk2_ok HK.out HN.out)
              clear HN hk hlt
              go_wp2_with fail
              clear a0 a1 a2 a3
              go_loopw [10] (fun i wr => ∃ k : Nat, k ≤ g.rs.length ∧ i = .int .i64 k ∧ Hid (fineB (relE g) k) ∧ Hid (GX w g wr)) (fun i _ => g.rs.length - (intOf i).toNat)
              case atStart => exact ⟨0, Nat.zero_le _, rfl, Lib.hid (fun j hj => absurd hj (Nat.not_lt_zero _)), HX⟩
              case round =>
                clear HX
                obtain ⟨k, hk, rfl, HN, HX⟩ := hrel
                obtain ⟨a0, a1, a2, a3⟩ := box_cells HX.out
                by_cases hlt : k < g.rs.length
                · have hk0 : (0 : Int) ≤ (k : Int) := Int.natCast_nonneg _
                  have hk1 : (k : Int) < (g.rs.length : Int) := by omega
                  have C := Lib.hid (rrel_any wr g k (HI.out.below (Nat.le_refl _) (gx_old HX.out)) HZ.out hlt)
                  by_cases hq : relE g k = 0
                  · have HN' := Lib.hid (fine_more HN.out hq)
                    rw [hq] at C
                    clear hq HN
                    go_wp2_with fail
                    refine C.out.mono ?_
                    rintro e w1 ⟨rfl, hb1⟩
                    have HX1 := Lib.hid (gx_more HX.out hb1)
                    clear hb1 a0 a1 a2 a3
                    go_wp2_with fail
                    go_roundw
                    case rel => exact ⟨k + 1, hlt, by go_num, HN', HX1⟩
                    case measure => simp [intOf]; omega
                  · have HF := Lib.hid (chk_rs HK.out HN.out hq hlt)
                    have ht := code_pos hq
                    clear hq HN
                    generalize relE g k = q at *
                    go_wp2_with fail
                    refine C.out.mono ?_
                    rintro e w1 ⟨rfl, hb1⟩
                    have HX1 := Lib.hid (gx_more HX.out hb1)
                    go_wp2_with fail
                    go_ret3
                    exact ⟨by rw [HF.out]; rfl, gx_old HX1.out⟩
                · obtain rfl : k = g.rs.length := by omega
                  have HK := Lib.hid (chk3_ok HK.out HN.out)
                  clear HN hk hlt
                  go_wp2_with fail
                  clear a0 a1 a2 a3
                  go_loopw [12] (fun i wr => ∃ k : Nat, k ≤ g.us.length ∧ i = .int .i64 k ∧ Hid (fineB (userE g) k) ∧ Hid (GX w g wr)) (fun i _ => g.us.length - (intOf i).toNat)
                  case atStart => exact ⟨0, Nat.zero_le _, rfl, Lib.hid (fun j hj => absurd hj (Nat.not_lt_zero _)), HX⟩
                  case round =>
                    clear HX
                    obtain ⟨k, hk, rfl, HN, HX⟩ := hrel
                    obtain ⟨a0, a1, a2, a3⟩ := box_cells HX.out
                    by_cases hlt : k < g.us.length
                    · have hk0 : (0 : Int) ≤ (k : Int) := Int.natCast_nonneg _
                      have hk1 : (k : Int) < (g.us.length : Int) := by omega
                      have C := Lib.hid (ruser_any wr g k (HI.out.below (Nat.le_refl _) (gx_old HX.out)) HZ.out hlt)
                      by_cases hq : userE g k = 0
                      · have HN' := Lib.hid (fine_more HN.out hq)
                        rw [hq] at C
                        clear hq HN
                        go_wp2_with fail
                        refine C.out.mono ?_
                        rintro e w1 ⟨rfl, hb1⟩
                        have HX1 := Lib.hid (gx_more HX.out hb1)
                        clear hb1 a0 a1 a2 a3
                        go_wp2_with fail
                        go_roundw
                        case rel => exact ⟨k + 1, hlt, by go_num, HN', HX1⟩
                        case measure => simp [intOf]; omega
                      · have HF := Lib.hid (chk_us HK.out HN.out hq hlt)
                        have ht := code_pos hq
                        clear hq HN
                        generalize userE g k = q at *
                        go_wp2_with fail
                        refine C.out.mono ?_
                        rintro e w1 ⟨rfl, hb1⟩
                        have HX1 := Lib.hid (gx_more HX.out hb1)
                        go_wp2_with fail
                        go_ret3
                        exact ⟨by rw [HF.out]; rfl, gx_old HX1.out⟩
                    · obtain rfl : k = g.us.length := by omega
                      have HF := Lib.hid (chk_ok HK.out HN.out)
                      clear HN hk hlt
                      go_wp2_with fail
                      go_ret3
                      exact ⟨by rw [HF.out]; rfl, gx_old HX.out⟩
end Go.Proofs.YtjgcjnkeeiaafaaGreatDoor

namespace Go.Proofs.YtjgcjnkeeiaafaaGreatDoor.P3.L
open Go.RowKit Go.Shelf Go.Proofs.YtjgcjnkeeiaafaaGreatDoor Go.Proofs.YtjgcjnkeeiaafaaGreatDoor.P3 Go.Proofs.YtjgcjnkeeiaafaaGreatDoor.P3.C
/-- The text of the first lines. -/
def LB (L : List (List (List UInt8))) (j : Nat) : List UInt8 := (L.take j).flatMap lineB
theorem dl (s : ByteArray) : s.toList = s.data.toList := Lib.toList_data s
def timeS (x : Rl) : List UInt8 := if x.time = untB x.kind then [] else 32 :: digL x.time.toNat
def rolesS (l : List ByteArray) : List UInt8 := l.flatMap fun s => 32 :: s.data.toList
theorem kind_cases {n : Nat} (h : n < 6) (h1 : (1 : Int) ≤ n) : n = 1 ∨ n = 2 ∨ n = 3 ∨ n = 4 ∨ n = 5 := by omega
theorem kw_at (k : Int) (h1 : 1 ≤ k) (h5 : k ≤ 5) : ∃ (n : Nat) (s : ByteArray), k = n ∧ n < 6 ∧ (#[.string ⟨#[]⟩, .string ⟨#[99, 111, 110, 100, 105, 116, 105, 111, 110]⟩, .string ⟨#[114, 101, 115, 112, 111, 110, 115, 101]⟩, .string ⟨#[105, 110, 99, 108, 117, 100, 101]⟩, .string ⟨#[101, 120, 99, 108, 117, 100, 101]⟩, .string ⟨#[109, 105, 108, 101, 115, 116, 111, 110, 101]⟩] : Array Value)[n]? = some (.string s) ∧ s.data.toList = kwB k ∧ s.size ≤ 9 := by
  obtain ⟨n, rfl⟩ : ∃ n : Nat, k = n := ⟨k.toNat, by omega⟩
  match n, h1, h5 with
  | 0, h, _ => exact absurd h (by decide)
  | 1, _, _ => exact ⟨1, _, rfl, by decide, rfl, rfl, by decide⟩
  | 2, _, _ => exact ⟨2, _, rfl, by decide, rfl, rfl, by decide⟩
  | 3, _, _ => exact ⟨3, _, rfl, by decide, rfl, rfl, by decide⟩
  | 4, _, _ => exact ⟨4, _, rfl, by decide, rfl, rfl, by decide⟩
  | 5, _, _ => exact ⟨5, _, rfl, by decide, rfl, rfl, by decide⟩
  | n + 6, _, h => omega
/-- The words of relations. -/
abbrev kwO : Obj := .cells #[.string ⟨#[]⟩, .string ⟨#[99, 111, 110, 100, 105, 116, 105, 111, 110]⟩, .string ⟨#[114, 101, 115, 112, 111, 110, 115, 101]⟩, .string ⟨#[105, 110, 99, 108, 117, 100, 101]⟩, .string ⟨#[101, 120, 99, 108, 117, 100, 101]⟩, .string ⟨#[109, 105, 108, 101, 115, 116, 111, 110, 101]⟩] 9 (0, 0)
end Go.Proofs.YtjgcjnkeeiaafaaGreatDoor.P3.L
