/-
  Contracts of text's untold, kindWord, and of a statement's due, time, kind. Contract of a statement's kind.
-/
import Derived.Test.YtjgcjnkeeiaafaaGreatDoorTcae
import Derived.Deep.DeepCutAuto
namespace Go.Proofs.YtjgcjnkeeiaafaaGreatDoor.P3.C
open Go.RowKit Go.Shelf Go.Proofs.YtjgcjnkeeiaafaaGreatDoor.B Go.Proofs.YtjgcjnkeeiaafaaGreatDoor.Lx Go.Proofs.YtjgcjnkeeiaafaaGreatDoor.P3
theorem ret_i64 {a b : Int} (h : a = b) : Ending.returned (.int .i64 a) = .returned (.int .i64 b) := by rw [h]
set_option maxHeartbeats 1000000 in
theorem untold_any (k : Int) (w : World) : Calls Tryz.prog 51 #[.int .i64 k] w fun e w' => e = .returned (.int .i64 (untB k)) ∧ w' = w := by
  by_cases h : k = 2
  · subst h
    go_enter Tryz.func51, Tryz.ntmps51
    go_wp2_with fail
    go_ret
    exact ⟨rfl, rfl⟩
  · have hq : (k == 2) = false := by rw [beq_eq_false_iff_ne]; exact h
    have HU : Hid (untB k = 0) := Lib.hid (by unfold untB; rw [if_neg h])
    clear h
    go_enter Tryz.func51, Tryz.ntmps51
    go_wp2_with fail
    go_ret
    exact ⟨ret_i64 HU.out.symm, rfl⟩
set_option maxHeartbeats 1000000 in
theorem kindWord_any (k : Int) (w : World) : Calls Tryz.prog 50 #[.int .i64 k] w fun e w' => e = .returned (.string ⟨(kwB k).toArray⟩) ∧ w' = w := by
  by_cases h1 : k = 1
  · subst h1
    go_enter Tryz.func50, Tryz.ntmps50
    go_wp2_with fail
    go_ret
    exact ⟨rfl, rfl⟩
  · by_cases h2 : k = 2
    · subst h2
      clear h1
      go_enter Tryz.func50, Tryz.ntmps50
      go_wp2_with fail
      go_ret
      exact ⟨rfl, rfl⟩
    · by_cases h3 : k = 3
      · subst h3
        clear h1 h2
        go_enter Tryz.func50, Tryz.ntmps50
        go_wp2_with fail
        go_ret
        exact ⟨rfl, rfl⟩
      · by_cases h4 : k = 4
        · subst h4
          clear h1 h2 h3
          go_enter Tryz.func50, Tryz.ntmps50
          go_wp2_with fail
          go_ret
          exact ⟨rfl, rfl⟩
        · have q1 : (k == 1) = false := by rw [beq_eq_false_iff_ne]; exact h1
          have q2 : (k == 2) = false := by rw [beq_eq_false_iff_ne]; exact h2
          have q3 : (k == 3) = false := by rw [beq_eq_false_iff_ne]; exact h3
          have q4 : (k == 4) = false := by rw [beq_eq_false_iff_ne]; exact h4
          have HU : Hid (kwB k = [109, 105, 108, 101, 115, 116, 111, 110, 101]) := Lib.hid (by unfold kwB; rw [if_neg h1, if_neg h2, if_neg h3, if_neg h4])
          clear h1 h2 h3 h4
          go_enter Tryz.func50, Tryz.ntmps50
          go_wp2_with fail
          go_ret
          exact ⟨by rw [HU.out]; rfl, rfl⟩
theorem kw_of (l : List UInt8) : (⟨l.toArray⟩ : ByteArray).toList = l := txt_list l
section
variable {W0 W : World} {b : Nat} {A : Option Addr} {c : Nat} {T : List Tok} {s : RS} {x0 x1 x2 x3 : Value}
set_option maxHeartbeats 2000000 in
theorem due_any (h : RD W0 b A c T s x0 x1 x2 x3 W) (hR : Row W0 A (rowC T)) (hT : T.length ≤ 1000000) :
    Calls Tryz.prog 99 #[.pointer (some ⟨b, 0, none⟩)] W (MP W0 b A c T (.int .i64 (dueV (T.map bare) s)) (dueS (T.map bare) s) x0 x1 x2 x3 W) := by
  have HM := Lib.hid (may_any h hR hT ⟨#[112, 101, 110, 100, 105, 110, 103]⟩ kPend (kw_of _) (by decide))
  have HD := Lib.hid (fun (W1 : World) (s1 : RS) (h1 : RD W0 b A c T s1 x0 x1 x2 x3 W1) => may_any h1 hR hT ⟨#[100, 117, 101]⟩ kDue (kw_of _) (by decide))
  have HN := Lib.hid (fun (W1 : World) (s1 : RS) (h1 : RD W0 b A c T s1 x0 x1 x2 x3 W1) => number_any h1 hR hT)
  clear h hR
  cases hp : seeB (T.map bare) kPend s with
  | true =>
    have HV : Hid (dueV (T.map bare) s = 1048576) := Lib.hid (by unfold dueV; rw [if_pos hp])
    have HS : Hid (mayS (T.map bare) kPend s = dueS (T.map bare) s) := Lib.hid (by unfold dueS; rw [if_pos hp])
    rw [hp, HS.out] at HM
    clear hp HD HN HS
    go_enter Tryz.func99, Tryz.ntmps99
    go_wp2_with fail
    refine HM.out.mono ?_
    rintro e w1 ⟨rfl, h1, g1⟩
    have H1 := Lib.hid h1
    have G1 := Lib.hid g1
    clear h1 g1 HM
    go_wp2_with fail
    go_ret
    exact ⟨ret_i64 HV.out.symm, H1.out, G1.out⟩
  | false =>
    rw [hp, may_no hp] at HM
    cases hd : seeB (T.map bare) kDue s with
    | true =>
      have HV : Hid (dueV (T.map bare) s = ((takN (T.map bare) [100] (mayS (T.map bare) kDue s) : Nat) : Int)) := Lib.hid (by unfold dueV; rw [hp, hd]; rfl)
      have HS : Hid (mustS (T.map bare) [100] (mayS (T.map bare) kDue s) = dueS (T.map bare) s) := Lib.hid (by unfold dueS; rw [hp, hd]; rfl)
      have HQ := Lib.hid hd
      clear hp hd
      go_enter Tryz.func99, Tryz.ntmps99
      go_wp2_with fail
      refine HM.out.mono ?_
      rintro e w1 ⟨rfl, h1, g1⟩
      have G1 := Lib.hid g1
      have HC := HD.out w1 s h1
      rw [HQ.out] at HC
      have HC2 := Lib.hid HC
      clear h1 g1 HM HD HC
      go_wp2_with fail
      refine HC2.out.mono ?_
      rintro e w2 ⟨rfl, h2, g2⟩
      have G2 := Lib.hid (G1.out.trans g2)
      have HC := HN.out w2 _ h2
      rw [HS.out, ← HV.out] at HC
      have HC3 := Lib.hid HC
      clear h2 g2 HC2 HN HC G1 HV
      go_wp2_with fail
      refine HC3.out.mono ?_
      rintro e w3 ⟨rfl, h3, g3⟩
      have H3 := Lib.hid h3
      have G3 := Lib.hid (G2.out.trans g3)
      clear h3 g3 HC3 G2
      go_wp2_with fail
      go_ret
      exact ⟨rfl, H3.out, G3.out⟩
    | false =>
      have HV : Hid (dueV (T.map bare) s = -1) := Lib.hid (by unfold dueV; rw [hp, hd]; rfl)
      have HS : Hid (dueS (T.map bare) s = s) := Lib.hid (by unfold dueS; rw [hp, hd]; rfl)
      have HQ := Lib.hid hd
      clear hp hd HN
      go_enter Tryz.func99, Tryz.ntmps99
      go_wp2_with fail
      refine HM.out.mono ?_
      rintro e w1 ⟨rfl, h1, g1⟩
      have G1 := Lib.hid g1
      have HC := HD.out w1 s h1
      rw [HQ.out, may_no HQ.out, ← HS.out] at HC
      have HC2 := Lib.hid HC
      clear h1 g1 HM HD HC
      go_wp2_with fail
      refine HC2.out.mono ?_
      rintro e w2 ⟨rfl, h2, g2⟩
      have H2 := Lib.hid h2
      have G2 := Lib.hid (G1.out.trans g2)
      clear h2 g2 HC2 G1
      go_wp2_with fail
      go_ret
      exact ⟨ret_i64 HV.out.symm, H2.out, G2.out⟩
set_option maxHeartbeats 2000000 in
theorem time_any (h : RD W0 b A c T s x0 x1 x2 x3 W) (hR : Row W0 A (rowC T)) (hT : T.length ≤ 1000000) (k : Int) :
    Calls Tryz.prog 102 #[.pointer (some ⟨b, 0, none⟩), .int .i64 k] W (MP W0 b A c T (.int .i64 (timeV (T.map bare) k s)) (timeS (T.map bare) k s) x0 x1 x2 x3 W) := by
  have HM := Lib.hid (mayNumber_any h hR hT)
  have H := Lib.hid h
  have HUT := Lib.hid (untold_any k)
  clear h hR
  by_cases hk : k = 1 ∨ k = 2
  · have hor : (k == 1) = true ∨ ((k == 1) = false ∧ (k == 2) = true) := by
      by_cases e : k = 1
      · exact .inl (beq_iff_eq.2 e)
      · exact .inr ⟨beq_eq_false_iff_ne.2 e, beq_iff_eq.2 (hk.resolve_left e)⟩
    have HS : Hid (mayS (T.map bare) [100] s = timeS (T.map bare) k s) := Lib.hid (by unfold timeS; rw [if_pos hk])
    rw [HS.out] at HM
    cases hq : seeB (T.map bare) [100] s with
    | true =>
      have HV : Hid (timeV (T.map bare) k s = ((takN (T.map bare) [100] s : Nat) : Int)) := Lib.hid (by unfold timeV; rw [if_pos ⟨hk, hq⟩])
      rw [hq, ← HV.out] at HM
      clear hq hk HS HUT HV
      rcases hor with h1 | ⟨h1, h2⟩
      all_goals
        go_enter Tryz.func102, Tryz.ntmps102
        go_wp2_with fail
        refine HM.out.mono ?_
        rintro e w1 ⟨rfl, h1, g1⟩
        have H1 := Lib.hid h1
        have G1 := Lib.hid g1
        clear h1 g1 HM
        go_wp2_with fail
        go_ret
        exact ⟨rfl, H1.out, G1.out⟩
    | false =>
      have HV : Hid (timeV (T.map bare) k s = untB k) := Lib.hid (by unfold timeV; rw [if_neg (fun h => by rw [hq] at h; cases h.2)])
      rw [hq] at HM
      clear hq hk HS
      generalize ((takN (T.map bare) [100] s : Nat) : Int) = tn at *
      rcases hor with h1 | ⟨h1, h2⟩
      all_goals
        go_enter Tryz.func102, Tryz.ntmps102
        go_wp2_with fail
        refine HM.out.mono ?_
        rintro e w1 ⟨rfl, h1, g1⟩
        have H1 := Lib.hid h1
        have G1 := Lib.hid g1
        clear h1 g1 HM
        go_wp2_with fail
        refine (HUT.out w1).mono ?_
        rintro e w2 ⟨rfl, hw⟩
        obtain rfl := hw
        clear HUT
        go_wp2_with fail
        go_ret
        exact ⟨ret_i64 HV.out.symm, H1.out, G1.out⟩
  · have q1 : (k == 1) = false := beq_eq_false_iff_ne.2 (fun e => hk (.inl e))
    have q2 : (k == 2) = false := beq_eq_false_iff_ne.2 (fun e => hk (.inr e))
    have HS : Hid (timeS (T.map bare) k s = s) := Lib.hid (by unfold timeS; rw [if_neg hk])
    have HV : Hid (timeV (T.map bare) k s = untB k) := Lib.hid (by unfold timeV; rw [if_neg (fun h => hk h.1)])
    rw [← HS.out] at H
    clear hk HM
    go_enter Tryz.func102, Tryz.ntmps102
    go_wp2_with fail
    refine (HUT.out W).mono ?_
    rintro e w2 ⟨rfl, hw⟩
    obtain rfl := hw
    clear HUT
    go_wp2_with fail
    go_ret
    exact ⟨ret_i64 HV.out.symm, H.out, World.grownBy.refl _ _⟩
end
end Go.Proofs.YtjgcjnkeeiaafaaGreatDoor.P3.C

namespace Go.Proofs.YtjgcjnkeeiaafaaGreatDoor.P3.C
open Go.RowKit Go.Shelf Go.Proofs.YtjgcjnkeeiaafaaGreatDoor.B Go.Proofs.YtjgcjnkeeiaafaaGreatDoor.Lx Go.Proofs.YtjgcjnkeeiaafaaGreatDoor.P3
theorem kind_hit {l : List B3} {s : RS} {k : Nat} (h1 : 1 ≤ k) (h5 : k ≤ 5) (hm : ∀ j : Nat, 1 ≤ j → j < k → seeB l (kwB (j : Int)) s = false) (h : seeB l (kwB (k : Int)) s = true) : kindV l s = (k : Int) ∧ kindS l s = mayS l (kwB (k : Int)) s := by
  have hV : kindV l s = (k : Int) := by
    unfold kindV
    obtain rfl | rfl | rfl | rfl | rfl : k = 1 ∨ k = 2 ∨ k = 3 ∨ k = 4 ∨ k = 5 := by omega
    · rw [show ((1 : Nat) : Int) = 1 from rfl] at h; rw [h]; rfl
    · have m1 := hm 1 (by omega) (by omega)
      rw [show ((1 : Nat) : Int) = 1 from rfl] at m1; rw [show ((2 : Nat) : Int) = 2 from rfl] at h
      rw [m1, h]; rfl
    · have m1 := hm 1 (by omega) (by omega)
      have m2 := hm 2 (by omega) (by omega)
      rw [show ((1 : Nat) : Int) = 1 from rfl] at m1; rw [show ((2 : Nat) : Int) = 2 from rfl] at m2; rw [show ((3 : Nat) : Int) = 3 from rfl] at h
      rw [m1, m2, h]; rfl
    · have m1 := hm 1 (by omega) (by omega)
      have m2 := hm 2 (by omega) (by omega)
      have m3 := hm 3 (by omega) (by omega)
      rw [show ((1 : Nat) : Int) = 1 from rfl] at m1; rw [show ((2 : Nat) : Int) = 2 from rfl] at m2; rw [show ((3 : Nat) : Int) = 3 from rfl] at m3; rw [show ((4 : Nat) : Int) = 4 from rfl] at h
      rw [m1, m2, m3, h]; rfl
    · have m1 := hm 1 (by omega) (by omega)
      have m2 := hm 2 (by omega) (by omega)
      have m3 := hm 3 (by omega) (by omega)
      have m4 := hm 4 (by omega) (by omega)
      rw [show ((1 : Nat) : Int) = 1 from rfl] at m1; rw [show ((2 : Nat) : Int) = 2 from rfl] at m2; rw [show ((3 : Nat) : Int) = 3 from rfl] at m3; rw [show ((4 : Nat) : Int) = 4 from rfl] at m4; rw [show ((5 : Nat) : Int) = 5 from rfl] at h
      rw [m1, m2, m3, m4, h]; rfl
  refine ⟨hV, ?_⟩
  unfold kindS
  rw [hV, if_neg (by omega), may_yes h]
theorem kind_miss {l : List B3} {s : RS} (hm : ∀ j : Nat, 1 ≤ j → j < 6 → seeB l (kwB (j : Int)) s = false) : kindV l s = 0 ∧ kindS l s = (s.1, true) := by
  have hV : kindV l s = 0 := by
    have m1 := hm 1 (by omega) (by omega)
    have m2 := hm 2 (by omega) (by omega)
    have m3 := hm 3 (by omega) (by omega)
    have m4 := hm 4 (by omega) (by omega)
    have m5 := hm 5 (by omega) (by omega)
    rw [show ((1 : Nat) : Int) = 1 from rfl] at m1; rw [show ((2 : Nat) : Int) = 2 from rfl] at m2; rw [show ((3 : Nat) : Int) = 3 from rfl] at m3; rw [show ((4 : Nat) : Int) = 4 from rfl] at m4; rw [show ((5 : Nat) : Int) = 5 from rfl] at m5
    unfold kindV
    rw [m1, m2, m3, m4, m5]; rfl
  refine ⟨hV, ?_⟩
  unfold kindS
  rw [hV, if_pos rfl]
section
variable {W0 W : World} {b : Nat} {A : Option Addr} {c : Nat} {T : List Tok} {s : RS} {x0 x1 x2 x3 : Value}
set_option maxRecDepth 100000 in
set_option maxHeartbeats 4000000 in
theorem kind_any (h : RD W0 b A c T s x0 x1 x2 x3 W) (hR : Row W0 A (rowC T)) (hT : T.length ≤ 1000000) :
    Calls Tryz.prog 101 #[.pointer (some ⟨b, 0, none⟩)] W (MP W0 b A c T (.int .i64 (kindV (T.map bare) s)) (kindS (T.map bare) s) x0 x1 x2 x3 W) := by
  have H0 := Lib.hid h
  have HM := Lib.hid (fun (W1 : World) (h1 : RD W0 b A c T s x0 x1 x2 x3 W1) (k : Int) => may_any h1 hR hT ⟨(kwB k).toArray⟩ (kwB k) (kw_of _) (kwB_in k))
  have HF := Lib.hid (fun (W1 : World) (h1 : RD W0 b A c T s x0 x1 x2 x3 W1) => must_any h1 false)
  clear h hR
  go_enter Tryz.func101, Tryz.ntmps101
  go_wp2_with fail
  go_loopw [3] (fun i wr => ∃ k : Nat, 1 ≤ k ∧ k ≤ 6 ∧ i = .int .i64 k ∧ Hid (∀ j : Nat, 1 ≤ j → j < k → seeB (T.map bare) (kwB (j : Int)) s = false) ∧ Hid (RD W0 b A c T s x0 x1 x2 x3 wr) ∧ Hid (W.grownBy wr (some b))) (fun i _ => 6 - (intOf i).toNat)
  case atStart => exact ⟨1, Nat.le_refl _, by omega, rfl, Lib.hid (fun j h1 h2 => by omega), H0, Lib.hid (World.grownBy.refl _ _)⟩
  case round =>
    clear H0
    obtain ⟨k, hk1, hk6, rfl, HP, HH, HG⟩ := hrel
    have hk0 : (0 : Int) ≤ (k : Int) := Int.natCast_nonneg _
    by_cases hk5 : k ≤ 5
    · have hk5' : (k : Int) ≤ 5 := by omega
      have hd : Below wr.heap.size wr wr.drew := below_draws (Below.refl _ _) 1
      have CM := HM.out _ (HH.out.call hd) (k : Int)
      have HCM := Lib.hid CM
      have HKW := Lib.hid (kindWord_any (k : Int))
      have HG1 := Lib.hid (HG.out.trans (grown_below hd (some b)))
      have HHT := Lib.hid (fun (e : seeB (T.map bare) (kwB (k : Int)) s = true) => kind_hit hk1 hk5 HP.out e)
      have HPN := Lib.hid (fun (e : seeB (T.map bare) (kwB (k : Int)) s = false) => (fun j h1 h2 => by
        by_cases ej : j = k
        · rw [ej]; exact e
        · exact HP.out j h1 (by omega) : ∀ j : Nat, 1 ≤ j → j < k + 1 → seeB (T.map bare) (kwB (j : Int)) s = false))
      have HMN := Lib.hid (fun (e : seeB (T.map bare) (kwB (k : Int)) s = false) => may_no e)
      clear CM HM HF HP HH HG hd
      generalize seeB (T.map bare) (kwB (k : Int)) s = q at *
      generalize mayS (T.map bare) (kwB (k : Int)) s = s1 at *
      go_wp2_with fail
      go_cut [13] (fun z wc => z = .bool q ∧ Hid (RD W0 b A c T s1 x0 x1 x2 x3 wc) ∧ Hid (W.grownBy wc (some b)))
      case first =>
        refine wp_region_T (S := fun _ => True) (z := 6) (by kernel_rfl) ?_
        refine anyT_takeU (i := 0) (v := ?_) (by decide) rfl (by kernel_rfl) (by kernel_rfl) (by kernel_rfl) (fun _ _ _ h => h) trivial (by rfl) ?_ ?_
        rotate_left
        · intro W9 _
          go_simp
          try with_reducible rfl
        simp only [Act.put, List.setIfInBounds_toArray]
        try simp only [List.set_cons_zero, List.set_cons_succ]
        try simp only [List.getElem_toArray]
        repeat (first | simp only [List.getElem_cons_zero] | simp only [List.getElem_cons_succ])
        refine anyT_takeU (i := 1) (v := ?_) (by decide) rfl (by kernel_rfl) (by kernel_rfl) (by kernel_rfl) (fun _ _ _ h => h) trivial (by rfl) ?_ ?_
        rotate_left
        · intro W9 _
          go_simp
          try with_reducible rfl
        simp only [Act.put, List.setIfInBounds_toArray]
        try simp only [List.set_cons_zero, List.set_cons_succ]
        try simp only [List.getElem_toArray]
        repeat (first | simp only [List.getElem_cons_zero] | simp only [List.getElem_cons_succ])
        refine anyT_takeU (i := 2) (v := ?_) (by decide) rfl (by kernel_rfl) (by kernel_rfl) (by kernel_rfl) (fun _ _ _ h => h) trivial (by rfl) ?_ ?_
        rotate_left
        · intro W9 _
          go_simp
          try with_reducible rfl
        simp only [Act.put, List.setIfInBounds_toArray]
        try simp only [List.set_cons_zero, List.set_cons_succ]
        try simp only [List.getElem_toArray]
        repeat (first | simp only [List.getElem_cons_zero] | simp only [List.getElem_cons_succ])
        refine anyT_takeU (i := 3) (v := ?_) (by decide) rfl (by kernel_rfl) (by kernel_rfl) (by kernel_rfl) (fun _ _ _ h => h) trivial (by rfl) ?_ ?_
        rotate_left
        · intro W9 _
          go_simp
          try with_reducible rfl
        simp only [Act.put, List.setIfInBounds_toArray]
        try simp only [List.set_cons_zero, List.set_cons_succ]
        try simp only [List.getElem_toArray]
        repeat (first | simp only [List.getElem_cons_zero] | simp only [List.getElem_cons_succ])
        refine anyT_one' (i := 4) (by kernel_rfl) rfl (by rfl) (fun K hK => ?_)
        have HK := Lib.hid hK
        clear hK
        unfold Oper.wp
        go_simp
        refine (HKW.out _).mono ?_
        rintro e w9 ⟨rfl, hw⟩
        obtain rfl := hw
        refine HK.out _ _ (fun _ => trivial) ?_
        clear HK K
        refine anyT_one' (i := 5) (by kernel_rfl) rfl (by rfl) (fun K hK => ?_)
        have HK := Lib.hid hK
        clear hK
        unfold Oper.wp
        go_simp
        refine (HCM.out).mono ?_
        rintro e w9 ⟨rfl, h2, g2⟩
        have H2 := Lib.hid h2
        have G2 := Lib.hid (HG1.out.trans g2)
        clear h2 g2
        refine HK.out _ _ (fun _ => trivial) ?_
        clear HK K
        refine anyT_done (by kernel_rfl) ?_ _
        go_wp2_with fail
        go_meet
        exact ⟨rfl, H2, G2⟩
      case rest =>
        obtain ⟨rfl, H2, G2⟩ := hcut
        clear HCM HKW HG1
        cases q with
        | true =>
          obtain ⟨hv, hs⟩ := HHT.out rfl
          go_wp2_with fail
          go_ret
          exact ⟨rfl, H2.out, G2.out⟩
        | false =>
          have hs1 := HMN.out rfl
          have HP' := Lib.hid (HPN.out rfl)
          subst hs1
          clear HHT HPN HMN
          go_wp2_with fail
          go_roundw
          case rel => exact ⟨k + 1, by omega, by omega, by go_num, HP', H2, G2⟩
          case measure => simp [intOf]; omega
    · obtain rfl : k = 6 := by omega
      have HQ := Lib.hid (kind_miss HP.out)
      have CF := HF.out _ HH.out
      have hz : (s.1, s.2 || !false) = (s.1, true) := by simp
      rw [hz, ← HQ.out.2] at CF
      have HCF := Lib.hid CF
      clear CF hz HF HM HP HH
      go_wp2_with fail
      refine HCF.out.mono ?_
      rintro e w1 ⟨rfl, h1, g1⟩
      have H1 := Lib.hid h1
      have G1 := Lib.hid (HG.out.trans g1)
      clear h1 g1 HCF HG
      go_wp2_with fail
      go_ret
      exact ⟨ret_i64 HQ.out.1.symm, H1.out, G1.out⟩
end
end Go.Proofs.YtjgcjnkeeiaafaaGreatDoor.P3.C
