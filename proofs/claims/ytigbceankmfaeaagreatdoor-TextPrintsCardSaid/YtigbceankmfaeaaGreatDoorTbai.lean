/-
  Contract of a statement's kind.
-/
import Derived.Test.YtigbceankmfaeaaGreatDoorTbah
namespace Go.Proofs.YtigbceankmfaeaaGreatDoor.P3.C
open Go.RowKit Go.Shelf Go.Proofs.YtigbceankmfaeaaGreatDoor.B Go.Proofs.YtigbceankmfaeaaGreatDoor.Lx Go.Proofs.YtigbceankmfaeaaGreatDoor.P3
theorem kind_hit {l : List B3} {s : RS} {k : Nat} (h1 : 1 ≤ k) (h5 : k ≤ 5) (hm : ∀ j : Nat, 1 ≤ j → j < k → seeB l (kwB (j : Int)) s = false) (h : seeB l (kwB (k : Int)) s = true) : kindV l s = (k : Int) ∧ kindS l s = mayS l (kwB (k : Int)) s := by
  have hV : kindV l s = (k : Int) := by
    unfold kindV
    obtain rfl | rfl | rfl | rfl | rfl : k = 1 ∨ k = 2 ∨ k = 3 ∨ k = 4 ∨ k = 5 := by omega
    · rw [show ((1 : Nat) : Int) = 1 from rfl] at h; rw [h]; rfl
    · have m1 := hm 1 (by omega) (by omega)
      rw [show ((1 : Nat) : Int) = 1 from rfl] at m1; rw [show ((2 : Nat) : Int) = 2 from rfl] at h
      rw [m1, h]; rfl
    · have m1 := hm 1 (by omega) (by omega)
      have m2 := hm 2 (by omega) (by omega)
      rw [show ((1 : Nat) : Int) = 1 from rfl] at m1; rw [show ((2 : Nat) : Int) = 2 from rfl] at m2; rw [show ((3 : Nat) : Int) = 3 from rfl] at h
      rw [m1, m2, h]; rfl
    · have m1 := hm 1 (by omega) (by omega)
      have m2 := hm 2 (by omega) (by omega)
      have m3 := hm 3 (by omega) (by omega)
      rw [show ((1 : Nat) : Int) = 1 from rfl] at m1; rw [show ((2 : Nat) : Int) = 2 from rfl] at m2; rw [show ((3 : Nat) : Int) = 3 from rfl] at m3; rw [show ((4 : Nat) : Int) = 4 from rfl] at h
      rw [m1, m2, m3, h]; rfl
    · have m1 := hm 1 (by omega) (by omega)
      have m2 := hm 2 (by omega) (by omega)
      have m3 := hm 3 (by omega) (by omega)
      have m4 := hm 4 (by omega) (by omega)
      rw [show ((1 : Nat) : Int) = 1 from rfl] at m1; rw [show ((2 : Nat) : Int) = 2 from rfl] at m2; rw [show ((3 : Nat) : Int) = 3 from rfl] at m3; rw [show ((4 : Nat) : Int) = 4 from rfl] at m4; rw [show ((5 : Nat) : Int) = 5 from rfl] at h
      rw [m1, m2, m3, m4, h]; rfl
  refine ⟨hV, ?_⟩
  unfold kindS
  rw [hV, if_neg (by omega), may_yes h]
theorem kind_miss {l : List B3} {s : RS} (hm : ∀ j : Nat, 1 ≤ j → j < 6 → seeB l (kwB (j : Int)) s = false) : kindV l s = 0 ∧ kindS l s = (s.1, true) := by
  have hV : kindV l s = 0 := by
    have m1 := hm 1 (by omega) (by omega)
    have m2 := hm 2 (by omega) (by omega)
    have m3 := hm 3 (by omega) (by omega)
    have m4 := hm 4 (by omega) (by omega)
    have m5 := hm 5 (by omega) (by omega)
    rw [show ((1 : Nat) : Int) = 1 from rfl] at m1; rw [show ((2 : Nat) : Int) = 2 from rfl] at m2; rw [show ((3 : Nat) : Int) = 3 from rfl] at m3; rw [show ((4 : Nat) : Int) = 4 from rfl] at m4; rw [show ((5 : Nat) : Int) = 5 from rfl] at m5
    unfold kindV
    rw [m1, m2, m3, m4, m5]; rfl
  refine ⟨hV, ?_⟩
  unfold kindS
  rw [hV, if_pos rfl]
section
variable {W0 W : World} {b : Nat} {A : Option Addr} {c : Nat} {T : List Tok} {s : RS} {x0 x1 x2 x3 : Value}
set_option maxRecDepth 100000 in
set_option maxHeartbeats 4000000 in
theorem kind_any (h : RD W0 b A c T s x0 x1 x2 x3 W) (hR : Row W0 A (rowC T)) (hT : T.length ≤ 1000000) :
    Calls Tryz.prog 114 #[.pointer (some ⟨b, 0, none⟩)] W (MP W0 b A c T (.int .i64 (kindV (T.map bare) s)) (kindS (T.map bare) s) x0 x1 x2 x3 W) := by
  have H0 := Lib.hid h
  have HM := Lib.hid (fun (W1 : World) (h1 : RD W0 b A c T s x0 x1 x2 x3 W1) (k : Int) => may_any h1 hR hT ⟨(kwB k).toArray⟩ (kwB k) (kw_of _) (kwB_in k))
  have HF := Lib.hid (fun (W1 : World) (h1 : RD W0 b A c T s x0 x1 x2 x3 W1) => must_any h1 false)
  clear h hR
  go_enter Tryz.func114, Tryz.ntmps114
  go_wp2_with fail
  go_loopw [3] (fun i wr => ∃ k : Nat, 1 ≤ k ∧ k ≤ 6 ∧ i = .int .i64 k ∧ Hid (∀ j : Nat, 1 ≤ j → j < k → seeB (T.map bare) (kwB (j : Int)) s = false) ∧ Hid (RD W0 b A c T s x0 x1 x2 x3 wr) ∧ Hid (W.grownBy wr (some b))) (fun i _ => 6 - (intOf i).toNat)
  case atStart => exact ⟨1, Nat.le_refl _, by omega, rfl, Lib.hid (fun j h1 h2 => by omega), H0, Lib.hid (World.grownBy.refl _ _)⟩
  case round =>
    clear H0
    obtain ⟨k, hk1, hk6, rfl, HP, HH, HG⟩ := hrel
    have hk0 : (0 : Int) ≤ (k : Int) := Int.natCast_nonneg _
    by_cases hk5 : k ≤ 5
    · have hk5' : (k : Int) ≤ 5 := by omega
      have hd : Below wr.heap.size wr wr.drew := below_draws (Below.refl _ _) 1
      have CM := HM.out _ (HH.out.call hd) (k : Int)
      have HCM := Lib.hid CM
      have HKW := Lib.hid (kindWord_any (k : Int))
      have HG1 := Lib.hid (HG.out.trans (grown_below hd (some b)))
      have HHT := Lib.hid (fun (e : seeB (T.map bare) (kwB (k : Int)) s = true) => kind_hit hk1 hk5 HP.out e)
      have HPN := Lib.hid (fun (e : seeB (T.map bare) (kwB (k : Int)) s = false) => (fun j h1 h2 => by
        by_cases ej : j = k
        · rw [ej]; exact e
        · exact HP.out j h1 (by omega) : ∀ j : Nat, 1 ≤ j → j < k + 1 → seeB (T.map bare) (kwB (j : Int)) s = false))
      have HMN := Lib.hid (fun (e : seeB (T.map bare) (kwB (k : Int)) s = false) => may_no e)
      clear CM HM HF HP HH HG hd
      generalize seeB (T.map bare) (kwB (k : Int)) s = q at *
      generalize mayS (T.map bare) (kwB (k : Int)) s = s1 at *
      go_wp2_with fail
      go_cut [13] (fun z wc => z = .bool q ∧ Hid (RD W0 b A c T s1 x0 x1 x2 x3 wc) ∧ Hid (W.grownBy wc (some b)))
      case first =>
        refine wp_region_T (S := fun _ => True) (z := 6) (by kernel_rfl) ?_
        refine anyT_takeU (i := 0) (v := ?_) (by decide) rfl (by kernel_rfl) (by kernel_rfl) (by kernel_rfl) (fun _ _ _ h => h) trivial (by rfl) ?_ ?_
        rotate_left
        · intro W9 _
          go_simp
          try with_reducible rfl
        simp only [Act.put, List.setIfInBounds_toArray]
        try simp only [List.set_cons_zero, List.set_cons_succ]
        try simp only [List.getElem_toArray]
        repeat (first | simp only [List.getElem_cons_zero] | simp only [List.getElem_cons_succ])
        refine anyT_takeU (i := 1) (v := ?_) (by decide) rfl (by kernel_rfl) (by kernel_rfl) (by kernel_rfl) (fun _ _ _ h => h) trivial (by rfl) ?_ ?_
        rotate_left
        · intro W9 _
          go_simp
          try with_reducible rfl
        simp only [Act.put, List.setIfInBounds_toArray]
        try simp only [List.set_cons_zero, List.set_cons_succ]
        try simp only [List.getElem_toArray]
        repeat (first | simp only [List.getElem_cons_zero] | simp only [List.getElem_cons_succ])
        refine anyT_takeU (i := 2) (v := ?_) (by decide) rfl (by kernel_rfl) (by kernel_rfl) (by kernel_rfl) (fun _ _ _ h => h) trivial (by rfl) ?_ ?_
        rotate_left
        · intro W9 _
          go_simp
          try with_reducible rfl
        simp only [Act.put, List.setIfInBounds_toArray]
        try simp only [List.set_cons_zero, List.set_cons_succ]
        try simp only [List.getElem_toArray]
        repeat (first | simp only [List.getElem_cons_zero] | simp only [List.getElem_cons_succ])
        refine anyT_takeU (i := 3) (v := ?_) (by decide) rfl (by kernel_rfl) (by kernel_rfl) (by kernel_rfl) (fun _ _ _ h => h) trivial (by rfl) ?_ ?_
        rotate_left
        · intro W9 _
          go_simp
          try with_reducible rfl
        simp only [Act.put, List.setIfInBounds_toArray]
        try simp only [List.set_cons_zero, List.set_cons_succ]
        try simp only [List.getElem_toArray]
        repeat (first | simp only [List.getElem_cons_zero] | simp only [List.getElem_cons_succ])
        refine anyT_one' (i := 4) (by kernel_rfl) rfl (by rfl) (fun K hK => ?_)
        have HK := Lib.hid hK
        clear hK
        unfold Oper.wp
        go_simp
        refine (HKW.out _).mono ?_
        rintro e w9 ⟨rfl, hw⟩
        obtain rfl := hw
        refine HK.out _ _ (fun _ => trivial) ?_
        clear HK K
        refine anyT_one' (i := 5) (by kernel_rfl) rfl (by rfl) (fun K hK => ?_)
        have HK := Lib.hid hK
        clear hK
        unfold Oper.wp
        go_simp
        refine (HCM.out).mono ?_
        rintro e w9 ⟨rfl, h2, g2⟩
        have H2 := Lib.hid h2
        have G2 := Lib.hid (HG1.out.trans g2)
        clear h2 g2
        refine HK.out _ _ (fun _ => trivial) ?_
        clear HK K
        refine anyT_done (by kernel_rfl) ?_ _
        go_wp2_with fail
        go_meet
        exact ⟨rfl, H2, G2⟩
      case rest =>
        obtain ⟨rfl, H2, G2⟩ := hcut
        clear HCM HKW HG1
        cases q with
        | true =>
          obtain ⟨hv, hs⟩ := HHT.out rfl
          go_wp2_with fail
          go_ret
          exact ⟨rfl, H2.out, G2.out⟩
        | false =>
          have hs1 := HMN.out rfl
          have HP' := Lib.hid (HPN.out rfl)
          subst hs1
          clear HHT HPN HMN
          go_wp2_with fail
          go_roundw
          case rel => exact ⟨k + 1, by omega, by omega, by go_num, HP', H2, G2⟩
          case measure => simp [intOf]; omega
    · obtain rfl : k = 6 := by omega
      have HQ := Lib.hid (kind_miss HP.out)
      have CF := HF.out _ HH.out
      have hz : (s.1, s.2 || !false) = (s.1, true) := by simp
      rw [hz, ← HQ.out.2] at CF
      have HCF := Lib.hid CF
      clear CF hz HF HM HP HH
      go_wp2_with fail
      refine HCF.out.mono ?_
      rintro e w1 ⟨rfl, h1, g1⟩
      have H1 := Lib.hid h1
      have G1 := Lib.hid (HG.out.trans g1)
      clear h1 g1 HCF HG
      go_wp2_with fail
      go_ret
      exact ⟨ret_i64 HQ.out.1.symm, H1.out, G1.out⟩
end
end Go.Proofs.YtigbceankmfaeaaGreatDoor.P3.C
