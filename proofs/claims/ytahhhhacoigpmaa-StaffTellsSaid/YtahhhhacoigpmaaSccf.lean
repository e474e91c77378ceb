/-
  StaffTells: of every graph, every acts, user, role and number of steps, the law answers true: what the staff tells is as the document's own functions have it. Conditions: none.
-/
import Derived.Test.YtahhhhacoigpmaaScce
import Derived.Test.YtahhhhacoigpmaaChecked
import Derived.Test.YtahhhhacoigpmaaRows
import Derived.ProofKit
import Derived.OpenShut
import Derived.ShutString
namespace Go.Proofs.Ytahhhhacoigpmaa.STells
open Go.ChangeShapes Go.WideShapes Go.ChangeAt Go.RowKit Go.Shelf Go.Proofs.Ytahhhhacoigpmaa.B Go.Proofs.Ytahhhhacoigpmaa.SF
open Go.ChangeMaps (open_string shut_string)
set_option maxRecDepth 100000 in
set_option maxHeartbeats 8000000 in
theorem walk (w : World) (g : Gr) (hI : InG w g) (hz : SzG g) (hcap : ∀ u ∈ g.us, u.roles.length ≤ u.rc) (la : Option Addr) (lc : Nat) (l : List Ac) (hl : Row w la (l.flatMap acC)) (hg : ∀ x ∈ l, goodA x) (u r : ByteArray) (s : Int) (hs1 : -9223372036854775808 ≤ s) (hs2 : s < 9223372036854775808) :
    Calls Try.prog 3 #[.agg #[.slice g.ga g.gs.length g.gc, .slice g.ea g.es.length g.ec, .slice g.ra g.rs.length g.rc, .slice g.ua g.us.length g.uc], .slice la l.length lc, .string u, .string r, .int .i64 s] w fun e w' => e = .returned (.bool true) ∧ Below w.heap.size w w' := by
  have HB := Lib.hid ((Below.refl w.heap.size w).alloc (Nat.le_refl _) (.cells #[.slice g.ga g.gs.length g.gc, .slice g.ea g.es.length g.ec, .slice g.ra g.rs.length g.rc, .slice g.ua g.us.length g.uc] 27))
  have HX := Lib.hid (heap_new w (.cells #[.slice g.ga g.gs.length g.gc, .slice g.ea g.es.length g.ec, .slice g.ra g.rs.length g.rc, .slice g.ua g.us.length g.uc] 27))
  have HI := Lib.hid hI
  have HZ := Lib.hid hz
  have HC := Lib.hid hcap
  clear hI hz hcap
  have HL := Lib.hid hl
  have HG := Lib.hid hg
  have HS1 := Lib.hid hs1
  have HS2 := Lib.hid hs2
  clear hl hg hs1 hs2
  go_enter Try.func3, Try.ntmps3
  go_wp2_with fail
  refine (awake_any _).mono ?_
  rintro e w1 ⟨rfl, hb1⟩
  have HB1 := Lib.hid (HB.out.trans (hb1.mono HB.out.size))
  have HX1 := Lib.hid ((hb1.block _ (blk_lt HX.out)).trans HX.out)
  have c0 := cell_blk (i := 0) HX1.out rfl
  have c1 := cell_blk (i := 1) HX1.out rfl
  have c2 := cell_blk (i := 2) HX1.out rfl
  have c3 := cell_blk (i := 3) HX1.out rfl
  have l1 := blk_lt HX1.out
  clear hb1 HB HX
  go_wp2_with fail
  refine (large_any w1 g (HI.out.below (Nat.le_refl _) HB1.out) HZ.out).mono ?_
  rintro e w2 ⟨lb, rfl, _, hb2⟩
  have HB2 := Lib.hid (HB1.out.trans (hb2.mono HB1.out.size))
  have HX2 := Lib.hid ((hb2.block _ (blk_lt HX1.out)).trans HX1.out)
  clear hb2 HB1 HX1 c0 c1 c2 c3 l1
  have c0 := cell_blk (i := 0) HX2.out rfl
  have c1 := cell_blk (i := 1) HX2.out rfl
  have c2 := cell_blk (i := 2) HX2.out rfl
  have c3 := cell_blk (i := 3) HX2.out rfl
  have l2 := blk_lt HX2.out
  cases lb
  case true =>
    go_wp2_with fail
    go_ret
    exact ⟨rfl, HB2.out⟩
  by_cases hu : u.size ≤ 100
  case neg =>
    go_wp2_with fail
    go_ret
    exact ⟨rfl, HB2.out⟩
  by_cases hr : r.size ≤ 100
  case neg =>
    go_wp2_with fail
    go_ret
    exact ⟨rfl, HB2.out⟩
  cases hm : mayL g
  case false =>
    have CN := Lib.hid (new_not w2 g (HI.out.below (Nat.le_refl _) HB2.out) HZ.out HC.out hm)
    have CR := fun W hb => Lib.hid (rnew_not W g (HI.out.below (Nat.le_refl _) hb) HZ.out hm)
    generalize (checkL g).2.2 = cc at *
    clear hm
    go_wp2_with fail
    refine CN.out.mono ?_
    rintro e w3 ⟨rfl, hb3⟩
    have HB3 := Lib.hid (HB2.out.trans (hb3.mono HB2.out.size))
    have HX3 := Lib.hid ((hb3.block _ (blk_lt HX2.out)).trans HX2.out)
    clear hb3 HX2 c0 c1 c2 c3 l2
    have c0 := cell_blk (i := 0) HX3.out rfl
    have c1 := cell_blk (i := 1) HX3.out rfl
    have c2 := cell_blk (i := 2) HX3.out rfl
    have c3 := cell_blk (i := 3) HX3.out rfl
    have l3 := blk_lt HX3.out
    go_wp2_with fail
    refine (CR w3 HB3.out).out.mono ?_
    rintro e w4 ⟨rfl, hb4⟩
    have HB4 := Lib.hid (HB3.out.trans (hb4.mono HB3.out.size))
    clear hb4 c0 c1 c2 c3 l3
    go_wp2_with fail
    go_ret
    exact ⟨rfl, HB4.out⟩
  have CN := Lib.hid (new_may w2 g (HI.out.below (Nat.le_refl _) HB2.out) HZ.out HC.out hm)
  have CR := fun W hb => Lib.hid (rnew_may W g (HI.out.below (Nat.le_refl _) hb) HZ.out hm)
  have HM := Lib.hid hm
  clear hm
  go_wp2_with fail
  refine CN.out.mono ?_
  rintro e w3 ⟨sb, A, M, rfl, hS, hM⟩
  have HW := Lib.hid (hS.from HB2.out)
  have HMK := Lib.hid hM
  have HOK := Lib.hid (hM.ok HM.out HZ.out)
  have HX3 := Lib.hid ((hS.b.block _ (blk_lt HX2.out)).trans HX2.out)
  clear CN hS hM c0 c1 c2 c3 l2 HX2
  have c0 := cell_blk (i := 0) HX3.out rfl
  have c1 := cell_blk (i := 1) HX3.out rfl
  have c2 := cell_blk (i := 2) HX3.out rfl
  have c3 := cell_blk (i := 3) HX3.out rfl
  have l3 := blk_lt HX3.out
  have HB3 := Lib.hid HW.out.b
  go_wp2_with fail
  refine (CR w3 HB3.out).out.mono ?_
  rintro e w4 ⟨rb, ab, rfl, hb4, _, hR⟩
  have HT := Lib.hid (TT.mk (HW.out.call hb4) (hR M HMK.out))
  have HLO := Lib.hid (Lo.of HI.out)
  clear hb4 hR HW HMK CR c0 c1 c2 c3 l3 HX3
  go_wp2_with fail
  go_loopw [15] (fun i wr => ∃ (k : Nat) (M' : List Mb), k ≤ l.length ∧ k ≤ 60 ∧ i = .int .i64 k ∧ Hid (TT w sb rb ab g.us.length w3.heap.size A g M' M' wr) ∧ Hid (OkM M')) (fun i _ => l.length - (intOf i).toNat)
  case atStart => exact ⟨0, M, Nat.zero_le _, Nat.zero_le _, rfl, HT, HOK⟩
  case round =>
    clear HT HOK
    obtain ⟨k, M', hk, hk60, rfl, HT, HOK⟩ := hrel
    have hi0 : (0 : Int) ≤ (k : Int) := Int.natCast_nonneg _
    by_cases hlt : k < l.length ∧ k < 60
    · obtain ⟨hlt, h60⟩ := hlt
      obtain ⟨b, off, hA, hb, hc⟩ := HL.out.at_ (k := 2) (fun _ => rfl) (by omega) hlt
      obtain rfl : la = some ⟨b, off, none⟩ := hA
      have k0 := hc 0 _ rfl
      have k1 := hc 1 _ rfl
      rw [Nat.add_zero] at k0
      have SC := Lib.hid (fun W (hW : Below w.heap.size w W) => show W.cell? ⟨b, off + k * 2, none⟩ = some (.string l[k]!.user) ∧ W.cell? ⟨b, off + k * 2 + 1, none⟩ = some (.bool l[k]!.away) ∧ b < W.heap.size from ⟨(hW.cell (p := ⟨b, _, none⟩) hb).trans k0, (hW.cell (p := ⟨b, _, none⟩) hb).trans k1, Nat.lt_of_lt_of_le hb hW.size⟩)
      have hi1 : (k : Int) < (l.length : Int) := by omega
      have hi2 : (k : Int) < 60 := by omega
      have hga := HG.out _ (mem_at hlt)
      have T1 : Hid (TT w sb rb ab g.us.length w3.heap.size A g M' M' wr.drew) := Lib.hid (HT.out.call (below_draws (Below.refl _ _) 1))
      have S := Lib.hid (SC.out wr.drew T1.out.s.b)
      have CA := Lib.hid (away_any wr.drew sb A M' T1.out.s.st l[k]!.user hga l[k]!.away)
      have HOK1 := Lib.hid (awayL_ok HOK.out (placeL M' l[k]!.user.toList) l[k]!.away)
      obtain ⟨M2, hM2⟩ : ∃ M2, M2 = awayL M' (placeL M' l[k]!.user.toList) l[k]!.away := ⟨_, rfl⟩
      rw [← hM2] at CA HOK1
      have HE := Lib.hid hM2.symm
      obtain ⟨k0, k1, hbl⟩ := SC.out wr HT.out.s.b
      by_cases h100 : l[k]!.user.size ≤ 100
      case neg =>
        clear hc hM2 hga S T1 CA HOK1 HE SC
        generalize l[k]! = a at *
        go_wp2_with fail
        go_ret
        exact ⟨rfl, HT.out.s.b⟩
      clear hc hM2 HT
      generalize l[k]! = a at *
      go_wp2_with fail
      clear k0 k1 hbl
      refine wp_region_T (S := fun W => W.cell? ⟨b, off + k * 2, none⟩ = some (.string a.user) ∧ W.cell? ⟨b, off + k * 2 + 1, none⟩ = some (.bool a.away) ∧ b < W.heap.size) (z := 42) (by kernel_rfl) ?_
      generalize wr.drew = W0 at *
      refine anyT_takeU (i := 0) (v := ?_) (by decide) rfl (by kernel_rfl) (by kernel_rfl) (by kernel_rfl) (fun _ _ _ h => h) S.out (by rfl) ?_ ?_
      rotate_left
      · intro W9 hSw
        obtain ⟨q0, q1, q2⟩ := hSw
        go_simp
        try with_reducible rfl
      simp only [Act.put, List.setIfInBounds_toArray]
      try simp only [List.set_cons_zero, List.set_cons_succ]
      try simp only [List.getElem_toArray]
      repeat (first | simp only [List.getElem_cons_zero] | simp only [List.getElem_cons_succ])
      refine anyT_takeU (i := 1) (v := ?_) (by decide) rfl (by kernel_rfl) (by kernel_rfl) (by kernel_rfl) (fun _ _ _ h => h) S.out (by rfl) ?_ ?_
      rotate_left
      · intro W9 hSw
        obtain ⟨q0, q1, q2⟩ := hSw
        go_simp
        try with_reducible rfl
      simp only [Act.put, List.setIfInBounds_toArray]
      try simp only [List.set_cons_zero, List.set_cons_succ]
      try simp only [List.getElem_toArray]
      repeat (first | simp only [List.getElem_cons_zero] | simp only [List.getElem_cons_succ])
      refine anyT_takeU (i := 2) (v := ?_) (by decide) rfl (by kernel_rfl) (by kernel_rfl) (by kernel_rfl) (fun _ _ _ h => h) S.out (by rfl) ?_ ?_
      rotate_left
      · intro W9 hSw
        obtain ⟨q0, q1, q2⟩ := hSw
        go_simp
        try with_reducible rfl
      simp only [Act.put, List.setIfInBounds_toArray]
      try simp only [List.set_cons_zero, List.set_cons_succ]
      try simp only [List.getElem_toArray]
      repeat (first | simp only [List.getElem_cons_zero] | simp only [List.getElem_cons_succ])
      refine anyT_takeU (i := 3) (v := ?_) (by decide) rfl (by kernel_rfl) (by kernel_rfl) (by kernel_rfl) (fun _ _ _ h => h) S.out (by rfl) ?_ ?_
      rotate_left
      · intro W9 hSw
        obtain ⟨q0, q1, q2⟩ := hSw
        go_simp
        try with_reducible rfl
      simp only [Act.put, List.setIfInBounds_toArray]
      try simp only [List.set_cons_zero, List.set_cons_succ]
      try simp only [List.getElem_toArray]
      repeat (first | simp only [List.getElem_cons_zero] | simp only [List.getElem_cons_succ])
      refine anyT_takeU (i := 4) (v := ?_) (by decide) rfl (by kernel_rfl) (by kernel_rfl) (by kernel_rfl) (fun _ _ _ h => h) S.out (by rfl) ?_ ?_
      rotate_left
      · intro W9 hSw
        obtain ⟨q0, q1, q2⟩ := hSw
        go_simp
        try with_reducible rfl
      simp only [Act.put, List.setIfInBounds_toArray]
      try simp only [List.set_cons_zero, List.set_cons_succ]
      try simp only [List.getElem_toArray]
      repeat (first | simp only [List.getElem_cons_zero] | simp only [List.getElem_cons_succ])
      refine anyT_takeU (i := 5) (v := ?_) (by decide) rfl (by kernel_rfl) (by kernel_rfl) (by kernel_rfl) (fun _ _ _ h => h) S.out (by rfl) ?_ ?_
      rotate_left
      · intro W9 hSw
        obtain ⟨q0, q1, q2⟩ := hSw
        go_simp
        try with_reducible rfl
      simp only [Act.put, List.setIfInBounds_toArray]
      try simp only [List.set_cons_zero, List.set_cons_succ]
      try simp only [List.getElem_toArray]
      repeat (first | simp only [List.getElem_cons_zero] | simp only [List.getElem_cons_succ])
      refine anyT_takeU (i := 6) (v := ?_) (by decide) rfl (by kernel_rfl) (by kernel_rfl) (by kernel_rfl) (fun _ _ _ h => h) S.out (by rfl) ?_ ?_
      rotate_left
      · intro W9 hSw
        obtain ⟨q0, q1, q2⟩ := hSw
        go_simp
        try with_reducible rfl
      simp only [Act.put, List.setIfInBounds_toArray]
      try simp only [List.set_cons_zero, List.set_cons_succ]
      try simp only [List.getElem_toArray]
      repeat (first | simp only [List.getElem_cons_zero] | simp only [List.getElem_cons_succ])
      refine anyT_takeU (i := 7) (v := ?_) (by decide) rfl (by kernel_rfl) (by kernel_rfl) (by kernel_rfl) (fun _ _ _ h => h) S.out (by rfl) ?_ ?_
      rotate_left
      · intro W9 hSw
        obtain ⟨q0, q1, q2⟩ := hSw
        go_simp
        try with_reducible rfl
      simp only [Act.put, List.setIfInBounds_toArray]
      try simp only [List.set_cons_zero, List.set_cons_succ]
      try simp only [List.getElem_toArray]
      repeat (first | simp only [List.getElem_cons_zero] | simp only [List.getElem_cons_succ])
      refine anyT_takeU (i := 8) (v := ?_) (by decide) rfl (by kernel_rfl) (by kernel_rfl) (by kernel_rfl) (fun _ _ _ h => h) S.out (by rfl) ?_ ?_
      rotate_left
      · intro W9 hSw
        obtain ⟨q0, q1, q2⟩ := hSw
        go_simp
        try with_reducible rfl
      simp only [Act.put, List.setIfInBounds_toArray]
      try simp only [List.set_cons_zero, List.set_cons_succ]
      try simp only [List.getElem_toArray]
      repeat (first | simp only [List.getElem_cons_zero] | simp only [List.getElem_cons_succ])
      refine anyT_takeU (i := 9) (v := ?_) (by decide) rfl (by kernel_rfl) (by kernel_rfl) (by kernel_rfl) (fun _ _ _ h => h) S.out (by rfl) ?_ ?_
      rotate_left
      · intro W9 hSw
        obtain ⟨q0, q1, q2⟩ := hSw
        go_simp
        try with_reducible rfl
      simp only [Act.put, List.setIfInBounds_toArray]
      try simp only [List.set_cons_zero, List.set_cons_succ]
      try simp only [List.getElem_toArray]
      repeat (first | simp only [List.getElem_cons_zero] | simp only [List.getElem_cons_succ])
      refine anyT_takeU (i := 10) (v := ?_) (by decide) rfl (by kernel_rfl) (by kernel_rfl) (by kernel_rfl) (fun _ _ _ h => h) S.out (by rfl) ?_ ?_
      rotate_left
      · intro W9 hSw
        obtain ⟨q0, q1, q2⟩ := hSw
        go_simp
        try with_reducible rfl
      simp only [Act.put, List.setIfInBounds_toArray]
      try simp only [List.set_cons_zero, List.set_cons_succ]
      try simp only [List.getElem_toArray]
      repeat (first | simp only [List.getElem_cons_zero] | simp only [List.getElem_cons_succ])
      refine anyT_takeU (i := 12) (v := ?_) (by decide) rfl (by kernel_rfl) (by kernel_rfl) (by kernel_rfl) (fun _ _ _ h => h) S.out (by rfl) ?_ ?_
      rotate_left
      · intro W9 hSw
        obtain ⟨q0, q1, q2⟩ := hSw
        go_simp
        try with_reducible rfl
      simp only [Act.put, List.setIfInBounds_toArray]
      try simp only [List.set_cons_zero, List.set_cons_succ]
      try simp only [List.getElem_toArray]
      repeat (first | simp only [List.getElem_cons_zero] | simp only [List.getElem_cons_succ])
      refine anyT_takeU (i := 13) (v := ?_) (by decide) rfl (by kernel_rfl) (by kernel_rfl) (by kernel_rfl) (fun _ _ _ h => h) S.out (by rfl) ?_ ?_
      rotate_left
      · intro W9 hSw
        obtain ⟨q0, q1, q2⟩ := hSw
        go_simp
        try with_reducible rfl
      simp only [Act.put, List.setIfInBounds_toArray]
      try simp only [List.set_cons_zero, List.set_cons_succ]
      try simp only [List.getElem_toArray]
      repeat (first | simp only [List.getElem_cons_zero] | simp only [List.getElem_cons_succ])
      refine anyT_takeU (i := 14) (v := ?_) (by decide) rfl (by kernel_rfl) (by kernel_rfl) (by kernel_rfl) (fun _ _ _ h => h) S.out (by rfl) ?_ ?_
      rotate_left
      · intro W9 hSw
        obtain ⟨q0, q1, q2⟩ := hSw
        go_simp
        try with_reducible rfl
      simp only [Act.put, List.setIfInBounds_toArray]
      try simp only [List.set_cons_zero, List.set_cons_succ]
      try simp only [List.getElem_toArray]
      repeat (first | simp only [List.getElem_cons_zero] | simp only [List.getElem_cons_succ])
      refine anyT_takeU (i := 15) (v := ?_) (by decide) rfl (by kernel_rfl) (by kernel_rfl) (by kernel_rfl) (fun _ _ _ h => h) S.out (by rfl) ?_ ?_
      rotate_left
      · intro W9 hSw
        obtain ⟨q0, q1, q2⟩ := hSw
        go_simp
        try with_reducible rfl
      simp only [Act.put, List.setIfInBounds_toArray]
      try simp only [List.set_cons_zero, List.set_cons_succ]
      try simp only [List.getElem_toArray]
      repeat (first | simp only [List.getElem_cons_zero] | simp only [List.getElem_cons_succ])
      refine anyT_takeU (i := 16) (v := ?_) (by decide) rfl (by kernel_rfl) (by kernel_rfl) (by kernel_rfl) (fun _ _ _ h => h) S.out (by rfl) ?_ ?_
      rotate_left
      · intro W9 hSw
        obtain ⟨q0, q1, q2⟩ := hSw
        go_simp
        try with_reducible rfl
      simp only [Act.put, List.setIfInBounds_toArray]
      try simp only [List.set_cons_zero, List.set_cons_succ]
      try simp only [List.getElem_toArray]
      repeat (first | simp only [List.getElem_cons_zero] | simp only [List.getElem_cons_succ])
      refine anyT_takeU (i := 17) (v := ?_) (by decide) rfl (by kernel_rfl) (by kernel_rfl) (by kernel_rfl) (fun _ _ _ h => h) S.out (by rfl) ?_ ?_
      rotate_left
      · intro W9 hSw
        obtain ⟨q0, q1, q2⟩ := hSw
        go_simp
        try with_reducible rfl
      simp only [Act.put, List.setIfInBounds_toArray]
      try simp only [List.set_cons_zero, List.set_cons_succ]
      try simp only [List.getElem_toArray]
      repeat (first | simp only [List.getElem_cons_zero] | simp only [List.getElem_cons_succ])
      refine anyT_takeU (i := 18) (v := ?_) (by decide) rfl (by kernel_rfl) (by kernel_rfl) (by kernel_rfl) (fun _ _ _ h => h) S.out (by rfl) ?_ ?_
      rotate_left
      · intro W9 hSw
        obtain ⟨q0, q1, q2⟩ := hSw
        go_simp
        try with_reducible rfl
      simp only [Act.put, List.setIfInBounds_toArray]
      try simp only [List.set_cons_zero, List.set_cons_succ]
      try simp only [List.getElem_toArray]
      repeat (first | simp only [List.getElem_cons_zero] | simp only [List.getElem_cons_succ])
      refine anyT_takeU (i := 19) (v := ?_) (by decide) rfl (by kernel_rfl) (by kernel_rfl) (by kernel_rfl) (fun _ _ _ h => h) S.out (by rfl) ?_ ?_
      rotate_left
      · intro W9 hSw
        obtain ⟨q0, q1, q2⟩ := hSw
        go_simp
        try with_reducible rfl
      simp only [Act.put, List.setIfInBounds_toArray]
      try simp only [List.set_cons_zero, List.set_cons_succ]
      try simp only [List.getElem_toArray]
      repeat (first | simp only [List.getElem_cons_zero] | simp only [List.getElem_cons_succ])
      refine anyT_takeU (i := 20) (v := ?_) (by decide) rfl (by kernel_rfl) (by kernel_rfl) (by kernel_rfl) (fun _ _ _ h => h) S.out (by rfl) ?_ ?_
      rotate_left
      · intro W9 hSw
        obtain ⟨q0, q1, q2⟩ := hSw
        go_simp
        try with_reducible rfl
      simp only [Act.put, List.setIfInBounds_toArray]
      try simp only [List.set_cons_zero, List.set_cons_succ]
      try simp only [List.getElem_toArray]
      repeat (first | simp only [List.getElem_cons_zero] | simp only [List.getElem_cons_succ])
      refine anyT_takeU (i := 21) (v := ?_) (by decide) rfl (by kernel_rfl) (by kernel_rfl) (by kernel_rfl) (fun _ _ _ h => h) S.out (by rfl) ?_ ?_
      rotate_left
      · intro W9 hSw
        obtain ⟨q0, q1, q2⟩ := hSw
        go_simp
        try with_reducible rfl
      simp only [Act.put, List.setIfInBounds_toArray]
      try simp only [List.set_cons_zero, List.set_cons_succ]
      try simp only [List.getElem_toArray]
      repeat (first | simp only [List.getElem_cons_zero] | simp only [List.getElem_cons_succ])
      refine anyT_takeU (i := 22) (v := ?_) (by decide) rfl (by kernel_rfl) (by kernel_rfl) (by kernel_rfl) (fun _ _ _ h => h) S.out (by rfl) ?_ ?_
      rotate_left
      · intro W9 hSw
        obtain ⟨q0, q1, q2⟩ := hSw
        go_simp
        try with_reducible rfl
      simp only [Act.put, List.setIfInBounds_toArray]
      try simp only [List.set_cons_zero, List.set_cons_succ]
      try simp only [List.getElem_toArray]
      repeat (first | simp only [List.getElem_cons_zero] | simp only [List.getElem_cons_succ])
      refine anyT_one' (i := 11) (by kernel_rfl) rfl (by rfl) (fun K hK => ?_)
      have HK := Lib.hid hK
      clear hK
      unfold Oper.wp
      go_simp
      refine (CA.out).mono ?_
      rintro e w9 ⟨rfl, ha⟩
      have T2 := Lib.hid (T1.out.one HLO.out ha)
      replace S := Lib.hid (SC.out _ T2.out.s.b)
      clear ha
      dsimp only
      refine HK.out _ _ (fun _ => S.out) ?_
      clear HK K
      refine anyT_one' (i := 23) (by kernel_rfl) rfl (by rfl) (fun K hK => ?_)
      have HK := Lib.hid hK
      clear hK
      unfold Oper.wp
      go_simp
      refine (rset_any _ rb g (some ⟨ab, 0, none⟩) g.us.length w3.heap.size M' T2.out.r (HLO.out.mono HB3.out.size) HOK.out a.user a.away).mono ?_
      rintro e w9 ⟨rfl, hn, hbb, ho, _⟩
      rw [HE.out] at hn
      have T3 := Lib.hid (T2.out.two HB3.out.size hn hbb ho)
      replace S := Lib.hid (SC.out _ T3.out.s.b)
      clear hn hbb ho
      dsimp only
      refine HK.out _ _ (fun _ => S.out) ?_
      clear HK K
      refine anyT_takeU (i := 24) (v := ?_) (by decide) rfl (by kernel_rfl) (by kernel_rfl) (by kernel_rfl) (fun _ _ _ h => h) S.out (by rfl) ?_ ?_
      rotate_left
      · intro W9 hSw
        obtain ⟨q0, q1, q2⟩ := hSw
        go_simp
        try with_reducible rfl
      simp only [Act.put, List.setIfInBounds_toArray]
      try simp only [List.set_cons_zero, List.set_cons_succ]
      try simp only [List.getElem_toArray]
      repeat (first | simp only [List.getElem_cons_zero] | simp only [List.getElem_cons_succ])
      refine anyT_takeU (i := 25) (v := ?_) (by decide) rfl (by kernel_rfl) (by kernel_rfl) (by kernel_rfl) (fun _ _ _ h => h) S.out (by rfl) ?_ ?_
      rotate_left
      · intro W9 hSw
        obtain ⟨q0, q1, q2⟩ := hSw
        go_simp
        try with_reducible rfl
      simp only [Act.put, List.setIfInBounds_toArray]
      try simp only [List.set_cons_zero, List.set_cons_succ]
      try simp only [List.getElem_toArray]
      repeat (first | simp only [List.getElem_cons_zero] | simp only [List.getElem_cons_succ])
      refine anyT_takeU (i := 26) (v := ?_) (by decide) rfl (by kernel_rfl) (by kernel_rfl) (by kernel_rfl) (fun _ _ _ h => h) S.out (by rfl) ?_ ?_
      rotate_left
      · intro W9 hSw
        obtain ⟨q0, q1, q2⟩ := hSw
        go_simp
        try with_reducible rfl
      simp only [Act.put, List.setIfInBounds_toArray]
      try simp only [List.set_cons_zero, List.set_cons_succ]
      try simp only [List.getElem_toArray]
      repeat (first | simp only [List.getElem_cons_zero] | simp only [List.getElem_cons_succ])
      refine anyT_takeU (i := 27) (v := ?_) (by decide) rfl (by kernel_rfl) (by kernel_rfl) (by kernel_rfl) (fun _ _ _ h => h) S.out (by rfl) ?_ ?_
      rotate_left
      · intro W9 hSw
        obtain ⟨q0, q1, q2⟩ := hSw
        go_simp
        try with_reducible rfl
      simp only [Act.put, List.setIfInBounds_toArray]
      try simp only [List.set_cons_zero, List.set_cons_succ]
      try simp only [List.getElem_toArray]
      repeat (first | simp only [List.getElem_cons_zero] | simp only [List.getElem_cons_succ])
      refine anyT_takeU (i := 28) (v := ?_) (by decide) rfl (by kernel_rfl) (by kernel_rfl) (by kernel_rfl) (fun _ _ _ h => h) S.out (by rfl) ?_ ?_
      rotate_left
      · intro W9 hSw
        obtain ⟨q0, q1, q2⟩ := hSw
        go_simp
        try with_reducible rfl
      simp only [Act.put, List.setIfInBounds_toArray]
      try simp only [List.set_cons_zero, List.set_cons_succ]
      try simp only [List.getElem_toArray]
      repeat (first | simp only [List.getElem_cons_zero] | simp only [List.getElem_cons_succ])
      refine anyT_takeU (i := 29) (v := ?_) (by decide) rfl (by kernel_rfl) (by kernel_rfl) (by kernel_rfl) (fun _ _ _ h => h) S.out (by rfl) ?_ ?_
      rotate_left
      · intro W9 hSw
        obtain ⟨q0, q1, q2⟩ := hSw
        go_simp
        try with_reducible rfl
      simp only [Act.put, List.setIfInBounds_toArray]
      try simp only [List.set_cons_zero, List.set_cons_succ]
      try simp only [List.getElem_toArray]
      repeat (first | simp only [List.getElem_cons_zero] | simp only [List.getElem_cons_succ])
      refine anyT_takeU (i := 30) (v := ?_) (by decide) rfl (by kernel_rfl) (by kernel_rfl) (by kernel_rfl) (fun _ _ _ h => h) S.out (by rfl) ?_ ?_
      rotate_left
      · intro W9 hSw
        obtain ⟨q0, q1, q2⟩ := hSw
        go_simp
        try with_reducible rfl
      simp only [Act.put, List.setIfInBounds_toArray]
      try simp only [List.set_cons_zero, List.set_cons_succ]
      try simp only [List.getElem_toArray]
      repeat (first | simp only [List.getElem_cons_zero] | simp only [List.getElem_cons_succ])
      refine anyT_takeU (i := 31) (v := ?_) (by decide) rfl (by kernel_rfl) (by kernel_rfl) (by kernel_rfl) (fun _ _ _ h => h) S.out (by rfl) ?_ ?_
      rotate_left
      · intro W9 hSw
        obtain ⟨q0, q1, q2⟩ := hSw
        go_simp
        try with_reducible rfl
      simp only [Act.put, List.setIfInBounds_toArray]
      try simp only [List.set_cons_zero, List.set_cons_succ]
      try simp only [List.getElem_toArray]
      repeat (first | simp only [List.getElem_cons_zero] | simp only [List.getElem_cons_succ])
      refine anyT_takeU (i := 33) (v := ?_) (by decide) rfl (by kernel_rfl) (by kernel_rfl) (by kernel_rfl) (fun _ _ _ h => h) S.out (by rfl) ?_ ?_
      rotate_left
      · intro W9 hSw
        obtain ⟨q0, q1, q2⟩ := hSw
        go_simp
        try with_reducible rfl
      simp only [Act.put, List.setIfInBounds_toArray]
      try simp only [List.set_cons_zero, List.set_cons_succ]
      try simp only [List.getElem_toArray]
      repeat (first | simp only [List.getElem_cons_zero] | simp only [List.getElem_cons_succ])
      refine anyT_takeU (i := 34) (v := ?_) (by decide) rfl (by kernel_rfl) (by kernel_rfl) (by kernel_rfl) (fun _ _ _ h => h) S.out (by rfl) ?_ ?_
      rotate_left
      · intro W9 hSw
        obtain ⟨q0, q1, q2⟩ := hSw
        go_simp
        try with_reducible rfl
      simp only [Act.put, List.setIfInBounds_toArray]
      try simp only [List.set_cons_zero, List.set_cons_succ]
      try simp only [List.getElem_toArray]
      repeat (first | simp only [List.getElem_cons_zero] | simp only [List.getElem_cons_succ])
      refine anyT_takeU (i := 35) (v := ?_) (by decide) rfl (by kernel_rfl) (by kernel_rfl) (by kernel_rfl) (fun _ _ _ h => h) S.out (by rfl) ?_ ?_
      rotate_left
      · intro W9 hSw
        obtain ⟨q0, q1, q2⟩ := hSw
        go_simp
        try with_reducible rfl
      simp only [Act.put, List.setIfInBounds_toArray]
      try simp only [List.set_cons_zero, List.set_cons_succ]
      try simp only [List.getElem_toArray]
      repeat (first | simp only [List.getElem_cons_zero] | simp only [List.getElem_cons_succ])
      refine anyT_takeU (i := 36) (v := ?_) (by decide) rfl (by kernel_rfl) (by kernel_rfl) (by kernel_rfl) (fun _ _ _ h => h) S.out (by rfl) ?_ ?_
      rotate_left
      · intro W9 hSw
        obtain ⟨q0, q1, q2⟩ := hSw
        go_simp
        try with_reducible rfl
      simp only [Act.put, List.setIfInBounds_toArray]
      try simp only [List.set_cons_zero, List.set_cons_succ]
      try simp only [List.getElem_toArray]
      repeat (first | simp only [List.getElem_cons_zero] | simp only [List.getElem_cons_succ])
      refine anyT_takeU (i := 37) (v := ?_) (by decide) rfl (by kernel_rfl) (by kernel_rfl) (by kernel_rfl) (fun _ _ _ h => h) S.out (by rfl) ?_ ?_
      rotate_left
      · intro W9 hSw
        obtain ⟨q0, q1, q2⟩ := hSw
        go_simp
        try with_reducible rfl
      simp only [Act.put, List.setIfInBounds_toArray]
      try simp only [List.set_cons_zero, List.set_cons_succ]
      try simp only [List.getElem_toArray]
      repeat (first | simp only [List.getElem_cons_zero] | simp only [List.getElem_cons_succ])
      refine anyT_takeU (i := 38) (v := ?_) (by decide) rfl (by kernel_rfl) (by kernel_rfl) (by kernel_rfl) (fun _ _ _ h => h) S.out (by rfl) ?_ ?_
      rotate_left
      · intro W9 hSw
        obtain ⟨q0, q1, q2⟩ := hSw
        go_simp
        try with_reducible rfl
      simp only [Act.put, List.setIfInBounds_toArray]
      try simp only [List.set_cons_zero, List.set_cons_succ]
      try simp only [List.getElem_toArray]
      repeat (first | simp only [List.getElem_cons_zero] | simp only [List.getElem_cons_succ])
      refine anyT_one' (i := 32) (by kernel_rfl) rfl (by rfl) (fun K hK => ?_)
      have HK := Lib.hid hK
      clear hK
      unfold Oper.wp
      go_simp
      refine (here_any _ sb A M2 T3.out.s.st a.user hga).mono ?_
      rintro e w9 ⟨rfl, hww⟩
      subst hww
      dsimp only
      refine HK.out _ _ (fun _ => S.out) ?_
      clear HK K
      refine anyT_one' (i := 39) (by kernel_rfl) rfl (by rfl) (fun K hK => ?_)
      have HK := Lib.hid hK
      clear hK
      unfold Oper.wp
      go_simp
      refine (rhere_any _ rb g (some ⟨ab, 0, none⟩) g.us.length w3.heap.size M2 T3.out.r HOK1.out a.user).mono ?_
      rintro e w9 ⟨rfl, hww⟩
      subst hww
      dsimp only
      refine HK.out _ _ (fun _ => S.out) ?_
      clear HK K
      refine anyT_takeU (i := 40) (v := ?_) (by decide) rfl (by kernel_rfl) (by kernel_rfl) (by kernel_rfl) (fun _ _ _ h => h) S.out (by rfl) ?_ ?_
      rotate_left
      · intro W9 hSw
        obtain ⟨q0, q1, q2⟩ := hSw
        go_simp
        try with_reducible rfl
      simp only [Act.put, List.setIfInBounds_toArray]
      try simp only [List.set_cons_zero, List.set_cons_succ]
      try simp only [List.getElem_toArray]
      repeat (first | simp only [List.getElem_cons_zero] | simp only [List.getElem_cons_succ])
      refine anyT_takeU (i := 41) (v := ?_) (by decide) rfl (by kernel_rfl) (by kernel_rfl) (by kernel_rfl) (fun _ _ _ h => h) S.out (by rfl) ?_ ?_
      rotate_left
      · intro W9 hSw
        obtain ⟨q0, q1, q2⟩ := hSw
        go_simp
        try with_reducible rfl
      simp only [Act.put, List.setIfInBounds_toArray]
      try simp only [List.set_cons_zero, List.set_cons_succ]
      try simp only [List.getElem_toArray]
      repeat (first | simp only [List.getElem_cons_zero] | simp only [List.getElem_cons_succ])
      refine anyT_done (by kernel_rfl) ?_ _
      go_wp2_with fail
      go_roundw
      case rel => exact ⟨k + 1, M2, hlt, by omega, by go_num, T3, HOK1⟩
      case measure => simp [intOf]; omega
    · obtain ⟨wo, rfl⟩ : ∃ wo, wo = wr := ⟨wr, rfl⟩
      have hus : u.size ≤ 140737488351232 := by omega
      have C1 := fun (W : World) (h : TT w sb rb ab g.us.length w3.heap.size A g M' M' W) => Lib.hid (holders_any W sb A M' h.s.st HOK.out.few HOK.out.roles r)
      have D1 := fun (W : World) (h : TT w sb rb ab g.us.length w3.heap.size A g M' M' W) => Lib.hid (rholders_any W rb g (some ⟨ab, 0, none⟩) g.us.length w3.heap.size M' h.r HOK.out r)
      have C2 := fun (W : World) (h : TT w sb rb ab g.us.length w3.heap.size A g M' M' W) => Lib.hid (chain_any W sb A M' h.s.st HOK.out u hus)
      have D2 := fun (W : World) (h : TT w sb rb ab g.us.length w3.heap.size A g M' M' W) => Lib.hid (rchain_any W rb g (some ⟨ab, 0, none⟩) g.us.length w3.heap.size M' h.r HOK.out u)
      have C3 := fun (W : World) (h : TT w sb rb ab g.us.length w3.heap.size A g M' M' W) => Lib.hid (for_any W sb A M' h.s.st HOK.out u hus)
      have D3 := fun (W : World) (h : TT w sb rb ab g.us.length w3.heap.size A g M' M' W) => Lib.hid (rfor_any W rb g (some ⟨ab, 0, none⟩) g.us.length w3.heap.size M' h.r HOK.out u)
      have C4 := fun (W : World) (h : TT w sb rb ab g.us.length w3.heap.size A g M' M' W) => Lib.hid (next_any W sb A M' h.s.st HOK.out u hus s HS1.out HS2.out)
      have D4 := fun (W : World) (h : TT w sb rb ab g.us.length w3.heap.size A g M' M' W) => Lib.hid (rnext_any W rb g (some ⟨ab, 0, none⟩) g.us.length w3.heap.size M' h.r HOK.out u s HS1.out HS2.out)
      have C5 := fun (W : World) (h : TT w sb rb ab g.us.length w3.heap.size A g M' M' W) => Lib.hid (may_any W sb A M' h.s.st HOK.out u r hus)
      have D5 := fun (W : World) (h : TT w sb rb ab g.us.length w3.heap.size A g M' M' W) => Lib.hid (rmay_any W rb g (some ⟨ab, 0, none⟩) g.us.length w3.heap.size M' h.r HOK.out u r)
      have C6 := fun (W : World) (h : TT w sb rb ab g.us.length w3.heap.size A g M' M' W) => Lib.hid (ableAll_any W sb A M' h.s.st HOK.out r)
      have D6 := fun (W : World) (h : TT w sb rb ab g.us.length w3.heap.size A g M' M' W) => Lib.hid (rableAll_any W rb g (some ⟨ab, 0, none⟩) g.us.length w3.heap.size M' h.r HOK.out r)
      have C7 := fun (W : World) (h : TT w sb rb ab g.us.length w3.heap.size A g M' M' W) => Lib.hid (here_any W sb A M' h.s.st u hus)
      have D7 := fun (W : World) (h : TT w sb rb ab g.us.length w3.heap.size A g M' M' W) => Lib.hid (rhere_any W rb g (some ⟨ab, 0, none⟩) g.us.length w3.heap.size M' h.r HOK.out u)
      have hL1 : (hold M' r.toList).length ≤ 1000 := by have h9 : (hold M' r.toList).length ≤ M'.length := holdK_len M' r.toList M'.length; have h8 := HOK.out.few; omega
      have hL2 : (chain M' (placeL M' u.toList)).length ≤ 1000 := by have h9 := chain_len M' (placeL M' u.toList); have h8 := HOK.out.few; omega
      have hL3 : (ableL M' r.toList).length ≤ 1000 := by have h9 : (ableL M' r.toList).length ≤ M'.length := ableK_len M' r.toList M'.length; have h8 := HOK.out.few; omega
      clear HS1 HS2 HL HG HI HZ HC HM HLO
      generalize hold M' r.toList = L1 at *
      generalize ableL M' r.toList = L3 at *
      generalize forL M' (placeL M' u.toList) = ff at *
      generalize nextL M' (placeL M' u.toList) s = xx at *
      generalize mayB M' (placeL M' u.toList) r.toList = yy at *
      generalize hereB M' (placeL M' u.toList) = zz at *
      generalize chain M' (placeL M' u.toList) = L2 at *
      clear HOK hu hr hus
      have hcnd : ¬ (k : Int) < (l.length : Int) ∨ ((k : Int) < (l.length : Int) ∧ ¬ (k : Int) < 60) := by omega
      rcases hcnd with h1 | ⟨h1, h2⟩
      all_goals
        go_wp2_with fail
        refine (C1 _ HT.out).out.mono ?_
        rintro e wa1 ⟨v, rfl, ho, hb⟩
        obtain ⟨va1, vc1, rfl⟩ := own_slice ho
        have R1 := Lib.hid (Row.of_own ho)
        replace HT := Lib.hid (HT.out.call hb)
        clear ho hb
        go_wp2_with fail
        refine (D1 _ HT.out).out.mono ?_
        rintro e wb1 ⟨v, rfl, ho, hb⟩
        obtain ⟨vd1, ve1, rfl⟩ := own_slice ho
        have R2 := Lib.hid (Row.of_own ho)
        replace R1 := Lib.hid (R1.out.below (Nat.le_refl _) hb)
        replace HT := Lib.hid (HT.out.call hb)
        clear ho hb
        go_wp2_with fail
        refine (two_rows R1.out R2.out hL1).mono ?_
        rintro e wc1 ⟨rfl, hb⟩
        replace HT := Lib.hid (HT.out.call hb)
        clear hb R1 R2
        go_wp2_with fail
        refine (C2 _ HT.out).out.mono ?_
        rintro e wa2 ⟨v, rfl, ho, hb⟩
        obtain ⟨va2, vc2, rfl⟩ := own_slice ho
        have R1 := Lib.hid (Row.of_own ho)
        replace HT := Lib.hid (HT.out.call hb)
        clear ho hb
        go_wp2_with fail
        refine (D2 _ HT.out).out.mono ?_
        rintro e wb2 ⟨v, rfl, ho, hb⟩
        obtain ⟨vd2, ve2, rfl⟩ := own_slice ho
        have R2 := Lib.hid (Row.of_own ho)
        replace R1 := Lib.hid (R1.out.below (Nat.le_refl _) hb)
        replace HT := Lib.hid (HT.out.call hb)
        clear ho hb
        go_wp2_with fail
        refine (two_rows R1.out R2.out hL2).mono ?_
        rintro e wc2 ⟨rfl, hb⟩
        replace HT := Lib.hid (HT.out.call hb)
        clear hb R1 R2
        go_wp2_with fail
        refine (C3 _ HT.out).out.mono ?_
        rintro e wd3 ⟨rfl, hb⟩
        replace HT := Lib.hid (HT.out.call hb)
        clear hb
        go_wp2_with fail
        refine (D3 _ HT.out).out.mono ?_
        rintro e wd4 ⟨rfl, hb⟩
        replace HT := Lib.hid (HT.out.call hb)
        clear hb
        go_wp2_with fail
        refine (C4 _ HT.out).out.mono ?_
        rintro e wd5 ⟨rfl, hb⟩
        replace HT := Lib.hid (HT.out.call hb)
        clear hb
        go_wp2_with fail
        refine (D4 _ HT.out).out.mono ?_
        rintro e wd6 ⟨rfl, hb⟩
        replace HT := Lib.hid (HT.out.call hb)
        clear hb
        go_wp2_with fail
        refine (C5 _ HT.out).out.mono ?_
        rintro e wd7 ⟨rfl, hb⟩
        replace HT := Lib.hid (HT.out.call hb)
        clear hb
        go_wp2_with fail
        refine (D5 _ HT.out).out.mono ?_
        rintro e wd8 ⟨rfl, hb⟩
        replace HT := Lib.hid (HT.out.call hb)
        clear hb
        go_wp2_with fail
        refine (C6 _ HT.out).out.mono ?_
        rintro e wa9 ⟨v, rfl, ho, hb⟩
        obtain ⟨va9, vc9, rfl⟩ := own_slice ho
        have R1 := Lib.hid (Row.of_own ho)
        replace HT := Lib.hid (HT.out.call hb)
        clear ho hb
        go_wp2_with fail
        refine (D6 _ HT.out).out.mono ?_
        rintro e wb9 ⟨v, rfl, ho, hb⟩
        obtain ⟨vd9, ve9, rfl⟩ := own_slice ho
        have R2 := Lib.hid (Row.of_own ho)
        replace R1 := Lib.hid (R1.out.below (Nat.le_refl _) hb)
        replace HT := Lib.hid (HT.out.call hb)
        clear ho hb
        go_wp2_with fail
        refine (two_rows R1.out R2.out hL3).mono ?_
        rintro e wc9 ⟨rfl, hb⟩
        replace HT := Lib.hid (HT.out.call hb)
        clear hb R1 R2
        go_wp2_with fail
        refine (C7 _ HT.out).out.mono ?_
        rintro e w' ⟨rfl, hww⟩
        subst hww
        go_wp2_with fail
        refine (D7 _ HT.out).out.mono ?_
        rintro e w' ⟨rfl, hww⟩
        subst hww
        go_wp2_with fail
        go_ret
        exact ⟨ret_bool (by simp), HT.out.s.b⟩
end Go.Proofs.Ytahhhhacoigpmaa.STells
