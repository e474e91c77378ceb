/-
  StaffChains: of every graph the law answers true, and its argument reads as it did. Conditions: none.
-/
import Derived.Test.YtahhhhacoigpmaaSabh
import Derived.Test.YtahhhhacoigpmaaChecked
import Derived.Test.YtahhhhacoigpmaaRows
import Derived.ProofKit
import Derived.OpenShut
namespace Go.Proofs.Ytahhhhacoigpmaa.SChains
open Go.ChangeShapes Go.WideShapes Go.ChangeAt Go.RowKit Go.Shelf Go.Proofs.Ytahhhhacoigpmaa.B Go.Proofs.Ytahhhhacoigpmaa.SF
theorem zeroS (w : World) : (zeroValue 9).run Try.prog w = .ok (.string ⟨#[]⟩) w := Try.zeroValue9 w
theorem zeroB (w : World) : (zeroValue 4).run Try.prog w = .ok (.bool false) w := Try.zeroValue4 w
/-- What lies there while the users are gone through. -/
structure LI (w3 : World) (sm k : Nat) (g : Gr) (wr : World) : Prop where
  b : Below w3.heap.size w3 wr
  m : MapV wr Try.prog 9 (.string ⟨#[]⟩) sm k (subF g k)
theorem LI.step {w3 wr : World} {sm k : Nat} {g : Gr} (h : LI w3 sm k g wr) (hsm : w3.heap.size ≤ sm) (hk : k ≤ 1000) (hs : g.us[k]!.name.size ≤ 140737488351232) (o : Obj) :
    ∃ w9, (Instr.mapUpdate 50 (.map (some sm)) (.string g.us[k]!.name) (.string g.us[k]!.sub)).run Try.prog (wr.alloc o) = .ok () w9 ∧ LI w3 sm (k + 1) g w9 := by
  have hb := (Below.refl wr.heap.size wr).alloc (Nat.le_refl _) o
  obtain ⟨w9, r1, r2, r3⟩ := (h.m.below (Nat.le_refl _) hb).update lawS Try.underlying50 (by unfold maxLen; omega) (keyS hs) (.string g.us[k]!.sub)
  have hba := h.b.trans (hb.mono h.b.size)
  exact ⟨w9, r1, ⟨hba.grown r3 hba.size (fun q hq => by cases hq; exact hsm), r2⟩⟩
set_option maxRecDepth 100000 in
set_option maxHeartbeats 8000000 in
theorem walk (w : World) (g : Gr) (hI : InG w g) (hz : SzG g) (hcap : ∀ u ∈ g.us, u.roles.length ≤ u.rc) :
    Calls Try.prog 5 #[.agg #[.slice g.ga g.gs.length g.gc, .slice g.ea g.es.length g.ec, .slice g.ra g.rs.length g.rc, .slice g.ua g.us.length g.uc]] w fun e w' => e = .returned (.bool true) ∧ Below w.heap.size w w' := by
  have HB := Lib.hid ((Below.refl w.heap.size w).alloc (Nat.le_refl _) (.cells #[.slice g.ga g.gs.length g.gc, .slice g.ea g.es.length g.ec, .slice g.ra g.rs.length g.rc, .slice g.ua g.us.length g.uc] 27))
  have HX := Lib.hid (heap_new w (.cells #[.slice g.ga g.gs.length g.gc, .slice g.ea g.es.length g.ec, .slice g.ra g.rs.length g.rc, .slice g.ua g.us.length g.uc] 27))
  have HI := Lib.hid hI
  have HZ := Lib.hid hz
  have HC := Lib.hid hcap
  clear hI hz hcap
  go_enter Try.func5, Try.ntmps5
  go_wp2_with fail
  refine (awake_any _).mono ?_
  rintro e w1 ⟨rfl, hb1⟩
  have HB1 := Lib.hid (HB.out.trans (hb1.mono HB.out.size))
  have HX1 := Lib.hid ((hb1.block _ (blk_lt HX.out)).trans HX.out)
  have c0 := cell_blk (i := 0) HX1.out rfl
  have c1 := cell_blk (i := 1) HX1.out rfl
  have c2 := cell_blk (i := 2) HX1.out rfl
  have c3 := cell_blk (i := 3) HX1.out rfl
  have l1 := blk_lt HX1.out
  clear hb1 HB HX
  go_wp2_with fail
  refine (large_any w1 g (HI.out.below (Nat.le_refl _) HB1.out) HZ.out).mono ?_
  rintro e w2 ⟨lb, rfl, _, hb2⟩
  have HB2 := Lib.hid (HB1.out.trans (hb2.mono HB1.out.size))
  have HX2 := Lib.hid ((hb2.block _ (blk_lt HX1.out)).trans HX1.out)
  clear hb2 HB1 HX1 c0 c1 c2 c3 l1
  have c0 := cell_blk (i := 0) HX2.out rfl
  have c1 := cell_blk (i := 1) HX2.out rfl
  have c2 := cell_blk (i := 2) HX2.out rfl
  have c3 := cell_blk (i := 3) HX2.out rfl
  have l2 := blk_lt HX2.out
  cases lb
  case true =>
    go_wp2_with fail
    go_ret
    exact ⟨rfl, HB2.out⟩
  cases hm : mayL g
  case false =>
    have hne : (((checkL g).2.2 : Int) != 0) = true := by
      unfold mayL at hm
      rw [bne_iff_ne]
      have : ¬ (checkL g).2.2 = 0 := by simpa using hm
      omega
    have CN := Lib.hid (new_not w2 g (HI.out.below (Nat.le_refl _) HB2.out) HZ.out HC.out hm)
    generalize (checkL g).2.2 = cc at *
    clear hm
    go_wp2_with fail
    refine CN.out.mono ?_
    rintro e w3 ⟨rfl, hb3⟩
    have HB3 := Lib.hid (HB2.out.trans (hb3.mono HB2.out.size))
    clear hb3
    go_wp2_with fail
    go_ret
    exact ⟨rfl, HB3.out⟩
  have CN := Lib.hid (new_may w2 g (HI.out.below (Nat.le_refl _) HB2.out) HZ.out HC.out hm)
  have HM := Lib.hid hm
  clear hm
  go_wp2_with fail
  refine CN.out.mono ?_
  rintro e w3 ⟨sb, A, M, rfl, hS, hM⟩
  have HW := Lib.hid (hS.from HB2.out)
  have HMK := Lib.hid hM
  have HOK := Lib.hid (hM.ok HM.out HZ.out)
  have HX3 := Lib.hid ((hS.b.block _ (blk_lt HX2.out)).trans HX2.out)
  clear CN hS hM c0 c1 c2 c3 l2 HX2
  have hfew : g.us.length ≤ 40 := by rw [← HMK.out.len]; exact HOK.out.few
  obtain ⟨ua, hua⟩ : ∃ ua, g.ua = ua := ⟨_, rfl⟩
  have HUA := Lib.hid hua
  rw [hua] at HX3 ⊢
  clear hua
  have c3 : w3.cell? ⟨w.heap.size, 3, none⟩ = some (.slice ua g.us.length g.uc) := cell_blk (i := 3) HX3.out rfl
  have l3 := blk_lt HX3.out
  have hmm := @run_makeMap Try.prog
  have HL0 : Hid (LI w3 w3.heap.size 0 g (w3.alloc (.map #[] 0))) := Lib.hid ⟨(Below.refl _ _).alloc (Nat.le_refl _) _, MapV.made _ _ _ _⟩
  go_wp2_with fail
  clear hmm c3 l3
  go_loopw [31] (fun i wr => ∃ k : Nat, k ≤ g.us.length ∧ i = .int .i64 k ∧ Hid (LI w3 w3.heap.size k g wr)) (fun i _ => g.us.length - (intOf i).toNat)
  case atStart => exact ⟨0, Nat.zero_le _, rfl, HL0⟩
  case round =>
    clear HL0
    obtain ⟨k, hk, rfl, HL⟩ := hrel
    have hi0 : (0 : Int) ≤ (k : Int) := Int.natCast_nonneg _
    by_cases hlt : k < g.us.length
    · obtain ⟨b, off, hA, hb, hcu⟩ := HI.out.us.at_ (k := 3) (fun _ => rfl) (by omega) hlt
      rw [HUA.out] at hA
      subst hA
      have k0 := hcu 0 _ rfl
      have k1 := hcu 1 _ rfl
      have k2 := hcu 2 _ rfl
      rw [Nat.add_zero] at k0
      have hbw : Below w.heap.size w wr := HW.out.b.trans (HL.out.b.mono HW.out.b.size)
      have hbz := hbw.size
      rw [← hbw.cell (p := ⟨b, _, none⟩) hb] at k0 k1 k2
      have hbl : b < wr.heap.size := by omega
      have hi1 : (k : Int) < (g.us.length : Int) := by omega
      obtain ⟨hsn, hss, hsr, _⟩ := HZ.out.ur _ (mem_at hlt)
      obtain ⟨w9, hrun, hn9⟩ := HL.out.step (Nat.le_refl _) (by omega) hsn (.cells #[.string g.us[k]!.name, .slice g.us[k]!.ra g.us[k]!.roles.length g.us[k]!.rc, .string g.us[k]!.sub] 52)
      have HN9 := Lib.hid hn9
      clear hcu hn9 hbw
      generalize g.us[k]! = u at *
      go_wp2_with fail
      go_roundw
      case rel => exact ⟨k + 1, hlt, by go_num, HN9⟩
      case measure => simp [intOf]; omega
    · obtain rfl : k = g.us.length := by omega
      obtain ⟨w4, hw4⟩ : ∃ w4, w4 = wr := ⟨wr, rfl⟩
      rw [← hw4]
      rw [← hw4] at HL
      clear hw4
      have HW4 := Lib.hid (HW.out.call HL.out.b)
      have HX4 := Lib.hid ((HL.out.b.block _ (blk_lt HX3.out)).trans HX3.out)
      have HSM := Lib.hid HL.out.m
      have c3 : w4.cell? ⟨w.heap.size, 3, none⟩ = some (.slice ua g.us.length g.uc) := cell_blk (i := 3) HX4.out rfl
      have l3 := blk_lt HX4.out
      have hzm := HL.out.m.lt
      obtain ⟨sm, hsm⟩ : ∃ sm, sm = w3.heap.size := ⟨_, rfl⟩
      rw [← hsm] at HSM hzm ⊢
      clear hlt HL hk HW HX3 hi0 hsm
      go_wp2_with fail
      clear c3 l3
      go_loopw [44] (fun i wr => ∃ k : Nat, k ≤ g.us.length ∧ i = .int .i64 k ∧ Hid (Below w4.heap.size w4 wr)) (fun i _ => g.us.length - (intOf i).toNat)
      case atStart => exact ⟨0, Nat.zero_le _, rfl, Lib.hid (Below.refl _ _)⟩
      case round =>
        obtain ⟨k, hk, rfl, HB4⟩ := hrel
        have hi0 : (0 : Int) ≤ (k : Int) := Int.natCast_nonneg _
        have HWr := Lib.hid (HW4.out.call HB4.out)
        by_cases hlt : k < g.us.length
        · obtain ⟨b, off, hA, hb, hcu⟩ := HI.out.us.at_ (k := 3) (fun _ => rfl) (by omega) hlt
          rw [HUA.out] at hA
          subst hA
          have k0 := hcu 0 _ rfl
          have k1 := hcu 1 _ rfl
          have k2 := hcu 2 _ rfl
          rw [Nat.add_zero] at k0
          have hbz := HWr.out.b.size
          rw [← HWr.out.b.cell (p := ⟨b, _, none⟩) hb] at k0 k1 k2
          have hbl : b < wr.heap.size := by omega
          have hi1 : (k : Int) < (g.us.length : Int) := by omega
          obtain ⟨hsn, hss, hsr, _⟩ := HZ.out.ur _ (mem_at hlt)
          have hkM : k < M.length := by rw [HMK.out.len]; exact hlt
          have hnk := HMK.out.name k hkM
          have hpl := place_at HOK.out hkM
          rw [hnk] at hpl
          obtain ⟨m, hG⟩ := chG_of HMK.out HM.out HOK.out hkM
          obtain ⟨V, hV⟩ : ∃ V, V = wr.alloc (.cells #[.string g.us[k]!.name, .slice g.us[k]!.ra g.us[k]!.roles.length g.us[k]!.rc, .string g.us[k]!.sub] 52) := ⟨_, rfl⟩
          have hVz : V.heap.size = wr.heap.size + 1 := by rw [hV, World.size_alloc]
          have hbV : Below wr.heap.size wr V := by rw [hV]; exact (Below.refl _ _).alloc (Nat.le_refl _) _
          have hyV : V.heap[wr.heap.size]? = some (.cells #[.string g.us[k]!.name, .slice g.us[k]!.ra g.us[k]!.roles.length g.us[k]!.rc, .string g.us[k]!.sub] 52 (0, 0)) := by rw [hV]; exact heap_new _ _
          have HWV := Lib.hid (HWr.out.call hbV)
          have CC := Lib.hid (chain_any V sb A M HWV.out.st HOK.out g.us[k]!.name hsn)
          rw [hpl] at CC
          have HG := Lib.hid hG
          have HBV := Lib.hid (HB4.out.trans (hbV.mono HB4.out.size))
          have HYV := Lib.hid hyV
          have HNK := Lib.hid hnk
          have HPL := Lib.hid hpl
          have CN := Lib.hid (fun W (h : StI W sb A M) (s : Int) h1 h2 => next_any W sb A M h HOK.out g.us[k]!.name hsn s h1 h2)
          rw [hpl] at CN
          clear hcu hG hbV hyV hnk hpl HWr HB4
          generalize hu : g.us[k]! = u at *
          have HU := Lib.hid hu
          clear hu
          go_wp2_with fail
          rw [← hV]
          clear hV k0 k1 k2
          refine CC.out.mono ?_
          rintro e w5 ⟨v, rfl, ho, hb5⟩
          have hlen := HG.out.len
          have hm40 := HG.out.few
          obtain ⟨gl, vc, rfl, hglB, hgl⟩ := own_head ho (by omega)
          have HO := Lib.hid ho
          have HW5 := Lib.hid (HWV.out.call hb5)
          have HB5 := Lib.hid (HBV.out.trans (hb5.mono HBV.out.size))
          have HY5 := Lib.hid ((hb5.block _ (by omega)).trans HYV.out)
          have HN := Lib.hid (fun i (hi : i < m + 1) => show w5.cell? ⟨gl, i, none⟩ = some (.string M[(chain M (k : Int))[i]!]!.name) from (HO.out.cellAt i (by omega)).trans (by
            unfold nmC nmL
            rw [List.getElem?_map, List.getElem?_map, List.getElem?_eq_getElem (by omega), getElem!_pos (chain M (k : Int)) i (by omega)]; rfl))
          have hub : wr.heap.size < w5.heap.size := by have := hb5.size; omega
          have hsm5 : sm < w5.heap.size := by have := HB5.out.size; omega
          rw [hlen]
          have HM5 := Lib.hid (HSM.out.below (Nat.le_refl _) HB5.out)
          clear ho hb5 CC HWV HBV HYV HO
          have hsl := HMK.out.name _ (HG.out.lt m (by omega))
          have hszl : M[(chain M (k : Int))[m]!]!.name.size ≤ 140737488351232 := HOK.out.names _ (mem_at (HG.out.lt m (by omega)))
          have hsz0 : ∀ i, i < m + 1 → M[(chain M (k : Int))[i]!]!.name.size ≤ 140737488351232 := fun i hi => HOK.out.names _ (mem_at (HG.out.lt i hi))
          have HLOOK := Lib.hid (fun (W : World) (hb : Below w5.heap.size w5 W) i (hi : i < m + 1) => show (Instr.lookup 50 (.map (some sm)) (.string M[(chain M (k : Int))[i]!]!.name) false).run Try.prog W = .ok (.string g.us[(chain M (k : Int))[i]!]!.sub) W from by
            have h1 := (HM5.out.below (Nat.le_refl _) hb).look lawS Try.underlying50 (zeroS W) (keyS (hsz0 i hi))
            have hl2 := HG.out.lt i hi
            rw [HMK.out.name _ hl2, subF_at HM.out _ (by rw [← HMK.out.len]; exact hl2) (Nat.le_refl _), ← HMK.out.name _ hl2] at h1
            exact h1)
          have hF0 : M[(chain M (k : Int))[0]!]!.name = u.name := by rw [HG.out.head]; exact HNK.out
          have hFL : g.us[(chain M (k : Int))[m]!]!.sub.toList.isEmpty = true := by rw [HG.out.last]; rfl
          have S0 : Hid (w5.drew.cell? ⟨gl, 0, none⟩ = some (.string u.name) ∧ w5.drew.cell? ⟨gl, m, none⟩ = some (.string M[(chain M (k : Int))[m]!]!.name) ∧ w5.drew.cell? ⟨wr.heap.size, 0, none⟩ = some (.string u.name) ∧ (Instr.lookup 50 (.map (some sm)) (.string M[(chain M (k : Int))[m]!]!.name) false).run Try.prog w5.drew = .ok (.string g.us[(chain M (k : Int))[m]!]!.sub) w5.drew) := Lib.hid ⟨by rw [← hF0]; exact HN.out 0 (by omega), HN.out m (by omega), cell_blk (i := 0) HY5.out rfl, HLOOK.out _ (below_draws (Below.refl _ _) 1) m (by omega)⟩
          have CN1 := Lib.hid (CN.out w5.drew (HW5.out.call (below_draws (Below.refl _ _) 1)).st 1000 (by omega) (by omega))
          rw [HG.out.long] at CN1
          have SD := fun (W : World) (hb : Below w5.heap.size w5 W) => Lib.hid (show W.cell? ⟨gl, 0, none⟩ = some (.string u.name) ∧ W.cell? ⟨gl, m, none⟩ = some (.string M[(chain M (k : Int))[m]!]!.name) ∧ W.cell? ⟨wr.heap.size, 0, none⟩ = some (.string u.name) ∧ (Instr.lookup 50 (.map (some sm)) (.string M[(chain M (k : Int))[m]!]!.name) false).run Try.prog W = .ok (.string g.us[(chain M (k : Int))[m]!]!.sub) W from
            ⟨(hb.cell (p := ⟨gl, 0, none⟩) hgl).trans S0.out.1, (hb.cell (p := ⟨gl, m, none⟩) hgl).trans S0.out.2.1, (hb.cell (p := ⟨wr.heap.size, 0, none⟩) hub).trans S0.out.2.2.1, HLOOK.out W hb m (by omega)⟩)
          have hlnm : ∃ ln, ln = M[(chain M (k : Int))[m]!]!.name := ⟨_, rfl⟩
          obtain ⟨ln, hln⟩ := hlnm
          have hlsm : ∃ ls, ls = g.us[(chain M (k : Int))[m]!]!.sub := ⟨_, rfl⟩
          obtain ⟨ls, hls⟩ := hlsm
          rw [← hln, ← hls] at S0 SD
          rw [← hln] at CN1
          rw [← hls] at hFL
          clear hln hls hsl hszl hF0 hlen
          generalize hnm : u.name = nm at *
          have HNM := Lib.hid hnm
          clear hnm
          have hwm : IntKind.i64.wrap (m : Int) = (m : Int) := by rw [IntKind.wrap_i64]; omega
          have hm0 : (0 : Int) ≤ (m : Int) := Int.natCast_nonneg _
          have hm1 : (m : Int) < (m : Int) + 1 := by omega
          go_wp2_with fail
          refine wp_region_T (S := fun W => W.cell? ⟨gl, 0, none⟩ = some (.string nm) ∧ W.cell? ⟨gl, m, none⟩ = some (.string ln) ∧ W.cell? ⟨wr.heap.size, 0, none⟩ = some (.string nm) ∧ (Instr.lookup 50 (.map (some sm)) (.string ln) false).run Try.prog W = .ok (.string ls) W) (z := 35) mixed ?_
          refine anyT_takeU (i := 0) (v := ?_) (by decide) rfl (by kernel_rfl) (by kernel_rfl) (by kernel_rfl) (fun _ _ _ h => h) S0.out (by rfl) ?_ ?_
          rotate_left
          · intro W9 hSw
            obtain ⟨q0, q1, q2, q3⟩ := hSw
            go_simp
            try with_reducible rfl
          simp only [Act.put, List.setIfInBounds_toArray]
          try simp only [List.set_cons_zero, List.set_cons_succ]
          try simp only [List.getElem_toArray]
          repeat (first | simp only [List.getElem_cons_zero] | simp only [List.getElem_cons_succ])
          refine anyT_takeU (i := 1) (v := ?_) (by decide) rfl (by kernel_rfl) (by kernel_rfl) (by kernel_rfl) (fun _ _ _ h => h) S0.out (by rfl) ?_ ?_
          rotate_left
          · intro W9 hSw
            obtain ⟨q0, q1, q2, q3⟩ := hSw
            go_simp
            try with_reducible rfl
          simp only [Act.put, List.setIfInBounds_toArray]
          try simp only [List.set_cons_zero, List.set_cons_succ]
          try simp only [List.getElem_toArray]
          repeat (first | simp only [List.getElem_cons_zero] | simp only [List.getElem_cons_succ])
          refine anyT_takeU (i := 2) (v := ?_) (by decide) rfl (by kernel_rfl) (by kernel_rfl) (by kernel_rfl) (fun _ _ _ h => h) S0.out (by rfl) ?_ ?_
          rotate_left
          · intro W9 hSw
            obtain ⟨q0, q1, q2, q3⟩ := hSw
            go_simp
            try with_reducible rfl
          simp only [Act.put, List.setIfInBounds_toArray]
          try simp only [List.set_cons_zero, List.set_cons_succ]
          try simp only [List.getElem_toArray]
          repeat (first | simp only [List.getElem_cons_zero] | simp only [List.getElem_cons_succ])
          refine anyT_takeU (i := 3) (v := ?_) (by decide) rfl (by kernel_rfl) (by kernel_rfl) (by kernel_rfl) (fun _ _ _ h => h) S0.out (by rfl) ?_ ?_
          rotate_left
          · intro W9 hSw
            obtain ⟨q0, q1, q2, q3⟩ := hSw
            go_simp
            try with_reducible rfl
          simp only [Act.put, List.setIfInBounds_toArray]
          try simp only [List.set_cons_zero, List.set_cons_succ]
          try simp only [List.getElem_toArray]
          repeat (first | simp only [List.getElem_cons_zero] | simp only [List.getElem_cons_succ])
          refine anyT_takeU (i := 4) (v := ?_) (by decide) rfl (by kernel_rfl) (by kernel_rfl) (by kernel_rfl) (fun _ _ _ h => h) S0.out (by rfl) ?_ ?_
          rotate_left
          · intro W9 hSw
            obtain ⟨q0, q1, q2, q3⟩ := hSw
            go_simp
            try with_reducible rfl
          simp only [Act.put, List.setIfInBounds_toArray]
          try simp only [List.set_cons_zero, List.set_cons_succ]
          try simp only [List.getElem_toArray]
          repeat (first | simp only [List.getElem_cons_zero] | simp only [List.getElem_cons_succ])
          refine anyT_takeU (i := 5) (v := ?_) (by decide) rfl (by kernel_rfl) (by kernel_rfl) (by kernel_rfl) (fun _ _ _ h => h) S0.out (by rfl) ?_ ?_
          rotate_left
          · intro W9 hSw
            obtain ⟨q0, q1, q2, q3⟩ := hSw
            go_simp
            try with_reducible rfl
          simp only [Act.put, List.setIfInBounds_toArray]
          try simp only [List.set_cons_zero, List.set_cons_succ]
          try simp only [List.getElem_toArray]
          repeat (first | simp only [List.getElem_cons_zero] | simp only [List.getElem_cons_succ])
          refine anyT_takeU (i := 6) (v := ?_) (by decide) rfl (by kernel_rfl) (by kernel_rfl) (by kernel_rfl) (fun _ _ _ h => h) S0.out (by rfl) ?_ ?_
          rotate_left
          · intro W9 hSw
            obtain ⟨q0, q1, q2, q3⟩ := hSw
            go_simp
            try with_reducible rfl
          simp only [Act.put, List.setIfInBounds_toArray]
          try simp only [List.set_cons_zero, List.set_cons_succ]
          try simp only [List.getElem_toArray]
          repeat (first | simp only [List.getElem_cons_zero] | simp only [List.getElem_cons_succ])
          refine anyT_takeU (i := 7) (v := ?_) (by decide) rfl (by kernel_rfl) (by kernel_rfl) (by kernel_rfl) (fun _ _ _ h => h) S0.out (by rfl) ?_ ?_
          rotate_left
          · intro W9 hSw
            obtain ⟨q0, q1, q2, q3⟩ := hSw
            go_simp
            try with_reducible rfl
          simp only [Act.put, List.setIfInBounds_toArray]
          try simp only [List.set_cons_zero, List.set_cons_succ]
          try simp only [List.getElem_toArray]
          repeat (first | simp only [List.getElem_cons_zero] | simp only [List.getElem_cons_succ])
          refine anyT_takeU (i := 8) (v := ?_) (by decide) rfl (by kernel_rfl) (by kernel_rfl) (by kernel_rfl) (fun _ _ _ h => h) S0.out (by rfl) ?_ ?_
          rotate_left
          · intro W9 hSw
            obtain ⟨q0, q1, q2, q3⟩ := hSw
            go_simp
            try with_reducible rfl
          simp only [Act.put, List.setIfInBounds_toArray]
          try simp only [List.set_cons_zero, List.set_cons_succ]
          try simp only [List.getElem_toArray]
          repeat (first | simp only [List.getElem_cons_zero] | simp only [List.getElem_cons_succ])
          refine anyT_takeU (i := 9) (v := ?_) (by decide) rfl (by kernel_rfl) (by kernel_rfl) (by kernel_rfl) (fun _ _ _ h => h) S0.out (by rfl) ?_ ?_
          rotate_left
          · intro W9 hSw
            obtain ⟨q0, q1, q2, q3⟩ := hSw
            go_simp
            try with_reducible rfl
          simp only [Act.put, List.setIfInBounds_toArray]
          try simp only [List.set_cons_zero, List.set_cons_succ]
          try simp only [List.getElem_toArray]
          repeat (first | simp only [List.getElem_cons_zero] | simp only [List.getElem_cons_succ])
          refine anyT_takeU (i := 10) (v := ?_) (by decide) rfl (by kernel_rfl) (by kernel_rfl) (by kernel_rfl) (fun _ _ _ h => h) S0.out (by rfl) ?_ ?_
          rotate_left
          · intro W9 hSw
            obtain ⟨q0, q1, q2, q3⟩ := hSw
            go_simp
            try with_reducible rfl
          simp only [Act.put, List.setIfInBounds_toArray]
          try simp only [List.set_cons_zero, List.set_cons_succ]
          try simp only [List.getElem_toArray]
          repeat (first | simp only [List.getElem_cons_zero] | simp only [List.getElem_cons_succ])
          refine anyT_takeU (i := 11) (v := ?_) (by decide) rfl (by kernel_rfl) (by kernel_rfl) (by kernel_rfl) (fun _ _ _ h => h) S0.out (by rfl) ?_ ?_
          rotate_left
          · intro W9 hSw
            obtain ⟨q0, q1, q2, q3⟩ := hSw
            go_simp
            try with_reducible rfl
          simp only [Act.put, List.setIfInBounds_toArray]
          try simp only [List.set_cons_zero, List.set_cons_succ]
          try simp only [List.getElem_toArray]
          repeat (first | simp only [List.getElem_cons_zero] | simp only [List.getElem_cons_succ])
          refine anyT_takeU (i := 12) (v := ?_) (by decide) rfl (by kernel_rfl) (by kernel_rfl) (by kernel_rfl) (fun _ _ _ h => h) S0.out (by rfl) ?_ ?_
          rotate_left
          · intro W9 hSw
            obtain ⟨q0, q1, q2, q3⟩ := hSw
            go_simp
            try with_reducible rfl
          simp only [Act.put, List.setIfInBounds_toArray]
          try simp only [List.set_cons_zero, List.set_cons_succ]
          try simp only [List.getElem_toArray]
          repeat (first | simp only [List.getElem_cons_zero] | simp only [List.getElem_cons_succ])
          refine anyT_takeU (i := 13) (v := ?_) (by decide) rfl (by kernel_rfl) (by kernel_rfl) (by kernel_rfl) (fun _ _ _ h => h) S0.out (by rfl) ?_ ?_
          rotate_left
          · intro W9 hSw
            obtain ⟨q0, q1, q2, q3⟩ := hSw
            go_simp
            try with_reducible rfl
          simp only [Act.put, List.setIfInBounds_toArray]
          try simp only [List.set_cons_zero, List.set_cons_succ]
          try simp only [List.getElem_toArray]
          repeat (first | simp only [List.getElem_cons_zero] | simp only [List.getElem_cons_succ])
          refine anyT_takeU (i := 14) (v := ?_) (by decide) rfl (by kernel_rfl) (by kernel_rfl) (by kernel_rfl) (fun _ _ _ h => h) S0.out (by rfl) ?_ ?_
          rotate_left
          · intro W9 hSw
            obtain ⟨q0, q1, q2, q3⟩ := hSw
            go_simp
            try with_reducible rfl
          simp only [Act.put, List.setIfInBounds_toArray]
          try simp only [List.set_cons_zero, List.set_cons_succ]
          try simp only [List.getElem_toArray]
          repeat (first | simp only [List.getElem_cons_zero] | simp only [List.getElem_cons_succ])
          refine anyT_takeU (i := 15) (v := ?_) (by decide) rfl (by kernel_rfl) (by kernel_rfl) (by kernel_rfl) (fun _ _ _ h => h) S0.out (by rfl) ?_ ?_
          rotate_left
          · intro W9 hSw
            obtain ⟨q0, q1, q2, q3⟩ := hSw
            go_simp
            try with_reducible rfl
          simp only [Act.put, List.setIfInBounds_toArray]
          try simp only [List.set_cons_zero, List.set_cons_succ]
          try simp only [List.getElem_toArray]
          repeat (first | simp only [List.getElem_cons_zero] | simp only [List.getElem_cons_succ])
          refine anyT_takeU (i := 16) (v := ?_) (by decide) rfl (by kernel_rfl) (by kernel_rfl) (by kernel_rfl) (fun _ _ _ h => h) S0.out (by rfl) ?_ ?_
          rotate_left
          · intro W9 hSw
            obtain ⟨q0, q1, q2, q3⟩ := hSw
            go_simp
            try with_reducible rfl
          simp only [Act.put, List.setIfInBounds_toArray]
          try simp only [List.set_cons_zero, List.set_cons_succ]
          try simp only [List.getElem_toArray]
          repeat (first | simp only [List.getElem_cons_zero] | simp only [List.getElem_cons_succ])
          refine anyT_takeU (i := 17) (v := ?_) (by decide) rfl (by kernel_rfl) (by kernel_rfl) (by kernel_rfl) (fun _ _ _ h => h) S0.out (by rfl) ?_ ?_
          rotate_left
          · intro W9 hSw
            obtain ⟨q0, q1, q2, q3⟩ := hSw
            go_simp
            try with_reducible rfl
          simp only [Act.put, List.setIfInBounds_toArray]
          try simp only [List.set_cons_zero, List.set_cons_succ]
          try simp only [List.getElem_toArray]
          repeat (first | simp only [List.getElem_cons_zero] | simp only [List.getElem_cons_succ])
          refine anyT_takeU (i := 18) (v := ?_) (by decide) rfl (by kernel_rfl) (by kernel_rfl) (by kernel_rfl) (fun _ _ _ h => h) S0.out (by rfl) ?_ ?_
          rotate_left
          · intro W9 hSw
            obtain ⟨q0, q1, q2, q3⟩ := hSw
            go_simp
            try with_reducible rfl
          simp only [Act.put, List.setIfInBounds_toArray]
          try simp only [List.set_cons_zero, List.set_cons_succ]
          try simp only [List.getElem_toArray]
          repeat (first | simp only [List.getElem_cons_zero] | simp only [List.getElem_cons_succ])
          refine anyT_takeU (i := 19) (v := ?_) (by decide) rfl (by kernel_rfl) (by kernel_rfl) (by kernel_rfl) (fun _ _ _ h => h) S0.out (by rfl) ?_ ?_
          rotate_left
          · intro W9 hSw
            obtain ⟨q0, q1, q2, q3⟩ := hSw
            go_simp
            try with_reducible rfl
          simp only [Act.put, List.setIfInBounds_toArray]
          try simp only [List.set_cons_zero, List.set_cons_succ]
          try simp only [List.getElem_toArray]
          repeat (first | simp only [List.getElem_cons_zero] | simp only [List.getElem_cons_succ])
          refine anyT_takeU (i := 20) (v := ?_) (by decide) rfl (by kernel_rfl) (by kernel_rfl) (by kernel_rfl) (fun _ _ _ h => h) S0.out (by rfl) ?_ ?_
          rotate_left
          · intro W9 hSw
            obtain ⟨q0, q1, q2, q3⟩ := hSw
            go_simp
            try with_reducible rfl
          simp only [Act.put, List.setIfInBounds_toArray]
          try simp only [List.set_cons_zero, List.set_cons_succ]
          try simp only [List.getElem_toArray]
          repeat (first | simp only [List.getElem_cons_zero] | simp only [List.getElem_cons_succ])
          refine anyT_takeU (i := 21) (v := ?_) (by decide) rfl (by kernel_rfl) (by kernel_rfl) (by kernel_rfl) (fun _ _ _ h => h) S0.out (by rfl) ?_ ?_
          rotate_left
          · intro W9 hSw
            obtain ⟨q0, q1, q2, q3⟩ := hSw
            go_simp
            try with_reducible rfl
          simp only [Act.put, List.setIfInBounds_toArray]
          try simp only [List.set_cons_zero, List.set_cons_succ]
          try simp only [List.getElem_toArray]
          repeat (first | simp only [List.getElem_cons_zero] | simp only [List.getElem_cons_succ])
          refine anyT_takeU (i := 22) (v := ?_) (by decide) rfl (by kernel_rfl) (by kernel_rfl) (by kernel_rfl) (fun _ _ _ h => h) S0.out (by rfl) ?_ ?_
          rotate_left
          · intro W9 hSw
            obtain ⟨q0, q1, q2, q3⟩ := hSw
            go_simp
            try with_reducible rfl
          simp only [Act.put, List.setIfInBounds_toArray]
          try simp only [List.set_cons_zero, List.set_cons_succ]
          try simp only [List.getElem_toArray]
          repeat (first | simp only [List.getElem_cons_zero] | simp only [List.getElem_cons_succ])
          refine anyT_takeU (i := 23) (v := ?_) (by decide) rfl (by kernel_rfl) (by kernel_rfl) (by kernel_rfl) (fun _ _ _ h => h) S0.out (by rfl) ?_ ?_
          rotate_left
          · intro W9 hSw
            obtain ⟨q0, q1, q2, q3⟩ := hSw
            go_simp
            try with_reducible rfl
          simp only [Act.put, List.setIfInBounds_toArray]
          try simp only [List.set_cons_zero, List.set_cons_succ]
          try simp only [List.getElem_toArray]
          repeat (first | simp only [List.getElem_cons_zero] | simp only [List.getElem_cons_succ])
          refine anyT_takeU (i := 24) (v := ?_) (by decide) rfl (by kernel_rfl) (by kernel_rfl) (by kernel_rfl) (fun _ _ _ h => h) S0.out (by rfl) ?_ ?_
          rotate_left
          · intro W9 hSw
            obtain ⟨q0, q1, q2, q3⟩ := hSw
            go_simp
            try with_reducible rfl
          simp only [Act.put, List.setIfInBounds_toArray]
          try simp only [List.set_cons_zero, List.set_cons_succ]
          try simp only [List.getElem_toArray]
          repeat (first | simp only [List.getElem_cons_zero] | simp only [List.getElem_cons_succ])
          refine anyT_takeU (i := 25) (v := ?_) (by decide) rfl (by kernel_rfl) (by kernel_rfl) (by kernel_rfl) (fun _ _ _ h => h) S0.out (by rfl) ?_ ?_
          rotate_left
          · intro W9 hSw
            obtain ⟨q0, q1, q2, q3⟩ := hSw
            go_simp
            try with_reducible rfl
          simp only [Act.put, List.setIfInBounds_toArray]
          try simp only [List.set_cons_zero, List.set_cons_succ]
          try simp only [List.getElem_toArray]
          repeat (first | simp only [List.getElem_cons_zero] | simp only [List.getElem_cons_succ])
          refine anyT_takeU (i := 27) (v := ?_) (by decide) rfl (by kernel_rfl) (by kernel_rfl) (by kernel_rfl) (fun _ _ _ h => h) S0.out (by rfl) ?_ ?_
          rotate_left
          · intro W9 hSw
            obtain ⟨q0, q1, q2, q3⟩ := hSw
            go_simp
            try with_reducible rfl
          simp only [Act.put, List.setIfInBounds_toArray]
          try simp only [List.set_cons_zero, List.set_cons_succ]
          try simp only [List.getElem_toArray]
          repeat (first | simp only [List.getElem_cons_zero] | simp only [List.getElem_cons_succ])
          refine anyT_takeU (i := 28) (v := ?_) (by decide) rfl (by kernel_rfl) (by kernel_rfl) (by kernel_rfl) (fun _ _ _ h => h) S0.out (by rfl) ?_ ?_
          rotate_left
          · intro W9 hSw
            obtain ⟨q0, q1, q2, q3⟩ := hSw
            go_simp
            try with_reducible rfl
          simp only [Act.put, List.setIfInBounds_toArray]
          try simp only [List.set_cons_zero, List.set_cons_succ]
          try simp only [List.getElem_toArray]
          repeat (first | simp only [List.getElem_cons_zero] | simp only [List.getElem_cons_succ])
          refine anyT_takeU (i := 29) (v := ?_) (by decide) rfl (by kernel_rfl) (by kernel_rfl) (by kernel_rfl) (fun _ _ _ h => h) S0.out (by rfl) ?_ ?_
          rotate_left
          · intro W9 hSw
            obtain ⟨q0, q1, q2, q3⟩ := hSw
            go_simp
            try with_reducible rfl
          simp only [Act.put, List.setIfInBounds_toArray]
          try simp only [List.set_cons_zero, List.set_cons_succ]
          try simp only [List.getElem_toArray]
          repeat (first | simp only [List.getElem_cons_zero] | simp only [List.getElem_cons_succ])
          refine anyT_takeU (i := 30) (v := ?_) (by decide) rfl (by kernel_rfl) (by kernel_rfl) (by kernel_rfl) (fun _ _ _ h => h) S0.out (by rfl) ?_ ?_
          rotate_left
          · intro W9 hSw
            obtain ⟨q0, q1, q2, q3⟩ := hSw
            go_simp
            try with_reducible rfl
          simp only [Act.put, List.setIfInBounds_toArray]
          try simp only [List.set_cons_zero, List.set_cons_succ]
          try simp only [List.getElem_toArray]
          repeat (first | simp only [List.getElem_cons_zero] | simp only [List.getElem_cons_succ])
          refine anyT_takeU (i := 31) (v := ?_) (by decide) rfl (by kernel_rfl) (by kernel_rfl) (by kernel_rfl) (fun _ _ _ h => h) S0.out (by rfl) ?_ ?_
          rotate_left
          · intro W9 hSw
            obtain ⟨q0, q1, q2, q3⟩ := hSw
            go_simp
            try with_reducible rfl
          simp only [Act.put, List.setIfInBounds_toArray]
          try simp only [List.set_cons_zero, List.set_cons_succ]
          try simp only [List.getElem_toArray]
          repeat (first | simp only [List.getElem_cons_zero] | simp only [List.getElem_cons_succ])
          refine anyT_takeU (i := 32) (v := ?_) (by decide) rfl (by kernel_rfl) (by kernel_rfl) (by kernel_rfl) (fun _ _ _ h => h) S0.out (by rfl) ?_ ?_
          rotate_left
          · intro W9 hSw
            obtain ⟨q0, q1, q2, q3⟩ := hSw
            go_simp
            try with_reducible rfl
          simp only [Act.put, List.setIfInBounds_toArray]
          try simp only [List.set_cons_zero, List.set_cons_succ]
          try simp only [List.getElem_toArray]
          repeat (first | simp only [List.getElem_cons_zero] | simp only [List.getElem_cons_succ])
          refine anyT_one' (i := 26) (by kernel_rfl) rfl (by rfl) (fun K hK => ?_)
          have HK := Lib.hid hK
          clear hK
          unfold Oper.wp
          go_simp
          refine CN1.out.mono ?_
          rintro e w6 ⟨rfl, hb6⟩
          have HB56 := Lib.hid ((below_draws (Below.refl w5.heap.size w5) 1).trans (hb6.mono (Nat.le_refl w5.heap.size)))
          have S6 := SD w6 HB56.out
          have HW6 := Lib.hid (HW5.out.call HB56.out)
          have HY6 := Lib.hid ((HB56.out.block _ hub).trans HY5.out)
          have hub6 := blk_lt HY6.out
          have hz56 := HB56.out.size
          clear hb6 CN1
          dsimp only
          refine HK.out _ _ (fun _ => S6.out) ?_
          clear HK K S0
          have S0 := S6
          refine anyT_takeU (i := 33) (v := ?_) (by decide) rfl (by kernel_rfl) (by kernel_rfl) (by kernel_rfl) (fun _ _ _ h => h) S0.out (by rfl) ?_ ?_
          rotate_left
          · intro W9 hSw
            obtain ⟨q0, q1, q2, q3⟩ := hSw
            go_simp
            try with_reducible rfl
          simp only [Act.put, List.setIfInBounds_toArray]
          try simp only [List.set_cons_zero, List.set_cons_succ]
          try simp only [List.getElem_toArray]
          repeat (first | simp only [List.getElem_cons_zero] | simp only [List.getElem_cons_succ])
          refine anyT_takeU (i := 34) (v := ?_) (by decide) rfl (by kernel_rfl) (by kernel_rfl) (by kernel_rfl) (fun _ _ _ h => h) S0.out (by rfl) ?_ ?_
          rotate_left
          · intro W9 hSw
            obtain ⟨q0, q1, q2, q3⟩ := hSw
            go_simp
            try with_reducible rfl
          simp only [Act.put, List.setIfInBounds_toArray]
          try simp only [List.set_cons_zero, List.set_cons_succ]
          try simp only [List.getElem_toArray]
          repeat (first | simp only [List.getElem_cons_zero] | simp only [List.getElem_cons_succ])
          refine anyT_done (by kernel_rfl) ?_ _
          have hmm := @run_makeMap Try.prog
          go_wp2_with fail
          clear hmm
          have HQ0 : Hid (MapV (w6.alloc (.map #[] 0)) Try.prog 9 (.bool false) w6.heap.size 0 (seenF [])) := Lib.hid (MapV.made _ _ _ _)
          clear S0 S6 SD HY5 hFL
          go_loopw [90] (fun i wr => ∃ j : Nat, j ≤ m + 1 ∧ i = .int .i64 j ∧ Hid (Below w6.heap.size w6 wr) ∧ Hid (MapV wr Try.prog 9 (.bool false) w6.heap.size j (seenF (((chain M (k : Int)).take j).map fun y => M[y]!.name)))) (fun i _ => m + 1 - (intOf i).toNat)
          case atStart => exact ⟨0, Nat.zero_le _, rfl, Lib.hid ((Below.refl _ _).alloc (Nat.le_refl _) _), HQ0⟩
          case round =>
            clear HQ0
            obtain ⟨j, hj, rfl, HB, HQ⟩ := hrel
            have hj0 : (0 : Int) ≤ (j : Int) := Int.natCast_nonneg _
            by_cases hjl : j < m + 1
            · have hj1 : (j : Int) < (m : Int) + 1 := by omega
              have hb5r : Below w5.heap.size w5 wr := HB56.out.trans (HB.out.mono hz56)
              have hzr := HB.out.size
              obtain ⟨nj, hnj⟩ : ∃ nj, nj = M[(chain M (k : Int))[j]!]!.name := ⟨_, rfl⟩
              have hsj : nj.size ≤ 140737488351232 := by rw [hnj]; exact hsz0 j hjl
              have cj : wr.cell? ⟨gl, j, none⟩ = some (.string nj) := by rw [hnj]; exact (hb5r.cell (p := ⟨gl, j, none⟩) hgl).trans (HN.out j hjl)
              have hglr : gl < wr.heap.size := by omega
              have hyr := (HB.out.block _ hub6).trans HY6.out
              have cu := cell_blk (i := 0) hyr rfl
              have lu := blk_lt hyr
              have hseen : (Instr.lookup 53 (.map (some w6.heap.size)) (.string nj) false).run Try.prog wr = .ok (.bool false) wr := by
                have h1 := HQ.out.look lawS Try.underlying53 (zeroB wr) (keyS hsj)
                rw [seenF_no (fun y hy => by
                  obtain ⟨z, hz, rfl⟩ := List.mem_map.1 hy
                  obtain ⟨i, hi, rfl⟩ := List.getElem_of_mem hz
                  rw [List.length_take] at hi
                  rw [List.getElem_take]
                  have h3 := HG.out.apart i j (by omega) hjl
                  rw [← hnj] at h3
                  rw [getElem!_pos (chain M (k : Int)) i (by omega)] at h3
                  exact h3)] at h1
                exact h1
              have hnext : nextL M (k : Int) (j : Int) = nj := by rw [hnj]; exact HG.out.step j hjl
              have CNj := Lib.hid (CN.out wr (HW6.out.call HB.out).st (j : Int) (by omega) (by omega))
              rw [hnext] at CNj
              have hup := fun (W : World) (hb : Below wr.heap.size wr W) => Lib.hid (show ∃ w9, (Instr.mapUpdate 53 (.map (some w6.heap.size)) (.string nj) (.bool true)).run Try.prog W = .ok () w9 ∧ MapV w9 Try.prog 9 (.bool false) w6.heap.size (j + 1) (seenF (((chain M (k : Int)).take (j + 1)).map fun y => M[y]!.name)) ∧ Below w6.heap.size w6 w9 from by
                obtain ⟨w9, r1, r2, r3⟩ := (HQ.out.below (Nat.le_refl _) hb).update lawS Try.underlying53 (by have := HG.out.few; unfold maxLen; omega) (keyS hsj) (.bool true)
                have hc1 := HB.out.trans (hb.mono hzr)
                refine ⟨w9, r1, ?_, hc1.grown r3 hc1.size (fun q hq => by cases hq; exact Nat.le_refl _)⟩
                rw [take_next (by have := HG.out.len; omega), List.map_append, List.map_singleton, seenF_snoc, ← hnj]
                exact r2)
              by_cases hjp : 0 < j
              · obtain ⟨i, hij⟩ : ∃ i, j = i + 1 := ⟨j - 1, by omega⟩
                obtain ⟨ni, hni⟩ : ∃ ni, ni = M[(chain M (k : Int))[i]!]!.name := ⟨_, rfl⟩
                have ci : wr.cell? ⟨gl, i, none⟩ = some (.string ni) := by rw [hni]; exact (hb5r.cell (p := ⟨gl, i, none⟩) hgl).trans (HN.out i (by omega))
                have hlk := HLOOK.out wr hb5r i (by omega)
                rw [← hni] at hlk
                have hse : g.us[(chain M (k : Int))[i]!]!.sub.toList = nj.toList := by rw [hnj, hij]; exact HG.out.next i (by omega)
                generalize g.us[(chain M (k : Int))[i]!]!.sub = si at *
                have hseb : (si.toList == nj.toList) = true := by rw [hse]; exact beq_self_eq_true _
                clear hni hnj hnext hse hb5r
                subst hij
                have hi00 : (0 : Int) ≤ (i : Int) := Int.natCast_nonneg _
                have hi01 : (i : Int) < (m : Int) + 1 := by omega
                have hi02 : (i : Int) + 1 < (m : Int) + 1 := by omega
                have hi03 : (0 : Int) < (i : Int) + 1 := by omega
                clear hjp
                go_wp2_with fail
                refine CNj.out.mono ?_
                rintro e w7 ⟨rfl, hb7⟩
                obtain ⟨w9, hrun, hq9, hb9⟩ := (hup w7 hb7).out
                have HQ9 := Lib.hid hq9
                have HB9 := Lib.hid hb9
                clear hq9 hb9 hup hb7
                go_wp2_with fail
                go_roundw
                case rel => exact ⟨i + 1 + 1, by omega, by go_num, HB9, HQ9⟩
                case measure => simp [intOf]; omega
              · have hjn : ¬ (0 : Int) < (j : Int) := by omega
                clear hnj hnext hb5r hjp
                go_wp2_with fail
                refine CNj.out.mono ?_
                rintro e w7 ⟨rfl, hb7⟩
                obtain ⟨w9, hrun, hq9, hb9⟩ := (hup w7 hb7).out
                have HQ9 := Lib.hid hq9
                have HB9 := Lib.hid hb9
                clear hq9 hb9 hup hb7
                go_wp2_with fail
                go_roundw
                case rel => exact ⟨j + 1, by omega, by go_num, HB9, HQ9⟩
                case measure => simp [intOf]; omega
            · obtain rfl : j = m + 1 := by omega
              have HBF := Lib.hid ((HB5.out.trans (HB56.out.mono HB5.out.size)).trans (HB.out.mono (by have := HB5.out.size; omega)))
              go_wp2_with fail
              go_roundw
              case rel => exact ⟨k + 1, hlt, by go_num, HBF⟩
              case measure => simp [intOf]; omega
        · obtain rfl : k = g.us.length := by omega
          go_wp2_with fail
          go_ret
          exact ⟨rfl, HWr.out.b⟩
theorem own : ownKnob Try.prog.godebug = none := by kernel_rfl
set_option maxRecDepth 100000 in
theorem lifted (os : Os) (started : os.Started) (H : Type) (enc : TypeId × Value → H) :
    ReturnsInHanded {} Try.checked os 5 .any (Rows.staffChainsSpec.pre6 enc Try.prog Try.f5 Rows.staffChainsRow.domain false) (Rows.staffChainsSpec.post enc Try.prog Try.f5 false true false false) := by
  refine returnsInHanded_of_change_sized (C := Try.checked) own started (by kernel_rfl) Try.func5
    (ChangeSpec.witness6 (enc := enc) (C := Try.checked) false ⟨#[], #[.agg #[.slice none 0 0, .slice none 0 0, .slice none 0 0, .slice none 0 0]], []⟩ 8 (by kernel_rfl) (by kernel_rfl) (by kernel_rfl) (by kernel_rfl)) ?_
  intro W base args ds gs before hval0 hW _ hsz0 _
  have hsz : (DataW.weightsEach Try.prog (Try.f5.params.toList ++ Rows.staffChainsSpec.plain.varTypes Try.prog) (ds ++ gs)).all (· ≤ reachBytes) = true := hsz0
  have hval : ∀ (j : Nat) t v, Try.f5.params[j]? = some t → args[j]? = some v → Value.okWide Try.prog W .any base t v := hval0
  have hW' := hW
  obtain ⟨p, q, hA0, hV, rfl, _, _⟩ := hW
  have hA : DataW.TrodAll enc Try.prog W 0 (fun _ => true) true Try.f5.params.toList args.toList ds p := hA0
  rw [Try.params5] at hA hval hsz
  obtain ⟨v0, vs0, d0, ds0, p0, q0, hargs, rfl, rfl, h0, r0⟩ := trodAll_cons hA
  obtain ⟨rfl, rfl, rfl⟩ := trodAll_nil r0
  obtain rfl : args = #[v0] := by cases args; simp_all
  obtain ⟨rfl, rfl⟩ := trodVars_none hV
  have hw0 : Wt Try.prog 27 d0 := Wt.of hsz (j := 0) rfl rfl
  obtain ⟨g0, rfl, hI0, hz0, hcap0, hnil0, _⟩ := open_graph (hval 0 _ v0 rfl rfl) h0 hw0
  clear hA0 hval0 hsz0
  simp only [List.append_nil] at hW'
  have hlt0 := fun x hx => hW'.lt x hx
  refine (walk W g0 hI0 hz0 hcap0).mono fun e W' ⟨he2, hg⟩ => ?_
  subst he2
  have hargs := (trodAll_cons_mk (Below.trod progLaid (by kernel_rfl) (of_decide_eq_true (by kernel_rfl)) h0 hg (fun x hx => hlt0 x (hx))) (trodAll_mk0 (enc := enc) (P := Try.prog) (w := W')))
  simp only [List.append_nil] at hargs
  exact ⟨_, rfl, _, _, _, [], p0, [], hW', trodAll_cons_mk (shut_bool Try.underlying4 _) trodAll_mk0, hargs, rfl, hg.frame _, fun h => by cases h⟩
theorem proved : Rows.StaffChainsSaid :=
  OpenClaim.holds_of_wide 5 Try.f5 rfl rfl rfl rfl rfl rfl rfl ⟨rfl, rfl, rfl, rfl, rfl⟩ rfl rfl rfl rfl rfl (by kernel_rfl) Try.func5 (by kernel_rfl)
    (of_decide_eq_true (by kernel_rfl)) (by unfold Func.isWrapper; first | (rw [if_pos (by decide +kernel)]; kernel_rfl) | (rw [if_neg (by decide +kernel)]; exact ⟨rfl, rfl⟩))
    (fun os started H enc _ => lifted os started H enc)
end Go.Proofs.Ytahhhhacoigpmaa.SChains
