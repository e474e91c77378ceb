/-
  NeedsTells answers true, whatever graph and whatever place it is given: what blocks an event, what it calls for, the net of needs, what may be called for, what matters, what may not be in, and delays are as the document's own functions have them.
-/
import Derived.Test.YtigicbnkfmbolaaCca
namespace Go.Proofs.Ytigicbnkfmbolaa.N7.Tells
open Go.RowKit Go.Shelf Go.Deep Go.Joins Go.ChangeShapes Go.WideShapes Go.Proofs.Ytigicbnkfmbolaa.B Go.Proofs.Ytigicbnkfmbolaa.R6 Go.Proofs.Ytigicbnkfmbolaa.R6.T Go.Proofs.Ytigicbnkfmbolaa.N7 Go.Proofs.Ytigicbnkfmbolaa.N7.T
set_option maxRecDepth 100000 in
set_option maxHeartbeats 40000000 in
theorem tells_walk (w : World) (EA TA : Option Addr) (ec tc : Nat) (es : List Ev) (ts : List Ti) (h : FI w EA TA es ts) (at_ : Int) :
    Calls Try.prog 3 #[FV EA TA es.length ec ts.length tc, .int .i64 at_] w fun e w' => e = .returned (.bool true) ∧ Below w.heap.size w w' := by
  have HF := Lib.hid h
  have B0 := Lib.hid (BT1.start 25 w #[.slice EA es.length ec, .slice TA ts.length tc])
  clear h
  go_enter Try.func3, Try.ntmps3
  go_wp2_with fail
  refine (awake7 _).mono ?_
  rintro e w1 ⟨rfl, hb1⟩
  have B1 := Lib.hid (B0.out.call hb1)
  obtain ⟨c0, c1⟩ := B1.out.cells
  have ll := B1.out.lt
  clear hb1 B0
  go_wp2_with fail
  refine (large7 w1 EA TA ec tc es ts).mono ?_
  rintro e w2 ⟨b, rfl, hb2, hsm⟩
  have B2 := Lib.hid (B1.out.call hb2)
  clear hb2 B1 c0 c1 ll
  cases b with
  | true =>
    go_wp2_with fail
    go_ret
    exact ⟨rfl, B2.out.b⟩
  | false =>
    obtain ⟨he20, ht150⟩ := hsm rfl
    clear hsm
    obtain ⟨c0, c1⟩ := B2.out.cells
    have ll := B2.out.lt
    go_wp2_with fail
    refine (own_any w2 EA TA es.length ec tc ts (HF.out.below B2.out.b).t (by omega)).mono ?_
    rintro e w3 ⟨v, rfl, hov, hb3⟩
    obtain ⟨TB, bc, rfl⟩ := own_slice hov
    have B3 := Lib.hid (B2.out.call hb3)
    have T : Hid (TX w EA TA TB ec tc bc w3.heap.size es ts ((w3.alloc (.cells #[.slice EA es.length ec, .slice TB ts.length bc] 30)).drew)) := Lib.hid (by
      have hba : Below w3.heap.size w3 ((w3.alloc (.cells #[.slice EA es.length ec, .slice TB ts.length bc] 30)).drew) := below_draws ((Below.refl _ _).alloc (Nat.le_refl _) _) 1
      exact ⟨B3.out.call hba, heap_new w3 _, HF.out.below (B3.out.b.trans (hba.mono B3.out.b.size)), ⟨(HF.out.below (B3.out.b.trans (hba.mono B3.out.b.size))).e, (Row.of_own hov).below (Nat.le_refl _) hba⟩⟩)
    have hs : SmF es ts := ⟨by omega, by omega⟩
    have CB := Lib.hid (fun (W : World) (hT : TX w EA TA TB ec tc bc w3.heap.size es ts W) => rw_of (blocks_of W EA TA ec tc es ts hT.g hs at_))
    have DB := Lib.hid (fun (W : World) (hT : TX w EA TA TB ec tc bc w3.heap.size es ts W) => rw_of (blocks_doc W EA TB ec bc es ts hT.d.t hs at_))
    have CC := Lib.hid (fun (W : World) (hT : TX w EA TA TB ec tc bc w3.heap.size es ts W) => rw_of (calls_of W EA TA ec tc es ts hT.g hs at_))
    have DC := Lib.hid (fun (W : World) (hT : TX w EA TA TB ec tc bc w3.heap.size es ts W) => rw_of (calls_doc W EA TB ec bc es ts hT.d.t hs at_))
    have CN := Lib.hid (fun (W : World) (hT : TX w EA TA TB ec tc bc w3.heap.size es ts W) => nt_of (net_of W EA TA ec tc es ts hT.g hs) (netL_len _ _))
    have DN := Lib.hid (fun (W : World) (hT : TX w EA TA TB ec tc bc w3.heap.size es ts W) => net_doc W EA TB ec bc es ts hT.d hs)
    have CP := Lib.hid (fun (W : World) (hT : TX w EA TA TB ec tc bc w3.heap.size es ts W) => rw_of (called_of W EA TA ec tc es ts hT.g hs))
    have DP := Lib.hid (fun (W : World) (hT : TX w EA TA TB ec tc bc w3.heap.size es ts W) => rw_of (called_doc W EA TB ec bc es ts hT.d hs))
    have CM := fun (W : World) (hT : TX w EA TA TB ec tc bc w3.heap.size es ts W) => rw_of (matters_of W EA TA ec tc es ts hT.g hs)
    rw [mat_inL] at CM
    replace CM := Lib.hid CM
    have DM := Lib.hid (fun (W : World) (hT : TX w EA TA TB ec tc bc w3.heap.size es ts W) => rw_of (matters_doc W EA TB ec bc es ts hT.d hs (by omega)))
    have CX := Lib.hid (fun (W : World) (hT : TX w EA TA TB ec tc bc w3.heap.size es ts W) => rw_of (excluded_of W EA TA ec tc es ts hT.g hs))
    have DX := Lib.hid (fun (W : World) (hT : TX w EA TA TB ec tc bc w3.heap.size es ts W) => rw_of (excluded_doc W EA TB ec bc es ts hT.d hs))
    have CD := fun (W : World) (hT : TX w EA TA TB ec tc bc w3.heap.size es ts W) => delay_of W EA TA ec tc es ts hT.g hs at_
    rw [dl_doc] at CD
    replace CD := Lib.hid CD
    have DD := Lib.hid (fun (W : World) (hT : TX w EA TA TB ec tc bc w3.heap.size es ts W) => delay_doc W EA TB ec bc es ts hT.d.t hs at_)
    have HALL := fun (W : World) (A B : Option Addr) (c d : Nat) (h1 : Nt W A (netL es.length (needS es.length ts))) (h2 : Nt W B (netL es.length (needS es.length ts))) => nt_all (c := c) (d := d) h1 h2 (by rw [netL_len]; omega) (fun l hl => by
      obtain ⟨a, _, rfl⟩ := List.mem_map.1 hl
      have := inL_len es.length (needS es.length ts a); omega)
    rw [netL_len] at HALL
    replace HALL := Lib.hid HALL
    have l1 := inL_len es.length (blkS es.length ts at_)
    have l2 := inL_len es.length (clS es.length ts at_)
    have l3 := inL_len es.length (pendS es ts)
    have l4 := inL_len es.length (matS es ts)
    have l5 := inL_len es.length (exclS es ts)
    clear hs hov hb3 B2 c0 c1 ll HF
    obtain ⟨c0, c1⟩ := B3.out.cells
    have ll := B3.out.lt
    generalize inL es.length (blkS es.length ts at_) = LB at *
    generalize inL es.length (clS es.length ts at_) = LC at *
    generalize netL es.length (needS es.length ts) = n at *
    generalize inL es.length (pendS es ts) = LP at *
    generalize inL es.length (matS es ts) = LM at *
    generalize inL es.length (exclS es ts) = LX at *
    generalize dlB es.length at_ ts = d at *
    go_wp2_with fail
    clear c0 c1 ll B3
    refine wp_region_T (S := TS w EA TA TB ec tc bc w3.heap.size es.length ts.length) (z := 54) (by kernel_rfl) ?_
    generalize (w3.alloc (.cells #[.slice EA es.length ec, .slice TB ts.length bc] 30)).drew = W0 at *
    generalize w3.heap.size = bx at *
    refine anyT_takeU (i := 0) (v := ?_) (by decide) rfl (by kernel_rfl) (by kernel_rfl) (by kernel_rfl) (fun _ _ _ h => h) T.out.s (by rfl) ?_ ?_
    rotate_left
    · intro W hSw
      obtain ⟨⟨q0, q1⟩, q2, q3⟩ := hSw
      go_simp
      try with_reducible rfl
    simp only [Act.put, List.setIfInBounds_toArray]
    try simp only [List.set_cons_zero, List.set_cons_succ]
    try simp only [List.getElem_toArray]
    repeat (first | simp only [List.getElem_cons_zero] | simp only [List.getElem_cons_succ])
    refine anyT_takeU (i := 1) (v := ?_) (by decide) rfl (by kernel_rfl) (by kernel_rfl) (by kernel_rfl) (fun _ _ _ h => h) T.out.s (by rfl) ?_ ?_
    rotate_left
    · intro W hSw
      go_simp
      try with_reducible rfl
    simp only [Act.put, List.setIfInBounds_toArray]
    try simp only [List.set_cons_zero, List.set_cons_succ]
    try simp only [List.getElem_toArray]
    repeat (first | simp only [List.getElem_cons_zero] | simp only [List.getElem_cons_succ])
    refine anyT_takeU (i := 3) (v := ?_) (by decide) rfl (by kernel_rfl) (by kernel_rfl) (by kernel_rfl) (fun _ _ _ h => h) T.out.s (by rfl) ?_ ?_
    rotate_left
    · intro W hSw
      obtain ⟨⟨q0, q1⟩, q2, q3⟩ := hSw
      go_simp
      try with_reducible rfl
    simp only [Act.put, List.setIfInBounds_toArray]
    try simp only [List.set_cons_zero, List.set_cons_succ]
    try simp only [List.getElem_toArray]
    repeat (first | simp only [List.getElem_cons_zero] | simp only [List.getElem_cons_succ])
    refine anyT_takeU (i := 4) (v := ?_) (by decide) rfl (by kernel_rfl) (by kernel_rfl) (by kernel_rfl) (fun _ _ _ h => h) T.out.s (by rfl) ?_ ?_
    rotate_left
    · intro W hSw
      go_simp
      try with_reducible rfl
    simp only [Act.put, List.setIfInBounds_toArray]
    try simp only [List.set_cons_zero, List.set_cons_succ]
    try simp only [List.getElem_toArray]
    repeat (first | simp only [List.getElem_cons_zero] | simp only [List.getElem_cons_succ])
    refine anyT_one' (i := 2) (by kernel_rfl) rfl (by rfl) (fun K hK => ?_)
    have HK := Lib.hid hK
    clear hK
    unfold Oper.wp
    go_simp
    refine (CB.out _ T.out).mono ?_
    rintro e w9 ⟨a1, k1, rfl, hr1, hb⟩
    have R1 := Lib.hid hr1
    clear hr1
    replace T := Lib.hid (T.out.call hb)
    clear hb
    refine HK.out _ _ (fun _ => T.out.s) ?_
    clear HK K
    refine anyT_one' (i := 5) (by kernel_rfl) rfl (by rfl) (fun K hK => ?_)
    have HK := Lib.hid hK
    clear hK
    unfold Oper.wp
    go_simp
    refine (DB.out _ T.out).mono ?_
    rintro e w9 ⟨a2, k2, rfl, hr2, hb⟩
    have R2 := Lib.hid hr2
    clear hr2
    replace R1 := Lib.hid (row_call R1.out hb)
    replace T := Lib.hid (T.out.call hb)
    clear hb
    refine HK.out _ _ (fun _ => T.out.s) ?_
    clear HK K
    refine anyT_one' (i := 6) (by kernel_rfl) rfl (by rfl) (fun K hK => ?_)
    have HK := Lib.hid hK
    clear hK
    unfold Oper.wp
    go_simp
    refine (row_same R1.out R2.out (by omega)).mono ?_
    rintro e w9 ⟨rfl, hb⟩
    clear R1 R2
    replace T := Lib.hid (T.out.call hb)
    clear hb
    refine HK.out _ _ (fun _ => T.out.s) ?_
    clear HK K
    refine anyT_takeU (i := 7) (v := ?_) (by decide) rfl (by kernel_rfl) (by kernel_rfl) (by kernel_rfl) (fun _ _ _ h => h) T.out.s (by rfl) ?_ ?_
    rotate_left
    · intro W hSw
      go_simp
      try with_reducible rfl
    simp only [Act.put, List.setIfInBounds_toArray]
    try simp only [List.set_cons_zero, List.set_cons_succ]
    try simp only [List.getElem_toArray]
    repeat (first | simp only [List.getElem_cons_zero] | simp only [List.getElem_cons_succ])
    refine anyT_takeU (i := 8) (v := ?_) (by decide) rfl (by kernel_rfl) (by kernel_rfl) (by kernel_rfl) (fun _ _ _ h => h) T.out.s (by rfl) ?_ ?_
    rotate_left
    · intro W hSw
      obtain ⟨⟨q0, q1⟩, q2, q3⟩ := hSw
      go_simp
      try with_reducible rfl
    simp only [Act.put, List.setIfInBounds_toArray]
    try simp only [List.set_cons_zero, List.set_cons_succ]
    try simp only [List.getElem_toArray]
    repeat (first | simp only [List.getElem_cons_zero] | simp only [List.getElem_cons_succ])
    refine anyT_takeU (i := 9) (v := ?_) (by decide) rfl (by kernel_rfl) (by kernel_rfl) (by kernel_rfl) (fun _ _ _ h => h) T.out.s (by rfl) ?_ ?_
    rotate_left
    · intro W hSw
      go_simp
      try with_reducible rfl
    simp only [Act.put, List.setIfInBounds_toArray]
    try simp only [List.set_cons_zero, List.set_cons_succ]
    try simp only [List.getElem_toArray]
    repeat (first | simp only [List.getElem_cons_zero] | simp only [List.getElem_cons_succ])
    refine anyT_takeU (i := 11) (v := ?_) (by decide) rfl (by kernel_rfl) (by kernel_rfl) (by kernel_rfl) (fun _ _ _ h => h) T.out.s (by rfl) ?_ ?_
    rotate_left
    · intro W hSw
      obtain ⟨⟨q0, q1⟩, q2, q3⟩ := hSw
      go_simp
      try with_reducible rfl
    simp only [Act.put, List.setIfInBounds_toArray]
    try simp only [List.set_cons_zero, List.set_cons_succ]
    try simp only [List.getElem_toArray]
    repeat (first | simp only [List.getElem_cons_zero] | simp only [List.getElem_cons_succ])
    refine anyT_takeU (i := 12) (v := ?_) (by decide) rfl (by kernel_rfl) (by kernel_rfl) (by kernel_rfl) (fun _ _ _ h => h) T.out.s (by rfl) ?_ ?_
    rotate_left
    · intro W hSw
      go_simp
      try with_reducible rfl
    simp only [Act.put, List.setIfInBounds_toArray]
    try simp only [List.set_cons_zero, List.set_cons_succ]
    try simp only [List.getElem_toArray]
    repeat (first | simp only [List.getElem_cons_zero] | simp only [List.getElem_cons_succ])
    refine anyT_one' (i := 10) (by kernel_rfl) rfl (by rfl) (fun K hK => ?_)
    have HK := Lib.hid hK
    clear hK
    unfold Oper.wp
    go_simp
    refine (CC.out _ T.out).mono ?_
    rintro e w9 ⟨a1, k1, rfl, hr1, hb⟩
    have R1 := Lib.hid hr1
    clear hr1
    replace T := Lib.hid (T.out.call hb)
    clear hb
    refine HK.out _ _ (fun _ => T.out.s) ?_
    clear HK K
    refine anyT_one' (i := 13) (by kernel_rfl) rfl (by rfl) (fun K hK => ?_)
    have HK := Lib.hid hK
    clear hK
    unfold Oper.wp
    go_simp
    refine (DC.out _ T.out).mono ?_
    rintro e w9 ⟨a2, k2, rfl, hr2, hb⟩
    have R2 := Lib.hid hr2
    clear hr2
    replace R1 := Lib.hid (row_call R1.out hb)
    replace T := Lib.hid (T.out.call hb)
    clear hb
    refine HK.out _ _ (fun _ => T.out.s) ?_
    clear HK K
    refine anyT_one' (i := 14) (by kernel_rfl) rfl (by rfl) (fun K hK => ?_)
    have HK := Lib.hid hK
    clear hK
    unfold Oper.wp
    go_simp
    refine (row_same R1.out R2.out (by omega)).mono ?_
    rintro e w9 ⟨rfl, hb⟩
    clear R1 R2
    replace T := Lib.hid (T.out.call hb)
    clear hb
    refine HK.out _ _ (fun _ => T.out.s) ?_
    clear HK K
    refine anyT_takeU (i := 15) (v := ?_) (by decide) rfl (by kernel_rfl) (by kernel_rfl) (by kernel_rfl) (fun _ _ _ h => h) T.out.s (by rfl) ?_ ?_
    rotate_left
    · intro W hSw
      go_simp
      try with_reducible rfl
    simp only [Act.put, List.setIfInBounds_toArray]
    try simp only [List.set_cons_zero, List.set_cons_succ]
    try simp only [List.getElem_toArray]
    repeat (first | simp only [List.getElem_cons_zero] | simp only [List.getElem_cons_succ])
    refine anyT_takeU (i := 16) (v := ?_) (by decide) rfl (by kernel_rfl) (by kernel_rfl) (by kernel_rfl) (fun _ _ _ h => h) T.out.s (by rfl) ?_ ?_
    rotate_left
    · intro W hSw
      go_simp
      try with_reducible rfl
    simp only [Act.put, List.setIfInBounds_toArray]
    try simp only [List.set_cons_zero, List.set_cons_succ]
    try simp only [List.getElem_toArray]
    repeat (first | simp only [List.getElem_cons_zero] | simp only [List.getElem_cons_succ])
    refine anyT_takeU (i := 17) (v := ?_) (by decide) rfl (by kernel_rfl) (by kernel_rfl) (by kernel_rfl) (fun _ _ _ h => h) T.out.s (by rfl) ?_ ?_
    rotate_left
    · intro W hSw
      obtain ⟨⟨q0, q1⟩, q2, q3⟩ := hSw
      go_simp
      try with_reducible rfl
    simp only [Act.put, List.setIfInBounds_toArray]
    try simp only [List.set_cons_zero, List.set_cons_succ]
    try simp only [List.getElem_toArray]
    repeat (first | simp only [List.getElem_cons_zero] | simp only [List.getElem_cons_succ])
    refine anyT_takeU (i := 19) (v := ?_) (by decide) rfl (by kernel_rfl) (by kernel_rfl) (by kernel_rfl) (fun _ _ _ h => h) T.out.s (by rfl) ?_ ?_
    rotate_left
    · intro W hSw
      obtain ⟨⟨q0, q1⟩, q2, q3⟩ := hSw
      go_simp
      try with_reducible rfl
    simp only [Act.put, List.setIfInBounds_toArray]
    try simp only [List.set_cons_zero, List.set_cons_succ]
    try simp only [List.getElem_toArray]
    repeat (first | simp only [List.getElem_cons_zero] | simp only [List.getElem_cons_succ])
    refine anyT_one' (i := 18) (by kernel_rfl) rfl (by rfl) (fun K hK => ?_)
    have HK := Lib.hid hK
    clear hK
    unfold Oper.wp
    go_simp
    refine (CN.out _ T.out).mono ?_
    rintro e w9 ⟨a1, k1, rfl, hr1, hb⟩
    have R1 := Lib.hid hr1
    clear hr1
    replace T := Lib.hid (T.out.call hb)
    clear hb
    refine HK.out _ _ (fun _ => T.out.s) ?_
    clear HK K
    refine anyT_one' (i := 20) (by kernel_rfl) rfl (by rfl) (fun K hK => ?_)
    have HK := Lib.hid hK
    clear hK
    unfold Oper.wp
    go_simp
    refine (DN.out _ T.out).mono ?_
    rintro e w9 ⟨a2, k2, rfl, hr2, hb⟩
    have R2 := Lib.hid hr2
    clear hr2
    replace R1 := Lib.hid (R1.out.below hb)
    replace T := Lib.hid (T.out.call hb)
    clear hb
    refine HK.out _ _ (fun _ => T.out.s) ?_
    clear HK K
    refine anyT_one' (i := 21) (by kernel_rfl) rfl (by rfl) (fun K hK => ?_)
    have HK := Lib.hid hK
    clear hK
    unfold Oper.wp
    go_simp
    refine (HALL.out _ _ _ _ _ R1.out R2.out).mono ?_
    rintro e w9 ⟨rfl, hb⟩
    clear R1 R2
    replace T := Lib.hid (T.out.call hb)
    clear hb
    refine HK.out _ _ (fun _ => T.out.s) ?_
    clear HK K
    refine anyT_takeU (i := 22) (v := ?_) (by decide) rfl (by kernel_rfl) (by kernel_rfl) (by kernel_rfl) (fun _ _ _ h => h) T.out.s (by rfl) ?_ ?_
    rotate_left
    · intro W hSw
      go_simp
      try with_reducible rfl
    simp only [Act.put, List.setIfInBounds_toArray]
    try simp only [List.set_cons_zero, List.set_cons_succ]
    try simp only [List.getElem_toArray]
    repeat (first | simp only [List.getElem_cons_zero] | simp only [List.getElem_cons_succ])
    refine anyT_takeU (i := 23) (v := ?_) (by decide) rfl (by kernel_rfl) (by kernel_rfl) (by kernel_rfl) (fun _ _ _ h => h) T.out.s (by rfl) ?_ ?_
    rotate_left
    · intro W hSw
      go_simp
      try with_reducible rfl
    simp only [Act.put, List.setIfInBounds_toArray]
    try simp only [List.set_cons_zero, List.set_cons_succ]
    try simp only [List.getElem_toArray]
    repeat (first | simp only [List.getElem_cons_zero] | simp only [List.getElem_cons_succ])
    refine anyT_takeU (i := 24) (v := ?_) (by decide) rfl (by kernel_rfl) (by kernel_rfl) (by kernel_rfl) (fun _ _ _ h => h) T.out.s (by rfl) ?_ ?_
    rotate_left
    · intro W hSw
      obtain ⟨⟨q0, q1⟩, q2, q3⟩ := hSw
      go_simp
      try with_reducible rfl
    simp only [Act.put, List.setIfInBounds_toArray]
    try simp only [List.set_cons_zero, List.set_cons_succ]
    try simp only [List.getElem_toArray]
    repeat (first | simp only [List.getElem_cons_zero] | simp only [List.getElem_cons_succ])
    refine anyT_takeU (i := 26) (v := ?_) (by decide) rfl (by kernel_rfl) (by kernel_rfl) (by kernel_rfl) (fun _ _ _ h => h) T.out.s (by rfl) ?_ ?_
    rotate_left
    · intro W hSw
      obtain ⟨⟨q0, q1⟩, q2, q3⟩ := hSw
      go_simp
      try with_reducible rfl
    simp only [Act.put, List.setIfInBounds_toArray]
    try simp only [List.set_cons_zero, List.set_cons_succ]
    try simp only [List.getElem_toArray]
    repeat (first | simp only [List.getElem_cons_zero] | simp only [List.getElem_cons_succ])
    refine anyT_one' (i := 25) (by kernel_rfl) rfl (by rfl) (fun K hK => ?_)
    have HK := Lib.hid hK
    clear hK
    unfold Oper.wp
    go_simp
    refine (CP.out _ T.out).mono ?_
    rintro e w9 ⟨a1, k1, rfl, hr1, hb⟩
    have R1 := Lib.hid hr1
    clear hr1
    replace T := Lib.hid (T.out.call hb)
    clear hb
    refine HK.out _ _ (fun _ => T.out.s) ?_
    clear HK K
    refine anyT_one' (i := 27) (by kernel_rfl) rfl (by rfl) (fun K hK => ?_)
    have HK := Lib.hid hK
    clear hK
    unfold Oper.wp
    go_simp
    refine (DP.out _ T.out).mono ?_
    rintro e w9 ⟨a2, k2, rfl, hr2, hb⟩
    have R2 := Lib.hid hr2
    clear hr2
    replace R1 := Lib.hid (row_call R1.out hb)
    replace T := Lib.hid (T.out.call hb)
    clear hb
    refine HK.out _ _ (fun _ => T.out.s) ?_
    clear HK K
    refine anyT_one' (i := 28) (by kernel_rfl) rfl (by rfl) (fun K hK => ?_)
    have HK := Lib.hid hK
    clear hK
    unfold Oper.wp
    go_simp
    refine (row_same R1.out R2.out (by omega)).mono ?_
    rintro e w9 ⟨rfl, hb⟩
    clear R1 R2
    replace T := Lib.hid (T.out.call hb)
    clear hb
    refine HK.out _ _ (fun _ => T.out.s) ?_
    clear HK K
    refine anyT_takeU (i := 29) (v := ?_) (by decide) rfl (by kernel_rfl) (by kernel_rfl) (by kernel_rfl) (fun _ _ _ h => h) T.out.s (by rfl) ?_ ?_
    rotate_left
    · intro W hSw
      go_simp
      try with_reducible rfl
    simp only [Act.put, List.setIfInBounds_toArray]
    try simp only [List.set_cons_zero, List.set_cons_succ]
    try simp only [List.getElem_toArray]
    repeat (first | simp only [List.getElem_cons_zero] | simp only [List.getElem_cons_succ])
    refine anyT_takeU (i := 30) (v := ?_) (by decide) rfl (by kernel_rfl) (by kernel_rfl) (by kernel_rfl) (fun _ _ _ h => h) T.out.s (by rfl) ?_ ?_
    rotate_left
    · intro W hSw
      go_simp
      try with_reducible rfl
    simp only [Act.put, List.setIfInBounds_toArray]
    try simp only [List.set_cons_zero, List.set_cons_succ]
    try simp only [List.getElem_toArray]
    repeat (first | simp only [List.getElem_cons_zero] | simp only [List.getElem_cons_succ])
    refine anyT_takeU (i := 31) (v := ?_) (by decide) rfl (by kernel_rfl) (by kernel_rfl) (by kernel_rfl) (fun _ _ _ h => h) T.out.s (by rfl) ?_ ?_
    rotate_left
    · intro W hSw
      obtain ⟨⟨q0, q1⟩, q2, q3⟩ := hSw
      go_simp
      try with_reducible rfl
    simp only [Act.put, List.setIfInBounds_toArray]
    try simp only [List.set_cons_zero, List.set_cons_succ]
    try simp only [List.getElem_toArray]
    repeat (first | simp only [List.getElem_cons_zero] | simp only [List.getElem_cons_succ])
    refine anyT_takeU (i := 33) (v := ?_) (by decide) rfl (by kernel_rfl) (by kernel_rfl) (by kernel_rfl) (fun _ _ _ h => h) T.out.s (by rfl) ?_ ?_
    rotate_left
    · intro W hSw
      obtain ⟨⟨q0, q1⟩, q2, q3⟩ := hSw
      go_simp
      try with_reducible rfl
    simp only [Act.put, List.setIfInBounds_toArray]
    try simp only [List.set_cons_zero, List.set_cons_succ]
    try simp only [List.getElem_toArray]
    repeat (first | simp only [List.getElem_cons_zero] | simp only [List.getElem_cons_succ])
    refine anyT_one' (i := 32) (by kernel_rfl) rfl (by rfl) (fun K hK => ?_)
    have HK := Lib.hid hK
    clear hK
    unfold Oper.wp
    go_simp
    refine (CM.out _ T.out).mono ?_
    rintro e w9 ⟨a1, k1, rfl, hr1, hb⟩
    have R1 := Lib.hid hr1
    clear hr1
    replace T := Lib.hid (T.out.call hb)
    clear hb
    refine HK.out _ _ (fun _ => T.out.s) ?_
    clear HK K
    refine anyT_one' (i := 34) (by kernel_rfl) rfl (by rfl) (fun K hK => ?_)
    have HK := Lib.hid hK
    clear hK
    unfold Oper.wp
    go_simp
    refine (DM.out _ T.out).mono ?_
    rintro e w9 ⟨a2, k2, rfl, hr2, hb⟩
    have R2 := Lib.hid hr2
    clear hr2
    replace R1 := Lib.hid (row_call R1.out hb)
    replace T := Lib.hid (T.out.call hb)
    clear hb
    refine HK.out _ _ (fun _ => T.out.s) ?_
    clear HK K
    refine anyT_one' (i := 35) (by kernel_rfl) rfl (by rfl) (fun K hK => ?_)
    have HK := Lib.hid hK
    clear hK
    unfold Oper.wp
    go_simp
    refine (row_same R1.out R2.out (by omega)).mono ?_
    rintro e w9 ⟨rfl, hb⟩
    clear R1 R2
    replace T := Lib.hid (T.out.call hb)
    clear hb
    refine HK.out _ _ (fun _ => T.out.s) ?_
    clear HK K
    refine anyT_takeU (i := 36) (v := ?_) (by decide) rfl (by kernel_rfl) (by kernel_rfl) (by kernel_rfl) (fun _ _ _ h => h) T.out.s (by rfl) ?_ ?_
    rotate_left
    · intro W hSw
      go_simp
      try with_reducible rfl
    simp only [Act.put, List.setIfInBounds_toArray]
    try simp only [List.set_cons_zero, List.set_cons_succ]
    try simp only [List.getElem_toArray]
    repeat (first | simp only [List.getElem_cons_zero] | simp only [List.getElem_cons_succ])
    refine anyT_takeU (i := 37) (v := ?_) (by decide) rfl (by kernel_rfl) (by kernel_rfl) (by kernel_rfl) (fun _ _ _ h => h) T.out.s (by rfl) ?_ ?_
    rotate_left
    · intro W hSw
      go_simp
      try with_reducible rfl
    simp only [Act.put, List.setIfInBounds_toArray]
    try simp only [List.set_cons_zero, List.set_cons_succ]
    try simp only [List.getElem_toArray]
    repeat (first | simp only [List.getElem_cons_zero] | simp only [List.getElem_cons_succ])
    refine anyT_takeU (i := 38) (v := ?_) (by decide) rfl (by kernel_rfl) (by kernel_rfl) (by kernel_rfl) (fun _ _ _ h => h) T.out.s (by rfl) ?_ ?_
    rotate_left
    · intro W hSw
      obtain ⟨⟨q0, q1⟩, q2, q3⟩ := hSw
      go_simp
      try with_reducible rfl
    simp only [Act.put, List.setIfInBounds_toArray]
    try simp only [List.set_cons_zero, List.set_cons_succ]
    try simp only [List.getElem_toArray]
    repeat (first | simp only [List.getElem_cons_zero] | simp only [List.getElem_cons_succ])
    refine anyT_takeU (i := 40) (v := ?_) (by decide) rfl (by kernel_rfl) (by kernel_rfl) (by kernel_rfl) (fun _ _ _ h => h) T.out.s (by rfl) ?_ ?_
    rotate_left
    · intro W hSw
      obtain ⟨⟨q0, q1⟩, q2, q3⟩ := hSw
      go_simp
      try with_reducible rfl
    simp only [Act.put, List.setIfInBounds_toArray]
    try simp only [List.set_cons_zero, List.set_cons_succ]
    try simp only [List.getElem_toArray]
    repeat (first | simp only [List.getElem_cons_zero] | simp only [List.getElem_cons_succ])
    refine anyT_one' (i := 39) (by kernel_rfl) rfl (by rfl) (fun K hK => ?_)
    have HK := Lib.hid hK
    clear hK
    unfold Oper.wp
    go_simp
    refine (CX.out _ T.out).mono ?_
    rintro e w9 ⟨a1, k1, rfl, hr1, hb⟩
    have R1 := Lib.hid hr1
    clear hr1
    replace T := Lib.hid (T.out.call hb)
    clear hb
    refine HK.out _ _ (fun _ => T.out.s) ?_
    clear HK K
    refine anyT_one' (i := 41) (by kernel_rfl) rfl (by rfl) (fun K hK => ?_)
    have HK := Lib.hid hK
    clear hK
    unfold Oper.wp
    go_simp
    refine (DX.out _ T.out).mono ?_
    rintro e w9 ⟨a2, k2, rfl, hr2, hb⟩
    have R2 := Lib.hid hr2
    clear hr2
    replace R1 := Lib.hid (row_call R1.out hb)
    replace T := Lib.hid (T.out.call hb)
    clear hb
    refine HK.out _ _ (fun _ => T.out.s) ?_
    clear HK K
    refine anyT_one' (i := 42) (by kernel_rfl) rfl (by rfl) (fun K hK => ?_)
    have HK := Lib.hid hK
    clear hK
    unfold Oper.wp
    go_simp
    refine (row_same R1.out R2.out (by omega)).mono ?_
    rintro e w9 ⟨rfl, hb⟩
    clear R1 R2
    replace T := Lib.hid (T.out.call hb)
    clear hb
    refine HK.out _ _ (fun _ => T.out.s) ?_
    clear HK K
    refine anyT_takeU (i := 43) (v := ?_) (by decide) rfl (by kernel_rfl) (by kernel_rfl) (by kernel_rfl) (fun _ _ _ h => h) T.out.s (by rfl) ?_ ?_
    rotate_left
    · intro W hSw
      go_simp
      try with_reducible rfl
    simp only [Act.put, List.setIfInBounds_toArray]
    try simp only [List.set_cons_zero, List.set_cons_succ]
    try simp only [List.getElem_toArray]
    repeat (first | simp only [List.getElem_cons_zero] | simp only [List.getElem_cons_succ])
    refine anyT_takeU (i := 44) (v := ?_) (by decide) rfl (by kernel_rfl) (by kernel_rfl) (by kernel_rfl) (fun _ _ _ h => h) T.out.s (by rfl) ?_ ?_
    rotate_left
    · intro W hSw
      go_simp
      try with_reducible rfl
    simp only [Act.put, List.setIfInBounds_toArray]
    try simp only [List.set_cons_zero, List.set_cons_succ]
    try simp only [List.getElem_toArray]
    repeat (first | simp only [List.getElem_cons_zero] | simp only [List.getElem_cons_succ])
    refine anyT_takeU (i := 45) (v := ?_) (by decide) rfl (by kernel_rfl) (by kernel_rfl) (by kernel_rfl) (fun _ _ _ h => h) T.out.s (by rfl) ?_ ?_
    rotate_left
    · intro W hSw
      obtain ⟨⟨q0, q1⟩, q2, q3⟩ := hSw
      go_simp
      try with_reducible rfl
    simp only [Act.put, List.setIfInBounds_toArray]
    try simp only [List.set_cons_zero, List.set_cons_succ]
    try simp only [List.getElem_toArray]
    repeat (first | simp only [List.getElem_cons_zero] | simp only [List.getElem_cons_succ])
    refine anyT_takeU (i := 46) (v := ?_) (by decide) rfl (by kernel_rfl) (by kernel_rfl) (by kernel_rfl) (fun _ _ _ h => h) T.out.s (by rfl) ?_ ?_
    rotate_left
    · intro W hSw
      go_simp
      try with_reducible rfl
    simp only [Act.put, List.setIfInBounds_toArray]
    try simp only [List.set_cons_zero, List.set_cons_succ]
    try simp only [List.getElem_toArray]
    repeat (first | simp only [List.getElem_cons_zero] | simp only [List.getElem_cons_succ])
    refine anyT_takeU (i := 48) (v := ?_) (by decide) rfl (by kernel_rfl) (by kernel_rfl) (by kernel_rfl) (fun _ _ _ h => h) T.out.s (by rfl) ?_ ?_
    rotate_left
    · intro W hSw
      obtain ⟨⟨q0, q1⟩, q2, q3⟩ := hSw
      go_simp
      try with_reducible rfl
    simp only [Act.put, List.setIfInBounds_toArray]
    try simp only [List.set_cons_zero, List.set_cons_succ]
    try simp only [List.getElem_toArray]
    repeat (first | simp only [List.getElem_cons_zero] | simp only [List.getElem_cons_succ])
    refine anyT_takeU (i := 49) (v := ?_) (by decide) rfl (by kernel_rfl) (by kernel_rfl) (by kernel_rfl) (fun _ _ _ h => h) T.out.s (by rfl) ?_ ?_
    rotate_left
    · intro W hSw
      go_simp
      try with_reducible rfl
    simp only [Act.put, List.setIfInBounds_toArray]
    try simp only [List.set_cons_zero, List.set_cons_succ]
    try simp only [List.getElem_toArray]
    repeat (first | simp only [List.getElem_cons_zero] | simp only [List.getElem_cons_succ])
    refine anyT_one' (i := 47) (by kernel_rfl) rfl (by rfl) (fun K hK => ?_)
    have HK := Lib.hid hK
    clear hK
    unfold Oper.wp
    go_simp
    refine (CD.out _ T.out).mono ?_
    rintro e w9 ⟨rfl, hb⟩
    replace T := Lib.hid (T.out.call hb)
    clear hb
    refine HK.out _ _ (fun _ => T.out.s) ?_
    clear HK K
    refine anyT_one' (i := 50) (by kernel_rfl) rfl (by rfl) (fun K hK => ?_)
    have HK := Lib.hid hK
    clear hK
    unfold Oper.wp
    go_simp
    refine (DD.out _ T.out).mono ?_
    rintro e w9 ⟨rfl, hb⟩
    replace T := Lib.hid (T.out.call hb)
    clear hb
    refine HK.out _ _ (fun _ => T.out.s) ?_
    clear HK K
    refine anyT_takeU (i := 51) (v := ?_) (by decide) rfl (by kernel_rfl) (by kernel_rfl) (by kernel_rfl) (fun _ _ _ h => h) T.out.s (by rfl) ?_ ?_
    rotate_left
    · intro W hSw
      go_simp
      try with_reducible rfl
    simp only [Act.put, List.setIfInBounds_toArray]
    try simp only [List.set_cons_zero, List.set_cons_succ]
    try simp only [List.getElem_toArray]
    repeat (first | simp only [List.getElem_cons_zero] | simp only [List.getElem_cons_succ])
    refine anyT_takeU (i := 52) (v := ?_) (by decide) rfl (by kernel_rfl) (by kernel_rfl) (by kernel_rfl) (fun _ _ _ h => h) T.out.s (by rfl) ?_ ?_
    rotate_left
    · intro W hSw
      go_simp
      try with_reducible rfl
    simp only [Act.put, List.setIfInBounds_toArray]
    try simp only [List.set_cons_zero, List.set_cons_succ]
    try simp only [List.getElem_toArray]
    repeat (first | simp only [List.getElem_cons_zero] | simp only [List.getElem_cons_succ])
    refine anyT_takeU (i := 53) (v := ?_) (by decide) rfl (by kernel_rfl) (by kernel_rfl) (by kernel_rfl) (fun _ _ _ h => h) T.out.s (by rfl) ?_ ?_
    rotate_left
    · intro W hSw
      go_simp
      try with_reducible rfl
    simp only [Act.put, List.setIfInBounds_toArray]
    try simp only [List.set_cons_zero, List.set_cons_succ]
    try simp only [List.getElem_toArray]
    repeat (first | simp only [List.getElem_cons_zero] | simp only [List.getElem_cons_succ])
    refine anyT_done (by kernel_rfl) ?_ _
    go_wp2_with fail
    go_ret
    exact ⟨rfl, T.out.f.b⟩
theorem own : ownKnob Try.prog.godebug = none := by kernel_rfl
set_option maxRecDepth 100000 in
theorem lifted (os : Os) (started : os.Started) (H : Type) (enc : TypeId × Value → H) :
    ReturnsInHanded {} Try.checked os 3 .any (Rows.needsTellsSpec.pre6 enc Try.prog Try.f3 Rows.needsTellsRow.domain false) (Rows.needsTellsSpec.post enc Try.prog Try.f3 false true false false) := by
  refine returnsInHanded_of_change_sized (C := Try.checked) own started (by kernel_rfl) Try.func3
    (ChangeSpec.witness6 (enc := enc) (C := Try.checked) false ⟨#[], #[.agg #[.slice none 0 0, .slice none 0 0], .int .i64 0], []⟩ 8 (by kernel_rfl) (by kernel_rfl) (by kernel_rfl) (by kernel_rfl)) ?_
  intro W base args ds gs before hval0 hW _ hsz0 _
  have hsz : (DataW.weightsEach Try.prog (Try.f3.params.toList ++ Rows.needsTellsSpec.plain.varTypes Try.prog) (ds ++ gs)).all (· ≤ reachBytes) = true := hsz0
  have hval : ∀ (j : Nat) t v, Try.f3.params[j]? = some t → args[j]? = some v → Value.okWide Try.prog W .any base t v := hval0
  have hW' := hW
  obtain ⟨p, q, hA0, hV, rfl, _, _⟩ := hW
  have hA : DataW.TrodAll enc Try.prog W 0 (fun _ => true) true Try.f3.params.toList args.toList ds p := hA0
  rw [Try.params3] at hA hval hsz
  obtain ⟨v0, vs0, d0, ds0, p0, q0, hargs, rfl, rfl, h0, r0⟩ := trodAll_cons hA
  obtain ⟨v1, vs1, d1, ds1, p1, q1, e1, rfl, rfl, h1, r1⟩ := trodAll_cons r0
  obtain ⟨rfl, rfl, rfl⟩ := trodAll_nil r1
  subst e1
  obtain rfl : args = #[v0, v1] := by cases args; simp_all
  obtain ⟨rfl, rfl⟩ := trodVars_none hV
  have hw0 : Wt Try.prog 25 d0 := Wt.of hsz (j := 0) rfl rfl
  obtain ⟨EA, TA, ec, tc, es, ts, rfl, he, ht, hel, htl, hge, hgt⟩ := open_flat (hval 0 _ v0 rfl rfl) h0 hw0
  obtain ⟨i1, rfl, hw1⟩ := open_int (hval 1 _ v1 rfl rfl) h1
  clear hA0 hval0 hsz0
  simp only [List.append_nil] at hW'
  have hlt0 := fun x hx => hW'.lt x hx
  refine (tells_walk W EA TA ec tc es ts ⟨he, ht⟩ i1).mono fun e W' ⟨he2, hg⟩ => ?_
  subst he2
  have hargs := (trodAll_cons_mk (Below.trod progLaid (by kernel_rfl) (of_decide_eq_true (by kernel_rfl)) h0 hg (fun x hx => hlt0 x (List.mem_append_left _ hx))) (trodAll_cons_mk (Below.trod progLaid (by kernel_rfl) (of_decide_eq_true (by kernel_rfl)) h1 hg (fun x hx => hlt0 x (List.mem_append_right _ (hx)))) (trodAll_mk0 (enc := enc) (P := Try.prog) (w := W'))))
  simp only [List.append_nil] at hargs
  exact ⟨_, rfl, _, _, _, [], p0 ++ (p1), [], hW', trodAll_cons_mk (shut_bool Try.underlying4 _) trodAll_mk0, hargs, rfl, hg.frame _, fun h => by cases h⟩
theorem proved : Rows.NeedsTellsSaid :=
  OpenClaim.holds_of_wide 3 Try.f3 rfl rfl rfl rfl rfl rfl rfl ⟨rfl, rfl, rfl, rfl, rfl⟩ rfl rfl rfl rfl rfl (by kernel_rfl) Try.func3 (by kernel_rfl)
    (of_decide_eq_true (by kernel_rfl)) (by unfold Func.isWrapper; first | (rw [if_pos (by decide +kernel)]; kernel_rfl) | (rw [if_neg (by decide +kernel)]; exact ⟨rfl, rfl⟩))
    (fun os started H enc _ => lifted os started H enc)
end Go.Proofs.Ytigicbnkfmbolaa.N7.Tells
