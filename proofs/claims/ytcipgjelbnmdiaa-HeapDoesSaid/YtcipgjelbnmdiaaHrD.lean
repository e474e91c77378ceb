/-
  The document's own heap: Remove.
-/
import Derived.Test.YtcipgjelbnmdiaaHrC
namespace Go.Proofs.Ytcipgjelbnmdiaa.HP
open Go.RowKit Go.Shelf Go.Proofs.Ytcipgjelbnmdiaa.B Go.ChangeMaps
attribute [local go_sem] Oper.semAt_some

theorem getI_no {T : List It} {i : Int} (h : hasB T i = false) : getI T i = ⟨0, 0, 0⟩ ∧ rmI T i = T := by
  have h1 : ∀ x ∈ T, (x.id == i) = false := fun x hx => by simpa using List.any_eq_false.1 h x hx
  refine ⟨?_, ?_⟩
  · unfold getI
    rw [List.find?_eq_none.2 (fun x hx => by rw [h1 x hx]; decide)]
    rfl
  · unfold rmI
    exact List.filter_eq_self.2 (fun x hx => by have := h1 x hx; simpa using this)
/-- What Remove leaves. -/
theorem rem_fin {W0 W3 : World} {rb c : Nat} {A : Option Addr} {s : Int} {T : List It} {i : Int} {k : Nat} {v3 : Value} (hr : RH W0 rb A c s T) (hb : Below W0.heap.size W0 W3)
    (ho : W3.ownsRow W0.heap.size 37 3 v3 (0 + (k - 0) + (T.length - (k + 1))) ([] ++ ((T.drop 0).take (k - 0)).flatMap itC ++ ((T.drop (k + 1)).take (T.length - (k + 1))).flatMap itC)) (hk : k < T.length)
    (hi : rmI T i = T.take k ++ T.drop (k + 1)) :
    ∃ A' c', v3 = .slice A' (rmI T i).length c' ∧ RP W0 rb A c T.length (W3.setCell ⟨rb, 1, none⟩ (.slice A' (rmI T i).length c')) A' c' s (rmI T i) := by
  have hlen : (rmI T i).length = T.length - 1 := by rw [hi]; simp; omega
  refine put_end hr hb ho (by rw [hlen]; omega) ?_ (by have := hr.few; omega) ?_
  · rw [hi, List.flatMap_append, List.take_of_length_le (l := T.drop (k + 1)) (by simp)]
    simp
  · intro y hy
    rw [hi] at hy
    rcases List.mem_append.1 hy with h | h
    · exact hr.ok _ (List.mem_of_mem_take h)
    · exact hr.ok _ (List.mem_of_mem_drop h)
/-- The result's box is written: the heap stays. -/
theorem RP.put3 {w w2 w' : World} {rb c n c' xb yb : Nat} {A A' : Option Addr} {s : Int} {T' : List It} (h : RP w2 rb A c n w' A' c' s T') (hb : Below w.heap.size w w2) (hr : ∀ q, (Value.slice A n c).ownBlock = some q → q < w.heap.size)
    (hl : rb < w.heap.size ∧ w.heap.size ≤ xb ∧ xb < yb ∧ yb < w2.heap.size) (x : It) : RP w rb A c n (put3 w' xb 0 x) A' c' s T' where
  h := h.h.keep (put3_other (by omega)) (fun q hq => put3_other (by
    rcases h.f q hq with h9 | h9
    · have := hr q h9; omega
    · omega))
  k := (h.pre hb).k.put3 (.inr hl.2.1) 0 x
  f := (h.pre hb).f
set_option maxRecDepth 100000 in
set_option maxHeartbeats 8000000 in
theorem rremove_any (w : World) (rb c : Nat) (A : Option Addr) (s : Int) (T : List It) (h : RH w rb A c s T) (hd : DI T) (i : Int) :
    Calls Try.prog 16 #[pt rb, .int .i64 i] w fun e w' => e = .returned (.tuple #[itV (getI T i), .bool (hasB T i)]) ∧ ∃ A' c', RP w rb A c T.length w' A' c' s (rmI T i) := by
  cases hh : hasB T i with
  | false =>
    obtain ⟨g1, g2⟩ := getI_no hh
    rw [g1, g2]
    have zb : Below w.heap.size w (w.alloc (.cells #[.int .i64 0, .int .i64 0, .int .i64 0] 37)) := (Below.refl w.heap.size w).alloc (Nat.le_refl _) _
    have HZ := Lib.hid (RP.same h zb)
    have CP := Lib.hid (rplace_any _ rb c A s T (h.below zb) i)
    have e := plI_no hh
    rw [e] at CP
    clear h hd e hh g1 g2 zb
    go_enter Try.func16, Try.ntmps16
    go_wp2_with fail
    refine CP.out.mono ?_
    rintro e w1 ⟨rfl, hw⟩
    subst hw
    go_wp2_with fail
    exact bodyPost_ret (v := .tuple #[itV ⟨0, 0, 0⟩, .bool false]) (by simp [results, Try.results16, go_sem]) rfl ⟨rfl, _, _, HZ.out⟩
  | true =>
    obtain ⟨k, hk, e, hid, hg⟩ := plI_yes hd hh
    have HRM : Hid (rmI T i = T.take k ++ T.drop (k + 1)) := Lib.hid (by rw [← hid]; exact rm_split hd hk)
    rw [hg]
    obtain ⟨w1, hw1⟩ : ∃ w1, w1 = w.alloc (.cells #[.int .i64 0, .int .i64 0, .int .i64 0] 37) := ⟨_, rfl⟩
    obtain ⟨xb, hxb⟩ : ∃ xb, xb = w.heap.size := ⟨_, rfl⟩
    have hb1 : Below w.heap.size w w1 := by rw [hw1]; exact (Below.refl _ _).alloc (Nat.le_refl _) _
    have hz1 : w1.heap[xb]? = some (.cells #[.int .i64 0, .int .i64 0, .int .i64 0] 37 (0, 0)) := by rw [hw1, hxb]; exact heap_new w _
    have hR1 := h.below hb1
    have CP := Lib.hid (rplace_any w1 rb c A s T hR1 i)
    rw [e] at CP
    obtain ⟨y, hy⟩ : ∃ y, y = T[k]! := ⟨_, rfl⟩
    obtain ⟨g, hA, x0, x1, x2⟩ := hR1.at_ hk
    have hgl : g < w1.heap.size := World.block_lt_of_cell? _ _ x0
    rw [← hy] at x0 x1 x2 ⊢
    have HAE := Lib.hid hA
    obtain ⟨w2, hw2⟩ : ∃ w2, w2 = w1.alloc (.cells #[.int .i64 y.id, .int .i64 y.base, .int .i64 y.since] 37) := ⟨_, rfl⟩
    obtain ⟨yb, hyb⟩ : ∃ yb, yb = w1.heap.size := ⟨_, rfl⟩
    have hb2 : Below w1.heap.size w1 w2 := by rw [hw2]; exact (Below.refl _ _).alloc (Nat.le_refl _) _
    have HB2 := Lib.hid (hb1.trans (hb2.mono hb1.size))
    have HY2 : Hid (w2.heap[yb]? = some (.cells #[.int .i64 y.id, .int .i64 y.base, .int .i64 y.since] 37 (0, 0))) := Lib.hid (by rw [hw2, hyb]; exact heap_new w1 _)
    have HZ2 : Hid (w2.heap[xb]? = some (.cells #[.int .i64 0, .int .i64 0, .int .i64 0] 37 (0, 0))) := Lib.hid ((hb2.block xb (blk_lt hz1)).trans hz1)
    have HS2 := Lib.hid (hR1.below hb2)
    have HLT : Hid (rb < w.heap.size ∧ w.heap.size ≤ xb ∧ xb < yb ∧ yb < w2.heap.size) := Lib.hid ⟨h.lt, by omega, by rw [hyb]; exact blk_lt hz1, blk_lt HY2.out⟩
    have HROW : Hid (∀ q, (Value.slice A T.length c).ownBlock = some q → q < w.heap.size) := Lib.hid (fun q hq => by obtain ⟨B, hr⟩ := h.row; exact (hr.lt q hq).2)
    have cw1 : w1.cell? ⟨rb, 1, none⟩ = some (.slice A T.length c) := cell_blk (i := 1) hR1.box rfl
    have hlw1 := hR1.lt
    have hf := h.few
    have hk0 : (0 : Int) ≤ (k : Int) := Int.natCast_nonneg _
    have hk1 : (k : Int) < (T.length : Int) := by omega
    have hk9 : (k : Int) + 1 ≤ 1000 := by omega
    clear h hd e hh hid hg hy hz1 hR1 hb1 hb2
    obtain ⟨yi, ybs, ys⟩ := y
    simp only at x0 x1 x2 HY2 hw2
    rw [hA] at cw1
    go_enter Try.func16, Try.ntmps16
    go_upto_region 1 with fail
    rw [← hw1, ← hxb]
    clear hw1 hxb
    go_wp2_with fail
    refine CP.out.mono ?_
    rintro e w9 ⟨rfl, hw⟩
    subst hw
    go_upto_region 5 with fail
    rw [← hw2, ← hyb]
    clear hw2 hyb x0 x1 x2 hgl cw1 hlw1
    try rw [← hA]
    clear hA
    have hl := HS2.out.lt
    have c1 : w2.cell? ⟨rb, 1, none⟩ = some (.slice A T.length c) := cell_blk (i := 1) HS2.out.box rfl
    have S0 : Hid (Below w2.heap.size w2 w2.drew) := Lib.hid (below_draws (Below.refl _ _) 1)
    obtain ⟨B0, hrow⟩ := HS2.out.row
    have hcap := (own_cap hrow).1
    have HQ1 := Lib.hid (own_src hrow (Nat.zero_le k) (Nat.le_of_lt hk))
    have HQ2 := Lib.hid (own_src hrow (show k + 1 ≤ T.length from hk) (Nat.le_refl T.length))
    obtain ⟨SV1, hSV1⟩ : ∃ SV1, SV1 = (Value.slice (if c = 0 then A else A.map (·.add (0 * 3))) (k - 0) (c - 0)) := ⟨_, rfl⟩
    obtain ⟨SV2, hSV2⟩ : ∃ SV2, SV2 = (Value.slice (if c = k + 1 then A else A.map (·.add ((k + 1) * 3))) (T.length - (k + 1)) (c - (k + 1))) := ⟨_, rfl⟩
    rw [← hSV1] at HQ1
    rw [← hSV2] at HQ2
    have HC1 : Hid (∀ W, (Instr.sliceAt 47 (.slice A T.length c) none (some (.int .i64 (k : Int))) none).run Try.prog W = .ok SV1 W) := Lib.hid (fun W => by rw [hSV1]; exact run_cut_h W A T.length c k (by omega))
    have HC2 : Hid (∀ W, (Instr.sliceAt 47 (.slice A T.length c) (some (.int .i64 (IntKind.i64.wrap ((k : Int) + 1)))) none none).run Try.prog W = .ok SV2 W) := Lib.hid (fun W => by rw [hSV2, show IntKind.i64.wrap ((k : Int) + 1) = ((k + 1 : Nat) : Int) by rw [IntKind.wrap_i64]; omega]; exact run_cut_l W A T.length c (k + 1) hk)
    have HI1 := Lib.hid (flat_one (fun x => by intro u hu; simp [itC] at hu; rcases hu with rfl | rfl | rfl <;> rfl) ((T.drop 0).take (k - 0)) : ∀ u ∈ ((T.drop 0).take (k - 0)).flatMap itC, u.oneCell' = true)
    have HI2 := Lib.hid (flat_one (fun x => by intro u hu; simp [itC] at hu; rcases hu with rfl | rfl | rfl <;> rfl) ((T.drop (k + 1)).take (T.length - (k + 1))) : ∀ u ∈ ((T.drop (k + 1)).take (T.length - (k + 1))).flatMap itC, u.oneCell' = true)
    clear hSV1 hSV2 hrow hcap
    refine wp_region_T (S := fun W => Below w2.heap.size w2 W) (z := 19) (by kernel_rfl) ?_
    refine anyT_take (i := 0) 0 [] (v := ?_) rfl (by kernel_rfl) (by kernel_rfl) (by kernel_rfl) (by kernel_rfl) (fun _ _ _ h => h) S0.out (by rfl) ?_ ?_
    rotate_left
    · skip
      intro W9 hSw
      have c1' := (hSw.cell (p := ⟨rb, 1, none⟩) hl).trans c1
      have l0' := Nat.lt_of_lt_of_le hl hSw.size
      clear hSw
      go_simp
      try with_reducible rfl
    simp only [Act.put, List.setIfInBounds_toArray]
    try simp only [List.set]
    try simp only [List.set]
    try simp only [List.getElem_toArray]
    repeat (first | simp only [List.getElem_cons_zero] | simp only [List.getElem_cons_succ])
    try simp only [List.set]
    refine anyT_take (i := 2) 2 [] (v := ?_) rfl (by kernel_rfl) (by kernel_rfl) (by kernel_rfl) (by kernel_rfl) (fun _ _ _ h => h) S0.out (by rfl) ?_ ?_
    rotate_left
    · skip
      intro W9 hSw
      have c1' := (hSw.cell (p := ⟨rb, 1, none⟩) hl).trans c1
      have l0' := Nat.lt_of_lt_of_le hl hSw.size
      clear hSw
      go_simp
      try with_reducible rfl
    simp only [Act.put, List.setIfInBounds_toArray]
    try simp only [List.set]
    try simp only [List.set]
    try simp only [List.getElem_toArray]
    repeat (first | simp only [List.getElem_cons_zero] | simp only [List.getElem_cons_succ])
    try simp only [List.set]
    refine anyT_take (i := 3) 3 [] (v := ?_) rfl (by kernel_rfl) (by kernel_rfl) (by kernel_rfl) (by kernel_rfl) (fun _ _ _ h => h) S0.out (by rfl) ?_ ?_
    rotate_left
    · skip
      intro W9 hSw
      have c1' := (hSw.cell (p := ⟨rb, 1, none⟩) hl).trans c1
      have l0' := Nat.lt_of_lt_of_le hl hSw.size
      clear hSw
      go_simp
      try with_reducible rfl
    simp only [Act.put, List.setIfInBounds_toArray]
    try simp only [List.set]
    try simp only [List.set]
    try simp only [List.getElem_toArray]
    repeat (first | simp only [List.getElem_cons_zero] | simp only [List.getElem_cons_succ])
    try simp only [List.set]
    refine anyT_take (i := 4) 4 [] (v := ?_) rfl (by kernel_rfl) (by kernel_rfl) (by kernel_rfl) (by kernel_rfl) (fun _ _ _ h => h) S0.out (by rfl) ?_ ?_
    rotate_left
    · skip
      intro W9 hSw
      have c1' := (hSw.cell (p := ⟨rb, 1, none⟩) hl).trans c1
      have l0' := Nat.lt_of_lt_of_le hl hSw.size
      clear hSw
      go_simp
      try with_reducible rfl
    simp only [Act.put, List.setIfInBounds_toArray]
    try simp only [List.set]
    try simp only [List.set]
    try simp only [List.getElem_toArray]
    repeat (first | simp only [List.getElem_cons_zero] | simp only [List.getElem_cons_succ])
    try simp only [List.set]
    refine anyT_take (i := 5) 5 [] (v := ?_) rfl (by kernel_rfl) (by kernel_rfl) (by kernel_rfl) (by kernel_rfl) (fun _ _ _ h => h) S0.out (by rfl) ?_ ?_
    rotate_left
    · skip
      intro W9 hSw
      have c1' := (hSw.cell (p := ⟨rb, 1, none⟩) hl).trans c1
      have l0' := Nat.lt_of_lt_of_le hl hSw.size
      clear hSw
      go_simp
      try with_reducible rfl
    simp only [Act.put, List.setIfInBounds_toArray]
    try simp only [List.set]
    try simp only [List.set]
    try simp only [List.getElem_toArray]
    repeat (first | simp only [List.getElem_cons_zero] | simp only [List.getElem_cons_succ])
    try simp only [List.set]
    refine anyT_take (i := 6) 6 [] (v := ?_) rfl (by kernel_rfl) (by kernel_rfl) (by kernel_rfl) (by kernel_rfl) (fun _ _ _ h => h) S0.out (by rfl) ?_ ?_
    rotate_left
    · skip
      intro W9 hSw
      have c1' := (hSw.cell (p := ⟨rb, 1, none⟩) hl).trans c1
      have l0' := Nat.lt_of_lt_of_le hl hSw.size
      clear hSw
      go_simp
      try with_reducible rfl
    simp only [Act.put, List.setIfInBounds_toArray]
    try simp only [List.set]
    try simp only [List.set]
    try simp only [List.getElem_toArray]
    repeat (first | simp only [List.getElem_cons_zero] | simp only [List.getElem_cons_succ])
    try simp only [List.set]
    refine anyT_take (i := 7) 7 [] (v := SV1) rfl (by kernel_rfl) (by kernel_rfl) (by kernel_rfl) (by kernel_rfl) (fun _ _ _ h => h) S0.out (by rfl) ?_ ?_
    · skip
      intro W9 hSw
      exact exec_cut (t := 47) (x := .tmp 26) (lo := none) (hi := some (.tmp 27)) rfl (HC1.out W9)
    simp only [Act.put, List.setIfInBounds_toArray]
    try simp only [List.set]
    try simp only [List.set]
    try simp only [List.getElem_toArray]
    repeat (first | simp only [List.getElem_cons_zero] | simp only [List.getElem_cons_succ])
    try simp only [List.set]
    refine anyT_take (i := 9) 9 [] (v := ?_) rfl (by kernel_rfl) (by kernel_rfl) (by kernel_rfl) (by kernel_rfl) (fun _ _ _ h => h) S0.out (by rfl) ?_ ?_
    rotate_left
    · skip
      intro W9 hSw
      have c1' := (hSw.cell (p := ⟨rb, 1, none⟩) hl).trans c1
      have l0' := Nat.lt_of_lt_of_le hl hSw.size
      clear hSw
      go_simp
      try with_reducible rfl
    simp only [Act.put, List.setIfInBounds_toArray]
    try simp only [List.set]
    try simp only [List.set]
    try simp only [List.getElem_toArray]
    repeat (first | simp only [List.getElem_cons_zero] | simp only [List.getElem_cons_succ])
    try simp only [List.set]
    refine anyT_take (i := 10) 10 [] (v := ?_) rfl (by kernel_rfl) (by kernel_rfl) (by kernel_rfl) (by kernel_rfl) (fun _ _ _ h => h) S0.out (by rfl) ?_ ?_
    rotate_left
    · skip
      intro W9 hSw
      have c1' := (hSw.cell (p := ⟨rb, 1, none⟩) hl).trans c1
      have l0' := Nat.lt_of_lt_of_le hl hSw.size
      clear hSw
      go_simp
      try with_reducible rfl
    simp only [Act.put, List.setIfInBounds_toArray]
    try simp only [List.set]
    try simp only [List.set]
    try simp only [List.getElem_toArray]
    repeat (first | simp only [List.getElem_cons_zero] | simp only [List.getElem_cons_succ])
    try simp only [List.set]
    refine anyT_take (i := 11) 11 [] (v := ?_) rfl (by kernel_rfl) (by kernel_rfl) (by kernel_rfl) (by kernel_rfl) (fun _ _ _ h => h) S0.out (by rfl) ?_ ?_
    rotate_left
    · skip
      intro W9 hSw
      have c1' := (hSw.cell (p := ⟨rb, 1, none⟩) hl).trans c1
      have l0' := Nat.lt_of_lt_of_le hl hSw.size
      clear hSw
      go_simp
      try with_reducible rfl
    simp only [Act.put, List.setIfInBounds_toArray]
    try simp only [List.set]
    try simp only [List.set]
    try simp only [List.getElem_toArray]
    repeat (first | simp only [List.getElem_cons_zero] | simp only [List.getElem_cons_succ])
    try simp only [List.set]
    refine anyT_take (i := 12) 12 [] (v := ?_) rfl (by kernel_rfl) (by kernel_rfl) (by kernel_rfl) (by kernel_rfl) (fun _ _ _ h => h) S0.out (by rfl) ?_ ?_
    rotate_left
    · skip
      intro W9 hSw
      have c1' := (hSw.cell (p := ⟨rb, 1, none⟩) hl).trans c1
      have l0' := Nat.lt_of_lt_of_le hl hSw.size
      clear hSw
      go_simp
      try with_reducible rfl
    simp only [Act.put, List.setIfInBounds_toArray]
    try simp only [List.set]
    try simp only [List.set]
    try simp only [List.getElem_toArray]
    repeat (first | simp only [List.getElem_cons_zero] | simp only [List.getElem_cons_succ])
    try simp only [List.set]
    refine anyT_take (i := 13) 13 [] (v := ?_) rfl (by kernel_rfl) (by kernel_rfl) (by kernel_rfl) (by kernel_rfl) (fun _ _ _ h => h) S0.out (by rfl) ?_ ?_
    rotate_left
    · skip
      intro W9 hSw
      have c1' := (hSw.cell (p := ⟨rb, 1, none⟩) hl).trans c1
      have l0' := Nat.lt_of_lt_of_le hl hSw.size
      clear hSw
      go_simp
      try with_reducible rfl
    simp only [Act.put, List.setIfInBounds_toArray]
    try simp only [List.set]
    try simp only [List.set]
    try simp only [List.getElem_toArray]
    repeat (first | simp only [List.getElem_cons_zero] | simp only [List.getElem_cons_succ])
    try simp only [List.set]
    refine anyT_take (i := 14) 14 [] (v := ?_) rfl (by kernel_rfl) (by kernel_rfl) (by kernel_rfl) (by kernel_rfl) (fun _ _ _ h => h) S0.out (by rfl) ?_ ?_
    rotate_left
    · skip
      intro W9 hSw
      have c1' := (hSw.cell (p := ⟨rb, 1, none⟩) hl).trans c1
      have l0' := Nat.lt_of_lt_of_le hl hSw.size
      clear hSw
      go_simp
      try with_reducible rfl
    simp only [Act.put, List.setIfInBounds_toArray]
    try simp only [List.set]
    try simp only [List.set]
    try simp only [List.getElem_toArray]
    repeat (first | simp only [List.getElem_cons_zero] | simp only [List.getElem_cons_succ])
    try simp only [List.set]
    refine anyT_take (i := 15) 15 [] (v := SV2) rfl (by kernel_rfl) (by kernel_rfl) (by kernel_rfl) (by kernel_rfl) (fun _ _ _ h => h) S0.out (by rfl) ?_ ?_
    · skip
      intro W9 hSw
      exact exec_cut (t := 47) (x := .tmp 33) (lo := some (.tmp 35)) (hi := none) rfl (HC2.out W9)
    simp only [Act.put, List.setIfInBounds_toArray]
    try simp only [List.set]
    try simp only [List.set]
    try simp only [List.getElem_toArray]
    repeat (first | simp only [List.getElem_cons_zero] | simp only [List.getElem_cons_succ])
    try simp only [List.set]
    clear c1
    refine anyT_one' (i := 1) (by kernel_rfl) rfl (by rfl) (fun K hK => ?_)
    have HK := Lib.hid hK
    clear hK
    unfold Oper.wp
    go_simp
    obtain ⟨Wa, hWa⟩ : ∃ Wa, Wa = (w2.alloc (.cells #[] 37)).drew := ⟨_, rfl⟩
    have hWab : Below w2.heap.size w2 Wa := by rw [hWa]; exact below_draws ((Below.refl w2.heap.size w2).alloc (Nat.le_refl _) _) 1
    have HBa := Lib.hid hWab
    have hWan : Wa.heap[w2.heap.size]? = some (.cells #[] 37 (0, 0)) := by rw [hWa]; exact heap_new w2 _
    have HNWa := Lib.hid hWan
    rw [← hWa]
    clear hWab hWan hWa
    have HO0 : Hid (Wa.ownsRow w2.heap.size 37 3 (.slice (some ⟨w2.heap.size, 0, none⟩) 0 0) 0 []) := Lib.hid ⟨rfl, .inr ⟨w2.heap.size, 0, #[], rfl, Nat.le_refl _, HNWa.out, Nat.le_refl _, Nat.zero_le _, rfl, rfl⟩⟩
    refine HK.out _ _ (fun _ => HBa.out) ?_
    clear HK K
    refine anyT_one' (i := 8) (by kernel_rfl) rfl (by rfl) (fun K hK => ?_)
    have HK := Lib.hid hK
    clear hK
    refine wp_app (.tmp 22) (.tmp 28) rfl w2.heap.size _ 0 [] rfl HO0.out SV1 (k - 0) _ rfl (HQ1.out.below HBa.out) HI1.out (by omega) HBa.out.size ?_
    intro v1 Wb ho1 hg1 hat1
    have HBb := Lib.hid (app_kept HBa.out HO0.out hg1 hat1).1
    have HO1 := Lib.hid ho1
    clear ho1 hg1 hat1 HO0
    refine HK.out _ _ (fun _ => HBb.out) ?_
    clear HK K
    refine anyT_one' (i := 16) (by kernel_rfl) rfl (by rfl) (fun K hK => ?_)
    have HK := Lib.hid hK
    clear hK
    refine wp_app (.tmp 29) (.tmp 36) rfl w2.heap.size v1 _ _ rfl HO1.out SV2 (T.length - (k + 1)) _ rfl (HQ2.out.below HBb.out) HI2.out (by omega) HBb.out.size ?_
    intro v3 w3 ho3 hg3 hat3
    have HB3 := Lib.hid (app_kept HBb.out HO1.out hg3 hat3).1
    obtain ⟨A', c', rfl, hRH⟩ := rem_fin HS2.out HB3.out ho3 hk HRM.out
    have HRH := Lib.hid hRH
    clear ho3 hg3 hat3 hRH HO1
    refine HK.out _ _ (fun _ => HB3.out) ?_
    clear HK K
    refine anyT_one' (i := 17) (by kernel_rfl) rfl (by rfl) (fun K hK => ?_)
    have HK := Lib.hid hK
    clear hK
    unfold Oper.wp
    go_simp
    refine HK.out _ _ (fun _ => HB3.out) ?_
    clear HK K
    refine anyT_one' (i := 18) (by kernel_rfl) rfl (by rfl) (fun K hK => ?_)
    have HK := Lib.hid hK
    clear hK
    unfold Oper.wp
    go_simp
    refine HK.out _ _ (fun _ => HB3.out) ?_
    clear HK K
    have hb3 : w3.heap[rb]? = some (.cells #[.int .i64 s, .slice A T.length c] 49 (0, 0)) := (HB3.out.block rb hl).trans HS2.out.box
    have c13 : w3.cell? ⟨rb, 1, none⟩ = some (.slice A T.length c) := cell_blk (i := 1) hb3 rfl
    have f13 := frozen_blk (i := 1) hb3
    refine anyT_one' (i := 19) (by kernel_rfl) rfl (by rfl) (fun K hK => ?_)
    have HK := Lib.hid hK
    clear hK
    unfold Oper.wp
    go_simp
    refine HK.out _ _ (fun h => absurd rfl h) ?_
    clear HK K c13 f13 hb3
    refine anyT_done (by kernel_rfl) ?_ _
    obtain ⟨W4, hW4⟩ : ∃ W4, W4 = w3.setCell ⟨rb, 1, none⟩ (.slice A' (rmI T i).length c') := ⟨_, rfl⟩
    rw [← hW4] at HRH
    have h42 : W4.heap[xb]? = some (.cells #[.int .i64 0, .int .i64 0, .int .i64 0] 37 (0, 0)) := by rw [hW4]; exact (blk_other (by have := HLT.out; omega)).trans ((HB3.out.block _ (by have := HLT.out; omega)).trans HZ2.out)
    have h44 : W4.heap[yb]? = some (.cells #[.int .i64 yi, .int .i64 ybs, .int .i64 ys] 37 (0, 0)) := by rw [hW4]; exact (blk_other (by have := HLT.out; omega)).trans ((HB3.out.block _ (by have := HLT.out; omega)).trans HY2.out)
    have hl2 := blk_lt h42
    have hl4 := blk_lt h44
    have y0 : W4.cell? ⟨xb, 0, none⟩ = some (.int .i64 0) := cell_blk (i := 0) h42 rfl
    have y1 : W4.cell? ⟨xb, 1, none⟩ = some (.int .i64 0) := cell_blk (i := 1) h42 rfl
    have y2 : W4.cell? ⟨xb, 2, none⟩ = some (.int .i64 0) := cell_blk (i := 2) h42 rfl
    have e0 : W4.cell? ⟨yb, 0, none⟩ = some (.int .i64 yi) := cell_blk (i := 0) h44 rfl
    have e1 : W4.cell? ⟨yb, 1, none⟩ = some (.int .i64 ybs) := cell_blk (i := 1) h44 rfl
    have e2 : W4.cell? ⟨yb, 2, none⟩ = some (.int .i64 ys) := cell_blk (i := 2) h44 rfl
    have f0 := frozen_blk (i := 0) h42
    have f1 := frozen_blk (i := 1) h42
    have f2 := frozen_blk (i := 2) h42
    have z : (((W4.setCell ⟨xb, 0, none⟩ (.int .i64 yi)).setCell ⟨xb, 1, none⟩ (.int .i64 ybs)).setCell ⟨xb, 2, none⟩ (.int .i64 ys)).heap[xb]? = some (.cells #[.int .i64 yi, .int .i64 ybs, .int .i64 ys] 37 (0, 0)) := put3_blk (x := ⟨yi, ybs, ys⟩) h42
    have z0 : (((W4.setCell ⟨xb, 0, none⟩ (.int .i64 yi)).setCell ⟨xb, 1, none⟩ (.int .i64 ybs)).setCell ⟨xb, 2, none⟩ (.int .i64 ys)).cell? ⟨xb, 0, none⟩ = some (.int .i64 yi) := cell_blk (i := 0) z rfl
    have z1 : (((W4.setCell ⟨xb, 0, none⟩ (.int .i64 yi)).setCell ⟨xb, 1, none⟩ (.int .i64 ybs)).setCell ⟨xb, 2, none⟩ (.int .i64 ys)).cell? ⟨xb, 1, none⟩ = some (.int .i64 ybs) := cell_blk (i := 1) z rfl
    have z2 : (((W4.setCell ⟨xb, 0, none⟩ (.int .i64 yi)).setCell ⟨xb, 1, none⟩ (.int .i64 ybs)).setCell ⟨xb, 2, none⟩ (.int .i64 ys)).cell? ⟨xb, 2, none⟩ = some (.int .i64 ys) := cell_blk (i := 2) z rfl
    have HFIN := Lib.hid (HRH.out.put3 HB2.out HROW.out HLT.out ⟨yi, ybs, ys⟩)
    clear h42 h44 z
    go_upto_region 6 with fail
    rw [← hW4]
    clear hW4
    go_wp2_with fail
    exact bodyPost_ret (v := .tuple #[itV ⟨yi, ybs, ys⟩, .bool true]) (by simp [results, Try.results16, go_sem, z0, z1, z2]) rfl ⟨rfl, _, _, HFIN.out⟩
end Go.Proofs.Ytcipgjelbnmdiaa.HP
