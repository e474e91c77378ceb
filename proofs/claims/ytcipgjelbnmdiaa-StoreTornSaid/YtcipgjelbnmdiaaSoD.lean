/-
  Contract of store.Write.
-/
import Derived.Test.YtcipgjelbnmdiaaSoC
namespace Go.Proofs.Ytcipgjelbnmdiaa.ST
open Go.RowKit Go.Shelf Go.Proofs.Ytcipgjelbnmdiaa.B
attribute [local go_sem] Oper.semAt_some

/-- What a write does: the error, the blocks, the rest. -/
def wrS (L : List Bk) (f : Fs) (i : Int) (d : ByteArray) : Int × List Bk × Fs :=
  if reachE L.length f.down i ≠ 0 then (reachE L.length f.down i, L, f)
  else if d.size ≠ 32 then (1, L, f)
  else if tearB f.f = true then (16, L.set i.toNat (onto L[i.toNat]! (d.extract 0 f.f.pr.toNat)), ⟨f.f, true, f.wr⟩)
  else (0, L.set i.toNat (onto L[i.toNat]! d), ⟨tickF f.f, f.down, f.wr + 1⟩)
theorem flat_len {L : List Bk} (hl : ∀ b ∈ L, b.length = 32) : (L.flatMap bc).length = L.length * 32 := by
  induction L with
  | nil => rfl
  | cons b r ih =>
    rw [List.flatMap_cons, List.length_append, bc_len, hl b (by simp), ih (fun b' hb' => hl b' (by simp [hb']))]
    simp only [List.length_cons]
    omega
theorem flat_put {L : List Bk} (hl : ∀ b ∈ L, b.length = 32) {i : Nat} (hi : i < L.length) (b : Bk) (ex : List Value) :
    (L.flatMap bc ++ ex).take (i * 32) ++ bc b ++ (L.flatMap bc ++ ex).drop (i * 32 + 32) = (L.set i b).flatMap bc ++ ex := by
  induction L generalizing i with
  | nil => simp at hi
  | cons a r ih =>
    have ha := hl a (by simp)
    have hac : (bc a).length = 32 := by rw [bc_len, ha]
    cases i with
    | zero =>
      rw [List.set_cons_zero, List.flatMap_cons, List.flatMap_cons, Nat.zero_mul, List.take_zero, List.nil_append, Nat.zero_add, List.append_assoc (bc a), List.drop_left' hac, List.append_assoc]
    | succ i =>
      have e : (i + 1) * 32 = 32 + i * 32 := by omega
      rw [List.set_cons_succ, List.flatMap_cons, List.flatMap_cons, List.append_assoc (bc a), List.append_assoc (bc a), ← ih (fun b' hb' => hl b' (by simp [hb'])) (by simpa using hi), e]
      rw [List.take_append, List.take_of_length_le (by omega), hac, show 32 + i * 32 - 32 = i * 32 by omega, show 32 + i * 32 + 32 = 32 + (i * 32 + 32) by omega]
      rw [show List.drop (32 + (i * 32 + 32)) (bc a ++ (r.flatMap bc ++ ex)) = List.drop (i * 32 + 32) (r.flatMap bc ++ ex) from by rw [← List.drop_drop, List.drop_left' hac]]
      simp only [List.append_assoc]
/-- A block is stored into the row. -/
theorem wp_store_bk {op : Oper} {a : Act} {w : World} {K : Act → World → Prop} {Q : Exit → Act → World → Prop} (x y : Operand) (ho : op.op = .store 100 x y)
    (sb g c i : Nat) (L : List Bk) (f : Fs) (h : SB w sb g c L f) (hi : i < L.length) (b : Bk) (hb : b.length = 32) (hx : a.eval x = .pointer (some ⟨g, i * 32, none⟩)) (hy : a.eval y = .agg (bc b).toArray)
    (hk : ∀ w', Hid (SB w' sb g c (L.set i b) f ∧ K2 sb g w w') → K (a.put op.dst undef) w') : op.wp Try.prog a w K Q := by
  obtain ⟨ex, hx2⟩ := h.row
  have hbl : (bc b).length = 32 := by rw [bc_len, hb]
  have hfl := flat_len h.len
  have hst := run_storeCells_at Try.prog g (i * 32) 100 (bc b) 0 _ w hx2 (by rw [hbl, List.size_toArray, List.length_append, hfl]; omega) (bc_one b)
  simp only [Nat.add_zero, hbl] at hst
  rw [flat_put h.len hi b ex] at hst
  have hsv : (storeVar 100 ⟨g, i * 32, none⟩ (.agg (bc b).toArray)).run Try.prog w = .ok () (w.setRow g ((L.set i b).flatMap bc ++ ex).toArray) := by
    cases hq : Try.prog.info? 100 with
    | none => have := size_bk; rw [hq] at this; cases this
    | some j =>
      have hs : j.size = 32 := by have := size_bk; rw [hq] at this; exact Option.some.inj this
      simp [storeVar, sizeOf, typeInfo, hq, Value.cells, hs, hbl, hst]
  unfold Oper.wp execOp
  simp only [ho, hx, hy, Instr.storeAt, Instr.sureAddr, Sem.run_bind, Sem.run_pure, Result.andThen_ok, hsv]
  refine hk _ (Lib.hid ⟨{ box := ?_, row := ⟨ex, setRow_heap w g _ _ _ _ hx2⟩, len := fun b' hb' => ?_, few := by rw [List.length_set]; exact h.few, wh := h.wh, pr := h.pr }, ⟨rfl, rfl, rfl, by simp [World.setRow], fun k _ _ hkg => setRow_other w g k _ hkg⟩⟩)
  · rw [List.length_set]; exact (setRow_other w g sb _ h.ne).trans h.box
  · rcases List.mem_or_eq_of_mem_set hb' with h1 | rfl
    · exact h.len b' h1
    · exact hb
set_option maxRecDepth 100000 in
set_option maxHeartbeats 1000000 in
theorem write_no (w : World) (sb g c : Nat) (L : List Bk) (f : Fs) (h : SB w sb g c L f) (i : Int) (d : ByteArray) (hn : reachE L.length f.down i ≠ 0 ∨ d.size ≠ 32) :
    Calls Try.prog 29 #[pt sb, .int .i64 i, .string d] w fun e w' => e = .returned (.int .i64 (wrS L f i d).1) ∧ w = w' := by
  have CR := Lib.hid (reach_any w sb g c L f h i)
  by_cases h0 : reachE L.length f.down i = 0
  · have hn2 : d.size ≠ 32 := hn.resolve_left (fun e => e h0)
    have HE : Hid ((wrS L f i d).1 = 1) := Lib.hid (by unfold wrS; rw [if_neg (by simpa using h0), if_pos hn2])
    rw [h0] at CR
    have hb1 : ((d.size : Int) == 32) = false := beq_eq_false_iff_ne.2 (by omega)
    have hb2 : ((d.size : Int) != 32) = true := by rw [bne_iff_ne]; omega
    clear h0 hn hn2 h
    go_enter Try.func29, Try.ntmps29
    go_wp2_with fail
    refine CR.out.mono ?_
    rintro e w1 ⟨rfl, rfl⟩
    go_wp2_with fail
    go_ret
    exact ⟨by rw [HE.out]; rfl, rfl⟩
  · have HE : Hid ((wrS L f i d).1 = reachE L.length f.down i) := Lib.hid (by unfold wrS; rw [if_pos h0])
    obtain ⟨E, hE⟩ : ∃ E, reachE L.length f.down i = E := ⟨_, rfl⟩
    rw [hE] at CR h0 HE
    clear hE h hn
    have hb : (E == 0) = false := beq_eq_false_iff_ne.2 h0
    have hb2 : (E != 0) = true := by rw [bne_iff_ne]; exact h0
    clear h0
    go_enter Try.func29, Try.ntmps29
    go_wp2_with fail
    refine CR.out.mono ?_
    rintro e w1 ⟨rfl, rfl⟩
    go_wp2_with fail
    go_ret
    exact ⟨by rw [HE.out]; rfl, rfl⟩
theorem yields_seg {w : World} {o : Oper} {a : Act} (x : Operand) (ho : o.op = .load 100 x) (b off : Nat) (hx : a.eval x = .pointer (some ⟨b, off, none⟩)) (cs : List Value) (hc : w.rangeAt b off cs) (hl : some 32 = some cs.length) :
    (execOp a.eval o).run Try.prog w = .ok (.value (.agg cs.toArray)) w := by
  unfold execOp
  simp only [ho, hx, Instr.loadAt, Instr.sureAddr, Sem.run_bind, Sem.run_pure, Result.andThen_ok, run_loadVar_mid w b off _ cs _ hc Try.underlying100 rfl (size_bk.trans hl)]
set_option maxRecDepth 100000 in
set_option maxHeartbeats 4000000 in
theorem write_yes (w : World) (sb g c : Nat) (L : List Bk) (f : Fs) (h : SB w sb g c L f) (i : Nat) (hi : i < L.length) (d : ByteArray) (hs : d.size = 32) (hd : f.down = false) (ht : tearB f.f = false) (hw : 0 ≤ f.wr ∧ f.wr ≤ 1000000) :
    Calls Try.prog 29 #[pt sb, .int .i64 (i : Int), .string d] w fun e w' => e = .returned (.int .i64 0) ∧ SB w' sb g c (L.set i (onto L[i]! d)) ⟨tickF f.f, f.down, f.wr + 1⟩ ∧ K2 sb g w w' := by
  have h0 : reachE L.length f.down (i : Int) = 0 := by unfold reachE; rw [hd, if_neg (by decide), if_neg (by omega)]
  have CR := Lib.hid (reach_any w sb g c L f h (i : Int))
  rw [h0] at CR
  have CT := Lib.hid (tears_any w sb g c L f h)
  rw [ht] at CT
  have hb1 : ((d.size : Int) == 32) = true := by rw [hs]; rfl
  have hb2 : ((d.size : Int) != 32) = false := by rw [hs]; rfl
  have HS := Lib.hid hs
  have HU := Lib.hid Try.underlying100
  obtain ⟨b, hb⟩ : ∃ b, b = L[i]! := ⟨_, rfl⟩
  have HBL : Hid (b.length = 32) := Lib.hid (by rw [hb]; exact h.at_len hi)
  have HBE := Lib.hid hb
  have HLS : Hid (some 32 = some (bc b).length) := Lib.hid (by rw [bc_len, HBL.out])
  rw [← hb]
  clear hb
  have hwr := hw.1
  have hwr2 := hw.2
  have CB : Hid (∀ W, Calls Try.prog 53 #[.agg (bc b).toArray, .string d] W fun e w' => e = .returned (.agg (bc (onto b d)).toArray) ∧ Below W.heap.size W w') := Lib.hid (fun W => begun_any W b HBL.out d (by rw [hs]; decide))
  have HON : Hid ((onto b d).length = 32) := Lib.hid (onto_len HBL.out (by rw [hs]; decide))
  clear h0 hs hw hd ht h
  obtain ⟨fz, fd, wr⟩ := f
  simp only at hwr hwr2 CR CT ⊢
  go_enter Try.func29, Try.ntmps29
  go_wp2_with fail
  refine CR.out.mono ?_
  rintro e w1 ⟨rfl, rfl⟩
  go_wp2_with fail
  refine CT.out.mono ?_
  rintro e w1 ⟨rfl, h1, k1⟩
  have H1 := Lib.hid h1
  have HK1 := Lib.hid k1
  have S0 := Lib.hid h1.drew
  clear h1 k1 CR CT
  go_wp2_with fail
  refine wp_region_T (S := fun W => SB W sb g c L ⟨tickF fz, fd, wr⟩) (z := 15) (by kernel_rfl) ?_
  refine anyT_take (i := 0) 0 [] (v := ?_) rfl (by kernel_rfl) (by kernel_rfl) (by kernel_rfl) (by kernel_rfl) (fun _ _ _ h => h) S0.out (by rfl) ?_ ?_
  rotate_left
  · intro W9 hSw
    obtain ⟨c0, -, -, c3, -⟩ := hSw.cells
    simp only at c3
    go_simp
    try with_reducible rfl
  simp only [Act.put, List.setIfInBounds_toArray]
  try simp only [List.set_cons_zero, List.set_cons_succ]
  try simp only [List.getElem_toArray]
  repeat (first | simp only [List.getElem_cons_zero] | simp only [List.getElem_cons_succ])
  refine anyT_take (i := 1) 1 [] (v := ?_) rfl (by kernel_rfl) (by kernel_rfl) (by kernel_rfl) (by kernel_rfl) (fun _ _ _ h => h) S0.out (by rfl) ?_ ?_
  rotate_left
  · intro W9 hSw
    obtain ⟨c0, -, -, c3, -⟩ := hSw.cells
    simp only at c3
    go_simp
    try with_reducible rfl
  simp only [Act.put, List.setIfInBounds_toArray]
  try simp only [List.set_cons_zero, List.set_cons_succ]
  try simp only [List.getElem_toArray]
  repeat (first | simp only [List.getElem_cons_zero] | simp only [List.getElem_cons_succ])
  refine anyT_take (i := 2) 2 [] (v := ?_) rfl (by kernel_rfl) (by kernel_rfl) (by kernel_rfl) (by kernel_rfl) (fun _ _ _ h => h) S0.out (by rfl) ?_ ?_
  rotate_left
  · intro W9 hSw
    obtain ⟨c0, -, -, c3, -⟩ := hSw.cells
    simp only at c3
    go_simp
    try with_reducible rfl
  simp only [Act.put, List.setIfInBounds_toArray]
  try simp only [List.set_cons_zero, List.set_cons_succ]
  try simp only [List.getElem_toArray]
  repeat (first | simp only [List.getElem_cons_zero] | simp only [List.getElem_cons_succ])
  refine anyT_take (i := 3) 3 [] (v := ?_) rfl (by kernel_rfl) (by kernel_rfl) (by kernel_rfl) (by kernel_rfl) (fun _ _ _ h => h) S0.out (by rfl) ?_ ?_
  rotate_left
  · intro W9 hSw
    obtain ⟨c0, -, -, c3, -⟩ := hSw.cells
    simp only at c3
    go_simp
    try with_reducible rfl
  simp only [Act.put, List.setIfInBounds_toArray]
  try simp only [List.set_cons_zero, List.set_cons_succ]
  try simp only [List.getElem_toArray]
  repeat (first | simp only [List.getElem_cons_zero] | simp only [List.getElem_cons_succ])
  refine anyT_take (i := 4) 4 [] (v := ?_) rfl (by kernel_rfl) (by kernel_rfl) (by kernel_rfl) (by kernel_rfl) (fun _ _ _ h => h) S0.out (by rfl) ?_ ?_
  rotate_left
  · intro W9 hSw
    obtain ⟨c0, -, -, c3, -⟩ := hSw.cells
    simp only at c3
    go_simp
    try with_reducible rfl
  simp only [Act.put, List.setIfInBounds_toArray]
  try simp only [List.set_cons_zero, List.set_cons_succ]
  try simp only [List.getElem_toArray]
  repeat (first | simp only [List.getElem_cons_zero] | simp only [List.getElem_cons_succ])
  refine anyT_take (i := 5) 5 [] (v := ?_) rfl (by kernel_rfl) (by kernel_rfl) (by kernel_rfl) (by kernel_rfl) (fun _ _ _ h => h) S0.out (by rfl) ?_ ?_
  rotate_left
  · intro W9 hSw
    obtain ⟨c0, -, -, c3, -⟩ := hSw.cells
    simp only at c3
    go_simp
    try with_reducible rfl
  simp only [Act.put, List.setIfInBounds_toArray]
  try simp only [List.set_cons_zero, List.set_cons_succ]
  try simp only [List.getElem_toArray]
  repeat (first | simp only [List.getElem_cons_zero] | simp only [List.getElem_cons_succ])
  refine anyT_take (i := 6) 6 [] (v := ?_) rfl (by kernel_rfl) (by kernel_rfl) (by kernel_rfl) (by kernel_rfl) (fun _ _ _ h => h) S0.out (by rfl) ?_ ?_
  rotate_left
  · intro W9 hSw
    obtain ⟨c0, -, -, c3, -⟩ := hSw.cells
    simp only at c3
    go_simp
    try with_reducible rfl
  simp only [Act.put, List.setIfInBounds_toArray]
  try simp only [List.set_cons_zero, List.set_cons_succ]
  try simp only [List.getElem_toArray]
  repeat (first | simp only [List.getElem_cons_zero] | simp only [List.getElem_cons_succ])
  refine anyT_take (i := 7) 7 [] (v := ?_) rfl (by kernel_rfl) (by kernel_rfl) (by kernel_rfl) (by kernel_rfl) (fun _ _ _ h => h) S0.out (by rfl) ?_ ?_
  rotate_left
  · intro W9 hSw
    obtain ⟨c0, -, -, c3, -⟩ := hSw.cells
    simp only at c3
    go_simp
    try with_reducible rfl
  simp only [Act.put, List.setIfInBounds_toArray]
  try simp only [List.set_cons_zero, List.set_cons_succ]
  try simp only [List.getElem_toArray]
  repeat (first | simp only [List.getElem_cons_zero] | simp only [List.getElem_cons_succ])
  refine anyT_take (i := 8) 8 [] (v := ?_) rfl (by kernel_rfl) (by kernel_rfl) (by kernel_rfl) (by kernel_rfl) (fun _ _ _ h => h) S0.out (by rfl) ?_ ?_
  rotate_left
  · intro W9 hSw
    obtain ⟨c0, -, -, c3, -⟩ := hSw.cells
    simp only at c3
    go_simp
    try with_reducible rfl
  simp only [Act.put, List.setIfInBounds_toArray]
  try simp only [List.set_cons_zero, List.set_cons_succ]
  try simp only [List.getElem_toArray]
  repeat (first | simp only [List.getElem_cons_zero] | simp only [List.getElem_cons_succ])
  refine anyT_take (i := 9) 9 [] (v := ?_) rfl (by kernel_rfl) (by kernel_rfl) (by kernel_rfl) (by kernel_rfl) (fun _ _ _ h => h) S0.out (by rfl) ?_ ?_
  rotate_left
  · intro W9 hSw
    obtain ⟨c0, -, -, c3, -⟩ := hSw.cells
    simp only at c3
    go_simp
    try with_reducible rfl
  simp only [Act.put, List.setIfInBounds_toArray]
  try simp only [List.set_cons_zero, List.set_cons_succ]
  try simp only [List.getElem_toArray]
  repeat (first | simp only [List.getElem_cons_zero] | simp only [List.getElem_cons_succ])
  refine anyT_take (i := 10) 10 [] (v := ?_) rfl (by kernel_rfl) (by kernel_rfl) (by kernel_rfl) (by kernel_rfl) (fun _ _ _ h => h) S0.out (by rfl) ?_ ?_
  rotate_left
  · intro W9 hSw
    obtain ⟨c0, -, -, c3, -⟩ := hSw.cells
    simp only at c3
    go_simp
    try with_reducible rfl
  simp only [Act.put, List.setIfInBounds_toArray]
  try simp only [List.set_cons_zero, List.set_cons_succ]
  try simp only [List.getElem_toArray]
  repeat (first | simp only [List.getElem_cons_zero] | simp only [List.getElem_cons_succ])
  refine anyT_take (i := 11) 11 [] (v := ?_) rfl (by kernel_rfl) (by kernel_rfl) (by kernel_rfl) (by kernel_rfl) (fun _ _ _ h => h) S0.out (by rfl) ?_ ?_
  rotate_left
  · intro W9 hSw
    refine yields_seg (.tmp 55) ?_ g (i * 32) ?_ (bc b) (by rw [HBE.out]; exact hSw.seg hi) HLS.out <;> rfl
  simp only [Act.put, List.setIfInBounds_toArray]
  try simp only [List.set_cons_zero, List.set_cons_succ]
  try simp only [List.getElem_toArray]
  repeat (first | simp only [List.getElem_cons_zero] | simp only [List.getElem_cons_succ])
  refine anyT_take (i := 12) 12 [] (v := ?_) rfl (by kernel_rfl) (by kernel_rfl) (by kernel_rfl) (by kernel_rfl) (fun _ _ _ h => h) S0.out (by rfl) ?_ ?_
  rotate_left
  · intro W9 hSw
    obtain ⟨c0, -, -, c3, -⟩ := hSw.cells
    simp only at c3
    go_simp
    try with_reducible rfl
  simp only [Act.put, List.setIfInBounds_toArray]
  try simp only [List.set_cons_zero, List.set_cons_succ]
  try simp only [List.getElem_toArray]
  repeat (first | simp only [List.getElem_cons_zero] | simp only [List.getElem_cons_succ])
  refine anyT_one' (i := 13) (by kernel_rfl) rfl (by rfl) (fun K hK => ?_)
  have HK := Lib.hid hK
  clear hK
  unfold Oper.wp
  go_simp
  refine (CB.out _).mono ?_
  rintro e w2 ⟨rfl, hb2⟩
  have S2 := Lib.hid (S0.out.below hb2)
  have HK2 := Lib.hid (HK1.out.drew.trans (K2.of hb2))
  refine HK.out _ _ (fun _ => S2.out) ?_
  clear HK K hb2
  refine anyT_one' (i := 14) (by kernel_rfl) rfl (by rfl) (fun K hK => ?_)
  have HK := Lib.hid hK
  clear hK
  unfold Oper.wp
  go_simp
  refine HK.out _ _ (fun _ => S2.out) ?_
  clear HK K
  refine anyT_one' (i := 15) (by kernel_rfl) rfl (by rfl) (fun K hK => ?_)
  have HK := Lib.hid hK
  clear hK
  refine wp_store_bk _ _ rfl sb g c i L _ S2.out hi (onto b d) HON.out rfl rfl ?_
  intro w3 H3
  have S3 := Lib.hid H3.out.1
  have HK3 := Lib.hid (HK2.out.trans H3.out.2)
  refine HK.out _ _ (fun h => absurd rfl h) ?_
  clear HK K H3
  refine anyT_done (by kernel_rfl) ?_ _
  obtain ⟨-, -, -, -, -, c5⟩ := S3.out.cells
  simp only at c5
  have f5 := S3.out.free 5
  have hl3 := S3.out.lt
  have HF : Hid (SB (w3.setCell ⟨sb, 5, none⟩ (.int .i64 (wr + 1))) sb g c (L.set i (onto b d)) ⟨tickF fz, fd, wr + 1⟩) := Lib.hid (S3.out.set 5 _ rfl S3.out.wh S3.out.pr)
  go_wp2_with fail
  go_ret
  exact ⟨rfl, HF.out, HK3.out.setCell ⟨sb, 5, none⟩ _ (.inl rfl)⟩
set_option maxRecDepth 100000 in
set_option maxHeartbeats 4000000 in
theorem write_torn (w : World) (sb g c : Nat) (L : List Bk) (f : Fs) (h : SB w sb g c L f) (i : Nat) (hi : i < L.length) (d : ByteArray) (hs : d.size = 32) (hd : f.down = false) (ht : tearB f.f = true) :
    Calls Try.prog 29 #[pt sb, .int .i64 (i : Int), .string d] w fun e w' => e = .returned (.int .i64 16) ∧ SB w' sb g c (L.set i (onto L[i]! (d.extract 0 f.f.pr.toNat))) ⟨f.f, true, f.wr⟩ ∧ K2 sb g w w' := by
  have h0 : reachE L.length f.down (i : Int) = 0 := by unfold reachE; rw [hd, if_neg (by decide), if_neg (by omega)]
  have CR := Lib.hid (reach_any w sb g c L f h (i : Int))
  rw [h0] at CR
  have CT := Lib.hid (tears_any w sb g c L f h)
  rw [ht] at CT
  have hb1 : ((d.size : Int) == 32) = true := by rw [hs]; rfl
  have hb2 : ((d.size : Int) != 32) = false := by rw [hs]; rfl
  have HS := Lib.hid hs
  have HU := Lib.hid Try.underlying100
  obtain ⟨b, hb⟩ : ∃ b, b = L[i]! := ⟨_, rfl⟩
  have HBL : Hid (b.length = 32) := Lib.hid (by rw [hb]; exact h.at_len hi)
  have HBE := Lib.hid hb
  have HLS : Hid (some 32 = some (bc b).length) := Lib.hid (by rw [bc_len, HBL.out])
  rw [← hb]
  clear hb
  have hpr := h.pr
  have hpr0 := hpr.1
  have hpr1 := hpr.2
  obtain ⟨DD, hDD⟩ : ∃ DD, DD = d.extract 0 f.f.pr.toNat := ⟨_, rfl⟩
  have hDs : DD.size ≤ 32 := by rw [hDD, ByteArray.size_extract]; omega
  have HDD := Lib.hid hDD.symm
  rw [← hDD]
  clear hDD
  have CB : Hid (∀ W, Calls Try.prog 53 #[.agg (bc b).toArray, .string DD] W fun e w' => e = .returned (.agg (bc (onto b DD)).toArray) ∧ Below W.heap.size W w') := Lib.hid (fun W => begun_any W b HBL.out DD hDs)
  have HON : Hid ((onto b DD).length = 32) := Lib.hid (onto_len HBL.out hDs)
  have e : tickF f.f = f.f := by
    unfold tearB at ht
    obtain ⟨⟨is, wh, pr⟩, down, wr⟩ := f
    simp only [Bool.and_eq_true, beq_iff_eq] at ht
    obtain ⟨rfl, rfl⟩ := ht
    rfl
  rw [e] at CT
  have hdz : ((d.size : Nat) : Int) = 32 := by rw [hs]; rfl
  clear h0 hs hd ht h hpr hDs e
  obtain ⟨⟨is, wh, pr⟩, down, wr⟩ := f
  simp only at hpr0 hpr1 HDD CT CR ⊢
  go_enter Try.func29, Try.ntmps29
  go_wp2_with fail
  refine CR.out.mono ?_
  rintro e w1 ⟨rfl, rfl⟩
  go_wp2_with fail
  refine CT.out.mono ?_
  rintro e w1 ⟨rfl, h1, k1⟩
  have H1 := Lib.hid h1
  have HK1 := Lib.hid k1
  have S0 := Lib.hid h1.drew
  clear h1 k1 CR CT
  have hps : pr ≤ (d.size : Int) := by omega
  clear hdz
  go_wp2_with fail
  refine wp_region_T (S := fun W => SB W sb g c L ⟨⟨is, wh, pr⟩, down, wr⟩) (z := 21) (by kernel_rfl) ?_
  refine anyT_take (i := 0) 0 [] (v := ?_) rfl (by kernel_rfl) (by kernel_rfl) (by kernel_rfl) (by kernel_rfl) (fun _ _ _ h => h) S0.out (by rfl) ?_ ?_
  rotate_left
  · intro W9 hSw
    obtain ⟨c0, -, -, c3, -⟩ := hSw.cells
    simp only at c3
    go_simp
    try with_reducible rfl
  simp only [Act.put, List.setIfInBounds_toArray]
  try simp only [List.set_cons_zero, List.set_cons_succ]
  try simp only [List.getElem_toArray]
  repeat (first | simp only [List.getElem_cons_zero] | simp only [List.getElem_cons_succ])
  refine anyT_take (i := 1) 1 [] (v := ?_) rfl (by kernel_rfl) (by kernel_rfl) (by kernel_rfl) (by kernel_rfl) (fun _ _ _ h => h) S0.out (by rfl) ?_ ?_
  rotate_left
  · intro W9 hSw
    obtain ⟨c0, -, -, c3, -⟩ := hSw.cells
    simp only at c3
    go_simp
    try with_reducible rfl
  simp only [Act.put, List.setIfInBounds_toArray]
  try simp only [List.set_cons_zero, List.set_cons_succ]
  try simp only [List.getElem_toArray]
  repeat (first | simp only [List.getElem_cons_zero] | simp only [List.getElem_cons_succ])
  refine anyT_take (i := 2) 2 [] (v := ?_) rfl (by kernel_rfl) (by kernel_rfl) (by kernel_rfl) (by kernel_rfl) (fun _ _ _ h => h) S0.out (by rfl) ?_ ?_
  rotate_left
  · intro W9 hSw
    obtain ⟨c0, -, -, c3, -⟩ := hSw.cells
    simp only at c3
    go_simp
    try with_reducible rfl
  simp only [Act.put, List.setIfInBounds_toArray]
  try simp only [List.set_cons_zero, List.set_cons_succ]
  try simp only [List.getElem_toArray]
  repeat (first | simp only [List.getElem_cons_zero] | simp only [List.getElem_cons_succ])
  refine anyT_take (i := 3) 3 [] (v := ?_) rfl (by kernel_rfl) (by kernel_rfl) (by kernel_rfl) (by kernel_rfl) (fun _ _ _ h => h) S0.out (by rfl) ?_ ?_
  rotate_left
  · intro W9 hSw
    obtain ⟨c0, -, -, c3, -⟩ := hSw.cells
    simp only at c3
    go_simp
    try with_reducible rfl
  simp only [Act.put, List.setIfInBounds_toArray]
  try simp only [List.set_cons_zero, List.set_cons_succ]
  try simp only [List.getElem_toArray]
  repeat (first | simp only [List.getElem_cons_zero] | simp only [List.getElem_cons_succ])
  refine anyT_take (i := 4) 4 [] (v := ?_) rfl (by kernel_rfl) (by kernel_rfl) (by kernel_rfl) (by kernel_rfl) (fun _ _ _ h => h) S0.out (by rfl) ?_ ?_
  rotate_left
  · intro W9 hSw
    obtain ⟨c0, -, -, c3, -⟩ := hSw.cells
    simp only at c3
    go_simp
    try with_reducible rfl
  simp only [Act.put, List.setIfInBounds_toArray]
  try simp only [List.set_cons_zero, List.set_cons_succ]
  try simp only [List.getElem_toArray]
  repeat (first | simp only [List.getElem_cons_zero] | simp only [List.getElem_cons_succ])
  refine anyT_take (i := 5) 5 [] (v := ?_) rfl (by kernel_rfl) (by kernel_rfl) (by kernel_rfl) (by kernel_rfl) (fun _ _ _ h => h) S0.out (by rfl) ?_ ?_
  rotate_left
  · intro W9 hSw
    obtain ⟨c0, -, -, c3, -⟩ := hSw.cells
    simp only at c3
    go_simp
    try with_reducible rfl
  simp only [Act.put, List.setIfInBounds_toArray]
  try simp only [List.set_cons_zero, List.set_cons_succ]
  try simp only [List.getElem_toArray]
  repeat (first | simp only [List.getElem_cons_zero] | simp only [List.getElem_cons_succ])
  refine anyT_take (i := 6) 6 [] (v := ?_) rfl (by kernel_rfl) (by kernel_rfl) (by kernel_rfl) (by kernel_rfl) (fun _ _ _ h => h) S0.out (by rfl) ?_ ?_
  rotate_left
  · intro W9 hSw
    obtain ⟨c0, -, -, c3, -⟩ := hSw.cells
    simp only at c3
    go_simp
    try with_reducible rfl
  simp only [Act.put, List.setIfInBounds_toArray]
  try simp only [List.set_cons_zero, List.set_cons_succ]
  try simp only [List.getElem_toArray]
  repeat (first | simp only [List.getElem_cons_zero] | simp only [List.getElem_cons_succ])
  refine anyT_take (i := 7) 7 [] (v := ?_) rfl (by kernel_rfl) (by kernel_rfl) (by kernel_rfl) (by kernel_rfl) (fun _ _ _ h => h) S0.out (by rfl) ?_ ?_
  rotate_left
  · intro W9 hSw
    obtain ⟨c0, -, -, c3, -⟩ := hSw.cells
    simp only at c3
    go_simp
    try with_reducible rfl
  simp only [Act.put, List.setIfInBounds_toArray]
  try simp only [List.set_cons_zero, List.set_cons_succ]
  try simp only [List.getElem_toArray]
  repeat (first | simp only [List.getElem_cons_zero] | simp only [List.getElem_cons_succ])
  refine anyT_take (i := 8) 8 [] (v := ?_) rfl (by kernel_rfl) (by kernel_rfl) (by kernel_rfl) (by kernel_rfl) (fun _ _ _ h => h) S0.out (by rfl) ?_ ?_
  rotate_left
  · intro W9 hSw
    obtain ⟨c0, -, -, c3, -⟩ := hSw.cells
    simp only at c3
    go_simp
    try with_reducible rfl
  simp only [Act.put, List.setIfInBounds_toArray]
  try simp only [List.set_cons_zero, List.set_cons_succ]
  try simp only [List.getElem_toArray]
  repeat (first | simp only [List.getElem_cons_zero] | simp only [List.getElem_cons_succ])
  refine anyT_take (i := 9) 9 [] (v := ?_) rfl (by kernel_rfl) (by kernel_rfl) (by kernel_rfl) (by kernel_rfl) (fun _ _ _ h => h) S0.out (by rfl) ?_ ?_
  rotate_left
  · intro W9 hSw
    obtain ⟨c0, -, -, c3, -⟩ := hSw.cells
    simp only at c3
    go_simp
    try with_reducible rfl
  simp only [Act.put, List.setIfInBounds_toArray]
  try simp only [List.set_cons_zero, List.set_cons_succ]
  try simp only [List.getElem_toArray]
  repeat (first | simp only [List.getElem_cons_zero] | simp only [List.getElem_cons_succ])
  refine anyT_take (i := 10) 10 [] (v := ?_) rfl (by kernel_rfl) (by kernel_rfl) (by kernel_rfl) (by kernel_rfl) (fun _ _ _ h => h) S0.out (by rfl) ?_ ?_
  rotate_left
  · intro W9 hSw
    obtain ⟨c0, -, -, c3, -⟩ := hSw.cells
    simp only at c3
    go_simp
    try with_reducible rfl
  simp only [Act.put, List.setIfInBounds_toArray]
  try simp only [List.set_cons_zero, List.set_cons_succ]
  try simp only [List.getElem_toArray]
  repeat (first | simp only [List.getElem_cons_zero] | simp only [List.getElem_cons_succ])
  refine anyT_take (i := 11) 11 [] (v := ?_) rfl (by kernel_rfl) (by kernel_rfl) (by kernel_rfl) (by kernel_rfl) (fun _ _ _ h => h) S0.out (by rfl) ?_ ?_
  rotate_left
  · intro W9 hSw
    refine yields_seg (.tmp 31) ?_ g (i * 32) ?_ (bc b) (by rw [HBE.out]; exact hSw.seg hi) HLS.out <;> rfl
  simp only [Act.put, List.setIfInBounds_toArray]
  try simp only [List.set_cons_zero, List.set_cons_succ]
  try simp only [List.getElem_toArray]
  repeat (first | simp only [List.getElem_cons_zero] | simp only [List.getElem_cons_succ])
  refine anyT_take (i := 12) 12 [] (v := ?_) rfl (by kernel_rfl) (by kernel_rfl) (by kernel_rfl) (by kernel_rfl) (fun _ _ _ h => h) S0.out (by rfl) ?_ ?_
  rotate_left
  · intro W9 hSw
    obtain ⟨c0, -, -, c3, -⟩ := hSw.cells
    simp only at c3
    go_simp
    try with_reducible rfl
  simp only [Act.put, List.setIfInBounds_toArray]
  try simp only [List.set_cons_zero, List.set_cons_succ]
  try simp only [List.getElem_toArray]
  repeat (first | simp only [List.getElem_cons_zero] | simp only [List.getElem_cons_succ])
  refine anyT_take (i := 13) 13 [] (v := ?_) rfl (by kernel_rfl) (by kernel_rfl) (by kernel_rfl) (by kernel_rfl) (fun _ _ _ h => h) S0.out (by rfl) ?_ ?_
  rotate_left
  · intro W9 hSw
    obtain ⟨c0, -, -, c3, -⟩ := hSw.cells
    simp only at c3
    go_simp
    try with_reducible rfl
  simp only [Act.put, List.setIfInBounds_toArray]
  try simp only [List.set_cons_zero, List.set_cons_succ]
  try simp only [List.getElem_toArray]
  repeat (first | simp only [List.getElem_cons_zero] | simp only [List.getElem_cons_succ])
  refine anyT_take (i := 14) 14 [] (v := ?_) rfl (by kernel_rfl) (by kernel_rfl) (by kernel_rfl) (by kernel_rfl) (fun _ _ _ h => h) S0.out (by rfl) ?_ ?_
  rotate_left
  · intro W9 hSw
    obtain ⟨c0, -, -, c3, -⟩ := hSw.cells
    simp only at c3
    go_simp
    try with_reducible rfl
  simp only [Act.put, List.setIfInBounds_toArray]
  try simp only [List.set_cons_zero, List.set_cons_succ]
  try simp only [List.getElem_toArray]
  repeat (first | simp only [List.getElem_cons_zero] | simp only [List.getElem_cons_succ])
  refine anyT_take (i := 15) 15 [] (v := ?_) rfl (by kernel_rfl) (by kernel_rfl) (by kernel_rfl) (by kernel_rfl) (fun _ _ _ h => h) S0.out (by rfl) ?_ ?_
  rotate_left
  · intro W9 hSw
    obtain ⟨c0, -, -, c3, -⟩ := hSw.cells
    simp only at c3
    go_simp
    try with_reducible rfl
  simp only [Act.put, List.setIfInBounds_toArray]
  try simp only [List.set_cons_zero, List.set_cons_succ]
  try simp only [List.getElem_toArray]
  repeat (first | simp only [List.getElem_cons_zero] | simp only [List.getElem_cons_succ])
  refine anyT_take (i := 16) 16 [] (v := ?_) rfl (by kernel_rfl) (by kernel_rfl) (by kernel_rfl) (by kernel_rfl) (fun _ _ _ h => h) S0.out (by rfl) ?_ ?_
  rotate_left
  · intro W9 hSw
    obtain ⟨c0, -, -, c3, -⟩ := hSw.cells
    simp only at c3
    go_simp
    try with_reducible rfl
  simp only [Act.put, List.setIfInBounds_toArray]
  try simp only [List.set_cons_zero, List.set_cons_succ]
  try simp only [List.getElem_toArray]
  repeat (first | simp only [List.getElem_cons_zero] | simp only [List.getElem_cons_succ])
  refine anyT_take (i := 17) 17 [] (v := ?_) rfl (by kernel_rfl) (by kernel_rfl) (by kernel_rfl) (by kernel_rfl) (fun _ _ _ h => h) S0.out (by rfl) ?_ ?_
  rotate_left
  · intro W9 hSw
    obtain ⟨c0, -, -, c3, -⟩ := hSw.cells
    simp only at c3
    go_simp
    try with_reducible rfl
  simp only [Act.put, List.setIfInBounds_toArray]
  try simp only [List.set_cons_zero, List.set_cons_succ]
  try simp only [List.getElem_toArray]
  repeat (first | simp only [List.getElem_cons_zero] | simp only [List.getElem_cons_succ])
  refine anyT_take (i := 18) 18 [] (v := ?_) rfl (by kernel_rfl) (by kernel_rfl) (by kernel_rfl) (by kernel_rfl) (fun _ _ _ h => h) S0.out (by rfl) ?_ ?_
  rotate_left
  · intro W9 hSw
    obtain ⟨c0, -, -, c3, -⟩ := hSw.cells
    simp only at c3
    go_simp
    try with_reducible rfl
  simp only [Act.put, List.setIfInBounds_toArray]
  try simp only [List.set_cons_zero, List.set_cons_succ]
  try simp only [List.getElem_toArray]
  repeat (first | simp only [List.getElem_cons_zero] | simp only [List.getElem_cons_succ])
  refine anyT_one' (i := 19) (by kernel_rfl) rfl (by rfl) (fun K hK => ?_)
  have HK := Lib.hid hK
  clear hK
  unfold Oper.wp
  go_simp
  rw [HDD.out]
  refine (CB.out _).mono ?_
  rintro e w2 ⟨rfl, hb2⟩
  have S2 := Lib.hid (S0.out.below hb2)
  have HK2 := Lib.hid (HK1.out.drew.trans (K2.of hb2))
  refine HK.out _ _ (fun _ => S2.out) ?_
  clear HK K hb2
  refine anyT_one' (i := 20) (by kernel_rfl) rfl (by rfl) (fun K hK => ?_)
  have HK := Lib.hid hK
  clear hK
  unfold Oper.wp
  go_simp
  refine HK.out _ _ (fun _ => S2.out) ?_
  clear HK K
  refine anyT_one' (i := 21) (by kernel_rfl) rfl (by rfl) (fun K hK => ?_)
  have HK := Lib.hid hK
  clear hK
  refine wp_store_bk _ _ rfl sb g c i L _ S2.out hi (onto b DD) HON.out rfl rfl ?_
  intro w3 H3
  have S3 := Lib.hid H3.out.1
  have HK3 := Lib.hid (HK2.out.trans H3.out.2)
  refine HK.out _ _ (fun h => absurd rfl h) ?_
  clear HK K H3
  refine anyT_done (by kernel_rfl) ?_ _
  obtain ⟨-, -, -, -, c4, -⟩ := S3.out.cells
  simp only at c4
  have f4 := S3.out.free 4
  have hl3 := S3.out.lt
  have HF : Hid (SB (w3.setCell ⟨sb, 4, none⟩ (.bool true)) sb g c (L.set i (onto b DD)) ⟨⟨is, wh, pr⟩, true, wr⟩) := Lib.hid (S3.out.set 4 _ rfl S3.out.wh S3.out.pr)
  go_wp2_with fail
  go_ret
  exact ⟨rfl, HF.out, HK3.out.setCell ⟨sb, 4, none⟩ _ (.inl rfl)⟩
end Go.Proofs.Ytcipgjelbnmdiaa.ST
