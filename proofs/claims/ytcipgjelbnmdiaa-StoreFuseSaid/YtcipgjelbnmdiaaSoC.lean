/-
  Contracts of store.New and Store.Read.
-/
import Derived.Test.YtcipgjelbnmdiaaSoB
import Derived.Laws.MakeOwn
namespace Go.Proofs.Ytcipgjelbnmdiaa.ST
open Go.RowKit Go.Shelf Go.Proofs.Ytcipgjelbnmdiaa.B
attribute [local go_sem] Oper.semAt_some

/-- A block of bytes 0. -/
def zbk : Bk := List.replicate 32 0
theorem flat_rep (n : Nat) : (List.replicate n zbk).flatMap bc = List.replicate (n * 32) (Value.int .u8 0) := by
  induction n with
  | zero => rfl
  | succ n ih =>
    rw [List.replicate_succ, List.flatMap_cons, ih, Nat.succ_mul, Nat.add_comm, ← List.replicate_append_replicate]
    rfl
theorem made_rep (v : Value) (k m : Nat) (hk : 0 < k) : madeCells (List.replicate k v).toArray m = (List.replicate m v).toArray := by
  apply Array.ext
  · simp [madeCells]
  · intro i h1 h2
    have hlt : i % k < k := Nat.mod_lt _ hk
    simp [madeCells, hlt]
theorem made_bk (n : Nat) : madeCells (bc (List.replicate 32 0)).toArray (n * 32) = ((List.replicate n zbk).flatMap bc).toArray := by
  rw [flat_rep]
  exact made_rep _ 32 _ (by decide)
theorem info_bk3 : (Try.prog.info? 100).map (fun i => (i.zero, i.size, i.bytes)) = some (some (.agg (bc (List.replicate 32 0)).toArray), 32, 32) := by kernel_rfl
theorem make_bk (n : Nat) (hn : n ≤ 256) (W : World) : (Instr.makeSlice 93 (.int .i64 (n : Int)) (.int .i64 (n : Int))).run Try.prog W = .ok (.slice (some ⟨W.heap.size, 0, none⟩) n n) (W.alloc (.cells ((List.replicate n zbk).flatMap bc).toArray 100)) := by
  obtain ⟨i0, hi, hz0, hz1, hz2⟩ := info_parts info_bk3
  have := run_make (P := Try.prog) W 93 100 i0 _ Try.underlying93 hi hz0 .i64 .i64 (n : Int) (n : Int) (by omega) (Int.le_refl _) (by rw [hz2]; omega) (by omega)
  rw [this, hz1, Int.toNat_natCast]
  show Result.ok _ (W.alloc (.cells (madeCells (bc (List.replicate 32 0)).toArray (n * 32)) 100)) = _
  rw [made_bk]
set_option maxRecDepth 100000 in
set_option maxHeartbeats 1000000 in
theorem new_yes (w : World) (n : Nat) (h1 : 1 ≤ n) (h2 : n ≤ 256) : Calls Try.prog 26 #[.int .i64 (n : Int)] w fun e w' => e = .returned (.tuple #[pt (w.heap.size + 1), .int .i64 0]) ∧ SB w' (w.heap.size + 1) w.heap.size n (List.replicate n zbk) ⟨⟨false, 0, 0⟩, false, 0⟩ ∧ Below w.heap.size w w' := by
  have hmk := make_bk n h2
  obtain ⟨Z, hZ⟩ : ∃ Z, ((List.replicate n zbk).flatMap bc).toArray = Z := ⟨_, rfl⟩
  rw [hZ] at hmk
  have HZ := Lib.hid hZ
  clear hZ
  have k1 : ¬ (n : Int) < 1 := by omega
  have k2 : ¬ (n : Int) > 256 := by omega
  have HS : Hid (SB ((w.alloc (.cells Z 100)).alloc (.cells (boC w.heap.size n n ⟨⟨false, 0, 0⟩, false, 0⟩) 97)) (w.heap.size + 1) w.heap.size n (List.replicate n zbk) ⟨⟨false, 0, 0⟩, false, 0⟩) := Lib.hid {
    box := by rw [List.length_replicate]; exact heap_alloc2_new w _ _
    row := ⟨[], by rw [List.append_nil, HZ.out]; exact heap_alloc2_old w _ _⟩
    len := fun b hb => by rw [List.eq_of_mem_replicate hb]; rfl
    few := by rw [List.length_replicate]; exact ⟨h1, h2⟩
    wh := ⟨Int.le_refl _, show (0 : Int) ≤ 9223372036854775807 by decide⟩
    pr := ⟨Int.le_refl _, show (0 : Int) ≤ 32 by decide⟩ }
  go_enter Try.func26, Try.ntmps26
  go_wp2_with fail
  go_ret2
  exact ⟨rfl, HS.out, ((Below.refl _ _).alloc (Nat.le_refl _) _).alloc (by rw [World.size_alloc]; omega) _⟩
set_option maxRecDepth 100000 in
set_option maxHeartbeats 1000000 in
theorem new_no (w : World) (n : Int) (h : n < 1 ∨ 256 < n) : Calls Try.prog 26 #[.int .i64 n] w fun e w' => e = .returned (.tuple #[.pointer none, .int .i64 1]) ∧ w = w' := by
  by_cases h1 : n < 1
  · go_enter Try.func26, Try.ntmps26
    go_wp2_with fail
    go_ret2
    exact ⟨rfl, rfl⟩
  · have h2 : n > 256 := by omega
    go_enter Try.func26, Try.ntmps26
    go_wp2_with fail
    go_ret2
    exact ⟨rfl, rfl⟩
/-- What is read. -/
def readS (L : List Bk) (d : Bool) (i : Int) : ByteArray := if reachE L.length d i = 0 then ⟨L[i.toNat]!.toArray⟩ else ⟨#[]⟩
theorem reach_ok {n : Nat} {d : Bool} {i : Int} (h : reachE n d i = 0) : d = false ∧ ∃ k : Nat, i = (k : Int) ∧ k < n := by
  unfold reachE at h
  cases d with
  | true => rw [if_pos rfl] at h; cases h
  | false =>
    rw [if_neg (by decide)] at h
    by_cases hc : i < 0 ∨ (n : Int) ≤ i
    · rw [if_pos hc] at h; cases h
    · exact ⟨rfl, i.toNat, by omega, by omega⟩
theorem reach_no {n : Nat} {d : Bool} {i : Int} (h : reachE n d i ≠ 0) : (reachE n d i == 0) = false := beq_eq_false_iff_ne.2 h
theorem conv_bk (W : World) (b : Bk) (hb : b.length = 32) (g o : Nat) (hr : W.rangeAt g o (bc b)) : (convert 103 9 (.slice (some ⟨g, o, none⟩) 32 32)).run Try.prog W = .ok (.string ⟨b.toArray⟩) W := by
  have hs : (⟨b.toArray⟩ : ByteArray).size = 32 := by rw [← hb]; exact List.size_toArray ..
  have := Lib.run_convert_whole (P := Try.prog) W 103 5 9 Try.underlying103 Try.underlying5 Try.underlying9 g o ⟨b.toArray⟩ (fun i hi => by
    have hi' : i < b.length := by rw [hb]; omega
    refine hr i _ ?_
    rw [show bc b = b.map fun x => Value.int .u8 (x.toNat : Int) from rfl, List.getElem?_map, List.getElem?_eq_getElem hi']
    rfl) 32
  rw [hs] at this
  exact this
set_option maxRecDepth 100000 in
set_option maxHeartbeats 1000000 in
theorem read_any (w : World) (sb g c : Nat) (L : List Bk) (f : Fs) (h : SB w sb g c L f) (i : Int) :
    Calls Try.prog 35 #[pt sb, .int .i64 i] w fun e w' => e = .returned (.tuple #[.string (readS L f.down i), .int .i64 (reachE L.length f.down i)]) ∧ Below w.heap.size w w' := by
  have CR := Lib.hid (reach_any w sb g c L f h i)
  by_cases h0 : reachE L.length f.down i = 0
  · obtain ⟨hd, k, rfl, hk⟩ := reach_ok h0
    have HE : Hid (readS L f.down (k : Int) = ⟨L[k]!.toArray⟩) := Lib.hid (by unfold readS; rw [if_pos h0]; rfl)
    rw [h0] at CR ⊢
    clear h0 hd
    obtain ⟨c0, -⟩ := h.cells
    have hl := h.lt
    have hseg := Lib.hid (h.seg hk)
    have hz := (zero_of_info info_bk).1
    obtain ⟨Z, hZ⟩ : ∃ Z, Z = (bc (List.replicate 32 0)).toArray := ⟨_, rfl⟩
    have HZn : Hid (Z.size = 32) := Lib.hid (by rw [hZ]; rfl)
    rw [← hZ] at hz
    clear hZ
    obtain ⟨b, hb⟩ : ∃ b, b = L[k]! := ⟨_, rfl⟩
    have HBL : Hid (b.length = 32) := Lib.hid (by rw [hb]; exact h.at_len hk)
    rw [← hb] at hseg HE
    clear hb h
    obtain ⟨C, hC⟩ : ∃ C, C = (bc b).toArray := ⟨_, rfl⟩
    have HC := Lib.hid hC
    have HCn : Hid (some 32 = some C.size) := Lib.hid (by rw [hC, List.size_toArray, bc_len, HBL.out])
    have H1C : Hid (C.all (·.oneCell') = true) := Lib.hid (by rw [hC]; exact all_oneCell_toArray (bc_one _))
    have hcv := conv_bk (w.alloc (.cells C 100)) b HBL.out w.heap.size 0 (fun j v hv => by
      rw [cell_of_row _ _ _ C _ _ (heap_alloc_last w _), HC.out, Nat.zero_add]; simpa using hv)
    have HU := Lib.hid Try.underlying100
    have HLS : Hid (some 32 = some (bc b).length) := Lib.hid (by rw [bc_len, HBL.out])
    have HCL : Hid ((bc b).toArray = C) := Lib.hid hC.symm
    clear hC
    go_enter Try.func35, Try.ntmps35
    go_wp2_with fail
    refine CR.out.mono ?_
    rintro e w1 ⟨rfl, rfl⟩
    go_wp2_with (first | (with_reducible refine wpList_load_mid rfl 100 (.tmp 19) rfl g (k * 32) rfl (bc b) _ hseg.out HU.out rfl (size_bk.trans HLS.out) ?_; rw [HCL.out]) | (with_reducible refine wpList_store_row rfl 100 (.tmp 7) (.tmp 20) rfl w.heap.size C rfl rfl 100 Z (heap_alloc_last w _) (size_bk.trans HCn.out) (by rw [HZn.out]; exact Option.some.inj HCn.out) H1C.out ?_; rw [World.setRow_alloc_new]))
    go_wp2_with fail
    go_ret2
    exact ⟨by rw [HE.out]; rfl, (Below.refl _ _).alloc (Nat.le_refl _) _⟩
  · have HE : Hid (readS L f.down i = ⟨#[]⟩) := Lib.hid (by unfold readS; rw [if_neg h0])
    obtain ⟨E, hE⟩ : ∃ E, reachE L.length f.down i = E := ⟨_, rfl⟩
    rw [hE] at CR h0 ⊢
    clear hE h
    have hb : (E == 0) = false := beq_eq_false_iff_ne.2 h0
    have hb2 : (E != 0) = true := by rw [bne_iff_ne]; exact h0
    clear h0
    go_enter Try.func35, Try.ntmps35
    go_wp2_with fail
    refine CR.out.mono ?_
    rintro e w1 ⟨rfl, rfl⟩
    go_wp2_with fail
    go_ret2
    exact ⟨by rw [HE.out]; rfl, Below.refl _ _⟩
end Go.Proofs.Ytcipgjelbnmdiaa.ST
