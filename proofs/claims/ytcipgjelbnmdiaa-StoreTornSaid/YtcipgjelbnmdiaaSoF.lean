/-
  Contract of store.Bytes.
-/
import Derived.Test.YtcipgjelbnmdiaaSoE
namespace Go.Proofs.Ytcipgjelbnmdiaa.ST
open Go.RowKit Go.Shelf Go.Proofs.Ytcipgjelbnmdiaa.B
attribute [local go_sem] Oper.semAt_some

theorem flat_bytes (L : List Bk) : L.flatMap bc = Lib.byteCells L.flatten := by
  induction L with
  | nil => rfl
  | cons b r ih => rw [List.flatMap_cons, ih, List.flatten_cons]; exact (bc_append _ _).symm
/-- The builder so far. -/
structure BY (w : World) (L : List Bk) (k : Nat) (wr : World) : Prop where
  b : Below w.heap.size w wr
  t : Lib.BuilderAt 106 5 w.heap.size w.heap.size (pt w.heap.size) ((L.take k).flatMap bc) wr
set_option maxHeartbeats 2000000 in
set_option maxRecDepth 100000 in
theorem bytes_any (w : World) (sb g c : Nat) (L : List Bk) (f : Fs) (h : SB w sb g c L f) : Calls Try.prog 40 #[pt sb] w fun e w' => e = .returned (.string ⟨L.flatten.toArray⟩) ∧ Below w.heap.size w w' := by
  obtain ⟨c0, -⟩ := h.cells
  have hl := h.lt
  have hfew := h.few.2
  have H := Lib.hid h
  have HA : Hid (Below w.heap.size w (w.alloc (.cells #[.pointer none, .slice none 0 0] 106))) := Lib.hid ((Below.refl _ _).alloc (Nat.le_refl _) _)
  have CG := Lib.hid (S.Builder_Grow_fresh w.heap.size w.heap.size (L.length * 32) (w.alloc (.cells #[.pointer none, .slice none 0 0] 106)) (Nat.le_refl _) (heap_alloc_last w _) (by rw [World.size_alloc]; omega) (by omega))
  obtain ⟨m, hm⟩ : ∃ m, m = L.length * 32 := ⟨_, rfl⟩
  have hm2 : (L.length : Int) * 32 = (m : Int) := by omega
  rw [← hm] at CG
  clear h hm
  have hz := (zero_of_info info_bk).1
  obtain ⟨Z, hZ⟩ : ∃ Z, Z = (bc (List.replicate 32 0)).toArray := ⟨_, rfl⟩
  have HZn : Hid (Z.size = 32) := Lib.hid (by rw [hZ]; rfl)
  rw [← hZ] at hz
  clear hZ
  have HU := Lib.hid Try.underlying100
  go_enter Try.func40, Try.ntmps40
  go_wp2_with fail
  refine CG.out.mono ?_
  rintro e w1 ⟨rfl, ht1, hb1⟩
  have HY1 : Hid (BY w L 0 w1) := Lib.hid ⟨HA.out.trans hb1, ht1⟩
  have hs1 : SB w1 sb g c L f := H.out.below HY1.out.b
  obtain ⟨c01, -⟩ := hs1.cells
  have hl1 := hs1.lt
  clear ht1 hb1 hs1 CG HA
  go_wp2_with fail
  clear c01 hl1
  go_loopw [18] (fun i wr => ∃ k : Nat, k ≤ L.length ∧ i = .int .i64 (k : Int) ∧ Hid (BY w L k wr)) (fun i _ => L.length - (intOf i).toNat)
  case atStart => exact ⟨0, Nat.zero_le _, rfl, HY1⟩
  case round =>
    obtain ⟨k, hk, rfl, HY⟩ := hrel
    by_cases hlt : k < L.length
    · have hs2 : SB wr sb g c L f := H.out.below HY.out.b
      have hseg := Lib.hid (hs2.seg hlt)
      obtain ⟨b, hb⟩ : ∃ b, b = L[k]! := ⟨_, rfl⟩
      have HBL : Hid (b.length = 32) := Lib.hid (by rw [hb]; exact hs2.at_len hlt)
      have HBE := Lib.hid hb
      rw [← hb] at hseg
      clear hb hs2
      obtain ⟨C, hC⟩ : ∃ C, C = (bc b).toArray := ⟨_, rfl⟩
      have HC := Lib.hid hC
      have HCn : Hid (some 32 = some C.size) := Lib.hid (by rw [hC, List.size_toArray, bc_len, HBL.out])
      have H1C : Hid (C.all (·.oneCell') = true) := Lib.hid (by rw [hC]; exact all_oneCell_toArray (bc_one _))
      have HLS : Hid (some 32 = some (bc b).length) := Lib.hid (by rw [bc_len, HBL.out])
      have HCL : Hid ((bc b).toArray = C) := Lib.hid hC.symm
      clear hC
      have hba : Below wr.heap.size wr (wr.alloc (.cells C 100)) := (Below.refl _ _).alloc (Nat.le_refl _) _
      obtain ⟨hB, v, hbk, hown, hne⟩ := HY.out.t
      have HYA : Hid (BY w L k (wr.alloc (.cells C 100))) := Lib.hid ⟨HY.out.b.trans (hba.mono HY.out.b.size), hB, v, (hba.block _ (blk_lt hbk)).trans hbk, own_below hown hba, hne⟩
      have CW := Lib.hid (bwrite_any w.heap.size w.heap.size ((L.take k).flatMap bc) ⟨wr.heap.size, 0, none⟩ 32 32 (bc b) (wr.alloc (.cells C 100)) HYA.out.t (by rw [bc_len, HBL.out]) (fun j u hj => by
        rw [Addr.add_mid, Nat.zero_add, cell_of_row _ _ _ C _ _ (heap_alloc_last wr _), HC.out]; simpa using hj) (bc_one b) (by rw [flat_len (fun b hb => H.out.len b (List.mem_of_mem_take hb)), List.length_take]; omega) HYA.out.b.size)
      clear hba hB hbk hown hne
      go_wp2_with (first | (with_reducible refine wpList_load_mid rfl 100 (.tmp 20) rfl g (k * 32) rfl (bc b) _ hseg.out HU.out rfl (size_bk.trans HLS.out) ?_; rw [HCL.out]) | (with_reducible refine wpList_store_row rfl 100 (.tmp 5) (.tmp 21) rfl wr.heap.size C rfl rfl 100 Z (heap_alloc_last wr _) (size_bk.trans HCn.out) (by rw [HZn.out]; exact Option.some.inj HCn.out) H1C.out ?_; rw [World.setRow_alloc_new]))
      go_wp2_with fail
      refine CW.out.mono ?_
      rintro e w3 ⟨rfl, ht3, hb3⟩
      have HY3 : Hid (BY w L (k + 1) w3) := Lib.hid ⟨HYA.out.b.trans hb3, by
        have : (L.take (k + 1)).flatMap bc = (L.take k).flatMap bc ++ bc b := by rw [take_next hlt, List.flatMap_append, HBE.out]; simp
        rw [this]; exact ht3⟩
      clear ht3 hb3 CW
      go_wp2_with fail
      go_roundw
      case rel => exact ⟨k + 1, hlt, by go_num, HY3⟩
      case measure => simp [intOf]; omega
    · obtain rfl : k = L.length := by omega
      have HB := Lib.hid HY.out.b
      have CS := Lib.hid (S.Builder_String_any w.heap.size w.heap.size L.flatten wr (.inr (by have := HY.out.t; rw [List.take_length, flat_bytes] at this; exact this)) HY.out.b.size)
      go_wp2_with fail
      refine CS.out.mono ?_
      rintro e w3 ⟨rfl, hb3⟩
      have HB3 := Lib.hid (HB.out.trans hb3)
      clear hb3 CS
      go_wp2_with fail
      go_ret
      exact ⟨rfl, HB3.out⟩
end Go.Proofs.Ytcipgjelbnmdiaa.ST
