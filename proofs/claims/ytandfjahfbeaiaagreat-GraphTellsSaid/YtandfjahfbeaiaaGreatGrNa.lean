/-
  Contract of the document's own name of layer 2.
-/
import Derived.Test.YtandfjahfbeaiaaGreatRfN
namespace Go.Proofs.YtandfjahfbeaiaaGreat
open Go.RowKit Go.Shelf

/-- The words that are no names, as texts. -/
def kwl : List ByteArray := kws.map fun k => ⟨k.toArray⟩
theorem kwl_list : kwl.map ByteArray.toList = kws := by
  unfold kwl
  rw [List.map_map]
  refine List.map_id'' (fun k => ?_) _
  show ByteArray.toList ⟨k.toArray⟩ = k
  rw [Lib.toList_data]
theorem kwl_mem {k : Nat} (h : k < 16) : kwl[k]!.toList ∈ kws := by
  rw [← kwl_list]
  exact List.mem_map.2 ⟨_, mem_at (l := kwl) h, rfl⟩
theorem kw_hit {s : ByteArray} {k : Nat} (h : k < 16) (hq : (s.toList == kwl[k]!.toList) = true) : nameK s.toList = false :=
  nameK_kw (by rw [eq_of_beq hq, List.contains_iff_mem]; exact kwl_mem h)
theorem kw_miss {s : ByteArray} (h : ∀ j, j < 16 → (s.toList == kwl[j]!.toList) = false) : nameK s.toList = nameL s.data.toList := by
  rw [← Lib.toList_data]
  refine nameK_no ?_
  cases hc : kws.contains s.toList with
  | false => rfl
  | true =>
    rw [List.contains_iff_mem, ← kwl_list] at hc
    obtain ⟨x, hx, hxs⟩ := List.mem_map.1 hc
    obtain ⟨j, hj, rfl⟩ := List.getElem_of_mem hx
    have := h j hj
    rw [getElem!_pos kwl j hj, hxs, beq_self_eq_true] at this
    cases this
theorem kw_more {s : ByteArray} {k : Nat} (h : ∀ j, j < k → (s.toList == kwl[j]!.toList) = false) (hk : (s.toList == kwl[k]!.toList) = false) : ∀ j, j < k + 1 → (s.toList == kwl[j]!.toList) = false := by
  intro j hj
  rcases Nat.lt_or_ge j k with h1 | h1
  · exact h j h1
  · obtain rfl : j = k := by omega
    exact hk
theorem kw_row (w : World) (T : TypeId) : Row (w.alloc (.cells (kwl.map Value.string).toArray T)) (some ⟨w.heap.size, 0, none⟩) (kwl.map Value.string) :=
  fun _ => ⟨_, 0, rfl, by simp, fun j u hu => by
    rw [Nat.zero_add]
    exact cell_blk (heap_new _ _) (by rw [List.getElem?_toArray]; exact hu)⟩

set_option maxRecDepth 100000 in
set_option maxHeartbeats 2000000 in
theorem rname_any (s : ByteArray) (w : World) (hs : s.size ≤ 140737488351232) : Calls Tryz.prog 94 #[.string s] w fun e w' => e = .returned (.bool (nameK s.toList)) ∧ Below w.heap.size w w' := by
  have C := fun W => Lib.hid (refName_any s W hs)
  go_enter Tryz.func94, Tryz.ntmps94
  go_wp2_with fail
  go_loopw [4] (fun i wr => ∃ k : Nat, k ≤ 16 ∧ i = .int .i64 k ∧ Hid (∀ j, j < k → (s.toList == kwl[j]!.toList) = false) ∧ Row wr (some ⟨w.heap.size, 0, none⟩) (kwl.map Value.string) ∧ Below w.heap.size w wr) (fun i _ => 16 - (intOf i).toNat)
  case atStart => exact ⟨0, Nat.zero_le _, rfl, Lib.hid (fun j hj => absurd hj (Nat.not_lt_zero _)), kw_row w _, (Below.refl _ _).alloc (Nat.le_refl _) _⟩
  case round =>
    obtain ⟨k, hk, rfl, HR, hr, hB⟩ := hrel
    by_cases hlt : k < 16
    · obtain ⟨b, off, hA, hb, hc⟩ := hr.str_at (l := kwl) (i := k) hlt
      simp only [Option.some.injEq, Addr.mk.injEq, and_true] at hA
      obtain ⟨rfl, rfl⟩ := hA
      rw [Nat.zero_add] at hc
      have hk0 : (0 : Int) ≤ (k : Int) := Int.natCast_nonneg _
      have hk1 : (k : Int) < (16 : Int) := by omega
      cases hq : (s.toList == kwl[k]!.toList) with
      | true =>
        have HF := Lib.hid (kw_hit hlt hq)
        have HRow := Lib.hid hr
        clear HR hr
        generalize kwl[k]! = x at *
        go_wp2_with fail
        go_ret
        exact ⟨ret_bool HF.out.symm, hB⟩
      | false =>
        have HR' := Lib.hid (kw_more HR.out hq)
        have HRow := Lib.hid hr
        clear HR hr
        generalize kwl[k]! = x at *
        go_wp2_with fail
        go_roundw
        case rel => exact ⟨k + 1, hlt, by go_num, HR', HRow.out, hB⟩
        case measure => simp [intOf]; omega
    · obtain rfl : k = 16 := by omega
      have HF := Lib.hid (kw_miss HR.out)
      clear HR hr
      go_wp2_with (go_at_call 113; refine (C _).out.mono ?_; rintro e w' ⟨rfl, hb'⟩)
      go_ret
      exact ⟨ret_bool HF.out.symm, hB.trans (hb'.mono hB.size)⟩
end Go.Proofs.YtandfjahfbeaiaaGreat
