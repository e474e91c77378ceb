/-
  Contracts of the law's block and of Write at any arguments.
-/
import Derived.Test.YtcipgjelbnmdiaaSoF
namespace Go.Proofs.Ytcipgjelbnmdiaa.ST
open Go.RowKit Go.Shelf Go.Proofs.Ytcipgjelbnmdiaa.B
attribute [local go_sem] Oper.semAt_some

theorem tearF {f : Fz} (h : tearB f = true) : tickF f = f := by
  obtain ⟨is, wh, pr⟩ := f
  unfold tearB at h
  simp only [Bool.and_eq_true, beq_iff_eq] at h
  obtain ⟨rfl, rfl⟩ := h
  rfl
/-- What a write leaves. -/
def WrP (sb g c : Nat) (L : List Bk) (f : Fs) (i : Int) (d : ByteArray) (w : World) (e : Ending) (w' : World) : Prop :=
  e = .returned (.int .i64 (wrS L f i d).1) ∧ SB w' sb g c (wrS L f i d).2.1 (wrS L f i d).2.2 ∧ K2 sb g w w'
theorem write_any (w : World) (sb g c : Nat) (L : List Bk) (f : Fs) (h : SB w sb g c L f) (i : Int) (d : ByteArray) (hw : 0 ≤ f.wr ∧ f.wr ≤ 1000000) :
    Calls Try.prog 29 #[pt sb, .int .i64 i, .string d] w fun e w' => WrP sb g c L f i d w e w' := by
  by_cases h0 : reachE L.length f.down i = 0
  · by_cases hs : d.size = 32
    · obtain ⟨hd, k, rfl, hk⟩ := reach_ok h0
      cases ht : tearB f.f with
      | true =>
        have e : wrS L f (k : Int) d = (16, L.set k (onto L[k]! (d.extract 0 f.f.pr.toNat)), ⟨f.f, true, f.wr⟩) := by
          unfold wrS; rw [if_neg (by simpa using h0), if_neg (by simpa using hs), if_pos ht]; rfl
        refine (write_torn w sb g c L f h k hk d hs hd ht).mono fun e' w' h' => ?_
        unfold WrP; rw [e]; exact h'
      | false =>
        have e : wrS L f (k : Int) d = (0, L.set k (onto L[k]! d), ⟨tickF f.f, f.down, f.wr + 1⟩) := by
          unfold wrS; rw [if_neg (by simpa using h0), if_neg (by simpa using hs), if_neg (by rw [ht]; decide)]; rfl
        refine (write_yes w sb g c L f h k hk d hs hd ht hw).mono fun e' w' h' => ?_
        unfold WrP; rw [e]; exact h'
    · have e : (wrS L f i d).2 = (L, f) := by unfold wrS; rw [if_neg (by simpa using h0), if_pos hs]
      refine (write_no w sb g c L f h i d (.inr hs)).mono fun e' w' h' => ?_
      unfold WrP; rw [e, ← h'.2]
      exact ⟨h'.1, h, K2.refl _ _ _⟩
  · have e : (wrS L f i d).2 = (L, f) := by unfold wrS; rw [if_pos h0]
    refine (write_no w sb g c L f h i d (.inl h0)).mono fun e' w' h' => ?_
    unfold WrP; rw [e, ← h'.2]
    exact ⟨h'.1, h, K2.refl _ _ _⟩
theorem wrS_wr (L : List Bk) (f : Fs) (i : Int) (d : ByteArray) : f.wr ≤ (wrS L f i d).2.2.wr ∧ (wrS L f i d).2.2.wr ≤ f.wr + 1 := by
  unfold wrS
  split
  · exact ⟨Int.le_refl _, by show f.wr ≤ _; omega⟩
  · split
    · exact ⟨Int.le_refl _, by show f.wr ≤ _; omega⟩
    · split
      · exact ⟨Int.le_refl _, by show f.wr ≤ _; omega⟩
      · exact ⟨by show f.wr ≤ f.wr + 1; omega, Int.le_refl _⟩
theorem wrS_len (L : List Bk) (f : Fs) (i : Int) (d : ByteArray) : (wrS L f i d).2.1.length = L.length := by
  unfold wrS
  split
  · rfl
  · split
    · rfl
    · split <;> exact List.length_set

/-- So many points. -/
def dotA (k : Nat) : ByteArray := ⟨(List.replicate k 46).toArray⟩
theorem dotA_size (k : Nat) : (dotA k).size = k := by show (List.replicate k (46 : UInt8)).toArray.size = k; simp
/-- The law's block. -/
def blk (s : ByteArray) : ByteArray := (s ++ dotA (32 - s.size)).extract 0 32
theorem dot_next (s : ByteArray) (k : Nat) : s ++ dotA k ++ ⟨#[46]⟩ = s ++ dotA (k + 1) := by
  apply ByteArray.ext
  apply Array.toList_inj.1
  simp only [ByteArray.data_append, Array.toList_append, List.append_assoc]
  congr 1
  show List.replicate k (46 : UInt8) ++ [46] = List.replicate (k + 1) 46
  rw [List.replicate_succ']
theorem blk_size (s : ByteArray) : (blk s).size = 32 := by
  unfold blk
  rw [ByteArray.size_extract, ByteArray.size_append, dotA_size]
  omega
structure DT (s x : ByteArray) : Prop where
  e : ∃ k, x = s ++ dotA k ∧ x.size = s.size + k ∧ (k = 0 ∨ x.size ≤ 32)
theorem DT.start (s : ByteArray) : DT s s := ⟨0, by
  apply ByteArray.ext
  simp [dotA, ByteArray.data_append], rfl, .inl rfl⟩
theorem DT.next {s x : ByteArray} (h : DT s x) (hx : x.size < 32) : DT s (x ++ ⟨#[46]⟩) := by
  obtain ⟨k, rfl, h2, h3⟩ := h.e
  refine ⟨k + 1, dot_next s k, ?_, .inr ?_⟩
  · rw [ByteArray.size_append, h2]; rfl
  · rw [ByteArray.size_append]; show _ + 1 ≤ 32; omega
theorem DT.done {s x : ByteArray} (h : DT s x) (hx : 32 ≤ x.size) : x.extract 0 32 = blk s := by
  obtain ⟨k, rfl, h2, h3⟩ := h.e
  unfold blk
  have : k = 32 - s.size := by omega
  rw [this]
theorem DT.le {s x : ByteArray} (h : DT s x) (hs : s.size ≤ 1000000) : x.size ≤ 1000000 := by
  obtain ⟨k, rfl, h2, h3⟩ := h.e
  omega
set_option maxHeartbeats 1000000 in
theorem block_any (w : World) (s : ByteArray) (hs : s.size ≤ 1000000) : Calls Try.prog 28 #[.string s] w fun e w' => e = .returned (.string (blk s)) ∧ w = w' := by
  have HD := Lib.hid (DT.start s)
  have HS := Lib.hid hs
  clear hs
  go_enter Try.func28, Try.ntmps28
  go_wp2_with fail
  go_loop [0] (fun v => ∃ x : ByteArray, v = .string x ∧ Hid (DT s x)) (fun v => match v with | .string x => 32 - x.size | _ => 0)
  case atStart => exact ⟨s, rfl, HD⟩
  case round =>
    obtain ⟨x, rfl, HX⟩ := hrel
    have hle := HX.out.le HS.out
    by_cases hx : x.size < 32
    · have hx2 : (x.size : Int) < 32 := by omega
      have HN := Lib.hid (HX.out.next hx)
      have HSZ : Hid ((x ++ ⟨#[46]⟩).size = x.size + 1) := Lib.hid (by rw [ByteArray.size_append]; rfl)
      go_wp2_with fail
      go_round
      case rel => exact ⟨_, rfl, HN⟩
      case measure => show 32 - (x ++ ⟨#[46]⟩).size < 32 - x.size; rw [HSZ.out]; omega
    · have hx2 : ¬ (x.size : Int) < 32 := by omega
      have hx3 : (32 : Int) ≤ (x.size : Int) := by omega
      have HE := Lib.hid (HX.out.done (by omega))
      go_wp2_with fail
      go_ret
      exact ⟨by first | rfl | (rw [HE.out]; rfl), rfl⟩
end Go.Proofs.Ytcipgjelbnmdiaa.ST
