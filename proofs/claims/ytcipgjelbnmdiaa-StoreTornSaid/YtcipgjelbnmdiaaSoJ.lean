/-
  The store laws' rounds of writes, plainly: a store without a fuse.
-/
import Derived.Test.YtcipgjelbnmdiaaSoI
import Derived.Deep.CutBlock
import Derived.Deep.CutRange
import Derived.StillTailTactics
import Derived.StillTactics
namespace Go.Proofs.Ytcipgjelbnmdiaa.ST
open Go.RowKit Go.Shelf Go.Proofs.Ytcipgjelbnmdiaa.B

/-- A store without a fuse, that is up. -/
def calm (wr : Int) : Fs := ⟨⟨false, 0, 0⟩, false, wr⟩
theorem wr_calm (L : List Bk) (wr : Int) (i : Int) (d : ByteArray) : ∃ wr', (wrS L (calm wr) i d).2.2 = calm wr' ∧ wr ≤ wr' ∧ wr' ≤ wr + 1 := by
  unfold wrS
  split
  · exact ⟨wr, rfl, Int.le_refl _, by omega⟩
  · split
    · exact ⟨wr, rfl, Int.le_refl _, by omega⟩
    · split
      · rename_i h; exact absurd h (by unfold calm tearB; simp)
      · exact ⟨wr + 1, rfl, by omega, Int.le_refl _⟩
theorem block_still (W : World) (s : ByteArray) (hs : s.size ≤ 1000000) : Calls Try.prog 28 #[.string s] W fun e w'' => e = .returned (.string (blk s)) ∧ w'' = W :=
  (block_any W s hs).mono fun _ _ ⟨h1, h2⟩ => ⟨h1, h2.symm⟩
/-- What stands between two rounds of writes. -/
structure TI (W : World) (sb g c n k : Nat) (w : World) : Prop where
  b : Below W.heap.size W w
  h : ∃ (L : List Bk) (wr : Int), L.length = n ∧ 0 ≤ wr ∧ wr ≤ k ∧ SB w sb g c L (calm wr)
  l : W.heap.size ≤ sb ∧ W.heap.size ≤ g
theorem TI.put {W : World} {sb g c n k : Nat} {w w' : World} (h : TI W sb g c n k w) {L : List Bk} {wr : Int} (hL : L.length = n) (h1 : 0 ≤ wr) (h2 : wr ≤ k) (i : Int) (d : ByteArray)
    (hk : K2 sb g w w') (hs : SB w' sb g c (wrS L (calm wr) i d).2.1 (wrS L (calm wr) i d).2.2) : TI W sb g c n (k + 1) w' := by
  obtain ⟨wr', e, h3, h4⟩ := wr_calm L wr i d
  refine ⟨hk.below h.b h.l.1 h.l.2 h.b.size, ⟨(wrS L (calm wr) i d).2.1, wr', (wrS_len L (calm wr) i d).trans hL, by omega, by omega, ?_⟩, h.l⟩
  rw [← e]; exact hs
theorem TI.drew {W : World} {sb g c n k : Nat} {w : World} (h : TI W sb g c n k w) : TI W sb g c n k w.drew := by
  obtain ⟨L, wr, h1, h2, h3, h4⟩ := h.h
  exact ⟨below_draws h.b 1, ⟨L, wr, h1, h2, h3, h4.drew⟩, h.l⟩
theorem TI.more {W : World} {sb g c n k k2 : Nat} {w : World} (h : TI W sb g c n k w) (hk : k ≤ k2) : TI W sb g c n k2 w := by
  obtain ⟨L, wr, h1, h2, h3, h4⟩ := h.h
  exact ⟨h.b, ⟨L, wr, h1, h2, by omega, h4⟩, h.l⟩
theorem ba_append (a b : ByteArray) : (a ++ b).data.toList = a.data.toList ++ b.data.toList := by rw [ByteArray.data_append, Array.toList_append]
/-- What a torn write leaves of all bytes. -/
theorem torn_bytes {L : List Bk} (hl : ∀ b ∈ L, b.length = 32) {k : Nat} (hk : k < L.length) (X : ByteArray) (hX : X.size = 32) {p : Nat} (hp : p ≤ 32) :
    ((L.set k (onto L[k]! (X.extract 0 p))).flatten) = (L.flatten).take (k * 32) ++ (X.data.toList).take p ++ (L.flatten).drop (k * 32 + p) := by
  have hxl : X.data.toList.length = 32 := by rw [← hX]; simp
  have ho : onto L[k]! (X.extract 0 p) = X.data.toList.take p ++ L[k]!.drop p := by
    unfold onto
    rw [Lib.extract_data, ByteArray.size_extract, hX]
    simp only [List.drop_zero, Nat.sub_zero, Nat.min_eq_left hp]
  rw [ho]
  clear ho
  induction L generalizing k with
  | nil => simp at hk
  | cons a r ih =>
    have ha := hl a (by simp)
    cases k with
    | zero =>
      have e : (a :: r)[0]! = a := rfl
      rw [e, List.set_cons_zero, List.flatten_cons, List.flatten_cons, Nat.zero_mul, List.take_zero, List.nil_append, Nat.zero_add, List.drop_append, ha, List.append_assoc]
      rw [show p - 32 = 0 by omega, List.drop_zero]
    | succ k =>
      have hi : k < r.length := by simpa using hk
      have e : (a :: r)[k + 1]! = r[k]! := by rw [getElem!_pos _ (k + 1) hk, getElem!_pos r k hi]; rfl
      rw [e, List.set_cons_succ, List.flatten_cons, List.flatten_cons, ih (fun b' hb' => hl b' (by simp [hb'])) hi]
      have e1 : (a ++ r.flatten).take (32 + k * 32) = a ++ r.flatten.take (k * 32) := by
        rw [List.take_append, List.take_of_length_le (show a.length ≤ 32 + k * 32 by omega), ha, show 32 + k * 32 - 32 = k * 32 by omega]
      have e2 : (a ++ r.flatten).drop (32 + (k * 32 + p)) = r.flatten.drop (k * 32 + p) := by
        rw [← List.drop_drop, List.drop_left' ha]
      rw [show (k + 1) * 32 = 32 + k * 32 by omega, show 32 + k * 32 + p = 32 + (k * 32 + p) by omega, e1, e2]
      simp only [List.append_assoc]
theorem flatten_len {L : List Bk} (hl : ∀ b ∈ L, b.length = 32) : L.flatten.length = L.length * 32 := by
  have := flat_len hl
  rw [flat_bytes, Lib.byteCells_length] at this
  exact this
theorem torn_string {L : List Bk} (hl : ∀ b ∈ L, b.length = 32) {k : Nat} (hk : k < L.length) (X : ByteArray) (hX : X.size = 32) {p : Nat} (hp : p ≤ 32) (WA NOW : ByteArray) (hW : WA = ⟨L.flatten.toArray⟩)
    (hN : NOW = ⟨((L.set k (onto L[k]! (X.extract 0 p))).flatten).toArray⟩) {m mp : Nat} (hm : m = k * 32) (hmp : mp = k * 32 + p) :
    WA.size = L.length * 32 ∧ WA.extract 0 m ++ X.extract 0 p ++ WA.extract mp WA.size = NOW := by
  have hsz : WA.size = L.length * 32 := by rw [hW, ← flatten_len hl]; exact List.size_toArray ..
  refine ⟨hsz, ?_⟩
  subst hm hmp
  apply ByteArray.ext
  apply Array.toList_inj.1
  rw [ba_append, ba_append, Lib.extract_data, Lib.extract_data, Lib.extract_data, hN, torn_bytes hl hk X hX hp, hW]
  simp only [List.drop_zero, Nat.sub_zero]
  congr 1
  rw [List.take_of_length_le]
  rw [List.length_drop]
  exact Nat.le_refl _
end Go.Proofs.Ytcipgjelbnmdiaa.ST
