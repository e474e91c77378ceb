/-
  Lists of texts that came in; how many bytes they have together.
-/
import Derived.Test.YthbleofighjjgaaLgF
import Derived.Test.YthbleofighjjgaaOpn
import Derived.Deep.OwnRows
namespace Go.Proofs.Ythbleofighjjgaa.LG
open Go.RowKit Go.Shelf Go.Deep Go.Joins Go.ChangeShapes Go.WideShapes Go.Proofs.Ythbleofighjjgaa.B Go.Proofs.Ythbleofighjjgaa.OP

section
variable {H : Type} {enc : TypeId × Value → H} {w : World} {base : Nat} {spare : Nat → Bool} {held : Bool}
theorem rd_st (n : Nat) (cs : List Value) (y : DataW H × List MemPlace) (h : DataW.trod enc Try.prog w base spare held n 9 cs = some y) (hw : Wt Try.prog 9 y.1) : ∃ x : ByteArray, cs = stC x ∧ x.size ≤ 140737488351232 := by
  obtain ⟨s, rfl, hy, _⟩ := DataW.trod_string Try.underlying9 h
  refine ⟨s, rfl, ?_⟩
  subst hy
  have := hw.str
  simpa using this
theorem bytesStr : Try.prog.bytesOf 9 = 16 := by kernel_rfl
theorem open_strs {r : Reach} {b0 : Nat} {v : Value} {d : DataW H} {p : List MemPlace} (hv : Value.okWide Try.prog w r b0 26 v) (h : DataW.Trod enc Try.prog w base spare held 26 v d p) (hw : Wt Try.prog 26 d) :
    ∃ (A : Option Addr) (c : Nat) (l : List ByteArray), v = .slice A l.length c ∧ Row w A (l.flatMap stC) ∧ ((∀ x ∈ l, x.size ≤ 140737488351232) ∧ l.length ≤ 140737488351232) := by
  obtain ⟨a, n, c, rfl⟩ := okWide_slice Try.underlying26 hv
  obtain ⟨f, hf⟩ := h
  obtain ⟨A, l, c', e, r0, g, _, _, z⟩ := open_list stC 1 (fun x => x.size ≤ 140737488351232) Try.underlying26 (by kernel_rfl) (fun _ => rfl) (by omega) rd_st (v := .slice a n c) hf hw
  rw [bytesStr] at z
  exact ⟨A, c', l, e, r0, g, by omega⟩
end
/-- How many bytes texts have together. -/
def szs (l : List ByteArray) : Nat := (l.map (·.size)).sum
theorem szs_next {l : List ByteArray} {k : Nat} (hk : k < l.length) : szs (l.take (k + 1)) = szs (l.take k) + l[k]!.size := by
  unfold szs
  rw [take_next hk, List.map_append, List.sum_append]; simp
theorem szs_le {l : List ByteArray} {m : Nat} (h : ∀ x ∈ l, x.size ≤ m) : szs l ≤ l.length * m := by
  induction l with
  | nil => simp [szs]
  | cons a r ih =>
    have h1 := h a (by simp)
    have h2 := ih (fun x hx => h x (by simp [hx]))
    have e : szs (a :: r) = a.size + szs r := by simp [szs]
    rw [e, List.length_cons, Nat.succ_mul]; omega
theorem szs_mem {l : List ByteArray} {x : ByteArray} (h : x ∈ l) : x.size ≤ szs l := by
  induction l with
  | nil => cases h
  | cons a r ih =>
    have e : szs (a :: r) = a.size + szs r := by simp [szs]
    rw [e]
    rcases List.mem_cons.1 h with rfl | h
    · omega
    · have := ih h; omega
/-- The sum as it is counted: right as long as no more than 20 are added. -/
def Cnt (l : List ByteArray) (k : Nat) (z : Int) : Prop := k ≤ 20 → z = (szs (l.take k) : Nat)
theorem cnt_le {l : List ByteArray} (h : ∀ x ∈ l, x.size ≤ 140737488351232) {k : Nat} (hk : k ≤ 20) : szs (l.take k) ≤ 20 * 140737488351232 := by
  refine Nat.le_trans (szs_le (m := 140737488351232) (fun x hx => h x (List.mem_of_mem_take hx))) (Nat.mul_le_mul_right _ ?_)
  rw [List.length_take]; omega
theorem cat_szs (l : List ByteArray) : (cat (l.map by')).length = szs l + l.length * 8 := by
  rw [cat_len, List.length_map]
  have : (l.map by').map List.length = l.map (·.size) := by rw [List.map_map]; exact List.map_congr_left (fun x _ => by_len x)
  rw [this]
  unfold szs
  omega
theorem join_yes {l : List ByteArray} (h : ∀ r ∈ l, 1 ≤ r.size ∧ r.size ≤ 400) : joE l = (⟨(cat (l.map by')).toArray⟩, 0) := if_pos h
theorem join_no {l : List ByteArray} (h : ¬ ∀ r ∈ l, 1 ≤ r.size ∧ r.size ≤ 400) : joE l = (⟨#[]⟩, 3) := if_neg h
/-- Bytes 0. -/
def zeroA (n : Nat) : ByteArray := ⟨(List.replicate n (0 : UInt8)).toArray⟩
theorem zero_size (n : Nat) : (zeroA n).size = n := by rw [← by_len]; exact List.length_replicate
theorem info_u8 : (Try.prog.info? 5).map (fun i => (i.zero, i.size, i.bytes)) = some (some (.int .u8 0), 1, 1) := by kernel_rfl
theorem run_zero (w : World) (k : IntKind) (n : Nat) (hn : n ≤ 100000) : (Instr.makeSlice 34 (.int k (n : Int)) (.int k (n : Int))).run Try.prog w = .ok (.slice (some ⟨w.heap.size, 0, none⟩) n n) (w.alloc (.cells (madeCells #[.int .u8 0] n) 5)) :=
  run_make_row' 34 5 (.int .u8 0) 1 Try.underlying34 info_u8 rfl k k n (by omega) (by omega) w
theorem made_zero (n : Nat) : (madeCells #[.int .u8 0] n).toList = Lib.byteCells (List.replicate n 0) := by
  unfold madeCells Lib.byteCells
  rw [Array.toList_map, List.map_replicate, List.eq_replicate_iff]
  refine ⟨by simp, fun x hx => ?_⟩
  obtain ⟨i, _, rfl⟩ := List.mem_map.1 hx
  show (#[Value.int .u8 0])[i % 1]! = _
  rw [Nat.mod_one]; rfl
theorem conv_zero (w : World) (n : Nat) : (convert 34 9 (.slice (some ⟨w.heap.size, 0, none⟩) n n)).run Try.prog (w.alloc (.cells (madeCells #[.int .u8 0] n) 5)) = .ok (.string (zeroA n)) (w.alloc (.cells (madeCells #[.int .u8 0] n) 5)) :=
  run_conv 34 9 5 Try.underlying34 Try.underlying5 Try.underlying9 w.heap.size n n (heap_new _ _) (List.replicate n 0) List.length_replicate (made_zero n)
theorem scan_tail {l : List ByteArray} (h : ∀ r ∈ l, 1 ≤ r.size ∧ r.size ≤ 400) {s : ByteArray} {t : Bs} (hs : by' s = cat (l.map by') ++ t) (ht : NoF t) : ScanP (by' s) (l.map by') :=
  ⟨fun r hr => by obtain ⟨x, hx, rfl⟩ := List.mem_map.1 hr; exact (ok_size x).2 (h x hx), t, hs, ht⟩
end Go.Proofs.Ythbleofighjjgaa.LG
