/-
  The store: blocks and their cells, the store in memory; contracts of block.begun, newFuse, fuse.tears.
-/
import Derived.Test.YtcipgjelbnmdiaaBas
import Derived.Test.YtcipgjelbnmdiaaRgu
import Derived.Test.YtcipgjelbnmdiaaProg
import Derived.Laws.CopyOwn
import Derived.Deep.MidRow
import Derived.Deep.WholeRow
import Derived.Lib.SlBytesRow
import Derived.Lib.SlBuf
import Derived.Lib.UnsafeStr
namespace Go.Proofs.Ytcipgjelbnmdiaa.ST
open Go.RowKit Go.Shelf Go.Proofs.Ytcipgjelbnmdiaa.B
attribute [local go_sem] Oper.semAt_some

/-- A block's bytes. -/
abbrev Bk := List UInt8
abbrev pt (b : Nat) : Value := .pointer (some ⟨b, 0, none⟩)
abbrev bc (b : Bk) : List Value := Lib.byteCells b
theorem bc_len (b : Bk) : (bc b).length = b.length := Lib.byteCells_length b
theorem bc_one (b : Bk) : ∀ v ∈ bc b, v.oneCell' = true := by
  intro v hv
  obtain ⟨x, _, rfl⟩ := List.mem_map.1 hv
  rfl
theorem bc_append (a b : Bk) : bc (a ++ b) = bc a ++ bc b := List.map_append
theorem bc_drop (a : Bk) (k : Nat) : bc (a.drop k) = (bc a).drop k := List.map_drop
theorem bc_take (a : Bk) (k : Nat) : bc (a.take k) = (bc a).take k := List.map_take
/-- A block of which the first bytes are some. -/
def onto (b : Bk) (d : ByteArray) : Bk := d.data.toList ++ b.drop d.size
theorem onto_len {b : Bk} {d : ByteArray} (hb : b.length = 32) (hd : d.size ≤ 32) : (onto b d).length = 32 := by
  unfold onto
  rw [List.length_append, List.length_drop, hb]
  have : d.data.toList.length = d.size := by simp
  omega
/-- 'copy' of a text over the head of a row. -/
theorem run_copy_str {P : Program} (w : World) (dT sT ty elem : TypeId) (g dLen dCap : Nat) (cur : Array Value) (t : TypeId) (d : ByteArray)
    (hu : P.underlying dT = some (.slice elem)) (hs : (P.info? elem).map (·.size) = some 1)
    (hg : w.heap[g]? = some (.cells cur t (0, 0))) (hd : d.size ≤ dLen) (hfit : d.size ≤ cur.size) :
    (Builtin.copy_ #[dT, sT] ty #[.slice (some ⟨g, 0, none⟩) dLen dCap, .string d]).run P w =
      .ok (goInt d.size) (w.setRow g (bc d.data.toList ++ cur.toList.drop d.size).toArray) := by
  have hl : (bc d.data.toList).length = d.size := by rw [bc_len]; simp
  have hst := run_storeCells_at P g 0 t (bc d.data.toList) 0 cur w hg (by rw [hl]; simpa using hfit) (bc_one _)
  have _hx : ((d.extract 0 d.size).data.map fun b => Value.int .u8 (b.toNat : Int)).toList = bc d.data.toList := by
    rw [Array.toList_map]
    show _ = List.map _ _
    congr 1
    rw [Lib.extract_data]
    simp only [List.drop_zero, Nat.sub_zero]
    exact List.take_of_length_le (by simp)
  have hmin : Nat.min d.size dLen = d.size := Nat.min_eq_left hd
  cases hq : P.info? elem with
  | none => simp [hq] at hs
  | some i =>
    have hi : i.size = 1 := by simpa [hq] using hs
    simp only [Nat.add_zero, List.take_zero, List.nil_append, hl, Nat.zero_add] at hst
    simp [Builtin.copy_, run_underlying hu, Builtin.lenOf, Builtin.firstCells, sizeOf, typeInfo, hq, hmin]
    rw [show List.take d.size (List.map (fun b => Value.int IntKind.u8 (b.toNat : Int)) d.data.toList) = bc d.data.toList from List.take_of_length_le (by simp), hst]
    rfl
/-- The same as an operation. -/
theorem wpList_copy_str {P : Program} {w : World} {ops : Array Oper} {rest : List Oper} {o : Oper} {a : Act} {Q : Exit → Act → World → Prop} (hgd : o.guard = none) (x y : Operand) (dT sT : TypeId)
    (ho : o.op = .call { callee := .builtin .copy, args := #[x, y], argTypes := #[dT, sT] }) (elem : TypeId) (hu : P.underlying dT = some (.slice elem)) (hs : (P.info? elem).map (·.size) = some 1)
    (g dLen dCap : Nat) (d : ByteArray) (hx : a.eval x = .slice (some ⟨g, 0, none⟩) dLen dCap) (hy : a.eval y = .string d) (cur : Array Value) (t : TypeId)
    (hg : w.heap[g]? = some (.cells cur t (0, 0))) (hd : d.size ≤ dLen) (hfit : d.size ≤ cur.size) (B : Nat) (hB : B ≤ g)
    (h : ∀ w', Hid (w'.heap[g]? = some (.cells (bc d.data.toList ++ cur.toList.drop d.size).toArray t (0, 0)) ∧ (∀ k, k ≠ g → w'.heap[k]? = w.heap[k]?) ∧ Below B w w') → wpList P ops Q rest (a.put o.dst (goInt d.size)) w') :
    wpList P ops Q (o :: rest) a w := by
  refine Lib.wpList_copy_run w hgd x y dT sT ho _ _ hx hy (run_copy_str w dT sT o.type elem g dLen dCap cur t d hu hs hg hd hfit) ?_
  exact h _ (Lib.hid ⟨setRow_heap w g cur _ t _ hg, fun k hk => setRow_other w g k _ hk, below_setRow (Below.refl _ _) hB _⟩)

theorem info_bk : (Try.prog.info? 100).map (fun i => (i.zero, i.size)) = some (some (.agg (bc (List.replicate 32 0)).toArray), 32) := by kernel_rfl
theorem size_bk : (Try.prog.info? 100).map (·.size) = some 32 := by kernel_rfl
theorem size_u8 : (Try.prog.info? 5).map (·.size) = some 1 := by kernel_rfl
set_option maxRecDepth 100000 in
set_option maxHeartbeats 1000000 in
theorem begun_any (w : World) (b : Bk) (hb : b.length = 32) (d : ByteArray) (hd : d.size ≤ 32) :
    Calls Try.prog 53 #[.agg (bc b).toArray, .string d] w fun e w' => e = .returned (.agg (bc (onto b d)).toArray) ∧ Below w.heap.size w w' := by
  have HZ := Lib.hid (zero_of_info info_bk)
  have hz := (zero_of_info info_bk).1
  obtain ⟨Z, hZ⟩ : ∃ Z, Z = (bc (List.replicate 32 0)).toArray := ⟨_, rfl⟩
  have HZn : Hid (Z.size = 32) := Lib.hid (by rw [hZ]; rfl)
  rw [← hZ] at hz
  clear hZ HZ
  obtain ⟨C, hC⟩ : ∃ C, C = (bc b).toArray := ⟨_, rfl⟩
  have HC := Lib.hid hC
  rw [← hC]
  clear hC
  have HSZ : Hid (C.size = 32) := Lib.hid (by rw [HC.out, List.size_toArray, bc_len, hb])
  have hx0 : ((w.alloc (.cells C 100)).alloc (.cells Z 100)).heap[w.heap.size]? = some (.cells C 100 (0, 0)) := heap_alloc2_old w _ _
  have hx1 : ((w.alloc (.cells C 100)).alloc (.cells Z 100)).heap[w.heap.size + 1]? = some (.cells Z 100 (0, 0)) := heap_alloc2_new w _ _
  have HX0 := Lib.hid hx0
  have HX1 := Lib.hid hx1
  have HB : Hid (Below w.heap.size w ((w.alloc (.cells C 100)).alloc (.cells Z 100))) := Lib.hid (((Below.refl _ _).alloc (Nat.le_refl _) _).alloc (by rw [World.size_alloc]; omega) _)
  clear hx0 hx1
  have HL : Hid ((bc d.data.toList ++ C.toList.drop d.size).toArray = (bc (onto b d)).toArray) := Lib.hid (by rw [HC.out]; unfold onto; rw [bc_append, bc_drop])
  have HLn : Hid ((bc (onto b d)).length = 32) := Lib.hid (by rw [bc_len, onto_len hb hd])
  have hu := Try.underlying100
  have HU := Lib.hid hu
  clear hb hu
  go_enter Try.func53, Try.ntmps53
  go_wp2_with (with_reducible refine wpList_copy_str rfl (.tmp 5) (.tmp 6) 103 9 rfl 5 Try.underlying103 size_u8 w.heap.size 32 32 d rfl rfl C 100 HX0.out hd (by rw [HSZ.out]; exact hd) w.heap.size (Nat.le_refl _) ?_)
  intro w3 H3
  have h0 := H3.out.1
  have h1 := (H3.out.2.1 (w.heap.size + 1) (by omega)).trans HX1.out
  rw [HL.out] at h0
  have G0 := Lib.hid h0
  have G1 := Lib.hid h1
  have GB : Hid (Below w.heap.size w w3) := Lib.hid (HB.out.trans H3.out.2.2)
  clear h0 h1 H3 HL HX0 HX1 HB
  obtain ⟨D, hD⟩ : ∃ D, D = (bc (onto b d)).toArray := ⟨_, rfl⟩
  rw [← hD] at G0
  have HD := Lib.hid hD
  clear hD
  have HDn : Hid (some 32 = some D.size) := Lib.hid (by rw [HD.out, List.size_toArray, HLn.out])
  go_wp2_with (first | (with_reducible refine wpList_load_row rfl 100 (.tmp 2) rfl w.heap.size rfl 100 D (0, 0) _ G0.out HU.out rfl (size_bk.trans HDn.out) ?_) | (with_reducible refine wpList_store_row rfl 100 (.tmp 4) (.tmp 8) rfl (w.heap.size + 1) D rfl rfl 100 Z G1.out (size_bk.trans HDn.out) (by rw [HZn.out]; exact Option.some.inj HDn.out) (by rw [HD.out]; exact all_oneCell_toArray (bc_one _)) ?_))
  go_wp2_with fail
  refine bodyPost_ret (v := .agg D) (results_cell_row rfl _ _ (w.heap.size + 1) 100 D (0, 0) _ rfl (setRow_heap w3 _ Z D _ _ G1.out) HU.out rfl (size_bk.trans HDn.out)) rfl ?_
  exact ⟨by rw [HD.out], below_setRow GB.out (Nat.le_succ _) _⟩
/-- What a fuse holds. -/
structure Fz where
  is : Bool
  wh : Int
  pr : Int
def fzC (f : Fz) : List Value := [.bool f.is, .int .i64 f.wh, .int .i64 f.pr]
/-- The document's fuse of two numbers. -/
def mkF (n p : Int) : Fz := if n < 0 then ⟨false, 0, 0⟩ else ⟨true, n, max p 0 % 33⟩
set_option maxRecDepth 100000 in
set_option maxHeartbeats 1000000 in
theorem newfuse_any (w : World) (n p : Int) (hp : -9223372036854775808 ≤ p ∧ p ≤ 9223372036854775807) :
    Calls Try.prog 54 #[.int .i64 n, .int .i64 p] w fun e w' => e = .returned (.agg (fzC (mkF n p)).toArray) ∧ Below w.heap.size w w' := by
  have h0 := hp.1
  have h1 := hp.2
  by_cases hn0 : n < 0
  · have e : mkF n p = ⟨false, 0, 0⟩ := if_pos hn0
    rw [e]
    clear e
    go_enter Try.func54, Try.ntmps54
    go_wp2_with fail
    exact bodyPost_ret (v := .agg #[.bool false, .int .i64 0, .int .i64 0]) (by simp [results, Try.results54, go_sem]) rfl ⟨rfl, (Below.refl _ _).alloc (Nat.le_refl _) _⟩
  · have e : mkF n p = ⟨true, n, max p 0 % 33⟩ := if_neg hn0
    rw [e]
    clear e
    go_enter Try.func54, Try.ntmps54
    go_wp2_with fail
    exact bodyPost_ret (v := .agg #[.bool true, .int .i64 n, .int .i64 (max p 0 % 33)]) (by simp [results, Try.results54, go_sem]) rfl ⟨rfl, (Below.refl _ _).alloc (Nat.le_refl _) _⟩
end Go.Proofs.Ytcipgjelbnmdiaa.ST
