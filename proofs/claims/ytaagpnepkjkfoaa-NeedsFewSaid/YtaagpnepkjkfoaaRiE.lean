/-
  Contract of walker.
-/
import Derived.Test.YtaagpnepkjkfoaaRiD
import Derived.Laws.MakeOwn
import Derived.Laws.EntriesVeiled
namespace Go.Proofs.Ytaagpnepkjkfoaa.R6
open Go.RowKit Go.Shelf Go.Proofs.Ytaagpnepkjkfoaa.B

theorem info_bool' : (Try.prog.info? 4).map (fun i => (i.zero, i.size, i.bytes)) = some (some (.bool false), 1, 1) := by kernel_rfl
theorem made_bools (n : Nat) : madeCells #[Value.bool false] n = ((List.replicate n false).map Value.bool).toArray := by
  refine Array.ext (by simp [size_madeCells]) (fun i h1 h2 => ?_)
  simp [madeCells, Nat.mod_one]
theorem made_ints (n : Nat) : madeCells #[Value.int .i64 0] n = ((List.replicate n (0 : Int)).map (Value.int .i64)).toArray := by
  refine Array.ext (by simp [size_madeCells]) (fun i h1 h2 => ?_)
  simp [madeCells, Nat.mod_one]
theorem make_bools (n : Nat) (hn : n ≤ 100000) (W : World) : (Instr.makeSlice 72 (.int .i64 n) (.int .i64 n)).run Try.prog W = .ok (.slice (some ⟨W.heap.size, 0, none⟩) n n) (W.alloc (.cells ((List.replicate n false).map Value.bool).toArray 4)) := by
  obtain ⟨i0, hi0, hi1, hi2, hi3⟩ := info_parts info_bool'
  have h := run_make (P := Try.prog) W 72 4 i0 _ Try.underlying72 hi0 hi1 .i64 .i64 n n (by omega) (by omega) (by rw [hi3]; omega) (by omega)
  rw [hi2, Nat.mul_one, Int.toNat_natCast] at h
  exact h.trans (by rw [← made_bools]; rfl)
theorem make_ints (n : Nat) (hn : n ≤ 100000) (W : World) : (Instr.makeSlice 26 (.int .i64 n) (.int .i64 n)).run Try.prog W = .ok (.slice (some ⟨W.heap.size, 0, none⟩) n n) (W.alloc (.cells ((List.replicate n (0 : Int)).map (Value.int .i64)).toArray 3)) := by
  obtain ⟨i0, hi0, hi1, hi2, hi3⟩ := info_parts info_int'
  have h := run_make (P := Try.prog) W 26 3 i0 _ Try.underlying26 hi0 hi1 .i64 .i64 n n (by omega) (by omega) (by rw [hi3]; omega) (by omega)
  rw [hi2, Nat.mul_one, Int.toNat_natCast] at h
  exact h.trans (by rw [← made_ints]; rfl)
/-- Blocks, one behind the other. -/
theorem allocs_below : ∀ (os : List Obj) (W : World) {B : Nat}, B ≤ W.heap.size → Below B W (os.foldl World.alloc W)
  | [], W, _, _ => Below.refl _ _
  | o :: r, W, B, hB => ((Below.refl _ W).alloc hB o).trans (allocs_below r (W.alloc o) (by rw [World.size_alloc]; omega))
theorem allocs_size : ∀ (os : List Obj) (W : World), (os.foldl World.alloc W).heap.size = W.heap.size + os.length
  | [], _ => rfl
  | o :: r, W => by rw [List.foldl_cons, allocs_size r, World.size_alloc, List.length_cons]; omega
theorem allocs_at : ∀ (os : List Obj) (W : World) (k : Nat), k < os.length → (os.foldl World.alloc W).heap[W.heap.size + k]? = os[k]?
  | [], _, _, h => by simp at h
  | o :: r, W, 0, _ => ((allocs_below r (W.alloc o) (B := W.heap.size + 1) (by rw [World.size_alloc]; exact Nat.le_refl _)).block _ (by omega)).trans (heap_new W o)
  | o :: r, W, k + 1, h => by
    have := allocs_at r (W.alloc o) k (by simpa using h)
    rw [World.size_alloc, show W.heap.size + 1 + k = W.heap.size + (k + 1) by omega] at this
    exact this
/-- A row at the head of a block. -/
theorem own_all {w : World} {B e g n : Nat} {xs : List Value} (hB : B ≤ g) (h : w.heap[g]? = some (.cells xs.toArray e (0, 0))) (hl : xs.length = n) (hm : n ≤ 100000) : w.ownsRow B e 1 (rowAt g n) n xs :=
  ⟨by omega, .inr ⟨g, n, _, rfl, hB, h, Nat.le_refl _, by unfold maxLen; omega, by simp [hl], by simp [← hl]⟩⟩
def blocks (S : Nat) (A : Option Addr) (N c : Nat) (fc fw fl : Value) : List Obj :=
  [.cells #[.slice A N c] 23, .cells #[fc] 77, .cells #[fw] 79, .cells #[fl] 77,
   .cells ((List.replicate N false).map Value.bool).toArray 4, .cells #[rowAt (S + 4) N] 72, .cells ((List.replicate N (0 : Int)).map (Value.int .i64)).toArray 3, .cells #[rowAt (S + 6) N] 26,
   .cells #[.slice none 0 0] 26, .cells #[.func (.func 77) #[] #[pt (S + 5), pt (S + 8), pt (S + 1)]] 77,
   .cells #[.func (.func 78) #[] #[pt (S + 8), pt (S + 7), pt S, pt (S + 5), pt (S + 9), pt (S + 10), pt (S + 2), pt (S + 3)]] 77]
theorem blocks_ds {w0 W : World} (hb : Below w0.heap.size w0 W) (rs : List RW) (A : Option Addr) (c : Nat) (fc fw fl : Value) (hN : rs.length ≤ 900) :
    DS ⟨w0, W.heap.size, rs, A, c, fc, fw, fl⟩ ((blocks W.heap.size A rs.length c fc fw fl).foldl World.alloc W) (List.replicate rs.length false) (List.replicate rs.length 0) [] (.slice none 0 0) := by
  have at_ := fun k => allocs_at (blocks W.heap.size A rs.length c fc fw fl) W k
  have hz := allocs_size (blocks W.heap.size A rs.length c fc fw fl) W
  have hbl := allocs_below (blocks W.heap.size A rs.length c fc fw fl) W (B := w0.heap.size) hb.size
  have h0 := at_ 0 (by simp [blocks])
  rw [Nat.add_zero] at h0
  refine ⟨⟨h0, at_ 1 (by simp [blocks]), at_ 2 (by simp [blocks]), at_ 3 (by simp [blocks]), at_ 5 (by simp [blocks]), at_ 7 (by simp [blocks]), at_ 9 (by simp [blocks]), at_ 10 (by simp [blocks])⟩, ?_, ?_, at_ 8 (by simp [blocks]), World.ownsRow_nil _ _ _ _, hb.trans hbl, ?_, hb.size, ?_⟩
  · exact own_all (by simp) (at_ 4 (by simp [blocks])) (by simp) (show rs.length ≤ 100000 by omega)
  · exact own_all (by simp) (at_ 6 (by simp [blocks])) (by simp) (show rs.length ≤ 100000 by omega)
  · rw [hz]; simp [blocks]
  · intro y _
    by_cases hy : y < rs.length
    · rw [getElem!_pos _ y (by simpa using hy)]; simp
    · rw [getElem!_neg _ y (by simpa using hy)]; rfl
set_option maxRecDepth 100000 in
set_option maxHeartbeats 4000000 in
theorem walker_any (W : World) (A : Option Addr) (N c : Nat) (fc fw fl : Nat) (cc cw cl : Array Value) (hN : N ≤ 900) :
    Calls Try.prog 49 #[.slice A N c, .func (.func fc) #[] cc, .func (.func fw) #[] cw, .func (.func fl) #[] cl] W fun e W' => e = .returned (.func (.func 79) #[] #[pt W.heap.size, pt (W.heap.size + 5), pt (W.heap.size + 9), pt (W.heap.size + 8), pt (W.heap.size + 10)]) ∧
      W' = (blocks W.heap.size A N c (.func (.func fc) #[] cc) (.func (.func fw) #[] cw) (.func (.func fl) #[] cl)).foldl World.alloc W := by
  have hmf : ∀ (fn : Fn) (first cap : Array Value) (w : World), (Instr.makeFunc fn first cap).run Try.prog w = .ok (.func fn first cap) w := fun _ _ _ _ => rfl
  have hb := make_bools N (by omega)
  have hi := make_ints N (by omega)
  unfold blocks
  generalize ((List.replicate N false).map Value.bool).toArray = bs at *
  generalize ((List.replicate N (0 : Int)).map (Value.int .i64)).toArray = is at *
  go_enter Try.func49, Try.ntmps49
  go_wp2_with fail

  go_ret
  exact ⟨rfl, rfl⟩
end Go.Proofs.Ytaagpnepkjkfoaa.R6
