/-
  Contract of walker. Contract of Reach. Contracts of the three doings of heads. Contracts of slices.Index, slices.Contains at ints, of leadsBack and Loops. Contracts of ways, and of the iterator that it hands back. Marks of loops that have ended; contract of waits. Contract of Order. Contract of Longest.
-/
import Derived.Test.YtigicbnkfmbolaaCae
import Derived.Laws.MakeOwn
import Derived.Laws.EntriesVeiled
import Derived.RangeFuncNested
import Derived.RangeFuncBound
import Derived.RangeFuncCalls
import Derived.RangeFuncLeaves
import Derived.Shelf.Abstract
import Derived.Shelf.AbstractIn
import Derived.OwnWalkIn
import Derived.TacticsInMore
import Derived.LoopNIn
import Derived.Maps.OwnIn
import Derived.StillTailTactics
namespace Go.Proofs.Ytigicbnkfmbolaa.R6
open Go.RowKit Go.Shelf Go.Proofs.Ytigicbnkfmbolaa.B
theorem info_bool' : (Try.prog.info? 4).map (fun i => (i.zero, i.size, i.bytes)) = some (some (.bool false), 1, 1) := by kernel_rfl
theorem made_bools (n : Nat) : madeCells #[Value.bool false] n = ((List.replicate n false).map Value.bool).toArray := by
  refine Array.ext (by simp [size_madeCells]) (fun i h1 h2 => ?_)
  simp [madeCells, Nat.mod_one]
theorem made_ints (n : Nat) : madeCells #[Value.int .i64 0] n = ((List.replicate n (0 : Int)).map (Value.int .i64)).toArray := by
  refine Array.ext (by simp [size_madeCells]) (fun i h1 h2 => ?_)
  simp [madeCells, Nat.mod_one]
theorem make_bools (n : Nat) (hn : n ≤ 100000) (W : World) : (Instr.makeSlice 69 (.int .i64 n) (.int .i64 n)).run Try.prog W = .ok (.slice (some ⟨W.heap.size, 0, none⟩) n n) (W.alloc (.cells ((List.replicate n false).map Value.bool).toArray 4)) := by
  obtain ⟨i0, hi0, hi1, hi2, hi3⟩ := info_parts info_bool'
  have h := run_make (P := Try.prog) W 69 4 i0 _ Try.underlying69 hi0 hi1 .i64 .i64 n n (by omega) (by omega) (by rw [hi3]; omega) (by omega)
  rw [hi2, Nat.mul_one, Int.toNat_natCast] at h
  exact h.trans (by rw [← made_bools]; rfl)
theorem make_ints (n : Nat) (hn : n ≤ 100000) (W : World) : (Instr.makeSlice 33 (.int .i64 n) (.int .i64 n)).run Try.prog W = .ok (.slice (some ⟨W.heap.size, 0, none⟩) n n) (W.alloc (.cells ((List.replicate n (0 : Int)).map (Value.int .i64)).toArray 3)) := by
  obtain ⟨i0, hi0, hi1, hi2, hi3⟩ := info_parts info_int'
  have h := run_make (P := Try.prog) W 33 3 i0 _ Try.underlying33 hi0 hi1 .i64 .i64 n n (by omega) (by omega) (by rw [hi3]; omega) (by omega)
  rw [hi2, Nat.mul_one, Int.toNat_natCast] at h
  exact h.trans (by rw [← made_ints]; rfl)
/-- Blocks, one behind the other. -/
theorem allocs_below : ∀ (os : List Obj) (W : World) {B : Nat}, B ≤ W.heap.size → Below B W (os.foldl World.alloc W)
  | [], W, _, _ => Below.refl _ _
  | o :: r, W, B, hB => ((Below.refl _ W).alloc hB o).trans (allocs_below r (W.alloc o) (by rw [World.size_alloc]; omega))
theorem allocs_size : ∀ (os : List Obj) (W : World), (os.foldl World.alloc W).heap.size = W.heap.size + os.length
  | [], _ => rfl
  | o :: r, W => by rw [List.foldl_cons, allocs_size r, World.size_alloc, List.length_cons]; omega
theorem allocs_at : ∀ (os : List Obj) (W : World) (k : Nat), k < os.length → (os.foldl World.alloc W).heap[W.heap.size + k]? = os[k]?
  | [], _, _, h => by simp at h
  | o :: r, W, 0, _ => ((allocs_below r (W.alloc o) (B := W.heap.size + 1) (by rw [World.size_alloc]; exact Nat.le_refl _)).block _ (by omega)).trans (heap_new W o)
  | o :: r, W, k + 1, h => by
    have := allocs_at r (W.alloc o) k (by simpa using h)
    rw [World.size_alloc, show W.heap.size + 1 + k = W.heap.size + (k + 1) by omega] at this
    exact this
/-- A row at the head of a block. -/
theorem own_all {w : World} {B e g n : Nat} {xs : List Value} (hB : B ≤ g) (h : w.heap[g]? = some (.cells xs.toArray e (0, 0))) (hl : xs.length = n) (hm : n ≤ 100000) : w.ownsRow B e 1 (rowAt g n) n xs :=
  ⟨by omega, .inr ⟨g, n, _, rfl, hB, h, Nat.le_refl _, by unfold maxLen; omega, by simp [hl], by simp [← hl]⟩⟩
def blocks (S : Nat) (A : Option Addr) (N c : Nat) (fc fw fl : Value) : List Obj :=
  [.cells #[.slice A N c] 38, .cells #[fc] 86, .cells #[fw] 88, .cells #[fl] 86,
   .cells ((List.replicate N false).map Value.bool).toArray 4, .cells #[rowAt (S + 4) N] 69, .cells ((List.replicate N (0 : Int)).map (Value.int .i64)).toArray 3, .cells #[rowAt (S + 6) N] 33,
   .cells #[.slice none 0 0] 33, .cells #[.func (.func 70) #[] #[pt (S + 5), pt (S + 8), pt (S + 1)]] 86,
   .cells #[.func (.func 71) #[] #[pt (S + 8), pt (S + 7), pt S, pt (S + 5), pt (S + 9), pt (S + 10), pt (S + 2), pt (S + 3)]] 86]
theorem blocks_ds {w0 W : World} (hb : Below w0.heap.size w0 W) (rs : List RW) (A : Option Addr) (c : Nat) (fc fw fl : Value) (hN : rs.length ≤ 900) :
    DS ⟨w0, W.heap.size, rs, A, c, fc, fw, fl⟩ ((blocks W.heap.size A rs.length c fc fw fl).foldl World.alloc W) (List.replicate rs.length false) (List.replicate rs.length 0) [] (.slice none 0 0) := by
  have at_ := fun k => allocs_at (blocks W.heap.size A rs.length c fc fw fl) W k
  have hz := allocs_size (blocks W.heap.size A rs.length c fc fw fl) W
  have hbl := allocs_below (blocks W.heap.size A rs.length c fc fw fl) W (B := w0.heap.size) hb.size
  have h0 := at_ 0 (by simp [blocks])
  rw [Nat.add_zero] at h0
  refine ⟨⟨h0, at_ 1 (by simp [blocks]), at_ 2 (by simp [blocks]), at_ 3 (by simp [blocks]), at_ 5 (by simp [blocks]), at_ 7 (by simp [blocks]), at_ 9 (by simp [blocks]), at_ 10 (by simp [blocks])⟩, ?_, ?_, at_ 8 (by simp [blocks]), World.ownsRow_nil _ _ _ _, hb.trans hbl, ?_, hb.size, ?_⟩
  · exact own_all (by simp) (at_ 4 (by simp [blocks])) (by simp) (show rs.length ≤ 100000 by omega)
  · exact own_all (by simp) (at_ 6 (by simp [blocks])) (by simp) (show rs.length ≤ 100000 by omega)
  · rw [hz]; simp [blocks]
  · intro y _
    by_cases hy : y < rs.length
    · rw [getElem!_pos _ y (by simpa using hy)]; simp
    · rw [getElem!_neg _ y (by simpa using hy)]; rfl
set_option maxRecDepth 100000 in
set_option maxHeartbeats 4000000 in
theorem walker_any (W : World) (A : Option Addr) (N c : Nat) (fc fw fl : Nat) (cc cw cl : Array Value) (hN : N ≤ 900) :
    Calls Try.prog 51 #[.slice A N c, .func (.func fc) #[] cc, .func (.func fw) #[] cw, .func (.func fl) #[] cl] W fun e W' => e = .returned (.func (.func 73) #[] #[pt W.heap.size, pt (W.heap.size + 5), pt (W.heap.size + 9), pt (W.heap.size + 8), pt (W.heap.size + 10)]) ∧
      W' = (blocks W.heap.size A N c (.func (.func fc) #[] cc) (.func (.func fw) #[] cw) (.func (.func fl) #[] cl)).foldl World.alloc W := by
  have hmf : ∀ (fn : Fn) (first cap : Array Value) (w : World), (Instr.makeFunc fn first cap).run Try.prog w = .ok (.func fn first cap) w := fun _ _ _ _ => rfl
  have hb := make_bools N (by omega)
  have hi := make_ints N (by omega)
  unfold blocks
  generalize ((List.replicate N false).map Value.bool).toArray = bs at *
  generalize ((List.replicate N (0 : Int)).map (Value.int .i64)).toArray = is at *
  go_enter Try.func51, Try.ntmps51
  go_wp2_with fail

  go_ret
  exact ⟨rfl, rfl⟩
end Go.Proofs.Ytigicbnkfmbolaa.R6

namespace Go.Proofs.Ytigicbnkfmbolaa.R6
open Go.RowKit Go.Shelf Go.Proofs.Ytigicbnkfmbolaa.B
/-- Where the list of Reach lies: a row at g, its box behind it. -/
def UR (N g : Nat) (s : List Bool) (W : World) (F : Nat → Prop) : Prop :=
  s.length = N ∧ W.heap[g + 1]? = some (.cells #[rowAt g N] 69 (0, 0)) ∧ W.ownsRow g 4 1 (rowAt g N) N (s.map Value.bool) ∧ F = fun k => k = g ∨ k = g + 1
theorem UR.keep {N g : Nat} {s : List Bool} {W W' : World} {F : Nat → Prop} (h : UR N g s W F) (hk : ∀ k, F k → W'.heap[k]? = W.heap[k]?) : UR N g s W' F := by
  obtain ⟨h1, h2, h3, rfl⟩ := h
  exact ⟨h1, (hk _ (.inr rfl)).trans h2, own_keep h3 (fun k hg => hk k (.inl (by simp only [Value.ownBlock, Option.some.injEq] at hg; exact hg.symm))), rfl⟩
set_option maxHeartbeats 400000 in
theorem nothing_any (W : World) (a : Nat) : Calls Try.prog 50 #[iv a] W fun e W' => (∃ v, e = .returned v) ∧ W' = W := by
  go_enter Try.func50, Try.ntmps50
  go_wp2
  go_end0
  exact ⟨⟨_, rfl⟩, rfl⟩
set_option maxHeartbeats 400000 in
theorem led_any (W : World) (N g a b : Nat) (s : List Bool) (F : Nat → Prop) (h : UR N g s W F) (hb : b < N) : Calls Try.prog 52 #[iv a, iv b, pt (g + 1)] W fun e W' => (∃ v, e = .returned v) ∧ UR N g (s.set b true) W' F ∧ Ext F W W' := by
  obtain ⟨h1, h2, h3, rfl⟩ := h
  have cB : W.cell? ⟨g + 1, 0, none⟩ = some (rowAt g N) := cell_blk (i := 0) h2 rfl
  have hc := (h3.cellAt b (by omega)).trans (map_get _ (by omega))
  have hf := h3.frozenAt b
  have hlt : g < W.heap.size := (own_block h3 rfl).2
  have hk0 : (0 : Int) ≤ (b : Int) := Int.natCast_nonneg _
  have hk1 : (b : Int) < (N : Int) := by omega
  have hst := (h3.stored b (.bool true)).1
  rw [set_map] at hst
  have H2 := Lib.hid h2
  have HS := Lib.hid hst
  clear h2 hst h3
  go_enter Try.func52, Try.ntmps52
  go_wp2_with fail
  go_end0
  exact ⟨⟨_, rfl⟩, ⟨by rw [List.length_set]; exact h1, (blk_other (by omega)).trans H2.out, HS.out, rfl⟩, Ext.set (F := fun k => k = g ∨ k = g + 1) W (p := ⟨g, b, none⟩) (.bool true) (.inl rfl)⟩
/-- The doings of Reach. -/
theorem uo_reach (x : Cx) (g : Nat) (h1 : x.fc = .func (.func 50) #[] #[]) (h2 : x.fw = .func (.func 52) #[] #[pt (g + 1)]) (h3 : x.fl = .func (.func 50) #[] #[]) :
    UO Try.prog x opR (UR x.rs.length g) (fun _ _ => True) (fun _ _ => True) 50 52 50 #[] #[pt (g + 1)] #[] := by
  refine ⟨h1, h2, h3, enters_of Try.func50 (by kernel_rfl) rfl, enters_of Try.func52 (by kernel_rfl) rfl, enters_of Try.func50 (by kernel_rfl) rfl,
    fun s W W' F h _ hk => h.keep hk, fun s W F k h hk => ?_, fun s W F a h _ _ => ?_, fun s W F a b h _ hb => ?_, fun s W F a h _ _ => ?_⟩
  · obtain ⟨_, h2, h3, rfl⟩ := h
    rcases hk with rfl | rfl
    · exact (own_block h3 rfl).2
    · exact blk_lt h2
  · show Calls Try.prog 50 #[iv a] W _
    exact (nothing_any W a).mono fun e W' ⟨hv, hw⟩ => ⟨hv, F, by rw [hw]; exact h, by rw [hw]; exact Ext.refl _ _, fun k hk => .inl hk⟩
  · show Calls Try.prog 52 #[iv a, iv b, pt (g + 1)] W _
    exact (led_any W x.rs.length g a b s F h hb).mono fun e W' ⟨hv, hu, he⟩ => ⟨hv, F, hu, he, fun k hk => .inl hk⟩
  · show Calls Try.prog 50 #[iv a] W _
    exact (nothing_any W a).mono fun e W' ⟨hv, hw⟩ => ⟨hv, F, by rw [hw]; exact h, by rw [hw]; exact Ext.refl _ _, fun k hk => .inl hk⟩
/-- What Reach tells of any number. -/
def reachI (n : NetL) (i : Int) : List Nat := if hasI n.length i then reachL n i.toNat else []
def ledI (n : NetL) (i : Int) : List Bool := (walkI n opR (List.replicate n.length false, List.replicate n.length false) i).2
theorem reachI_is (n : NetL) (i : Int) : reachI n i = (List.range n.length).filter fun j => (ledI n i)[j]! := by
  unfold reachI ledI walkI
  cases hh : hasI n.length i with
  | true => rw [if_pos rfl, if_pos rfl]; rfl
  | false =>
    rw [if_neg (by decide), if_neg (by decide)]
    refine (List.filter_eq_nil_iff.2 (fun j _ => ?_)).symm
    show ¬ (List.replicate n.length false)[j]! = true
    rw [rep_get]; simp
theorem ledI_len (n : NetL) (i : Int) : (ledI n i).length = n.length := by
  unfold ledI walkI
  split
  · rw [walk_led_len]; simp
  · simp
theorem range_at {N k : Nat} (h : k < N) : (List.range N)[k]! = k := by rw [getElem!_pos _ k (by simpa using h)]; simp
theorem map_iv_app (P : List Nat) (a : Nat) : (P ++ [a]).map iv = P.map iv ++ [iv a] := by simp
set_option maxRecDepth 100000 in
set_option maxHeartbeats 4000000 in
theorem reach_any (w : World) (A : Option Addr) (c : Nat) (rs : List RW) (i : Int) (hn : NetIn w A rs) (hN : rs.length ≤ 900) (hrow : ∀ r ∈ rs, r.l.length ≤ 100000) :
    Calls Try.prog 38 #[.slice A rs.length c, .int .i64 i] w fun e w' => ∃ v, e = .returned v ∧ w'.ownsRow w.heap.size 3 1 v (reachI (netOf rs) i).length ((reachI (netOf rs) i).map iv) ∧ Below w.heap.size w w' := by
  obtain ⟨i0, hi0, hi1, hi2, hi3⟩ := info_parts info_int'
  have hnl : (netOf rs).length = rs.length := net_len _
  have hmf : ∀ (fn : Fn) (first cap : Array Value) (w : World), (Instr.makeFunc fn first cap).run Try.prog w = .ok (.func fn first cap) w := fun _ _ _ _ => rfl
  have hb := make_bools rs.length (by omega)
  have e43 := enters_of Try.func73 (by kernel_rfl) rfl
  have HRE := Lib.hid (reachI_is (netOf rs) i)
  rw [hnl] at HRE
  have HLL := Lib.hid (ledI_len (netOf rs) i)
  have HLE : Hid (ledI (netOf rs) i = (walkI (netOf rs) opR (List.replicate rs.length false, List.replicate rs.length false) i).2) := Lib.hid (by unfold ledI; rw [hnl])
  -- the memory of led
  obtain ⟨cs, hcs⟩ : ∃ cs, cs = ((List.replicate rs.length false).map Value.bool).toArray := ⟨_, rfl⟩
  rw [← hcs] at hb
  obtain ⟨W2, hW2⟩ : ∃ W2, W2 = (w.alloc (.cells cs 4)).alloc (.cells #[rowAt w.heap.size rs.length] 69) := ⟨_, rfl⟩
  have hs2 : W2.heap.size = w.heap.size + 2 := by rw [hW2, World.size_alloc, World.size_alloc]
  have hb2 : Below w.heap.size w W2 := by rw [hW2]; exact ((Below.refl _ w).alloc (Nat.le_refl _) _).alloc (by rw [World.size_alloc]; omega) _
  have hu2 : UR rs.length w.heap.size (List.replicate rs.length false) W2 (fun k => k = w.heap.size ∨ k = w.heap.size + 1) := by
    refine ⟨by simp, ?_, own_all (Nat.le_refl _) ?_ (by simp) (by omega), rfl⟩
    · rw [hW2]
      have := heap_new (w.alloc (.cells cs 4)) (.cells #[rowAt w.heap.size rs.length] 69)
      rw [World.size_alloc] at this; exact this
    · rw [hW2, ← hcs]; exact heap_old (by rw [World.size_alloc]; omega) (heap_new _ _)
  -- the walker's memory
  obtain ⟨x, hx⟩ : ∃ x : Cx, x = ⟨w, W2.heap.size, rs, A, c, .func (.func 50) #[] #[], .func (.func 52) #[] #[pt (w.heap.size + 1)], .func (.func 50) #[] #[]⟩ := ⟨_, rfl⟩
  have hxr : x.rs = rs := by rw [hx]
  have hxS : x.S = w.heap.size + 2 := by rw [hx]; exact hs2
  have hxw : x.w0 = w := by rw [hx]
  have uo := uo_reach x w.heap.size (by rw [hx]) (by rw [hx]) (by rw [hx])
  have C1 := Lib.hid (walker_any W2 A rs.length c 50 52 50 #[] #[pt (w.heap.size + 1)] #[] hN)
  have hds := blocks_ds hb2 rs A c (.func (.func 50) #[] #[]) (.func (.func 52) #[] #[pt (w.heap.size + 1)]) (.func (.func 50) #[] #[]) hN
  rw [← hx] at hds
  obtain ⟨W3, hW3⟩ : ∃ W3, W3 = (blocks W2.heap.size A rs.length c (.func (.func 50) #[] #[]) (.func (.func 52) #[] #[pt (w.heap.size + 1)]) (.func (.func 50) #[] #[])).foldl World.alloc W2 := ⟨_, rfl⟩
  rw [← hW3] at hds C1
  have hb3 : Below W2.heap.size W2 W3 := by rw [hW3]; exact allocs_below _ _ (Nat.le_refl _)
  have hu3 : UR rs.length w.heap.size (List.replicate rs.length false) W3 (fun k => k = w.heap.size ∨ k = w.heap.size + 1) := hu2.keep (fun k hk => hb3.block k (by omega))
  have hdd : DD x (UR x.rs.length w.heap.size) W3 (List.replicate rs.length false, List.replicate rs.length false) (List.replicate rs.length 0) [] :=
    ⟨_, _, hds, by rw [hxr]; exact hu3, ⟨fun k hk => by rw [hxw, hxS]; omega, fun g hg => by cases hg⟩⟩
  have C2 := Lib.hid (walk_any uo (by rw [hxw, hxr, hx]; exact hn) (by rw [hxr]; exact hN) (by rw [hxr]; exact hrow) (rule_triv x.net opR) (fun _ _ _ _ _ _ _ _ => trivial) (fun _ _ _ _ => trivial) _ _ i W3 hdd (fun _ _ _ _ => ⟨trivial, trivial⟩))
  rw [hxS] at C2
  rw [hs2] at C1
  have HN2 : Hid (x.net = netOf rs) := Lib.hid (by rw [hx]; rfl)
  have HXW := Lib.hid hxw
  have HXR := Lib.hid hxr
  have HXS := Lib.hid hxS
  have hlt2 := hs2
  clear hdd hu3 hb3 hds hW3 uo hu2 hn hrow hcs hx hxr hxS hxw hb2
  subst hW2
  go_enter Try.func38, Try.ntmps38
  go_wp2_with fail
  refine C1.out.mono ?_
  rintro e w3 ⟨rfl, rfl⟩
  go_wp2_with fail
  refine C2.out.mono ?_
  rintro e W4 ⟨⟨v, rfl⟩, X', vp, F, hd, ⟨hl4, hb4, ho4, rfl⟩, hs⟩
  rw [HXR.out] at hb4 ho4
  rw [HN2.out, ← HLE.out] at ho4
  have hbel := hd.bel
  rw [HXW.out] at hbel
  have HB4 := Lib.hid hbel
  have HO4 := Lib.hid ho4
  have cb4 : W4.cell? ⟨w.heap.size + 1, 0, none⟩ = some (rowAt w.heap.size rs.length) := cell_blk (i := 0) hb4 rfl
  have hlt4 : w.heap.size + 1 < W4.heap.size := blk_lt hb4
  have hll := HLL.out
  rw [hnl] at hll
  generalize ledI (netOf rs) i = led at *
  obtain ⟨q, hq⟩ : ∃ q : Nat → Bool, q = fun j => led[j]! := ⟨_, rfl⟩
  rw [← hq] at HRE
  have HQ := fun j => Lib.hid (congrFun hq j)
  clear hq
  clear hd hb4 ho4 hs hbel hl4 C1 C2 HLE HLL HN2 HXW HXR HXS hb hs2 hlt2
  go_wp2_with fail
  clear cb4
  go_loopw [7, 22] (fun v j wr => ∃ k : Nat, k ≤ rs.length ∧ j = .int .i64 k ∧ Hid (wr.ownsRow w.heap.size 3 1 v (selL q (List.range rs.length) k).length ((selL q (List.range rs.length) k).map iv)) ∧ (∀ g, v.ownBlock = some g → W4.heap.size ≤ g) ∧ Hid (Below W4.heap.size W4 wr)) (fun _ j _ => rs.length - (intOf j).toNat)
  case atStart => exact ⟨0, Nat.zero_le _, rfl, Lib.hid (World.ownsRow_nil _ _ _ _), fun g hg => by (cases hg), Lib.hid (Below.refl _ _)⟩
  case round =>
    obtain ⟨k, hk, rfl, HV, hvb, HB⟩ := hrel
    have hB := HB.out.size
    by_cases hlt : k < rs.length
    · have hc := (HO4.out.cellAt k (by omega)).trans (map_get _ (by omega))
      rw [← HB.out.cell (p := ⟨w.heap.size, k, none⟩) (show w.heap.size < W4.heap.size by omega)] at hc
      have hk0 : (0 : Int) ≤ (k : Int) := Int.natCast_nonneg _
      have hk1 : (k : Int) < (rs.length : Int) := by omega
      have hs := sel_len q (List.range rs.length) k
      have hrk := range_at hlt
      have hkr : k < (List.range rs.length).length := by simpa using hlt
      obtain ⟨va, vc, rfl⟩ := own_slice HV.out
      cases hp : led[k]! with
      | false =>
        have e1 := sel_no (p := q) hkr (by rw [hrk, (HQ k).out]; exact hp)
        have HE1 := Lib.hid e1
        rw [hp] at hc
        clear hrk hkr e1
        go_wp2_with fail
        go_roundw
        case rel => exact ⟨k + 1, hlt, by go_num, by rw [HE1.out]; exact HV, hvb, HB⟩
        case measure => simp [intOf]; omega
      | true =>
        have e1 := sel_yes (p := q) hkr (by rw [hrk, (HQ k).out]; exact hp)
        rw [hrk] at e1
        have HE1 := Lib.hid e1
        rw [hp] at hc
        clear hrk hkr e1
        go_wp2_with (at_builtin; refine wpList_append_own_at _ rfl (.tmp 28) (.tmp 30) 33 rfl w.heap.size 3 i0 _ 1 8 Try.underlying33 hi0 hi1 hi2 hi3 rfl (by omega) _ _ _ rfl (HV.out.alloc _) ⟨wr.heap.size, 0, none⟩ 1 1 [iv k] rfl rfl ?c1 ?c2 ?c3 ?c4 ?c5 ?_)
        case c1 =>
          intro j u hj
          have hn := heap_new wr (.cells #[iv k] 3)
          match j, hj with
          | 0, hj => cases hj; exact cell_blk hn rfl
        case c2 => intro u hu; simp at hu; rw [hu]; rfl
        case c3 => unfold maxLen; omega
        case c4 => omega
        case c5 => rw [World.size_alloc]; omega
        intro v' w4 hown' hgrow _ hat
        have HB5 : Hid (Below W4.heap.size W4 w4) := Lib.hid ((HB.out.alloc hB _).grown hgrow (by rw [World.size_alloc]; omega) hvb)
        have hvb' : ∀ g, v'.ownBlock = some g → W4.heap.size ≤ g := fun g hg => by
          rcases hat with h' | h'
          · exact hvb g (h'.symm.trans hg)
          · rw [hg] at h'; injection h' with h'; omega
        have HV5 : Hid (w4.ownsRow w.heap.size 3 1 v' (selL q (List.range rs.length) (k + 1)).length ((selL q (List.range rs.length) (k + 1)).map iv)) := Lib.hid (by
          rw [HE1.out, List.length_append, map_iv_app]; exact hown')
        clear hown' hgrow hat HE1
        go_wp2_with fail
        go_roundw
        case rel => exact ⟨k + 1, hlt, by go_num, HV5, hvb', HB5⟩
        case measure => simp [intOf]; omega
    · obtain rfl : k = rs.length := by omega
      have e : selL q (List.range rs.length) rs.length = reachI (netOf rs) i := by
        rw [HRE.out, ← sel_all]; simp
      rw [e] at HV
      go_wp2_with fail
      go_ret
      exact ⟨_, rfl, HV.out, HB4.out.trans (HB.out.mono HB4.out.size)⟩
end Go.Proofs.Ytigicbnkfmbolaa.R6

namespace Go.Proofs.Ytigicbnkfmbolaa.R6
open Go.RowKit Go.Shelf Go.Proofs.Ytigicbnkfmbolaa.B
instance : Inhabited TJ := ⟨⟨[], [], [], []⟩⟩
/-- How the heads' memory lies: three rows with their boxes, a box for what is open. -/
structure UH (N g : Nat) (s : TJ) (W : World) (vo : Value) : Prop where
  hl : s.h.length = N
  ml : s.m.length = N
  ll : s.l.length = N
  hb : W.heap[g + 1]? = some (.cells #[rowAt g N] 33 (0, 0))
  mb : W.heap[g + 3]? = some (.cells #[rowAt (g + 2) N] 33 (0, 0))
  lb : W.heap[g + 5]? = some (.cells #[rowAt (g + 4) N] 33 (0, 0))
  ob : W.heap[g + 6]? = some (.cells #[vo] 33 (0, 0))
  hr : W.ownsRow g 3 1 (rowAt g N) N (s.h.map (Value.int .i64))
  mr : W.ownsRow g 3 1 (rowAt (g + 2) N) N (s.m.map iv)
  lr : W.ownsRow g 3 1 (rowAt (g + 4) N) N (s.l.map iv)
  or_ : W.ownsRow (g + 7) 3 1 vo s.o.length (s.o.map iv)
def FH (g : Nat) (vo : Value) (k : Nat) : Prop := (g ≤ k ∧ k < g + 7) ∨ vo.ownBlock = some k
theorem UH.keep {N g : Nat} {s : TJ} {W W' : World} {vo : Value} (h : UH N g s W vo) (hk : ∀ k, FH g vo k → W'.heap[k]? = W.heap[k]?) : UH N g s W' vo := by
  have hk' : ∀ k, g ≤ k → k < g + 7 → W'.heap[k]? = W.heap[k]? := fun k h1 h2 => hk k (.inl ⟨h1, h2⟩)
  refine ⟨h.hl, h.ml, h.ll, (hk' _ (by omega) (by omega)).trans h.hb, (hk' _ (by omega) (by omega)).trans h.mb, (hk' _ (by omega) (by omega)).trans h.lb, (hk' _ (by omega) (by omega)).trans h.ob, own_keep h.hr (fun k hg => ?_), own_keep h.mr (fun k hg => ?_), own_keep h.lr (fun k hg => ?_), own_keep h.or_ (fun k hg => hk k (.inr hg))⟩
  all_goals simp only [Value.ownBlock, Option.some.injEq] at hg
  all_goals exact hk' _ (by omega) (by omega)
theorem UH.lt {N g : Nat} {s : TJ} {W : World} {vo : Value} (h : UH N g s W vo) : g + 6 < W.heap.size := blk_lt h.ob
theorem UH.below {N g : Nat} {s : TJ} {W W' : World} {vo : Value} (h : UH N g s W vo) (hb : Below W.heap.size W W') : UH N g s W' vo := h.keep (fun k hk => hb.block k (by
  have := h.lt
  rcases hk with hk | hk
  · omega
  · exact (own_block h.or_ hk).2))
/-- One of the rows is stored into. -/
theorem UH.other {N g : Nat} {s s' : TJ} {W W' : World} {vo : Value} (h : UH N g s W vo) (b : Nat) (hb : b = g ∨ b = g + 2 ∨ b = g + 4) (he : Ext (fun k => k = b) W W') (hl : s'.h.length = N) (ml : s'.m.length = N) (ll : s'.l.length = N) (ho : s'.o = s.o)
    (hr : W'.ownsRow g 3 1 (rowAt g N) N (s'.h.map (Value.int .i64))) (mr : W'.ownsRow g 3 1 (rowAt (g + 2) N) N (s'.m.map iv)) (lr : W'.ownsRow g 3 1 (rowAt (g + 4) N) N (s'.l.map iv)) : UH N g s' W' vo := by
  have hlt := h.lt
  refine ⟨hl, ml, ll, (he.block _ (by omega) (by omega)).trans h.hb, (he.block _ (by omega) (by omega)).trans h.mb, (he.block _ (by omega) (by omega)).trans h.lb, (he.block _ (by omega) (by omega)).trans h.ob, hr, mr, lr, ?_⟩
  rw [ho]
  exact own_keep h.or_ (fun k hk => he.block k (own_block h.or_ hk).2 (fun e => by have := (own_block h.or_ hk).1; omega))
end Go.Proofs.Ytigicbnkfmbolaa.R6

namespace Go.Proofs.Ytigicbnkfmbolaa.R6
open Go.RowKit Go.Shelf Go.Proofs.Ytigicbnkfmbolaa.B
theorem iv_int (l : List Nat) : l.map iv = (l.map fun j : Nat => (j : Int)).map (Value.int .i64) := by simp
end Go.Proofs.Ytigicbnkfmbolaa.R6

namespace Go.Proofs.Ytigicbnkfmbolaa.R6
open Go.RowKit Go.Shelf Go.Proofs.Ytigicbnkfmbolaa.B
attribute [local go_sem] Oper.semAt_some
/-- Below a place, all but some blocks are as they were. -/
def Kps (n₀ : Nat) (M : Nat → Prop) (W W' : World) : Prop := ∀ k, k < n₀ → ¬ M k → W'.heap[k]? = W.heap[k]?
theorem Kps.refl (n₀ : Nat) (M : Nat → Prop) (W : World) : Kps n₀ M W W := fun _ _ _ => rfl
theorem Kps.trans {n₀ : Nat} {M : Nat → Prop} {A B C : World} (h : Kps n₀ M A B) (k : Kps n₀ M B C) : Kps n₀ M A C := fun i h1 h2 => (k i h1 h2).trans (h i h1 h2)
theorem Kps.cell {n₀ : Nat} {M : Nat → Prop} {W W' : World} (h : Kps n₀ M W W') {p : Addr} (h1 : p.block < n₀) (h2 : ¬ M p.block) : W'.cell? p = W.cell? p := World.cell?_of_block (w := W) (h p.block h1 h2)
theorem Kps.put {n₀ : Nat} {M : Nat → Prop} {w : World} (hn : n₀ ≤ w.heap.size) (W : World) (l : Nat) (o o' : Obj) (hl : w.heap.size ≤ l) (_ : W.heap[l]? = some o) (_ : o.isCells = false) (_ : o.isWalk = false) : Kps n₀ M W (W.putObj l o') := fun _ hk _ => World.putObj_heap_other (by omega)
theorem Kps.ext {n₀ : Nat} {M F : Nat → Prop} {W W' : World} (h : Ext F W W') (hn : n₀ ≤ W.heap.size) (hF : ∀ k, k < n₀ → F k → M k) : Kps n₀ M W W' := fun k hk hm => h.block k (by omega) (fun hf => hm (hF k hk hf))
end Go.Proofs.Ytigicbnkfmbolaa.R6

namespace Go.Proofs.Ytigicbnkfmbolaa.R6
open Go.RowKit Go.Shelf Go.Proofs.Ytigicbnkfmbolaa.B
attribute [local go_sem] Oper.semAt_some
/-- The marks' blocks. -/
structure Mk (B : Nat) (ds : List Nat) (W : World) : Prop where
  d : ∀ D ∈ ds, B ≤ D ∧ W.heap[D]? = some (.deferred (some []))
  n : ds.Nodup
theorem Mk.keeps {B : Nat} {ds : List Nat} {W W' : World} (h : Mk B ds W) (hk : KeepsFrom B W W') : Mk B ds W' := ⟨fun D hD => ⟨(h.d D hD).1, hk.same D _ (h.d D hD).1 (h.d D hD).2 rfl⟩, h.n⟩
theorem Mk.alloc {B : Nat} {ds : List Nat} {W : World} (h : Mk B ds W) (o : Obj) : Mk B ds (W.alloc o) := h.keeps ((KeepsOthers.alloc W o).from B)
theorem Mk.cons {B D : Nat} {ds : List Nat} {W W' : World} (h : Mk B ds W) (hD : W.heap.size ≤ D) (hB : B ≤ W.heap.size) (hk : KeepsFrom B W W') (hd : W'.heap[D]? = some (.deferred (some []))) : Mk B (D :: ds) W' := by
  refine ⟨fun D' hD' => ?_, List.nodup_cons.2 ⟨fun hm => ?_, h.n⟩⟩
  · rcases List.mem_cons.1 hD' with rfl | hm
    · exact ⟨by omega, hd⟩
    · exact (h.keeps hk).d D' hm
  · have := (Array.getElem?_eq_some_iff.1 (h.d D hm).2).1; omega
/-- A box, and the row of ints that it holds, at the head of one block for good. -/
def RowBox (g b N : Nat) (l : List Int) (W : World) : Prop := ∃ v, Boxed W b 33 v ∧ W.ownsRow g 3 1 v N (l.map (Value.int .i64)) ∧ v = rowAt g N
theorem RowBox.set {g b N : Nat} {l : List Int} {W : World} (h : RowBox g b N l W) (hb : b ≠ g) (k : Nat) (i : Int) : RowBox g b N (l.set k i) (W.setCell ⟨g, k, none⟩ (.int .i64 i)) := by
  obtain ⟨v, h1, h2, rfl⟩ := h
  have hst := (h2.stored k (.int .i64 i)).1
  rw [set_map] at hst
  exact ⟨_, (blk_other hb).trans h1, hst, rfl⟩
theorem RowBox.keep {g b N : Nat} {l : List Int} {W W' : World} (h : RowBox g b N l W) (hk : ∀ k, k = g ∨ k = b → W'.heap[k]? = W.heap[k]?) : RowBox g b N l W' := by
  obtain ⟨v, h1, h2, rfl⟩ := h
  exact ⟨_, (hk b (.inr rfl)).trans h1, own_keep h2 (fun k hg => hk k (.inl (by simp only [Value.ownBlock, Option.some.injEq] at hg; exact hg.symm))), rfl⟩
theorem RowBox.len {g b N : Nat} {l : List Int} {W : World} (h : RowBox g b N l W) : l.length = N := by obtain ⟨v, _, h2, _⟩ := h; have := h2.1; simpa using this
theorem RowBox.box {g b N : Nat} {l : List Int} {W : World} (h : RowBox g b N l W) : W.cell? ⟨b, 0, none⟩ = some (rowAt g N) := by obtain ⟨v, h1, _, rfl⟩ := h; exact cell_blk (i := 0) h1 rfl
theorem RowBox.lt {g b N : Nat} {l : List Int} {W : World} (h : RowBox g b N l W) : g < W.heap.size ∧ b < W.heap.size := by obtain ⟨v, h1, h2, rfl⟩ := h; exact ⟨(own_block h2 rfl).2, h1.lt⟩
theorem RowBox.cell {g b N : Nat} {l : List Int} {W : World} (h : RowBox g b N l W) {k : Nat} (hk : k < N) : W.cell? ⟨g, k, none⟩ = some (.int .i64 l[k]!) ∧ W.frozen? ⟨g, k, none⟩ = false := by
  have hl := h.len
  obtain ⟨v, _, h2, rfl⟩ := h
  exact ⟨(h2.cellAt k (by omega)).trans (map_get _ (by omega)), h2.frozenAt k⟩
end Go.Proofs.Ytigicbnkfmbolaa.R6

namespace Go.Proofs.Ytigicbnkfmbolaa.R6
open Go.RowKit Go.Shelf Go.Proofs.Ytigicbnkfmbolaa.B
attribute [local go_sem] Oper.semAt_some
/-- A row that a call owns abides a turn of what is no cells. -/
theorem row_own {β : Type} (B e z n : Nat) (v : Value) (xs : List Value) : Own (fun (_ : β) W => W.ownsRow B e z v n xs) := fun s X Y row hs hg hr => hs.kept hg (by
  cases hv : v.ownBlock with
  | none => exact .inl rfl
  | some g =>
    right; intro e'
    obtain ⟨o, ho, hc⟩ := hr g e'.symm
    rcases hs.2 with ⟨rfl, _⟩ | ⟨g', cap, cur, rfl, _, hg', _⟩
    · cases hv
    · simp only [Value.ownBlock, Option.some.injEq] at hv
      subst hv
      rw [hg'] at ho; cases ho; cases hc)
end Go.Proofs.Ytigicbnkfmbolaa.R6

namespace Go.Proofs.Ytigicbnkfmbolaa.R6
open Go.RowKit Go.Shelf Go.Proofs.Ytigicbnkfmbolaa.B
attribute [local go_sem] Oper.semAt_some
theorem Boxed.keep {W W' : World} {b : Nat} {t : TypeId} {v : Value} (h : Boxed W b t v) (hk : W'.heap[b]? = W.heap[b]?) : Boxed W' b t v := hk.trans h
/-- The frame of Longest in a round of its outer loop; of its inner one. -/
structure LA (bn b6 b7 bx : Nat) (a : Act) : Prop where
  z : a.tmps.size = 50
  s1 : a.tmps.getD 1 undef = pt bn
  s6 : a.tmps.getD 6 undef = pt b6
  s7 : a.tmps.getD 7 undef = pt b7
  s9 : a.tmps.getD 9 undef = pt bx
  d : a.defers = []
structure LB (b7 bx y : Nat) (a : Act) : Prop where
  z : a.tmps.size = 50
  s7 : a.tmps.getD 7 undef = pt b7
  s9 : a.tmps.getD 9 undef = pt bx
  s10 : a.tmps.getD 10 undef = iv y
  d : a.defers = []
end Go.Proofs.Ytigicbnkfmbolaa.R6
