/-
  Contracts of package staff: place, Here; the iterators chain, holders, and what they hand back; slices.Contains at texts. Contracts of package staff's iterators: chain, holders, and what they hand back. A region in a round that draws its order: reads and still calls, then a tail in turn.
-/
import Derived.Test.YtahhhhacoigpmaaScab
import Derived.RangeFuncNested
import Derived.RangeFuncBound
import Derived.RangeFuncCalls
import Derived.RangeFuncLeaves
import Derived.Shelf.AbstractIn
import Derived.OwnWalkIn
import Derived.TacticsInMore
import Derived.LoopNIn
import Derived.StillTailTactics
namespace Go.Proofs.Ytahhhhacoigpmaa.SF
open Go.RowKit Go.Shelf Go.Proofs.Ytahhhhacoigpmaa.B
attribute [local go_sem] Oper.semAt_some
abbrev pt (k : Nat) : Value := .pointer (some ⟨k, 0, none⟩)
abbrev iv (i : Nat) : Value := .int .i64 (i : Int)
set_option maxHeartbeats 400000 in
theorem place_any (w : World) (sb : Nat) (A : SA) (M : List Mb) (h : StI w sb A M) (s : ByteArray) (hs : s.size ≤ 140737488351232) :
    Calls Try.prog 30 #[pt sb, .string s] w fun e w' => e = .returned (.int .i64 (placeL M s.toList)) ∧ w = w' := by
  have c1 := h.c1
  have hl := h.lt
  obtain ⟨q, hq, hp⟩ := h.look hs
  have HP : Hid (hasB (nms M) s.toList = false → placeL M s.toList = -1) := Lib.hid (fun e => by unfold placeL; rw [e]; rfl)
  have HQ := Lib.hid hp
  clear h hp
  generalize placeL M s.toList = p at *
  cases hh : hasB (nms M) s.toList with
  | true =>
    rw [hh] at hq HQ HP
    obtain rfl := HQ.out rfl
    clear HQ HP hh
    go_enter Try.func30, Try.ntmps30
    go_wp2_with fail
    go_ret
    exact ⟨rfl, rfl⟩
  | false =>
    rw [hh] at hq HQ HP
    obtain rfl := HP.out rfl
    clear HQ HP hh
    go_enter Try.func30, Try.ntmps30
    go_wp2_with fail
    go_ret
    exact ⟨rfl, rfl⟩
def hereB (M : List Mb) (k : Int) : Bool := decide (0 ≤ k) && !M[k.toNat]!.away
set_option maxHeartbeats 1000000 in
theorem here_any (w : World) (sb : Nat) (A : SA) (M : List Mb) (h : StI w sb A M) (s : ByteArray) (hs : s.size ≤ 140737488351232) :
    Calls Try.prog 13 #[pt sb, .string s] w fun e w' => e = .returned (.bool (hereB M (placeL M s.toList))) ∧ w = w' := by
  have c0 := h.c0
  have hl := h.lt
  have C := Lib.hid (place_any w sb A M h s hs)
  obtain ⟨p1, p2⟩ := place_range (M := M) s.toList
  generalize placeL M s.toList = p at *
  by_cases hp : p < 0
  · obtain rfl : p = -1 := by omega
    go_enter Try.func13, Try.ntmps13
    go_wp2_with (go_at_call 30; refine C.out.mono ?_; rintro e w' ⟨rfl, rfl⟩)
    go_ret
    exact ⟨rfl, rfl⟩
  · obtain ⟨k, rfl⟩ : ∃ k : Nat, p = (k : Int) := ⟨p.toNat, by omega⟩
    have hk : k < M.length := by omega
    obtain ⟨b, off, hA, hb, a0, a1, a2, a3⟩ := h.at_ hk
    rw [hA] at c0
    have h0 : (0 : Int) ≤ (k : Int) := Int.natCast_nonneg _
    have HE : Hid (hereB M (k : Int) = !M[k]!.away) := Lib.hid (by unfold hereB; rw [decide_eq_true h0, Int.toNat_natCast]; rfl)
    clear h hA a0 a1 a2
    generalize M[k]!.away = v at *
    rw [HE.out]
    clear HE
    go_enter Try.func13, Try.ntmps13
    go_wp2_with (go_at_call 30; refine C.out.mono ?_; rintro e w' ⟨rfl, rfl⟩)
    go_ret
    exact ⟨rfl, rfl⟩
set_option maxHeartbeats 1000000 in
theorem index_any (w : World) (A : Option Addr) (c : Nat) (l : List ByteArray) (hr : Row w A (l.map Value.string)) (hl : l.length ≤ 1000000) (s : ByteArray) :
    Calls Try.prog 75 #[.slice A l.length c, .string s] w fun e w' => e = .returned (.int .i64 (idxB (fun x => s.toList == x.toList) l)) ∧ w = w' := by
  go_enter Try.func75, Try.ntmps75
  have HR := Lib.hid hr
  clear hr
  go_wp2_with fail
  go_loopw [8] (fun i wr => ∃ k : Nat, k ≤ l.length ∧ i = .int .i64 k ∧ wr = w ∧ Hid (∀ j : Nat, j < k → (s.toList == l[j]!.toList) = false)) (fun i _ => l.length - (intOf i).toNat)
  case atStart => exact ⟨0, Nat.zero_le _, rfl, rfl, Lib.hid (fun j hj => by omega)⟩
  case round =>
    obtain ⟨k, hk, rfl, hwr, HK⟩ := hrel
    subst hwr
    by_cases hlt : k < l.length
    · obtain ⟨b, off, rfl, hb, hc⟩ := HR.out (fun e => by rw [List.map_eq_nil_iff] at e; rw [e] at hlt; simp at hlt)
      have ck := hc k (.string l[k]!) (by rw [List.getElem?_map, List.getElem?_eq_getElem hlt, getElem!_pos l k hlt]; rfl)
      have hi0 : (0 : Int) ≤ (k : Int) := Int.natCast_nonneg _
      have hi1 : (k : Int) < (l.length : Int) := by omega
      clear hc HR
      cases he : (s.toList == l[k]!.toList) with
      | true =>
        have HI := Lib.hid (idxB_hit (p := fun x : ByteArray => s.toList == x.toList) hlt he HK.out)
        generalize l[k]! = x at *
        go_wp2_with fail
        go_ret
        exact ⟨ret_i64 HI.out.symm, rfl⟩
      | false =>
        have HS := Lib.hid (all_step (p := fun x : ByteArray => s.toList == x.toList) HK.out he)
        generalize l[k]! = x at *
        go_wp2_with fail
        go_roundw
        case rel => exact ⟨k + 1, hlt, by go_num, trivial, HS⟩
        case measure => simp [intOf]; omega
    · obtain rfl : k = l.length := by omega
      have HI := Lib.hid (idxB_miss (p := fun x : ByteArray => s.toList == x.toList) HK.out)
      go_wp2_with fail
      go_ret
      exact ⟨ret_i64 HI.out.symm, rfl⟩
theorem has_any_eq (l : List ByteArray) (s : ByteArray) : decide (0 ≤ idxB (fun x : ByteArray => s.toList == x.toList) l) = hasB (l.map (·.toList)) s.toList := by
  rw [idxB_any]
  unfold hasB
  rw [Bool.eq_iff_iff, List.any_eq_true, List.contains_iff_mem, List.mem_map]
  constructor
  · rintro ⟨x, hx, he⟩
    exact ⟨x, hx, (eq_of_beq he).symm⟩
  · rintro ⟨x, hx, he⟩
    exact ⟨x, hx, by rw [he]; exact beq_self_eq_true _⟩
set_option maxHeartbeats 400000 in
theorem contains_any (w : World) (A : Option Addr) (c : Nat) (l : List ByteArray) (hr : Row w A (l.map Value.string)) (hl : l.length ≤ 1000000) (s : ByteArray) :
    Calls Try.prog 49 #[.slice A l.length c, .string s] w fun e w' => e = .returned (.bool (hasB (l.map (·.toList)) s.toList)) ∧ w = w' := by
  have C := Lib.hid (index_any w A c l hr hl s)
  have HE := Lib.hid (has_any_eq l s)
  clear hr
  go_enter Try.func49, Try.ntmps49
  go_wp2_with (go_at_call 75; refine C.out.mono ?_; rintro e w' ⟨rfl, rfl⟩)
  go_ret
  exact ⟨ret_bool HE.out, rfl⟩
end Go.Proofs.Ytahhhhacoigpmaa.SF

namespace Go.Proofs.Ytahhhhacoigpmaa.SF
open Go.RowKit Go.Shelf Go.Proofs.Ytahhhhacoigpmaa.B
attribute [local go_sem] Oper.semAt_some
/-- Below a place, all but some blocks are as they were. -/
structure Kps (n₀ : Nat) (M : Nat → Prop) (W W' : World) : Prop where
  size : W.heap.size ≤ W'.heap.size
  block : ∀ k, k < n₀ → ¬ M k → W'.heap[k]? = W.heap[k]?
theorem Kps.refl (n₀ : Nat) (M : Nat → Prop) (W : World) : Kps n₀ M W W := ⟨Nat.le_refl _, fun _ _ _ => rfl⟩
theorem Kps.trans {n₀ : Nat} {M : Nat → Prop} {A B C : World} (h : Kps n₀ M A B) (k : Kps n₀ M B C) : Kps n₀ M A C := ⟨Nat.le_trans h.size k.size, fun i h1 h2 => (k.block i h1 h2).trans (h.block i h1 h2)⟩
theorem Kps.cell {n₀ : Nat} {M : Nat → Prop} {W W' : World} (h : Kps n₀ M W W') {p : Addr} (h1 : p.block < n₀) (h2 : ¬ M p.block) : W'.cell? p = W.cell? p := World.cell?_of_block (w := W) (h.block p.block h1 h2)
theorem Kps.put {n₀ : Nat} {M : Nat → Prop} {w : World} (hn : n₀ ≤ w.heap.size) (W : World) (l : Nat) (o o' : Obj) (hl : w.heap.size ≤ l) (_ : W.heap[l]? = some o) (_ : o.isCells = false) (_ : o.isWalk = false) : Kps n₀ M W (W.putObj l o') := ⟨by simp, fun _ hk _ => World.putObj_heap_other (by omega)⟩
theorem Kps.of_below {n₀ : Nat} {M : Nat → Prop} {W W' : World} (h : Below W.heap.size W W') (hn : n₀ ≤ W.heap.size) : Kps n₀ M W W' := ⟨h.size, fun k hk _ => h.block k (by omega)⟩
set_option maxHeartbeats 400000 in
theorem chain_mk (n : Nat) (sb : Nat) (k : Int) (w : World) :
    CallsIn Fence.wide n Try.prog 35 #[pt sb, .int .i64 k] w fun e w' => e = .returned (.func (.func 50) #[] #[pt (w.heap.size + 1), pt w.heap.size]) ∧ w' = (w.alloc (.cells #[pt sb] 31)).alloc (.cells #[.int .i64 k] 3) := by
  refine callsIn_of_wp Try.func35 rfl trivial ?_ rfl
  simp only [Try.ntmps35, List.size_toArray, List.length_cons, List.length_nil, Nat.reduceAdd, Nat.reduceSub, Array.replicate_succ, Array.replicate_zero, List.push_toArray, List.append_toArray, List.nil_append, List.cons_append]
  gi_wp2
  go_ret
  exact ⟨rfl, rfl⟩
set_option maxHeartbeats 400000 in
theorem holders_mk (n : Nat) (sb : Nat) (r : ByteArray) (w : World) :
    CallsIn Fence.wide n Try.prog 33 #[pt sb, .string r] w fun e w' => e = .returned (.func (.func 48) #[] #[pt w.heap.size, pt (w.heap.size + 1)]) ∧ w' = (w.alloc (.cells #[pt sb] 31)).alloc (.cells #[.string r] 9) := by
  refine callsIn_of_wp Try.func33 rfl trivial ?_ rfl
  simp only [Try.ntmps33, List.size_toArray, List.length_cons, List.length_nil, Nat.reduceAdd, Nat.reduceSub, Array.replicate_succ, Array.replicate_zero, List.push_toArray, List.append_toArray, List.nil_append, List.cons_append]
  gi_wp2
  go_ret
  exact ⟨rfl, rfl⟩
theorem chL_of {M : List Mb} : ∀ {r : List Nat} {k : Int} {n : Nat}, ChR M k r → r.length ≤ n → chL M n k = r
  | [], k, 0, _, _ => rfl
  | [], k, n + 1, h, _ => by have h : k < 0 := h; unfold chL; rw [if_pos h]
  | x :: r, k, 0, _, h => by simp at h
  | x :: r, k, n + 1, ⟨h1, _, h3⟩, h => by
    subst h1
    unfold chL
    rw [if_neg (by omega), Int.toNat_natCast, chL_of h3 (by simpa using h)]
/-- The places that have come, as numbers. -/
abbrev vals {N : Nat} (ys : List (Fin N)) : List Nat := ys.map (·.val)
set_option maxRecDepth 100000 in
set_option maxHeartbeats 4000000 in
theorem chain_seq {w0 W0 : World} {sb : Nat} {A : SA} {M : List Mb} {c : List Nat} (h : StI w0 sb A M) (k0 : Int) (hc : ChR M k0 c) (hcl : c.length ≤ M.length) (hs : ∀ x : Nat, x < M.length → -1 ≤ M[x]!.sub ∧ M[x]!.sub < M.length) (n : Nat) (h3 : 3 ≤ n) (bx : Nat) (hb : Below w0.heap.size w0 W0) (n₀ : Nat) (Mu : Nat → Prop) (hM : ∀ k, Mu k → w0.heap.size ≤ k)
    (hx0 : W0.heap[bx]? = some (.cells #[pt sb] 31 (0, 0))) (hx1 : W0.heap[bx + 1]? = some (.cells #[.int .i64 k0] 3 (0, 0))) (hlt : bx + 1 < n₀) (hm0 : ¬ Mu bx) (hw0 : w0.heap.size ≤ n₀) :
    SeqStopsK Fence.wide n Try.prog 50 #[pt (bx + 1), pt bx] (fun x : Fin M.length => #[iv x.val]) (Kps n₀ Mu) (fun ys => vals ys = c) (fun ys => vals ys <+: c) c.length W0 := by
  intro l J Jx W hW _ _ hY hJ0
  show CallsIn Fence.wide n Try.prog 50 #[.func (.yield l) #[] #[], pt (bx + 1), pt bx] W _
  have hbW : Below w0.heap.size w0 W := hb.trans (hW.mono hb.size)
  have hbx0 : W.cell? ⟨bx, 0, none⟩ = some (pt sb) := cell_blk (i := 0) ((hW.block bx (blk_lt hx0)).trans hx0) rfl
  have hbx1 : W.cell? ⟨bx + 1, 0, none⟩ = some (.int .i64 k0) := cell_blk (i := 0) ((hW.block (bx + 1) (blk_lt hx1)).trans hx1) rfl
  have hzW := hbW.size
  have HS := Lib.hid h
  have HBW := Lib.hid hbW
  have HY := Lib.hid hY
  have HX0 := Lib.hid hbx0
  have HM0 := Lib.hid hm0
  have HMM := Lib.hid hM
  have HC := Lib.hid hc
  have HSUB := Lib.hid hs
  clear h hb hW hx0 hx1 hm0 hY hbW hM hc hs hbx0
  have h1n : 1 ≤ n := by omega
  have h2n : 1 ≤ n - 1 := by omega
  refine callsIn_of_wp Try.func50 rfl trivial ?_ rfl
  simp only [Try.ntmps50, List.size_toArray, List.length_cons, List.length_nil, Nat.reduceAdd, Nat.reduceSub, Array.replicate_succ, Array.replicate_zero, List.push_toArray, List.append_toArray, List.nil_append, List.cons_append]
  gi_wp2
  gi_loopw [4] (fun i wr => ∃ (k : Int) (ys : List (Fin M.length)) (r : List Nat), i = .int .i64 k ∧ J ys wr ∧ Hid (c = vals ys ++ r ∧ ChR M k r) ∧ Hid (Kps n₀ Mu W wr)) (fun i _ => (chL M M.length (intOf i)).length)
  case atStart => exact ⟨k0, [], c, rfl, hJ0, Lib.hid ⟨rfl, HC.out⟩, Lib.hid (Kps.refl _ _ _)⟩
  case round =>
    clear hJ0 hbx1
    obtain ⟨k, ys, r, rfl, hJ, HE, HK⟩ := hrel
    cases r with
    | nil =>
      have hk : k < 0 := HE.out.2
      have hk' : ¬ 0 ≤ k := by omega
      have HE1 : Hid (vals ys = c) := Lib.hid (by rw [HE.out.1, List.append_nil])
      clear HE HY
      gi_wp2
      go_end0
      exact ⟨⟨_, rfl⟩, .inl ⟨ys, HE1.out, hJ⟩⟩
    | cons x r =>
      obtain ⟨hkx, hxl, hr⟩ := HE.out.2
      subst hkx
      have hlen : ys.length < c.length := by
        have h1 := congrArg List.length HE.out.1
        rw [List.length_append, List.length_map, List.length_cons] at h1; omega
      have hrl : r.length < M.length := by
        have h1 := congrArg List.length HE.out.1
        rw [List.length_append, List.length_cons] at h1; omega
      obtain ⟨fn, tmps, assign, body, hy, hR⟩ := HY.out ys ⟨x, hxl⟩ wr hJ hlen
      dsimp only at hy
      have HRX := Lib.hid hR
      have h0 : (0 : Int) ≤ (x : Int) := Int.natCast_nonneg _
      have hx1 : (x : Int) < (M.length : Int) := by omega
      obtain ⟨b, off, hA, hb, _, _, a2, _⟩ := HS.out.at_ hxl
      have hc0 := HS.out.c0
      rw [hA] at hc0
      have hsl := HS.out.lt
      have HB0 := Lib.hid hb
      have HSL := Lib.hid hsl
      have HA2 := Lib.hid a2
      have HC0 := Lib.hid hc0
      have HSB := Lib.hid (HSUB.out x hxl)
      have HME : Hid ((chL M M.length (x : Int)).length = r.length + 1 ∧ (chL M M.length M[x]!.sub).length = r.length) := Lib.hid ⟨by rw [chL_of HE.out.2 (by rw [List.length_cons]; omega), List.length_cons], by rw [chL_of hr (by omega)]⟩
      have HRR := Lib.hid hr
      have HEC : Hid (c = vals (ys ++ [⟨x, hxl⟩]) ++ r) := Lib.hid (by rw [HE.out.1]; simp)
      clear hlen hR HY hA a2 hc0 hr HE hb hsl
      gi_wp2
      refine HRX.out.mono ?_
      rintro e W3 (⟨rfl, hJ3, hk3⟩ | ⟨rfl, hJx3⟩)
      · have hk4 := HK.out.trans hk3
        have cbx : W3.cell? ⟨bx, 0, none⟩ = some (pt sb) := (hk4.cell (p := ⟨bx, 0, none⟩) (show bx < n₀ by omega) HM0.out).trans HX0.out
        have hlow : ∀ q, q < w0.heap.size → W3.heap[q]? = w0.heap[q]? := fun q hq => (hk4.block q (by omega) (fun hm => by have := HMM.out q hm; omega)).trans (HBW.out.block q hq)
        have d0 : W3.cell? ⟨sb, 0, none⟩ = _ := (World.cell?_of_block (w := w0) (hlow sb HSL.out)).trans HC0.out
        have d2 : W3.cell? ⟨b, off + x * 4 + 2, none⟩ = _ := (World.cell?_of_block (w := w0) (hlow b HB0.out)).trans HA2.out
        obtain ⟨hs1, hs2⟩ := HSB.out
        generalize hsb : M[x]!.sub = sx at *
        have HSX := Lib.hid hsb
        clear hsb hlow
        gi_wp2
        go_roundw
        case rel => exact ⟨sx, _, r, rfl, hJ3, Lib.hid ⟨HEC.out, HRR.out⟩, Lib.hid hk4⟩
        case measure => simp only [intOf]; have := HME.out; omega
      · gi_wp2
        refine bodyPost_ret (results_none rfl _ _ _) rfl ?_
        exact ⟨⟨_, rfl⟩, .inr ⟨_, ⟨r, HEC.out.symm⟩, hJx3⟩⟩
theorem holdK_pre {M : List Mb} {r : Key} {k : Nat} (hk : k ≤ M.length) : holdK M r k <+: hold M r := by
  have h := (List.take_prefix k (List.range M.length)).filter (fun i => holdB M[i]! r)
  rwa [List.take_range, Nat.min_eq_left hk] at h
theorem abides_alloc {β : Type} {B : Nat} {J : β → World → Prop} (h : AbidesFrom B J) {s : β} {W : World} (o : Obj) (hs : J s W) : J s (W.alloc o) :=
  h s W (W.alloc o) none hs ⟨rfl, rfl, rfl, by simp, fun k hk _ => Below.heap_alloc _ _ _ hk⟩ (fun r e => by cases e)
set_option maxRecDepth 100000 in
set_option maxHeartbeats 4000000 in
theorem holders_seq {w0 W0 : World} {sb : Nat} {A : SA} {M : List Mb} (h : StI w0 sb A M) (hN : M.length ≤ 40) (hro : ∀ m ∈ M, m.roles.length ≤ 8) (s : ByteArray) (n : Nat) (h3 : 3 ≤ n) (bx : Nat) (hb : Below w0.heap.size w0 W0) (n₀ : Nat) (Mu : Nat → Prop) (hM : ∀ k, Mu k → w0.heap.size ≤ k)
    (hx0 : W0.heap[bx]? = some (.cells #[pt sb] 31 (0, 0))) (hx1 : W0.heap[bx + 1]? = some (.cells #[.string s] 9 (0, 0))) (hlt : bx + 1 < n₀) (hm1 : ¬ Mu (bx + 1)) (hw0 : w0.heap.size ≤ n₀) (hn0 : n₀ ≤ W0.heap.size) :
    SeqStopsK Fence.wide n Try.prog 48 #[pt bx, pt (bx + 1)] (fun x : Fin M.length => #[iv x.val]) (Kps n₀ Mu) (fun ys => vals ys = hold M s.toList) (fun ys => vals ys <+: hold M s.toList) (hold M s.toList).length W0 := by
  obtain ⟨ma, mc, pb⟩ := A
  intro l J Jx W hW hJA _ hY hJ0
  show CallsIn Fence.wide n Try.prog 48 #[.func (.yield l) #[] #[], pt bx, pt (bx + 1)] W _
  have hbW : Below w0.heap.size w0 W := hb.trans (hW.mono hb.size)
  have hbx0 : W.cell? ⟨bx, 0, none⟩ = some (pt sb) := cell_blk (i := 0) ((hW.block bx (blk_lt hx0)).trans hx0) rfl
  have hbx1 : W.cell? ⟨bx + 1, 0, none⟩ = some (.string s) := cell_blk (i := 0) ((hW.block (bx + 1) (blk_lt hx1)).trans hx1) rfl
  have hzW := hbW.size
  have hnW : n₀ ≤ W.heap.size := by have := hW.size; omega
  have hSW := h.below hbW
  have hc0 : W.cell? ⟨sb, 0, none⟩ = some (.slice ma M.length mc) := hSW.c0
  have hsl := hSW.lt
  have HS := Lib.hid h
  have HBW := Lib.hid hbW
  have HY := Lib.hid hY
  have HX1 := Lib.hid hbx1
  have HM1 := Lib.hid hm1
  have HMM := Lib.hid hM
  have HRO := Lib.hid hro
  have HJA := Lib.hid hJA
  clear h hb hW hx0 hx1 hm1 hY hbW hM hro hbx1 hSW hJA
  have h1n : 1 ≤ n := by omega
  have h2n : 1 ≤ n - 1 := by omega
  refine callsIn_of_wp Try.func48 rfl trivial ?_ rfl
  simp only [Try.ntmps48, List.size_toArray, List.length_cons, List.length_nil, Nat.reduceAdd, Nat.reduceSub, Array.replicate_succ, Array.replicate_zero, List.push_toArray, List.append_toArray, List.nil_append, List.cons_append]
  gi_wp2
  clear hbx0 hc0
  gi_loopw [11] (fun i wr => ∃ (k : Nat) (ys : List (Fin M.length)), k ≤ M.length ∧ i = .int .i64 k ∧ J ys wr ∧ Hid (vals ys = holdK M s.toList k) ∧ Hid (Kps n₀ Mu W wr) ∧ n₀ ≤ wr.heap.size) (fun i _ => M.length - (intOf i).toNat)
  case atStart => exact ⟨0, [], Nat.zero_le _, rfl, hJ0, Lib.hid rfl, Lib.hid (Kps.refl _ _ _), hnW⟩
  case round =>
    clear hJ0
    obtain ⟨k, ys, hk, rfl, hJ, HE, HK, hnr⟩ := hrel
    have hlow : ∀ q, q < w0.heap.size → wr.heap[q]? = w0.heap[q]? := fun q hq => (HK.out.block q (by omega) (fun hm => by have := HMM.out q hm; omega)).trans (HBW.out.block q hq)
    by_cases hlt2 : k < M.length
    · have hS := HS.out.keep hlow
      obtain ⟨b, off, hA, hb, a0, a1, a2, a3⟩ := hS.at_ hlt2
      obtain rfl : ma = some ⟨b, off, none⟩ := hA
      have cbx : wr.cell? ⟨bx + 1, 0, none⟩ = some (.string s) := (HK.out.cell (p := ⟨bx + 1, 0, none⟩) (show bx + 1 < n₀ by omega) HM1.out).trans HX1.out
      have hba := (Below.refl wr.heap.size wr).alloc (Nat.le_refl _) (.cells #[.string M[k]!.name, .slice M[k]!.ra M[k]!.roles.length M[k]!.rc, .int .i64 M[k]!.sub, .bool M[k]!.away] 72)
      have CC := Lib.hid (contains_any _ M[k]!.ra M[k]!.rc M[k]!.roles ((hS.role hlt2).below (Nat.le_refl _) hba) (by have := HRO.out _ (mem_at hlt2); omega) s)
      have hJa := abides_alloc HJA.out (.cells #[.string M[k]!.name, .slice M[k]!.ra M[k]!.roles.length M[k]!.rc, .int .i64 M[k]!.sub, .bool M[k]!.away] 72) hJ
      have HKS := Lib.hid (holdK_succ M s.toList k)
      have HKa : Hid (Kps n₀ Mu W (wr.alloc (.cells #[.string M[k]!.name, .slice M[k]!.ra M[k]!.roles.length M[k]!.rc, .int .i64 M[k]!.sub, .bool M[k]!.away] 72))) := Lib.hid (HK.out.trans (Kps.of_below hba hnr))
      have hi0 : (0 : Int) ≤ (k : Int) := Int.natCast_nonneg _
      have hi1 : (k : Int) < (M.length : Int) := by omega
      have HPR : Hid (holdK M s.toList (k + 1) <+: hold M s.toList) := Lib.hid (holdK_pre hlt2)
      have HSU : Hid ((holdK M s.toList (k + 1)).length ≤ (hold M s.toList).length) := Lib.hid HPR.out.length_le
      have hbl : bx + 1 < wr.heap.size := by omega
      have hhd : holdB M[k]! s.toList = hasB (M[k]!.roles.map (·.toList)) s.toList := rfl
      rw [← hhd] at CC
      clear hS hba hJ hlow HK hhd
      cases hh : holdB M[k]! s.toList with
      | false =>
        rw [hh, if_neg (by decide), List.append_nil] at HKS
        rw [hh] at CC
        clear hh HY
        generalize M[k]! = m at *
        gi_wp2_with (refine ⟨trivial, ?_⟩; gi_at_call 49; refine (callsIn_wide.2 CC.out).mono ?_; rintro e w' ⟨rfl, rfl⟩)
        all_goals first | (intro f hf; cases hf; done) | (refine ⟨fun f hf => (by cases hf), ?_⟩)
        all_goals gi_wp2
        all_goals go_roundw
        case rel => exact ⟨k + 1, ys, hlt2, by go_num, hJa, Lib.hid (by rw [HE.out, HKS.out]), HKa, by simp; omega⟩
        case measure => simp [intOf]; omega
      | true =>
        rw [hh, if_pos rfl] at HKS
        rw [hh] at CC
        have hlen : ys.length < (hold M s.toList).length := by
          have h1 : ys.length = (holdK M s.toList k).length := by rw [← HE.out, List.length_map]
          have h2 := HSU.out
          rw [HKS.out, List.length_append, List.length_singleton] at h2
          omega
        obtain ⟨fn, tmps, assign, body, hy, hR⟩ := HY.out ys ⟨k, hlt2⟩ _ hJa hlen
        dsimp only at hy
        have HRX := Lib.hid hR
        have HEN : Hid (vals (ys ++ [⟨k, hlt2⟩]) = holdK M s.toList (k + 1)) := Lib.hid (by rw [HKS.out, ← HE.out]; simp)
        clear hlen hR HY hh hJa
        generalize M[k]! = m at *
        gi_wp2_with (refine ⟨trivial, ?_⟩; gi_at_call 49; refine (callsIn_wide.2 CC.out).mono ?_; rintro e w' ⟨rfl, rfl⟩)
        refine HRX.out.mono ?_
        rintro e W3 (⟨rfl, hJ3, hk3⟩ | ⟨rfl, hJx3⟩)
        · gi_wp2
          go_roundw
          case rel => exact ⟨k + 1, _, hlt2, by go_num, hJ3, HEN, Lib.hid (HKa.out.trans hk3), by have h1 := hk3.size; simp at h1; omega⟩
          case measure => simp [intOf]; omega
        · gi_wp2
          refine bodyPost_ret (results_none rfl _ _ _) rfl ?_
          exact ⟨⟨_, rfl⟩, .inr ⟨_, by rw [HEN.out]; exact HPR.out, hJx3⟩⟩
    · obtain rfl : k = M.length := by omega
      gi_wp2
      go_end0
      exact ⟨⟨_, rfl⟩, .inl ⟨ys, HE.out, hJ⟩⟩
end Go.Proofs.Ytahhhhacoigpmaa.SF

namespace Go.Proofs.Ytahhhhacoigpmaa.B
open Go Go.RowKit
def noDefer (l : List Oper) : Bool := l.all fun o => match o.op with | .defer _ => false | _ => true
theorem noDefer_at {l : List Oper} (h : noDefer l = true) {i : Nat} {o : Oper} (ho : l.toArray[i]? = some o) : ∀ c, o.op ≠ .defer c := by
  intro c e
  have hm : o ∈ l := by
    rw [List.getElem?_toArray] at ho
    exact List.mem_of_getElem? ho
  have := List.all_eq_true.1 h o hm
  simp [e] at this
theorem op_round {lp n : Nat} {P : Program} {o : Oper} {a : Act} {w : World} {K K1 K2 : Act → World → Prop} (hd : ∀ c, o.op ≠ .defer c) (hK : ∀ a w, K1 a w → K2 a w) (h : o.wp P a w K1 (Exit.then K (fun _ _ _ => False))) :
    o.wpIn (Fence.wide.inRound lp) n P a w K2 (Exit.then K (fun _ _ _ => False)) := by
  refine ⟨fun _ _ => trivial, ?_⟩
  show o.uponIn _ n P a K2 _ ((o.semAt (some lp) a.eval).run P w)
  rw [Oper.semAt_some lp _ _ hd]
  unfold Oper.wp at h
  generalize (execOp a.eval o).run P w = r at *
  cases r with
  | ok x w' =>
    cases x with
    | value v => exact hK _ _ h
    | skip => exact hK _ _ h
    | defer d => exact hK _ _ h
    | enter f args =>
      refine ⟨fun e => (by cases e), CallsIn.inRound lp (callsIn_wide.2 (Calls.mono h ?_))⟩
      intro e w'' he
      cases e with
      | returned v => exact hK _ _ he
      | panicked ch => exact he
      | outgrown => exact he
    | row row args =>
      refine ⟨fun e => (by cases e), fun c cs _ => ?_⟩
      obtain ⟨v, w'', r, s⟩ := h c cs
      exact ⟨v, w'', hK _ _ r, stepsIn_wide.2 s⟩
    | _ => exact h.elim
  | halt x w' =>
    cases x <;> first | exact h | exact h.elim
theorem any_round {lp n : Nat} {P : Program} {md : Region.Mode} {l : List Oper} {K : Act → World → Prop} (hd : noDefer l = true) : ∀ (f : Nat) (listed : Array Bool) (a : Act) (w : World), wpAny P md l.toArray (Exit.then K (fun _ _ _ => False)) f listed a w → wpAnyIn (Fence.wide.inRound lp) n P md l.toArray (Exit.then K (fun _ _ _ => False)) f listed a w
  | 0, _, _, _, h => h
  | f + 1, listed, a, w, h => by
    refine ⟨h.1, fun i hi => ?_⟩
    have h2 := h.2 i hi
    have ih := fun a w => any_round (lp := lp) (n := n) (P := P) (md := md) (K := K) hd f (listed.setIfInBounds i true) a w
    unfold wpOp at h2
    unfold wpOpIn
    cases ho : l.toArray[i]? with
    | none => rw [ho] at h2; exact ih _ _ h2
    | some o =>
      rw [ho] at h2
      simp only at h2 ⊢
      by_cases hw : Region.wanted o (yielded l.toArray a.tmps) = true
      · rw [if_pos hw] at h2 ⊢
        rcases h2 with h2 | ⟨_, _, _, h3⟩
        · exact op_round (noDefer_at hd ho) ih h2
        · exact h3.elim
      · rw [if_neg hw] at h2 ⊢
        exact ⟨fun _ _ => trivial, ih _ _ h2⟩
theorem wpIn_round_still_tail {lp m id : Nat} {P : Program} {K : Act → World → Prop} {a : Act} {w : World} {l : List Oper} (n : Nat) (hm : P.follows .mixedOrders = true) (hB : Region.lexTailB .any l.toArray n = true) (hd : noDefer l = true)
    (h : wpStill P l.toArray w.drew (fun a' => wpList P l.toArray (Exit.then K (fun _ _ _ => False)) (l.drop n) a' w.drew) (l.take n) a) : (Code.region id l.toArray true).wpIn (Fence.wide.inRound lp) m P (Exit.then K (fun _ _ _ => False)) a w := by
  simp only [Region.lexTailB, Bool.and_eq_true, decide_eq_true_eq] at hB
  obtain ⟨⟨⟨⟨hsel, hn⟩, hs⟩, hc⟩, hlex⟩ := hB
  have hn' : n < l.length := by simpa using hn
  have htl : (l.take n).length = n := by simp; omega
  have hdl : (l.drop n).length = l.toArray.size - n := by simp
  have inv0 : HeadInv .any l.toArray n (Array.replicate l.toArray.size false) :=
    ⟨by simp, fun j oj _ hl => (by rw [getD_replicate_false] at hl; cases hl), fun t _ ht => getD_in (by simpa using ht) (getD_replicate_false _ _)⟩
  have H := wpAnyL_lex (md := .any) (g := l.toArray.size - n) hsel hs hc hn (l.take n) 0 _ a (fun j hj => by
    have hj' : j < n := by rw [htl] at hj; exact hj
    simp [hj']) (by simpa using htl) inv0 (by rw [htl]; exact hlex) h
  refine wpIn_region_any hm ?_
  have := wpAny_of_head (Q' := Exit.then K (fun _ _ _ => False)) (g := l.toArray.size - n) (fun listed a' hL => by
    have := wpAny_of_seq (md := .any) (Q' := Exit.then K (fun _ _ _ => False)) (l.drop n) n listed a' w.drew (fun j => by simp [List.getElem?_drop]) (by rw [hdl]; exact hL.1) hL.2
    rwa [hdl] at this) _ _ _ H
  rw [htl, show n + (l.toArray.size - n) = l.toArray.size by omega] at this
  exact any_round hd _ _ _ _ this
end Go.Proofs.Ytahhhhacoigpmaa.B
