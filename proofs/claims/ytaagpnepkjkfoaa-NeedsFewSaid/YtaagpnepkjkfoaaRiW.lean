/-
  Contracts of ways, and of the iterator that it hands back.
-/
import Derived.Test.YtaagpnepkjkfoaaRiJ
import Derived.RangeFuncNested
import Derived.RangeFuncBound
import Derived.RangeFuncCalls
import Derived.RangeFuncLeaves
import Derived.Shelf.Abstract
import Derived.Shelf.AbstractIn
import Derived.OwnWalkIn
import Derived.TacticsInMore
import Derived.LoopNIn
namespace Go.Proofs.Ytaagpnepkjkfoaa.R6
open Go.RowKit Go.Shelf Go.Proofs.Ytaagpnepkjkfoaa.B
attribute [local go_sem] Oper.semAt_some

/-- Below a place, all but some blocks are as they were. -/
def Kps (n₀ : Nat) (M : Nat → Prop) (W W' : World) : Prop := ∀ k, k < n₀ → ¬ M k → W'.heap[k]? = W.heap[k]?
theorem Kps.refl (n₀ : Nat) (M : Nat → Prop) (W : World) : Kps n₀ M W W := fun _ _ _ => rfl
theorem Kps.trans {n₀ : Nat} {M : Nat → Prop} {A B C : World} (h : Kps n₀ M A B) (k : Kps n₀ M B C) : Kps n₀ M A C := fun i h1 h2 => (k i h1 h2).trans (h i h1 h2)
theorem Kps.cell {n₀ : Nat} {M : Nat → Prop} {W W' : World} (h : Kps n₀ M W W') {p : Addr} (h1 : p.block < n₀) (h2 : ¬ M p.block) : W'.cell? p = W.cell? p := World.cell?_of_block (w := W) (h p.block h1 h2)
theorem Kps.put {n₀ : Nat} {M : Nat → Prop} {w : World} (hn : n₀ ≤ w.heap.size) (W : World) (l : Nat) (o o' : Obj) (hl : w.heap.size ≤ l) (_ : W.heap[l]? = some o) (_ : o.isCells = false) (_ : o.isWalk = false) : Kps n₀ M W (W.putObj l o') := fun _ hk _ => World.putObj_heap_other (by omega)
theorem Kps.ext {n₀ : Nat} {M F : Nat → Prop} {W W' : World} (h : Ext F W W') (hn : n₀ ≤ W.heap.size) (hF : ∀ k, k < n₀ → F k → M k) : Kps n₀ M W W' := fun k hk hm => h.block k (by omega) (fun hf => hm (hF k hk hf))
set_option maxHeartbeats 400000 in
theorem ways_any (n : Nat) (A : Option Addr) (len c a : Nat) (w : World) :
    CallsIn Fence.wide n Try.prog 43 #[.slice A len c, iv a] w fun e w' => e = .returned (.func (.func 71) #[] #[pt w.heap.size, pt (w.heap.size + 1)]) ∧ w' = (w.alloc (.cells #[.slice A len c] 23)).alloc (.cells #[iv a] 3) := by
  refine callsIn_of_wp Try.func43 rfl trivial ?_ rfl
  simp only [Try.ntmps43, List.size_toArray, List.length_cons, List.length_nil, Nat.reduceAdd, Nat.reduceSub, Array.replicate_succ, Array.replicate_zero, List.push_toArray, List.append_toArray, List.nil_append, List.cons_append]
  gi_wp2
  go_ret
  exact ⟨rfl, rfl⟩
theorem wyR_le {N : Nat} {l : List Int} {i : Nat} : (wyR N (l.take i)).length ≤ (wyR N l).length := ((List.take_sublist i l).filterMap _).length_le
set_option maxRecDepth 100000 in
set_option maxHeartbeats 4000000 in
theorem ways_seq {w0 W0 : World} {A : Option Addr} {c : Nat} {rs : List RW} (hn : NetIn w0 A rs) (hrow : ∀ r ∈ rs, r.l.length ≤ 100000) (n : Nat) (h3 : 3 ≤ n) (bx a : Nat) (ha : a < rs.length) (hb : Below w0.heap.size w0 W0) (n₀ : Nat) (M : Nat → Prop) (hM : ∀ k, M k → w0.heap.size ≤ k)
    (hx0 : W0.heap[bx]? = some (.cells #[.slice A rs.length c] 23 (0, 0))) (hx1 : W0.heap[bx + 1]? = some (.cells #[iv a] 3 (0, 0))) (hlt : bx + 1 < n₀) (hm0 : ¬ M bx) (hw0 : w0.heap.size ≤ n₀) :
    SeqStopsK Fence.wide n Try.prog 71 #[pt bx, pt (bx + 1)] (fun x : Fin rs.length => #[iv x.val]) (Kps n₀ M) (fun ys => ys.map (·.val) = wy (netOf rs) a) (fun _ => True) (wy (netOf rs) a).length W0 := by
  intro l J Jx W hW _ _ hY hJ0
  show CallsIn Fence.wide n Try.prog 71 #[.func (.yield l) #[] #[], pt bx, pt (bx + 1)] W _
  have hnl : (netOf rs).length = rs.length := net_len _
  have hbW : Below w0.heap.size w0 W := hb.trans (hW.mono hb.size)
  obtain ⟨bn, off, rfl, hbn, hcn⟩ := hn.at_ ha
  rw [← hbW.cell (p := ⟨bn, _, none⟩) hbn] at hcn
  have hbx0 : W.cell? ⟨bx, 0, none⟩ = some (.slice (some ⟨bn, off, none⟩) rs.length c) := cell_blk (i := 0) ((hW.block bx (blk_lt hx0)).trans hx0) rfl
  have hbx1 : W.cell? ⟨bx + 1, 0, none⟩ = some (iv a) := cell_blk (i := 0) ((hW.block (bx + 1) (blk_lt hx1)).trans hx1) rfl
  have hrm : rs[a]! ∈ rs := Go.Proofs.Ytaagpnepkjkfoaa.B.mem_at ha
  have hrl := hrow _ hrm
  have HRR := Lib.hid (hn.row _ hrm)
  have hk0 : (0 : Int) ≤ (a : Int) := Int.natCast_nonneg _
  have hk1 : (a : Int) < (rs.length : Int) := by omega
  have hzW := hbW.size
  have hwy : wy (netOf rs) a = wyR rs.length rs[a]!.l := by rw [wy_R, hnl, net_at]
  have HBW := Lib.hid hbW
  have HY := Lib.hid hY
  have HX0 := Lib.hid hbx0
  have HM0 := Lib.hid hm0
  have HMM := Lib.hid hM
  rw [hwy] at HY ⊢
  clear hn hb hW hx0 hx1 hm0 hY hrow hbW hM hwy hrm
  generalize rs[a]! = r at *
  have h1n : 1 ≤ n := by omega
  have h2n : 1 ≤ n - 1 := by omega
  refine callsIn_of_wp Try.func71 rfl trivial ?_ rfl
  simp only [Try.ntmps71, List.size_toArray, List.length_cons, List.length_nil, Nat.reduceAdd, Nat.reduceSub, Array.replicate_succ, Array.replicate_zero, List.push_toArray, List.append_toArray, List.nil_append, List.cons_append]
  gi_wp2
  gi_loopw [5, 11] (fun _ i wr => ∃ (k : Nat) (ys : List (Fin rs.length)), k ≤ r.l.length ∧ i = .int .i64 k ∧ J ys wr ∧ Hid (ys.map (·.val) = wyR rs.length (r.l.take k)) ∧ Hid (Kps n₀ M W wr)) (fun _ i _ => r.l.length - (intOf i).toNat)
  case atStart => exact ⟨0, [], Nat.zero_le _, rfl, hJ0, Lib.hid (by simp [wyR]), Lib.hid (Kps.refl _ _ _)⟩
  case round =>
    clear hJ0
    obtain ⟨k, ys, hk, rfl, hJ, HE, HK⟩ := hrel
    by_cases hlt2 : k < r.l.length
    · obtain ⟨b2, off2, hra, hb2, hc2⟩ := row_at HRR.out hlt2
      rw [← HBW.out.cell (p := ⟨b2, _, none⟩) hb2, ← HK.out.cell (p := ⟨b2, off2 + k, none⟩) (show b2 < n₀ by omega) (fun h => by have h1 : w0.heap.size ≤ b2 := HMM.out _ h; omega)] at hc2
      have cbx := HX0.out
      rw [← HK.out.cell (p := ⟨bx, 0, none⟩) (show bx < n₀ by omega) HM0.out] at cbx
      have HNX := Lib.hid (wyR_next (N := rs.length) hlt2)
      have HLE := Lib.hid (wyR_le (N := rs.length) (l := r.l) (i := k + 1))
      have hi0 : (0 : Int) ≤ (k : Int) := Int.natCast_nonneg _
      have hi1 : (k : Int) < (r.l.length : Int) := by omega
      generalize r.l[k]! = t at *
      have CH := fun W => Lib.hid (has_any (some ⟨bn, off, none⟩) rs.length c t W)
      have hrA : ∃ ra, ra = r.a := ⟨_, rfl⟩
      obtain ⟨ra, hrA⟩ := hrA
      rw [← hrA] at hra ⊢
      clear hrA
      subst hra
      cases hh : hasI rs.length t with
      | false =>
        rw [hh] at CH
        have hnt : ¬ (0 ≤ t ∧ t < (rs.length : Int)) := fun h => by
          unfold hasI at hh
          rw [decide_eq_true h.1, decide_eq_true h.2] at hh; cases hh
        rw [if_neg hnt, List.append_nil] at HNX
        clear hh hnt HY
        gi_wp2_with (refine ⟨trivial, ?_⟩; gi_at_call 72; refine (callsIn_wide.2 (CH _).out).mono ?_; rintro e w' ⟨rfl, rfl⟩)
        all_goals first | (intro f hf; cases hf; done) | (refine ⟨fun f hf => (by cases hf), ?_⟩)
        all_goals gi_wp2
        all_goals go_roundw
        case rel => exact ⟨k + 1, ys, hlt2, by go_num, hJ, Lib.hid (by rw [HE.out, HNX.out]), HK⟩
        case measure => simp [intOf]; omega
      | true =>
        rw [hh] at CH
        obtain ⟨b, rfl⟩ : ∃ b : Nat, t = (b : Int) := ⟨t.toNat, by simp [hasI] at hh; omega⟩
        have hbn2 : b < rs.length := by simp [hasI] at hh; omega
        rw [if_pos ⟨by omega, by omega⟩, Int.toNat_natCast] at HNX
        have hlen : ys.length < (wyR rs.length r.l).length := by
          have h1 : ys.length = (wyR rs.length (r.l.take k)).length := by rw [← HE.out, List.length_map]
          have h2 := HLE.out
          rw [HNX.out, List.length_append, List.length_singleton] at h2
          omega
        obtain ⟨fn, tmps, assign, body, hy, hR⟩ := HY.out ys ⟨b, hbn2⟩ wr hJ hlen
        dsimp only at hy
        have HRX := Lib.hid hR
        clear hh hlen hR HY
        gi_wp2_with (refine ⟨trivial, ?_⟩; gi_at_call 72; refine (callsIn_wide.2 (CH _).out).mono ?_; rintro e w' ⟨rfl, rfl⟩)
        refine HRX.out.mono ?_
        rintro e W3 (⟨rfl, hJ3, hk3⟩ | ⟨rfl, hJx3⟩)
        · gi_wp2
          go_roundw
          case rel => exact ⟨k + 1, _, hlt2, by go_num, hJ3, Lib.hid (by rw [List.map_append, HE.out, HNX.out]; rfl), Lib.hid (HK.out.trans hk3)⟩
          case measure => simp [intOf]; omega
        · gi_wp2
          refine bodyPost_ret (results_none rfl _ _ _) rfl ?_
          exact ⟨⟨_, rfl⟩, .inr ⟨_, trivial, hJx3⟩⟩
    · obtain rfl : k = r.l.length := by omega
      rw [List.take_length] at HE
      gi_wp2
      go_end0
      exact ⟨⟨_, rfl⟩, .inl ⟨ys, HE.out, hJ⟩⟩
end Go.Proofs.Ytaagpnepkjkfoaa.R6
