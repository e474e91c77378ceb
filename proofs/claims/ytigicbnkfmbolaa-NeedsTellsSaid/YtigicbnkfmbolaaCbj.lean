/-
  Contract of the document's Matters. Contract of the document's Delay. Arguments that came in: a flat graph, a tie. A region that draws its order, in which what the others read stands behind each operation.
-/
import Derived.Test.YtigicbnkfmbolaaCbh
import Derived.Test.YtigicbnkfmbolaaCbi
import Derived.Test.YtigicbnkfmbolaaCbg
import Derived.Test.YtigicbnkfmbolaaCbe
import Derived.Test.YtigicbnkfmbolaaCbc
namespace Go.Proofs.Ytigicbnkfmbolaa.N7.T
open Go.RowKit Go.Shelf Go.Proofs.Ytigicbnkfmbolaa.B Go.Proofs.Ytigicbnkfmbolaa.R6 Go.Proofs.Ytigicbnkfmbolaa.R6.T Go.Proofs.Ytigicbnkfmbolaa.N7
theorem whole_wy {es : List Ev} {ts : List Ti} {a j : Nat} (h : j ∈ wy (wholeN es ts) a) : j < es.length := by
  by_cases ha : a < es.length
  · exact ((wy_at ha).1 h).1
  · by_cases hb : a = es.length
    · subst hb; exact (wy_last.1 h).1
    · rw [wy_out (by rw [wholeN_len]; omega)] at h; cases h
theorem whole_lt {es : List Ev} {ts : List Ti} {a j : Nat} (h : Ld (wholeN es ts) a j) : j < es.length := by
  induction h with
  | one h => exact whole_wy h
  | more _ _ ih => exact ih
theorem wy_net {es : List Ev} {ts : List Ti} {a j : Nat} (ha : a < es.length) : j ∈ wy (netL es.length (needS es.length ts)) a ↔ j ∈ wy (wholeN es ts) a := by
  rw [wy_at ha, wy_mem, netL_at ha, inL_mem, netL_len]
  constructor
  · rintro ⟨⟨i, h1, h2, h3⟩, _⟩
    obtain rfl : j = i := by omega
    exact ⟨h1, h2⟩
  · rintro ⟨h1, h2⟩; exact ⟨⟨j, h1, h2, rfl⟩, h1⟩
theorem ld_net {es : List Ev} {ts : List Ti} {a j : Nat} (ha : a < es.length) : Ld (netL es.length (needS es.length ts)) a j ↔ Ld (wholeN es ts) a j := by
  constructor
  · intro h
    induction h with
    | one h => exact .one ((wy_net ha).1 h)
    | more h _ ih =>
      have hb := whole_wy ((wy_net ha).1 h)
      exact .more ((wy_net ha).1 h) (ih hb)
  · intro h
    induction h with
    | one h => exact .one ((wy_net ha).2 h)
    | more h _ ih => exact .more ((wy_net ha).2 h) (ih (whole_wy h))
theorem mat_from {es : List Ev} {ts : List Ti} {i : Nat} : i ∈ matL es ts ↔ ∃ j, j < es.length ∧ pendS es ts j = true ∧ (j = i ∨ tB (netL es.length (needS es.length ts)) j i = true) := by
  rw [mat_mem]
  constructor
  · intro h
    cases h with
    | one h =>
      obtain ⟨h1, h2⟩ := wy_last.1 h
      exact ⟨i, h1, h2, .inl rfl⟩
    | more h k =>
      obtain ⟨h1, h2⟩ := wy_last.1 h
      exact ⟨_, h1, h2, .inr (tB_iff.2 ((ld_net h1).2 k))⟩
  · rintro ⟨j, h1, h2, rfl | h3⟩
    · exact .one (wy_last.2 ⟨h1, h2⟩)
    · exact .more (wy_last.2 ⟨h1, h2⟩) ((ld_net h1).1 (tB_iff.1 h3))
def matS (es : List Ev) (ts : List Ti) (i : Nat) : Bool := decide (i ∈ matL es ts)
theorem mat_list (es : List Ev) (ts : List Ti) : matL es ts = (List.range es.length).filter (matS es ts) := by
  have hm : ∀ j, j < es.length + 1 → ((ledL (wholeN es ts) es.length)[j]! = true ↔ j ∈ matL es ts) := fun j hj => by
    unfold matL reachL
    rw [List.mem_filter, List.mem_range, wholeN_len]
    exact ⟨fun h => ⟨hj, h⟩, fun h => h.2⟩
  have h1 : matL es ts = (List.range (es.length + 1)).filter (matS es ts) := by
    have : matL es ts = (List.range (es.length + 1)).filter fun j => (ledL (wholeN es ts) es.length)[j]! := by unfold matL reachL; rw [wholeN_len]
    rw [this]
    refine List.filter_congr (fun j hj => ?_)
    unfold matS
    rw [Bool.eq_iff_iff, decide_eq_true_eq, hm j (List.mem_range.1 hj)]
  rw [h1, List.range_succ, List.filter_append]
  have : matS es ts es.length = false := by
    unfold matS
    rw [decide_eq_false_iff_not]
    intro h
    have := whole_lt (mat_mem.1 h); omega
  simp [this]
theorem mat_inL (es : List Ev) (ts : List Ti) : reachN (netL es.length (needS es.length ts) ++ [inL es.length (pendS es ts)]) (es.length : Int) = inL es.length (matS es ts) := by
  rw [mat_is]
  unfold inL
  rw [← mat_list]
/-- Of the first m that may be called for, one is this one, or leads to it. -/
def mtB (n : NetL) (L : List Int) (i m : Nat) : Bool := (L.take m).any fun x => x == (i : Int) || tB n x.toNat i
theorem mtB_next {n : NetL} {L : List Int} {i m : Nat} (hm : m < L.length) : mtB n L i (m + 1) = (mtB n L i m || (L[m]! == (i : Int) || tB n (L[m]!).toNat i)) := by
  unfold mtB; rw [take_next hm, List.any_append]; simp
theorem mtB_all {es : List Ev} {ts : List Ti} (i : Nat) : mtB (netL es.length (needS es.length ts)) (inL es.length (pendS es ts)) i (inL es.length (pendS es ts)).length = matS es ts i := by
  unfold mtB matS
  rw [List.take_length, Bool.eq_iff_iff, decide_eq_true_eq, mat_from, List.any_eq_true]
  constructor
  · rintro ⟨x, hx, h⟩
    obtain ⟨j, h1, h2, rfl⟩ := inL_mem.1 hx
    rw [Bool.or_eq_true, beq_iff_eq, Int.toNat_natCast] at h
    exact ⟨j, h1, h2, h.imp (fun h => by omega) (fun h => h)⟩
  · rintro ⟨j, h1, h2, h3⟩
    exact ⟨_, inL_mem.2 ⟨j, h1, h2, rfl⟩, by rw [Bool.or_eq_true, beq_iff_eq, Int.toNat_natCast]; exact h3.imp (fun h => by omega) (fun h => h)⟩
theorem in_at {N : Nat} {S : Nat → Bool} {m : Nat} (hm : m < (inL N S).length) : ∃ j : Nat, j < N ∧ (inL N S)[m]! = (j : Int) := by
  obtain ⟨j, h1, _, h3⟩ := inL_mem.1 (Go.Proofs.Ytigicbnkfmbolaa.B.mem_at hm)
  exact ⟨j, h1, h3⟩
/-- What stands while what matters is gathered. -/
structure MX (w : World) (fl : Array Value) (N : Nat) (n : NetL) (v : Value) (bs : List Nat) (LA : Option Addr) (L : List Int) (W : World) : Prop where
  b : BT1 30 w fl W
  t : BT w.heap.size N N v bs (tB n) W
  r : Row W LA (L.map (Value.int .i64))
theorem MX.call {w W W' : World} {fl : Array Value} {N : Nat} {n : NetL} {v : Value} {bs : List Nat} {LA : Option Addr} {L : List Int} (h : MX w fl N n v bs LA L W) (hb : Below W.heap.size W W') : MX w fl N n v bs LA L W' :=
  ⟨h.b.call hb, h.t.below hb, row_call h.r hb⟩
theorem BT.base {B B' N k : Nat} {v : Value} {bs : List Nat} {f : Nat → Nat → Bool} {W : World} (h : BT B N k v bs f W) (hB : B' ≤ B) : BT B' N k v bs f W :=
  ⟨h.lb, own_base h.out hB, fun i hi => Nat.le_trans hB (h.ge i hi), h.inn, h.dis⟩
theorem small_net {es : List Ev} {ts : List Ti} (he : es.length ≤ 24) : Small (netL es.length (needS es.length ts)) :=
  ⟨by rw [netL_len]; exact he, fun l hl => by
    obtain ⟨a, _, rfl⟩ := List.mem_map.1 hl
    have := inL_len es.length (needS es.length ts a); omega⟩
set_option maxRecDepth 100000 in
set_option maxHeartbeats 8000000 in
theorem matters_doc (w : World) (EA TA : Option Addr) (ec tc : Nat) (es : List Ev) (ts : List Ti) (h : FI w EA TA es ts) (hs : SmF es ts) (he24 : es.length ≤ 24) :
    Calls Try.prog 18 #[FV EA TA es.length ec ts.length tc] w (InP w (inL es.length (matS es ts))) := by
  obtain ⟨i0, hi0, hi1, hi2, hi3⟩ := info_parts info_int'
  have HF := Lib.hid h
  have B0 := Lib.hid (BT1.start 30 w #[.slice EA es.length ec, .slice TA ts.length tc])
  have HN := Lib.hid (fun (W : World) (hW : FI W EA TA es ts) => net_doc W EA TA ec tc es ts hW hs)
  have HC := Lib.hid (fun (W : World) (hW : FI W EA TA es ts) => called_doc W EA TA ec tc es ts hW hs)
  have hnl := netL_len es.length (needS es.length ts)
  have HTB := Lib.hid (fun (W : World) (A : Option Addr) (c : Nat) (hn : Nt W A (netL es.length (needS es.length ts))) => table_doc W A c _ hn (small_net he24))
  have HL : Hid (∀ m, m < (inL es.length (pendS es ts)).length → ∃ j : Nat, j < es.length ∧ (inL es.length (pendS es ts))[m]! = (j : Int)) := Lib.hid (fun m hm => in_at hm)
  have hll := inL_len es.length (pendS es ts)
  have HM : Hid (∀ i, mtB (netL es.length (needS es.length ts)) (inL es.length (pendS es ts)) i (inL es.length (pendS es ts)).length = matS es ts i) := Lib.hid mtB_all
  generalize netL es.length (needS es.length ts) = n at *
  generalize inL es.length (pendS es ts) = L at *
  generalize matS es ts = S at *
  rw [hnl] at HTB
  clear h hs hnl
  go_enter Try.func18, Try.ntmps18
  go_wp2_with fail
  refine (HN.out _ (HF.out.below B0.out.b)).mono ?_
  rintro e w1 ⟨a1, k1, rfl, hnt, hb1⟩
  have B1 := Lib.hid (B0.out.call hb1)
  have N1 := Lib.hid hnt
  obtain ⟨c0, c1⟩ := B1.out.cells
  have ll := B1.out.lt
  clear B0 hnt hb1 HN
  go_wp2_with fail
  refine (HTB.out _ _ _ N1.out).mono ?_
  rintro e w2 ⟨v, bs, rfl, hbt, hb2⟩
  have B2 := Lib.hid (B1.out.call hb2)
  have T2 := Lib.hid (BT.base hbt B1.out.b.size)
  obtain ⟨va, vc, rfl⟩ := own_slice T2.out.out
  clear hbt hb2 HTB N1 B1 c0 c1 ll
  obtain ⟨c0, c1⟩ := B2.out.cells
  have ll := B2.out.lt
  go_wp2_with fail
  refine (HC.out _ (HF.out.below B2.out.b)).mono ?_
  rintro e w3 ⟨lv, rfl, ho, hb3⟩
  obtain ⟨la, lc, rfl⟩ := own_slice ho
  have X3 : Hid (MX w #[.slice EA es.length ec, .slice TA ts.length tc] es.length n (.slice va es.length vc) bs la L w3) := Lib.hid ⟨B2.out.call hb3, T2.out.below hb3, Row.of_own ho⟩
  clear B2 T2 ho hb3 c0 c1 ll HC HF
  have O0 : Hid (World.ownsRow (w3.alloc (.cells #[] 3)) w3.heap.size 3 1 (.slice (some ⟨w3.heap.size, 0, none⟩) 0 0) (inL 0 S).length ((inL 0 S).map (Value.int .i64))) := Lib.hid (own_emp (heap_new _ _) (Nat.le_refl _))
  have Q0 : Hid (Below w3.heap.size w3 (w3.alloc (.cells #[] 3))) := Lib.hid ((Below.refl _ _).alloc (Nat.le_refl _) _)
  obtain ⟨c0, c1⟩ := X3.out.b.cells
  have ll := X3.out.b.lt
  go_wp2_with fail
  clear c0 c1
  go_loopw [5, 6] (fun u i wr => ∃ k : Nat, k ≤ es.length ∧ i = .int .i64 k ∧ Hid (wr.ownsRow w3.heap.size 3 1 u (inL k S).length ((inL k S).map (Value.int .i64))) ∧ Hid (Below w3.heap.size w3 wr)) (fun _ i _ => es.length - (intOf i).toNat)
  case atStart => exact ⟨0, Nat.zero_le _, rfl, O0, Q0⟩
  case round =>
    clear O0 Q0
    obtain ⟨k, hk, rfl, UU, QQ⟩ := hrel
    obtain ⟨wo, rfl⟩ : ∃ wo, wo = wr := ⟨wr, rfl⟩
    obtain ⟨ua, uc, rfl⟩ := own_slice UU.out
    have XO := Lib.hid (X3.out.call QQ.out)
    obtain ⟨c0, c1⟩ := XO.out.b.cells
    have hsz := QQ.out.size
    have hlen := inL_len k S
    have hk0 : (0 : Int) ≤ (k : Int) := Int.natCast_nonneg _
    by_cases hlt : k < es.length
    · have hk1 : (k : Int) < (es.length : Int) := by omega
      have HMK := Lib.hid (HM.out k)
      have HNX := Lib.hid (inL_next k S)
      generalize inL k S = l at *
      go_wp2_with fail
      go_loopw [7, 8] (fun bv j wr => ∃ m : Nat, m ≤ L.length ∧ j = .int .i64 m ∧ bv = .bool (mtB n L k m) ∧ wo = wr) (fun _ j _ => L.length - (intOf j).toNat)
      case atStart => exact ⟨0, Nat.zero_le _, rfl, rfl, rfl⟩
      case round =>
        obtain ⟨m, hm, rfl, rfl, rfl⟩ := hrel
        have hm0 : (0 : Int) ≤ (m : Int) := Int.natCast_nonneg _
        by_cases hmt : m < L.length
        · have hm1 : (m : Int) < (L.length : Int) := by omega
          obtain ⟨b1, off1, rfl, hb1, hc1⟩ := row_at XO.out.r hmt
          obtain ⟨g, gc, hve, _, _, _⟩ := XO.out.t.at_ (i := k) hlt
          cases hve
          obtain ⟨j, hj, hje⟩ := HL.out m hmt
          have HNM := Lib.hid (mtB_next (n := n) (i := k) hmt)
          rw [hje] at HNM hc1
          rw [Int.toNat_natCast] at HNM
          obtain ⟨g', gc', hve', _, _, hcj⟩ := XO.out.t.at_ (i := j) hj
          cases hve'
          have hbit := XO.out.t.bit (i := j) (j := k) hj hlt
          have hj0 : (0 : Int) ≤ (j : Int) := Int.natCast_nonneg _
          have hj1 : (j : Int) < (es.length : Int) := by omega
          clear HMK HNX hje
          cases hq : mtB n L k m with
          | true =>
            have HB : Hid (mtB n L k (m + 1) = true) := Lib.hid (by rw [HNM.out, hq]; rfl)
            clear hq HNM hcj hbit hc1
            go_wp2_with fail
            go_roundw
            case rel => exact ⟨m + 1, hmt, by go_num, by rw [HB.out], trivial⟩
            case measure => simp [intOf]; omega
          | false =>
            rw [hq, Bool.false_or] at HNM
            clear hq
            generalize bs[j]! = z at *
            by_cases hjk : j = k
            · have hq1 : ((j : Int) == (k : Int)) = true := by rw [beq_iff_eq]; omega
              have HB : Hid (mtB n L k (m + 1) = true) := Lib.hid (by rw [HNM.out, hq1]; rfl)
              clear HNM hjk hcj hbit
              go_wp2_with fail
              go_roundw
              case rel => exact ⟨m + 1, hmt, by go_num, by rw [HB.out], trivial⟩
              case measure => simp [intOf]; omega
            · have hq1 : ((j : Int) == (k : Int)) = false := by rw [beq_eq_false_iff_ne]; omega
              have HB : Hid (mtB n L k (m + 1) = tB n j k) := Lib.hid (by rw [HNM.out, hq1]; rfl)
              clear HNM hjk
              generalize tB n j k = tv at *
              go_wp2_with fail
              go_roundw
              case rel => exact ⟨m + 1, hmt, by go_num, by rw [HB.out], trivial⟩
              case measure => simp [intOf]; omega
        · obtain rfl : m = L.length := by omega
          have hm2 : ¬ ((L.length : Int) < (L.length : Int)) := by omega
          rw [HMK.out]
          clear HMK
          cases hq : S k with
          | true =>
            have HNX2 : Hid (inL (k + 1) S = l ++ [(k : Int)]) := Lib.hid (by rw [HNX.out, hq, if_pos rfl])
            clear HNX hq
            go_wp2_with (at_builtin; refine wpList_append_own_at _ rfl (.tmp 50) (.tmp 52) 33 rfl w3.heap.size 3 i0 _ 1 8 Try.underlying33 hi0 hi1 hi2 hi3 rfl (by omega) _ _ _ rfl (UU.out.alloc _) ⟨wo.heap.size, 0, none⟩ 1 1 [.int .i64 (k : Int)] rfl rfl ?c1 ?c2 ?c3 ?c4 ?c5 ?_)
            case c2 => first | rfl | (intro u hu; simp at hu; rw [hu]; rfl)
            case c3 => unfold maxLen; omega
            case c4 => omega
            case c5 => first | omega | (rw [World.size_alloc]; omega)
            intro v1 w9 hown' hgrow _ hat
            have U1 : Hid (w9.ownsRow w3.heap.size 3 1 v1 (inL (k + 1) S).length ((inL (k + 1) S).map (Value.int .i64))) := Lib.hid (by rw [HNX2.out, List.length_append, List.map_append]; exact hown')
            have Q1 : Hid (Below w3.heap.size w3 w9) := Lib.hid ((QQ.out.trans (((Below.refl _ _).alloc (Nat.le_refl _) (.cells #[.int .i64 (k : Int)] 3)).mono hsz)).grown hgrow (by rw [World.size_alloc]; omega) (fun q hq => (own_block UU.out hq).1))
            clear hown' hgrow hat UU QQ HNX2
            go_wp2_with fail
            go_roundw
            case rel => exact ⟨k + 1, hlt, by go_num, U1, Q1⟩
            case measure => simp [intOf]; omega
          | false =>
            have U1 : Hid (World.ownsRow wo w3.heap.size 3 1 (.slice ua l.length uc) (inL (k + 1) S).length ((inL (k + 1) S).map (Value.int .i64))) := Lib.hid (by rw [HNX.out, hq, if_neg (by decide), List.append_nil]; exact UU.out)
            clear HNX hq UU
            go_wp2_with fail
            go_roundw
            case rel => exact ⟨k + 1, hlt, by go_num, U1, QQ⟩
            case measure => simp [intOf]; omega
    · obtain rfl : k = es.length := by omega
      have hk2 : ¬ ((es.length : Int) < (es.length : Int)) := by omega
      go_wp2_with fail
      go_ret
      exact ⟨_, rfl, own_base UU.out X3.out.b.b.size, X3.out.b.b.trans (QQ.out.mono X3.out.b.b.size)⟩
end Go.Proofs.Ytigicbnkfmbolaa.N7.T

namespace Go.Proofs.Ytigicbnkfmbolaa.N7.T
open Go.RowKit Go.Shelf Go.Proofs.Ytigicbnkfmbolaa.B Go.Proofs.Ytigicbnkfmbolaa.R6 Go.Proofs.Ytigicbnkfmbolaa.R6.T Go.Proofs.Ytigicbnkfmbolaa.N7
set_option maxRecDepth 100000 in
set_option maxHeartbeats 8000000 in
theorem delay_doc (w : World) (EA TA : Option Addr) (ec tc : Nat) (es : List Ev) (ts : List Ti) (hr : Row w TA (ts.flatMap tiC)) (hs : SmF es ts) (at_ : Int) :
    Calls Try.prog 22 #[FV EA TA es.length ec ts.length tc, .int .i64 at_] w fun e w' => e = .returned (.int .i64 (dlB es.length at_ ts)) ∧ Below w.heap.size w w' := by
  have hl := hs.t
  have he := hs.e
  have HR := Lib.hid hr
  have B0 := Lib.hid (BT1.start 30 w #[.slice EA es.length ec, .slice TA ts.length tc])
  clear hr
  go_enter Try.func22, Try.ntmps22
  go_wp2_with fail
  go_loopw [5, 6] (fun dv i wr => ∃ k : Nat, k ≤ ts.length ∧ i = .int .i64 k ∧ dv = .int .i64 (dlB es.length at_ (ts.take k)) ∧ Hid (BT1 30 w #[.slice EA es.length ec, .slice TA ts.length tc] wr)) (fun _ i _ => ts.length - (intOf i).toNat)
  case atStart => exact ⟨0, Nat.zero_le _, rfl, rfl, B0⟩
  case round =>
    clear B0
    obtain ⟨k, hk, rfl, rfl, HB⟩ := hrel
    obtain ⟨c0, c1⟩ := HB.out.cells
    have ll := HB.out.lt
    have hk0 : (0 : Int) ≤ (k : Int) := Int.natCast_nonneg _
    by_cases hlt : k < ts.length
    · have hk1 : (k : Int) < (ts.length : Int) := by omega
      obtain ⟨b', off, rfl, hb, hc⟩ := HR.out.at_ (k := 4) (fun _ => rfl) (by omega) hlt
      have k0 := hc 0 _ rfl
      have k1 := hc 1 _ rfl
      have k2 := hc 2 _ rfl
      have k3 := hc 3 _ rfl
      rw [Nat.add_zero] at k0
      rw [← HB.out.b.cell (p := ⟨b', _, none⟩) hb] at k0 k1 k2 k3
      have HNX := Lib.hid (dlB_next (N := es.length) (at_ := at_) hlt)
      clear hc
      generalize ts[k]! = t at *
      generalize dlB es.length at_ (ts.take k) = d at *
      obtain ⟨tk, tf, tt, tm⟩ := t
      simp only at k0 k1 k2 k3
      have HBx := Lib.hid (HB.out.alloc (.cells #[.int .i64 tk, .int .i64 tf, .int .i64 tt, .int .i64 tm] 50))
      clear HB
      by_cases g1 : tk = 1
      · by_cases g2 : tt = at_
        · by_cases g3 : at_ ≥ 0
          · by_cases g4 : at_ < (es.length : Int)
            · by_cases g5 : tf ≥ 0
              · by_cases g6 : tf < (es.length : Int)
                · by_cases g7 : tm > d
                  · have HV : Hid (dlB es.length at_ (ts.take (k + 1)) = tm) := Lib.hid (by rw [HNX.out, if_pos (by simp [dlT, g1, g2, g4, g5, g6, g7]; omega)])
                    subst g1 g2
                    clear HNX
                    go_wp2_with fail
                    go_roundw
                    case rel => exact ⟨k + 1, hlt, by go_num, by rw [HV.out], HBx⟩
                    case measure => simp [intOf]; omega
                  · have HV : Hid (dlB es.length at_ (ts.take (k + 1)) = d) := Lib.hid (by rw [HNX.out, if_neg (by simp [dlT]; omega)])
                    subst g1 g2
                    clear HNX
                    go_wp2_with fail
                    go_roundw
                    case rel => exact ⟨k + 1, hlt, by go_num, by rw [HV.out], HBx⟩
                    case measure => simp [intOf]; omega
                · have HV : Hid (dlB es.length at_ (ts.take (k + 1)) = d) := Lib.hid (by rw [HNX.out, if_neg (by simp [dlT]; omega)])
                  subst g1 g2
                  clear HNX
                  go_wp2_with fail
                  go_roundw
                  case rel => exact ⟨k + 1, hlt, by go_num, by rw [HV.out], HBx⟩
                  case measure => simp [intOf]; omega
              · have HV : Hid (dlB es.length at_ (ts.take (k + 1)) = d) := Lib.hid (by rw [HNX.out, if_neg (by simp [dlT]; omega)])
                subst g1 g2
                clear HNX
                go_wp2_with fail
                go_roundw
                case rel => exact ⟨k + 1, hlt, by go_num, by rw [HV.out], HBx⟩
                case measure => simp [intOf]; omega
            · have HV : Hid (dlB es.length at_ (ts.take (k + 1)) = d) := Lib.hid (by rw [HNX.out, if_neg (by simp [dlT]; omega)])
              subst g1 g2
              clear HNX
              go_wp2_with fail
              go_roundw
              case rel => exact ⟨k + 1, hlt, by go_num, by rw [HV.out], HBx⟩
              case measure => simp [intOf]; omega
          · have HV : Hid (dlB es.length at_ (ts.take (k + 1)) = d) := Lib.hid (by rw [HNX.out, if_neg (by simp [dlT]; omega)])
            subst g1 g2
            clear HNX
            go_wp2_with fail
            go_roundw
            case rel => exact ⟨k + 1, hlt, by go_num, by rw [HV.out], HBx⟩
            case measure => simp [intOf]; omega
        · have HV : Hid (dlB es.length at_ (ts.take (k + 1)) = d) := Lib.hid (by rw [HNX.out, if_neg (by simp [dlT]; omega)])
          have q2 : (tt == at_) = false := by rw [beq_eq_false_iff_ne]; exact g2
          subst g1
          clear HNX g2
          go_wp2_with fail
          go_roundw
          case rel => exact ⟨k + 1, hlt, by go_num, by rw [HV.out], HBx⟩
          case measure => simp [intOf]; omega
      · have HV : Hid (dlB es.length at_ (ts.take (k + 1)) = d) := Lib.hid (by rw [HNX.out, if_neg (by simp [dlT]; omega)])
        have q1 : (tk == 1) = false := by rw [beq_eq_false_iff_ne]; exact g1
        clear HNX g1
        go_wp2_with fail
        go_roundw
        case rel => exact ⟨k + 1, hlt, by go_num, by rw [HV.out], HBx⟩
        case measure => simp [intOf]; omega
    · obtain rfl : k = ts.length := by omega
      have hk2 : ¬ ((ts.length : Int) < (ts.length : Int)) := by omega
      rw [List.take_length]
      go_wp2_with fail
      go_ret
      exact ⟨rfl, HB.out.b⟩
end Go.Proofs.Ytigicbnkfmbolaa.N7.T

namespace Go.Proofs.Ytigicbnkfmbolaa.N7
open Go.RowKit Go.Shelf Go.Deep Go.Joins Go.ChangeShapes Go.WideShapes Go.Proofs.Ytigicbnkfmbolaa.B Go.Proofs.Ytigicbnkfmbolaa.R6
section
variable {H : Type} {enc : TypeId × Value → H} {P : Program} {w : World} {base : Nat} {spare : Nat → Bool} {held : Bool}
/-- A struct of fields of one cell each: its cells, and each field's reading. -/
theorem open_rec {e : TypeId} {fs : Array Field} {n : Nat} {cs : List Value} {x : DataW H × List MemPlace} (he : P.underlying e = some (.struct fs)) (hone : oneCellFields P fs = true) (hC : P.cellsOf e = fs.size) (h : DataW.trod enc P w base spare held n e cs = some x) :
    cs.length = fs.size ∧ ∃ (ds : List (DataW H)) (m : Nat), x.1 = .agg ds ∧ ∀ (j : Nat) (f : Field), fs[j]? = some f → ∀ v, cs[j]? = some v → ∃ y, ds[j]? = some y.1 ∧ DataW.trod enc P w base spare held m f.type [v] = some y := by
  obtain ⟨xs, m, _, rfl, hlen, hxl, hf⟩ := DataW.trod_struct he h
  refine ⟨hlen.trans hC, xs.map (·.1), m, rfl, fun j f hj v hv => ?_⟩
  obtain ⟨ho, hk⟩ := hone_of hone j f hj
  have hjl : j < xs.length := by rw [hxl]; exact (Array.getElem?_eq_some_iff.1 hj).1
  have h1 := hf j f hj
  obtain ⟨hjc, hvv⟩ := List.getElem?_eq_some_iff.1 hv
  rw [ho, hk, List.drop_eq_getElem_cons hjc, List.take_succ_cons, List.take_zero, hvv, List.getElem?_eq_getElem hjl] at h1
  exact ⟨xs[j], by rw [List.getElem?_map, List.getElem?_eq_getElem hjl]; rfl, h1⟩
end
section
variable {H : Type} {enc : TypeId × Value → H} {w : World} {base : Nat} {spare : Nat → Bool} {held : Bool}
theorem rd_str {n : Nat} {t : TypeId} (ht : Try.prog.underlying t = some .string) {v : Value} {y : DataW H × List MemPlace} (h : DataW.trod enc Try.prog w base spare held n t [v] = some y) (hw : Wt Try.prog t y.1) : ∃ s : ByteArray, v = .string s ∧ s.size ≤ 140737488351232 := by
  obtain ⟨s, hs, rfl, _⟩ := DataW.trod_string ht h
  injection hs with hs _
  exact ⟨s, hs, by have := hw.str; simpa using this⟩
theorem rd_i64 {n : Nat} {t : TypeId} (ht : Try.prog.underlying t = some (.int .i64)) {v : Value} {y : DataW H × List MemPlace} (h : DataW.trod enc Try.prog w base spare held n t [v] = some y) : ∃ i : Int, v = .int .i64 i ∧ (Lit.int .i64 i).wf = true := by
  obtain ⟨i, hs, _, hwf⟩ := DataW.trod_int ht h
  injection hs with hs _
  exact ⟨i, hs, hwf⟩
theorem rd_bool {n : Nat} {t : TypeId} (ht : Try.prog.underlying t = some .bool) {v : Value} {y : DataW H × List MemPlace} (h : DataW.trod enc Try.prog w base spare held n t [v] = some y) : ∃ b : Bool, v = .bool b := by
  obtain ⟨b, hs, _⟩ := DataW.trod_bool ht h
  injection hs with hs _
  exact ⟨b, hs⟩
theorem list4 {l : List Value} (h : l.length = 4) : ∃ a b c d, l = [a, b, c, d] := by match l, h with | [a, b, c, d], _ => exact ⟨a, b, c, d, rfl⟩
theorem list6 {l : List Value} (h : l.length = 6) : ∃ a b c d e f, l = [a, b, c, d, e, f] := by match l, h with | [a, b, c, d, e, f], _ => exact ⟨a, b, c, d, e, f, rfl⟩
def goodT (t : Ti) : Prop := (Lit.int .i64 t.kind).wf = true ∧ (Lit.int .i64 t.fr).wf = true ∧ (Lit.int .i64 t.to).wf = true ∧ (Lit.int .i64 t.time).wf = true
def goodE (v : Ev) : Prop := v.name.size ≤ 140737488351232 ∧ v.group.size ≤ 140737488351232 ∧ v.role.size ≤ 140737488351232 ∧ (Lit.int .i64 v.due).wf = true
theorem rd_ev (n : Nat) (cs : List Value) (y : DataW H × List MemPlace) (h : DataW.trod enc Try.prog w base spare held n 47 cs = some y) (hw : Wt Try.prog 47 y.1) : ∃ x, cs = evC x ∧ goodE x := by
  obtain ⟨hl, ds, m, hy, hf⟩ := open_rec Try.underlying47 (by kernel_rfl) (by kernel_rfl) h
  obtain ⟨v0, v1, v2, v3, v4, v5, rfl⟩ := list6 hl
  rw [hy] at hw
  obtain ⟨y0, d0, h0⟩ := hf 0 _ rfl v0 rfl
  obtain ⟨y1, d1, h1⟩ := hf 1 _ rfl v1 rfl
  obtain ⟨y2, d2, h2⟩ := hf 2 _ rfl v2 rfl
  obtain ⟨y3, d3, h3⟩ := hf 3 _ rfl v3 rfl
  obtain ⟨y4, d4, h4⟩ := hf 4 _ rfl v4 rfl
  obtain ⟨y5, d5, h5⟩ := hf 5 _ rfl v5 rfl
  obtain ⟨s0, rfl, z0⟩ := rd_str Try.underlying9 h0 (hw.field Try.underlying47 rfl d0)
  obtain ⟨s1, rfl, z1⟩ := rd_str Try.underlying9 h1 (hw.field Try.underlying47 rfl d1)
  obtain ⟨s2, rfl, z2⟩ := rd_str Try.underlying9 h2 (hw.field Try.underlying47 rfl d2)
  obtain ⟨b3, rfl⟩ := rd_bool Try.underlying4 h3
  obtain ⟨b4, rfl⟩ := rd_bool Try.underlying4 h4
  obtain ⟨i5, rfl, z5⟩ := rd_i64 Try.underlying3 h5
  exact ⟨⟨s0, s1, s2, b3, b4, i5⟩, rfl, z0, z1, z2, z5⟩
theorem rd_ti (n : Nat) (cs : List Value) (y : DataW H × List MemPlace) (h : DataW.trod enc Try.prog w base spare held n 49 cs = some y) (_ : Wt Try.prog 49 y.1) : ∃ x, cs = tiC x ∧ goodT x := by
  obtain ⟨hl, ds, m, hy, hf⟩ := open_rec Try.underlying49 (by kernel_rfl) (by kernel_rfl) h
  obtain ⟨v0, v1, v2, v3, rfl⟩ := list4 hl
  obtain ⟨y0, d0, h0⟩ := hf 0 _ rfl v0 rfl
  obtain ⟨y1, d1, h1⟩ := hf 1 _ rfl v1 rfl
  obtain ⟨y2, d2, h2⟩ := hf 2 _ rfl v2 rfl
  obtain ⟨y3, d3, h3⟩ := hf 3 _ rfl v3 rfl
  obtain ⟨i0, rfl, z0⟩ := rd_i64 Try.underlying3 h0
  obtain ⟨i1, rfl, z1⟩ := rd_i64 Try.underlying3 h1
  obtain ⟨i2, rfl, z2⟩ := rd_i64 Try.underlying3 h2
  obtain ⟨i3, rfl, z3⟩ := rd_i64 Try.underlying3 h3
  exact ⟨⟨i0, i1, i2, i3⟩, rfl, z0, z1, z2, z3⟩
theorem bytesEv : Try.prog.bytesOf 47 = 64 := by kernel_rfl
theorem bytesTi : Try.prog.bytesOf 49 = 32 := by kernel_rfl
set_option maxRecDepth 100000 in
/-- A graph without groups among the arguments. -/
theorem open_flat {r : Reach} {b0 : Nat} {v : Value} {d : DataW H} {p : List MemPlace} (hv : Value.okWide Try.prog w r b0 25 v) (h : DataW.Trod enc Try.prog w base spare held 25 v d p) (hw : Wt Try.prog 25 d) :
    ∃ (EA TA : Option Addr) (ec tc : Nat) (es : List Ev) (ts : List Ti), v = .agg #[.slice EA es.length ec, .slice TA ts.length tc] ∧ Row w EA (es.flatMap evC) ∧ Row w TA (ts.flatMap tiC) ∧ es.length * 64 ≤ 140737488351232 ∧ ts.length * 32 ≤ 140737488351232 ∧ (∀ x ∈ es, goodE x) ∧ ∀ t ∈ ts, goodT t := by
  obtain ⟨v0, v1, y0, y1, n, rfl, rfl, _, h0, h1⟩ := open_agg2 Try.underlying25 (by kernel_rfl) (by kernel_rfl) hv h
  obtain ⟨A0, l0, c0, rfl, r0, g0, _, _, z0⟩ := open_list evC 6 goodE Try.underlying22 (by kernel_rfl) (fun _ => rfl) (by omega) rd_ev h0 (hw.field Try.underlying25 (j := 0) rfl rfl)
  obtain ⟨A1, l1, c1, rfl, r1, g1, _, _, z1⟩ := open_list tiC 4 goodT Try.underlying23 (by kernel_rfl) (fun _ => rfl) (by omega) rd_ti h1 (hw.field Try.underlying25 (j := 1) rfl rfl)
  rw [bytesEv] at z0
  rw [bytesTi] at z1
  exact ⟨A0, A1, c0, c1, l0, l1, rfl, r0, r1, z0, z1, g0, g1⟩
end
end Go.Proofs.Ytigicbnkfmbolaa.N7

namespace Go.Proofs.Ytigicbnkfmbolaa.B
open Go
section
variable {P : Program} {ops : Array Oper} {Q : Exit → Act → World → Prop} {md : Region.Mode} {S : World → Prop} {z : Nat}
theorem anyT_firstU {i : Nat} {oi : Oper} {v : Value} (hz : ops.size ≤ z) (hi : ops[i]? = some oi) (hsel : ∀ (j : Nat) (o : Oper) cs b, ops[j]? = some o → o.op ≠ .select cs b)
    (hQ : ∀ c a w, Q (.panic c) (a.put oi.dst v) w → Q (.panic c) a w) :
    ∀ (fuel : Nat) (listed : Array Bool) (a : Act) (w : World),
      (∀ j oj, ops[j]? = some oj → j ≠ i → listed.getD j true = false → (∀ e ∈ oj.after, Region.binds md e = true → e.on ≠ i) → oi.apart ops oj = true) →
      i ∈ Region.ready md ops listed → YieldsIf P ops S oi v a → S w →
      wpAnyT P md ops Q S z fuel (listed.setIfInBounds i true) (a.put oi.dst v) w → wpAnyT P md ops Q S z (fuel + 1) listed a w
  | fuel, listed, a, w, hfree, hr, hy, hS, H => by
    refine ⟨fun h => (by rw [h] at hr; cases hr), fun j hj => ?_⟩
    by_cases hji : j = i
    · subst hji; exact hy.wpOp hi hS ⟨fun _ => hS, H⟩
    have hun := (mem_ready.1 hr).1
    cases fuel with
    | zero =>
      have := ready_mono hj hji
      rw [H.1] at this
      cases this
    | succ fuel =>
      have h1 := H.2 j (ready_mono hj hji)
      obtain ⟨hjun, oj, hoj, hall⟩ := mem_ready.1 hj
      have hnot : ∀ e ∈ oj.after, Region.binds md e = true → e.on ≠ i := fun e he hb heq => by
        have h2 := hall e he hb
        rw [heq, not_listed hun] at h2
        cases h2
      have hjz : j ≠ z := by
        have := (Array.getElem?_eq_some_iff.1 hoj).1
        omega
      have h2 := wpOp_putIf hoj (hfree j oj hoj hji hjun hnot) (fun cs b => hsel i oi cs b hi) (fun cs b => hsel j oj cs b hoj) hQ hy h1
      refine wpOp_mono (fun a' w' h3 => ⟨fun _ => h3.2.1 hjz, anyT_firstU hz hi hsel hQ fuel (listed.setIfInBounds j true) a' w' (fun k ok hk hki hun' hno => ?_) (ready_mono hr (Ne.symm hji)) h3.1 (h3.2.1 hjz) ?_⟩) h2
      · refine hfree k ok hk hki ?_ hno
        by_cases hjk : j = k
        · subst hjk; exact hjun
        · rw [getD_set_ne true hjk] at hun'; exact hun'
      · rw [Array.setIfInBounds_comm _ _ hji]
        exact h3.2.2
/-- Number i may be taken first, where each operation leaves what is read as it was. -/
theorem anyT_takeU {i : Nat} {oi : Oper} {v : Value} {fuel : Nat} {listed : Array Bool} {a : Act} {w : World} (hz : ops.size ≤ z) (hi : ops[i]? = some oi)
    (hs : Region.noSelect ops = true) (hf : Region.free md ops listed i = true) (hr : (Region.ready md ops listed).contains i = true)
    (hQ : ∀ c a w, Q (.panic c) (a.put oi.dst v) w → Q (.panic c) a w) (hS : S w) (hwant : Region.wanted oi (yielded ops a.tmps) = true) (hy : ∀ w, S w → (execOp a.eval oi).run P w = .ok (.value v) w)
    (h : wpAnyT P md ops Q S z fuel (listed.setIfInBounds i true) (a.put oi.dst v) w) : wpAnyT P md ops Q S z (fuel + 1) listed a w :=
  anyT_firstU hz hi (Region.noSelect_spec hs) hQ fuel listed a w (Region.free_spec hi hf) (by simpa using hr) (.inl ⟨hwant, hy⟩) hS h
end
end Go.Proofs.Ytigicbnkfmbolaa.B
