/-
  RingParts answers true, whatever net it is given.
-/
import Derived.Test.YtmklhhkbpaochaaRpA
import Derived.Test.YtmklhhkbpaochaaRoY
namespace Go.Proofs.Ytmklhhkbpaochaa.R6.Parts
open Go.RowKit Go.Shelf Go.Deep Go.Joins Go.ChangeShapes Go.WideShapes Go.Proofs.Ytmklhhkbpaochaa.B Go.Proofs.Ytmklhhkbpaochaa.R6 Go.Proofs.Ytmklhhkbpaochaa.R6.Steps

/-- What the last loops read. -/
structure QI (w : World) (n : NetL) (g B : Nat) (v : Value) (bs : List Nat) (W : World) : Prop where
  o : W.ownsRow g 3 1 (rowAt g n.length) n.length ((ofL n (firstL n).length []).map iv)
  v : W.ownsRow B 43 1 v n.length (bs.map fun b => Value.map (some b))
  m : ∀ j : Nat, j < n.length → NS W bs[j]! 24 n.length (fun x => (reachL n j).contains x)
  l : bs.length = n.length
  b : Below w.heap.size w W
theorem QI.draws {w W : World} {n : NetL} {g B : Nat} {v : Value} {bs : List Nat} (h : QI w n g B v bs W) (m : Nat) : QI w n g B v bs (W.drewN m) := by
  have hb : Below W.heap.size W (W.drewN m) := below_draws (Below.refl _ _) m
  exact ⟨own_below h.o hb, own_below h.v hb, fun j hj => (h.m j hj).below hb, h.l, h.b.trans (hb.mono h.b.size)⟩
theorem reach_has {n : NetL} {a b : Nat} (ha : a < n.length) : (reachL n a).contains b = true ↔ Ld n a b := by rw [List.contains_iff_mem, reach_mem ha]
set_option maxRecDepth 100000 in
set_option maxHeartbeats 8000000 in
theorem walk (W : World) (A : Option Addr) (c : Nat) (n : NetL) (hn : Nt W A n) (hl : n.length ≤ 70368744177663) :
    Calls Try.prog 4 #[.slice A n.length c] W fun e w' => e = .returned (.bool true) ∧ Below W.heap.size W w' := by
  have NN0 := Lib.hid hn
  clear hn
  go_enter Try.func4, Try.ntmps4
  go_wp2_with fail
  refine (awake_any W).mono ?_
  rintro e w1 ⟨rfl, hb⟩
  have BB1 := Lib.hid hb
  clear hb
  go_wp2_with fail
  refine (sm_large (NN0.out.below BB1.out) hl).mono ?_
  rintro e w2 ⟨b, rfl, rfl, hsm⟩
  cases b with
  | true =>
    go_wp2_with fail
    go_ret
    exact ⟨rfl, BB1.out⟩
  | false =>
    have SM := Lib.hid (hsm rfl)
    have hl24 := SM.out.l
    clear hsm
    have hmi := make_ints n.length (by omega)
    obtain ⟨cs, hcs⟩ : ∃ cs, cs = ((List.replicate n.length (0 : Int)).map (Value.int .i64)).toArray := ⟨_, rfl⟩
    rw [← hcs] at hmi
    have O0 : Hid ((w2.alloc (.cells cs 3)).ownsRow w2.heap.size 3 1 (rowAt w2.heap.size n.length) n.length ((ofL n 0 []).map iv)) := Lib.hid (by
      rw [ofL_zero, ← zeros_iv]
      exact own_all (Nat.le_refl _) (by rw [← hcs]; exact heap_new _ _) (by simp) (by omega))
    have BB2 := Lib.hid (BB1.out.alloc BB1.out.size (.cells cs 3))
    have hsz := World.size_alloc w2 (.cells cs 3)
    have C := Lib.hid (sm_rings' (c := c) (NN0.out.below BB2.out) SM.out)
    rw [hsz] at C
    have HSZ := Lib.hid hsz
    have hwz := BB1.out.size
    clear hcs hsz
    go_wp2_with fail
    refine C.out.mono ?_
    rintro e w3 ⟨a3, k3, vs, rfl, hv, hb⟩
    have hbb : Below (w2.alloc (.cells cs 3)).heap.size (w2.alloc (.cells cs 3)) w3 := by rw [HSZ.out]; exact hb
    have P0 : Hid (PI W A n w2.heap.size (w2.heap.size + 1) (.slice a3 (firstL n).length k3) vs 0 [] w3) := Lib.hid ⟨NN0.out.below (BB2.out.trans (hbb.mono BB2.out.size)), own_below O0.out hbb, hv, hwz, Nat.lt_succ_self _, BB2.out.trans (hbb.mono BB2.out.size)⟩
    clear hmi C hv hb hbb O0 BB2 BB1 HSZ
    generalize w2.heap.size = g at *
    have hfl : (firstL n).length ≤ 24 := by rw [← ringsN_first]; exact ringsN_len SM.out
    go_wp2_with fail
    go_loopw [25] (fun i wr => ∃ r : Nat, r ≤ (firstL n).length ∧ i = .int .i64 r ∧ Hid (PI W A n g (g + 1) (.slice a3 (firstL n).length k3) vs r [] wr)) (fun i _ => (firstL n).length - (intOf i).toNat)
    case atStart => exact ⟨0, Nat.zero_le _, rfl, P0⟩
    case round =>
      clear P0
      obtain ⟨r, hr, rfl, PP⟩ := hrel
      by_cases hlt : r < (firstL n).length
      · have hr0 : (0 : Int) ≤ (r : Int) := Int.natCast_nonneg _
        have hr1 : (r : Int) < ((firstL n).length : Int) := by omega
        have hrn : r < (ringsN n).length := by rw [ringsN_first]; exact hlt
        have hout := PP.out.rv.out
        rw [ringsN_first] at hout
        obtain ⟨g3, gc3, hg3, _, hg3z⟩ := own_head hout (by omega)
        injection hg3 with e1 e2 e3
        subst e1
        subst e3
        have hvl : r < vs.length := by rw [PP.out.rv.len]; exact hrn
        have cv := (hout.cellAt r (by omega)).trans (by rw [List.getElem?_eq_getElem hvl, ← getElem!_pos vs r hvl])
        have hin := PP.out.rv.inn r hrn
        obtain ⟨ra, rc, hra⟩ := own_slice hin
        rw [hra] at cv hin
        rw [ringsN_at hlt] at hin cv
        rw [List.length_map] at hin cv
        have hfm : (firstL n)[r]! ∈ firstL n := Go.Proofs.Ytmklhhkbpaochaa.B.mem_at hlt
        have hne := first_in hfm
        have hpos : 0 < (ringOf (headL n) n.length (firstL n)[r]!).length := List.length_pos_of_mem hne
        have hRle : (ringOf (headL n) n.length (firstL n)[r]!).length ≤ 24 := by
          unfold ringOf
          have := List.length_filter_le (fun j => decide ((headL n)[j]! = (headL n)[(firstL n)[r]!]!)) (List.range n.length)
          simp only [List.length_range] at *
          omega
        have HMEM := Lib.hid (fun (q : Nat) (hq : q < (ringOf (headL n) n.length (firstL n)[r]!).length) => ring_mem.1 (Go.Proofs.Ytmklhhkbpaochaa.B.mem_at hq))
        have HND : Hid ((ringOf (headL n) n.length (firstL n)[r]!).Nodup) := Lib.hid (List.Pairwise.filter _ List.nodup_range)
        have HNX := fun (w : World) (h : PI W A n g (g + 1) (.slice (some ⟨g3, 0, none⟩) (firstL n).length k3) vs r (ringOf (headL n) n.length (firstL n)[r]!) w) => Lib.hid (h.next hlt)
        have HFR := fun {x : Nat} {ks : List Nat} (hx : (headL n)[x]! = (headL n)[(firstL n)[r]!]!) (hk : x ∉ ks) => ofB_fresh hlt hx hk
        have HRR := Lib.hid (Row.of_own hin)
        have HAP : Hid (∀ p, ra = some p → p.block ≠ g) := Lib.hid (fun p hp e => by have := (own_block hin (g := p.block) (by rw [hp]; rfl)).1; omega)
        have hnz : ((((ringOf (headL n) n.length (firstL n)[r]!).length : Nat) : Int) == 0) = false := by rw [beq_eq_false_iff_ne]; omega
        clear hin hra hfm hne hout
        generalize ringOf (headL n) n.length (firstL n)[r]! = R at *
        go_wp2_with fail
        go_loopw [35] (fun i wx => ∃ q : Nat, q ≤ R.length ∧ i = .int .i64 q ∧ Hid (PI W A n g (g + 1) (.slice (some ⟨g3, 0, none⟩) (firstL n).length k3) vs r (R.take q) wx) ∧ Hid (Row wx ra ((R.map fun j : Nat => (j : Int)).map (Value.int .i64)))) (fun i _ => R.length - (intOf i).toNat)
        case atStart => exact ⟨0, Nat.zero_le _, rfl, PP, HRR⟩
        case round =>
          clear PP HRR cv
          obtain ⟨q, hq, rfl, PP, RR⟩ := hrel
          by_cases hqt : q < R.length
          · have hq0 : (0 : Int) ≤ (q : Int) := Int.natCast_nonneg _
            have hq1 : (q : Int) < (R.length : Int) := by omega
            obtain ⟨b2, off2, rfl, hb2, hc2⟩ := row_at RR.out (i := q) (by rw [List.length_map]; exact hqt)
            have hq3 : (R.map fun j : Nat => (j : Int))[q]! = ((R[q]! : Nat) : Int) := by
              rw [getElem!_pos _ q (by rw [List.length_map]; exact hqt), getElem!_pos R q hqt, List.getElem_map]
            rw [hq3] at hc2
            obtain ⟨hx, hxh⟩ := HMEM.out q hqt
            have hfr := HFR (ks := R.take q) hxh (by
              intro hm
              obtain ⟨i, hi, e⟩ := List.getElem_of_mem hm
              rw [List.length_take] at hi
              rw [List.getElem_take, getElem!_pos R q hqt] at e
              exact List.pairwise_iff_getElem.1 HND.out i q (by omega) hqt (by omega) e)
            have HTS : Hid (R.take q ++ [R[q]!] = R.take (q + 1)) := Lib.hid (by rw [List.take_succ_eq_append_getElem hqt, getElem!_pos R q hqt])
            generalize R[q]! = x at *
            have cp := (PP.out.o.cellAt x (by omega)).trans (map_get iv (by rw [ofL_len]; exact hx))
            rw [ofL_at hx, hfr] at cp
            have cp' : wr.cell? ⟨g, x, none⟩ = some (.int .i64 0) := cp
            have fp := PP.out.o.frozenAt x
            have hgz := (own_block PP.out.o (g := g) rfl).2
            have hP8 := PP.out.put NN0.out hx
            rw [HTS.out] at hP8
            have P8 := Lib.hid hP8
            have R8 := Lib.hid (row_keep RR.out HAP.out (W' := wr.setCell ⟨g, x, none⟩ (iv (r + 1))) (fun q hq _ => blk_other hq))
            have hx0 : (0 : Int) ≤ (x : Int) := Int.natCast_nonneg _
            have hx1 : (x : Int) < (n.length : Int) := by omega
            clear cp hP8 PP RR hq3 hxh hfr HTS
            go_wp2_with fail
            go_roundw
            case rel => exact ⟨q + 1, hqt, by go_num, P8, R8⟩
            case measure => simp [intOf]; omega
          · obtain rfl : q = R.length := by omega
            rw [List.take_length] at PP
            have P9 := HNX _ PP.out
            clear PP RR
            go_wp2_with fail
            go_roundw
            case rel => exact ⟨r + 1, hlt, by go_num, P9⟩
            case measure => simp [intOf]; omega
      · obtain rfl : r = (firstL n).length := by omega
        obtain ⟨j0, hj0, hj1, hj2, hj3⟩ := info_parts (show (Try.prog.info? 43).map (fun i => (i.zero, i.size, i.bytes)) = some (some (.map none), 1, 8) by kernel_rfl)
        have T0 : Hid (TO (wr.alloc (.cells #[] 43)) wr.heap.size (wr.heap.size + 1) n 0 (.slice (some ⟨wr.heap.size, 0, none⟩) 0 0)) := Lib.hid ⟨[], rfl, ⟨by simp, .inr ⟨wr.heap.size, 0, #[], rfl, Nat.le_refl _, heap_new _ _, by simp, by unfold maxLen; omega, by simp, by simp⟩⟩, fun j hj => absurd hj (Nat.not_lt_zero _), fun j hj => absurd hj (Nat.not_lt_zero _)⟩
        have V0 := Lib.hid ((Below.refl wr.heap.size wr).alloc (Nat.le_refl _) (.cells #[] 43))
        have hs0 := World.size_alloc wr (.cells #[] 43)
        have HS0 : Hid (wr.heap.size + 1 ≤ (wr.alloc (.cells #[] 43)).heap.size) := Lib.hid (by omega)
        clear hs0
        obtain ⟨V, hV⟩ : ∃ V, V = wr := ⟨_, rfl⟩
        have HV := Lib.hid hV
        rw [← hV] at T0 V0 PP
        clear hV
        go_wp2_with fail
        rw [← HV.out]
        rw [← HV.out] at HS0
        clear HV
        go_loopw [8, 64] (fun v i wx => ∃ k : Nat, k ≤ n.length ∧ i = .int .i64 k ∧ Hid (∃ M, TO wx V.heap.size M n k v ∧ M ≤ wx.heap.size) ∧ Hid (Below V.heap.size V wx)) (fun _ i _ => n.length - (intOf i).toNat)
        case atStart => exact ⟨0, Nat.zero_le _, rfl, Lib.hid ⟨_, T0.out, HS0.out⟩, V0⟩
        case round =>
          clear T0 V0 HS0
          obtain ⟨k, hk, rfl, TT, VV⟩ := hrel
          by_cases hkt : k < n.length
          · have hk0 : (0 : Int) ≤ (k : Int) := Int.natCast_nonneg _
            have hk1 : (k : Int) < (n.length : Int) := by omega
            obtain ⟨M, hT, hM⟩ := TT.out
            have hsl : ∃ a c, u8 = .slice a k c := by obtain ⟨bs, _, h2, _⟩ := hT; exact own_slice h2
            obtain ⟨va, vc, rfl⟩ := hsl
            have hmk := mkI wr
            have hab : Below wr.heap.size wr (wr.alloc (.map #[] 0)) := (Below.refl _ _).alloc (Nat.le_refl _) _
            have T1 := Lib.hid ((hT.below hab).mono hM)
            have N1 := Lib.hid (NS.made wr n.length)
            have V1 := Lib.hid (VV.out.trans (hab.mono VV.out.size))
            have HVZ := Lib.hid VV.out.size
            clear hT hM TT hab VV
            go_wp2_with fail
            clear hmk
            refine (sm_reach' (PP.out.t.below V1.out) SM.out hkt).mono ?_
            rintro e w6 ⟨a6, k6, rfl, hR, hap, hb⟩
            have S6 := Lib.hid ((N1.out.below hb).congr (S' := fun j => ((reachL n k).take 0).contains j) (fun i => by simp))
            have T6 := Lib.hid (T1.out.below hb)
            have V6 := Lib.hid (V1.out.trans (hb.mono V1.out.size))
            have hAP : Hid (∀ p, a6 = some p → p.block ≠ wr.heap.size) := Lib.hid (fun p hp e => by have := hap p hp; rw [World.size_alloc] at this; omega)
            have RR := Lib.hid hR
            have hrl := reachL_le SM.out k
            have HLT := fun {q : Nat} (h : q < (reachL n k).length) => reach_lt h
            clear hR hap hb N1 T1 V1
            obtain ⟨R, hRd⟩ : ∃ R, R = reachL n k := ⟨_, rfl⟩
            have HRD := Lib.hid hRd
            rw [← hRd] at HLT hrl RR S6 ⊢
            clear hRd
            obtain ⟨b, hbd⟩ : ∃ b, b = wr.heap.size := ⟨_, rfl⟩
            rw [← hbd] at S6 T6 hAP HVZ ⊢
            clear hbd
            go_wp2_with fail
            go_loopw [72] (fun i wx => ∃ q : Nat, q ≤ R.length ∧ i = .int .i64 q ∧ Hid (NS wx b q n.length (fun j => (R.take q).contains j)) ∧ Hid (TO wx V.heap.size b n k (.slice va k vc)) ∧ Hid (Below V.heap.size V wx) ∧ Hid (Row wx a6 ((R.map fun j : Nat => (j : Int)).map (Value.int .i64)))) (fun i _ => R.length - (intOf i).toNat)
            case atStart => exact ⟨0, Nat.zero_le _, rfl, S6, T6, V6, RR⟩
            case round =>
              clear S6 T6 V6 RR
              obtain ⟨q, hq, rfl, S7, T7, V7, RR⟩ := hrel
              by_cases hqt : q < R.length
              · have hq0 : (0 : Int) ≤ (q : Int) := Int.natCast_nonneg _
                have hq1 : (q : Int) < (R.length : Int) := by omega
                obtain ⟨b2, off2, rfl, hb2, hc2⟩ := row_at RR.out (i := q) (by rw [List.length_map]; exact hqt)
                have hq3 : (R.map fun j : Nat => (j : Int))[q]! = ((R[q]! : Nat) : Int) := by
                  rw [getElem!_pos _ q (by rw [List.length_map]; exact hqt), getElem!_pos R q hqt, List.getElem_map]
                rw [hq3] at hc2
                have hy := HLT hqt
                have HTM := Lib.hid (take_more hqt)
                generalize R[q]! = y at *
                obtain ⟨w8, hput, hS8, hg8⟩ := S7.out.put (k := y) (by omega) hy (by unfold maxLen; omega)
                have hkeep : ∀ p, p ≠ b → p < wr.heap.size → w8.heap[p]? = wr.heap[p]? := fun p hp hl => hg8.block p hl (fun e => by injection e with e; exact hp e)
                have S8 := Lib.hid (hS8.congr (S' := fun j => (R.take (q + 1)).contains j) (fun i => by simp only [HTM.out i]))
                have T8 := Lib.hid (T7.out.other S7.out (Nat.le_refl _) hkeep)
                have V8 : Hid (Below V.heap.size V w8) := Lib.hid (V7.out.trans ⟨hg8.os, hg8.tape, hg8.output, hg8.size, fun p hp => hkeep p (by have := HVZ.out; omega) (by have := V7.out.size; omega)⟩)
                have R8 := Lib.hid (row_keep RR.out hAP.out hkeep)
                clear hS8 hg8 S7 T7 V7 RR hkeep hq3 hy HTM
                go_wp2_with fail
                go_roundw
                case rel => exact ⟨q + 1, hqt, by go_num, S8, T8, V8, R8⟩
                case measure => simp [intOf]; omega
              · obtain rfl : q = R.length := by omega
                obtain ⟨bs, h1, h2, h3, h4⟩ := T7.out
                have hbl := S7.out.lt
                have S9 := Lib.hid ((S7.out.mono (show R.length ≤ 24 by omega)).congr (S' := fun j => (reachL n k).contains j) (fun i => by rw [List.take_length, HRD.out]))
                have HB := Lib.hid (show bs.length = k ∧ (∀ j : Nat, j < k → V.heap.size ≤ bs[j]! ∧ bs[j]! < b) ∧ ∀ j : Nat, j < k → NS wr bs[j]! 24 n.length (fun x => (reachL n j).contains x) from ⟨h1, h3, h4⟩)
                have H2 := Lib.hid h2
                clear RR hAP HLT T7 S7 h1 h2 h3 h4
                go_wp2_with (at_builtin; refine wpList_append_own_at _ rfl (.tmp 79) (.tmp 81) 42 rfl V.heap.size 43 j0 _ 1 8 Try.underlying42 hj0 hj1 hj2 hj3 rfl (by omega) _ _ _ rfl (H2.out.alloc _) ⟨wr.heap.size, 0, none⟩ 1 1 [.map (some b)] rfl rfl ?c1 ?c2 ?c3 ?c4 ?c5 ?_)
                case c1 =>
                  intro j u hj
                  have hn := heap_new wr (.cells #[.map (some b)] 43)
                  match j, hj with
                  | 0, hj => cases hj; exact cell_blk hn rfl
                case c2 => first | rfl | (intro u hu; simp at hu; rw [hu]; rfl)
                case c3 => unfold maxLen; omega
                case c4 => omega
                case c5 => rw [World.size_alloc]; have := V7.out.size; omega
                intro v1 w9 hown' hgrow _ _
                obtain ⟨va1, vc1, rfl⟩ := own_slice hown'
                have hba := (Below.refl wr.heap.size wr).alloc (Nat.le_refl _) (.cells #[.map (some b)] 43)
                have T9 := Lib.hid (TO.push HB.out.1 (H2.out.alloc (.cells #[.map (some b)] 43)) HB.out.2.1 (fun j hj => (HB.out.2.2 j hj).below hba) (S9.out.below hba) HVZ.out (Nat.le_refl b) hown' hgrow)
                have hz9 := hgrow.size
                rw [World.size_alloc] at hz9
                have V9 : Hid (Below V.heap.size V w9) := Lib.hid (V7.out.trans ⟨hgrow.os, hgrow.tape, hgrow.output, by omega, fun p hp => (hgrow.block p (by rw [World.size_alloc]; have := V7.out.size; omega) (fun e => by have := (own_block H2.out e.symm).1; omega)).trans (hba.block p (by have := V7.out.size; omega))⟩)
                have T10 : Hid (∃ M, TO w9 V.heap.size M n (k + 1) (.slice va1 (k + 1) vc1) ∧ M ≤ w9.heap.size) := Lib.hid ⟨_, T9.out, by omega⟩
                clear hown' hgrow hba T9 H2 HB S9 V7
                go_wp2_with fail
                go_roundw
                case rel => exact ⟨k + 1, hkt, by go_num, T10, V9⟩
                case measure => simp [intOf]; omega
          · obtain rfl : k = n.length := by omega
            have hex : ∃ bs, QI W n g V.heap.size u8 bs wr := by
              obtain ⟨M, ⟨bs, h1, h2, h3, h4⟩, hM⟩ := TT.out
              exact ⟨bs, own_below PP.out.o VV.out, h2, h4, h1, PP.out.b.trans (VV.out.mono PP.out.b.size)⟩
            obtain ⟨bs, hQ⟩ := hex
            obtain ⟨va, vc, hva⟩ := own_slice hQ.v
            subst hva
            have Q0 := Lib.hid hQ
            clear hQ TT VV PP
            go_wp2_with fail
            go_loopw [86] (fun i wx => ∃ k : Nat, k ≤ n.length ∧ i = .int .i64 k ∧ Hid (QI W n g V.heap.size (.slice va n.length vc) bs wx)) (fun i _ => n.length - (intOf i).toNat)
            case atStart => exact ⟨0, Nat.zero_le _, rfl, Q0⟩
            case round =>
              clear Q0
              obtain ⟨i, hi, rfl, QQ⟩ := hrel
              by_cases hit : i < n.length
              · have hi0 : (0 : Int) ≤ (i : Int) := Int.natCast_nonneg _
                have hi1 : (i : Int) < (n.length : Int) := by omega
                go_wp2_with fail
                go_loopw [91] (fun j wx => ∃ k : Nat, k ≤ n.length ∧ j = .int .i64 k ∧ Hid (QI W n g V.heap.size (.slice va n.length vc) bs wx)) (fun j _ => n.length - (intOf j).toNat)
                case atStart => exact ⟨0, Nat.zero_le _, rfl, QQ⟩
                case round =>
                  clear QQ
                  obtain ⟨k, hk, rfl, QQ⟩ := hrel
                  by_cases hkt : k < n.length
                  · have hk0 : (0 : Int) ≤ (k : Int) := Int.natCast_nonneg _
                    have hk1 : (k : Int) < (n.length : Int) := by omega
                    obtain ⟨gv, gc, hgv, _, hgvz⟩ := own_head QQ.out.v (by omega)
                    injection hgv with e1 e2 e3
                    subst e1
                    subst e3
                    have hgz := (own_block QQ.out.o (g := g) rfl).2
                    have ci := (QQ.out.o.cellAt i (by omega)).trans (map_get iv (by rw [ofL_len]; exact hit))
                    have ck := (QQ.out.o.cellAt k (by omega)).trans (map_get iv (by rw [ofL_len]; exact hkt))
                    rw [ofL_at hit] at ci
                    rw [ofL_at hkt] at ck
                    have mi := (QQ.out.v.cellAt i (by omega)).trans (show _ = some (Value.map (some bs[i]!)) by rw [List.getElem?_map, List.getElem?_eq_getElem (by rw [QQ.out.l]; exact hit), getElem!_pos bs i (by rw [QQ.out.l]; exact hit)]; rfl)
                    have mk := (QQ.out.v.cellAt k (by omega)).trans (show _ = some (Value.map (some bs[k]!)) by rw [List.getElem?_map, List.getElem?_eq_getElem (by rw [QQ.out.l]; exact hkt), getElem!_pos bs k (by rw [QQ.out.l]; exact hkt)]; rfl)
                    have li := fun m => ((QQ.out.draws m).m i hit).look (i := k) (by omega)
                    have lk := fun m => ((QQ.out.draws m).m k hkt).look (i := i) (by omega)
                    have hpos := ofB_pos hit
                    have hsame := ofB_same hit hkt
                    have hri := reach_has (b := k) hit
                    have hrk := reach_has (b := i) hkt
                    have QD := fun m => Lib.hid (QQ.out.draws m)
                    generalize (reachL n i).contains k = xi at *
                    generalize (reachL n k).contains i = xk at *
                    generalize bs[i]! = bi at *
                    generalize bs[k]! = bk at *
                    generalize ofB n (firstL n).length [] i = oi at *
                    generalize ofB n (firstL n).length [] k = ok at *
                    have hz : ((oi : Int) == 0) = false := by rw [beq_eq_false_iff_ne]; omega
                    have HFIN : Hid (((oi : Int) == (ok : Int)) = (((i : Int) == (k : Int)) || (xi && xk))) := Lib.hid (by
                      rw [Bool.eq_iff_iff, beq_iff_eq, Bool.or_eq_true, beq_iff_eq, Bool.and_eq_true, hri, hrk]
                      constructor
                      · intro h
                        rcases hsame.1 (by omega) with h | h
                        · exact .inl (by omega)
                        · exact .inr h
                      · intro h
                        have := hsame.2 (by rcases h with h | h; exact .inl (by omega); exact .inr h)
                        omega)
                    clear hpos hsame hri hrk
                    cases hik : ((i : Int) == (k : Int)) with
                    | true =>
                      have hoo := HFIN.out
                      rw [hik, Bool.true_or] at hoo
                      clear HFIN QQ
                      go_wp2_with fail
                      go_quiet (fail)
                      go_wp2_with fail
                      go_roundw
                      case rel => exact ⟨k + 1, hkt, by go_num, QD _⟩
                      case measure => simp [intOf]; omega
                    | false =>
                      have hoo := HFIN.out
                      rw [hik, Bool.false_or] at hoo
                      cases xi with
                      | false =>
                        rw [Bool.false_and] at hoo
                        clear HFIN QQ
                        go_wp2_with fail
                        go_quiet (fail)
                        go_wp2_with fail
                        go_roundw
                        case rel => exact ⟨k + 1, hkt, by go_num, QD _⟩
                        case measure => simp [intOf]; omega
                      | true =>
                        rw [Bool.true_and] at hoo
                        cases xk with
                        | false =>
                          clear HFIN QQ
                          go_wp2_with fail
                          go_quiet (fail)
                          go_wp2_with fail
                          go_roundw
                          case rel => exact ⟨k + 1, hkt, by go_num, QD _⟩
                          case measure => simp [intOf]; omega
                        | true =>
                          clear HFIN QQ
                          go_wp2_with fail
                          go_quiet (fail)
                          go_wp2_with fail
                          go_roundw
                          case rel => exact ⟨k + 1, hkt, by go_num, QD _⟩
                          case measure => simp [intOf]; omega
                  · obtain rfl : k = n.length := by omega
                    go_wp2_with fail
                    go_roundw
                    case rel => exact ⟨i + 1, hit, by go_num, QQ⟩
                    case measure => simp [intOf]; omega
              · obtain rfl : i = n.length := by omega
                go_wp2_with fail
                go_ret
                exact ⟨rfl, QQ.out.b⟩

theorem own : ownKnob Try.prog.godebug = none := by kernel_rfl
set_option maxRecDepth 100000 in
theorem lifted (os : Os) (started : os.Started) (H : Type) (enc : TypeId × Value → H) :
    ReturnsInHanded {} Try.checked os 4 .any (Rows.ringPartsSpec.pre6 enc Try.prog Try.f4 Rows.ringPartsRow.domain false) (Rows.ringPartsSpec.post enc Try.prog Try.f4 false true false false) := by
  refine returnsInHanded_of_change_sized (C := Try.checked) own started (by kernel_rfl) Try.func4
    (ChangeSpec.witness6 (enc := enc) (C := Try.checked) false ⟨#[], #[.slice none 0 0], []⟩ 8 (by kernel_rfl) (by kernel_rfl) (by kernel_rfl) (by kernel_rfl)) ?_
  intro W base args ds gs before hval0 hW _ hsz0 _
  have hsz : (DataW.weightsEach Try.prog (Try.f4.params.toList ++ Rows.ringPartsSpec.plain.varTypes Try.prog) (ds ++ gs)).all (· ≤ reachBytes) = true := hsz0
  have hval : ∀ (j : Nat) t v, Try.f4.params[j]? = some t → args[j]? = some v → Value.okWide Try.prog W .any base t v := hval0
  have hW' := hW
  obtain ⟨p, q, hA0, hV, rfl, _, _⟩ := hW
  have hA : DataW.TrodAll enc Try.prog W 0 (fun _ => true) true Try.f4.params.toList args.toList ds p := hA0
  rw [Try.params4] at hA hval hsz
  obtain ⟨v0, vs0, d0, ds0, p0, q0, hargs, rfl, rfl, h0, r0⟩ := trodAll_cons hA
  obtain ⟨rfl, rfl, rfl⟩ := trodAll_nil r0
  obtain rfl : args = #[v0] := by cases args; simp_all
  obtain ⟨rfl, rfl⟩ := trodVars_none hV
  have hw0 : Wt Try.prog 23 d0 := Wt.of hsz (j := 0) rfl rfl
  obtain ⟨A0, c0, n0, rfl, hN0, hl0⟩ := open_nt (hval 0 _ v0 rfl rfl) h0 hw0
  clear hA0 hval0 hsz0
  simp only [List.append_nil] at hW'
  have hlt0 := fun x hx => hW'.lt x hx
  refine (walk W A0 c0 n0 hN0 hl0).mono fun e W' ⟨he2, hg⟩ => ?_
  subst he2
  have hargs := (trodAll_cons_mk (Below.trod progLaid (by kernel_rfl) (of_decide_eq_true (by kernel_rfl)) h0 hg (fun x hx => hlt0 x (hx))) (trodAll_mk0 (enc := enc) (P := Try.prog) (w := W')))
  simp only [List.append_nil] at hargs
  exact ⟨_, rfl, _, _, _, [], p0, [], hW', trodAll_cons_mk (shut_bool Try.underlying4 _) trodAll_mk0, hargs, rfl, hg.frame _, fun h => by cases h⟩

theorem proved : Rows.RingPartsSaid :=
  OpenClaim.holds_of_wide 4 Try.f4 rfl rfl rfl rfl rfl rfl rfl ⟨rfl, rfl, rfl, rfl, rfl⟩ rfl rfl rfl rfl rfl (by kernel_rfl) Try.func4 (by kernel_rfl)
    (of_decide_eq_true (by kernel_rfl)) (by unfold Func.isWrapper; first | (rw [if_pos (by decide +kernel)]; kernel_rfl) | (rw [if_neg (by decide +kernel)]; exact ⟨rfl, rfl⟩))
    (fun os started H enc _ => lifted os started H enc)
end Go.Proofs.Ytmklhhkbpaochaa.R6.Parts
