/-
  RingSteps answers true, whatever net it is given.
-/
import Derived.Test.YtmklhhkbpaochaaRoM
namespace Go.Proofs.Ytmklhhkbpaochaa.R6.Steps
open Go.RowKit Go.Shelf Go.Deep Go.Joins Go.ChangeShapes Go.WideShapes Go.Proofs.Ytmklhhkbpaochaa.B Go.Proofs.Ytmklhhkbpaochaa.R6

/-- What stands in a round: the net, the map. -/
structure SI (w : World) (A : Option Addr) (n : NetL) (b c : Nat) (S : Nat → Bool) (W : World) : Prop where
  t : Nt W A n
  m : NS W b c n.length S
  g : w.heap.size ≤ b
  b : Below w.heap.size w W
theorem SI.call {w W W' : World} {A : Option Addr} {n : NetL} {b c : Nat} {S : Nat → Bool} (h : SI w A n b c S W) (hb : Below W.heap.size W W') : SI w A n b c S W' := ⟨h.t.below hb, h.m.below hb, h.g, h.b.trans (hb.mono h.b.size)⟩
theorem SI.mono {w W : World} {A : Option Addr} {n : NetL} {b c d : Nat} {S : Nat → Bool} (h : SI w A n b c S W) (hc : c ≤ d) : SI w A n b d S W := ⟨h.t, h.m.mono hc, h.g, h.b⟩
theorem SI.congr {w W : World} {A : Option Addr} {n : NetL} {b c : Nat} {S T : Nat → Bool} (h : SI w A n b c S W) (e : ∀ i, S i = T i) : SI w A n b c T W := ⟨h.t, h.m.congr e, h.g, h.b⟩
theorem SI.put {w W : World} {A : Option Addr} {n : NetL} {b c : Nat} {S : Nat → Bool} (h : SI w A n b c S W) (hn : Nt w A n) {k : Nat} (hk : k ≤ 9223372036854775807) (hN : k < n.length) (hc : c < maxLen) :
    ∃ w1, (Instr.mapUpdate 43 (.map (some b)) (.int .i64 (k : Int)) (.bool true)).run Try.prog W = .ok () w1 ∧ SI w A n b (c + 1) (fun j => S j || j == k) w1 ∧ ∀ q, q ≠ b → q < W.heap.size → w1.heap[q]? = W.heap[q]? := by
  obtain ⟨w1, h1, h2, h3⟩ := h.m.put hk hN hc
  have hb : Below w.heap.size w w1 := h.b.trans ⟨h3.os, h3.tape, h3.output, h3.size, fun q hq => h3.block q (by have := h.b.size; omega) (fun e => by injection e with e; have := h.g; omega)⟩
  exact ⟨w1, h1, ⟨hn.below hb, h2, h.g, hb⟩, fun q hq hl => h3.block q hl (fun e => by injection e with e; exact hq e)⟩
/-- The row of ints of a call, apart from the map. -/
theorem row_keep {W W' : World} {a : Option Addr} {xs : List Value} (h : Row W a xs) {b : Nat} (hne : ∀ p, a = some p → p.block ≠ b) (hk : ∀ q, q ≠ b → q < W.heap.size → W'.heap[q]? = W.heap[q]?) : Row W' a xs := by
  intro hx
  obtain ⟨g, off, rfl, hg, hc⟩ := h hx
  have hh := hk g (hne _ rfl) hg
  refine ⟨g, off, rfl, ?_, fun j u hj => ?_⟩
  · rcases Nat.lt_or_ge g W'.heap.size with h1 | h1
    · exact h1
    · exfalso
      rw [Array.getElem?_eq_none h1, Array.getElem?_eq_getElem hg] at hh
      cases hh
  · rw [← hc j u hj]
    exact World.cell?_of_block (w := W) hh
theorem sm_reach' {W : World} {A : Option Addr} {c : Nat} {n : NetL} (h : Nt W A n) (hs : Small n) {k : Nat} (hk : k < n.length) : Calls Try.prog 19 #[.slice A n.length c, .int .i64 (k : Int)] W fun e w' => ∃ a d, e = .returned (.slice a (reachL n k).length d) ∧ Row w' a (((reachL n k).map fun j : Nat => (j : Int)).map (Value.int .i64)) ∧ (∀ p, a = some p → W.heap.size ≤ p.block) ∧ Below W.heap.size W w' := by
  obtain ⟨rs, h1, h2⟩ := h
  have hl := nt_len h1
  have := reach_any W A c rs k h2 (by rw [hl]; have := hs.l; omega) (nt_rows h1 (hs.r2 (by omega)))
  rw [hl, h1] at this
  have he : reachI n (k : Int) = reachL n k := by
    unfold reachI
    rw [if_pos (by unfold hasI; rw [decide_eq_true (Int.natCast_nonneg _), decide_eq_true (by omega)]; rfl), Int.toNat_natCast]
  rw [he] at this
  refine this.mono ?_
  rintro e w' ⟨v, rfl, ho, hb⟩
  obtain ⟨a, d, rfl⟩ := own_slice ho
  exact ⟨a, d, rfl, by rw [← iv_int]; exact Row.of_own ho, fun p hp => (own_block ho (by rw [hp]; rfl)).1, hb⟩
theorem reachL_le {n : NetL} (hs : Small n) (k : Nat) : (reachL n k).length ≤ 24 := by
  unfold reachL
  have := List.length_filter_le (fun j => (ledL n k)[j]!) (List.range n.length)
  have := hs.l
  simp only [List.length_range] at *
  omega
/-- Where a net's points lie. -/
theorem nt_at {W : World} {A : Option Addr} {n : NetL} (h : Nt W A n) {k : Nat} (hk : k < n.length) : ∃ b off ra rc, A = some ⟨b, off, none⟩ ∧ b < W.heap.size ∧ W.cell? ⟨b, off + k, none⟩ = some (.slice ra n[k]!.length rc) ∧ Row W ra (n[k]!.map (Value.int .i64)) := by
  obtain ⟨rs, h1, h2⟩ := h
  have hl := nt_len h1
  obtain ⟨b, off, h3, h4, h5⟩ := h2.at_ (i := k) (by omega)
  have e : n[k]! = rs[k]!.l := by rw [← h1, net_at]
  exact ⟨b, off, _, _, h3, h4, by rw [e]; exact h5, by rw [e]; exact h2.row _ (Go.Proofs.Ytmklhhkbpaochaa.B.mem_at (by omega))⟩
theorem want_more (n : NetL) (ks : List Nat) (x j : Nat) : ((wantB n ks j || j == x) || ((reachL n x).take (reachL n x).length).contains j) = wantB n (ks ++ [x]) j := by
  unfold wantB
  rw [List.take_length, List.any_append]
  simp [Bool.or_assoc]
set_option maxRecDepth 100000 in
set_option maxHeartbeats 8000000 in
theorem walk (W : World) (A : Option Addr) (c : Nat) (n : NetL) (hn : Nt W A n) (hl : n.length ≤ 70368744177663) :
    Calls Try.prog 7 #[.slice A n.length c] W fun e w' => e = .returned (.bool true) ∧ Below W.heap.size W w' := by
  have NN0 := Lib.hid hn
  clear hn
  go_enter Try.func7, Try.ntmps7
  go_wp2_with fail
  refine (awake_any W).mono ?_
  rintro e w1 ⟨rfl, hb⟩
  have BB1 := Lib.hid hb
  clear hb
  go_wp2_with fail
  refine (sm_large (NN0.out.below BB1.out) hl).mono ?_
  rintro e w2 ⟨b, rfl, rfl, hsm⟩
  cases b with
  | true =>
    go_wp2_with fail
    go_ret
    exact ⟨rfl, BB1.out⟩
  | false =>
    have SM := Lib.hid (hsm rfl)
    have hl24 := SM.out.l
    clear hsm
    go_wp2_with fail
    go_loopw [18] (fun i wr => ∃ k : Nat, k ≤ n.length ∧ i = .int .i64 k ∧ Hid (Below W.heap.size W wr)) (fun i _ => n.length - (intOf i).toNat)
    case atStart => exact ⟨0, Nat.zero_le _, rfl, BB1⟩
    case round =>
      clear BB1
      obtain ⟨k, hk, rfl, BB⟩ := hrel
      by_cases hlt : k < n.length
      · have hk0 : (0 : Int) ≤ (k : Int) := Int.natCast_nonneg _
        have hk1 : (k : Int) < (n.length : Int) := by omega
        obtain ⟨b0, off0, ra, rc, rfl, hb0, hc0, hrow⟩ := nt_at NN0.out hlt
        have hL60 : n[k]!.length ≤ 60 := SM.out.r _ (Go.Proofs.Ytmklhhkbpaochaa.B.mem_at hlt)
        have HWY := Lib.hid (wy_R n k)
        have HROW := Lib.hid hrow
        rw [← BB.out.cell (p := ⟨b0, _, none⟩) hb0] at hc0
        have hbz : b0 < wr.heap.size := by have := BB.out.size; omega
        have hmk := mkI wr
        have S0 : Hid (SI W (some ⟨b0, off0, none⟩) n wr.heap.size 0 (wantB n (wyR n.length (n[k]!.take 0))) (wr.alloc (.map #[] 0))) := Lib.hid ⟨NN0.out.below (BB.out.alloc BB.out.size _), (NS.made wr n.length).congr (fun i => by simp [wyR, wantB]), BB.out.size, BB.out.alloc BB.out.size _⟩
        clear hrow BB
        generalize n[k]! = L at *
        go_wp2_with fail
        clear hmk hc0
        generalize wr.heap.size = b at *
        go_loopw [27] (fun i wv => ∃ m : Nat, m ≤ L.length ∧ i = .int .i64 m ∧ Hid (SI W (some ⟨b0, off0, none⟩) n b (25 * m) (wantB n (wyR n.length (L.take m))) wv)) (fun i _ => L.length - (intOf i).toNat)
        case atStart => exact ⟨0, Nat.zero_le _, rfl, S0⟩
        case round =>
          clear S0
          obtain ⟨m, hm, rfl, SS⟩ := hrel
          by_cases hmt : m < L.length
          · have hm0 : (0 : Int) ≤ (m : Int) := Int.natCast_nonneg _
            have hm1 : (m : Int) < (L.length : Int) := by omega
            obtain ⟨b1, off1, rfl, hb1, hc1⟩ := row_at HROW.out hmt
            rw [← SS.out.b.cell (p := ⟨b1, _, none⟩) hb1] at hc1
            have HNX := Lib.hid (wyR_next (N := n.length) hmt)
            generalize L[m]! = t at *
            have SK := fun (e : wyR n.length (L.take (m + 1)) = wyR n.length (L.take m)) => Lib.hid (show SI W (some ⟨b0, off0, none⟩) n b (25 * (m + 1)) (wantB n (wyR n.length (L.take (m + 1)))) _ from e ▸ SS.out.mono (by omega))
            by_cases h0 : t < 0
            · have SK' := SK (by rw [HNX.out, if_neg (by omega), List.append_nil])
              clear HNX SK SS
              go_wp2_with fail
              go_roundw
              case rel => exact ⟨m + 1, hmt, by go_num, SK'⟩
              case measure => simp [intOf]; omega
            · by_cases h1 : (n.length : Int) ≤ t
              · have SK' := SK (by rw [HNX.out, if_neg (by omega), List.append_nil])
                clear HNX SK SS
                go_wp2_with fail
                go_roundw
                case rel => exact ⟨m + 1, hmt, by go_num, SK'⟩
                case measure => simp [intOf]; omega
              · obtain ⟨x, rfl⟩ : ∃ x : Nat, t = (x : Int) := ⟨t.toNat, by omega⟩
                have hx : x < n.length := by omega
                rw [if_pos ⟨by omega, by omega⟩, Int.toNat_natCast] at HNX
                obtain ⟨w5, hput, hS5, _⟩ := SS.out.put NN0.out (k := x) (by omega) hx (by unfold maxLen; omega)
                have S5 := Lib.hid hS5
                clear hS5 SS SK
                go_wp2_with fail
                clear hput hc1
                refine (sm_reach' S5.out.t SM.out hx).mono ?_
                rintro e w6 ⟨a6, k6, rfl, hR, hap, hb⟩
                have S6 := Lib.hid ((S5.out.call hb).mono (show 25 * m + 1 ≤ 25 * m + 1 + 0 by omega))
                have hAP : Hid (∀ p, a6 = some p → p.block ≠ b) := Lib.hid (fun p hp e => by have := hap p hp; have := S5.out.m.lt; omega)
                have RR := Lib.hid hR
                have hrl := reachL_le SM.out x
                clear hR hap hb S5
                have S7 := Lib.hid (S6.out.congr (T := fun j => (wantB n (wyR n.length (L.take m)) j || j == x) || ((reachL n x).take 0).contains j) (fun i => by simp))
                have HW := Lib.hid (fun j => want_more n (wyR n.length (L.take m)) x j)
                rw [← HNX.out] at HW
                have HLT := fun {q : Nat} (h : q < (reachL n x).length) => reach_lt h
                clear S6 HNX
                generalize reachL n x = R at *
                go_wp2_with fail
                go_loopw [45] (fun i wx => ∃ q : Nat, q ≤ R.length ∧ i = .int .i64 q ∧ Hid (SI W (some ⟨b0, off0, none⟩) n b (25 * m + 1 + q) (fun j => (wantB n (wyR n.length (L.take m)) j || j == x) || (R.take q).contains j) wx) ∧ Hid (Row wx a6 ((R.map fun j : Nat => (j : Int)).map (Value.int .i64)))) (fun i _ => R.length - (intOf i).toNat)
                case atStart => exact ⟨0, Nat.zero_le _, rfl, S7, RR⟩
                case round =>
                  clear S7 RR
                  obtain ⟨q, hq, rfl, S7, RR⟩ := hrel
                  by_cases hqt : q < R.length
                  · have hq0 : (0 : Int) ≤ (q : Int) := Int.natCast_nonneg _
                    have hq1 : (q : Int) < (R.length : Int) := by omega
                    obtain ⟨b2, off2, rfl, hb2, hc2⟩ := row_at RR.out (i := q) (by rw [List.length_map]; exact hqt)
                    have hq3 : (R.map fun j : Nat => (j : Int))[q]! = ((R[q]! : Nat) : Int) := by
                      rw [getElem!_pos _ q (by rw [List.length_map]; exact hqt), getElem!_pos R q hqt, List.getElem_map]
                    rw [hq3] at hc2
                    have hy := HLT hqt
                    have HTM := Lib.hid (take_more hqt)
                    generalize R[q]! = y at *
                    obtain ⟨w8, hput, hS8, hkeep⟩ := S7.out.put NN0.out (k := y) (by omega) hy (by unfold maxLen; omega)
                    have S8 := Lib.hid ((hS8.mono (show 25 * m + 1 + q + 1 ≤ 25 * m + 1 + (q + 1) by omega)).congr (T := fun j => (wantB n (wyR n.length (L.take m)) j || j == x) || (R.take (q + 1)).contains j) (fun i => by simp only [HTM.out i, Bool.or_assoc]))
                    have R8 := Lib.hid (row_keep RR.out hAP.out hkeep)
                    clear hS8 S7 RR hkeep hq3 hy HTM
                    go_wp2_with fail
                    go_roundw
                    case rel => exact ⟨q + 1, hqt, by go_num, S8, R8⟩
                    case measure => simp [intOf]; omega
                  · obtain rfl : q = R.length := by omega
                    have S9 := Lib.hid ((S7.out.mono (show 25 * m + 1 + R.length ≤ 25 * (m + 1) by omega)).congr HW.out)
                    clear S7 RR
                    go_wp2_with fail
                    go_roundw
                    case rel => exact ⟨m + 1, hmt, by go_num, S9⟩
                    case measure => simp [intOf]; omega
          · obtain rfl : m = L.length := by omega
            rw [List.take_length, ← HWY.out] at SS
            go_wp2_with fail
            refine (sm_reach' SS.out.t SM.out hlt).mono ?_
            rintro e w6 ⟨a6, k6, rfl, hR, _, hb⟩
            have S6 := Lib.hid (SS.out.call hb)
            have RR := Lib.hid hR
            have hrl := reachL_le SM.out k
            have HLT := fun {q : Nat} (h : q < (reachL n k).length) => reach_lt h
            have HUP := fun {q : Nat} (h : q + 1 < (reachL n k).length) => reach_up h
            have HIN := fun {q : Nat} (h : q < (reachL n k).length) => want_in hlt h
            have HCN := want_cnt hlt
            clear hR hb SS HWY HROW
            generalize reachL n k = R at *
            generalize wantB n (wy n k) = S at *
            go_wp2_with fail
            go_loopw [58] (fun i wx => ∃ q : Nat, q ≤ R.length ∧ i = .int .i64 q ∧ wx = w6) (fun i _ => R.length - (intOf i).toNat)
            case atStart => exact ⟨0, Nat.zero_le _, rfl, rfl⟩
            case round =>
              obtain ⟨q, hq, rfl, rfl⟩ := hrel
              by_cases hqt : q < R.length
              · have hq0 : (0 : Int) ≤ (q : Int) := Int.natCast_nonneg _
                have hq1 : (q : Int) < (R.length : Int) := by omega
                have hml : (R.map fun j : Nat => (j : Int)).length = R.length := List.length_map _
                have hat : ∀ i : Nat, i < R.length → (R.map fun j : Nat => (j : Int))[i]! = ((R[i]! : Nat) : Int) := fun i hi => by
                  rw [getElem!_pos _ i (by rw [List.length_map]; exact hi), getElem!_pos R i hi, List.getElem_map]
                obtain ⟨b2, off2, rfl, hb2, hc2⟩ := row_at RR.out (i := q) (by rw [hml]; exact hqt)
                rw [hat q hqt] at hc2
                have hy := HLT hqt
                have hlk := S6.out.m.look (i := R[q]!) (by omega)
                rw [HIN hqt] at hlk
                by_cases hz : q = 0
                · subst hz
                  rw [Nat.add_zero] at hc2
                  have hq9 : (0 : Int) < (R.length : Int) := by omega
                  clear hat hml hq0 hq1
                  generalize R[0]! = y at *
                  go_wp2_with fail
                  exact ⟨⟨1, by omega, rfl, trivial⟩, by simp [intOf]; omega⟩
                · obtain ⟨p, rfl⟩ : ∃ p, q = p + 1 := ⟨q - 1, by omega⟩
                  obtain ⟨b3, off3, e3, hb3, hc3⟩ := row_at RR.out (i := p) (by rw [hml]; omega)
                  rw [hat p (by omega)] at hc3
                  injection e3 with e3
                  injection e3 with e4 e5 e6
                  subst e4
                  subst e5
                  have hup := HUP hqt
                  have hp1 : (((p + 1 : Nat) : Int) - 1) = (p : Int) := by omega
                  have hup2 : ((R[p]! : Nat) : Int) < ((R[p + 1]! : Nat) : Int) := by omega
                  have hp0 : (0 : Int) ≤ (p : Int) := Int.natCast_nonneg _
                  have hp2 : (p : Int) < (R.length : Int) := by omega
                  have hp3 : (0 : Int) < ((p + 1 : Nat) : Int) := by omega
                  clear hat hml hup
                  generalize R[p + 1]! = y at *
                  generalize R[p]! = z at *
                  go_wp2_with fail
                  exact ⟨⟨p + 1 + 1, hqt, by go_num, trivial⟩, by simp [intOf]; omega⟩
              · obtain rfl : q = R.length := by omega
                have hlen := S6.out.m.len 3
                rw [HCN] at hlen
                have SB := Lib.hid S6.out.b
                go_wp2_with fail
                go_roundw
                case rel => exact ⟨k + 1, hlt, by go_num, SB⟩
                case measure => simp [intOf]; omega
      · obtain rfl : k = n.length := by omega
        go_wp2_with fail
        go_ret
        exact ⟨rfl, BB.out⟩

theorem own : ownKnob Try.prog.godebug = none := by kernel_rfl
set_option maxRecDepth 100000 in
theorem lifted (os : Os) (started : os.Started) (H : Type) (enc : TypeId × Value → H) :
    ReturnsInHanded {} Try.checked os 7 .any (Rows.ringStepsSpec.pre6 enc Try.prog Try.f7 Rows.ringStepsRow.domain false) (Rows.ringStepsSpec.post enc Try.prog Try.f7 false true false false) := by
  refine returnsInHanded_of_change_sized (C := Try.checked) own started (by kernel_rfl) Try.func7
    (ChangeSpec.witness6 (enc := enc) (C := Try.checked) false ⟨#[], #[.slice none 0 0], []⟩ 8 (by kernel_rfl) (by kernel_rfl) (by kernel_rfl) (by kernel_rfl)) ?_
  intro W base args ds gs before hval0 hW _ hsz0 _
  have hsz : (DataW.weightsEach Try.prog (Try.f7.params.toList ++ Rows.ringStepsSpec.plain.varTypes Try.prog) (ds ++ gs)).all (· ≤ reachBytes) = true := hsz0
  have hval : ∀ (j : Nat) t v, Try.f7.params[j]? = some t → args[j]? = some v → Value.okWide Try.prog W .any base t v := hval0
  have hW' := hW
  obtain ⟨p, q, hA0, hV, rfl, _, _⟩ := hW
  have hA : DataW.TrodAll enc Try.prog W 0 (fun _ => true) true Try.f7.params.toList args.toList ds p := hA0
  rw [Try.params7] at hA hval hsz
  obtain ⟨v0, vs0, d0, ds0, p0, q0, hargs, rfl, rfl, h0, r0⟩ := trodAll_cons hA
  obtain ⟨rfl, rfl, rfl⟩ := trodAll_nil r0
  obtain rfl : args = #[v0] := by cases args; simp_all
  obtain ⟨rfl, rfl⟩ := trodVars_none hV
  have hw0 : Wt Try.prog 23 d0 := Wt.of hsz (j := 0) rfl rfl
  obtain ⟨A0, c0, n0, rfl, hN0, hl0⟩ := open_nt (hval 0 _ v0 rfl rfl) h0 hw0
  clear hA0 hval0 hsz0
  simp only [List.append_nil] at hW'
  have hlt0 := fun x hx => hW'.lt x hx
  refine (walk W A0 c0 n0 hN0 hl0).mono fun e W' ⟨he2, hg⟩ => ?_
  subst he2
  have hargs := (trodAll_cons_mk (Below.trod progLaid (by kernel_rfl) (of_decide_eq_true (by kernel_rfl)) h0 hg (fun x hx => hlt0 x (hx))) (trodAll_mk0 (enc := enc) (P := Try.prog) (w := W')))
  simp only [List.append_nil] at hargs
  exact ⟨_, rfl, _, _, _, [], p0, [], hW', trodAll_cons_mk (shut_bool Try.underlying4 _) trodAll_mk0, hargs, rfl, hg.frame _, fun h => by cases h⟩

theorem proved : Rows.RingStepsSaid :=
  OpenClaim.holds_of_wide 7 Try.f7 rfl rfl rfl rfl rfl rfl rfl ⟨rfl, rfl, rfl, rfl, rfl⟩ rfl rfl rfl rfl rfl (by kernel_rfl) Try.func7 (by kernel_rfl)
    (of_decide_eq_true (by kernel_rfl)) (by unfold Func.isWrapper; first | (rw [if_pos (by decide +kernel)]; kernel_rfl) | (rw [if_neg (by decide +kernel)]; exact ⟨rfl, rfl⟩))
    (fun os started H enc _ => lifted os started H enc)
end Go.Proofs.Ytmklhhkbpaochaa.R6.Steps
