/-
  RingOrders answers true, whatever net it is given.
-/
import Derived.Test.YtmklhhkbpaochaaRoX
import Derived.Test.YtmklhhkbpaochaaRoY
namespace Go.Proofs.Ytmklhhkbpaochaa.R6.Orders
open Go.RowKit Go.Shelf Go.Deep Go.Joins Go.ChangeShapes Go.WideShapes Go.Proofs.Ytmklhhkbpaochaa.B Go.Proofs.Ytmklhhkbpaochaa.R6 Go.Proofs.Ytmklhhkbpaochaa.R6.Steps

/-- What stands in a round: the net, the map. -/
structure OI2 (w : World) (A : Option Addr) (n : NetL) (b c : Nat) (o : List Nat) (W : World) : Prop where
  t : Nt W A n
  m : MP W b c o
  g : w.heap.size ≤ b
  b : Below w.heap.size w W
theorem OI2.put {w W : World} {A : Option Addr} {n : NetL} {b c : Nat} {o : List Nat} (h : OI2 w A n b c o W) (hn : Nt w A n) {x : Nat} (hx : x ≤ 9223372036854775807) (hno : x ∉ o) (hc : c < maxLen) (hl : o.length ≤ 1000000) :
    ∃ w1, (Instr.mapUpdate 44 (.map (some b)) (.int .i64 (x : Int)) (.int .i64 (o.length : Int))).run Try.prog W = .ok () w1 ∧ OI2 w A n b (c + 1) (o ++ [x]) w1 ∧ ∀ q, q ≠ b → q < W.heap.size → w1.heap[q]? = W.heap[q]? := by
  obtain ⟨w1, h1, h2, h3⟩ := h.m.put hx hno hc hl
  have hb : Below w.heap.size w w1 := h.b.trans ⟨h3.os, h3.tape, h3.output, h3.size, fun q hq => h3.block q (by have := h.b.size; omega) (fun e => by injection e with e; have := h.g; omega)⟩
  exact ⟨w1, h1, ⟨hn.below hb, h2, h.g, hb⟩, fun q hq hl => h3.block q hl (fun e => by injection e with e; exact hq e)⟩
theorem take_snoc {o : List Nat} {q : Nat} (hq : q < o.length) : o.take q ++ [o[q]!] = o.take (q + 1) := by
  rw [List.take_succ_eq_append_getElem hq, getElem!_pos o q hq]
theorem take_fresh {o : List Nat} (h : o.Nodup) {q : Nat} (hq : q < o.length) : o[q]! ∉ o.take q := by
  intro hm
  obtain ⟨i, hi, e⟩ := List.getElem_of_mem hm
  rw [List.length_take] at hi
  rw [List.getElem_take, getElem!_pos o q hq] at e
  exact List.pairwise_iff_getElem.1 h i q (by omega) hq (by omega) e
set_option maxRecDepth 100000 in
set_option maxHeartbeats 8000000 in
theorem walk (W : World) (A : Option Addr) (c : Nat) (n : NetL) (hn : Nt W A n) (hl : n.length ≤ 70368744177663) :
    Calls Try.prog 5 #[.slice A n.length c] W fun e w' => e = .returned (.bool true) ∧ Below W.heap.size W w' := by
  have NN0 := Lib.hid hn
  clear hn
  go_enter Try.func5, Try.ntmps5
  go_wp2_with fail
  refine (awake_any W).mono ?_
  rintro e w1 ⟨rfl, hb⟩
  have BB1 := Lib.hid hb
  clear hb
  go_wp2_with fail
  refine (sm_large (NN0.out.below BB1.out) hl).mono ?_
  rintro e w2 ⟨b, rfl, rfl, hsm⟩
  cases b with
  | true =>
    go_wp2_with fail
    go_ret
    exact ⟨rfl, BB1.out⟩
  | false =>
    have SM := Lib.hid (hsm rfl)
    have hl24 := SM.out.l
    clear hsm
    have HLA := Lib.hid (loop_all n)
    go_wp2_with fail
    go_loopw [3, 19] (fun v i wr => ∃ k : Nat, k ≤ n.length ∧ i = .int .i64 k ∧ v = .bool (loopTo n k) ∧ Hid (Below W.heap.size W wr)) (fun _ i _ => n.length - (intOf i).toNat)
    case atStart => exact ⟨0, Nat.zero_le _, rfl, rfl, BB1⟩
    case round =>
      clear BB1
      obtain ⟨k, hk, rfl, rfl, BB⟩ := hrel
      by_cases hlt : k < n.length
      · have hk0 : (0 : Int) ≤ (k : Int) := Int.natCast_nonneg _
        have hk1 : (k : Int) < (n.length : Int) := by omega
        have HNX := Lib.hid (loop_next n k)
        cases hb : loopTo n k with
        | true =>
          rw [hb] at HNX
          clear hb
          go_wp2_with fail
          go_roundw
          case rel => exact ⟨k + 1, hlt, by go_num, by rw [HNX.out]; rfl, BB⟩
          case measure => simp [intOf]; omega
        | false =>
          rw [hb, Bool.false_or] at HNX
          have C := Lib.hid (fun w (h : Below W.heap.size W w) => sm_loops (c := c) (NN0.out.below h) SM.out (k : Int))
          clear hb
          generalize loopsB n (k : Int) = bb at *
          go_wp2_with fail
          refine (C.out _ BB.out).mono ?_
          rintro e w3 ⟨rfl, hb⟩
          have BB3 := Lib.hid (BB.out.trans (hb.mono BB.out.size))
          clear hb BB C
          go_wp2_with fail
          go_roundw
          case rel => exact ⟨k + 1, hlt, by go_num, by rw [HNX.out], BB3⟩
          case measure => simp [intOf]; omega
      · obtain rfl : k = n.length := by omega
        rw [HLA.out]
        have C := Lib.hid (sm_order (c := c) (NN0.out.below BB.out) SM.out)
        cases hlb : leadsB n with
        | true =>
          rw [(ordI_yes hlb).1, (ordI_yes hlb).2] at C
          clear hlb HLA
          go_wp2_with fail
          refine C.out.mono ?_
          rintro e w3 ⟨a3, k3, rfl, _, hb⟩
          have BB3 := Lib.hid (BB.out.trans (hb.mono BB.out.size))
          clear hb BB C
          go_wp2_with fail
          go_ret
          exact ⟨rfl, BB3.out⟩
        | false =>
          have hac := leadsB_no hlb
          rw [(ordI_no hlb).1, (ordI_no hlb).2] at C
          obtain ⟨hoi, hol⟩ := ord_ok hac n.length (Nat.le_refl _)
          have HPL := fun {i : Nat} (h : i < n.length) => ord_place hac h
          have HLS := fun {p q : Nat} (hp : p < n.length) (hq : q < n.length) (h : (ordL n n.length)[q]! ∈ wy n (ordL n n.length)[p]!) => ord_less hac hp hq h
          have HRS := Lib.hid (rings_single hac)
          have HOI := Lib.hid hoi
          clear hlb HLA hac hoi
          generalize ordL n n.length = o at *
          have HOL := Lib.hid hol
          rw [hol] at C
          clear hol
          go_wp2_with fail
          refine C.out.mono ?_
          rintro e w3 ⟨a3, k3, rfl, hR, hb⟩
          have RR := Lib.hid hR
          have hb0 := BB.out.trans (hb.mono BB.out.size)
          have hmk := mkM w3
          have S0 : Hid (OI2 W A n w3.heap.size 0 (o.take 0) (w3.alloc (.map #[] 0))) := Lib.hid ⟨NN0.out.below (hb0.alloc hb0.size _), MP.made w3, hb0.size, hb0.alloc hb0.size _⟩
          have R0 := Lib.hid (row_call RR.out ((Below.refl _ w3).alloc (Nat.le_refl _) (.map #[] 0)))
          have hAP : Hid (0 < n.length → ∀ p, a3 = some p → p.block ≠ w3.heap.size) := Lib.hid (fun h0 p hp e => by
            obtain ⟨b2, off2, e2, hb2, _⟩ := row_at RR.out (i := 0) (by rw [List.length_map, HOL.out]; exact h0)
            rw [hp] at e2
            injection e2 with e2
            rw [e2] at e
            simp at e
            omega)
          clear hb BB C hb0 RR hR
          go_wp2_with fail
          clear hmk
          generalize w3.heap.size = b at *
          go_loopw [45] (fun i wx => ∃ q : Nat, q ≤ n.length ∧ i = .int .i64 q ∧ Hid (OI2 W A n b q (o.take q) wx) ∧ Hid (Row wx a3 ((o.map fun j : Nat => (j : Int)).map (Value.int .i64)))) (fun i _ => n.length - (intOf i).toNat)
          case atStart => exact ⟨0, Nat.zero_le _, rfl, S0, R0⟩
          case round =>
            clear S0 R0
            obtain ⟨q, hq, rfl, S7, RR⟩ := hrel
            by_cases hqt : q < n.length
            · have hq0 : (0 : Int) ≤ (q : Int) := Int.natCast_nonneg _
              have hq1 : (q : Int) < (n.length : Int) := by omega
              have hqo : q < o.length := by rw [HOL.out]; exact hqt
              have hAP2 := hAP.out (by omega)
              obtain ⟨b2, off2, rfl, hb2, hc2⟩ := row_at RR.out (i := q) (by rw [List.length_map]; exact hqo)
              have hq3 : (o.map fun j : Nat => (j : Int))[q]! = ((o[q]! : Nat) : Int) := by
                rw [getElem!_pos _ q (by rw [List.length_map]; exact hqo), getElem!_pos o q hqo, List.getElem_map]
              rw [hq3] at hc2
              have hy := HOI.out.lt _ (Go.Proofs.Ytmklhhkbpaochaa.B.mem_at hqo)
              have HTS := Lib.hid (take_snoc hqo)
              have hfr := take_fresh HOI.out.nd hqo
              have htl : (o.take q).length = q := by rw [List.length_take]; omega
              generalize o[q]! = y at *
              obtain ⟨w8, hput, hS8, hkeep⟩ := S7.out.put NN0.out (x := y) (by omega) hfr (by unfold maxLen; omega) (by omega)
              rw [htl] at hput
              rw [HTS.out] at hS8
              have S8 := Lib.hid hS8
              have R8 := Lib.hid (row_keep RR.out hAP2 hkeep)
              clear hS8 S7 RR hkeep hq3 hy HTS hfr htl hAP2 hqo
              go_wp2_with fail
              go_roundw
              case rel => exact ⟨q + 1, hqt, by go_num, S8, R8⟩
              case measure => simp [intOf]; omega
            · obtain rfl : q = n.length := by omega
              have htk : o.take n.length = o := by rw [← HOL.out]; exact List.take_length
              rw [htk] at S7
              have hlen := S7.out.m.len 3
              rw [HOL.out] at hlen
              have HLK : ∀ p : Nat, p < n.length → (Instr.lookup 44 (.map (some b)) (.int .i64 (o[p]! : Int)) false).run Try.prog wr = .ok (.int .i64 (p : Int)) wr := fun p hp => S7.out.m.look (by rw [HOL.out]; exact hp) (by have := HOI.out.lt _ (Go.Proofs.Ytmklhhkbpaochaa.B.mem_at (show p < o.length by rw [HOL.out]; exact hp)); omega)
              have HLK := Lib.hid HLK
              clear RR htk
              go_wp2_with fail
              clear hlen
              obtain ⟨V, hV⟩ : ∃ V, V = wr := ⟨_, rfl⟩
              have HS7 := S7
              clear S7
              subst hV
              go_loopw [72] (fun i wx => ∃ q : Nat, q ≤ n.length ∧ i = .int .i64 q ∧ wx = V) (fun i _ => n.length - (intOf i).toNat)
              case atStart => exact ⟨0, Nat.zero_le _, rfl, rfl⟩
              case round =>
                obtain ⟨k, hk2, rfl, rfl⟩ := hrel
                by_cases hlk : k < n.length
                · have hk0 : (0 : Int) ≤ (k : Int) := Int.natCast_nonneg _
                  have hk1 : (k : Int) < (n.length : Int) := by omega
                  obtain ⟨b0, off0, ra, rc, hA0, hb0, hc0, hrow⟩ := nt_at HS7.out.t hlk
                  have hL60 : n[k]!.length ≤ 60 := SM.out.r _ (Go.Proofs.Ytmklhhkbpaochaa.B.mem_at hlk)
                  have HMW := Lib.hid (fun (x : Nat) (hx : (x : Int) ∈ n[k]!) (hxn : x < n.length) => wy_mem.2 ⟨hx, hxn⟩)
                  have HROW := Lib.hid hrow
                  obtain ⟨p1, hp1, ep1⟩ := HPL hlk
                  have hlk1 := HLK.out p1 hp1
                  rw [ep1] at hlk1
                  have HLS1 := fun {q : Nat} (hq : q < n.length) (h : o[q]! ∈ wy n o[p1]!) => HLS hp1 hq h
                  rw [ep1] at HLS1
                  subst hA0
                  clear hrow ep1
                  generalize n[k]! = L at *
                  go_wp2_with fail
                  go_loopw [80] (fun i wx => ∃ q : Nat, q ≤ L.length ∧ i = .int .i64 q ∧ wx = wr) (fun i _ => L.length - (intOf i).toNat)
                  case atStart => exact ⟨0, Nat.zero_le _, rfl, rfl⟩
                  case round =>
                    obtain ⟨m, hm, rfl, rfl⟩ := hrel
                    by_cases hmt : m < L.length
                    · have hm0 : (0 : Int) ≤ (m : Int) := Int.natCast_nonneg _
                      have hm1 : (m : Int) < (L.length : Int) := by omega
                      obtain ⟨b1, off1, rfl, hb1, hc1⟩ := row_at HROW.out hmt
                      have hmem := Go.Proofs.Ytmklhhkbpaochaa.B.mem_at hmt
                      generalize L[m]! = t at *
                      by_cases h0 : 0 ≤ t
                      · by_cases h1 : t < (n.length : Int)
                        · obtain ⟨x, rfl⟩ : ∃ x : Nat, t = (x : Int) := ⟨t.toNat, by omega⟩
                          have hx : x < n.length := by omega
                          obtain ⟨p2, hp2, ep2⟩ := HPL hx
                          have hlk2 := HLK.out p2 hp2
                          rw [ep2] at hlk2
                          have hpp := HLS1 hp2 (by rw [ep2]; exact HMW.out x hmem hx)
                          have hpp2 : (p1 : Int) < (p2 : Int) := by omega
                          clear ep2 hmem
                          go_wp2_with fail
                          go_roundw
                          case rel => exact ⟨m + 1, hmt, by go_num, trivial⟩
                          case measure => simp [intOf]; omega
                        · clear hmem
                          go_wp2_with fail
                          go_roundw
                          case rel => exact ⟨m + 1, hmt, by go_num, trivial⟩
                          case measure => simp [intOf]; omega
                      · clear hmem
                        go_wp2_with fail
                        go_roundw
                        case rel => exact ⟨m + 1, hmt, by go_num, trivial⟩
                        case measure => simp [intOf]; omega
                    · obtain rfl : m = L.length := by omega
                      go_wp2_with fail
                      go_roundw
                      case rel => exact ⟨k + 1, hlk, by go_num, trivial⟩
                      case measure => simp [intOf]; omega
                · obtain rfl : k = n.length := by omega
                  have C := Lib.hid (sm_rings (c := c) HS7.out.t SM.out)
                  rw [HRS.out] at C
                  go_wp2_with fail
                  refine C.out.mono ?_
                  rintro e w9 ⟨a9, k9, rfl, _, hb⟩
                  have BB9 := Lib.hid (HS7.out.b.trans (hb.mono HS7.out.b.size))
                  clear hb C
                  go_wp2_with fail
                  go_ret
                  exact ⟨rfl, BB9.out⟩

theorem own : ownKnob Try.prog.godebug = none := by kernel_rfl
set_option maxRecDepth 100000 in
theorem lifted (os : Os) (started : os.Started) (H : Type) (enc : TypeId × Value → H) :
    ReturnsInHanded {} Try.checked os 5 .any (Rows.ringOrdersSpec.pre6 enc Try.prog Try.f5 Rows.ringOrdersRow.domain false) (Rows.ringOrdersSpec.post enc Try.prog Try.f5 false true false false) := by
  refine returnsInHanded_of_change_sized (C := Try.checked) own started (by kernel_rfl) Try.func5
    (ChangeSpec.witness6 (enc := enc) (C := Try.checked) false ⟨#[], #[.slice none 0 0], []⟩ 8 (by kernel_rfl) (by kernel_rfl) (by kernel_rfl) (by kernel_rfl)) ?_
  intro W base args ds gs before hval0 hW _ hsz0 _
  have hsz : (DataW.weightsEach Try.prog (Try.f5.params.toList ++ Rows.ringOrdersSpec.plain.varTypes Try.prog) (ds ++ gs)).all (· ≤ reachBytes) = true := hsz0
  have hval : ∀ (j : Nat) t v, Try.f5.params[j]? = some t → args[j]? = some v → Value.okWide Try.prog W .any base t v := hval0
  have hW' := hW
  obtain ⟨p, q, hA0, hV, rfl, _, _⟩ := hW
  have hA : DataW.TrodAll enc Try.prog W 0 (fun _ => true) true Try.f5.params.toList args.toList ds p := hA0
  rw [Try.params5] at hA hval hsz
  obtain ⟨v0, vs0, d0, ds0, p0, q0, hargs, rfl, rfl, h0, r0⟩ := trodAll_cons hA
  obtain ⟨rfl, rfl, rfl⟩ := trodAll_nil r0
  obtain rfl : args = #[v0] := by cases args; simp_all
  obtain ⟨rfl, rfl⟩ := trodVars_none hV
  have hw0 : Wt Try.prog 23 d0 := Wt.of hsz (j := 0) rfl rfl
  obtain ⟨A0, c0, n0, rfl, hN0, hl0⟩ := open_nt (hval 0 _ v0 rfl rfl) h0 hw0
  clear hA0 hval0 hsz0
  simp only [List.append_nil] at hW'
  have hlt0 := fun x hx => hW'.lt x hx
  refine (walk W A0 c0 n0 hN0 hl0).mono fun e W' ⟨he2, hg⟩ => ?_
  subst he2
  have hargs := (trodAll_cons_mk (Below.trod progLaid (by kernel_rfl) (of_decide_eq_true (by kernel_rfl)) h0 hg (fun x hx => hlt0 x (hx))) (trodAll_mk0 (enc := enc) (P := Try.prog) (w := W')))
  simp only [List.append_nil] at hargs
  exact ⟨_, rfl, _, _, _, [], p0, [], hW', trodAll_cons_mk (shut_bool Try.underlying4 _) trodAll_mk0, hargs, rfl, hg.frame _, fun h => by cases h⟩

theorem proved : Rows.RingOrdersSaid :=
  OpenClaim.holds_of_wide 5 Try.f5 rfl rfl rfl rfl rfl rfl rfl ⟨rfl, rfl, rfl, rfl, rfl⟩ rfl rfl rfl rfl rfl (by kernel_rfl) Try.func5 (by kernel_rfl)
    (of_decide_eq_true (by kernel_rfl)) (by unfold Func.isWrapper; first | (rw [if_pos (by decide +kernel)]; kernel_rfl) | (rw [if_neg (by decide +kernel)]; exact ⟨rfl, rfl⟩))
    (fun os started H enc _ => lifted os started H enc)
end Go.Proofs.Ytmklhhkbpaochaa.R6.Orders
