/-
  NeedsHold answers true, whatever graph it is given: what matters holds what blocks it, and what it calls for, and all that may be called for.
-/
import Derived.Test.YtaagpnepkjkfoaaNdH
import Derived.Laws.AppendOwnNone
namespace Go.Proofs.Ytaagpnepkjkfoaa.N7
open Go.RowKit Go.Shelf Go.Proofs.Ytaagpnepkjkfoaa.B Go.Proofs.Ytaagpnepkjkfoaa.R6

/-- The box of the graph. -/
structure BX (w : World) (fl : Array Value) (W : World) : Prop where
  x : W.heap[w.heap.size]? = some (.cells fl 45 (0, 0))
  l : Below w.heap.size w W
theorem BX.call {w W W' : World} {fl : Array Value} (h : BX w fl W) (hb : Below W.heap.size W W') : BX w fl W' := ⟨(hb.block _ (blk_lt h.x)).trans h.x, h.l.trans (hb.mono h.l.size)⟩
theorem BX.start (w : World) (fl : Array Value) : BX w fl (w.alloc (.cells fl 45)) := ⟨heap_new _ _, (Below.refl _ _).alloc (Nat.le_refl _) _⟩
theorem BX.c {w W : World} {a b : Value} (h : BX w #[a, b] W) : W.cell? ⟨w.heap.size, 0, none⟩ = some a ∧ W.cell? ⟨w.heap.size, 1, none⟩ = some b := ⟨cell_blk h.x rfl, cell_blk h.x rfl⟩
/-- What stands: the box, the map, the list of what matters. -/
structure HH (w : World) (fl : Array Value) (b c N : Nat) (S : Nat → Bool) (v : Value) (l : List Int) (W : World) : Prop where
  x : BX w fl W
  m : NS W b c N S
  o : W.ownsRow w.heap.size 3 1 v l.length (l.map (Value.int .i64))
  g : w.heap.size < b
section
variable {w W W' : World} {fl : Array Value} {b c N : Nat} {S T : Nat → Bool} {v : Value} {l : List Int}
theorem HH.call (h : HH w fl b c N S v l W) (hb : Below W.heap.size W W') : HH w fl b c N S v l W' := ⟨h.x.call hb, h.m.below hb, own_below h.o hb, h.g⟩
theorem HH.congr (h : HH w fl b c N S v l W) (e : ∀ i, S i = T i) : HH w fl b c N T v l W := ⟨h.x, h.m.congr e, h.o, h.g⟩
theorem HH.put (h : HH w fl b c N S v l W) {k : Nat} (hk : k ≤ 9223372036854775807) (hN : k < N) (hc : c < maxLen) :
    ∃ w1, (Instr.mapUpdate 60 (.map (some b)) (.int .i64 (k : Int)) (.bool true)).run Try.prog W = .ok () w1 ∧ HH w fl b (c + 1) N (fun j => S j || j == k) v l w1 := by
  obtain ⟨w1, h1, h2, h3⟩ := h.m.put hk hN hc
  have hg := h.g
  exact ⟨w1, h1, ⟨⟨(h3.block _ (blk_lt h.x.x) (fun e => by have := Option.some.inj e; omega)).trans h.x.x, h.x.l.grown h3 h.x.l.size (fun j hj => by cases hj; omega)⟩, h2, h.o.kept h3 (.inr (nsFar h.o h.m)), h.g⟩⟩
end
/-- append of a row, nil or not, onto one of the call's own, at one operation. -/
theorem wp_append_any {P : Program} {w : World} {o : Oper} {a : Act} {K : Act → World → Prop} {Q : Exit → Act → World → Prop} (s x : Operand) (t : TypeId)
    (ho : o.op = .call { callee := .builtin .append, args := #[s, x], argTypes := #[t, t] })
    (base : Nat) (e : TypeId) (i : TypeInfo) (z : Value) (size bytes : Nat) (ht : P.underlying t = some (.slice e)) (hi : P.info? e = some i) (hz : i.zero = some z)
    (hsize : i.size = size) (hby : i.bytes = bytes) (hzs : z.cells.size = size) (hsz : 0 < size)
    (v : Value) (n : Nat) (xs : List Value) (hs : a.eval s = v) (hown : w.ownsRow base e size v n xs)
    (A : Option Addr) (m c : Nat) (news : List Value) (hx : a.eval x = .slice A m c) (hA : A = none → m = 0 ∧ c = 0) (hl : news.length = m * size) (hnews : Row w A news) (h1 : ∀ u ∈ news, u.oneCell' = true)
    (h63 : n + m ≤ maxLen) (hbytes : (n + m) * bytes ≤ 140737488355328) (hbase : base ≤ w.heap.size)
    (h : ∀ v' w', w'.ownsRow base e size v' (n + m) (xs ++ news) → w.grownBy w' v.ownBlock → K (a.put o.dst v') w') : o.wp P a w K Q := by
  cases A with
  | none =>
    obtain ⟨rfl, rfl⟩ := hA rfl
    have e0 : news = [] := List.length_eq_zero_iff.1 (by rw [hl, Nat.zero_mul])
    subst e0
    have hrun := run_append_owned_none (P := P) (w := w) base t o.type e i size ht hi v n xs hown
    unfold Oper.wp
    simp [execOp, ho, resolve, invoke, builtin, hs, hx, hrun, Result.andThen]
    exact h v w (by rw [List.append_nil]; exact hown) ⟨rfl, rfl, rfl, Nat.le_refl _, fun _ _ _ => rfl⟩
  | some ad =>
    obtain ⟨v', w', hrun, r1, r2, _, _⟩ := run_append_own_at (P := P) w base t o.type e i z size bytes ht hi hz hsize hby hzs hsz v n xs hown ad m c news hl (fun j u hj => by
      obtain ⟨b, off, e1, _, hc⟩ := hnews (fun e => by rw [e] at hj; cases hj)
      injection e1 with e1
      rw [e1, Addr.add_lit]
      exact hc j u hj) h1 h63 hbytes hbase
    unfold Oper.wp
    simp [execOp, ho, resolve, invoke, builtin, hs, hx, hrun, Result.andThen]
    exact h v' w' r1 r2
theorem map_at {M : List Nat} {k : Nat} (hk : k < M.length) : (M.map fun j : Nat => (j : Int))[k]! = ((M[k]! : Nat) : Int) := by
  rw [getElem!_pos _ k (by rw [List.length_map]; exact hk), getElem!_pos M k hk, List.getElem_map]

set_option maxRecDepth 100000 in
set_option maxHeartbeats 8000000 in
theorem hold_walk (w : World) (EA TA : Option Addr) (ec tc : Nat) (es : List Ev) (ts : List Ti) (hf : FI w EA TA es ts) :
    Calls Try.prog 5 #[FV EA TA es.length ec ts.length tc] w fun e w' => e = .returned (.bool true) ∧ Below w.heap.size w w' := by
  obtain ⟨i0, hi0, hi1, hi2, hi3⟩ := info_parts info_int'
  have X0 := Lib.hid (BX.start w #[.slice EA es.length ec, .slice TA ts.length tc])
  have HF := Lib.hid hf
  clear hf
  go_enter Try.func5, Try.ntmps5
  go_wp2_with fail
  refine (awake7 _).mono ?_
  rintro e w1 ⟨rfl, hb⟩
  have X1 := Lib.hid (X0.out.call hb)
  obtain ⟨x0, x1⟩ := X1.out.c
  clear hb X0
  go_wp2_with fail
  refine (large7 w1 EA TA ec tc es ts).mono ?_
  rintro e w2 ⟨b, rfl, hb, hsm⟩
  have X2 := Lib.hid (X1.out.call hb)
  clear hb X1 x0 x1
  cases b with
  | true =>
    go_wp2_with fail
    go_ret
    exact ⟨rfl, X2.out.l⟩
  | false =>
    obtain ⟨he, ht⟩ := hsm rfl
    have HSM : Hid (SmF es ts) := Lib.hid ⟨by omega, by omega⟩
    have hmk := mkI w2
    have X3 := Lib.hid (X2.out.call ((Below.refl _ w2).alloc (Nat.le_refl _) (.map #[] 0)))
    obtain ⟨x0, x1⟩ := X3.out.c
    have M3 := Lib.hid (NS.made w2 (es.length + 1))
    have hgb : w.heap.size < w2.heap.size := blk_lt X2.out.x
    have CM := matters_of (w2.alloc (.map #[] 0)) EA TA ec tc es ts (HF.out.below X3.out.l) HSM.out
    rw [mat_is] at CM
    have hml := mat_len es ts
    have hmm : ((matL es ts).map fun j : Nat => (j : Int)).length = (matL es ts).length := List.length_map _
    have HAT := Lib.hid (fun (k : Nat) (hk : k < (matL es ts).length) => map_at hk)
    have HLT := Lib.hid (fun (k : Nat) (hk : k < (matL es ts).length) => mat_lt (Go.Proofs.Ytaagpnepkjkfoaa.B.mem_at hk))
    have HCN := Lib.hid (mat_cnt es ts)
    have HIN := Lib.hid (fun (k : Nat) (hk : k < (matL es ts).length) => Go.Proofs.Ytaagpnepkjkfoaa.B.mem_at hk)
    have HHO := Lib.hid (fun (a : Nat) (h : a ∈ matL es ts) (x : Int) hx => mat_holds h (x := x) hx)
    have HCA := Lib.hid (fun (j : Nat) h1 h2 => mat_called (es := es) (ts := ts) (j := j) h1 h2)
    generalize matL es ts = M at *
    generalize (M.map fun j : Nat => (j : Int)) = l at *
    have HC := Lib.hid CM
    clear CM X2
    go_wp2_with fail
    refine HC.out.mono ?_
    rintro e w3 ⟨v, rfl, ho, hb⟩
    obtain ⟨va, vc, rfl⟩ := own_slice ho
    have H3 : Hid (HH w #[.slice EA es.length ec, .slice TA ts.length tc] w2.heap.size 0 (es.length + 1) (fun j => (M.take 0).contains j) (.slice va l.length vc) l w3) := Lib.hid ⟨X3.out.call hb, (M3.out.below hb).congr (fun i => by simp), own_base ho X3.out.l.size, hgb⟩
    have hl1 : l.length ≤ M.length := by omega
    have hl2 : M.length ≤ l.length := by omega
    clear hmm ho hb HC X3 M3 hmk x0 x1 hgb
    generalize w2.heap.size = mb at *
    go_wp2_with fail
    go_loopw [22] (fun i wr => ∃ k : Nat, k ≤ l.length ∧ i = .int .i64 k ∧ Hid (HH w #[.slice EA es.length ec, .slice TA ts.length tc] mb k (es.length + 1) (fun j => (M.take k).contains j) (.slice va l.length vc) l wr)) (fun i _ => l.length - (intOf i).toNat)
    case atStart => exact ⟨0, Nat.zero_le _, rfl, H3⟩
    case round =>
      clear H3
      obtain ⟨k, hk, rfl, HK⟩ := hrel
      by_cases hlt : k < l.length
      · have hk0 : (0 : Int) ≤ (k : Int) := Int.natCast_nonneg _
        have hk1 : (k : Int) < (l.length : Int) := by omega
        obtain ⟨b1, off1, rfl, hb1, hc1⟩ := row_at (Row.of_own HK.out.o) hlt
        rw [HAT.out k (by omega)] at hc1
        have hy := HLT.out k (by omega)
        have HTM := Lib.hid (fun j => take_more (show k < M.length by omega) j)
        generalize M[k]! = y at *
        obtain ⟨w8, hput, hH8⟩ := HK.out.put (k := y) (by omega) hy (by unfold maxLen; omega)
        have H8 := Lib.hid (hH8.congr (T := fun j => (M.take (k + 1)).contains j) (fun i => (HTM.out i).symm))
        clear hH8 HK HTM hy
        go_wp2_with fail
        go_roundw
        case rel => exact ⟨k + 1, hlt, by go_num, H8⟩
        case measure => simp [intOf]; omega
      · obtain rfl : k = l.length := by omega
        have HK2 := Lib.hid ((HK.out.congr (T := fun j => M.contains j) (fun i => by rw [List.take_of_length_le (by omega)])))
        obtain ⟨x0, x1⟩ := HK2.out.x.c
        have CC := called_of wr EA TA ec tc es ts (HF.out.below HK2.out.x.l) HSM.out
        have HCI := Lib.hid (fun (x : Int) (hx : x ∈ inL es.length (pendS es ts)) => show ∃ j : Nat, j ≤ es.length ∧ x = (j : Int) ∧ j ∈ M from by
          obtain ⟨j, h1, h2, h3⟩ := inL_mem.1 hx
          exact ⟨j, by omega, h3, HCA.out j h1 h2⟩)
        have hcl := inL_len es.length (pendS es ts)
        generalize inL es.length (pendS es ts) = C at *
        have HC := Lib.hid CC
        clear CC HK HCA
        go_wp2_with fail
        refine HC.out.mono ?_
        rintro e w4 ⟨v, rfl, ho, hb⟩
        obtain ⟨ca, cc, rfl⟩ := own_slice ho
        have H4 := Lib.hid (HK2.out.call hb)
        have RC := Lib.hid (Row.of_own ho)
        clear ho hb HC HK2 x0 x1
        go_wp2_with fail
        go_loopw [32] (fun i wr => ∃ k : Nat, k ≤ C.length ∧ i = .int .i64 k ∧ w4 = wr) (fun i _ => C.length - (intOf i).toNat)
        case atStart => exact ⟨0, Nat.zero_le _, rfl, rfl⟩
        case round =>
          obtain ⟨k, hk, rfl, rfl⟩ := hrel
          by_cases hlt2 : k < C.length
          · have hk0 : (0 : Int) ≤ (k : Int) := Int.natCast_nonneg _
            have hk1 : (k : Int) < (C.length : Int) := by omega
            obtain ⟨b1, off1, rfl, hb1, hc1⟩ := row_at RC.out hlt2
            obtain ⟨y, hy1, hy2, hy3⟩ := HCI.out _ (Go.Proofs.Ytaagpnepkjkfoaa.B.mem_at hlt2)
            rw [hy2] at hc1
            have hlk := H4.out.m.look (i := y) (by omega)
            rw [List.contains_iff_mem.2 hy3] at hlk
            clear hy2 hy3
            go_wp2_with fail
            go_roundw
            case rel => exact ⟨k + 1, hlt2, by go_num, trivial⟩
            case measure => simp [intOf]; omega
          · obtain rfl : k = C.length := by omega
            clear RC HCI
            go_wp2_with fail
            go_loopw [43] (fun i wr => ∃ k : Nat, k ≤ l.length ∧ i = .int .i64 k ∧ Hid (HH w #[.slice EA es.length ec, .slice TA ts.length tc] mb l.length (es.length + 1) (fun j => M.contains j) (.slice va l.length vc) l wr)) (fun i _ => l.length - (intOf i).toNat)
            case atStart => exact ⟨0, Nat.zero_le _, rfl, H4⟩
            case round =>
              clear H4
              obtain ⟨k, hk, rfl, HK⟩ := hrel
              by_cases hlt3 : k < l.length
              · obtain ⟨wo, rfl⟩ : ∃ wo, wo = wr := ⟨wr, rfl⟩
                have hk0 : (0 : Int) ≤ (k : Int) := Int.natCast_nonneg _
                have hk1 : (k : Int) < (l.length : Int) := by omega
                obtain ⟨b1, off1, rfl, hb1, hc1⟩ := row_at (Row.of_own HK.out.o) hlt3
                rw [HAT.out k (by omega)] at hc1
                have hyM := HIN.out k (by omega)
                have HXX := Lib.hid (HHO.out _ hyM)
                generalize M[k]! = y at *
                have HKd := Lib.hid (HK.out.call (below_draws (Below.refl _ wo) 1))
                have HS0 := Lib.hid HKd.out.x.c
                have CB := Lib.hid (blocks_of wo.drew EA TA ec tc es ts (HF.out.below HKd.out.x.l) HSM.out (y : Int))
                have CA := Lib.hid (fun (W : World) (hW : Below w.heap.size w W) => calls_of W EA TA ec tc es ts (HF.out.below hW) HSM.out (y : Int))
                have hlb := inL_len es.length (blkS es.length ts (y : Int))
                have hla := inL_len es.length (clS es.length ts (y : Int))
                generalize inL es.length (blkS es.length ts (y : Int)) = LB at *
                generalize inL es.length (clS es.length ts (y : Int)) = LA at *
                clear HK hyM
                go_wp2_with fail
                clear hc1
                refine wp_region_any (by kernel_rfl) ?_
                refine wpAny_take (i := 8) (v := ?v8) rfl (by kernel_rfl) (by kernel_rfl) (by kernel_rfl) (fun _ _ _ h => h) (Or.inl ⟨by rfl, ?y8⟩) ?_
                case y8 => intro w; go_simp; try with_reducible rfl
                simp only [Act.put, List.setIfInBounds_toArray, List.set_cons_zero, List.set_cons_succ, List.getElem_toArray, List.getElem_cons_zero, List.getElem_cons_succ]
                refine wpAny_take (i := 1) (v := ?v1) rfl (by kernel_rfl) (by kernel_rfl) (by kernel_rfl) (fun _ _ _ h => h) (Or.inl ⟨by rfl, ?y1⟩) ?_
                case y1 => intro w; go_simp; try with_reducible rfl
                simp only [Act.put, List.setIfInBounds_toArray, List.set_cons_zero, List.set_cons_succ, List.getElem_toArray, List.getElem_cons_zero, List.getElem_cons_succ]
                refine wpAny_take (i := 4) (v := ?v4) rfl (by kernel_rfl) (by kernel_rfl) (by kernel_rfl) (fun _ _ _ h => h) (Or.inl ⟨by rfl, ?y4⟩) ?_
                case y4 => intro w; go_simp; try with_reducible rfl
                simp only [Act.put, List.setIfInBounds_toArray, List.set_cons_zero, List.set_cons_succ, List.getElem_toArray, List.getElem_cons_zero, List.getElem_cons_succ]
                refine any_of_T (S := fun w' => w'.cell? ⟨w.heap.size, 0, none⟩ = some (.slice EA es.length ec) ∧ w'.cell? ⟨w.heap.size, 1, none⟩ = some (.slice TA ts.length tc)) (z := 6) _ _ _ _ ?_
                refine anyT_take (i := 0) 2 [0] (v := ?_) rfl (by kernel_rfl) (by kernel_rfl) (by kernel_rfl) (by kernel_rfl) (fun _ _ _ h => h) HS0.out (by rfl) ?_ ?_
                rotate_left
                · intro W hSw
                  obtain ⟨q0, q1⟩ := hSw
                  go_simp
                  try with_reducible rfl
                simp only [Act.put, List.setIfInBounds_toArray, List.set_cons_zero, List.set_cons_succ, List.getElem_toArray, List.getElem_cons_zero]
                refine anyT_take (i := 3) 5 [3] (v := ?_) rfl (by kernel_rfl) (by kernel_rfl) (by kernel_rfl) (by kernel_rfl) (fun _ _ _ h => h) HS0.out (by rfl) ?_ ?_
                rotate_left
                · intro W hSw
                  obtain ⟨q0, q1⟩ := hSw
                  go_simp
                  try with_reducible rfl
                simp only [Act.put, List.setIfInBounds_toArray, List.set_cons_zero, List.set_cons_succ, List.getElem_toArray, List.getElem_cons_zero, List.getElem_cons_succ]
                refine anyT_one' (i := 2) (by kernel_rfl) rfl (by rfl) (fun K2 hK2 => ?_)
                have HK2 := Lib.hid hK2
                clear hK2
                unfold Oper.wp
                go_simp
                refine CB.out.mono ?_
                rintro e w5 ⟨vB, rfl, hoB, hb5⟩
                have H5 := Lib.hid (HKd.out.call hb5)
                have HOB := Lib.hid (own_base hoB HKd.out.x.l.size)
                have HBJ := Lib.hid (fun (j : Nat) (hj : vB.ownBlock = some j) => (own_block hoB hj).1)
                have HB5 := Lib.hid hb5
                have HS5 := Lib.hid H5.out.x.c
                clear hoB hb5 CB
                refine HK2.out _ _ (fun _ => HS5.out) ?_
                refine anyT_one' (i := 5) (by kernel_rfl) rfl (by rfl) (fun K5 hK5 => ?_)
                have HK5 := Lib.hid hK5
                clear hK5
                unfold Oper.wp
                go_simp
                refine (CA.out w5 H5.out.x.l).mono ?_
                rintro e w6 ⟨vA, rfl, hoA, hb6⟩
                obtain ⟨qa, qc, rfl⟩ := own_slice hoA
                have H6 := Lib.hid (H5.out.call hb6)
                have HO6 := Lib.hid (own_below HOB.out hb6)
                have RA6 := Lib.hid (Row.of_own hoA)
                have HB56 := Lib.hid (HB5.out.trans (hb6.mono HB5.out.size))
                have HCP := Lib.hid (show qa = none → LA.length = 0 ∧ qc = 0 from fun e => by
                  have h1 := own_cap hoA
                  have h2 := h1.2 e
                  exact ⟨by omega, h2⟩)
                have HS6 := Lib.hid H6.out.x.c
                clear hoA hb6 H5 CA HOB HB5
                refine HK5.out _ _ (fun _ => HS6.out) ?_
                refine anyT_one' (i := 6) (by kernel_rfl) rfl (by rfl) (fun K6 hK6 => ?_)
                have HK6 := Lib.hid hK6
                clear hK6
                refine wp_append_any (.tmp 49) (.tmp 52) 26 (by rfl) w.heap.size 3 i0 _ 1 8 Try.underlying26 hi0 hi1 hi2 hi3 rfl (by omega) vB LB.length (LB.map (Value.int .i64)) (by rfl) HO6.out qa LA.length qc (LA.map (Value.int .i64)) (by rfl) HCP.out (by simp) RA6.out (by simp [Value.oneCell']) (by unfold maxLen; omega) (by omega) H6.out.x.l.size ?_
                intro v7 w7 ho7 hg7
                have H7 := Lib.hid (HKd.out.call (HB56.out.grown hg7 HB56.out.size HBJ.out))
                have h7 := ho7
                rw [← List.map_append, ← List.length_append] at h7
                obtain ⟨za, zc, rfl⟩ := own_slice h7
                have RZ := Lib.hid (Row.of_own h7)
                have HS7 := Lib.hid H7.out.x.c
                have hlz : (LB ++ LA).length = LB.length + LA.length := List.length_append
                clear ho7 hg7 h7 H6 HO6 RA6 HKd HB56 HBJ
                refine HK6.out _ _ (fun h => absurd rfl h) ?_
                refine anyT_one' (i := 7) (by kernel_rfl) rfl (by rfl) (fun K7 hK7 => ?_)
                have HK7 := Lib.hid hK7
                clear hK7
                unfold Oper.wp
                go_simp
                refine HK7.out _ _ (fun _ => HS7.out) ?_
                refine anyT_done (by kernel_rfl) ?_ _
                clear HK7 HK6 HK5 HK2
                generalize LB ++ LA = LZ at *
                go_wp2_with fail
                go_loopw [55] (fun i wr => ∃ q : Nat, q ≤ LZ.length ∧ i = .int .i64 q ∧ w7 = wr) (fun i _ => LZ.length - (intOf i).toNat)
                case atStart => exact ⟨0, Nat.zero_le _, rfl, rfl⟩
                case round =>
                  obtain ⟨q, hq, rfl, rfl⟩ := hrel
                  by_cases hqt : q < LZ.length
                  · have hq0 : (0 : Int) ≤ (q : Int) := Int.natCast_nonneg _
                    have hq1 : (q : Int) < (LZ.length : Int) := by omega
                    obtain ⟨b2, off2, rfl, hb2, hc2⟩ := row_at RZ.out hqt
                    obtain ⟨z, hz1, hz2, hz3⟩ := HXX.out _ (Go.Proofs.Ytaagpnepkjkfoaa.B.mem_at hqt)
                    rw [hz2] at hc2
                    have hlk := H7.out.m.look (i := z) (by omega)
                    rw [List.contains_iff_mem.2 hz3] at hlk
                    clear hz2 hz3
                    go_wp2_with fail
                    go_roundw
                    case rel => exact ⟨q + 1, hqt, by go_num, trivial⟩
                    case measure => simp [intOf]; omega
                  · obtain rfl : q = LZ.length := by omega
                    go_wp2_with fail
                    go_roundw
                    case rel => exact ⟨k + 1, hlt3, by go_num, H7⟩
                    case measure => simp [intOf]; omega
              · obtain rfl : k = l.length := by omega
                have hln := HK.out.m.len 3
                rw [HCN.out] at hln
                have hq : ((M.length : Int) == (l.length : Int)) = true := by rw [beq_iff_eq]; omega
                have HB := Lib.hid HK.out.x.l
                clear HK
                go_wp2_with fail
                go_ret
                exact ⟨rfl, HB.out⟩
end Go.Proofs.Ytaagpnepkjkfoaa.N7
