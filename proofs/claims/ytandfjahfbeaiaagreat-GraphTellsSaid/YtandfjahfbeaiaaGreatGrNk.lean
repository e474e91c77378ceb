/-
  Contract of the document's own add. Contract of the document's own Roles.
-/
import Derived.Test.YtandfjahfbeaiaaGreatGrQp
import Derived.WalkLawsBesides
import Derived.Deep.RegionLaw
import Derived.Test.YtandfjahfbeaiaaGreatGrNf
namespace Go
/-- append onto a row of the call's own, as one step of a region that draws. -/
theorem step_append_own {P : Program} {ops : Array Oper} {o : Oper} {a : Act} {w : World} {K : Act → World → Prop} {Q : Exit → Act → World → Prop} {E : Prop}
    (hg : o.guard = none) (s x : Operand) (t : TypeId) (hop : o.op = Op.call { callee := Callee.builtin Builtin.append, args := #[s, x], argTypes := #[t, t] })
    (B : Nat) (e : TypeId) (i : TypeInfo) (z : Value) (size bytes : Nat) (h1 : P.underlying t = some (.slice e)) (h2 : P.info? e = some i) (h3 : i.zero = some z) (h4 : i.size = size) (h5 : i.bytes = bytes) (h6 : z.cells.size = size) (h7 : 0 < size)
    (v : Value) (n : Nat) (xs : List Value) (hs : a.eval s = v) (hown : w.ownsRow B e size v n xs)
    (ad : Addr) (m c : Nat) (news : List Value) (hx : a.eval x = .slice (some ad) m c) (hn : news.length = m * size) (hc : ∀ j u, news[j]? = some u → w.cell? (ad.add j) = some u) (h1c : ∀ u ∈ news, u.oneCell' = true)
    (b1 : n + m ≤ maxLen) (b2 : (n + m) * bytes ≤ 140737488355328) (hb : B ≤ w.heap.size)
    (hK : ∀ v' w', w'.ownsRow B e size v' (n + m) (xs ++ news) → w.grownBy w' v.ownBlock → K (a.put o.dst v') w') :
    if Region.wanted o (yielded ops a.tmps) = true then Oper.wp P o a w K Q else E := by
  have hw : Region.wanted o (yielded ops a.tmps) = true := by simp [Region.wanted, hg]
  rw [if_pos hw]
  obtain ⟨v', w', hrun, r1, r2, _⟩ := run_append_own (P := P) w B t o.type e i z size bytes h1 h2 h3 h4 h5 h6 h7 v n xs hown ad m c news hn hc h1c b1 b2 hb
  unfold Oper.wp
  simp [execOp, hop, resolve, invoke, builtin, hs, hx, hrun, Result.andThen]
  exact hK v' w' r1 r2
end Go
namespace Go.Proofs.YtandfjahfbeaiaaGreat
open Go.RowKit Go.Shelf
theorem str_cell' {w : World} {B j : Nat} {L : List ByteArray} {gb c : Nat} (h : w.ownsRow B 9 1 (.slice (some ⟨gb, 0, none⟩) L.length c) L.length (L.map Value.string)) (hj : j < L.length) : w.cell? ⟨gb, j, none⟩ = some (.string L[j]!) := by
  have h1 := h.cellAt j (by omega)
  rw [List.getElem?_map, List.getElem?_eq_getElem hj, ← getElem!_pos L j hj] at h1
  exact h1
theorem own_room {w : World} {B e z n c : Nat} {A : Option Addr} {xs : List Value} (h : w.ownsRow B e z (.slice A n c) n xs) : n ≤ c := by
  rcases h.2 with ⟨hv, h0⟩ | ⟨g, cap, cur, hv, _, _, hn, _⟩
  · injection hv with _ h2 h3; omega
  · injection hv with _ h2 h3; omega
theorem own_blk {w : World} {b B : Nat} {T : TypeId} (h : w.heap[b]? = some (.cells #[] T (0, 0))) (hB : B ≤ b) : w.ownsRow B T 1 (.slice (some ⟨b, 0, none⟩) 0 0) 0 [] :=
  ⟨by simp, .inr ⟨b, 0, #[], rfl, hB, h, by simp, by unfold maxLen; omega, by simp, by simp⟩⟩
theorem less_more {l : List ByteArray} {s : ByteArray} {j : Nat} (h : ∀ i, i < j → l[i]!.toList < s.toList) (hk : Op.bytesLess l[j]!.toList s.toList = true) : ∀ i, i < j + 1 → l[i]!.toList < s.toList := by
  rw [bytesLess_eq, decide_eq_true_eq] at hk
  intro i hi
  by_cases e : i = j
  · rw [e]; exact hk
  · exact h i (by omega)
theorem add_same {l : List ByteArray} {s : ByteArray} {j : Nat} (hj : j < l.length) (h : ∀ i, i < j → l[i]!.toList < s.toList) (hk : Op.bytesLess l[j]!.toList s.toList = false) (hq : (l[j]!.toList == s.toList) = true) : addK l s = l := by
  rw [bytesLess_eq, decide_eq_false_iff_not] at hk
  rw [add_at s l j (by omega) h (fun _ => hk), if_pos ⟨hj, hq⟩]
theorem add_in {l : List ByteArray} {s : ByteArray} {j : Nat} (hj : j < l.length) (h : ∀ i, i < j → l[i]!.toList < s.toList) (hk : Op.bytesLess l[j]!.toList s.toList = false) (hq : (l[j]!.toList == s.toList) = false) : addK l s = l.take j ++ [s] ++ l.drop j := by
  rw [bytesLess_eq, decide_eq_false_iff_not] at hk
  rw [add_at s l j (by omega) h (fun _ => hk), if_neg (fun e => by rw [hq] at e; cases e.2), List.append_assoc]; rfl
theorem add_end {l : List ByteArray} {s : ByteArray} (h : ∀ i, i < l.length → l[i]!.toList < s.toList) : addK l s = l ++ [s] := by
  rw [add_at s l l.length (Nat.le_refl _) h (fun e => absurd e (Nat.lt_irrefl _)), if_neg (fun e => absurd e.1 (Nat.lt_irrefl _)), List.take_length, List.drop_length]
/-- What add answers. -/
def AddOf (w : World) (B : Nat) (l : List ByteArray) (e : Ending) (w' : World) : Prop := ∃ b c, e = .returned (.slice (some ⟨b, 0, none⟩) l.length c) ∧ w'.ownsRow B 9 1 (.slice (some ⟨b, 0, none⟩) l.length c) l.length (l.map Value.string) ∧ Below w.heap.size w w'

/-- A row of the call's own, in a world in which all that was stands as it did. -/
structure ST (w W : World) (v : Value) (n : Nat) (xs : List Value) : Prop where
  own : W.ownsRow w.heap.size 9 1 v n xs
  b : Below w.heap.size w W
theorem ST.alloc {w W : World} {v : Value} {n : Nat} {xs : List Value} (h : ST w W v n xs) (o : Obj) : ST w (W.alloc o) v n xs := ⟨h.own.alloc o, h.b.alloc h.b.size o⟩
theorem step_old {ops : Array Oper} {o : Oper} {a : Act} {w W : World} {K : Act → World → Prop} {Q : Exit → Act → World → Prop} {E : Prop}
    (hg : o.guard = none) (s x : Operand) (hop : o.op = Op.call { callee := Callee.builtin Builtin.append, args := #[s, x], argTypes := #[34, 34] })
    (v : Value) (n : Nat) (xs : List Value) (hs : a.eval s = v) (h : ST w W v n xs)
    (gb of m c : Nat) (ys : List ByteArray) (hx : a.eval x = .slice (some ⟨gb, of, none⟩) m c) (hm : ys.length = m) (hgb : gb < w.heap.size) (hc : ∀ j u, (ys.map Value.string)[j]? = some u → w.cell? ⟨gb, of + j, none⟩ = some u)
    (b2 : (n + m) * 16 ≤ 140737488355328)
    (hK : ∀ v' w', ST w w' v' (n + m) (xs ++ ys.map Value.string) → W.grownBy w' v.ownBlock → K (a.put o.dst v') w') :
    if Region.wanted o (yielded ops a.tmps) = true then Oper.wp Tryz.prog o a W K Q else E := by
  obtain ⟨i0, hi, hz0, hz1, hz2⟩ := info_parts info_st
  refine step_append_own hg s x 34 hop w.heap.size 9 i0 _ 1 16 Tryz.underlying34 hi hz0 hz1 hz2 rfl (by omega) v n xs hs h.own ⟨gb, of, none⟩ m c (ys.map Value.string) hx (by simp [hm]) (fun j u hj => ?_) ?_ (by unfold maxLen; omega) b2 h.b.size ?_
  · rw [Addr.add_lit, h.b.cell (p := ⟨gb, of + j, none⟩) hgb]; exact hc j u hj
  · intro u hu; simp at hu; obtain ⟨s, _, rfl⟩ := hu; rfl
  · intro v' w' h1 h2
    exact hK v' w' ⟨h1, h.b.grown h2 h.b.size (fun k hk => (h.own.lt k hk).1)⟩ h2
theorem step_new {ops : Array Oper} {o : Oper} {a : Act} {w W : World} {K : Act → World → Prop} {Q : Exit → Act → World → Prop} {E : Prop}
    (hg : o.guard = none) (s x : Operand) (hop : o.op = Op.call { callee := Callee.builtin Builtin.append, args := #[s, x], argTypes := #[34, 34] })
    (v : Value) (n : Nat) (xs : List Value) (hs : a.eval s = v) (h : ST w W v n xs)
    (X : Nat) (y : ByteArray) (hx : a.eval x = .slice (some ⟨X, 0, none⟩) 1 1) (hc : W.heap[X]? = some (.cells #[.string y] 9 (0, 0)))
    (b2 : (n + 1) * 16 ≤ 140737488355328)
    (hK : ∀ v' w', ST w w' v' (n + 1) (xs ++ [.string y]) → W.grownBy w' v.ownBlock → K (a.put o.dst v') w') :
    if Region.wanted o (yielded ops a.tmps) = true then Oper.wp Tryz.prog o a W K Q else E := by
  obtain ⟨i0, hi, hz0, hz1, hz2⟩ := info_parts info_st
  refine step_append_own hg s x 34 hop w.heap.size 9 i0 _ 1 16 Tryz.underlying34 hi hz0 hz1 hz2 rfl (by omega) v n xs hs h.own ⟨X, 0, none⟩ 1 1 [.string y] hx rfl (fun j u hj => ?_) ?_ (by unfold maxLen; omega) b2 h.b.size ?_
  · match j, hj with
    | 0, hj => simp at hj; subst hj; exact cell_blk hc rfl
  · intro u hu; simp at hu; subst hu; rfl
  · intro v' w' h1 h2
    exact hK v' w' ⟨h1, h.b.grown h2 h.b.size (fun k hk => (h.own.lt k hk).1)⟩ h2
theorem st_drew {w W : World} {v : Value} {n : Nat} {xs : List Value} (h : ST w W v n xs) : ST w W.drew v n xs := ⟨h.own.drew, below_draws h.b 1⟩
theorem sl_block (b n c : Nat) : (Value.slice (some ⟨b, 0, none⟩) n c).ownBlock = some b := rfl
theorem st_done {w W : World} {B j : Nat} {v : Value} {l L : List ByteArray} {s : ByteArray} (hB : B ≤ w.heap.size) (hj : j ≤ l.length) (hL : L = l.take j ++ [s] ++ l.drop j) (h : ST w W v (0 + j + 1 + (l.length - j)) (([] ++ (l.take j).map Value.string) ++ [.string s] ++ (l.drop j).map Value.string)) : AddOf w B L (.returned v) W := by
  have e1 : L.length = 0 + j + 1 + (l.length - j) := by rw [hL]; simp; omega
  have e2 : L.map Value.string = ([] ++ (l.take j).map Value.string) ++ [.string s] ++ (l.drop j).map Value.string := by rw [hL]; simp
  rw [← e1, ← e2] at h
  rcases h.own.2 with ⟨_, h0⟩ | ⟨g, cap, cur, hv, _⟩
  · omega
  · subst hv
    exact ⟨g, cap, rfl, own_base h.own hB, h.b⟩

theorem st1 (w : World) : ST w ((w.alloc (.cells #[] 9)).drew) (.slice (some ⟨w.heap.size, 0, none⟩) 0 0) 0 [] :=
  st_drew ⟨own_blk (heap_new _ _) (Nat.le_refl _), (Below.refl _ _).alloc (Nat.le_refl _) _⟩
theorem st2 (w : World) (s : ByteArray) : ST w (((w.alloc (.cells #[] 9)).alloc (.cells #[.string s] 9)).drew) (.slice (some ⟨w.heap.size, 0, none⟩) 0 0) 0 [] :=
  st_drew ((⟨own_blk (heap_new _ _) (Nat.le_refl _), (Below.refl _ _).alloc (Nat.le_refl _) _⟩ : ST w (w.alloc (.cells #[] 9)) _ 0 []).alloc _)
theorem st3 (w : World) (s : ByteArray) : ST w (((w.alloc (.cells #[.string s] 9)).alloc (.cells #[] 9)).drew) (.slice (some ⟨w.heap.size + 1, 0, none⟩) 0 0) 0 [] :=
  st_drew ⟨own_blk (by have h := heap_new (w.alloc (.cells #[.string s] 9)) (.cells #[] 9); rw [World.size_alloc] at h; exact h) (Nat.le_succ _), ((Below.refl _ _).alloc (Nat.le_refl _) _).alloc (by rw [World.size_alloc]; omega) _⟩
theorem k2 (w : World) (s : ByteArray) (w1 : World) (h : (((w.alloc (.cells #[] 9)).alloc (.cells #[.string s] 9)).drew).grownBy w1 (some w.heap.size)) : w1.heap[w.heap.size + 1]? = some (.cells #[.string s] 9 (0, 0)) := by
  have h1 := h.block (w.heap.size + 1) (by show _ < ((w.alloc _).alloc _).heap.size; rw [World.size_alloc, World.size_alloc]; omega) (by intro e; injection e with e; omega)
  refine h1.trans ?_
  have h2 := heap_new (w.alloc (.cells #[] 9)) (.cells #[.string s] 9)
  rw [World.size_alloc] at h2; exact h2
theorem k3 (w : World) (s : ByteArray) (w1 : World) (h : (((w.alloc (.cells #[.string s] 9)).alloc (.cells #[] 9)).drew).grownBy w1 (some (w.heap.size + 1))) : w1.heap[w.heap.size]? = some (.cells #[.string s] 9 (0, 0)) := by
  have h1 := h.block w.heap.size (by show _ < ((w.alloc _).alloc _).heap.size; rw [World.size_alloc, World.size_alloc]; omega) (by intro e; injection e with e; omega)
  refine h1.trans ?_
  exact (Below.heap_alloc _ _ _ (by rw [World.size_alloc]; omega)).trans (heap_new _ _)
theorem take_cells {w : World} {B gb c : Nat} {l : List ByteArray} (h : w.ownsRow B 9 1 (.slice (some ⟨gb, 0, none⟩) l.length c) l.length (l.map Value.string)) (k : Nat) (i : Nat) (u : Value) (hi : ((l.take k).map Value.string)[i]? = some u) : w.cell? ⟨gb, 0 + i, none⟩ = some u := by
  have hl := (List.getElem?_eq_some_iff.1 hi).1
  rw [List.length_map, List.length_take] at hl
  rw [Nat.zero_add, str_cell' h (by omega), ← hi, List.getElem?_map, List.getElem?_take_of_lt (by omega), List.getElem?_eq_getElem (by omega), getElem!_pos l i (by omega)]; rfl
theorem drop_cells {w : World} {B gb c : Nat} {l : List ByteArray} (h : w.ownsRow B 9 1 (.slice (some ⟨gb, 0, none⟩) l.length c) l.length (l.map Value.string)) (k : Nat) (i : Nat) (u : Value) (hi : ((l.drop k).map Value.string)[i]? = some u) : w.cell? ⟨gb, k + i, none⟩ = some u := by
  have hl := (List.getElem?_eq_some_iff.1 hi).1
  rw [List.length_map, List.length_drop] at hl
  rw [str_cell' h (by omega), ← hi, List.getElem?_map, List.getElem?_drop, List.getElem?_eq_getElem (by omega), getElem!_pos l (k + i) (by omega)]; rfl

set_option maxRecDepth 100000 in
set_option maxHeartbeats 4000000 in
theorem radd_any (w : World) (B gb : Nat) (c : Nat) (l : List ByteArray) (s : ByteArray) (ho : w.ownsRow B 9 1 (.slice (some ⟨gb, 0, none⟩) l.length c) l.length (l.map Value.string)) (hB : B ≤ w.heap.size) (hl : l.length ≤ 100000) :
    Calls Tryz.prog 25 #[.slice (some ⟨gb, 0, none⟩) l.length c, .string s] w (AddOf w B (addK l s)) := by
  have HO := Lib.hid ho
  have hlc := own_room ho
  have hgb : gb < w.heap.size := by
    rcases ho.2 with ⟨hv, _⟩ | ⟨g, cap, cur, hv, _, hg, _⟩
    · cases hv
    · injection hv with hv; injection hv with hv; injection hv with hv; subst hv
      exact (Array.getElem?_eq_some_iff.1 hg).1
  clear ho
  go_enter Tryz.func25, Tryz.ntmps25
  go_wp2_with fail
  go_loop [5] (fun i => ∃ j : Nat, j ≤ l.length ∧ i = .int .i64 j ∧ Hid (∀ i, i < j → l[i]!.toList < s.toList)) (fun i => l.length - (intOf i).toNat)
  case atStart => exact ⟨0, Nat.zero_le _, rfl, Lib.hid (fun j hj => absurd hj (Nat.not_lt_zero _))⟩
  case round =>
    obtain ⟨j, hj, rfl, HR⟩ := hrel
    have hm0 : (0 : Int) ≤ (j : Int) := Int.natCast_nonneg _
    by_cases hjt : j < l.length
    · have hcell := str_cell' HO.out hjt
      have hm1 : (j : Int) < (l.length : Int) := by omega
      cases hb : Op.bytesLess l[j]!.toList s.toList with
      | true =>
        have HR' := Lib.hid (less_more HR.out hb)
        clear HR
        generalize l[j]! = x at *
        go_wp2_with fail
        go_round
        case rel => exact ⟨j + 1, hjt, by go_num, HR'⟩
        case measure => simp [intOf]; omega
      | false =>
        cases hq : (l[j]!.toList == s.toList) with
        | true =>
          have HA := Lib.hid (add_same hjt HR.out hb hq)
          clear HR
          generalize l[j]! = x at *
          go_wp2_with fail
          go_ret
          refine ⟨gb, c, ?_, by rw [HA.out]; exact HO.out, Below.refl _ _⟩
          rw [HA.out]; rfl
        | false =>
          have HA := Lib.hid (add_in hjt HR.out hb hq)
          clear HR
          generalize l[j]! = x at *
          go_wp2_with fail
          have HT1 : Hid ((l.take j).length = j) := Lib.hid (by rw [List.length_take]; omega)
          have HT2 : Hid ((l.drop j).length = l.length - j) := Lib.hid (by rw [List.length_drop])
          have HC1 : Hid (∀ i u, ((l.take j).map Value.string)[i]? = some u → w.cell? ⟨gb, 0 + i, none⟩ = some u) := Lib.hid (take_cells HO.out j)
          have HC2 : Hid (∀ i u, ((l.drop j).map Value.string)[i]? = some u → w.cell? ⟨gb, j + i, none⟩ = some u) := Lib.hid (drop_cells HO.out j)
          have S1 : Hid (ST w ((w.alloc (.cells #[] 9)).drew) (.slice (some ⟨w.heap.size, 0, none⟩) 0 0) 0 []) := Lib.hid (st1 w)
          have S2 : Hid (ST w (((w.alloc (.cells #[] 9)).alloc (.cells #[.string s] 9)).drew) (.slice (some ⟨w.heap.size, 0, none⟩) 0 0) 0 []) := Lib.hid (st2 w s)
          have S3 : Hid (ST w (((w.alloc (.cells #[.string s] 9)).alloc (.cells #[] 9)).drew) (.slice (some ⟨w.heap.size + 1, 0, none⟩) 0 0) 0 []) := Lib.hid (st3 w s)
          have K2 : Hid (∀ w1, (((w.alloc (.cells #[] 9)).alloc (.cells #[.string s] 9)).drew).grownBy w1 (some w.heap.size) → w1.heap[w.heap.size + 1]? = some (.cells #[.string s] 9 (0, 0))) := Lib.hid (k2 w s)
          have K3 : Hid (∀ w1, (((w.alloc (.cells #[.string s] 9)).alloc (.cells #[] 9)).drew).grownBy w1 (some (w.heap.size + 1)) → w1.heap[w.heap.size]? = some (.cells #[.string s] 9 (0, 0))) := Lib.hid (k3 w s)
          have hcj : ¬ c = j := by omega
          have hjc : j ≤ c := by omega
          go_region_law (first
            | ((first | (refine step_old rfl (.tmp 33) (.tmp 36) rfl (.slice (some ⟨w.heap.size, 0, none⟩) 0 0) 0 [] rfl S1.out gb 0 j c (l.take j) rfl HT1.out hgb HC1.out (by omega) ?_) | (refine step_old rfl (.tmp 33) (.tmp 36) rfl (.slice (some ⟨w.heap.size, 0, none⟩) 0 0) 0 [] rfl S2.out gb 0 j c (l.take j) rfl HT1.out hgb HC1.out (by omega) ?_) | (refine step_old rfl (.tmp 33) (.tmp 36) rfl (.slice (some ⟨w.heap.size + 1, 0, none⟩) 0 0) 0 [] rfl S3.out gb 0 j c (l.take j) rfl HT1.out hgb HC1.out (by omega) ?_)); intro v1 w1 hS1 hg1; have HS1 := Lib.hid hS1; have HG1 := Lib.hid hg1; clear hS1 hg1)
            | ((first | (refine step_new rfl (.tmp 37) (.tmp 39) rfl v1 _ _ rfl (HS1.out.alloc _) w1.heap.size s rfl (heap_new _ _) (by omega) ?_) | (refine step_new rfl (.tmp 37) (.tmp 39) rfl v1 _ _ rfl HS1.out (w.heap.size + 1) s rfl (K2.out _ HG1.out) (by omega) ?_) | (refine step_new rfl (.tmp 37) (.tmp 39) rfl v1 _ _ rfl HS1.out w.heap.size s rfl (K3.out _ HG1.out) (by omega) ?_)); intro v2 w2 hS2 hg2; have HS2 := Lib.hid hS2; clear hS2 hg2)
            | ((refine step_old rfl (.tmp 40) (.tmp 43) rfl v2 _ _ rfl HS2.out gb j (l.length - j) (c - j) (l.drop j) rfl HT2.out hgb HC2.out (by omega) ?_); intro v3 w3 hS3 hg3; have HS3 := Lib.hid hS3; clear hS3 hg3))
          all_goals
            go_wp2_with fail
            go_ret
            exact st_done hB hj HA.out HS3.out
    · obtain rfl : j = l.length := by omega
      have HA : Hid (addK l s = l.take l.length ++ [s] ++ l.drop l.length) := Lib.hid (by rw [List.take_length, List.drop_length, List.append_nil]; exact add_end HR.out)
      clear HR
      go_wp2_with fail
      have HT1 : Hid ((l.take l.length).length = l.length) := Lib.hid (by rw [List.length_take]; omega)
      have HC1 : Hid (∀ i u, ((l.take l.length).map Value.string)[i]? = some u → w.cell? ⟨gb, 0 + i, none⟩ = some u) := Lib.hid (take_cells HO.out l.length)
      have S1 : Hid (ST w ((w.alloc (.cells #[] 9)).drew) (.slice (some ⟨w.heap.size, 0, none⟩) 0 0) 0 []) := Lib.hid (st1 w)
      have S2 : Hid (ST w (((w.alloc (.cells #[] 9)).alloc (.cells #[.string s] 9)).drew) (.slice (some ⟨w.heap.size, 0, none⟩) 0 0) 0 []) := Lib.hid (st2 w s)
      have S3 : Hid (ST w (((w.alloc (.cells #[.string s] 9)).alloc (.cells #[] 9)).drew) (.slice (some ⟨w.heap.size + 1, 0, none⟩) 0 0) 0 []) := Lib.hid (st3 w s)
      have K2 : Hid (∀ w1, (((w.alloc (.cells #[] 9)).alloc (.cells #[.string s] 9)).drew).grownBy w1 (some w.heap.size) → w1.heap[w.heap.size + 1]? = some (.cells #[.string s] 9 (0, 0))) := Lib.hid (k2 w s)
      have K3 : Hid (∀ w1, (((w.alloc (.cells #[.string s] 9)).alloc (.cells #[] 9)).drew).grownBy w1 (some (w.heap.size + 1)) → w1.heap[w.heap.size]? = some (.cells #[.string s] 9 (0, 0))) := Lib.hid (k3 w s)
      have HC0 : ∀ of, Hid (∀ i u, (([] : List ByteArray).map Value.string)[i]? = some u → w.cell? ⟨gb, of + i, none⟩ = some u) := fun of => Lib.hid (fun i u h => by cases h)
      by_cases hcj : c = l.length
      · subst hcj
        go_region_law (first
          | ((first | (refine step_old rfl (.tmp 33) (.tmp 36) rfl (.slice (some ⟨w.heap.size, 0, none⟩) 0 0) 0 [] rfl S1.out gb 0 l.length l.length (l.take l.length) rfl HT1.out hgb HC1.out (by omega) ?_) | (refine step_old rfl (.tmp 33) (.tmp 36) rfl (.slice (some ⟨w.heap.size, 0, none⟩) 0 0) 0 [] rfl S2.out gb 0 l.length l.length (l.take l.length) rfl HT1.out hgb HC1.out (by omega) ?_) | (refine step_old rfl (.tmp 33) (.tmp 36) rfl (.slice (some ⟨w.heap.size + 1, 0, none⟩) 0 0) 0 [] rfl S3.out gb 0 l.length l.length (l.take l.length) rfl HT1.out hgb HC1.out (by omega) ?_)); intro v1 w1 hS1 hg1; have HS1 := Lib.hid hS1; have HG1 := Lib.hid hg1; clear hS1 hg1)
          | ((first | (refine step_new rfl (.tmp 37) (.tmp 39) rfl v1 _ _ rfl (HS1.out.alloc _) w1.heap.size s rfl (heap_new _ _) (by omega) ?_) | (refine step_new rfl (.tmp 37) (.tmp 39) rfl v1 _ _ rfl HS1.out (w.heap.size + 1) s rfl (K2.out _ HG1.out) (by omega) ?_) | (refine step_new rfl (.tmp 37) (.tmp 39) rfl v1 _ _ rfl HS1.out w.heap.size s rfl (K3.out _ HG1.out) (by omega) ?_)); intro v2 w2 hS2 hg2; have HS2 := Lib.hid hS2; clear hS2 hg2)
          | ((refine step_old rfl (.tmp 40) (.tmp 43) rfl v2 _ _ rfl HS2.out gb 0 0 0 [] rfl rfl hgb (HC0 _).out (by omega) ?_); intro v3 w3 hS3 hg3; have HS3 := Lib.hid hS3; clear hS3 hg3))
        all_goals
          go_wp2_with fail
          go_ret
          exact st_done hB (Nat.le_refl _) HA.out (by rw [Nat.sub_self, List.drop_length]; exact HS3.out)
      · have hjc : l.length ≤ c := hlc
        go_region_law (first
          | ((first | (refine step_old rfl (.tmp 33) (.tmp 36) rfl (.slice (some ⟨w.heap.size, 0, none⟩) 0 0) 0 [] rfl S1.out gb 0 l.length c (l.take l.length) rfl HT1.out hgb HC1.out (by omega) ?_) | (refine step_old rfl (.tmp 33) (.tmp 36) rfl (.slice (some ⟨w.heap.size, 0, none⟩) 0 0) 0 [] rfl S2.out gb 0 l.length c (l.take l.length) rfl HT1.out hgb HC1.out (by omega) ?_) | (refine step_old rfl (.tmp 33) (.tmp 36) rfl (.slice (some ⟨w.heap.size + 1, 0, none⟩) 0 0) 0 [] rfl S3.out gb 0 l.length c (l.take l.length) rfl HT1.out hgb HC1.out (by omega) ?_)); intro v1 w1 hS1 hg1; have HS1 := Lib.hid hS1; have HG1 := Lib.hid hg1; clear hS1 hg1)
          | ((first | (refine step_new rfl (.tmp 37) (.tmp 39) rfl v1 _ _ rfl (HS1.out.alloc _) w1.heap.size s rfl (heap_new _ _) (by omega) ?_) | (refine step_new rfl (.tmp 37) (.tmp 39) rfl v1 _ _ rfl HS1.out (w.heap.size + 1) s rfl (K2.out _ HG1.out) (by omega) ?_) | (refine step_new rfl (.tmp 37) (.tmp 39) rfl v1 _ _ rfl HS1.out w.heap.size s rfl (K3.out _ HG1.out) (by omega) ?_)); intro v2 w2 hS2 hg2; have HS2 := Lib.hid hS2; clear hS2 hg2)
          | ((refine step_old rfl (.tmp 40) (.tmp 43) rfl v2 _ _ rfl HS2.out gb l.length 0 (c - l.length) [] rfl rfl hgb (HC0 _).out (by omega) ?_); intro v3 w3 hS3 hg3; have HS3 := Lib.hid hS3; clear hS3 hg3))
        all_goals
          go_wp2_with fail
          go_ret
          exact st_done hB (Nat.le_refl _) HA.out (by rw [Nat.sub_self, List.drop_length]; exact HS3.out)
end Go.Proofs.YtandfjahfbeaiaaGreat
namespace Go.Proofs.YtandfjahfbeaiaaGreat
open Go.RowKit Go.Shelf

theorem rolesA_succ {g : Gr} {k : Nat} (h : k < g.es.length) : addAll [] (rolesE g (k + 1)) = addK (addAll [] (rolesE g k)) g.es[k]!.role := by rw [rolesE_succ h, addAll_snoc]
theorem rolesA_len {g : Gr} {k : Nat} (h : k ≤ g.es.length) : (addAll [] (rolesE g k)).length ≤ k := by
  have := addAll_len (rolesE g k) []
  rw [rolesE_len h] at this; simpa using this
/-- The roles ahead of a user's j-th. -/
def rolesJ (g : Gr) (k j : Nat) : List ByteArray := addAll [] (rolesU g k ++ g.us[k]!.roles.take j)
theorem rolesJ_0 (g : Gr) (k : Nat) : rolesJ g k 0 = addAll [] (rolesU g k) := by rw [rolesJ, List.take_zero, List.append_nil]
theorem rolesJ_succ {g : Gr} {k j : Nat} (h : j < g.us[k]!.roles.length) : rolesJ g k (j + 1) = addK (rolesJ g k j) g.us[k]!.roles[j]! := by
  rw [rolesJ, rolesJ, List.take_succ_eq_append_getElem h, ← List.append_assoc, addAll_snoc, getElem!_pos _ j h]
theorem rolesJ_all {g : Gr} {k : Nat} (h : k < g.us.length) : rolesJ g k g.us[k]!.roles.length = addAll [] (rolesU g (k + 1)) := by rw [rolesJ, List.take_length, rolesU_succ h]
theorem rolesJ_len {g : Gr} (hF : FewG g) {k j : Nat} (h : k ≤ g.us.length) : (rolesJ g k j).length ≤ 80 + k * 8 + j := by
  have h1 := addAll_len (rolesU g k ++ g.us[k]!.roles.take j) []
  have h2 := rolesU_len hF h
  have h3 : (g.us[k]!.roles.take j).length ≤ j := List.length_take_le _ _
  rw [List.length_append] at h1
  rw [rolesJ]; simp only [List.length_nil] at h1; omega
/-- A row of texts that stands at an address. -/
structure TX (w : World) (g : Gr) (W : World) (v : Value) (l : List ByteArray) : Prop where
  x : GX w g W
  sl : ∃ b c, v = .slice (some ⟨b, 0, none⟩) l.length c
  o : W.ownsRow (w.heap.size + 1) 9 1 v l.length (l.map Value.string)
theorem TX.more {w W W' : World} {g : Gr} {v v' : Value} {l l' : List ByteArray} (h : TX w g W v l) (hv : ∃ b c, v' = .slice (some ⟨b, 0, none⟩) l'.length c) (ho : W'.ownsRow (w.heap.size + 1) 9 1 v' l'.length (l'.map Value.string)) (hb : Below W.heap.size W W') : TX w g W' v' l' := ⟨gx_more h.x hb, hv, ho⟩

set_option maxRecDepth 100000 in
set_option maxHeartbeats 8000000 in
theorem rroles_any (w : World) (g : Gr) (hI : InG w g) (hz : SzG g) :
    Calls Tryz.prog 14 #[.agg #[.slice g.ga g.gs.length g.gc, .slice g.ea g.es.length g.ec, .slice g.ra g.rs.length g.rc, .slice g.ua g.us.length g.uc]] w (StrsOf (rolesL g) w) := by
  have HI := Lib.hid hI
  have z2 := hz.es
  have z4 := hz.us
  have HZ := Lib.hid hz
  have hs0 := box_size w g
  have C := Lib.hid (rright_any ((boxW w g).alloc (.cells #[] 9)) g (hI.below (Nat.le_refl _) ((box_below w g).alloc (by omega) _)) hz)
  have X0 := Lib.hid (gx_alloc (gx_start w g) (.cells #[] 9))
  have V0 : Hid (((boxW w g).alloc (.cells #[] 9)).ownsRow (w.heap.size + 1) 9 1 (.slice (some ⟨w.heap.size + 1, 0, none⟩) 0 0) 0 []) := Lib.hid (by
    have h := own_emp (boxW w g) 9 1 (B := w.heap.size + 1) (by omega)
    rw [hs0] at h; exact h)
  have HS0 := Lib.hid hs0
  clear hI hz hs0
  cases hm : mayL g with
  | false =>
    have HL : Hid (rolesL g = []) := Lib.hid (by rw [rolesL, hm]; rfl)
    rw [hm] at C
    clear hm
    go_enter Tryz.func14, Tryz.ntmps14
    go_wp2_with fail
    refine C.out.mono ?_
    rintro e w1 ⟨rfl, hb1⟩
    have HX1 := Lib.hid (gx_more X0.out hb1)
    have HV1 := Lib.hid (own_base (own_below V0.out hb1) (Nat.le_succ _))
    go_wp2_with fail
    go_ret
    exact ⟨_, rfl, by rw [HL.out]; exact HV1.out, gx_old HX1.out⟩
  | true =>
    have HL : Hid (rolesL g = addAll [] (rolesU g g.us.length)) := Lib.hid (by rw [rolesU_all]; exact (roles_add hm).symm)
    have HF := Lib.hid (may_few hm)
    have f2 := HF.out.es
    have f4 := HF.out.us
    rw [hm] at C
    clear hm
    go_enter Tryz.func14, Tryz.ntmps14
    go_wp2_with fail
    refine C.out.mono ?_
    rintro e w1 ⟨rfl, hb1⟩
    have T1 : Hid (TX w g w1 (.slice (some ⟨w.heap.size + 1, 0, none⟩) 0 0) []) := Lib.hid ⟨gx_more X0.out hb1, ⟨_, _, rfl⟩, own_below V0.out hb1⟩
    obtain ⟨a0, a1, a2, a3⟩ := box_cells T1.out.x
    clear hb1 C X0 V0
    go_wp2_with fail
    clear a0 a1 a2 a3
    go_loopw [3, 4] (fun v i wr => ∃ k : Nat, k ≤ g.es.length ∧ i = .int .i64 k ∧ Hid (TX w g wr v (addAll [] (rolesE g k)))) (fun _ i _ => g.es.length - (intOf i).toNat)
    case atStart => exact ⟨0, Nat.zero_le _, rfl, T1⟩
    case round =>
      clear T1
      obtain ⟨k, hk, rfl, HT⟩ := hrel
      obtain ⟨a0, a1, a2, a3⟩ := box_cells HT.out.x
      obtain ⟨vb, vc, rfl⟩ := HT.out.sl
      have hgs := gx_size HT.out.x
      by_cases hlt : k < g.es.length
      · obtain ⟨b, off, hA, hb, hc⟩ := HI.out.es.at_ (k := 6) (fun _ => rfl) (by omega) hlt
        have k2 := hc 2 _ rfl
        rw [← (gx_old HT.out.x).cell (p := ⟨b, _, none⟩) hb] at k2
        rw [hA] at a1
        have hk0 : (0 : Int) ≤ (k : Int) := Int.natCast_nonneg _
        have hk1 : (k : Int) < (g.es.length : Int) := by omega
        have hal := rolesA_len hk
        have C := Lib.hid (radd_any wr (w.heap.size + 1) vb vc (addAll [] (rolesE g k)) g.es[k]!.role HT.out.o hgs (by omega))
        rw [← rolesA_succ hlt] at C
        clear hc hA
        generalize g.es[k]! = p at *
        go_wp2_with fail
        refine C.out.mono ?_
        rintro e w2 ⟨nb, nc, rfl, ho2, hb2⟩
        have HT2 := Lib.hid (HT.out.more ⟨_, _, rfl⟩ ho2 hb2)
        clear ho2 hb2 C HT a0 a1 a2 a3 k2
        go_wp2_with fail
        go_roundw
        case rel => exact ⟨k + 1, hlt, by go_num, HT2⟩
        case measure => simp [intOf]; omega
      · obtain rfl : k = g.es.length := by omega
        rw [rolesE_all] at HT ⊢
        clear hk hlt
        go_wp2_with fail
        clear a0 a1 a2 a3
        go_loopw [3, 5] (fun v i wr => ∃ k : Nat, k ≤ g.us.length ∧ i = .int .i64 k ∧ Hid (TX w g wr v (addAll [] (rolesU g k)))) (fun _ i _ => g.us.length - (intOf i).toNat)
        case atStart => exact ⟨0, Nat.zero_le _, rfl, HT⟩
        case round =>
          clear HT
          obtain ⟨k, hk, rfl, HT⟩ := hrel
          obtain ⟨a0, a1, a2, a3⟩ := box_cells HT.out.x
          by_cases hlt : k < g.us.length
          · obtain ⟨b, off, hA, hb, hc⟩ := HI.out.us.at_ (k := 3) (fun _ => rfl) (by omega) hlt
            have k1 := hc 1 _ rfl
            have HK1 := Lib.hid k1
            have hk0 : (0 : Int) ≤ (k : Int) := Int.natCast_nonneg _
            have hk1 : (k : Int) < (g.us.length : Int) := by omega
            have HA := Lib.hid hA
            have HRo := Lib.hid (HI.out.roles _ (mem_at hlt))
            have hrl := HF.out.ro _ (mem_at hlt)
            have HJ0 := Lib.hid (rolesJ_0 g k)
            have HJA := Lib.hid (rolesJ_all hlt)
            have HJS : Hid (∀ j, j < g.us[k]!.roles.length → rolesJ g k (j + 1) = addK (rolesJ g k j) g.us[k]!.roles[j]!) := Lib.hid (fun j h => rolesJ_succ h)
            have hgs := gx_size HT.out.x
            clear hc hA k1
            generalize g.us[k]! = p at *
            go_wp2_with fail
            obtain ⟨wo, rfl⟩ : ∃ wo : World, wo = wr := ⟨_, rfl⟩
            clear a0 a1 a2 a3
            go_loopw [3, 6] (fun v j wx => ∃ j' : Nat, j' ≤ p.roles.length ∧ j = .int .i64 j' ∧ Hid (TX w g wx v (rolesJ g k j'))) (fun _ j _ => p.roles.length - (intOf j).toNat)
            case atStart => exact ⟨0, Nat.zero_le _, rfl, Lib.hid (by rw [HJ0.out]; exact HT.out)⟩
            case round =>
              clear HT hgs
              obtain ⟨j, hj, rfl, HT⟩ := hrel
              obtain ⟨a0, a1, a2, a3⟩ := box_cells HT.out.x
              obtain ⟨vb, vc, rfl⟩ := HT.out.sl
              have hgs := gx_size HT.out.x
              have k1 := HK1.out
              rw [← (gx_old HT.out.x).cell (p := ⟨b, _, none⟩) hb] at k1
              rw [HA.out] at a3
              have hj0 : (0 : Int) ≤ (j : Int) := Int.natCast_nonneg _
              by_cases hjt : j < p.roles.length
              · obtain ⟨rb, roff, hAr, hrb, hcr⟩ := HRo.out.str_at (i := j) hjt
                rw [hAr] at k1
                rw [← (gx_old HT.out.x).cell (p := ⟨rb, _, none⟩) hrb] at hcr
                have hj1 : (j : Int) < (p.roles.length : Int) := by omega
                have hal := rolesJ_len HF.out (j := j) hk
                have C := Lib.hid (radd_any wr (w.heap.size + 1) vb vc (rolesJ g k j) p.roles[j]! HT.out.o hgs (by omega))
                rw [← HJS.out j hjt] at C
                clear hAr
                generalize p.roles[j]! = s at *
                go_wp2_with fail
                refine C.out.mono ?_
                rintro e w2 ⟨nb, nc, rfl, ho2, hb2⟩
                have HT2 := Lib.hid (HT.out.more ⟨_, _, rfl⟩ ho2 hb2)
                clear ho2 hb2 C HT a0 a1 a2 a3 k1 hcr
                go_wp2_with fail
                go_roundw
                case rel => exact ⟨j + 1, hjt, by go_num, HT2⟩
                case measure => simp [intOf]; omega
              · obtain rfl : j = p.roles.length := by omega
                go_wp2_with fail
                go_roundw
                case rel => exact ⟨k + 1, hlt, by go_num, Lib.hid (by rw [← HJA.out]; exact HT.out)⟩
                case measure => simp [intOf]; omega
          · obtain rfl : k = g.us.length := by omega
            go_wp2_with fail
            go_ret
            obtain ⟨vb, vc, hv⟩ := HT.out.sl
            exact ⟨_, rfl, by rw [HL.out]; exact own_base HT.out.o (Nat.le_succ _), gx_old HT.out.x⟩
end Go.Proofs.YtandfjahfbeaiaaGreat
