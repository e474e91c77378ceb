/-
  Contract of the document's own add: a tie comes into a list, or makes one that is there stricter. What the document's Make gathers, plainly: the same as Make's; the frames of its walk.
-/
import Derived.Test.YtplplkchibefjaaFlBk
import Derived.Test.YtplplkchibefjaaF4p
namespace Go.Proofs.Ytplplkchibefjaa.P4
open Go.RowKit Go.Shelf

def addL (l : List Ti) (t : Ti) : List Ti := if hasT_ l t then l.set (atT l t) (strT l[atT l t]! t) else l ++ [t]
theorem add_hit {l : List Ti} {t : Ti} {k : Nat} (hk : k < l.length) (h : tkey l[k]! = tkey t) (hn : ∀ j, j < k → tkey l[j]! ≠ tkey t) : addL l t = l.set k (strT l[k]! t) := by
  have hidx : (l.map tkey).idxOf (tkey t) = k := by
    rw [List.idxOf, List.findIdx_eq (by rw [List.length_map]; exact hk)]
    refine ⟨?_, fun j hj => ?_⟩
    · rw [List.getElem_map, ← getElem!_pos l k hk, beq_iff_eq]; exact h
    · rw [List.getElem_map, ← getElem!_pos l j (by omega), beq_eq_false_iff_ne]; exact hn j hj
  have hh : hasT_ l t = true := by
    unfold hasT_
    rw [List.contains_iff_mem, ← h, getElem!_pos l k hk]
    exact List.mem_map_of_mem (List.getElem_mem _)
  unfold addL
  rw [if_pos hh]
  unfold atT
  rw [hidx]
theorem add_miss {l : List Ti} {t : Ti} (hn : ∀ j, j < l.length → tkey l[j]! ≠ tkey t) : addL l t = l ++ [t] := by
  unfold addL
  rw [if_neg]
  intro hh
  have hlt := atT_lt hh
  exact hn _ hlt (atT_key hh)
theorem add_len (l : List Ti) (t : Ti) : (addL l t).length ≤ l.length + 1 ∧ l.length ≤ (addL l t).length := by
  unfold addL; split <;> simp
theorem str_keep {a t : Ti} (h : strI t.kind a.time t.time = a.time) : strT a t = a := by
  unfold strT; rw [h]
theorem set_keep {l : List Ti} {k : Nat} {y : Ti} (hk : k < l.length) (h : y = l[k]!) : l.set k y = l := by
  rw [h, getElem!_pos l k hk, List.set_getElem_self]
theorem rti_at {W : World} {B m cap g k : Nat} {cs : List Ti} (h : W.ownsRow B 101 4 (.slice (some ⟨g, 0, none⟩) m cap) m (cs.flatMap tiC)) (hl : cs.length = m) (hk : k < m) :
    (W.cell? ⟨g, k * 4, none⟩ = some (.int .i64 cs[k]!.kind) ∧ W.cell? ⟨g, k * 4 + 1, none⟩ = some (.int .i64 cs[k]!.fr) ∧ W.cell? ⟨g, k * 4 + 2, none⟩ = some (.int .i64 cs[k]!.to) ∧ W.cell? ⟨g, k * 4 + 3, none⟩ = some (.int .i64 cs[k]!.time)) ∧ W.frozen? ⟨g, k * 4 + 3, none⟩ = false := by
  have hf := fun j hj => flat_at tiC 4 (fun _ => rfl) cs k (by omega) j hj
  exact ⟨⟨(h.cellAt (k * 4) (by omega)).trans (hf 0 (by omega)), (h.cellAt (k * 4 + 1) (by omega)).trans (hf 1 (by omega)), (h.cellAt (k * 4 + 2) (by omega)).trans (hf 2 (by omega)), (h.cellAt (k * 4 + 3) (by omega)).trans (hf 3 (by omega))⟩, h.frozenAt _⟩
theorem ti_set3 (l : List Ti) (k : Nat) (hk : k < l.length) (i : Int) : (l.flatMap tiC).set (k * 4 + 3) (.int .i64 i) = (l.set k { l[k]! with time := i }).flatMap tiC :=
  B.flat_set tiC 4 (fun _ => rfl) l k hk 3 (by omega) _ _ (fun x hx => by rw [← B.get_some hx]; rfl)
theorem grown_of {w W : World} (h : Below w.heap.size w W) (r : Option Nat) : w.grownBy W r := ⟨h.os, h.tape, h.output, h.size, fun k hk _ => h.block k hk⟩
theorem grown_trans {w W W' : World} {r : Option Nat} (h : w.grownBy W r) (h' : W.grownBy W' r) : w.grownBy W' r :=
  ⟨h'.os.trans h.os, h'.tape.trans h.tape, h'.output.trans h.output, Nat.le_trans h.size h'.size, fun k hk hr => (h'.block k (Nat.lt_of_lt_of_le hk h.size) hr).trans (h.block k hk hr)⟩
/-- What stands as it did while add looks: the list, the tie's box. -/
structure AD (w : World) (B n cap : Nat) (A : Option Addr) (l : List Ti) (t : Ti) (W : World) : Prop where
  b : Below w.heap.size w W
  o : W.ownsRow B 101 4 (.slice A n cap) n (l.flatMap tiC)
  f : W.heap[w.heap.size]? = some (.cells #[.int .i64 t.kind, .int .i64 t.fr, .int .i64 t.to, .int .i64 t.time] 101 (0, 0))
section
variable {w W : World} {B n cap : Nat} {A : Option Addr} {l : List Ti} {t : Ti}
theorem AD.drews (h : AD w B n cap A l t W) (m : Nat) : AD w B n cap A l t (W.drewN m) := ⟨⟨h.b.os, h.b.tape, h.b.output, h.b.size, h.b.block⟩, own_below h.o ⟨rfl, rfl, rfl, Nat.le_refl _, fun _ _ => rfl⟩, h.f⟩
theorem AD.cells (h : AD w B n cap A l t W) : W.cell? ⟨w.heap.size, 0, none⟩ = some (.int .i64 t.kind) ∧ W.cell? ⟨w.heap.size, 1, none⟩ = some (.int .i64 t.fr) ∧ W.cell? ⟨w.heap.size, 2, none⟩ = some (.int .i64 t.to) ∧ W.cell? ⟨w.heap.size, 3, none⟩ = some (.int .i64 t.time) ∧ w.heap.size < W.heap.size :=
  ⟨cell_blk h.f rfl, cell_blk h.f rfl, cell_blk h.f rfl, cell_blk h.f rfl, (Array.getElem?_eq_some_iff.1 h.f).1⟩
end
/-- What add answers. -/
def AddOf (w : World) (B : Nat) (v : Value) (l : List Ti) (e : Ending) (w' : World) : Prop := ∃ v', e = .returned v' ∧ w'.ownsRow B 101 4 v' l.length (l.flatMap tiC) ∧ w.grownBy w' v.ownBlock
set_option maxRecDepth 100000 in
set_option maxHeartbeats 8000000 in
theorem radd_any (w : World) (B : Nat) (v : Value) (l : List Ti) (t : Ti) (ho : w.ownsRow B 101 4 v l.length (l.flatMap tiC)) (hB : B ≤ w.heap.size) (hl : l.length ≤ 1000000) :
    Calls Try.prog 53 #[v, .agg #[.int .i64 t.kind, .int .i64 t.fr, .int .i64 t.to, .int .i64 t.time]] w (AddOf w B v (addL l t)) := by
  obtain ⟨A, cap, rfl⟩ := own_slice ho
  obtain ⟨i0, hi, hz0, hz1, hz2⟩ := info_parts F4.info_rti4
  have HI := Lib.hid hi
  have HZ0 := Lib.hid hz0
  have HZ1 := Lib.hid hz1
  have HZ2 := Lib.hid hz2
  have A0 : Hid (AD w B l.length cap A l t (w.alloc (.cells #[.int .i64 t.kind, .int .i64 t.fr, .int .i64 t.to, .int .i64 t.time] 101))) := Lib.hid ⟨(Below.refl _ _).alloc (Nat.le_refl _) _, ho.alloc _, heap_alloc_new _ _⟩
  clear ho hi hz0 hz1 hz2
  go_enter Try.func53, Try.ntmps53
  go_wp2_with fail
  go_loopw [5] (fun i wr => ∃ k : Nat, k ≤ l.length ∧ i = .int .i64 k ∧ Hid (∀ j, j < k → tkey l[j]! ≠ tkey t) ∧ Hid (AD w B l.length cap A l t wr)) (fun i _ => l.length - (intOf i).toNat)
  case atStart => exact ⟨0, Nat.zero_le _, rfl, Lib.hid (fun j hj => absurd hj (Nat.not_lt_zero _)), A0⟩
  case round =>
    clear A0
    obtain ⟨k, hk, rfl, HP, HA⟩ := hrel
    obtain ⟨c0, c1, c2, c3, ll⟩ := HA.out.cells
    by_cases hlt : k < l.length
    · have hk0 : (0 : Int) ≤ (k : Int) := Int.natCast_nonneg _
      have hk1 : (k : Int) < (l.length : Int) := by omega
      obtain ⟨g, _, e1, _, hgz⟩ := Go.Proofs.Ytplplkchibefjaa.B.own_head HA.out.o (by omega)
      injection e1 with e1 _ e1c
      subst e1 e1c
      obtain ⟨⟨k0, k1, k2, k3⟩, fz⟩ := rti_at HA.out.o rfl hlt
      have HN : Hid (tkey l[k]! ≠ tkey t → ∀ j, j < k + 1 → tkey l[j]! ≠ tkey t) := Lib.hid (fun h j hj => by
        rcases Nat.lt_or_ge j k with h1 | h1
        · exact HP.out j h1
        · obtain rfl : j = k := by omega
          exact h)
      have HH := fun h => Lib.hid (add_hit hlt h HP.out)
      have HK := fun y h => Lib.hid (set_keep (y := y) hlt h)
      have HS := fun i => Lib.hid (ti_set3 l k hlt i)
      clear HP
      generalize l[k]! = x at *
      obtain ⟨xk, xf, xt, xm⟩ := x
      simp only at k0 k1 k2 k3
      by_cases h1 : xk = t.kind
      · have t1 : (xk == t.kind) = true := beq_iff_eq.2 h1
        by_cases h2 : xf = t.fr
        · have t2 : (xf == t.fr) = true := beq_iff_eq.2 h2
          by_cases h3 : xt = t.to
          · have t3 : (xt == t.to) = true := beq_iff_eq.2 h3
            have E := (HH (by unfold tkey; simp [h1, h2, h3])).out
            have HE := Lib.hid E
            clear E HH HN h1 h2 h3
            by_cases q1 : t.kind = 1
            · have u1 : (t.kind == 1) = true := beq_iff_eq.2 q1
              by_cases q2 : xm < t.time
              · have u2 : decide (xm < t.time) = true := decide_eq_true q2
                have hs : strI t.kind xm t.time = t.time := by unfold strI; rw [if_pos q1]; omega
                clear q1 q2
                go_wp2_with fail
                go_quiet (fail)
                go_wp2_with fail
                go_quiet (fail)
                go_wp2_with fail
                go_ret
                have key : ∀ n, AddOf w B (.slice (some ⟨g, 0, none⟩) l.length cap) (addL l t) (.returned (.slice (some ⟨g, 0, none⟩) l.length cap)) ((wr.drewN n).setCell ⟨g, k * 4 + 3, none⟩ (.int .i64 t.time)) := fun n => by
                  have h9 := (HA.out.drews n).o.stored (k * 4 + 3) (.int .i64 t.time)
                  rw [(HS _).out] at h9
                  refine ⟨_, rfl, ?_, grown_trans (grown_of (HA.out.drews n).b _) h9.2⟩
                  rw [HE.out, show strT ⟨xk, xf, xt, xm⟩ t = ⟨xk, xf, xt, t.time⟩ from by unfold strT; rw [hs], List.length_set]
                  exact h9.1
                exact key _
              · have u2 : decide (xm < t.time) = false := decide_eq_false q2
                have u3 : (t.kind == 2) = false := by rw [beq_eq_false_iff_ne]; omega
                have hs : strI t.kind xm t.time = xm := by unfold strI; rw [if_pos q1]; omega
                clear q1 q2
                go_wp2_with fail
                go_quiet (fail)
                go_wp2_with fail
                go_quiet (fail)
                go_wp2_with fail
                go_ret
                have key : ∀ n m, AddOf w B (.slice (some ⟨g, 0, none⟩) l.length cap) (addL l t) (.returned (.slice (some ⟨g, 0, none⟩) l.length cap)) ((wr.drewN n).drewN m) := fun n m => by
                  refine ⟨_, rfl, ?_, grown_of ((HA.out.drews n).drews m).b _⟩
                  rw [HE.out, show strT ⟨xk, xf, xt, xm⟩ t = ⟨xk, xf, xt, xm⟩ from by unfold strT; rw [hs], (HK _ rfl).out]
                  exact ((HA.out.drews n).drews m).o
                exact key _ _
            · have u1 : (t.kind == 1) = false := beq_eq_false_iff_ne.2 q1
              by_cases q3 : t.kind = 2
              · have u3 : (t.kind == 2) = true := beq_iff_eq.2 q3
                by_cases q2 : t.time < xm
                · have u2 : decide (t.time < xm) = true := decide_eq_true q2
                  have hs : strI t.kind xm t.time = t.time := by unfold strI; rw [if_neg q1, if_pos q3]; omega
                  clear q1 q2 q3
                  go_wp2_with fail
                  go_quiet (fail)
                  go_wp2_with fail
                  go_quiet (fail)
                  go_wp2_with fail
                  go_ret
                  have key : ∀ n, AddOf w B (.slice (some ⟨g, 0, none⟩) l.length cap) (addL l t) (.returned (.slice (some ⟨g, 0, none⟩) l.length cap)) ((wr.drewN n).setCell ⟨g, k * 4 + 3, none⟩ (.int .i64 t.time)) := fun n => by
                    have h9 := (HA.out.drews n).o.stored (k * 4 + 3) (.int .i64 t.time)
                    rw [(HS _).out] at h9
                    refine ⟨_, rfl, ?_, grown_trans (grown_of (HA.out.drews n).b _) h9.2⟩
                    rw [HE.out, show strT ⟨xk, xf, xt, xm⟩ t = ⟨xk, xf, xt, t.time⟩ from by unfold strT; rw [hs], List.length_set]
                    exact h9.1
                  exact key _
                · have u2 : decide (t.time < xm) = false := decide_eq_false q2
                  have hs : strI t.kind xm t.time = xm := by unfold strI; rw [if_neg q1, if_pos q3]; omega
                  clear q1 q2 q3
                  go_wp2_with fail
                  go_quiet (fail)
                  go_wp2_with fail
                  go_quiet (fail)
                  go_wp2_with fail
                  go_ret
                  have key : ∀ n m, AddOf w B (.slice (some ⟨g, 0, none⟩) l.length cap) (addL l t) (.returned (.slice (some ⟨g, 0, none⟩) l.length cap)) ((wr.drewN n).drewN m) := fun n m => by
                    refine ⟨_, rfl, ?_, grown_of ((HA.out.drews n).drews m).b _⟩
                    rw [HE.out, show strT ⟨xk, xf, xt, xm⟩ t = ⟨xk, xf, xt, xm⟩ from by unfold strT; rw [hs], (HK _ rfl).out]
                    exact ((HA.out.drews n).drews m).o
                  exact key _ _
              · have u3 : (t.kind == 2) = false := beq_eq_false_iff_ne.2 q3
                have hs : strI t.kind xm t.time = xm := by unfold strI; rw [if_neg q1, if_neg q3]
                clear q1 q3
                go_wp2_with fail
                go_quiet (fail)
                go_wp2_with fail
                go_quiet (fail)
                go_wp2_with fail
                go_ret
                have key : ∀ n m, AddOf w B (.slice (some ⟨g, 0, none⟩) l.length cap) (addL l t) (.returned (.slice (some ⟨g, 0, none⟩) l.length cap)) ((wr.drewN n).drewN m) := fun n m => by
                  refine ⟨_, rfl, ?_, grown_of ((HA.out.drews n).drews m).b _⟩
                  rw [HE.out, show strT ⟨xk, xf, xt, xm⟩ t = ⟨xk, xf, xt, xm⟩ from by unfold strT; rw [hs], (HK _ rfl).out]
                  exact ((HA.out.drews n).drews m).o
                exact key _ _
          · have t3 : (xt == t.to) = false := beq_eq_false_iff_ne.2 h3
            have HN2 := Lib.hid (HN.out (by unfold tkey; simp [h3]))
            clear HN HH HK HS h1 h2 h3
            go_wp2_with fail
            go_quiet (fail)
            go_wp2_with fail
            go_roundw
            case rel => exact ⟨k + 1, hlt, by go_num, HN2, Lib.hid (HA.out.drews _)⟩
            case measure => simp [intOf]; omega
        · have t2 : (xf == t.fr) = false := beq_eq_false_iff_ne.2 h2
          have HN2 := Lib.hid (HN.out (by unfold tkey; simp [h2]))
          clear HN HH HK HS h1 h2
          go_wp2_with fail
          go_quiet (fail)
          go_wp2_with fail
          go_roundw
          case rel => exact ⟨k + 1, hlt, by go_num, HN2, Lib.hid (HA.out.drews _)⟩
          case measure => simp [intOf]; omega
      · have t1 : (xk == t.kind) = false := beq_eq_false_iff_ne.2 h1
        have HN2 := Lib.hid (HN.out (by unfold tkey; simp [h1]))
        clear HN HH HK HS h1
        go_wp2_with fail
        go_quiet (fail)
        go_wp2_with fail
        go_roundw
        case rel => exact ⟨k + 1, hlt, by go_num, HN2, Lib.hid (HA.out.drews _)⟩
        case measure => simp [intOf]; omega
    · obtain rfl : k = l.length := by omega
      have E := Lib.hid (add_miss HP.out)
      clear HP
      have HA2 := Lib.hid (own_below HA.out.o ((Below.refl _ _).alloc (Nat.le_refl _) (.cells #[.int .i64 t.kind, .int .i64 t.fr, .int .i64 t.to, .int .i64 t.time] 101)))
      have HN3 := Lib.hid (heap_alloc_new wr (.cells #[.int .i64 t.kind, .int .i64 t.fr, .int .i64 t.to, .int .i64 t.time] 101))
      have hBw := HA.out.b.size
      go_wp2_with (at_builtin; refine wpList_append_own _ rfl (.tmp 75) (.tmp 77) 36 rfl B 101 i0 _ 4 32 Try.underlying36 HI.out HZ0.out HZ1.out HZ2.out rfl (by omega) _ _ _ rfl HA2.out ⟨wr.heap.size, 0, none⟩ 1 1 (tiC t) rfl rfl ?c1 ?c2 ?c3 ?c4 ?c5 ?_)
      case c1 =>
        intro j u hj
        match j, hj with
        | 0, hj => cases hj; exact cell_blk HN3.out rfl
        | 1, hj => cases hj; exact cell_blk HN3.out rfl
        | 2, hj => cases hj; exact cell_blk HN3.out rfl
        | 3, hj => cases hj; exact cell_blk HN3.out rfl
      case c2 => exact F4.one_ti4 _
      case c3 => unfold maxLen; omega
      case c4 => omega
      case c5 => rw [World.size_alloc]; omega
      intro v' w4 hown' hgrow _
      have HO4 : Hid (w4.ownsRow B 101 4 v' (addL l t).length ((addL l t).flatMap tiC)) := Lib.hid (by
        rw [E.out, List.length_append, List.flatMap_append]
        have e8 : List.flatMap tiC [t] = tiC t := by simp
        rw [e8]; exact hown')
      have HG4 := Lib.hid (grown_trans (grown_of HA.out.b (Value.slice A l.length cap).ownBlock) (grown_trans (grown_of ((Below.refl wr.heap.size wr).alloc (Nat.le_refl _) (.cells #[.int .i64 t.kind, .int .i64 t.fr, .int .i64 t.to, .int .i64 t.time] 101)) _) hgrow))
      clear hown' hgrow HA2 HN3 E
      go_wp2_with fail
      go_ret
      exact ⟨_, rfl, HO4.out, HG4.out⟩
end Go.Proofs.Ytplplkchibefjaa.P4
namespace Go.Proofs.Ytplplkchibefjaa.P4
open Go.RowKit Go.Shelf

def addF (l xs : List Ti) : List Ti := xs.foldl addL l
theorem addF_app (l xs ys : List Ti) : addF l (xs ++ ys) = addF (addF l xs) ys := List.foldl_append
theorem addF_snoc (l xs : List Ti) (t : Ti) : addF l (xs ++ [t]) = addL (addF l xs) t := by rw [addF_app]; rfl
theorem addF_len : ∀ (xs l : List Ti), (addF l xs).length ≤ l.length + xs.length ∧ l.length ≤ (addF l xs).length
  | [], l => ⟨by simp [addF], by simp [addF]⟩
  | t :: r, l => by
    have h1 := addF_len r (addL l t)
    have h2 := add_len l t
    rw [List.length_cons, show addF l (t :: r) = addF (addL l t) r from rfl]
    omega
theorem fold_cases : ∀ (xs l : List Ti), l.length ≤ 8000 → (foldT l xs = some (addF l xs) ∧ (addF l xs).length ≤ 8000) ∨ (foldT l xs = none ∧ 8000 < (addF l xs).length)
  | [], l, h => .inl ⟨rfl, h⟩
  | t :: r, l, h => by
    rw [show addF l (t :: r) = addF (addL l t) r from rfl, foldT]
    unfold stepT addL
    by_cases hh : hasT_ l t = true
    · rw [if_pos hh, if_pos hh]
      exact fold_cases r _ (by rw [List.length_set]; exact h)
    · rw [if_neg hh, if_neg hh]
      by_cases h8 : l.length = 8000
      · right
        rw [if_pos h8]
        refine ⟨rfl, ?_⟩
        have := (addF_len r (l ++ [t])).2
        rw [List.length_append, List.length_singleton] at this
        omega
      · rw [if_neg h8]
        exact fold_cases r (l ++ [t]) (by rw [List.length_append, List.length_singleton]; omega)
/-- What both answer. -/
def endT (g : Gr) : List Ti := if mayL g then (if (addF [] (toldL g g.rs.length)).length ≤ 8000 then addF [] (toldL g g.rs.length) else []) else []
def endE (g : Gr) : List Ev := if mayL g then (if (addF [] (toldL g g.rs.length)).length ≤ 8000 then g.es else []) else []
def endC (g : Gr) : Int := if mayL g then (if (addF [] (toldL g g.rs.length)).length ≤ 8000 then 0 else 4) else ((checkL g).2.2 : Nat)
def FEnd (w : World) (E : List Ev) (T : List Ti) (c : Int) (e : Ending) (w' : World) : Prop :=
  ∃ (A : Option Addr) (ca : Nat) (B : Option Addr) (cb : Nat), e = .returned (.tuple #[.agg #[.slice A E.length ca, .slice B T.length cb], .int .i64 c]) ∧ Row w' A (E.flatMap evC) ∧ Row w' B (T.flatMap tiC) ∧ Below w.heap.size w w'
theorem end_no {g : Gr} (h : mayL g = false) : endE g = [] ∧ endT g = [] ∧ endC g = ((checkL g).2.2 : Nat) := by
  unfold endE endT endC; rw [h]; exact ⟨rfl, rfl, rfl⟩
theorem end_many {g : Gr} (h : mayL g = true) (h8 : 8000 < (addF [] (toldL g g.rs.length)).length) : endE g = [] ∧ endT g = [] ∧ endC g = 4 := by
  unfold endE endT endC; rw [h, if_pos rfl, if_pos rfl, if_pos rfl, if_neg (by omega), if_neg (by omega), if_neg (by omega)]; exact ⟨rfl, rfl, rfl⟩
theorem end_ok {g : Gr} (h : mayL g = true) (h8 : (addF [] (toldL g g.rs.length)).length ≤ 8000) : endE g = g.es ∧ endT g = addF [] (toldL g g.rs.length) ∧ endC g = 0 := by
  unfold endE endT endC; rw [h, if_pos rfl, if_pos rfl, if_pos rfl, if_pos h8, if_pos h8, if_pos h8]; exact ⟨rfl, rfl, rfl⟩
theorem fend_nil {w w' : World} {g : Gr} {c : Int} {e : Ending} (hE : endE g = []) (hT : endT g = []) (hC : endC g = c) (he : e = .returned (.tuple #[.agg #[.slice none 0 0, .slice none 0 0], .int .i64 c])) (hb : Below w.heap.size w w') : FEnd w (endE g) (endT g) (endC g) e w' := by
  rw [hE, hT, hC]
  exact ⟨none, 0, none, 0, he, fun h => absurd rfl h, fun h => absurd rfl h, hb⟩
theorem make_fend {w w' : World} {g : Gr} {e : Ending} (h : MkEnd w g e w') : FEnd w (endE g) (endT g) (endC g) e w' := by
  cases hm : mayL g with
  | false =>
    obtain ⟨e1, e2, e3⟩ := end_no hm
    exact fend_nil e1 e2 e3 (h.no hm) h.b
  | true =>
    rcases fold_cases (toldL g g.rs.length) [] (by decide) with ⟨h1, h2⟩ | ⟨h1, h2⟩
    · obtain ⟨_, _, v1, v2, he, o1, o2⟩ := h.ok hm _ h1
      obtain ⟨A, ca, rfl⟩ := own_slice o1
      obtain ⟨B, cb, rfl⟩ := own_slice o2
      obtain ⟨e1, e2, e3⟩ := end_ok hm h2
      rw [e1, e2, e3]
      exact ⟨A, ca, B, cb, he, Row.of_own o1, Row.of_own o2, h.b⟩
    · obtain ⟨e1, e2, e3⟩ := end_many hm h2
      exact fend_nil e1 e2 e3 (h.many hm h1) h.b

/-! ### in parts -/
def srcL (g : Gr) (k : Nat) : List Nat := memL g g.rs[k]!.src
def dstL (g : Gr) (k : Nat) : List Nat := memL g g.rs[k]!.dst
def T1 (g : Gr) (k : Nat) : List Ti := addF [] (toldL g k)
def T2 (g : Gr) (k a : Nat) : List Ti := addF (T1 g k) ((prs ((srcL g k).take a) (dstL g k)).map fun x => ⟨g.rs[k]!.kind, (x.1 : Nat), (x.2 : Nat), g.rs[k]!.time⟩)
def T3 (g : Gr) (k a b : Nat) : List Ti := addF (T2 g k a) (((dstL g k).take b).map fun j => ⟨g.rs[k]!.kind, ((srcL g k)[a]! : Nat), (j : Nat), g.rs[k]!.time⟩)
theorem T1_zero (g : Gr) : T1 g 0 = [] := rfl
theorem T2_zero (g : Gr) (k : Nat) : T2 g k 0 = T1 g k := rfl
theorem T3_zero (g : Gr) (k a : Nat) : T3 g k a 0 = T2 g k a := rfl
theorem T2_all {g : Gr} {k : Nat} (h : k < g.rs.length) : T2 g k (srcL g k).length = T1 g (k + 1) := by
  unfold T2 T1
  rw [List.take_length, toldL_succ h, addF_app]; rfl
theorem T3_all {g : Gr} {k a : Nat} (h : a < (srcL g k).length) : T3 g k a (dstL g k).length = T2 g k (a + 1) := by
  unfold T3 T2
  rw [List.take_length, prs_succ h, List.map_append, addF_app, List.map_map]; rfl
theorem T3_next {g : Gr} {k a b : Nat} (h : b < (dstL g k).length) : T3 g k a (b + 1) = addL (T3 g k a b) ⟨g.rs[k]!.kind, ((srcL g k)[a]! : Nat), ((dstL g k)[b]! : Nat), g.rs[k]!.time⟩ := by
  unfold T3
  rw [List.take_succ_eq_append_getElem h, List.map_append, List.map_singleton, addF_snoc, getElem!_pos (dstL g k) b h]
theorem prs_len {a b : List Nat} : (prs a b).length = a.length * b.length := by
  unfold prs
  induction a with
  | nil => simp
  | cons x r ih => rw [List.flatMap_cons, List.length_append, List.length_map, ih, List.length_cons, Nat.succ_mul]; omega
theorem flat_le {α β : Type} {f : α → List β} {m : Nat} : ∀ (l : List α), (∀ x ∈ l, (f x).length ≤ m) → (l.flatMap f).length ≤ l.length * m
  | [], _ => by simp
  | x :: r, h => by
    have h1 := h x (List.mem_cons_self ..)
    have h2 := flat_le r (fun y hy => h y (List.mem_cons_of_mem _ hy))
    rw [List.flatMap_cons, List.length_append, List.length_cons, Nat.succ_mul]; omega
theorem T3_len {g : Gr} (he : g.es.length ≤ 30) (hr : g.rs.length ≤ 60) (k a b : Nat) : (T3 g k a b).length ≤ 100000 := by
  have hm : ∀ s, (memL g s).length ≤ 31 := fun s => by have := memL_len g s; omega
  have h1 : (toldL g k).length ≤ (g.rs.take k).length * 961 := flat_le _ (fun r _ => by
    unfold told1
    rw [List.length_map, prs_len]
    exact Nat.mul_le_mul (hm _) (hm _))
  have h2 : (g.rs.take k).length ≤ 60 := by rw [List.length_take]; omega
  have h3 := (addF_len (toldL g k) []).1
  have h4 := (addF_len ((prs ((srcL g k).take a) (dstL g k)).map fun x => (⟨g.rs[k]!.kind, (x.1 : Nat), (x.2 : Nat), g.rs[k]!.time⟩ : Ti)) (T1 g k)).1
  have h5 := (addF_len (((dstL g k).take b).map fun j => (⟨g.rs[k]!.kind, ((srcL g k)[a]! : Nat), (j : Nat), g.rs[k]!.time⟩ : Ti)) (T2 g k a)).1
  have h6 : (prs ((srcL g k).take a) (dstL g k)).length ≤ 31 * 31 := by
    rw [prs_len]
    refine Nat.mul_le_mul ?_ (hm _)
    rw [List.length_take]
    have := hm g.rs[k]!.src
    unfold srcL; omega
  have h7 : ((dstL g k).take b).length ≤ 31 := by
    rw [List.length_take]
    have := hm g.rs[k]!.dst
    unfold dstL; omega
  rw [List.length_map] at h4 h5
  rw [List.length_nil] at h3
  have h8 : (g.rs.take k).length * 961 ≤ 60 * 961 := Nat.mul_le_mul_right _ h2
  unfold T1 at h4
  unfold T3
  unfold T2 at h5
  unfold T1 at h5
  unfold T2 T1
  omega
end Go.Proofs.Ytplplkchibefjaa.P4
