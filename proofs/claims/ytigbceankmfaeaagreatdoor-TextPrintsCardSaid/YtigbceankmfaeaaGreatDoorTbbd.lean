/-
  The graph of several statements, as it grows: contracts of partOf and of the adding of a statement's graph.
-/
import Derived.Test.YtigbceankmfaeaaGreatDoorTbbc
import Derived.Laws.AppendOwnNone
namespace Go.Proofs.YtigbceankmfaeaaGreatDoor.P3.C
open Go.RowKit Go.Shelf Go.Proofs.YtigbceankmfaeaaGreatDoor.B Go.Proofs.YtigbceankmfaeaaGreatDoor.Lx Go.Proofs.YtigbceankmfaeaaGreatDoor.P3
theorem own_types {W : World} {B B' e e' z z' n n' : Nat} {v v' : Value} {xs xs' : List Value} (h : W.ownsRow B e z v n xs) (h' : W.ownsRow B' e' z' v' n' xs') (hne : e ≠ e') {q : Nat} (hq : v.ownBlock = some q) : v'.ownBlock ≠ some q := by
  intro hq'
  rcases h.2 with ⟨rfl, _⟩ | ⟨g, cap, cur, rfl, _, hg, _⟩
  · cases hq
  · rcases h'.2 with ⟨rfl, _⟩ | ⟨g', cap', cur', rfl, _, hg', _⟩
    · cases hq'
    · simp only [Value.ownBlock, Option.some.injEq] at hq hq'
      subst hq hq'
      rw [hg] at hg'
      simp only [Option.some.injEq, Obj.cells.injEq] at hg'
      exact hne hg'.2.1
theorem kept_ne {W W1 : World} {B e z n : Nat} {v vj : Value} {xs : List Value} (h : W.ownsRow B e z v n xs) (hg : W.grownBy W1 vj.ownBlock) (hne : ∀ q, v.ownBlock = some q → vj.ownBlock ≠ some q) : W1.ownsRow B e z v n xs := by
  cases hv : v.ownBlock with
  | none => exact h.kept hg (.inl hv)
  | some q => exact h.kept hg (.inr (fun e => hne q hv (by rw [← e, hv])))
/-- A row beside one that has grown, where that is stored in a box. -/
theorem kp {W W1 : World} {B e ej z zj n nj bw : Nat} {v vj : Value} {xs xj cs : List Value} {T : TypeId} (hr : W.ownsRow B e z v n xs) (hj : W.ownsRow B ej zj vj nj xj) (hne : e ≠ ej) (hg : W.grownBy W1 vj.ownBlock) (hf : W1.heap[bw]? = some (.cells cs.toArray T (0, 0))) (hw : e ≠ T) (i : Nat) (u : Value) :
    (W1.setCell ⟨bw, i, none⟩ u).ownsRow B e z v n xs :=
  have hr1 := kept_ne hr hg (fun _ hq => own_types hr hj hne hq)
  own_set hr1 (own_far hr1 hf hw) u
/-- The graph of several statements, and where they begin. -/
structure WH (wB : World) (bw : Nat) (v0 v1 v2 v3 : Value) (G : List Gp) (E : List Ev) (R : List Rl) (U : List Us) (s : Nat → Value) (bl : Nat → List Int) (W : World) : Prop where
  f : W.heap[bw]? = some (.cells #[v0, v1, v2, v3, s 0, s 1, s 2, s 3, s 4] 71 (0, 0))
  o0 : W.ownsRow wB.heap.size 43 2 v0 G.length (G.flatMap gpC)
  o1 : W.ownsRow wB.heap.size 46 6 v1 E.length (E.flatMap evC)
  o2 : W.ownsRow wB.heap.size 48 4 v2 R.length (R.flatMap rlC)
  o3 : W.ownsRow wB.heap.size 51 3 v3 U.length (U.flatMap usC)
  ro : ∀ u ∈ U, W.ownsRow wB.heap.size 9 1 (.slice u.ra u.roles.length u.rc) u.roles.length (u.roles.map Value.string)
  st : ∀ p, p < 5 → W.ownsRow wB.heap.size 3 1 (s p) (bl p).length ((bl p).map (Value.int .i64))
  dis : ∀ p q, p < 5 → q < 5 → p ≠ q → ∀ k, (s p).ownBlock = some k → (s q).ownBlock ≠ some k
  l : Below wB.heap.size wB W
  hb : wB.heap.size ≤ bw
section
variable {wB W W1 : World} {bw : Nat} {v0 v1 v2 v3 : Value} {G : List Gp} {E : List Ev} {R : List Rl} {U : List Us} {s : Nat → Value} {bl : Nat → List Int}
theorem WH.lt (h : WH wB bw v0 v1 v2 v3 G E R U s bl W) : bw < W.heap.size := blk_lt h.f
theorem WH.call (h : WH wB bw v0 v1 v2 v3 G E R U s bl W) (hb : Below W.heap.size W W1) : WH wB bw v0 v1 v2 v3 G E R U s bl W1 :=
  ⟨(hb.block _ h.lt).trans h.f, Go.Proofs.YtigbceankmfaeaaGreatDoor.B.own_below h.o0 hb, Go.Proofs.YtigbceankmfaeaaGreatDoor.B.own_below h.o1 hb, Go.Proofs.YtigbceankmfaeaaGreatDoor.B.own_below h.o2 hb, Go.Proofs.YtigbceankmfaeaaGreatDoor.B.own_below h.o3 hb, fun u hu => Go.Proofs.YtigbceankmfaeaaGreatDoor.B.own_below (h.ro u hu) hb, fun p hp => Go.Proofs.YtigbceankmfaeaaGreatDoor.B.own_below (h.st p hp) hb, h.dis, h.l.trans (hb.mono h.l.size), h.hb⟩
theorem WH.cells (h : WH wB bw v0 v1 v2 v3 G E R U s bl W) : (W.cell? ⟨bw, 0, none⟩ = some v0 ∧ W.cell? ⟨bw, 1, none⟩ = some v1 ∧ W.cell? ⟨bw, 2, none⟩ = some v2 ∧ W.cell? ⟨bw, 3, none⟩ = some v3) ∧ (W.cell? ⟨bw, 4, none⟩ = some (s 0) ∧ W.cell? ⟨bw, 5, none⟩ = some (s 1) ∧ W.cell? ⟨bw, 6, none⟩ = some (s 2) ∧ W.cell? ⟨bw, 7, none⟩ = some (s 3) ∧ W.cell? ⟨bw, 8, none⟩ = some (s 4)) :=
  ⟨⟨cell_blk h.f rfl, cell_blk h.f rfl, cell_blk h.f rfl, cell_blk h.f rfl⟩, cell_blk h.f rfl, cell_blk h.f rfl, cell_blk h.f rfl, cell_blk h.f rfl, cell_blk h.f rfl⟩
theorem WH.fz (h : WH wB bw v0 v1 v2 v3 G E R U s bl W) (i : Nat) : W.frozen? ⟨bw, i, none⟩ = false := frozen_blk h.f
theorem WH.mid0 (h : WH wB bw v0 v1 v2 v3 G E R U s bl W) (hg : W.grownBy W1 v0.ownBlock) : W1.heap[bw]? = some (.cells #[v0, v1, v2, v3, s 0, s 1, s 2, s 3, s 4] 71 (0, 0)) :=
  (hg.block _ h.lt (fun e => own_far h.o0 h.f (by decide) e.symm)).trans h.f
theorem WH.put0 (h : WH wB bw v0 v1 v2 v3 G E R U s bl W) {v' : Value} {N : List Gp} (ho : W1.ownsRow wB.heap.size 43 2 v' (G.length + N.length) (G.flatMap gpC ++ N.flatMap gpC)) (hg : W.grownBy W1 v0.ownBlock) :
    WH wB bw v' v1 v2 v3 (G ++ N) E R U s bl (W1.setCell ⟨bw, 0, none⟩ v') := by
  have hf := h.mid0 hg
  exact ⟨by rw [blk_set hf]; simp, by rw [List.length_append, List.flatMap_append]; exact own_set ho (own_far ho hf (by decide)) v', kp h.o1 h.o0 (by decide) hg hf (by decide) 0 v', kp h.o2 h.o0 (by decide) hg hf (by decide) 0 v', kp h.o3 h.o0 (by decide) hg hf (by decide) 0 v', fun u hu => kp (h.ro u hu) h.o0 (by decide) hg hf (by decide) 0 v', fun p hp => kp (h.st p hp) h.o0 (by decide) hg hf (by decide) 0 v', h.dis, (h.l.grown hg h.l.size (fun q hq => (h.o0.lt q hq).1)).setCell (p := ⟨bw, 0, none⟩) h.hb v', h.hb⟩
theorem WH.mid1 (h : WH wB bw v0 v1 v2 v3 G E R U s bl W) (hg : W.grownBy W1 v1.ownBlock) : W1.heap[bw]? = some (.cells #[v0, v1, v2, v3, s 0, s 1, s 2, s 3, s 4] 71 (0, 0)) :=
  (hg.block _ h.lt (fun e => own_far h.o1 h.f (by decide) e.symm)).trans h.f
theorem WH.put1 (h : WH wB bw v0 v1 v2 v3 G E R U s bl W) {v' : Value} {N : List Ev} (ho : W1.ownsRow wB.heap.size 46 6 v' (E.length + N.length) (E.flatMap evC ++ N.flatMap evC)) (hg : W.grownBy W1 v1.ownBlock) :
    WH wB bw v0 v' v2 v3 G (E ++ N) R U s bl (W1.setCell ⟨bw, 1, none⟩ v') := by
  have hf := h.mid1 hg
  exact ⟨by rw [blk_set hf]; simp, kp h.o0 h.o1 (by decide) hg hf (by decide) 1 v', by rw [List.length_append, List.flatMap_append]; exact own_set ho (own_far ho hf (by decide)) v', kp h.o2 h.o1 (by decide) hg hf (by decide) 1 v', kp h.o3 h.o1 (by decide) hg hf (by decide) 1 v', fun u hu => kp (h.ro u hu) h.o1 (by decide) hg hf (by decide) 1 v', fun p hp => kp (h.st p hp) h.o1 (by decide) hg hf (by decide) 1 v', h.dis, (h.l.grown hg h.l.size (fun q hq => (h.o1.lt q hq).1)).setCell (p := ⟨bw, 1, none⟩) h.hb v', h.hb⟩
theorem WH.mid2 (h : WH wB bw v0 v1 v2 v3 G E R U s bl W) (hg : W.grownBy W1 v2.ownBlock) : W1.heap[bw]? = some (.cells #[v0, v1, v2, v3, s 0, s 1, s 2, s 3, s 4] 71 (0, 0)) :=
  (hg.block _ h.lt (fun e => own_far h.o2 h.f (by decide) e.symm)).trans h.f
theorem WH.put2 (h : WH wB bw v0 v1 v2 v3 G E R U s bl W) {v' : Value} {N : List Rl} (ho : W1.ownsRow wB.heap.size 48 4 v' (R.length + N.length) (R.flatMap rlC ++ N.flatMap rlC)) (hg : W.grownBy W1 v2.ownBlock) :
    WH wB bw v0 v1 v' v3 G E (R ++ N) U s bl (W1.setCell ⟨bw, 2, none⟩ v') := by
  have hf := h.mid2 hg
  exact ⟨by rw [blk_set hf]; simp, kp h.o0 h.o2 (by decide) hg hf (by decide) 2 v', kp h.o1 h.o2 (by decide) hg hf (by decide) 2 v', by rw [List.length_append, List.flatMap_append]; exact own_set ho (own_far ho hf (by decide)) v', kp h.o3 h.o2 (by decide) hg hf (by decide) 2 v', fun u hu => kp (h.ro u hu) h.o2 (by decide) hg hf (by decide) 2 v', fun p hp => kp (h.st p hp) h.o2 (by decide) hg hf (by decide) 2 v', h.dis, (h.l.grown hg h.l.size (fun q hq => (h.o2.lt q hq).1)).setCell (p := ⟨bw, 2, none⟩) h.hb v', h.hb⟩
theorem WH.mid3 (h : WH wB bw v0 v1 v2 v3 G E R U s bl W) (hg : W.grownBy W1 v3.ownBlock) : W1.heap[bw]? = some (.cells #[v0, v1, v2, v3, s 0, s 1, s 2, s 3, s 4] 71 (0, 0)) :=
  (hg.block _ h.lt (fun e => own_far h.o3 h.f (by decide) e.symm)).trans h.f
theorem WH.put3 (h : WH wB bw v0 v1 v2 v3 G E R U s bl W) {v' : Value} {N : List Us} (ho : W1.ownsRow wB.heap.size 51 3 v' (U.length + N.length) (U.flatMap usC ++ N.flatMap usC)) (hg : W.grownBy W1 v3.ownBlock) (hn : ∀ u ∈ N, W.ownsRow wB.heap.size 9 1 (.slice u.ra u.roles.length u.rc) u.roles.length (u.roles.map Value.string)) :
    WH wB bw v0 v1 v2 v' G E R (U ++ N) s bl (W1.setCell ⟨bw, 3, none⟩ v') := by
  have hf := h.mid3 hg
  exact ⟨by rw [blk_set hf]; simp, kp h.o0 h.o3 (by decide) hg hf (by decide) 3 v', kp h.o1 h.o3 (by decide) hg hf (by decide) 3 v', kp h.o2 h.o3 (by decide) hg hf (by decide) 3 v', by rw [List.length_append, List.flatMap_append]; exact own_set ho (own_far ho hf (by decide)) v', fun u hu => by
    rcases List.mem_append.1 hu with hu | hu
    · exact kp (h.ro u hu) h.o3 (by decide) hg hf (by decide) 3 v'
    · exact kp (hn u hu) h.o3 (by decide) hg hf (by decide) 3 v', fun p hp => kp (h.st p hp) h.o3 (by decide) hg hf (by decide) 3 v', h.dis, (h.l.grown hg h.l.size (fun q hq => (h.o3.lt q hq).1)).setCell (p := ⟨bw, 3, none⟩) h.hb v', h.hb⟩
/-- A beginning is put behind those of its part. -/
theorem WH.midS (h : WH wB bw v0 v1 v2 v3 G E R U s bl W) {p : Nat} (hp : p < 5) (hg : W.grownBy W1 (s p).ownBlock) : W1.heap[bw]? = some (.cells #[v0, v1, v2, v3, s 0, s 1, s 2, s 3, s 4] 71 (0, 0)) :=
  (hg.block _ h.lt (fun e => own_far (h.st p hp) h.f (by decide) e.symm)).trans h.f
theorem WH.putS (h : WH wB bw v0 v1 v2 v3 G E R U s bl W) {p : Nat} (hp : p < 5) {v' : Value} {x : Int} (ho : W1.ownsRow wB.heap.size 3 1 v' ((bl p).length + 1) ((bl p).map (Value.int .i64) ++ [.int .i64 x])) (hg : W.grownBy W1 (s p).ownBlock) (hat : v'.ownBlock = (s p).ownBlock ∨ ∃ q, v'.ownBlock = some q ∧ W.heap.size ≤ q) :
    WH wB bw v0 v1 v2 v3 G E R U (fun i => if i = p then v' else s i) (fun i => if i = p then bl i ++ [x] else bl i) (W1.setCell ⟨bw, 4 + p, none⟩ v') := by
  have hf := h.midS hp hg
  have hsp := h.st p hp
  refine ⟨?_, kp h.o0 hsp (by decide) hg hf (by decide) _ v', kp h.o1 hsp (by decide) hg hf (by decide) _ v', kp h.o2 hsp (by decide) hg hf (by decide) _ v', kp h.o3 hsp (by decide) hg hf (by decide) _ v', fun u hu => kp (h.ro u hu) hsp (by decide) hg hf (by decide) _ v', fun q hq => ?_, fun q r hq hr hqr k hk => ?_, (h.l.grown hg h.l.size (fun q hq => (hsp.lt q hq).1)).setCell (p := ⟨bw, 4 + p, none⟩) h.hb v', h.hb⟩
  · rw [blk_set hf]
    obtain rfl | rfl | rfl | rfl | rfl : p = 0 ∨ p = 1 ∨ p = 2 ∨ p = 3 ∨ p = 4 := by omega
    all_goals simp
  · by_cases e : q = p
    · subst e
      simp only [if_true]
      rw [List.length_append, List.length_singleton, List.map_append]
      exact own_set ho (own_far ho hf (by decide)) v'
    · simp only [if_neg e]
      have h1 := kept_ne (h.st q hq) hg (fun k hk => h.dis q p hq hp e k hk)
      exact own_set h1 (own_far h1 hf (by decide)) v'
  · by_cases e1 : q = p
    · subst e1
      simp only [if_true] at hk
      rw [if_neg (fun e => hqr e.symm)]
      rcases hat with h' | ⟨k', h', hk'⟩
      · exact h.dis q r hq hr hqr k (h'.symm.trans hk)
      · intro e
        rw [hk] at h'; injection h' with h'
        have := ((h.st r hr).lt k e).2; omega
    · simp only [if_neg e1] at hk
      by_cases e2 : r = p
      · subst e2
        simp only [if_true]
        rcases hat with h' | ⟨k', h', hk'⟩
        · rw [h']; exact h.dis q r hq hr hqr k hk
        · intro e
          rw [e] at h'; injection h' with h'
          have := ((h.st q hq).lt k hk).2; omega
      · simp only [if_neg e2]
        exact h.dis q r hq hr hqr k hk
end
set_option maxHeartbeats 1000000 in
theorem partOf_any (w : World) (a0 a1 a2 a3 : Option Addr) (n0 n1 n2 n3 c0 c1 c2 c3 : Nat) (k : Nat) (hk : k = if 0 < n0 then 1 else if 0 < n1 then 2 else if 0 < n2 then 3 else 4) :
    Calls Tryz.prog 56 #[.agg #[.slice a0 n0 c0, .slice a1 n1 c1, .slice a2 n2 c2, .slice a3 n3 c3]] w fun e w' => e = .returned (.int .i64 (k : Int)) ∧ Below w.heap.size w w' := by
  have hb : Below w.heap.size w (w.alloc (.cells #[.slice a0 n0 c0, .slice a1 n1 c1, .slice a2 n2 c2, .slice a3 n3 c3] 27)) := (Below.refl _ _).alloc (Nat.le_refl _) _
  by_cases h0 : 0 < n0
  · rw [if_pos h0] at hk
    subst hk
    have q : (n0 : Int) > 0 := by omega
    clear h0
    go_enter Tryz.func56, Tryz.ntmps56
    go_wp2_with fail
    go_ret
    exact ⟨rfl, hb⟩
  · rw [if_neg h0] at hk
    have q0 : ¬ (n0 : Int) > 0 := by omega
    clear h0
    by_cases h1 : 0 < n1
    · rw [if_pos h1] at hk
      subst hk
      have q : (n1 : Int) > 0 := by omega
      clear h1
      go_enter Tryz.func56, Tryz.ntmps56
      go_wp2_with fail
      go_ret
      exact ⟨rfl, hb⟩
    · rw [if_neg h1] at hk
      have q1 : ¬ (n1 : Int) > 0 := by omega
      clear h1
      by_cases h2 : 0 < n2
      · rw [if_pos h2] at hk
        subst hk
        have q : (n2 : Int) > 0 := by omega
        clear h2
        go_enter Tryz.func56, Tryz.ntmps56
        go_wp2_with fail
        go_ret
        exact ⟨rfl, hb⟩
      · rw [if_neg h2] at hk
        subst hk
        have q2 : ¬ (n2 : Int) > 0 := by omega
        clear h2
        go_enter Tryz.func56, Tryz.ntmps56
        go_wp2_with fail
        go_ret
        exact ⟨rfl, hb⟩
end Go.Proofs.YtigbceankmfaeaaGreatDoor.P3.C
