/-
  Contract of flat.Make of a graph that may be.
-/
import Derived.Test.YtplplkchibefjaaFlG
namespace Go.Proofs.Ytplplkchibefjaa
open Go.RowKit Go.Shelf
attribute [local go_sem] Oper.semAt_some

/-- The world in which Make begins to gather. -/
def stW (w1 : World) (g : Gr) (q1 q2 : Int) : World :=
  ((((w1.alloc (.cells #[.int .i64 q1, .int .i64 q2] 91)).alloc (.cells #[.slice none 0 0] 30)).alloc (.map #[] 0)).alloc (.cells #[.map (some (w1.heap.size + 1 + 1))] 47)).alloc (.cells #[.slice g.ga g.gs.length g.gc, .slice g.ea g.es.length g.ec, .slice g.ra g.rs.length g.rc, .slice g.ua g.us.length g.uc] 27)
theorem stW_size (w1 : World) (g : Gr) (q1 q2 : Int) : (stW w1 g q1 q2).heap.size = w1.heap.size + 5 := by simp [stW]
theorem stW_below (w1 : World) (g : Gr) (q1 q2 : Int) : Below w1.heap.size w1 (stW w1 g q1 q2) :=
  (((((Below.refl _ w1).alloc (Nat.le_refl _) _).alloc (by rw [World.size_alloc]; omega) _).alloc (by rw [World.size_alloc, World.size_alloc]; omega) _).alloc (by rw [World.size_alloc, World.size_alloc, World.size_alloc]; omega) _).alloc (by rw [World.size_alloc, World.size_alloc, World.size_alloc, World.size_alloc]; omega) _
theorem st_start {w w1 : World} {g : Gr} {q1 q2 : Int} (hb : Below (mkW w g).heap.size (mkW w g) w1) :
    MM w g w1.heap.size [] (stW w1 g q1 q2) ∧ (stW w1 g q1 q2).heap[w1.heap.size + 1 + 1 + 1 + 1]? = some (.cells #[.slice g.ga g.gs.length g.gc, .slice g.ea g.es.length g.ec, .slice g.ra g.rs.length g.rc, .slice g.ua g.us.length g.uc] 27 (0, 0)) ∧ Below w.heap.size w (stW w1 g q1 q2) := by
  have hs := mkW_size w g
  have hz := hb.size
  have hk := mkW_below w g
  have h1 := stW_below w1 g q1 q2
  have hB : Below w.heap.size w (stW w1 g q1 q2) := (hk.trans (hb.mono hk.size)).trans (h1.mono (by omega))
  obtain ⟨X1, hX1⟩ : ∃ X, X = w1.alloc (.cells #[.int .i64 q1, .int .i64 q2] 91) := ⟨_, rfl⟩
  obtain ⟨X2, hX2⟩ : ∃ X, X = X1.alloc (.cells #[.slice none 0 0] 30) := ⟨_, rfl⟩
  obtain ⟨X3, hX3⟩ : ∃ X, X = X2.alloc (.map #[] 0) := ⟨_, rfl⟩
  obtain ⟨X4, hX4⟩ : ∃ X, X = X3.alloc (.cells #[.map (some (w1.heap.size + 1 + 1))] 47) := ⟨_, rfl⟩
  obtain ⟨X5, hX5⟩ : ∃ X, X = X4.alloc (.cells #[.slice g.ga g.gs.length g.gc, .slice g.ea g.es.length g.ec, .slice g.ra g.rs.length g.rc, .slice g.ua g.us.length g.uc] 27) := ⟨_, rfl⟩
  have s1 : X1.heap.size = w1.heap.size + 1 := by rw [hX1, World.size_alloc]
  have s2 : X2.heap.size = w1.heap.size + 1 + 1 := by rw [hX2, World.size_alloc, s1]
  have s3 : X3.heap.size = w1.heap.size + 1 + 1 + 1 := by rw [hX3, World.size_alloc, s2]
  have s4 : X4.heap.size = w1.heap.size + 1 + 1 + 1 + 1 := by rw [hX4, World.size_alloc, s3]
  have e5 : stW w1 g q1 q2 = X5 := by rw [hX5, hX4, hX3, hX2, hX1]; rfl
  have s5 : X5.heap.size = w1.heap.size + 5 := by rw [← e5]; exact stW_size _ _ _ _
  rw [e5] at h1 hB ⊢
  have k54 : ∀ k, k < w1.heap.size + 1 + 1 + 1 + 1 → X5.heap[k]? = X4.heap[k]? := fun k hk => by rw [hX5]; exact Below.heap_alloc _ _ _ (by omega)
  have k43 : ∀ k, k < w1.heap.size + 1 + 1 + 1 → X4.heap[k]? = X3.heap[k]? := fun k hk => by rw [hX4]; exact Below.heap_alloc _ _ _ (by omega)
  have k32 : ∀ k, k < w1.heap.size + 1 + 1 → X3.heap[k]? = X2.heap[k]? := fun k hk => by rw [hX3]; exact Below.heap_alloc _ _ _ (by omega)
  have n5 : X5.heap[w1.heap.size + 1 + 1 + 1 + 1]? = some (.cells #[.slice g.ga g.gs.length g.gc, .slice g.ea g.es.length g.ec, .slice g.ra g.rs.length g.rc, .slice g.ua g.us.length g.uc] 27 (0, 0)) := by rw [hX5, ← s4]; exact heap_new _ _
  have n4 : X4.heap[w1.heap.size + 1 + 1 + 1]? = some (.cells #[.map (some (w1.heap.size + 1 + 1))] 47 (0, 0)) := by rw [hX4, ← s3]; exact heap_new _ _
  have n2 : X2.heap[w1.heap.size + 1]? = some (.cells #[.slice none 0 0] 30 (0, 0)) := by rw [hX2, ← s1]; exact heap_new _ _
  have m3 : MapFn X3 Try.prog 49 3 (w1.heap.size + 1 + 1) 0 (fun _ => none) := by rw [hX3, ← s2]; exact MapFn.made _ _ _ _
  have gb : w1.heap[w.heap.size]? = some (.cells #[.slice g.ga g.gs.length g.gc, .slice g.ea g.es.length g.ec, .slice g.ra g.rs.length g.rc, .slice g.ua g.us.length g.uc] 27 (0, 0)) := by
    refine (hb.block _ (by omega)).trans ?_
    exact (Below.heap_alloc _ _ _ (by rw [World.size_alloc, box_size]; omega)).trans ((Below.heap_alloc _ _ _ (by rw [box_size]; omega)).trans (heap_new _ _))
  have r1 := (hb.block (w.heap.size + 1) (by omega)).trans (mkW_r1 w g)
  have r2 := (hb.block (w.heap.size + 1 + 1) (by omega)).trans (mkW_r2 w g)
  refine ⟨⟨⟨hB, by omega, (k54 _ (by omega)).trans n4, (h1.block _ (by omega)).trans gb, (h1.block _ (by omega)).trans r1, (h1.block _ (by omega)).trans r2⟩, Nat.zero_le _, (fun t h => by cases h), ?_, .slice none 0 0, (k54 _ (by omega)).trans ((k43 _ (by omega)).trans ((k32 _ (by omega)).trans n2)), World.ownsRow_nil _ _ _ _⟩, n5, hB⟩
  have : (firstOf (([] : List Ti).map fun t => tlit (tkey t))) = fun _ => none := by funext l; rfl
  rw [this]
  exact m3.block ((k54 _ (by omega)).trans (k43 _ (by omega)))
theorem keepO_of {W : World} {p : Addr} {v : Value} (h : W.cell? p = some v) : ∃ o, W.heap[p.block]? = some o ∧ keepO o = true := by
  unfold World.cell? at h
  split at h
  · exact ⟨_, by assumption, rfl⟩
  all_goals simp_all
theorem kq_loop {Bl Bm n l : Nat} {W : World} {r : Loop} {o' : Obj} (hB : Bl ≠ l) (ho : W.heap[l]? = some (.loop r)) : Kq Bl Bm n W (W.putObj l o') :=
  ⟨by simp, fun k _ hp => by
    have hne : k ≠ l := by rintro rfl; obtain ⟨o, h1, h2⟩ := hp.o; rw [ho] at h1; cases h1; cases h2
    exact ⟨World.putObj_heap_other (fun e => hne e), hp.of (World.putObj_heap_other (fun e => hB e)) (World.putObj_heap_other (fun e => hne e))⟩, fun h => h.put hB ho rfl⟩
theorem es80 {g : Gr} (h : mayL g = true) : g.es.length ≤ 80 := by
  have h1 := (may_iff.1 h).1
  unfold limitE at h1
  by_cases a : 40 < g.gs.length
  · rw [if_pos a] at h1; cases h1
  rw [if_neg a] at h1
  by_cases b : 80 < g.es.length
  · rw [if_pos b] at h1; cases h1
  omega
theorem memL_lt {g : Gr} {s : ByteArray} {i : Nat} (h : i ∈ memL g s) : i < g.es.length := by
  unfold memL at h
  split at h
  · split at h
    · rename_i h0
      rw [List.mem_singleton] at h
      unfold idxB at h h0
      cases hq : g.es.findIdx? (named Ev.name s) with
      | none => rw [hq] at h0; simp at h0
      | some k =>
        rw [hq] at h
        have := (List.findIdx?_eq_some_iff_getElem.1 hq).1
        simp at h; omega
    · simp [filL] at h; exact h.1
  · cases h
theorem told_ok {g : Gr} (hz : SzG g) (h80 : g.es.length ≤ 80) : ∀ t ∈ toldL g g.rs.length, OkT t := by
  intro t ht
  unfold toldL at ht
  obtain ⟨r, hr, h1⟩ := List.mem_flatMap.1 ht
  obtain ⟨_, _, h2, _⟩ := hz.rl r (List.mem_of_mem_take hr)
  rw [told1_eq] at h1
  obtain ⟨x, hx, rfl⟩ := List.mem_map.1 h1
  unfold prs at hx
  obtain ⟨i, hi, h3⟩ := List.mem_flatMap.1 hx
  obtain ⟨j, hj, rfl⟩ := List.mem_map.1 h3
  have a1 := memL_lt hi
  have a2 := memL_lt hj
  exact ⟨h2, WalkArith.wf_i64 (by constructor <;> simp only [mkT] <;> omega), WalkArith.wf_i64 (by constructor <;> simp only [mkT] <;> omega)⟩
end Go.Proofs.Ytplplkchibefjaa
