/-
  Each pair that a relation tells has a tie, no less strict; each tie is told by a relation, with just its time: plainly; ties as maps.
-/
import Derived.Test.YtplplkchibefjaaF4q
namespace Go.Proofs.Ytplplkchibefjaa.P4
open Go.RowKit Go.Shelf

/-- Of what was told there is a tie, no less strict. -/
def Strict (l : List Ti) (x : Ti) : Prop := ∃ t ∈ l, tkey t = tkey x ∧ (x.kind = 1 → x.time ≤ t.time) ∧ (x.kind = 2 → t.time ≤ x.time)
/-- A tie was told, with just its time. -/
def Told (xs : List Ti) (t : Ti) : Prop := ∃ x ∈ xs, tkey x = tkey t ∧ x.time = t.time
theorem strict_step {l l' : List Ti} {t : Ti} (h : stepT l t = some l') : (∀ x, Strict l x → Strict l' x) ∧ Strict l' t := by
  unfold stepT at h
  split at h
  · rename_i hh
    injection h with h
    subst h
    have hlt := atT_lt hh
    have hk := atT_key hh
    have hmem : strT l[atT l t]! t ∈ l.set (atT l t) (strT l[atT l t]! t) := List.mem_set hlt _
    have hkk := key_kind hk
    refine ⟨fun x ⟨u, hu, h1, h2, h3⟩ => ?_, ⟨_, hmem, hk, fun hx => ?_, fun hx => ?_⟩⟩
    · obtain ⟨i, hi, rfl⟩ := List.getElem_of_mem hu
      by_cases e : i = atT l t
      · subst e
        rw [← getElem!_pos l _ hi] at h1 h2 h3
        have hx : x.kind = t.kind := by rw [← key_kind h1, hkk]
        refine ⟨_, hmem, h1, fun hk1 => ?_, fun hk2 => ?_⟩
        · have h4 := h2 hk1
          show x.time ≤ strI t.kind _ _
          unfold strI; rw [if_pos (by omega)]; omega
        · have h4 := h3 hk2
          show strI t.kind _ _ ≤ x.time
          unfold strI; rw [if_neg (by omega), if_pos (by omega)]; omega
      · exact ⟨l[i], by
          have h5 : i < (l.set (atT l t) (strT l[atT l t]! t)).length := by rw [List.length_set]; exact hi
          have h6 := List.getElem_set_ne (l := l) (i := atT l t) (j := i) (a := strT l[atT l t]! t) (fun e2 => e e2.symm) h5
          rw [← h6]; exact List.getElem_mem h5, h1, h2, h3⟩
    · show t.time ≤ strI t.kind _ _
      unfold strI; rw [if_pos hx]; omega
    · show strI t.kind _ _ ≤ t.time
      unfold strI; rw [if_neg (by omega), if_pos hx]; omega
  · split at h
    · cases h
    · injection h with h
      subst h
      exact ⟨fun x ⟨u, hu, h1⟩ => ⟨u, List.mem_append_left _ hu, h1⟩, ⟨t, by simp, rfl, fun _ => Int.le_refl _, fun _ => Int.le_refl _⟩⟩
theorem strict_fold : ∀ (xs : List Ti) {l l' : List Ti}, foldT l xs = some l' → (∀ x, Strict l x → Strict l' x) ∧ ∀ x ∈ xs, Strict l' x
  | [], l, l', h => by rw [foldT] at h; injection h with h; subst h; exact ⟨fun _ h => h, fun x hx => by cases hx⟩
  | t :: r, l, l', h => by
    rw [foldT] at h
    cases hs : stepT l t with
    | none => rw [hs] at h; cases h
    | some l1 =>
      rw [hs] at h
      obtain ⟨a1, a2⟩ := strict_step hs
      obtain ⟨b1, b2⟩ := strict_fold r h
      refine ⟨fun x hx => b1 x (a1 x hx), fun x hx => ?_⟩
      rcases List.mem_cons.1 hx with rfl | hx
      · exact b1 _ a2
      · exact b2 x hx
theorem told_step {l l' pre : List Ti} {t : Ti} (hl : ∀ x ∈ l, Told pre x) (h : stepT l t = some l') : ∀ x ∈ l', Told (pre ++ [t]) x := by
  have up : ∀ x, Told pre x → Told (pre ++ [t]) x := fun x ⟨y, hy, h1⟩ => ⟨y, List.mem_append_left _ hy, h1⟩
  unfold stepT at h
  split at h
  · rename_i hh
    injection h with h
    subst h
    intro x hx
    rcases List.mem_or_eq_of_mem_set hx with h1 | h1
    · exact up x (hl x h1)
    · rw [h1]
      have hk := atT_key hh
      by_cases e : strI t.kind l[atT l t]!.time t.time = t.time
      · exact ⟨t, by simp, hk.symm, e.symm⟩
      · have e2 : strI t.kind l[atT l t]!.time t.time = l[atT l t]!.time := by
          unfold strI at e ⊢
          split
          · rename_i q; rw [if_pos q] at e; omega
          · rename_i q
            rw [if_neg q] at e
            split
            · rename_i q2; rw [if_pos q2] at e; omega
            · rfl
        obtain ⟨y, hy, h2, h3⟩ := up _ (hl _ (at_mem hh))
        exact ⟨y, hy, h2, by rw [h3]; exact e2.symm⟩
  · split at h
    · cases h
    · injection h with h
      subst h
      intro x hx
      rcases List.mem_append.1 hx with h1 | h1
      · exact up x (hl x h1)
      · rw [List.mem_singleton.1 h1]; exact ⟨t, by simp, rfl, rfl⟩
theorem told_fold : ∀ (xs : List Ti) {l l' pre : List Ti}, (∀ x ∈ l, Told pre x) → foldT l xs = some l' → ∀ x ∈ l', Told (pre ++ xs) x
  | [], l, l', pre, hl, h => by rw [foldT] at h; injection h with h; subst h; rw [List.append_nil]; exact hl
  | t :: r, l, l', pre, hl, h => by
    rw [foldT] at h
    cases hs : stepT l t with
    | none => rw [hs] at h; cases h
    | some l1 =>
      rw [hs] at h
      have := told_fold r (told_step hl hs) h
      rwa [List.append_assoc] at this

/-! ### ties as a map -/
noncomputable def fT (l : List Ti) : Lit → Option Value := l.foldl (fun f t => fun x => if x = tlit (tkey t) then some (.int .i64 t.time) else f x) (fun _ => none)
theorem fT_snoc (l : List Ti) (t : Ti) : fT (l ++ [t]) = fun x => if x = tlit (tkey t) then some (.int .i64 t.time) else fT l x := by unfold fT; rw [List.foldl_append]; rfl
theorem fT_take {l : List Ti} {k : Nat} (hk : k < l.length) : fT (l.take (k + 1)) = fun x => if x = tlit (tkey l[k]!) then some (.int .i64 l[k]!.time) else fT (l.take k) x := by
  rw [Go.Proofs.Ytplplkchibefjaa.B.take_next hk, fT_snoc]
theorem snoc_ind {p : List Ti → Prop} (h0 : p []) (h1 : ∀ l t, p l → p (l ++ [t])) : ∀ l, p l := by
  intro l
  have : ∀ n, ∀ l : List Ti, l.length = n → p l := by
    intro n
    induction n with
    | zero => intro l hl; rw [List.length_eq_zero_iff.1 hl]; exact h0
    | succ n ih =>
      intro l hl
      have hne : l ≠ [] := by rintro rfl; simp at hl
      rw [← List.dropLast_concat_getLast hne]
      exact h1 _ _ (ih _ (by rw [List.length_dropLast]; omega))
  exact this _ l rfl
theorem fT_miss {x : Ti} (hx : OkT x) : ∀ l : List Ti, (∀ t ∈ l, OkT t ∧ tkey t ≠ tkey x) → fT l (tlit (tkey x)) = none := by
  refine snoc_ind (fun _ => rfl) (fun l t ih h => ?_)
  obtain ⟨h1, h2⟩ := h t (by simp)
  rw [fT_snoc]
  simp only
  rw [if_neg (fun e => h2 (tlit_inj h1 hx e.symm))]
  exact ih (fun u hu => h u (List.mem_append_left _ hu))
theorem fT_hit {x t : Ti} (hx : OkT x) : ∀ l : List Ti, (∀ u ∈ l, OkT u) → (l.map tkey).Nodup → t ∈ l → tkey t = tkey x → fT l (tlit (tkey x)) = some (.int .i64 t.time) := by
  refine snoc_ind (fun _ _ h => by cases h) (fun l u ih ho hn ht hk => ?_)
  rw [fT_snoc]
  simp only
  rw [List.map_append, List.nodup_append] at hn
  rcases List.mem_append.1 ht with h1 | h1
  · have hne : tkey u ≠ tkey x := fun e => hn.2.2 (tkey t) (List.mem_map_of_mem h1) (tkey u) (by simp) (by rw [hk, e])
    rw [if_neg (fun e => hne (tlit_inj (ho u (by simp)) hx e.symm))]
    exact ih (fun v hv => ho v (List.mem_append_left _ hv)) hn.1 h1 hk
  · obtain rfl : t = u := by simpa using h1
    rw [if_pos (by rw [hk])]
theorem fT_some {x : Lit} : ∀ l : List Ti, (fT l x).isSome = true → ∃ t ∈ l, x = tlit (tkey t) := by
  refine snoc_ind (fun h => by cases h) (fun l t ih h => ?_)
  rw [fT_snoc] at h
  simp only at h
  split at h
  · rename_i e; exact ⟨t, by simp, e⟩
  · obtain ⟨u, hu, e⟩ := ih h
    exact ⟨u, List.mem_append_left _ hu, e⟩
/-- Has a tie's key been told with just that time? -/
def doneB (ts pre : List Ti) (x : Ti) : Bool := ts.any fun t => decide (tkey t = tkey x) && pre.any fun y => decide (tkey y = tkey x) && decide (y.time = t.time)
theorem done_nil (ts : List Ti) (x : Ti) : doneB ts [] x = false := by unfold doneB; simp
theorem done_all {ts xs : List Ti} {t : Ti} (ht : t ∈ ts) (h : Told xs t) : doneB ts xs t = true := by
  obtain ⟨y, hy, h1, h2⟩ := h
  unfold doneB
  rw [List.any_eq_true]
  refine ⟨t, ht, ?_⟩
  rw [Bool.and_eq_true, decide_eq_true_eq, List.any_eq_true]
  exact ⟨rfl, y, hy, by simp [h1, h2]⟩
theorem done_snoc {ts pre : List Ti} {y t : Ti} (hn : (ts.map tkey).Nodup) (ht : t ∈ ts) (hk : tkey t = tkey y) (x : Ti) : doneB ts (pre ++ [y]) x = if tkey x = tkey y then (doneB ts pre x || decide (y.time = t.time)) else doneB ts pre x := by
  have uniq : ∀ u ∈ ts, tkey u = tkey t → u = t := by
    intro u hu e
    obtain ⟨i, hi, rfl⟩ := List.getElem_of_mem hu
    obtain ⟨j, hj, rfl⟩ := List.getElem_of_mem ht
    have := fun a b (ha : a < ts.length) (hb : b < ts.length) (hab : a < b) => (List.pairwise_iff_getElem.1 hn) a b (by simpa using ha) (by simpa using hb) hab
    rcases Nat.lt_trichotomy i j with h | h | h
    · have h2 := this i j hi hj h
      rw [List.getElem_map, List.getElem_map] at h2
      exact absurd e h2
    · subst h; rfl
    · have h2 := this j i hj hi h
      rw [List.getElem_map, List.getElem_map] at h2
      exact absurd e.symm h2
  unfold doneB
  by_cases e : tkey x = tkey y
  · rw [if_pos e, Bool.eq_iff_iff, Bool.or_eq_true, List.any_eq_true, List.any_eq_true, decide_eq_true_eq]
    constructor
    · rintro ⟨u, hu, h1⟩
      rw [Bool.and_eq_true, decide_eq_true_eq, List.any_append, Bool.or_eq_true] at h1
      rcases h1.2 with h2 | h2
      · left; exact ⟨u, hu, by rw [Bool.and_eq_true, decide_eq_true_eq]; exact ⟨h1.1, h2⟩⟩
      · right
        have hu2 := uniq u hu (by rw [h1.1, e, hk])
        subst hu2
        simpa [e] using h2
    · rintro (⟨u, hu, h1⟩ | h1)
      · rw [Bool.and_eq_true, decide_eq_true_eq] at h1
        exact ⟨u, hu, by rw [Bool.and_eq_true, decide_eq_true_eq, List.any_append, h1.2]; exact ⟨h1.1, by simp⟩⟩
      · exact ⟨t, ht, by rw [Bool.and_eq_true, decide_eq_true_eq, List.any_append]; exact ⟨by rw [hk, e], by simp [e, h1]⟩⟩
  · rw [if_neg e]
    congr 1
    funext u
    rw [List.any_append]
    have : ([y].any fun y => decide (tkey y = tkey x) && decide (y.time = u.time)) = false := by
      simp
      intro h
      exact absurd h.symm e
    rw [this, Bool.or_false]
/-! ### what is told, in parts -/
def U2 (g : Gr) (k a : Nat) : List Ti := toldL g k ++ (prs ((memL g g.rs[k]!.src).take a) (memL g g.rs[k]!.dst)).map fun x => ⟨g.rs[k]!.kind, (x.1 : Nat), (x.2 : Nat), g.rs[k]!.time⟩
def U3 (g : Gr) (k a b : Nat) : List Ti := U2 g k a ++ ((memL g g.rs[k]!.dst).take b).map fun j => ⟨g.rs[k]!.kind, ((memL g g.rs[k]!.src)[a]! : Nat), (j : Nat), g.rs[k]!.time⟩
theorem U2_zero (g : Gr) (k : Nat) : U2 g k 0 = toldL g k := by unfold U2; simp [prs]
theorem U3_zero (g : Gr) (k a : Nat) : U3 g k a 0 = U2 g k a := by unfold U3; simp
theorem U2_all {g : Gr} {k : Nat} (h : k < g.rs.length) : U2 g k (memL g g.rs[k]!.src).length = toldL g (k + 1) := by
  unfold U2
  rw [List.take_length, toldL_succ h]; rfl
theorem U3_all {g : Gr} {k a : Nat} (h : a < (memL g g.rs[k]!.src).length) : U3 g k a (memL g g.rs[k]!.dst).length = U2 g k (a + 1) := by
  unfold U3 U2
  rw [List.take_length, prs_succ h, List.map_append, List.append_assoc, List.map_map]; rfl
theorem U3_next {g : Gr} {k a b : Nat} (h : b < (memL g g.rs[k]!.dst).length) : U3 g k a (b + 1) = U3 g k a b ++ [⟨g.rs[k]!.kind, ((memL g g.rs[k]!.src)[a]! : Nat), ((memL g g.rs[k]!.dst)[b]! : Nat), g.rs[k]!.time⟩] := by
  unfold U3
  rw [List.take_succ_eq_append_getElem h, List.map_append, List.map_singleton, List.append_assoc, getElem!_pos (memL g g.rs[k]!.dst) b h]
theorem U_mem {g : Gr} {k a b : Nat} (hk : k < g.rs.length) (ha : a < (memL g g.rs[k]!.src).length) (hb : b < (memL g g.rs[k]!.dst).length) :
    (⟨g.rs[k]!.kind, ((memL g g.rs[k]!.src)[a]! : Nat), ((memL g g.rs[k]!.dst)[b]! : Nat), g.rs[k]!.time⟩ : Ti) ∈ toldL g g.rs.length := by
  rw [toldL, List.take_length]
  refine List.mem_flatMap.2 ⟨g.rs[k]!, by rw [getElem!_pos g.rs k hk]; exact List.getElem_mem _, ?_⟩
  unfold told1
  generalize memL g g.rs[k]!.src = A at *
  generalize memL g g.rs[k]!.dst = B at *
  generalize g.rs[k]!.kind = kd
  generalize g.rs[k]!.time = tm
  refine List.mem_map.2 ⟨(A[a]!, B[b]!), ?_, rfl⟩
  unfold prs
  refine List.mem_flatMap.2 ⟨A[a]!, by rw [getElem!_pos A a ha]; exact List.getElem_mem _, ?_⟩
  exact List.mem_map.2 ⟨B[b]!, by rw [getElem!_pos B b hb]; exact List.getElem_mem _, rfl⟩
theorem flat_le' {α β : Type} {f : α → List β} {m : Nat} : ∀ (l : List α), (∀ x ∈ l, (f x).length ≤ m) → (l.flatMap f).length ≤ l.length * m
  | [], _ => by simp
  | x :: r, h => by
    have h1 := h x (List.mem_cons_self ..)
    have h2 := flat_le' r (fun y hy => h y (List.mem_cons_of_mem _ hy))
    rw [List.flatMap_cons, List.length_append, List.length_cons, Nat.succ_mul]; omega
theorem prs_len' {a b : List Nat} : (prs a b).length = a.length * b.length := by
  unfold prs
  induction a with
  | nil => simp
  | cons x r ih => rw [List.flatMap_cons, List.length_append, List.length_map, ih, List.length_cons, Nat.succ_mul]; omega
theorem U3_len {g : Gr} (he : g.es.length ≤ 30) (hr : g.rs.length ≤ 60) (k a b : Nat) : (U3 g k a b).length ≤ 100000 := by
  have hm : ∀ s, (memL g s).length ≤ 31 := fun s => by have := memL_len g s; omega
  have h1 : (toldL g k).length ≤ (g.rs.take k).length * 961 := flat_le' _ (fun r _ => by
    unfold told1
    rw [List.length_map, prs_len']
    exact Nat.mul_le_mul (hm _) (hm _))
  have h2 : (g.rs.take k).length ≤ 60 := by rw [List.length_take]; omega
  have h6 : (prs ((memL g g.rs[k]!.src).take a) (memL g g.rs[k]!.dst)).length ≤ 31 * 31 := by
    rw [prs_len']
    refine Nat.mul_le_mul ?_ (hm _)
    rw [List.length_take]
    have := hm g.rs[k]!.src
    omega
  have h7 : ((memL g g.rs[k]!.dst).take b).length ≤ 31 := by
    rw [List.length_take]
    have := hm g.rs[k]!.dst
    omega
  have h8 : (g.rs.take k).length * 961 ≤ 60 * 961 := Nat.mul_le_mul_right _ h2
  unfold U3 U2
  rw [List.length_append, List.length_append, List.length_map, List.length_map]
  omega
end Go.Proofs.Ytplplkchibefjaa.P4
