/-
  How groups nest: a group's events are its own, and those of the groups in it, each told once.
-/
import Derived.Test.YtandfjahfbeaiaaGreatGrPb
namespace Go.Proofs.YtandfjahfbeaiaaGreat
open Go.RowKit Go.Shelf

def nm (g : Gr) (i : Nat) : Key := g.gs[i]!.name.toList
def pr (g : Gr) (i : Nat) : Key := g.gs[i]!.parent.toList
theorem gns_eq (g : Gr) {i : Nat} (h : i < (gns g).length) : (gns g)[i] = nm g i := by
  have hl : (gns g).length = g.gs.length := by simp [gns]
  have h1 := gns_at g (i := i) (by omega)
  rw [List.getElem?_eq_getElem h] at h1
  exact Option.some.inj h1
theorem ahead_iff {g : Gr} {k : Key} {i : Nat} (hi : i ≤ g.gs.length) : aheadB (gns g) k i = true ↔ ∃ j, j < i ∧ nm g j = k := by
  have hl : (gns g).length = g.gs.length := by simp [gns]
  rw [ahead_take _ _ _ (by omega), List.contains_iff_mem]
  constructor
  · intro h
    obtain ⟨j, hj, he⟩ := List.getElem_of_mem h
    rw [List.length_take] at hj
    rw [List.getElem_take, gns_eq] at he
    exact ⟨j, by omega, he⟩
  · rintro ⟨j, hj, rfl⟩
    rw [← gns_eq g (i := j) (by omega)]
    have h3 : j < ((gns g).take i).length := by rw [List.length_take]; omega
    have h4 : ((gns g).take i)[j] = (gns g)[j] := List.getElem_take
    rw [← h4]; exact List.getElem_mem h3
theorem nm_ne {g : Gr} (h : mayL g = true) {i : Nat} (hi : i < g.gs.length) : nm g i ≠ [] := by
  intro e
  have := (may_group h hi).1
  rw [show g.gs[i]!.name.toList = [] from e, nameK_nil] at this; cases this
theorem nm_inj {g : Gr} (h : mayL g = true) {i j : Nat} (hi : i < g.gs.length) (hj : j < g.gs.length) (e : nm g i = nm g j) : i = j := by
  rcases Nat.lt_trichotomy i j with hl | hl | hl
  · have h1 : aheadB (gns g) (nm g j) j = false := (may_group h hj).2.1
    rw [(ahead_iff (by omega)).2 ⟨i, hl, e⟩] at h1; cases h1
  · exact hl
  · have h1 : aheadB (gns g) (nm g i) i = false := (may_group h hi).2.1
    rw [(ahead_iff (by omega)).2 ⟨j, hl, e.symm⟩] at h1; cases h1
theorem pr_cases {g : Gr} (h : mayL g = true) {i : Nat} (hi : i < g.gs.length) : pr g i = [] ∨ ∃ y, y < i ∧ pr g i = nm g y := by
  rcases (may_group h hi).2.2 with h1 | h1
  · left; exact beq_iff_eq.1 h1
  · right
    rw [Bool.and_eq_true] at h1
    obtain ⟨y, hy, e⟩ := (ahead_iff (Nat.le_of_lt hi)).1 h1.2
    exact ⟨y, hy, e.symm⟩
theorem inB_stage (g : Gr) (s : Key) : ∀ (i : Nat) (k : Key), inB g s i k = true ↔ ∃ j, j < i ∧ nm g j = k ∧ (inB g s j (pr g j) = true ∨ nm g j = s)
  | 0, k => by simp [inB]
  | i + 1, k => by
    have ih := inB_stage g s i
    rw [inB]
    by_cases hH : (inB g s i g.gs[i]!.parent.toList || g.gs[i]!.name.toList == s) = true
    · rw [if_pos hH, Bool.or_eq_true, beq_iff_eq, ih k]
      rw [Bool.or_eq_true, beq_iff_eq] at hH
      constructor
      · rintro (h1 | ⟨j, hj, h1⟩)
        · exact ⟨i, by omega, h1.symm, hH⟩
        · exact ⟨j, by omega, h1⟩
      · rintro ⟨j, hj, h1, h2⟩
        by_cases e : j = i
        · subst e; exact .inl h1.symm
        · exact .inr ⟨j, by omega, h1, h2⟩
    · rw [if_neg hH, ih k]
      rw [Bool.or_eq_true, beq_iff_eq] at hH
      constructor
      · rintro ⟨j, hj, h1⟩; exact ⟨j, by omega, h1⟩
      · rintro ⟨j, hj, h1, h2⟩
        by_cases e : j = i
        · subst e; exact absurd h2 hH
        · exact ⟨j, by omega, h1, h2⟩
/-- A group lies in s: it is s, or its parent lies in s. -/
theorem inB_rec {g : Gr} (h : mayL g = true) (s : Key) {z : Nat} (hz : z < g.gs.length) :
    inB g s g.gs.length (nm g z) = true ↔ nm g z = s ∨ ∃ y, y < z ∧ pr g z = nm g y ∧ inB g s g.gs.length (nm g y) = true := by
  have hH : ∀ j, j < g.gs.length → (inB g s g.gs.length (nm g j) = true ↔ (inB g s j (pr g j) = true ∨ nm g j = s)) := by
    intro j hj
    rw [inB_stage]
    constructor
    · rintro ⟨i, hi, e, h1⟩
      obtain rfl := nm_inj h hi hj e
      exact h1
    · intro h1; exact ⟨j, hj, rfl, h1⟩
  rw [hH z hz, inB_stage]
  constructor
  · rintro (⟨y, hy, e, h1⟩ | h1)
    · exact .inr ⟨y, hy, e.symm, (hH y (by omega)).2 h1⟩
    · exact .inl h1
  · rintro (h1 | ⟨y, hy, e, h1⟩)
    · exact .inr h1
    · exact .inl ⟨y, hy, e.symm, (hH y (by omega)).1 h1⟩
theorem inB_le {g : Gr} (h : mayL g = true) {x : Nat} (hx : x < g.gs.length) : ∀ z, z < g.gs.length → inB g (nm g x) g.gs.length (nm g z) = true → x ≤ z := by
  intro z
  induction z using Nat.strongRecOn with
  | _ z ih =>
    intro hz h1
    rcases (inB_rec h _ hz).1 h1 with e | ⟨y, hy, _, h2⟩
    · rw [nm_inj h hz hx e]; exact Nat.le_refl _
    · have := ih y hy (by omega) h2; omega
def bit (b : Bool) : Nat := if b then 1 else 0
/-- How many of the groups in s, of which it is the parent, hold a group of that name. -/
def kids (g : Gr) (s c : Key) : Nat := ((List.range g.gs.length).map fun x => bit (pr g x == s && inB g (nm g x) g.gs.length c)).sum
theorem sum_zero {f : Nat → Nat} : ∀ {l : List Nat}, (∀ x ∈ l, f x = 0) → (l.map f).sum = 0
  | [], _ => rfl
  | x :: r, h => by rw [List.map_cons, List.sum_cons, h x (by simp), sum_zero (fun y hy => h y (by simp [hy]))]
theorem sum_add {f h : Nat → Nat} : ∀ l : List Nat, (l.map fun x => f x + h x).sum = (l.map f).sum + (l.map h).sum
  | [] => rfl
  | x :: r => by simp only [List.map_cons, List.sum_cons, sum_add r]; omega
theorem sum_congr {f h : Nat → Nat} : ∀ {l : List Nat}, (∀ x ∈ l, f x = h x) → (l.map f).sum = (l.map h).sum
  | [], _ => rfl
  | x :: r, e => by rw [List.map_cons, List.map_cons, List.sum_cons, List.sum_cons, e x (List.mem_cons_self ..), sum_congr (l := r) (fun y hy => e y (List.mem_cons_of_mem _ hy))]
theorem sum_one {n z : Nat} (hz : z < n) (v : Nat) : ((List.range n).map fun x => if x = z then v else 0).sum = v := by
  induction n with
  | zero => omega
  | succ n ih =>
    rw [List.range_succ, List.map_append, List.sum_append]
    by_cases e : z = n
    · subst e
      rw [sum_zero (fun x hx => if_neg (by have := List.mem_range.1 hx; omega))]
      simp
    · rw [ih (by omega)]
      simp [Ne.symm e]
theorem kids_step {g : Gr} (h : mayL g = true) {i : Nat} (hi : i < g.gs.length) : ∀ z, z < g.gs.length → bit (inB g (nm g i) g.gs.length (nm g z)) = bit (nm g z == nm g i) + kids g (nm g i) (nm g z) := by
  intro z
  induction z using Nat.strongRecOn with
  | _ z ih =>
    intro hz
    rcases pr_cases h hz with hp | ⟨y, hy, hp⟩
    · -- no parent
      have hk : kids g (nm g i) (nm g z) = 0 := sum_zero (fun x hx => by
        have hx' := List.mem_range.1 hx
        by_cases e : pr g x = nm g i
        · have : inB g (nm g x) g.gs.length (nm g z) = false := by
            rw [Bool.eq_false_iff]
            intro h1
            rcases (inB_rec h _ hz).1 h1 with e1 | ⟨y, hy, e2, _⟩
            · obtain rfl := nm_inj h hz hx' e1
              rw [hp] at e
              exact nm_ne h hi e.symm
            · rw [hp] at e2
              exact nm_ne h (by omega) e2.symm
          rw [this, Bool.and_false]; rfl
        · rw [beq_eq_false_iff_ne.2 e]; rfl)
      rw [hk, Nat.add_zero]
      have : inB g (nm g i) g.gs.length (nm g z) = (nm g z == nm g i) := by
        rw [Bool.eq_iff_iff, beq_iff_eq, inB_rec h _ hz]
        constructor
        · rintro (e | ⟨y, hy, e2, _⟩)
          · exact e
          · rw [hp] at e2; exact absurd e2.symm (nm_ne h (by omega))
        · exact fun e => .inl e
      rw [this]
    · have hyn : y < g.gs.length := by omega
      have hrec : ∀ s, inB g s g.gs.length (nm g z) = true ↔ nm g z = s ∨ inB g s g.gs.length (nm g y) = true := by
        intro s
        rw [inB_rec h s hz]
        constructor
        · rintro (e | ⟨y', hy', e2, h2⟩)
          · exact .inl e
          · obtain rfl := nm_inj h (by omega) hyn (e2.symm.trans hp)
            exact .inr h2
        · rintro (e | h2)
          · exact .inl e
          · exact .inr ⟨y, hy, hp, h2⟩
      have hstep : ∀ x, x < g.gs.length → bit (inB g (nm g x) g.gs.length (nm g z)) = (if x = z then 1 else 0) + bit (inB g (nm g x) g.gs.length (nm g y)) := by
        intro x hx
        by_cases e : x = z
        · have h0 : inB g (nm g x) g.gs.length (nm g y) = false := by
            rw [Bool.eq_false_iff]; intro h1; have := inB_le h hx y hyn h1; omega
          have h1 : inB g (nm g x) g.gs.length (nm g z) = true := (hrec _).2 (.inl (by rw [e]))
          rw [h0, h1, if_pos e]; rfl
        · have h1 : inB g (nm g x) g.gs.length (nm g z) = inB g (nm g x) g.gs.length (nm g y) := by
            rw [Bool.eq_iff_iff, hrec]
            exact ⟨fun h1 => h1.resolve_left (fun e1 => e (nm_inj h hx hz e1.symm)), .inr⟩
          rw [h1, if_neg e, Nat.zero_add]
      have hk : kids g (nm g i) (nm g z) = bit (nm g y == nm g i) + kids g (nm g i) (nm g y) := by
        have e1 : kids g (nm g i) (nm g z) = ((List.range g.gs.length).map fun x => (if x = z then bit (nm g y == nm g i) else 0) + bit (pr g x == nm g i && inB g (nm g x) g.gs.length (nm g y))).sum := sum_congr (fun x hx => by
          have hx' := List.mem_range.1 hx
          by_cases e : pr g x = nm g i
          · rw [show (pr g x == nm g i) = true from beq_iff_eq.2 e, Bool.true_and, Bool.true_and, hstep x hx']
            by_cases ez : x = z
            · subst ez
              rw [if_pos rfl, if_pos rfl, show (nm g y == nm g i) = true from beq_iff_eq.2 (hp.symm.trans e)]; rfl
            · rw [if_neg ez, if_neg ez]
          · rw [show (pr g x == nm g i) = false from beq_eq_false_iff_ne.2 e, Bool.false_and, Bool.false_and]
            by_cases ez : x = z
            · subst ez
              rw [if_pos rfl, show (nm g y == nm g i) = false from beq_eq_false_iff_ne.2 (fun e2 => e (hp.trans e2))]; rfl
            · rw [if_neg ez]; rfl)
        rw [e1, sum_add, sum_one hz]; rfl
      rw [hk, ← ih y hy hyn, hstep i hi]
      congr 1
      by_cases e : i = z
      · rw [if_pos e, e, show (nm g z == nm g z) = true from beq_self_eq_true _]; rfl
      · rw [if_neg e, show (nm g z == nm g i) = false from beq_eq_false_iff_ne.2 (fun e2 => e (nm_inj h hi hz e2.symm))]; rfl
theorem inB_has {g : Gr} {s c : Key} (h1 : inB g s g.gs.length c = true) : ∃ z, z < g.gs.length ∧ nm g z = c := by
  obtain ⟨j, hj, e, _⟩ := (inB_stage g s _ c).1 h1
  exact ⟨j, hj, e⟩
theorem kids_any {g : Gr} (h : mayL g = true) {i : Nat} (hi : i < g.gs.length) (c : Key) : bit (inB g (nm g i) g.gs.length c) = bit (c == nm g i) + kids g (nm g i) c := by
  by_cases hc : ∃ z, z < g.gs.length ∧ nm g z = c
  · obtain ⟨z, hz, rfl⟩ := hc; exact kids_step h hi z hz
  · have h0 : ∀ s, inB g s g.gs.length c = false := fun s => by rw [Bool.eq_false_iff]; exact fun h1 => hc (inB_has h1)
    have hk : kids g (nm g i) c = 0 := sum_zero (fun x _ => by rw [h0, Bool.and_false]; rfl)
    rw [h0, hk, show (c == nm g i) = false from beq_eq_false_iff_ne.2 (fun e => hc ⟨i, hi, e.symm⟩)]; rfl
/-- The events of a group, counted: its own, and those of the groups of which it is the parent. -/
def own_ (g : Gr) (s : Key) (m : Nat) : Nat := ((List.range m).map fun k => bit (g.es[k]!.group.toList == s)).sum
def below_ (g : Gr) (s : Key) (j m : Nat) : Nat := ((List.range j).map fun x => if pr g x = s then (filL g (nm g x) m).length else 0).sum
theorem filL_len (g : Gr) (s : Key) (m : Nat) : (filL g s (m + 1)).length = (filL g s m).length + bit (inB g s g.gs.length g.es[m]!.group.toList) := by
  cases h : inB g s g.gs.length g.es[m]!.group.toList with
  | true => rw [filL_yes h, List.length_append]; rfl
  | false => rw [filL_no h]; rfl
theorem nest_count {g : Gr} (h : mayL g = true) {i : Nat} (hi : i < g.gs.length) : ∀ m, (filL g (nm g i) m).length = own_ g (nm g i) m + below_ g (nm g i) g.gs.length m
  | 0 => by
    have : below_ g (nm g i) g.gs.length 0 = 0 := sum_zero (fun x _ => by simp [filL])
    rw [this]; rfl
  | m + 1 => by
    have ih := nest_count h hi m
    have e1 : own_ g (nm g i) (m + 1) = own_ g (nm g i) m + bit (g.es[m]!.group.toList == nm g i) := by
      rw [own_, List.range_succ, List.map_append, List.sum_append]; simp [own_]
    have e2 : below_ g (nm g i) g.gs.length (m + 1) = below_ g (nm g i) g.gs.length m + kids g (nm g i) g.es[m]!.group.toList := by
      rw [below_, below_, kids, ← sum_add]
      refine sum_congr (fun x _ => ?_)
      by_cases e : pr g x = nm g i
      · rw [if_pos e, if_pos e, filL_len, show (pr g x == nm g i) = true from beq_iff_eq.2 e, Bool.true_and]
      · rw [if_neg e, if_neg e, show (pr g x == nm g i) = false from beq_eq_false_iff_ne.2 e]; rfl
    rw [filL_len, ih, e1, e2, kids_any h hi]; omega
/-- What lies in a group in s, lies in s. -/
theorem inB_up {g : Gr} (h : mayL g = true) {i x : Nat} (hi : i < g.gs.length) (hx : x < g.gs.length) (hp : pr g x = nm g i) {c : Key} (h1 : inB g (nm g x) g.gs.length c = true) : inB g (nm g i) g.gs.length c = true := by
  have h2 := kids_any h hi c
  have h3 : 1 ≤ kids g (nm g i) c := by
    have e : ∀ n, x < n → 1 ≤ ((List.range n).map fun x => bit (pr g x == nm g i && inB g (nm g x) g.gs.length c)).sum := by
      intro n
      induction n with
      | zero => intro h; omega
      | succ n ih =>
        intro hn
        rw [List.range_succ, List.map_append, List.sum_append]
        by_cases e : x = n
        · subst e
          have : bit (pr g x == nm g i && inB g (nm g x) g.gs.length c) = 1 := by rw [h1, show (pr g x == nm g i) = true from beq_iff_eq.2 hp]; rfl
          simp only [List.map_cons, List.map_nil, List.sum_cons, List.sum_nil, this]; omega
        · have := ih (by omega); omega
    exact e _ hx
  cases h4 : inB g (nm g i) g.gs.length c with
  | true => rfl
  | false => rw [h4] at h2; unfold bit at h2; simp only [Bool.false_eq_true, if_false] at h2; omega
theorem inB_self {g : Gr} (h : mayL g = true) {i : Nat} (hi : i < g.gs.length) : inB g (nm g i) g.gs.length (nm g i) = true := (inB_rec h _ hi).2 (.inl rfl)
end Go.Proofs.YtandfjahfbeaiaaGreat
