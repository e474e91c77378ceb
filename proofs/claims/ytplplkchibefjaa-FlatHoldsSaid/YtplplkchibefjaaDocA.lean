/-
  The document's own Above and Members, plainly. (made by wip/tools/gen_doc.py)
-/
import Derived.Test.YtplplkchibefjaaGrCl
import Derived.StillTailTactics
import Derived.Laws.AppendOwnNone
import Derived.Test.YtplplkchibefjaaGrY
namespace Go.Proofs.Ytplplkchibefjaa
open Go.RowKit Go.Shelf

theorem nameK_nil : nameK [] = false := by decide
theorem idxB_cases {α : Type} [Inhabited α] (p : α → Bool) (l : List α) : (idxB p l = -1 ∧ ∀ j, j < l.length → p l[j]! = false) ∨ ∃ k, k < l.length ∧ idxB p l = (k : Int) ∧ p l[k]! = true ∧ ∀ j, j < k → p l[j]! = false := by
  unfold idxB
  cases h : l.findIdx? p with
  | none =>
    left
    rw [List.findIdx?_eq_none_iff] at h
    exact ⟨rfl, fun j hj => h _ (mem_at hj)⟩
  | some i =>
    right
    obtain ⟨hi, hp, hn⟩ := List.findIdx?_eq_some_iff_getElem.1 h
    refine ⟨i, hi, rfl, by rw [getElem!_pos l i hi]; exact hp, fun j hj => ?_⟩
    have := hn j hj
    rw [getElem!_pos l j (by omega)]; simpa using this
theorem may_group {g : Gr} (h : mayL g = true) {i : Nat} (hi : i < g.gs.length) :
    nameK g.gs[i]!.name.toList = true ∧ aheadB (gns g) g.gs[i]!.name.toList i = false ∧ ((g.gs[i]!.parent.toList == []) = true ∨ (hasB (gns g) g.gs[i]!.parent.toList && aheadB (gns g) g.gs[i]!.parent.toList i) = true) := by
  have h1 := (may_iff.1 h).2.1 i hi
  unfold groupE at h1
  by_cases a : nameK g.gs[i]!.name.toList = true
  · rw [if_pos a] at h1
    by_cases b : aheadB (gns g) g.gs[i]!.name.toList i = true
    · rw [if_pos b] at h1; cases h1
    · rw [if_neg b] at h1
      refine ⟨a, by simpa using b, ?_⟩
      by_cases c : (g.gs[i]!.parent.toList == []) = true
      · exact .inl c
      · rw [if_neg c] at h1
        right
        by_cases d : (hasB (gns g) g.gs[i]!.parent.toList && aheadB (gns g) g.gs[i]!.parent.toList i) = true
        · exact d
        · rw [if_neg d] at h1; cases h1
  · rw [if_neg a] at h1; cases h1
theorem gns_at (g : Gr) {i : Nat} (hi : i < g.gs.length) : (gns g)[i]? = some g.gs[i]!.name.toList := by
  rw [gns, List.getElem?_map, List.getElem?_eq_getElem hi, getElem!_pos g.gs i hi]; rfl
theorem up_lt {g : Gr} (h : mayL g = true) {i : Nat} (hi : i < g.gs.length) : idxB (named Gp.name g.gs[i]!.parent) g.gs < i := by
  rcases idxB_cases (named Gp.name g.gs[i]!.parent) g.gs with ⟨h1, _⟩ | ⟨k, hk, h1, h2, h3⟩
  · omega
  · rw [h1]
    obtain ⟨_, _, h4⟩ := may_group h hi
    have h2' : g.gs[k]!.name.toList = g.gs[i]!.parent.toList := by simpa [named] using h2
    rcases h4 with h4 | h4
    · have h5 : g.gs[i]!.parent.toList = [] := by simpa using h4
      have hk' := (may_group h hk).1
      rw [h2', h5, nameK_nil] at hk'; cases hk'
    · simp only [Bool.and_eq_true, aheadB, decide_eq_true_eq] at h4
      obtain ⟨_, h5⟩ := h4
      have hlen : (gns g).length = g.gs.length := by simp [gns]
      have hj : (gns g).idxOf g.gs[i]!.parent.toList < (gns g).length := by omega
      have h6 := List.getElem_idxOf hj
      rcases Nat.lt_or_ge ((gns g).idxOf g.gs[i]!.parent.toList) k with h7 | h7
      · exfalso
        have h8 := h3 _ h7
        have h9 := gns_at g (i := (gns g).idxOf g.gs[i]!.parent.toList) (by omega)
        rw [List.getElem?_eq_getElem hj, h6] at h9
        have h10 := Option.some.inj h9
        simp only [named, beq_eq_false_iff_ne] at h8
        exact h8 h10.symm
      · omega

/-- A group's name, its parent's, and so on, from a place on. -/
def upL (g : Gr) : Nat → Int → List ByteArray
  | 0, _ => []
  | n + 1, z => if 0 ≤ z then g.gs[z.toNat]!.name :: upL g n (idxB (named Gp.name g.gs[z.toNat]!.parent) g.gs) else []
def aboveL (g : Gr) (s : ByteArray) : List ByteArray := if mayL g then upL g g.gs.length (idxB (named Gp.name s) g.gs) else []
def StrsOf (l : List ByteArray) (w : World) (e : Ending) (w' : World) : Prop := ∃ v, e = .returned v ∧ w'.ownsRow w.heap.size 9 1 v l.length (l.map Value.string) ∧ Below w.heap.size w w'
theorem up_yes (g : Gr) (n k : Nat) : upL g (n + 1) (k : Int) = g.gs[k]!.name :: upL g n (idxB (named Gp.name g.gs[k]!.parent) g.gs) := by
  rw [upL, if_pos (Int.natCast_nonneg _), Int.toNat_natCast]
theorem up_no (g : Gr) (n : Nat) {z : Int} (h : z < 0) : upL g n z = [] := by
  cases n with
  | zero => rfl
  | succ n => rw [upL, if_neg (by omega)]
def UpRel (g : Gr) (L : List ByteArray) (W0 : World) (v z : Value) (wr : World) : Prop :=
  ∃ (acc : List ByteArray) (n : Nat) (i : Int), -1 ≤ i ∧ i < n ∧ acc.length + n = g.gs.length ∧ z = .int .i64 i ∧ Hid (wr.ownsRow W0.heap.size 9 1 v acc.length (acc.map Value.string)) ∧ Hid (acc ++ upL g n i = L) ∧ Below W0.heap.size W0 wr

theorem idxB_bounds {α : Type} [Inhabited α] (p : α → Bool) (l : List α) : -1 ≤ idxB p l ∧ idxB p l < l.length := by
  rcases idxB_cases p l with ⟨h, _⟩ | ⟨k, hk, h, _⟩ <;> omega


structure FewG (g : Gr) : Prop where
  gs : g.gs.length ≤ 40
  es : g.es.length ≤ 80
  rs : g.rs.length ≤ 300
  us : g.us.length ≤ 40
  ro : ∀ u ∈ g.us, u.roles.length ≤ 8
theorem may_few {g : Gr} (h : mayL g = true) : FewG g := by
  have h1 := (may_iff.1 h).1
  unfold limitE at h1
  by_cases a : 40 < g.gs.length
  · rw [if_pos a] at h1; cases h1
  rw [if_neg a] at h1
  by_cases b : 80 < g.es.length
  · rw [if_pos b] at h1; cases h1
  rw [if_neg b] at h1
  by_cases c : 300 < g.rs.length
  · rw [if_pos c] at h1; cases h1
  rw [if_neg c] at h1
  by_cases d : 40 < g.us.length
  · rw [if_pos d] at h1; cases h1
  rw [if_neg d] at h1
  by_cases e : (g.us.any (fun u => decide (8 < u.roles.length))) = true
  · rw [if_pos e] at h1; cases h1
  refine ⟨by omega, by omega, by omega, by omega, fun u hu => ?_⟩
  rcases Nat.lt_or_ge 8 u.roles.length with h8 | h8
  · exact absurd (List.any_eq_true.2 ⟨u, hu, by simpa using h8⟩) e
  · exact h8


theorem ahead_take {α : Type} [BEq α] [LawfulBEq α] (l : List α) (k : α) (i : Nat) (hi : i ≤ l.length) : aheadB l k i = (l.take i).contains k := by
  rw [aheadB, Bool.eq_iff_iff, decide_eq_true_eq, List.contains_iff_mem]
  constructor
  · intro h
    have h1 : l.idxOf k < l.length := by omega
    have h2 := List.getElem_idxOf h1
    rw [← h2]
    have h3 : l.idxOf k < (l.take i).length := by rw [List.length_take]; omega
    have h4 : (l.take i)[l.idxOf k] = l[l.idxOf k] := List.getElem_take
    rw [← h4]; exact List.getElem_mem h3
  · intro h
    obtain ⟨j, hj, he⟩ := List.getElem_of_mem h
    rw [List.length_take] at hj
    rw [List.getElem_take] at he
    have h1 : l.idxOf k ≤ j := by
      rcases Nat.lt_or_ge j (l.idxOf k) with h2 | h2
      · exact absurd he (by have := List.not_of_lt_findIdx (p := (· == k)) (xs := l) h2; simpa using this)
      · exact h2
    omega
theorem ahead_prefix {α : Type} [BEq α] [LawfulBEq α] (l : List α) (k : α) {i a : Nat} (hi : i ≤ a) (ha : a ≤ l.length) : aheadB (l.take a) k i = aheadB l k i := by
  rw [ahead_take l k i (by omega), ahead_take (l.take a) k i (by rw [List.length_take]; omega), List.take_take, Nat.min_eq_left hi]
theorem has_prefix {α : Type} [BEq α] [LawfulBEq α] (l : List α) (k : α) {i a : Nat} (hi : i ≤ a) (ha : a ≤ l.length) (h : aheadB l k i = true) : hasB (l.take a) k = true := by
  rw [ahead_take l k i (by omega), List.contains_iff_mem] at h
  rw [hasB, List.contains_iff_mem]
  obtain ⟨j, hj, rfl⟩ := List.getElem_of_mem h
  rw [List.length_take] at hj
  rw [List.getElem_take]
  have : (l.take a)[j]'(by rw [List.length_take]; omega) = l[j] := List.getElem_take
  rw [← this]; exact List.getElem_mem _
theorem at_prefix {α : Type} [Inhabited α] (l : List α) {i a : Nat} (hi : i < a) (ha : a ≤ l.length) : (l.take a)[i]! = l[i]! := by
  rw [getElem!_pos _ i (by rw [List.length_take]; omega), getElem!_pos l i (by omega), List.getElem_take]
theorem tellS_none {s : St} {part n : Nat} {f : Nat → Nat} (h : ∀ i, i < n → f i = 0) : tellS s part f n = s := by
  unfold tellS
  rw [tellL_none.2 h]
  by_cases h0 : s.2.2 = 0
  · rw [if_pos h0]
  · rw [if_neg h0]
theorem may_check {g : Gr} (h : mayL g = true) : checkL g = (0, 0, 0) := by
  obtain ⟨h0, h1, h2, h3, h4⟩ := may_iff.1 h
  rw [checkL, tellS_none h4, tellS_none h3, tellS_none h2, tellS_none h1, tellS_none (fun _ _ => h0)]
theorem may_limit {g : Gr} (h : FewG g) : limitE g = 0 := by
  unfold limitE
  have e : g.us.any (fun u => decide (8 < u.roles.length)) = false := by
    rw [List.any_eq_false]; intro u hu; have := h.ro u hu; simp; omega
  rw [if_neg (by have := h.gs; omega), if_neg (by have := h.es; omega), if_neg (by have := h.rs; omega), if_neg (by have := h.us; omega), e, if_neg (by decide)]
/-- The first groups alone. -/
theorem may_groups {g c : Gr} {a : Nat} (h : mayL g = true) (ha : a ≤ g.gs.length) (h1 : c.gs = g.gs.take a) (h2 : c.es = []) (h3 : c.rs = []) (h4 : c.us = []) : mayL c = true := by
  have hf := may_few h
  have hc : c.gs.length = a := by rw [h1, List.length_take]; omega
  refine may_iff.2 ⟨may_limit ⟨by rw [hc]; have := hf.gs; omega, by rw [h2]; decide, by rw [h3]; decide, by rw [h4]; decide, by rw [h4]; simp⟩, fun i hi => ?_, by rw [h2]; simp, by rw [h3]; simp, by rw [h4]; simp⟩
  rw [hc] at hi
  have hg := (may_iff.1 h).2.1 i (by omega)
  have e1 : c.gs[i]! = g.gs[i]! := by rw [h1]; exact at_prefix _ hi ha
  have hl : (gns g).length = g.gs.length := by simp [gns]
  have e2 : gns c = (gns g).take a := by rw [gns, h1, List.map_take]; rfl
  obtain ⟨m1, m2, m3⟩ := may_group h (i := i) (by omega)
  rw [groupE, e1, e2, if_pos m1, ahead_prefix _ _ (by omega) (by omega), m2, if_neg (by decide), ahead_prefix _ _ (by omega) (by omega)]
  rcases m3 with m3 | m3
  · rw [if_pos m3]
  · rw [Bool.and_eq_true] at m3
    by_cases h5 : (g.gs[i]!.parent.toList == []) = true
    · rw [if_pos h5]
    · rw [if_neg h5, has_prefix _ _ (Nat.le_of_lt hi) (by omega) m3.2, m3.2]; rfl
/-- All groups, the first events, the first relations alone. -/
theorem may_begin {g c : Gr} {b d : Nat} (h : mayL g = true) (hb : b ≤ g.es.length) (hd : d ≤ g.rs.length) (hbd : d = 0 ∨ b = g.es.length) (h1 : c.gs = g.gs) (h2 : c.es = g.es.take b) (h3 : c.rs = g.rs.take d) (h4 : c.us = []) : mayL c = true := by
  have hf := may_few h
  obtain ⟨_, k1, k2, k3, _⟩ := may_iff.1 h
  have hcb : c.es.length = b := by rw [h2, List.length_take]; omega
  have hcd : c.rs.length = d := by rw [h3, List.length_take]; omega
  have eg : gns c = gns g := by rw [gns, h1]; rfl
  have ee : ens c = (ens g).take b := by rw [ens, h2, List.map_take]; rfl
  have er : rks c = (rks g).take d := by rw [rks, h3, List.map_take]; rfl
  have hl1 : (ens g).length = g.es.length := by simp [ens]
  have hl2 : (rks g).length = g.rs.length := by simp [rks]
  refine may_iff.2 ⟨may_limit ⟨by rw [h1]; exact hf.gs, by rw [hcb]; have := hf.es; omega, by rw [hcd]; have := hf.rs; omega, by rw [h4]; decide, by rw [h4]; simp⟩, fun i hi => ?_, fun i hi => ?_, fun i hi => ?_, by rw [h4]; simp⟩
  · rw [h1] at hi
    have := k1 i hi
    rw [groupE] at this ⊢
    rw [eg, h1]; exact this
  · rw [hcb] at hi
    have := k2 i (by omega)
    rw [eventE] at this ⊢
    rw [eg, ee, show c.es[i]! = g.es[i]! from by rw [h2]; exact at_prefix _ hi hb, ahead_prefix _ _ (by omega) (by omega)]
    exact this
  · rw [hcd] at hi
    have hbe : b = g.es.length := by rcases hbd with e | e <;> omega
    have := k3 i (by omega)
    have et : ∀ s, thereB c s = thereB g s := fun s => by
      rw [thereB, thereB, eg, ee, hbe, ← hl1, List.take_length]
    rw [relE] at this ⊢
    rw [er, show c.rs[i]! = g.rs[i]! from by rw [h3]; exact at_prefix _ hi hd, ahead_prefix _ _ (by omega) (by omega), et, et]
    exact this


def nm (g : Gr) (i : Nat) : Key := g.gs[i]!.name.toList
def pr (g : Gr) (i : Nat) : Key := g.gs[i]!.parent.toList
theorem gns_eq (g : Gr) {i : Nat} (h : i < (gns g).length) : (gns g)[i] = nm g i := by
  have hl : (gns g).length = g.gs.length := by simp [gns]
  have h1 := gns_at g (i := i) (by omega)
  rw [List.getElem?_eq_getElem h] at h1
  exact Option.some.inj h1
theorem ahead_iff {g : Gr} {k : Key} {i : Nat} (hi : i ≤ g.gs.length) : aheadB (gns g) k i = true ↔ ∃ j, j < i ∧ nm g j = k := by
  have hl : (gns g).length = g.gs.length := by simp [gns]
  rw [ahead_take _ _ _ (by omega), List.contains_iff_mem]
  constructor
  · intro h
    obtain ⟨j, hj, he⟩ := List.getElem_of_mem h
    rw [List.length_take] at hj
    rw [List.getElem_take, gns_eq] at he
    exact ⟨j, by omega, he⟩
  · rintro ⟨j, hj, rfl⟩
    rw [← gns_eq g (i := j) (by omega)]
    have h3 : j < ((gns g).take i).length := by rw [List.length_take]; omega
    have h4 : ((gns g).take i)[j] = (gns g)[j] := List.getElem_take
    rw [← h4]; exact List.getElem_mem h3
theorem nm_ne {g : Gr} (h : mayL g = true) {i : Nat} (hi : i < g.gs.length) : nm g i ≠ [] := by
  intro e
  have := (may_group h hi).1
  rw [show g.gs[i]!.name.toList = [] from e, nameK_nil] at this; cases this
theorem nm_inj {g : Gr} (h : mayL g = true) {i j : Nat} (hi : i < g.gs.length) (hj : j < g.gs.length) (e : nm g i = nm g j) : i = j := by
  rcases Nat.lt_trichotomy i j with hl | hl | hl
  · have h1 : aheadB (gns g) (nm g j) j = false := (may_group h hj).2.1
    rw [(ahead_iff (by omega)).2 ⟨i, hl, e⟩] at h1; cases h1
  · exact hl
  · have h1 : aheadB (gns g) (nm g i) i = false := (may_group h hi).2.1
    rw [(ahead_iff (by omega)).2 ⟨j, hl, e.symm⟩] at h1; cases h1
theorem pr_cases {g : Gr} (h : mayL g = true) {i : Nat} (hi : i < g.gs.length) : pr g i = [] ∨ ∃ y, y < i ∧ pr g i = nm g y := by
  rcases (may_group h hi).2.2 with h1 | h1
  · left; exact beq_iff_eq.1 h1
  · right
    rw [Bool.and_eq_true] at h1
    obtain ⟨y, hy, e⟩ := (ahead_iff (Nat.le_of_lt hi)).1 h1.2
    exact ⟨y, hy, e.symm⟩
theorem inB_stage (g : Gr) (s : Key) : ∀ (i : Nat) (k : Key), inB g s i k = true ↔ ∃ j, j < i ∧ nm g j = k ∧ (inB g s j (pr g j) = true ∨ nm g j = s)
  | 0, k => by simp [inB]
  | i + 1, k => by
    have ih := inB_stage g s i
    rw [inB]
    by_cases hH : (inB g s i g.gs[i]!.parent.toList || g.gs[i]!.name.toList == s) = true
    · rw [if_pos hH, Bool.or_eq_true, beq_iff_eq, ih k]
      rw [Bool.or_eq_true, beq_iff_eq] at hH
      constructor
      · rintro (h1 | ⟨j, hj, h1⟩)
        · exact ⟨i, by omega, h1.symm, hH⟩
        · exact ⟨j, by omega, h1⟩
      · rintro ⟨j, hj, h1, h2⟩
        by_cases e : j = i
        · subst e; exact .inl h1.symm
        · exact .inr ⟨j, by omega, h1, h2⟩
    · rw [if_neg hH, ih k]
      rw [Bool.or_eq_true, beq_iff_eq] at hH
      constructor
      · rintro ⟨j, hj, h1⟩; exact ⟨j, by omega, h1⟩
      · rintro ⟨j, hj, h1, h2⟩
        by_cases e : j = i
        · subst e; exact absurd h2 hH
        · exact ⟨j, by omega, h1, h2⟩
/-- A group lies in s: it is s, or its parent lies in s. -/
theorem inB_rec {g : Gr} (h : mayL g = true) (s : Key) {z : Nat} (hz : z < g.gs.length) :
    inB g s g.gs.length (nm g z) = true ↔ nm g z = s ∨ ∃ y, y < z ∧ pr g z = nm g y ∧ inB g s g.gs.length (nm g y) = true := by
  have hH : ∀ j, j < g.gs.length → (inB g s g.gs.length (nm g j) = true ↔ (inB g s j (pr g j) = true ∨ nm g j = s)) := by
    intro j hj
    rw [inB_stage]
    constructor
    · rintro ⟨i, hi, e, h1⟩
      obtain rfl := nm_inj h hi hj e
      exact h1
    · intro h1; exact ⟨j, hj, rfl, h1⟩
  rw [hH z hz, inB_stage]
  constructor
  · rintro (⟨y, hy, e, h1⟩ | h1)
    · exact .inr ⟨y, hy, e.symm, (hH y (by omega)).2 h1⟩
    · exact .inl h1
  · rintro (h1 | ⟨y, hy, e, h1⟩)
    · exact .inr h1
    · exact .inl ⟨y, hy, e.symm, (hH y (by omega)).1 h1⟩
theorem inB_le {g : Gr} (h : mayL g = true) {x : Nat} (hx : x < g.gs.length) : ∀ z, z < g.gs.length → inB g (nm g x) g.gs.length (nm g z) = true → x ≤ z := by
  intro z
  induction z using Nat.strongRecOn with
  | _ z ih =>
    intro hz h1
    rcases (inB_rec h _ hz).1 h1 with e | ⟨y, hy, _, h2⟩
    · rw [nm_inj h hz hx e]; exact Nat.le_refl _
    · have := ih y hy (by omega) h2; omega
def bit (b : Bool) : Nat := if b then 1 else 0
/-- How many of the groups in s, of which it is the parent, hold a group of that name. -/
def kids (g : Gr) (s c : Key) : Nat := ((List.range g.gs.length).map fun x => bit (pr g x == s && inB g (nm g x) g.gs.length c)).sum
theorem sum_zero {f : Nat → Nat} : ∀ {l : List Nat}, (∀ x ∈ l, f x = 0) → (l.map f).sum = 0
  | [], _ => rfl
  | x :: r, h => by rw [List.map_cons, List.sum_cons, h x (by simp), sum_zero (fun y hy => h y (by simp [hy]))]
theorem sum_add {f h : Nat → Nat} : ∀ l : List Nat, (l.map fun x => f x + h x).sum = (l.map f).sum + (l.map h).sum
  | [] => rfl
  | x :: r => by simp only [List.map_cons, List.sum_cons, sum_add r]; omega
theorem sum_congr {f h : Nat → Nat} : ∀ {l : List Nat}, (∀ x ∈ l, f x = h x) → (l.map f).sum = (l.map h).sum
  | [], _ => rfl
  | x :: r, e => by rw [List.map_cons, List.map_cons, List.sum_cons, List.sum_cons, e x (List.mem_cons_self ..), sum_congr (l := r) (fun y hy => e y (List.mem_cons_of_mem _ hy))]
theorem sum_one {n z : Nat} (hz : z < n) (v : Nat) : ((List.range n).map fun x => if x = z then v else 0).sum = v := by
  induction n with
  | zero => omega
  | succ n ih =>
    rw [List.range_succ, List.map_append, List.sum_append]
    by_cases e : z = n
    · subst e
      rw [sum_zero (fun x hx => if_neg (by have := List.mem_range.1 hx; omega))]
      simp
    · rw [ih (by omega)]
      simp [Ne.symm e]
theorem kids_step {g : Gr} (h : mayL g = true) {i : Nat} (hi : i < g.gs.length) : ∀ z, z < g.gs.length → bit (inB g (nm g i) g.gs.length (nm g z)) = bit (nm g z == nm g i) + kids g (nm g i) (nm g z) := by
  intro z
  induction z using Nat.strongRecOn with
  | _ z ih =>
    intro hz
    rcases pr_cases h hz with hp | ⟨y, hy, hp⟩
    · -- no parent
      have hk : kids g (nm g i) (nm g z) = 0 := sum_zero (fun x hx => by
        have hx' := List.mem_range.1 hx
        by_cases e : pr g x = nm g i
        · have : inB g (nm g x) g.gs.length (nm g z) = false := by
            rw [Bool.eq_false_iff]
            intro h1
            rcases (inB_rec h _ hz).1 h1 with e1 | ⟨y, hy, e2, _⟩
            · obtain rfl := nm_inj h hz hx' e1
              rw [hp] at e
              exact nm_ne h hi e.symm
            · rw [hp] at e2
              exact nm_ne h (by omega) e2.symm
          rw [this, Bool.and_false]; rfl
        · rw [beq_eq_false_iff_ne.2 e]; rfl)
      rw [hk, Nat.add_zero]
      have : inB g (nm g i) g.gs.length (nm g z) = (nm g z == nm g i) := by
        rw [Bool.eq_iff_iff, beq_iff_eq, inB_rec h _ hz]
        constructor
        · rintro (e | ⟨y, hy, e2, _⟩)
          · exact e
          · rw [hp] at e2; exact absurd e2.symm (nm_ne h (by omega))
        · exact fun e => .inl e
      rw [this]
    · have hyn : y < g.gs.length := by omega
      have hrec : ∀ s, inB g s g.gs.length (nm g z) = true ↔ nm g z = s ∨ inB g s g.gs.length (nm g y) = true := by
        intro s
        rw [inB_rec h s hz]
        constructor
        · rintro (e | ⟨y', hy', e2, h2⟩)
          · exact .inl e
          · obtain rfl := nm_inj h (by omega) hyn (e2.symm.trans hp)
            exact .inr h2
        · rintro (e | h2)
          · exact .inl e
          · exact .inr ⟨y, hy, hp, h2⟩
      have hstep : ∀ x, x < g.gs.length → bit (inB g (nm g x) g.gs.length (nm g z)) = (if x = z then 1 else 0) + bit (inB g (nm g x) g.gs.length (nm g y)) := by
        intro x hx
        by_cases e : x = z
        · have h0 : inB g (nm g x) g.gs.length (nm g y) = false := by
            rw [Bool.eq_false_iff]; intro h1; have := inB_le h hx y hyn h1; omega
          have h1 : inB g (nm g x) g.gs.length (nm g z) = true := (hrec _).2 (.inl (by rw [e]))
          rw [h0, h1, if_pos e]; rfl
        · have h1 : inB g (nm g x) g.gs.length (nm g z) = inB g (nm g x) g.gs.length (nm g y) := by
            rw [Bool.eq_iff_iff, hrec]
            exact ⟨fun h1 => h1.resolve_left (fun e1 => e (nm_inj h hx hz e1.symm)), .inr⟩
          rw [h1, if_neg e, Nat.zero_add]
      have hk : kids g (nm g i) (nm g z) = bit (nm g y == nm g i) + kids g (nm g i) (nm g y) := by
        have e1 : kids g (nm g i) (nm g z) = ((List.range g.gs.length).map fun x => (if x = z then bit (nm g y == nm g i) else 0) + bit (pr g x == nm g i && inB g (nm g x) g.gs.length (nm g y))).sum := sum_congr (fun x hx => by
          have hx' := List.mem_range.1 hx
          by_cases e : pr g x = nm g i
          · rw [show (pr g x == nm g i) = true from beq_iff_eq.2 e, Bool.true_and, Bool.true_and, hstep x hx']
            by_cases ez : x = z
            · subst ez
              rw [if_pos rfl, if_pos rfl, show (nm g y == nm g i) = true from beq_iff_eq.2 (hp.symm.trans e)]; rfl
            · rw [if_neg ez, if_neg ez]
          · rw [show (pr g x == nm g i) = false from beq_eq_false_iff_ne.2 e, Bool.false_and, Bool.false_and]
            by_cases ez : x = z
            · subst ez
              rw [if_pos rfl, show (nm g y == nm g i) = false from beq_eq_false_iff_ne.2 (fun e2 => e (hp.trans e2))]; rfl
            · rw [if_neg ez]; rfl)
        rw [e1, sum_add, sum_one hz]; rfl
      rw [hk, ← ih y hy hyn, hstep i hi]
      congr 1
      by_cases e : i = z
      · rw [if_pos e, e, show (nm g z == nm g z) = true from beq_self_eq_true _]; rfl
      · rw [if_neg e, show (nm g z == nm g i) = false from beq_eq_false_iff_ne.2 (fun e2 => e (nm_inj h hi hz e2.symm))]; rfl
theorem inB_has {g : Gr} {s c : Key} (h1 : inB g s g.gs.length c = true) : ∃ z, z < g.gs.length ∧ nm g z = c := by
  obtain ⟨j, hj, e, _⟩ := (inB_stage g s _ c).1 h1
  exact ⟨j, hj, e⟩
theorem kids_any {g : Gr} (h : mayL g = true) {i : Nat} (hi : i < g.gs.length) (c : Key) : bit (inB g (nm g i) g.gs.length c) = bit (c == nm g i) + kids g (nm g i) c := by
  by_cases hc : ∃ z, z < g.gs.length ∧ nm g z = c
  · obtain ⟨z, hz, rfl⟩ := hc; exact kids_step h hi z hz
  · have h0 : ∀ s, inB g s g.gs.length c = false := fun s => by rw [Bool.eq_false_iff]; exact fun h1 => hc (inB_has h1)
    have hk : kids g (nm g i) c = 0 := sum_zero (fun x _ => by rw [h0, Bool.and_false]; rfl)
    rw [h0, hk, show (c == nm g i) = false from beq_eq_false_iff_ne.2 (fun e => hc ⟨i, hi, e.symm⟩)]; rfl
/-- The events of a group, counted: its own, and those of the groups of which it is the parent. -/
def own_ (g : Gr) (s : Key) (m : Nat) : Nat := ((List.range m).map fun k => bit (g.es[k]!.group.toList == s)).sum
def below_ (g : Gr) (s : Key) (j m : Nat) : Nat := ((List.range j).map fun x => if pr g x = s then (filL g (nm g x) m).length else 0).sum
theorem filL_len (g : Gr) (s : Key) (m : Nat) : (filL g s (m + 1)).length = (filL g s m).length + bit (inB g s g.gs.length g.es[m]!.group.toList) := by
  cases h : inB g s g.gs.length g.es[m]!.group.toList with
  | true => rw [filL_yes h, List.length_append]; rfl
  | false => rw [filL_no h]; rfl
theorem nest_count {g : Gr} (h : mayL g = true) {i : Nat} (hi : i < g.gs.length) : ∀ m, (filL g (nm g i) m).length = own_ g (nm g i) m + below_ g (nm g i) g.gs.length m
  | 0 => by
    have : below_ g (nm g i) g.gs.length 0 = 0 := sum_zero (fun x _ => by simp [filL])
    rw [this]; rfl
  | m + 1 => by
    have ih := nest_count h hi m
    have e1 : own_ g (nm g i) (m + 1) = own_ g (nm g i) m + bit (g.es[m]!.group.toList == nm g i) := by
      rw [own_, List.range_succ, List.map_append, List.sum_append]; simp [own_]
    have e2 : below_ g (nm g i) g.gs.length (m + 1) = below_ g (nm g i) g.gs.length m + kids g (nm g i) g.es[m]!.group.toList := by
      rw [below_, below_, kids, ← sum_add]
      refine sum_congr (fun x _ => ?_)
      by_cases e : pr g x = nm g i
      · rw [if_pos e, if_pos e, filL_len, show (pr g x == nm g i) = true from beq_iff_eq.2 e, Bool.true_and]
      · rw [if_neg e, if_neg e, show (pr g x == nm g i) = false from beq_eq_false_iff_ne.2 e]; rfl
    rw [filL_len, ih, e1, e2, kids_any h hi]; omega
/-- What lies in a group in s, lies in s. -/
theorem inB_up {g : Gr} (h : mayL g = true) {i x : Nat} (hi : i < g.gs.length) (hx : x < g.gs.length) (hp : pr g x = nm g i) {c : Key} (h1 : inB g (nm g x) g.gs.length c = true) : inB g (nm g i) g.gs.length c = true := by
  have h2 := kids_any h hi c
  have h3 : 1 ≤ kids g (nm g i) c := by
    have e : ∀ n, x < n → 1 ≤ ((List.range n).map fun x => bit (pr g x == nm g i && inB g (nm g x) g.gs.length c)).sum := by
      intro n
      induction n with
      | zero => intro h; omega
      | succ n ih =>
        intro hn
        rw [List.range_succ, List.map_append, List.sum_append]
        by_cases e : x = n
        · subst e
          have : bit (pr g x == nm g i && inB g (nm g x) g.gs.length c) = 1 := by rw [h1, show (pr g x == nm g i) = true from beq_iff_eq.2 hp]; rfl
          simp only [List.map_cons, List.map_nil, List.sum_cons, List.sum_nil, this]; omega
        · have := ih (by omega); omega
    exact e _ hx
  cases h4 : inB g (nm g i) g.gs.length c with
  | true => rfl
  | false => rw [h4] at h2; unfold bit at h2; simp only [Bool.false_eq_true, if_false] at h2; omega
theorem inB_self {g : Gr} (h : mayL g = true) {i : Nat} (hi : i < g.gs.length) : inB g (nm g i) g.gs.length (nm g i) = true := (inB_rec h _ hi).2 (.inl rfl)


section
variable {α : Type} [Inhabited α] (nm : α → ByteArray)
theorem idx_le (s : ByteArray) : ∀ (l : List α) (k : Nat), k < l.length → ((nm l[k]!).toList == s.toList) = true → (l.map fun x => (nm x).toList).idxOf s.toList ≤ k
  | [], _, h, _ => by simp at h
  | a :: r, 0, _, h => by
    rw [List.map_cons, List.idxOf_cons]
    have h' : ((nm a).toList == s.toList) = true := h
    rw [h']; exact Nat.le_refl _
  | a :: r, k + 1, hk, h => by
    have ih := idx_le s r k (by simpa using hk) h
    rw [List.map_cons, List.idxOf_cons]
    cases ((nm a).toList == s.toList) with
    | true => exact Nat.zero_le _
    | false => exact Nat.succ_le_succ ih
theorem le_idx (s : ByteArray) : ∀ (l : List α) (n : Nat), n ≤ l.length → (∀ j, j < n → ((nm l[j]!).toList == s.toList) = false) → n ≤ (l.map fun x => (nm x).toList).idxOf s.toList
  | _, 0, _, _ => Nat.zero_le _
  | [], n + 1, h, _ => by simp at h
  | a :: r, n + 1, hn, h => by
    have ih := le_idx s r n (by simpa using hn) (fun j hj => h (j + 1) (by omega))
    have h' : ((nm a).toList == s.toList) = false := h 0 (by omega)
    rw [List.map_cons, List.idxOf_cons, h']
    exact Nat.succ_le_succ ih
theorem ahead_hit {s : ByteArray} {l : List α} {k n : Nat} (hk : k < n) (hl : k < l.length) (h : ((nm l[k]!).toList == s.toList) = true) : aheadB (l.map fun x => (nm x).toList) s.toList n = true := by
  have := idx_le nm s l k hl h
  unfold aheadB; rw [decide_eq_true_eq]; omega
theorem ahead_miss {s : ByteArray} {l : List α} {n : Nat} (hn : n ≤ l.length) (h : ∀ j, j < n → ((nm l[j]!).toList == s.toList) = false) : aheadB (l.map fun x => (nm x).toList) s.toList n = false := by
  have := le_idx nm s l n hn h
  unfold aheadB; rw [decide_eq_false_iff_not]; omega
theorem at_hit {s : ByteArray} {l : List α} {k : Nat} (hl : k < l.length) (h : ((nm l[k]!).toList == s.toList) = true) (hm : ∀ j, j < k → ((nm l[j]!).toList == s.toList) = false) : (l.map fun x => (nm x).toList).idxOf s.toList = k := by
  have h1 := idx_le nm s l k hl h
  have h2 := le_idx nm s l k (by omega) hm
  omega
theorem no_more {s : ByteArray} {l : List α} {k : Nat} (h : ∀ j, j < k → ((nm l[j]!).toList == s.toList) = false) (hk : ((nm l[k]!).toList == s.toList) = false) : ∀ j, j < k + 1 → ((nm l[j]!).toList == s.toList) = false := by
  intro j hj
  rcases Nat.lt_or_ge j k with h1 | h1
  · exact h j h1
  · obtain rfl : j = k := by omega
    exact hk
omit [Inhabited α] in
theorem ahead_all {s : ByteArray} {l : List α} : aheadB (l.map fun x => (nm x).toList) s.toList l.length = hasB (l.map fun x => (nm x).toList) s.toList := by
  rw [Bool.eq_iff_iff]
  unfold aheadB hasB
  rw [decide_eq_true_eq, List.contains_iff_mem, ← List.idxOf_lt_length_iff, List.length_map]
end
theorem box_was {w w1 : World} {g : Gr} (hb : Below (w.heap.size + 1) (boxW w g) w1) : Below w.heap.size w w1 :=
  (box_below w g).trans (hb.mono (by omega))

set_option maxRecDepth 100000 in
set_option maxHeartbeats 1000000 in
theorem hasGroup_any (w : World) (g : Gr) (s : ByteArray) (n : Nat) (hI : InG w g) (hz : g.gs.length * 32 ≤ 140737488351232) (hn : n ≤ g.gs.length) :
    Calls Try.prog 91 #[.agg #[.slice g.ga g.gs.length g.gc, .slice g.ea g.es.length g.ec, .slice g.ra g.rs.length g.rc, .slice g.ua g.us.length g.uc], .string s, .int .i64 n] w fun e w' => e = .returned (.bool (aheadB (gns g) s.toList n)) ∧ Below w.heap.size w w' := by
  have HI := Lib.hid hI.gs
  clear hI
  go_enter Try.func91, Try.ntmps91
  go_wp2_with fail
  go_loopw [7] (fun i wr => ∃ k : Nat, k ≤ n ∧ i = .int .i64 k ∧ Hid (∀ j, j < k → ((Gp.name g.gs[j]!).toList == s.toList) = false) ∧ Below (w.heap.size + 1) (boxW w g) wr) (fun i _ => n - (intOf i).toNat)
  case atStart => exact ⟨0, Nat.zero_le _, rfl, Lib.hid (fun j hj => absurd hj (Nat.not_lt_zero _)), by rw [← box_size w g]; exact Below.refl _ _⟩
  case round =>
    obtain ⟨k, hk, rfl, HR, hB⟩ := hrel
    obtain ⟨a0, a1, a2, a3⟩ := box_cells hB
    by_cases hlt : k < n
    · have hll : k < g.gs.length := by omega
      obtain ⟨b, off, hA, hb, hc⟩ := HI.out.at_ (k := 2) (fun _ => rfl) (by omega) hll
      have k0 := hc 0 _ rfl
      rw [Nat.add_zero] at k0
      have k1 := hc 1 _ rfl
      rw [← (box_was hB).cell (p := ⟨b, _, none⟩) hb] at k0 k1
      rw [hA] at a0
      have hk0 : (0 : Int) ≤ (k : Int) := Int.natCast_nonneg _
      have hk1 : (k : Int) < (g.gs.length : Int) := by omega
      have hk2 : (k : Int) < (n : Int) := by omega
      clear hc hA
      cases hq : ((Gp.name g.gs[k]!).toList == s.toList) with
      | true =>
        have HF := Lib.hid (ahead_hit Gp.name hlt hll hq)
        clear HR
        generalize g.gs[k]! = p at *
        go_wp2_with fail
        go_ret
        exact ⟨ret_bool HF.out.symm, box_was hB⟩
      | false =>
        have HR' := Lib.hid (no_more Gp.name HR.out hq)
        clear HR
        generalize g.gs[k]! = p at *
        go_wp2_with fail
        go_roundw
        case rel => exact ⟨k + 1, hlt, by go_num, HR', hB⟩
        case measure => simp [intOf]; omega
    · obtain rfl : k = n := by omega
      have HF := Lib.hid (ahead_miss Gp.name hn HR.out)
      have hk2 : ¬ (k : Int) < (k : Int) := by omega
      clear HR
      go_wp2_with fail
      go_ret
      exact ⟨ret_bool HF.out.symm, box_was hB⟩

set_option maxRecDepth 100000 in
set_option maxHeartbeats 1000000 in
theorem hasEvent_any (w : World) (g : Gr) (s : ByteArray) (n : Nat) (hI : InG w g) (hz : g.es.length * 64 ≤ 140737488351232) (hn : n ≤ g.es.length) :
    Calls Try.prog 92 #[.agg #[.slice g.ga g.gs.length g.gc, .slice g.ea g.es.length g.ec, .slice g.ra g.rs.length g.rc, .slice g.ua g.us.length g.uc], .string s, .int .i64 n] w fun e w' => e = .returned (.bool (aheadB (ens g) s.toList n)) ∧ Below w.heap.size w w' := by
  have HI := Lib.hid hI.es
  clear hI
  go_enter Try.func92, Try.ntmps92
  go_wp2_with fail
  go_loopw [7] (fun i wr => ∃ k : Nat, k ≤ n ∧ i = .int .i64 k ∧ Hid (∀ j, j < k → ((Ev.name g.es[j]!).toList == s.toList) = false) ∧ Below (w.heap.size + 1) (boxW w g) wr) (fun i _ => n - (intOf i).toNat)
  case atStart => exact ⟨0, Nat.zero_le _, rfl, Lib.hid (fun j hj => absurd hj (Nat.not_lt_zero _)), by rw [← box_size w g]; exact Below.refl _ _⟩
  case round =>
    obtain ⟨k, hk, rfl, HR, hB⟩ := hrel
    obtain ⟨a0, a1, a2, a3⟩ := box_cells hB
    by_cases hlt : k < n
    · have hll : k < g.es.length := by omega
      obtain ⟨b, off, hA, hb, hc⟩ := HI.out.at_ (k := 6) (fun _ => rfl) (by omega) hll
      have k0 := hc 0 _ rfl
      rw [Nat.add_zero] at k0
      have k1 := hc 1 _ rfl
      have k2 := hc 2 _ rfl
      have k3 := hc 3 _ rfl
      have k4 := hc 4 _ rfl
      have k5 := hc 5 _ rfl
      rw [← (box_was hB).cell (p := ⟨b, _, none⟩) hb] at k0 k1 k2 k3 k4 k5
      rw [hA] at a1
      have hk0 : (0 : Int) ≤ (k : Int) := Int.natCast_nonneg _
      have hk1 : (k : Int) < (g.es.length : Int) := by omega
      have hk2 : (k : Int) < (n : Int) := by omega
      clear hc hA
      cases hq : ((Ev.name g.es[k]!).toList == s.toList) with
      | true =>
        have HF := Lib.hid (ahead_hit Ev.name hlt hll hq)
        clear HR
        generalize g.es[k]! = p at *
        go_wp2_with fail
        go_ret
        exact ⟨ret_bool HF.out.symm, box_was hB⟩
      | false =>
        have HR' := Lib.hid (no_more Ev.name HR.out hq)
        clear HR
        generalize g.es[k]! = p at *
        go_wp2_with fail
        go_roundw
        case rel => exact ⟨k + 1, hlt, by go_num, HR', hB⟩
        case measure => simp [intOf]; omega
    · obtain rfl : k = n := by omega
      have HF := Lib.hid (ahead_miss Ev.name hn HR.out)
      have hk2 : ¬ (k : Int) < (k : Int) := by omega
      clear HR
      go_wp2_with fail
      go_ret
      exact ⟨ret_bool HF.out.symm, box_was hB⟩

/-- The first user of a name, among some. -/
def userAt (g : Gr) (s : List UInt8) (n : Nat) : Int := if aheadB (uns g) s n then ((uns g).idxOf s : Int) else -1
theorem user_hit {g : Gr} {s : ByteArray} {k n : Nat} (hk : k < n) (hl : k < g.us.length) (h : ((Us.name g.us[k]!).toList == s.toList) = true) (hm : ∀ j, j < k → ((Us.name g.us[j]!).toList == s.toList) = false) : userAt g s.toList n = k := by
  unfold userAt
  rw [if_pos (show aheadB (uns g) s.toList n = true from ahead_hit Us.name hk hl h)]
  exact congrArg _ (at_hit Us.name hl h hm)
theorem user_miss {g : Gr} {s : ByteArray} {n : Nat} (h : aheadB (uns g) s.toList n = false) : userAt g s.toList n = -1 := by
  unfold userAt; rw [h]; rfl

set_option maxRecDepth 100000 in
set_option maxHeartbeats 1000000 in
theorem hasUser_any (w : World) (g : Gr) (s : ByteArray) (n : Nat) (hI : InG w g) (hz : g.us.length * 56 ≤ 140737488351232) (hn : n ≤ g.us.length) :
    Calls Try.prog 94 #[.agg #[.slice g.ga g.gs.length g.gc, .slice g.ea g.es.length g.ec, .slice g.ra g.rs.length g.rc, .slice g.ua g.us.length g.uc], .string s, .int .i64 n] w fun e w' => e = .returned (.int .i64 (userAt g s.toList n)) ∧ Below w.heap.size w w' := by
  have HI := Lib.hid hI.us
  clear hI
  go_enter Try.func94, Try.ntmps94
  go_wp2_with fail
  go_loopw [7] (fun i wr => ∃ k : Nat, k ≤ n ∧ i = .int .i64 k ∧ Hid (∀ j, j < k → ((Us.name g.us[j]!).toList == s.toList) = false) ∧ Below (w.heap.size + 1) (boxW w g) wr) (fun i _ => n - (intOf i).toNat)
  case atStart => exact ⟨0, Nat.zero_le _, rfl, Lib.hid (fun j hj => absurd hj (Nat.not_lt_zero _)), by rw [← box_size w g]; exact Below.refl _ _⟩
  case round =>
    obtain ⟨k, hk, rfl, HR, hB⟩ := hrel
    obtain ⟨a0, a1, a2, a3⟩ := box_cells hB
    by_cases hlt : k < n
    · have hll : k < g.us.length := by omega
      obtain ⟨b, off, hA, hb, hc⟩ := HI.out.at_ (k := 3) (fun _ => rfl) (by omega) hll
      have k0 := hc 0 _ rfl
      rw [Nat.add_zero] at k0
      have k1 := hc 1 _ rfl
      have k2 := hc 2 _ rfl
      rw [← (box_was hB).cell (p := ⟨b, _, none⟩) hb] at k0 k1 k2
      rw [hA] at a3
      have hk0 : (0 : Int) ≤ (k : Int) := Int.natCast_nonneg _
      have hk1 : (k : Int) < (g.us.length : Int) := by omega
      have hk2 : (k : Int) < (n : Int) := by omega
      clear hc hA
      cases hq : ((Us.name g.us[k]!).toList == s.toList) with
      | true =>
        have HF := Lib.hid (user_hit hlt hll hq HR.out)
        clear HR
        generalize g.us[k]! = p at *
        go_wp2_with fail
        go_ret
        exact ⟨ret_i64 HF.out.symm, box_was hB⟩
      | false =>
        have HR' := Lib.hid (no_more Us.name HR.out hq)
        clear HR
        generalize g.us[k]! = p at *
        go_wp2_with fail
        go_roundw
        case rel => exact ⟨k + 1, hlt, by go_num, HR', hB⟩
        case measure => simp [intOf]; omega
    · obtain rfl : k = n := by omega
      have HF := Lib.hid (ahead_miss Us.name hn HR.out)
      have hk2 : ¬ (k : Int) < (k : Int) := by omega
      clear HR
      go_wp2_with fail
      go_ret
      exact ⟨ret_i64 (user_miss HF.out).symm, box_was hB⟩


theorem ba_eq {a b : ByteArray} (h : a.toList = b.toList) : a = b := by
  rw [Lib.toList_data, Lib.toList_data] at h
  cases a; cases b
  exact congrArg ByteArray.mk (Array.toList_inj.1 h)
/-- Groups gone through backwards, from the k-th on. -/
def downL (g : Gr) : Nat → ByteArray → List ByteArray
  | 0, _ => []
  | k + 1, s => if g.gs[k]!.name.toList == s.toList then s :: downL g k g.gs[k]!.parent else downL g k s
theorem down_hit {g : Gr} {k : Nat} {s : ByteArray} (h : (g.gs[k]!.name.toList == s.toList) = true) : downL g (k + 1) s = s :: downL g k g.gs[k]!.parent := by rw [downL, if_pos h]
theorem down_miss {g : Gr} {k : Nat} {s : ByteArray} (h : (g.gs[k]!.name.toList == s.toList) = false) : downL g (k + 1) s = downL g k s := by rw [downL, h]; rfl
theorem down_len (g : Gr) : ∀ (k : Nat) (s : ByteArray), (downL g k s).length ≤ k
  | 0, _ => Nat.le_refl _
  | k + 1, s => by
    rw [downL]
    by_cases h : (g.gs[k]!.name.toList == s.toList) = true
    · rw [if_pos h, List.length_cons]; have := down_len g k g.gs[k]!.parent; omega
    · rw [if_neg h]; have := down_len g k s; omega
theorem down_up {g : Gr} (h : mayL g = true) : ∀ (k : Nat), k ≤ g.gs.length → ∀ s : ByteArray, idxB (named Gp.name s) g.gs < k → ∀ n, k ≤ n → downL g k s = upL g n (idxB (named Gp.name s) g.gs)
  | 0, _, s, hz, n, _ => by rw [up_no g n hz]; rfl
  | k + 1, hk, s, hz, n, hn => by
    cases hq : (g.gs[k]!.name.toList == s.toList) with
    | true =>
      have hi : idxB (named Gp.name s) g.gs = k := idxB_hit (p := named Gp.name s) (by omega) hq (fun j hj => by
        cases hc : named Gp.name s g.gs[j]! with
        | false => rfl
        | true =>
          have e1 : nm g j = nm g k := (beq_iff_eq.1 hc).trans (beq_iff_eq.1 hq).symm
          have := nm_inj h (by omega) (by omega) e1
          omega)
      obtain ⟨m, rfl⟩ : ∃ m, n = m + 1 := ⟨n - 1, by omega⟩
      rw [down_hit hq, hi, up_yes, down_up h k (by omega) g.gs[k]!.parent (up_lt h (by omega)) m (by omega), ba_eq (beq_iff_eq.1 hq)]
    | false =>
      rw [down_miss hq]
      refine down_up h k (by omega) s ?_ n (by omega)
      rcases idxB_cases (named Gp.name s) g.gs with ⟨h1, _⟩ | ⟨z, hz1, h1, h2, _⟩
      · omega
      · have : z ≠ k := by
          rintro rfl
          have h3 : (g.gs[z]!.name.toList == s.toList) = true := h2
          rw [hq] at h3; cases h3
        omega
theorem down_above {g : Gr} (h : mayL g = true) (s : ByteArray) : downL g g.gs.length s = aboveL g s := by
  rw [aboveL, h, if_pos rfl]
  exact down_up h _ (Nat.le_refl _) s (idxB_bounds _ _).2 _ (Nat.le_refl _)

/-- Is a text among some? -/
def hasT (l : List ByteArray) (s : Key) : Bool := l.any fun x => x.toList == s
theorem up_has {g : Gr} (h : mayL g = true) (s : Key) : ∀ z, z < g.gs.length → ∀ n, z < n → hasT (upL g n (z : Int)) s = inB g s g.gs.length (nm g z) := by
  intro z
  induction z using Nat.strongRecOn with
  | _ z ih =>
    intro hz n hn
    obtain ⟨m, rfl⟩ : ∃ m, n = m + 1 := ⟨n - 1, by omega⟩
    rw [up_yes, hasT, List.any_cons, Bool.eq_iff_iff, Bool.or_eq_true, beq_iff_eq, inB_rec h s hz]
    have hul := up_lt h hz
    rcases idxB_cases (named Gp.name g.gs[z]!.parent) g.gs with ⟨h1, h2⟩ | ⟨y, hy, h1, h2, _⟩
    · rw [h1, up_no g m (by omega)]
      constructor
      · rintro (e | e)
        · exact .inl e
        · simp at e
      · rintro (e | ⟨y, hy, e, _⟩)
        · exact .inl e
        · have h3 := h2 y (by omega)
          have h4 : named Gp.name g.gs[z]!.parent g.gs[y]! = true := beq_iff_eq.2 e.symm
          rw [h3] at h4; cases h4
    · rw [h1] at hul ⊢
      have hyz : y < z := by omega
      have e1 : pr g z = nm g y := (beq_iff_eq.1 h2).symm
      have h3 := ih y hyz hy m (by omega)
      rw [hasT] at h3
      rw [h3]
      constructor
      · rintro (e | e)
        · exact .inl e
        · exact .inr ⟨y, hyz, e1, e⟩
      · rintro (e | ⟨x, hx, e2, e3⟩)
        · exact .inl e
        · right
          rw [e1] at e2
          rw [e2]; exact e3
theorem above_has {g : Gr} (h : mayL g = true) (s : Key) (c : ByteArray) : hasT (aboveL g c) s = inB g s g.gs.length c.toList := by
  rw [aboveL, h, if_pos rfl]
  rcases idxB_cases (named Gp.name c) g.gs with ⟨h1, h2⟩ | ⟨y, hy, h1, h2, _⟩
  · rw [h1, up_no g _ (by omega)]
    cases hc : inB g s g.gs.length c.toList with
    | false => rfl
    | true =>
      obtain ⟨z, hz, e⟩ := inB_has hc
      have h3 := h2 z hz
      have h4 : named Gp.name c g.gs[z]! = true := beq_iff_eq.2 e
      rw [h3] at h4; cases h4
  · rw [h1, up_has h s y hy _ hy]
    exact congrArg _ (beq_iff_eq.1 h2)
/-- Is an event of a name, or in a group of that name? -/
def memR (g : Gr) (s : ByteArray) (i : Nat) : Bool := g.es[i]!.name.toList == s.toList || hasT (aboveL g g.es[i]!.group) s.toList
def memF (g : Gr) (s : ByteArray) (k : Nat) : List Nat := (List.range k).filter (memR g s)
theorem memF_yes {g : Gr} {s : ByteArray} {k : Nat} (h : memR g s k = true) : memF g s (k + 1) = memF g s k ++ [k] := by
  simp only [memF, List.range_succ, List.filter_append, List.filter_cons, h, if_true, List.filter_nil]
theorem memF_no {g : Gr} {s : ByteArray} {k : Nat} (h : memR g s k = false) : memF g s (k + 1) = memF g s k := by
  simp only [memF, List.range_succ, List.filter_append, List.filter_cons, h, Bool.false_eq_true, if_false, List.filter_nil, List.append_nil]
theorem memF_le (g : Gr) (s : ByteArray) (k : Nat) : (memF g s k).length ≤ k := by
  have := List.length_filter_le (memR g s) (List.range k)
  rw [List.length_range] at this; exact this
theorem range_one (q : Nat) : ∀ n, (List.range n).filter (fun i => i == q) = if q < n then [q] else []
  | 0 => rfl
  | n + 1 => by
    rw [List.range_succ, List.filter_append, range_one q n, List.filter_cons]
    by_cases e : n = q
    · subst e
      rw [if_neg (Nat.lt_irrefl _), if_pos (Nat.lt_succ_self _), if_pos (by simp)]; rfl
    · have e' : ¬ ((n == q) = true) := fun h => e (beq_iff_eq.1 h)
      rw [List.filter_nil, if_neg e', List.append_nil]
      by_cases h : q < n
      · rw [if_pos h, if_pos (by omega)]
      · rw [if_neg h, if_neg (by omega)]
theorem may_event {g : Gr} (h : mayL g = true) {i : Nat} (hi : i < g.es.length) : hasB (gns g) g.es[i]!.name.toList = false ∧ aheadB (ens g) g.es[i]!.name.toList i = false := by
  have h1 := (may_iff.1 h).2.2.1 i hi
  unfold eventE at h1
  by_cases a : (nameK g.es[i]!.name.toList && nameK g.es[i]!.role.toList && (g.es[i]!.group.toList == [] || nameK g.es[i]!.group.toList)) = true
  · rw [if_pos a] at h1
    by_cases b : (hasB (gns g) g.es[i]!.name.toList || aheadB (ens g) g.es[i]!.name.toList i) = true
    · rw [if_pos b] at h1; cases h1
    · simpa using b
  · rw [if_neg a] at h1; cases h1
theorem ev_inj {g : Gr} (h : mayL g = true) {i j : Nat} (hj : j < g.es.length) (hij : i < j) : g.es[i]!.name.toList ≠ g.es[j]!.name.toList := by
  intro e
  have h1 := (may_event h hj).2
  have h2 : aheadB (ens g) g.es[j]!.name.toList j = true := ahead_hit Ev.name hij (by omega) (beq_iff_eq.2 e)
  rw [h1] at h2; cases h2
theorem not_group {g : Gr} (h : mayL g = true) {i : Nat} (hi : i < g.es.length) (c : Key) : inB g g.es[i]!.name.toList g.gs.length c = false := by
  cases hc : inB g g.es[i]!.name.toList g.gs.length c with
  | false => rfl
  | true =>
    exfalso
    have key : ∀ z, z < g.gs.length → inB g g.es[i]!.name.toList g.gs.length (nm g z) = true → ∃ y, y < g.gs.length ∧ nm g y = g.es[i]!.name.toList := by
      intro z
      induction z using Nat.strongRecOn with
      | _ z ih =>
        intro hz h1
        rcases (inB_rec h _ hz).1 h1 with e | ⟨y, hy, _, h2⟩
        · exact ⟨z, hz, e⟩
        · exact ih y hy (by omega) h2
    obtain ⟨z, hz, rfl⟩ := inB_has hc
    obtain ⟨y, hy, e⟩ := key z hz hc
    have h1 := (may_event h hi).1
    have h2 : hasB (gns g) g.es[i]!.name.toList = true := by
      rw [← e]
      exact List.contains_iff_mem.2 (List.mem_of_getElem? (gns_at g hy))
    rw [h1] at h2; cases h2
theorem memF_mem {g : Gr} (h : mayL g = true) (s : ByteArray) : memF g s g.es.length = memL g s := by
  rw [memL, h, if_pos rfl, memF]
  rcases idxB_cases (named Ev.name s) g.es with ⟨h1, h2⟩ | ⟨q, hq, h1, h2, h3⟩
  · rw [h1, if_neg (by omega), filL]
    refine List.filter_congr fun i hi => ?_
    have hi' := List.mem_range.1 hi
    have h4 : (g.es[i]!.name.toList == s.toList) = false := h2 i hi'
    rw [memR, h4, Bool.false_or, above_has h]
  · rw [h1, if_pos (Int.natCast_nonneg _), Int.toNat_natCast]
    have e : ∀ i ∈ List.range g.es.length, memR g s i = (i == q) := by
      intro i hi
      have hi' := List.mem_range.1 hi
      have hs : g.es[q]!.name.toList = s.toList := beq_iff_eq.1 h2
      rw [memR, above_has h, ← hs, not_group h hq, Bool.or_false, Bool.eq_iff_iff, beq_iff_eq, beq_iff_eq]
      constructor
      · intro e
        rcases Nat.lt_trichotomy i q with hl | hl | hl
        · exact absurd e (ev_inj h hq hl)
        · exact hl
        · exact absurd e.symm (ev_inj h hi' hl)
      · rintro rfl; rfl
    rw [List.filter_congr e, range_one, if_pos hq]


end Go.Proofs.Ytplplkchibefjaa
