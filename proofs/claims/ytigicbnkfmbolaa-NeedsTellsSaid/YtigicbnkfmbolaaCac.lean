/-
  The net the other way round, plainly; walks, and the longest chain; no program. The order of a net, plainly: how many ways wait, who may stand next, and that somebody may where no point leads back; the longest chain; no program. The longest chain, plainly: the points from the last one of the order to the first; no program. How a net lies in memory, and what a walk over it keeps there; no program's function.
-/
import Derived.Test.YtigicbnkfmbolaaCab
import Derived.Test.YtigicbnkfmbolaaCaa
import Derived.Test.YtigicbnkfmbolaaProg
namespace Go.Proofs.Ytigicbnkfmbolaa.R6
/-- Of one point those of which a way leads to it, of the first k. -/
def toL (n : NetL) (k i : Nat) : List Int := ((List.range k).filter fun j => decide (i ∈ wy n j)).map (fun j : Nat => (j : Int))
def turnL (n : NetL) : NetL := (List.range n.length).map (toL n n.length)
theorem turn_len (n : NetL) : (turnL n).length = n.length := by simp [turnL]
/-- A walk of k ways. -/
inductive Wk (n : NetL) : Nat → Nat → Nat → Prop
  | nil {a : Nat} : a < n.length → Wk n 0 a a
  | cons {k a b c : Nat} : b ∈ wy n a → Wk n k b c → Wk n (k + 1) a c
theorem Wk.lt {n : NetL} {k a b : Nat} (h : Wk n k a b) : a < n.length ∧ b < n.length := by
  induction h with
  | nil h => exact ⟨h, h⟩
  | cons h _ ih =>
    refine ⟨?_, ih.2⟩
    rename_i a' b' c' _
    rcases Nat.lt_or_ge a' n.length with h' | h'
    · exact h'
    · rw [wy_out h'] at h; simp at h
theorem Wk.rc {n : NetL} {k a b : Nat} (h : Wk n k a b) : Rc n a b := by
  induction h with
  | nil _ => exact .refl _ _
  | cons h _ ih => exact (Rc.one h).trans ih
/-- A chain of one way more goes on from a walk that ends. -/
theorem Wk.split {n : NetL} {k a c : Nat} (h : Wk n (k + 1) a c) : ∃ b, Wk n k a b ∧ c ∈ wy n b := by
  induction k generalizing a with
  | zero =>
    cases h with
    | cons h hk => cases hk; exact ⟨a, .nil (by
        rcases Nat.lt_or_ge a n.length with h' | h'
        · exact h'
        · rw [wy_out h'] at h; simp at h), h⟩
  | succ k ih =>
    cases h with
    | cons h hk =>
      obtain ⟨b, h1, h2⟩ := ih hk
      exact ⟨b, .cons h h1, h2⟩
/-- Where k is the greatest number of ways of a walk. -/
def Long (n : NetL) (k : Nat) : Prop := (∀ j a b, Wk n j a b → j ≤ k) ∧ (k = 0 ∨ ∃ a b, Wk n k a b)
end Go.Proofs.Ytigicbnkfmbolaa.R6

namespace Go.Proofs.Ytigicbnkfmbolaa.R6
theorem list_ext {α : Type} [Inhabited α] {a b : List α} (h : a.length = b.length) (g : ∀ i : Nat, i < a.length → a[i]! = b[i]!) : a = b := by
  refine List.ext_getElem h (fun i h1 h2 => ?_)
  have := g i h1
  rw [getElem!_pos a i h1, getElem!_pos b i h2] at this
  exact this
def freeB (n : NetL) (o : List Nat) (i : Nat) : Bool := decide (i ∉ o) && (List.range n.length).all fun j => decide (j ∈ o) || !decide (i ∈ wy n j)
theorem free_iff {n : NetL} {o : List Nat} {i : Nat} : freeB n o i = true ↔ i ∉ o ∧ ∀ j, j < n.length → j ∈ o ∨ i ∉ wy n j := by
  simp only [freeB, Bool.and_eq_true, decide_eq_true_eq, List.all_eq_true, List.mem_range, Bool.or_eq_true, Bool.not_eq_true', decide_eq_false_iff_not]
def nextO (n : NetL) (o : List Nat) : Option Nat := (List.range n.length).find? (freeB n o)
theorem next_mem {n : NetL} {o : List Nat} {i : Nat} (h : nextO n o = some i) : i < n.length ∧ freeB n o i = true := by
  unfold nextO at h
  exact ⟨List.mem_range.1 (List.mem_of_find?_eq_some h), List.find?_some h⟩
/-- What holds of those that stand. -/
structure OI (n : NetL) (o : List Nat) : Prop where
  nd : o.Nodup
  lt : ∀ x ∈ o, x < n.length
  pre : ∀ (i x a : Nat), o[i]? = some x → x ∈ wy n a → ∃ j : Nat, j < i ∧ o[j]? = some a
theorem wy_from {n : NetL} {a b : Nat} (h : b ∈ wy n a) : a < n.length := by
  rcases Nat.lt_or_ge a n.length with h' | h'
  · exact h'
  · rw [wy_out h'] at h; simp at h
theorem OI.next {n : NetL} {o : List Nat} {i : Nat} (h : OI n o) (hi : nextO n o = some i) : OI n (o ++ [i]) := by
  obtain ⟨h1, h2⟩ := next_mem hi
  obtain ⟨h3, h4⟩ := free_iff.1 h2
  refine ⟨?_, fun x hx => ?_, fun k x a hk hw => ?_⟩
  · rw [List.nodup_append]
    exact ⟨h.nd, by simp, fun x hx y hy e => by simp at hy; subst hy; subst e; exact h3 hx⟩
  · rcases List.mem_append.1 hx with hx | hx
    · exact h.lt x hx
    · obtain rfl : x = i := by simpa using hx
      exact h1
  · rcases app_get.1 hk with hk | ⟨rfl, rfl⟩
    · obtain ⟨j, g1, g2⟩ := h.pre k x a hk hw
      exact ⟨j, g1, app_get.2 (.inl g2)⟩
    · rcases h4 a (wy_from hw) with h | h
      · obtain ⟨j, hj⟩ := mem_at.1 h
        exact ⟨j, (List.getElem?_eq_some_iff.1 hj).1, app_get.2 (.inl hj)⟩
      · exact absurd hw h
end Go.Proofs.Ytigicbnkfmbolaa.R6

namespace Go.Proofs.Ytigicbnkfmbolaa.R6
/-- Of a point how long the longest chain is that begins there, from those of its ways. -/
def chainS (a : Nat) (c : List Int) (t : Nat) : List Int := c.set a (max c[a]! (c[t]! + 1))
def chainP (n : NetL) (a : Nat) (c : List Int) : List Int := (wy n a).foldl (chainS a) c
def longS (n : NetL) (s : List Int × Int) (a : Nat) : List Int × Int := (chainP n a s.1, max s.2 (chainP n a s.1)[a]!)
def longR (n : NetL) (r : List Nat) : List Int × Int := r.foldl (longS n) (List.replicate n.length 0, 0)
/-- The longest walk from a point has k ways. -/
def LongF (n : NetL) (a : Nat) (k : Int) : Prop := (∀ (j b : Nat), Wk n j a b → (j : Int) ≤ k) ∧ ∃ j b : Nat, (j : Int) = k ∧ Wk n j a b
structure LI (n : NetL) (r : List Nat) (s : List Int × Int) : Prop where
  len : s.1.length = n.length
  yes : ∀ x ∈ r, x < n.length ∧ LongF n x s.1[x]!
  no : ∀ x, x < n.length → x ∉ r → s.1[x]! = 0
  le : ∀ x ∈ r, s.1[x]! ≤ s.2
  ge : 0 ≤ s.2
  is : s.2 = 0 ∨ ∃ x ∈ r, s.1[x]! = s.2
theorem chain_len (a : Nat) : ∀ (ws : List Nat) (c : List Int), (ws.foldl (chainS a) c).length = c.length
  | [], _ => rfl
  | t :: r, c => by rw [List.foldl_cons, chain_len a r]; simp [chainS]
theorem chain_fold (a : Nat) : ∀ (ws : List Nat) (c : List Int), a < c.length → a ∉ ws →
    (∀ x, x ≠ a → (ws.foldl (chainS a) c)[x]! = c[x]!) ∧ c[a]! ≤ (ws.foldl (chainS a) c)[a]! ∧ (∀ t ∈ ws, c[t]! + 1 ≤ (ws.foldl (chainS a) c)[a]!) ∧ ((ws.foldl (chainS a) c)[a]! = c[a]! ∨ ∃ t ∈ ws, (ws.foldl (chainS a) c)[a]! = c[t]! + 1)
  | [], c, _, _ => ⟨fun _ _ => rfl, Int.le_refl _, fun t ht => by simp at ht, .inl rfl⟩
  | t :: r, c, hc, ha => by
    have hta : t ≠ a := fun e => ha (by simp [e])
    have hra : a ∉ r := fun h => ha (by simp [h])
    have hl : a < (chainS a c t).length := by simpa [chainS] using hc
    obtain ⟨h1, h2, h3, h4⟩ := chain_fold a r (chainS a c t) hl hra
    have hoth : ∀ x, x ≠ a → (chainS a c t)[x]! = c[x]! := fun x hx => by unfold chainS; rw [set_get hc, if_neg hx]
    have hself : (chainS a c t)[a]! = max c[a]! (c[t]! + 1) := by unfold chainS; rw [set_get hc, if_pos rfl]
    rw [List.foldl_cons]
    rw [hself] at h2 h4
    refine ⟨fun x hx => (h1 x hx).trans (hoth x hx), by omega, fun y hy => ?_, ?_⟩
    · rcases List.mem_cons.1 hy with rfl | hy
      · omega
      · have := h3 y hy
        rw [hoth y (fun e => hra (e ▸ hy))] at this; exact this
    · rcases h4 with h4 | ⟨y, hy, h4⟩
      · rcases Int.le_total c[a]! (c[t]! + 1) with h | h
        · exact .inr ⟨t, by simp, by rw [h4, Int.max_eq_right h]⟩
        · exact .inl (by rw [h4, Int.max_eq_left h])
      · rw [hoth y (fun e => hra (e ▸ hy))] at h4
        exact .inr ⟨y, by simp [hy], h4⟩
theorem LI.next {n : NetL} {r : List Nat} {s : List Int × Int} {a : Nat} (h : LI n r s) (ha : a < n.length) (hn : a ∉ r) (hw : ∀ x ∈ wy n a, x ∈ r) : LI n (r ++ [a]) (longS n s a) := by
  have haw : a ∉ wy n a := fun h => hn (hw a h)
  have hal : a < s.1.length := by rw [h.len]; exact ha
  obtain ⟨h1, h2, h3, h4⟩ := chain_fold a (wy n a) s.1 hal haw
  have h0 := h.no a ha hn
  rw [h0] at h2 h4
  have hna : ∀ x ∈ r, x ≠ a := fun x hx e => hn (e ▸ hx)
  have hlong : LongF n a ((wy n a).foldl (chainS a) s.1)[a]! := by
    refine ⟨fun j b hj => ?_, ?_⟩
    · cases hj with
      | nil _ => exact h2
      | cons hb hk =>
        have := h3 _ hb
        have := (h.yes _ (hw _ hb)).2.1 _ _ hk
        omega
    · rcases h4 with h4 | ⟨t, ht, h4⟩
      · exact ⟨0, a, by rw [h4]; rfl, .nil ha⟩
      · obtain ⟨j, b, e, hk⟩ := (h.yes t (hw t ht)).2.2
        exact ⟨j + 1, b, by rw [h4, ← e]; rfl, .cons ht hk⟩
  refine ⟨by show ((wy n a).foldl (chainS a) s.1).length = _; rw [chain_len, h.len], fun x hx => ?_, fun x hx hxr => ?_, fun x hx => ?_, ?_, ?_⟩
  · rcases List.mem_append.1 hx with hx | hx
    · refine ⟨(h.yes x hx).1, ?_⟩
      show LongF n x ((wy n a).foldl (chainS a) s.1)[x]!
      rw [h1 x (hna x hx)]; exact (h.yes x hx).2
    · obtain rfl : x = a := by simpa using hx
      exact ⟨ha, hlong⟩
  · show ((wy n a).foldl (chainS a) s.1)[x]! = 0
    rw [h1 x (fun e => hxr (by simp [e]))]; exact h.no x hx (fun e => hxr (by simp [e]))
  · show ((wy n a).foldl (chainS a) s.1)[x]! ≤ max s.2 ((wy n a).foldl (chainS a) s.1)[a]!
    rcases List.mem_append.1 hx with hx | hx
    · rw [h1 x (hna x hx)]
      have := h.le x hx; omega
    · obtain rfl : x = a := by simpa using hx
      omega
  · show 0 ≤ max s.2 ((wy n a).foldl (chainS a) s.1)[a]!
    omega
  · show max s.2 ((wy n a).foldl (chainS a) s.1)[a]! = 0 ∨ ∃ x ∈ r ++ [a], ((wy n a).foldl (chainS a) s.1)[x]! = max s.2 ((wy n a).foldl (chainS a) s.1)[a]!
    rcases Int.le_total s.2 ((wy n a).foldl (chainS a) s.1)[a]! with hle | hle
    · exact .inr ⟨a, by simp, by rw [Int.max_eq_right hle]⟩
    · rw [Int.max_eq_left hle]
      rcases h.is with e | ⟨x, hx, e⟩
      · exact .inl e
      · exact .inr ⟨x, by simp [hx], by rw [h1 x (hna x hx)]; exact e⟩
theorem LI.start (n : NetL) : LI n [] (longR n []) := by
  refine ⟨by simp [longR], fun x hx => by simp at hx, fun x hx _ => ?_, fun x hx => by simp at hx, Int.le_refl _, .inl rfl⟩
  show (List.replicate n.length (0 : Int))[x]! = 0
  rw [getElem!_pos _ x (by simpa using hx)]; simp
theorem LI.long {n : NetL} {r : List Nat} {s : List Int × Int} (h : LI n r s) (hall : ∀ x, x < n.length → x ∈ r) : Long n s.2.toNat := by
  refine ⟨fun j a b hw => ?_, ?_⟩
  · have h1 := (h.yes a (hall a hw.lt.1)).2.1 j b hw
    have h2 := h.le a (hall a hw.lt.1)
    omega
  · rcases h.is with e | ⟨x, hx, e⟩
    · exact .inl (by rw [e]; rfl)
    · obtain ⟨j, b, e', hw⟩ := (h.yes x hx).2.2
      right
      have : s.2.toNat = j := by omega
      rw [this]; exact ⟨x, b, hw⟩
end Go.Proofs.Ytigicbnkfmbolaa.R6

namespace Go.Proofs.Ytigicbnkfmbolaa.R6
open Go.RowKit Go.Shelf Go.Proofs.Ytigicbnkfmbolaa.B
/-- A point's ways as they lie in memory. -/
structure RW where
  a : Option Addr
  l : List Int
  c : Nat
instance : Inhabited RW := ⟨⟨none, [], 0⟩⟩
def rwC (r : RW) : List Value := [.slice r.a r.l.length r.c]
def netOf (rs : List RW) : NetL := rs.map (·.l)
theorem net_len (rs : List RW) : (netOf rs).length = rs.length := by simp [netOf]
theorem net_at (rs : List RW) (i : Nat) : (netOf rs)[i]! = rs[i]!.l := by
  by_cases h : i < rs.length
  · rw [getElem!_pos _ i (by rw [net_len]; exact h), getElem!_pos rs i h]; simp [netOf]
  · rw [getElem!_neg _ i (by rw [net_len]; exact h), getElem!_neg rs i h]; rfl
structure NetIn (w : World) (A : Option Addr) (rs : List RW) : Prop where
  top : Row w A (rs.flatMap rwC)
  row : ∀ r ∈ rs, Row w r.a (r.l.map (Value.int .i64))
theorem NetIn.below {w w' : World} {A : Option Addr} {rs : List RW} (h : NetIn w A rs) {B : Nat} (hB : w.heap.size ≤ B) (hb : Below B w w') : NetIn w' A rs :=
  ⟨h.top.below hB hb, fun r hr => (h.row r hr).below hB hb⟩
theorem int_flat (l : List Int) : l.map (Value.int .i64) = l.flatMap (fun i => [Value.int .i64 i]) := by induction l <;> simp_all
/-- The cell of one point; the cell of one way. -/
theorem NetIn.at_ {w : World} {A : Option Addr} {rs : List RW} (h : NetIn w A rs) {i : Nat} (hi : i < rs.length) : ∃ b off, A = some ⟨b, off, none⟩ ∧ b < w.heap.size ∧ w.cell? ⟨b, off + i, none⟩ = some (.slice rs[i]!.a rs[i]!.l.length rs[i]!.c) := by
  obtain ⟨b, off, h1, h2, h3⟩ := h.top.at_ (k := 1) (fun _ => rfl) (by omega) hi
  exact ⟨b, off, h1, h2, by have := h3 0 _ rfl; rw [Nat.mul_one, Nat.add_zero] at this; exact this⟩
theorem row_at {w : World} {A : Option Addr} {l : List Int} (h : Row w A (l.map (Value.int .i64))) {i : Nat} (hi : i < l.length) : ∃ b off, A = some ⟨b, off, none⟩ ∧ b < w.heap.size ∧ w.cell? ⟨b, off + i, none⟩ = some (.int .i64 l[i]!) := by
  rw [int_flat] at h
  obtain ⟨b, off, h1, h2, h3⟩ := h.at_ (k := 1) (fun _ => rfl) (by omega) hi
  exact ⟨b, off, h1, h2, by have := h3 0 _ rfl; rw [Nat.mul_one, Nat.add_zero] at this; exact this⟩
/-- Only blocks of F, and new ones, are other. -/
structure Ext (F : Nat → Prop) (W W' : World) : Prop where
  os : W'.os = W.os
  tape : W'.tape = W.tape
  output : W'.output = W.output
  size : W.heap.size ≤ W'.heap.size
  block : ∀ k, k < W.heap.size → ¬ F k → W'.heap[k]? = W.heap[k]?
theorem Ext.refl (F : Nat → Prop) (W : World) : Ext F W W := ⟨rfl, rfl, rfl, Nat.le_refl _, fun _ _ _ => rfl⟩
theorem Ext.trans {F G : Nat → Prop} {a b c : World} (h : Ext F a b) (k : Ext G b c) (hG : ∀ i, G i → F i ∨ a.heap.size ≤ i) : Ext F a c :=
  ⟨k.os.trans h.os, k.tape.trans h.tape, k.output.trans h.output, Nat.le_trans h.size k.size, fun i hi hn => (k.block i (Nat.lt_of_lt_of_le hi h.size) (fun hg => by rcases hG i hg with h' | h'; exact hn h'; omega)).trans (h.block i hi hn)⟩
theorem Ext.of_below {F : Nat → Prop} {a b : World} (h : Below a.heap.size a b) : Ext F a b := ⟨h.os, h.tape, h.output, h.size, fun i hi _ => h.block i hi⟩
theorem Ext.set {F : Nat → Prop} (W : World) {p : Addr} (u : Value) (h : F p.block) : Ext F W (W.setCell p u) :=
  ⟨rfl, rfl, rfl, by simp [World.setCell], fun k _ hn => Below.heap_setCell _ _ _ _ (fun e => hn (e ▸ h))⟩
theorem Ext.below {F : Nat → Prop} {B : Nat} {a b c : World} (h : Below B a b) (k : Ext F b c) (hF : ∀ i, F i → B ≤ i) (hB : B ≤ b.heap.size) : Below B a c :=
  h.trans ⟨k.os, k.tape, k.output, k.size, fun i hi => k.block i (by omega) (fun hf => by have := hF i hf; omega)⟩
theorem own_keep {w w' : World} {B e z n : Nat} {v : Value} {xs : List Value} (h : w.ownsRow B e z v n xs) (hg : ∀ g, v.ownBlock = some g → w'.heap[g]? = w.heap[g]?) : w'.ownsRow B e z v n xs := by
  refine ⟨h.1, ?_⟩
  rcases h.2 with h | ⟨g, cap, cur, h1, h2, h3, h4⟩
  · exact .inl h
  · exact .inr ⟨g, cap, cur, h1, h2, (hg g (by rw [h1]; rfl)).trans h3, h4⟩
theorem own_take {w : World} {B e n m c : Nat} {A : Option Addr} {xs : List Value} (h : w.ownsRow B e 1 (.slice A n c) n xs) (hm : m ≤ n) : w.ownsRow B e 1 (.slice A m c) m (xs.take m) := by
  refine ⟨by rw [List.length_take, h.1]; omega, ?_⟩
  rcases h.2 with ⟨h1, h0⟩ | ⟨g, cap, cur, h1, h2, h3, h4, h5, h6, h7⟩
  · injection h1 with e1 e2 e3
    subst e1 e3
    exact .inl ⟨by rw [show m = 0 by omega], by omega⟩
  · injection h1 with e1 e2 e3
    subst e1 e3
    refine .inr ⟨g, c, cur, rfl, h2, h3, by omega, h5, h6, ?_⟩
    rw [← h7, List.take_take]; congr 1; omega
structure Cx where
  w0 : World
  S : Nat
  rs : List RW
  A : Option Addr
  c : Nat
  fc : Value
  fw : Value
  fl : Value
def Cx.net (x : Cx) : NetL := netOf x.rs
abbrev Cx.N (x : Cx) : Nat := x.rs.length
abbrev pt (k : Nat) : Value := .pointer (some ⟨k, 0, none⟩)
abbrev iv (i : Nat) : Value := .int .i64 (i : Int)
abbrev rowAt (k n : Nat) : Value := .slice (some ⟨k, 0, none⟩) n n
/-- What is laid once. -/
structure WFix (x : Cx) (W : World) : Prop where
  n : W.heap[x.S]? = some (.cells #[.slice x.A x.rs.length x.c] 38 (0, 0))
  fc : W.heap[x.S + 1]? = some (.cells #[x.fc] 86 (0, 0))
  fw : W.heap[x.S + 2]? = some (.cells #[x.fw] 88 (0, 0))
  fl : W.heap[x.S + 3]? = some (.cells #[x.fl] 86 (0, 0))
  k : W.heap[x.S + 5]? = some (.cells #[rowAt (x.S + 4) x.rs.length] 69 (0, 0))
  nx : W.heap[x.S + 7]? = some (.cells #[rowAt (x.S + 6) x.rs.length] 33 (0, 0))
  go : W.heap[x.S + 9]? = some (.cells #[.func (.func 70) #[] #[pt (x.S + 5), pt (x.S + 8), pt (x.S + 1)]] 86 (0, 0))
  vi : W.heap[x.S + 10]? = some (.cells #[.func (.func 71) #[] #[pt (x.S + 8), pt (x.S + 7), pt x.S, pt (x.S + 5), pt (x.S + 9), pt (x.S + 10), pt (x.S + 2), pt (x.S + 3)]] 86 (0, 0))
/-- A walk's own memory: what is known, which way is next, the path. -/
structure DS (x : Cx) (W : World) (K : List Bool) (X : List Int) (P : List Nat) (vp : Value) : Prop where
  fx : WFix x W
  kr : W.ownsRow x.S 4 1 (rowAt (x.S + 4) x.rs.length) x.rs.length (K.map Value.bool)
  xr : W.ownsRow x.S 3 1 (rowAt (x.S + 6) x.rs.length) x.rs.length (X.map (Value.int .i64))
  pb : W.heap[x.S + 8]? = some (.cells #[vp] 33 (0, 0))
  pr : W.ownsRow (x.S + 11) 3 1 vp P.length (P.map iv)
  bel : Below x.w0.heap.size x.w0 W
  sz : x.S + 11 ≤ W.heap.size
  lo : x.w0.heap.size ≤ x.S
  ze : ∀ y : Nat, K[y]! = false → X[y]! = 0
/-- Where the doings' memory lies, and the walk's doesn't. -/
structure Sep (x : Cx) (F : Nat → Prop) (vp : Value) : Prop where
  f : ∀ k, F k → x.w0.heap.size ≤ k ∧ (k < x.S ∨ x.S + 11 ≤ k)
  p : ∀ g, vp.ownBlock = some g → ¬ F g
def DD {σ : Type} (x : Cx) (U : σ → World → (Nat → Prop) → Prop) (W : World) (s : St σ) (X : List Int) (P : List Nat) : Prop :=
  ∃ vp F, DS x W s.1 X P vp ∧ U s.2 W F ∧ Sep x F vp
/-- The doings of a walk. -/
structure UO {σ : Type} (Pg : Program) (x : Cx) (o : Op σ) (U : σ → World → (Nat → Prop) → Prop) (Q Ql : Nat → σ → Prop) (fc fw fl : Nat) (cc cw cl : Array Value) : Prop where
  vc : x.fc = .func (.func fc) #[] cc
  vw : x.fw = .func (.func fw) #[] cw
  vl : x.fl = .func (.func fl) #[] cl
  ec : ∀ args w, (callFunc fc args).run Pg w = .ok (.enter fc args) w
  ew : ∀ args w, (callFunc fw args).run Pg w = .ok (.enter fw args) w
  el : ∀ args w, (callFunc fl args).run Pg w = .ok (.enter fl args) w
  keep : ∀ s W W' F, U s W F → W.heap.size ≤ W'.heap.size → (∀ k, F k → W'.heap[k]? = W.heap[k]?) → U s W' F
  lt : ∀ s W F k, U s W F → F k → k < W.heap.size
  come : ∀ s W F a, U s W F → a < x.rs.length → Q a s → Calls Pg fc (#[iv a] ++ cc) W fun e W' => (∃ v, e = .returned v) ∧ ∃ F', U (o.come a s) W' F' ∧ Ext F W W' ∧ ∀ k, F' k → F k ∨ W.heap.size ≤ k
  way : ∀ s W F a b, U s W F → a < x.rs.length → b < x.rs.length → Calls Pg fw (#[iv a, iv b] ++ cw) W fun e W' => (∃ v, e = .returned v) ∧ ∃ F', U (o.way a b s) W' F' ∧ Ext F W W' ∧ ∀ k, F' k → F k ∨ W.heap.size ≤ k
  leave : ∀ s W F a, U s W F → a < x.rs.length → Ql a s → Calls Pg fl (#[iv a] ++ cl) W fun e W' => (∃ v, e = .returned v) ∧ ∃ F', U (o.leave a s) W' F' ∧ Ext F W W' ∧ ∀ k, F' k → F k ∨ W.heap.size ≤ k
theorem WFix.keep {x : Cx} {W W' : World} (h : WFix x W) (hk : ∀ k, x.S ≤ k → k < x.S + 11 → k ≠ x.S + 4 → k ≠ x.S + 6 → k ≠ x.S + 8 → W'.heap[k]? = W.heap[k]?) : WFix x W' :=
  ⟨(hk _ (by omega) (by omega) (by omega) (by omega) (by omega)).trans h.n, (hk _ (by omega) (by omega) (by omega) (by omega) (by omega)).trans h.fc, (hk _ (by omega) (by omega) (by omega) (by omega) (by omega)).trans h.fw, (hk _ (by omega) (by omega) (by omega) (by omega) (by omega)).trans h.fl,
   (hk _ (by omega) (by omega) (by omega) (by omega) (by omega)).trans h.k, (hk _ (by omega) (by omega) (by omega) (by omega) (by omega)).trans h.nx, (hk _ (by omega) (by omega) (by omega) (by omega) (by omega)).trans h.go, (hk _ (by omega) (by omega) (by omega) (by omega) (by omega)).trans h.vi⟩
theorem own_block {w : World} {B e z n : Nat} {v : Value} {xs : List Value} (h : w.ownsRow B e z v n xs) {g : Nat} (hg : v.ownBlock = some g) : B ≤ g ∧ g < w.heap.size := by
  rcases h.2 with ⟨rfl, _⟩ | ⟨g', cap, cur, rfl, h2, h3, _⟩
  · cases hg
  · simp only [Value.ownBlock, Option.some.injEq] at hg
    subst hg
    exact ⟨h2, blk_lt h3⟩
/-- A doing of the other side leaves the walk's memory alone. -/
theorem DS.user {x : Cx} {W W' : World} {K : List Bool} {X : List Int} {P : List Nat} {vp : Value} {F : Nat → Prop} (h : DS x W K X P vp) (hs : Sep x F vp) (he : Ext F W W') : DS x W' K X P vp := by
  have hk : ∀ k, x.S ≤ k → k < x.S + 11 → W'.heap[k]? = W.heap[k]? := fun k h1 h2 => he.block k (by have := h.sz; omega) (fun hf => by have := (hs.f k hf).2; omega)
  refine ⟨h.fx.keep (fun k h1 h2 _ _ _ => hk k h1 h2), own_keep h.kr (fun g hg => ?_), own_keep h.xr (fun g hg => ?_), (hk _ (by omega) (by omega)).trans h.pb, own_keep h.pr (fun g hg => ?_), he.below h.bel (fun i hi => (hs.f i hi).1) h.bel.size, by have := h.sz; have := he.size; omega, h.lo, h.ze⟩
  · simp only [Value.ownBlock, Option.some.injEq] at hg; subst hg; exact hk _ (by omega) (by omega)
  · simp only [Value.ownBlock, Option.some.injEq] at hg; subst hg; exact hk _ (by omega) (by omega)
  · exact he.block g (own_block h.pr hg).2 (hs.p g hg)
theorem Sep.user {x : Cx} {W : World} {K : List Bool} {X : List Int} {P : List Nat} {vp : Value} {F F' : Nat → Prop} (h : DS x W K X P vp) (hs : Sep x F vp) (hF : ∀ k, F' k → F k ∨ W.heap.size ≤ k) : Sep x F' vp := by
  have hz := h.sz
  have hlo := h.lo
  refine ⟨fun k hk => ?_, fun g hg hf => ?_⟩
  · rcases hF k hk with h' | h'
    · exact hs.f k h'
    · exact ⟨by omega, by omega⟩
  · rcases hF g hf with h' | h'
    · exact hs.p g hg h'
    · have := (own_block h.pr hg).2; omega
/-- The walk's own memory is written: one of its blocks is other. -/
theorem DS.own {x : Cx} {W W' : World} {K K' : List Bool} {X X' : List Int} {P P' : List Nat} {vp vp' : Value} (h : DS x W K X P vp) (G : Nat → Prop) (hG : ∀ k, G k → (x.S ≤ k ∧ k < x.S + 11 ∧ (k = x.S + 4 ∨ k = x.S + 6 ∨ k = x.S + 8)) ∨ vp.ownBlock = some k) (he : Ext G W W')
    (kr : W'.ownsRow x.S 4 1 (rowAt (x.S + 4) x.rs.length) x.rs.length (K'.map Value.bool)) (xr : W'.ownsRow x.S 3 1 (rowAt (x.S + 6) x.rs.length) x.rs.length (X'.map (Value.int .i64)))
    (pb : W'.heap[x.S + 8]? = some (.cells #[vp'] 33 (0, 0))) (pr : W'.ownsRow (x.S + 11) 3 1 vp' P'.length (P'.map iv)) (ze : ∀ y : Nat, K'[y]! = false → X'[y]! = 0) : DS x W' K' X' P' vp' := by
  have hz := h.sz
  have hlo := h.lo
  have hG' : ∀ k, G k → x.S ≤ k := fun k hk => by
    rcases hG k hk with h' | h'
    · exact h'.1
    · have := (own_block h.pr h').1; omega
  refine ⟨h.fx.keep (fun k h1 h2 h3 h4 h5 => he.block k (by omega) (fun hk => ?_)), kr, xr, pb, pr, he.below h.bel (fun i hi => by have := hG' i hi; omega) h.bel.size, by have := he.size; omega, h.lo, ze⟩
  rcases hG k hk with h' | h'
  · omega
  · have := (own_block h.pr h').1; omega
theorem own_off {x : Cx} {F G : Nat → Prop} {vp : Value} (hs : Sep x F vp) (hG : ∀ k, G k → (x.S ≤ k ∧ k < x.S + 11 ∧ (k = x.S + 4 ∨ k = x.S + 6 ∨ k = x.S + 8)) ∨ vp.ownBlock = some k) : ∀ k, F k → ¬ G k := fun k hf hg => by
  rcases hG k hg with h' | h'
  · have := (hs.f k hf).2; omega
  · exact hs.p k h' hf
/-- The other side's memory stays when the walk writes its own. -/
theorem UO.own {σ : Type} {Pg : Program} {x : Cx} {o : Op σ} {U : σ → World → (Nat → Prop) → Prop} {Q Ql : Nat → σ → Prop} {fc fw fl : Nat} {cc cw cl : Array Value} (u : UO Pg x o U Q Ql fc fw fl cc cw cl) {s : σ} {W W' : World} {F G : Nat → Prop} (h : U s W F) (hoff : ∀ k, F k → ¬ G k) (he : Ext G W W') : U s W' F :=
  u.keep s W W' F h he.size (fun k hk => he.block k (u.lt s W F k h hk) (hoff k hk))
end Go.Proofs.Ytigicbnkfmbolaa.R6
