/-
  How a net lies in memory, and what a walk over it keeps there; no program's function.
-/
import Derived.Test.YtaagpnepkjkfoaaProg
import Derived.Test.YtaagpnepkjkfoaaBas
import Derived.Test.YtaagpnepkjkfoaaRiL
namespace Go.Proofs.Ytaagpnepkjkfoaa.R6
open Go.RowKit Go.Shelf Go.Proofs.Ytaagpnepkjkfoaa.B

/-- A point's ways as they lie in memory. -/
structure RW where
  a : Option Addr
  l : List Int
  c : Nat
instance : Inhabited RW := ⟨⟨none, [], 0⟩⟩
def rwC (r : RW) : List Value := [.slice r.a r.l.length r.c]
def netOf (rs : List RW) : NetL := rs.map (·.l)
theorem net_len (rs : List RW) : (netOf rs).length = rs.length := by simp [netOf]
theorem net_at (rs : List RW) (i : Nat) : (netOf rs)[i]! = rs[i]!.l := by
  by_cases h : i < rs.length
  · rw [getElem!_pos _ i (by rw [net_len]; exact h), getElem!_pos rs i h]; simp [netOf]
  · rw [getElem!_neg _ i (by rw [net_len]; exact h), getElem!_neg rs i h]; rfl
structure NetIn (w : World) (A : Option Addr) (rs : List RW) : Prop where
  top : Row w A (rs.flatMap rwC)
  row : ∀ r ∈ rs, Row w r.a (r.l.map (Value.int .i64))
theorem NetIn.below {w w' : World} {A : Option Addr} {rs : List RW} (h : NetIn w A rs) {B : Nat} (hB : w.heap.size ≤ B) (hb : Below B w w') : NetIn w' A rs :=
  ⟨h.top.below hB hb, fun r hr => (h.row r hr).below hB hb⟩
theorem int_flat (l : List Int) : l.map (Value.int .i64) = l.flatMap (fun i => [Value.int .i64 i]) := by induction l <;> simp_all
/-- The cell of one point; the cell of one way. -/
theorem NetIn.at_ {w : World} {A : Option Addr} {rs : List RW} (h : NetIn w A rs) {i : Nat} (hi : i < rs.length) : ∃ b off, A = some ⟨b, off, none⟩ ∧ b < w.heap.size ∧ w.cell? ⟨b, off + i, none⟩ = some (.slice rs[i]!.a rs[i]!.l.length rs[i]!.c) := by
  obtain ⟨b, off, h1, h2, h3⟩ := h.top.at_ (k := 1) (fun _ => rfl) (by omega) hi
  exact ⟨b, off, h1, h2, by have := h3 0 _ rfl; rw [Nat.mul_one, Nat.add_zero] at this; exact this⟩
theorem row_at {w : World} {A : Option Addr} {l : List Int} (h : Row w A (l.map (Value.int .i64))) {i : Nat} (hi : i < l.length) : ∃ b off, A = some ⟨b, off, none⟩ ∧ b < w.heap.size ∧ w.cell? ⟨b, off + i, none⟩ = some (.int .i64 l[i]!) := by
  rw [int_flat] at h
  obtain ⟨b, off, h1, h2, h3⟩ := h.at_ (k := 1) (fun _ => rfl) (by omega) hi
  exact ⟨b, off, h1, h2, by have := h3 0 _ rfl; rw [Nat.mul_one, Nat.add_zero] at this; exact this⟩

/-! ### blocks that are kept -/
/-- Only blocks of F, and new ones, are other. -/
structure Ext (F : Nat → Prop) (W W' : World) : Prop where
  os : W'.os = W.os
  tape : W'.tape = W.tape
  output : W'.output = W.output
  size : W.heap.size ≤ W'.heap.size
  block : ∀ k, k < W.heap.size → ¬ F k → W'.heap[k]? = W.heap[k]?
theorem Ext.refl (F : Nat → Prop) (W : World) : Ext F W W := ⟨rfl, rfl, rfl, Nat.le_refl _, fun _ _ _ => rfl⟩
theorem Ext.trans {F G : Nat → Prop} {a b c : World} (h : Ext F a b) (k : Ext G b c) (hG : ∀ i, G i → F i ∨ a.heap.size ≤ i) : Ext F a c :=
  ⟨k.os.trans h.os, k.tape.trans h.tape, k.output.trans h.output, Nat.le_trans h.size k.size, fun i hi hn => (k.block i (Nat.lt_of_lt_of_le hi h.size) (fun hg => by rcases hG i hg with h' | h'; exact hn h'; omega)).trans (h.block i hi hn)⟩
theorem Ext.of_below {F : Nat → Prop} {a b : World} (h : Below a.heap.size a b) : Ext F a b := ⟨h.os, h.tape, h.output, h.size, fun i hi _ => h.block i hi⟩
theorem Ext.set {F : Nat → Prop} (W : World) {p : Addr} (u : Value) (h : F p.block) : Ext F W (W.setCell p u) :=
  ⟨rfl, rfl, rfl, by simp [World.setCell], fun k _ hn => Below.heap_setCell _ _ _ _ (fun e => hn (e ▸ h))⟩
theorem Ext.below {F : Nat → Prop} {B : Nat} {a b c : World} (h : Below B a b) (k : Ext F b c) (hF : ∀ i, F i → B ≤ i) (hB : B ≤ b.heap.size) : Below B a c :=
  h.trans ⟨k.os, k.tape, k.output, k.size, fun i hi => k.block i (by omega) (fun hf => by have := hF i hf; omega)⟩
theorem own_keep {w w' : World} {B e z n : Nat} {v : Value} {xs : List Value} (h : w.ownsRow B e z v n xs) (hg : ∀ g, v.ownBlock = some g → w'.heap[g]? = w.heap[g]?) : w'.ownsRow B e z v n xs := by
  refine ⟨h.1, ?_⟩
  rcases h.2 with h | ⟨g, cap, cur, h1, h2, h3, h4⟩
  · exact .inl h
  · exact .inr ⟨g, cap, cur, h1, h2, (hg g (by rw [h1]; rfl)).trans h3, h4⟩
theorem own_take {w : World} {B e n m c : Nat} {A : Option Addr} {xs : List Value} (h : w.ownsRow B e 1 (.slice A n c) n xs) (hm : m ≤ n) : w.ownsRow B e 1 (.slice A m c) m (xs.take m) := by
  refine ⟨by rw [List.length_take, h.1]; omega, ?_⟩
  rcases h.2 with ⟨h1, h0⟩ | ⟨g, cap, cur, h1, h2, h3, h4, h5, h6, h7⟩
  · injection h1 with e1 e2 e3
    subst e1 e3
    exact .inl ⟨by rw [show m = 0 by omega], by omega⟩
  · injection h1 with e1 e2 e3
    subst e1 e3
    refine .inr ⟨g, c, cur, rfl, h2, h3, by omega, h5, h6, ?_⟩
    rw [← h7, List.take_take]; congr 1; omega

/-! ### a walk -/
structure Cx where
  w0 : World
  S : Nat
  rs : List RW
  A : Option Addr
  c : Nat
  fc : Value
  fw : Value
  fl : Value
def Cx.net (x : Cx) : NetL := netOf x.rs
abbrev Cx.N (x : Cx) : Nat := x.rs.length
abbrev pt (k : Nat) : Value := .pointer (some ⟨k, 0, none⟩)
abbrev iv (i : Nat) : Value := .int .i64 (i : Int)
abbrev rowAt (k n : Nat) : Value := .slice (some ⟨k, 0, none⟩) n n
/-- What is laid once. -/
structure WFix (x : Cx) (W : World) : Prop where
  n : W.heap[x.S]? = some (.cells #[.slice x.A x.rs.length x.c] 23 (0, 0))
  fc : W.heap[x.S + 1]? = some (.cells #[x.fc] 77 (0, 0))
  fw : W.heap[x.S + 2]? = some (.cells #[x.fw] 79 (0, 0))
  fl : W.heap[x.S + 3]? = some (.cells #[x.fl] 77 (0, 0))
  k : W.heap[x.S + 5]? = some (.cells #[rowAt (x.S + 4) x.rs.length] 72 (0, 0))
  nx : W.heap[x.S + 7]? = some (.cells #[rowAt (x.S + 6) x.rs.length] 26 (0, 0))
  go : W.heap[x.S + 9]? = some (.cells #[.func (.func 77) #[] #[pt (x.S + 5), pt (x.S + 8), pt (x.S + 1)]] 77 (0, 0))
  vi : W.heap[x.S + 10]? = some (.cells #[.func (.func 78) #[] #[pt (x.S + 8), pt (x.S + 7), pt x.S, pt (x.S + 5), pt (x.S + 9), pt (x.S + 10), pt (x.S + 2), pt (x.S + 3)]] 77 (0, 0))
/-- A walk's own memory: what is known, which way is next, the path. -/
structure DS (x : Cx) (W : World) (K : List Bool) (X : List Int) (P : List Nat) (vp : Value) : Prop where
  fx : WFix x W
  kr : W.ownsRow x.S 4 1 (rowAt (x.S + 4) x.rs.length) x.rs.length (K.map Value.bool)
  xr : W.ownsRow x.S 3 1 (rowAt (x.S + 6) x.rs.length) x.rs.length (X.map (Value.int .i64))
  pb : W.heap[x.S + 8]? = some (.cells #[vp] 26 (0, 0))
  pr : W.ownsRow (x.S + 11) 3 1 vp P.length (P.map iv)
  bel : Below x.w0.heap.size x.w0 W
  sz : x.S + 11 ≤ W.heap.size
  lo : x.w0.heap.size ≤ x.S
  ze : ∀ y : Nat, K[y]! = false → X[y]! = 0
/-- Where the doings' memory lies, and the walk's doesn't. -/
structure Sep (x : Cx) (F : Nat → Prop) (vp : Value) : Prop where
  f : ∀ k, F k → x.w0.heap.size ≤ k ∧ (k < x.S ∨ x.S + 11 ≤ k)
  p : ∀ g, vp.ownBlock = some g → ¬ F g
def DD {σ : Type} (x : Cx) (U : σ → World → (Nat → Prop) → Prop) (W : World) (s : St σ) (X : List Int) (P : List Nat) : Prop :=
  ∃ vp F, DS x W s.1 X P vp ∧ U s.2 W F ∧ Sep x F vp

/-- The doings of a walk. -/
structure UO {σ : Type} (Pg : Program) (x : Cx) (o : Op σ) (U : σ → World → (Nat → Prop) → Prop) (Q Ql : Nat → σ → Prop) (fc fw fl : Nat) (cc cw cl : Array Value) : Prop where
  vc : x.fc = .func (.func fc) #[] cc
  vw : x.fw = .func (.func fw) #[] cw
  vl : x.fl = .func (.func fl) #[] cl
  ec : ∀ args w, (callFunc fc args).run Pg w = .ok (.enter fc args) w
  ew : ∀ args w, (callFunc fw args).run Pg w = .ok (.enter fw args) w
  el : ∀ args w, (callFunc fl args).run Pg w = .ok (.enter fl args) w
  keep : ∀ s W W' F, U s W F → W.heap.size ≤ W'.heap.size → (∀ k, F k → W'.heap[k]? = W.heap[k]?) → U s W' F
  lt : ∀ s W F k, U s W F → F k → k < W.heap.size
  come : ∀ s W F a, U s W F → a < x.rs.length → Q a s → Calls Pg fc (#[iv a] ++ cc) W fun e W' => (∃ v, e = .returned v) ∧ ∃ F', U (o.come a s) W' F' ∧ Ext F W W' ∧ ∀ k, F' k → F k ∨ W.heap.size ≤ k
  way : ∀ s W F a b, U s W F → a < x.rs.length → b < x.rs.length → Calls Pg fw (#[iv a, iv b] ++ cw) W fun e W' => (∃ v, e = .returned v) ∧ ∃ F', U (o.way a b s) W' F' ∧ Ext F W W' ∧ ∀ k, F' k → F k ∨ W.heap.size ≤ k
  leave : ∀ s W F a, U s W F → a < x.rs.length → Ql a s → Calls Pg fl (#[iv a] ++ cl) W fun e W' => (∃ v, e = .returned v) ∧ ∃ F', U (o.leave a s) W' F' ∧ Ext F W W' ∧ ∀ k, F' k → F k ∨ W.heap.size ≤ k

theorem WFix.keep {x : Cx} {W W' : World} (h : WFix x W) (hk : ∀ k, x.S ≤ k → k < x.S + 11 → k ≠ x.S + 4 → k ≠ x.S + 6 → k ≠ x.S + 8 → W'.heap[k]? = W.heap[k]?) : WFix x W' :=
  ⟨(hk _ (by omega) (by omega) (by omega) (by omega) (by omega)).trans h.n, (hk _ (by omega) (by omega) (by omega) (by omega) (by omega)).trans h.fc, (hk _ (by omega) (by omega) (by omega) (by omega) (by omega)).trans h.fw, (hk _ (by omega) (by omega) (by omega) (by omega) (by omega)).trans h.fl,
   (hk _ (by omega) (by omega) (by omega) (by omega) (by omega)).trans h.k, (hk _ (by omega) (by omega) (by omega) (by omega) (by omega)).trans h.nx, (hk _ (by omega) (by omega) (by omega) (by omega) (by omega)).trans h.go, (hk _ (by omega) (by omega) (by omega) (by omega) (by omega)).trans h.vi⟩
theorem own_block {w : World} {B e z n : Nat} {v : Value} {xs : List Value} (h : w.ownsRow B e z v n xs) {g : Nat} (hg : v.ownBlock = some g) : B ≤ g ∧ g < w.heap.size := by
  rcases h.2 with ⟨rfl, _⟩ | ⟨g', cap, cur, rfl, h2, h3, _⟩
  · cases hg
  · simp only [Value.ownBlock, Option.some.injEq] at hg
    subst hg
    exact ⟨h2, blk_lt h3⟩
/-- A doing of the other side leaves the walk's memory alone. -/
theorem DS.user {x : Cx} {W W' : World} {K : List Bool} {X : List Int} {P : List Nat} {vp : Value} {F : Nat → Prop} (h : DS x W K X P vp) (hs : Sep x F vp) (he : Ext F W W') : DS x W' K X P vp := by
  have hk : ∀ k, x.S ≤ k → k < x.S + 11 → W'.heap[k]? = W.heap[k]? := fun k h1 h2 => he.block k (by have := h.sz; omega) (fun hf => by have := (hs.f k hf).2; omega)
  refine ⟨h.fx.keep (fun k h1 h2 _ _ _ => hk k h1 h2), own_keep h.kr (fun g hg => ?_), own_keep h.xr (fun g hg => ?_), (hk _ (by omega) (by omega)).trans h.pb, own_keep h.pr (fun g hg => ?_), he.below h.bel (fun i hi => (hs.f i hi).1) h.bel.size, by have := h.sz; have := he.size; omega, h.lo, h.ze⟩
  · simp only [Value.ownBlock, Option.some.injEq] at hg; subst hg; exact hk _ (by omega) (by omega)
  · simp only [Value.ownBlock, Option.some.injEq] at hg; subst hg; exact hk _ (by omega) (by omega)
  · exact he.block g (own_block h.pr hg).2 (hs.p g hg)
theorem Sep.user {x : Cx} {W : World} {K : List Bool} {X : List Int} {P : List Nat} {vp : Value} {F F' : Nat → Prop} (h : DS x W K X P vp) (hs : Sep x F vp) (hF : ∀ k, F' k → F k ∨ W.heap.size ≤ k) : Sep x F' vp := by
  have hz := h.sz
  have hlo := h.lo
  refine ⟨fun k hk => ?_, fun g hg hf => ?_⟩
  · rcases hF k hk with h' | h'
    · exact hs.f k h'
    · exact ⟨by omega, by omega⟩
  · rcases hF g hf with h' | h'
    · exact hs.p g hg h'
    · have := (own_block h.pr hg).2; omega
/-- The walk's own memory is written: one of its blocks is other. -/
theorem DS.own {x : Cx} {W W' : World} {K K' : List Bool} {X X' : List Int} {P P' : List Nat} {vp vp' : Value} (h : DS x W K X P vp) (G : Nat → Prop) (hG : ∀ k, G k → (x.S ≤ k ∧ k < x.S + 11 ∧ (k = x.S + 4 ∨ k = x.S + 6 ∨ k = x.S + 8)) ∨ vp.ownBlock = some k) (he : Ext G W W')
    (kr : W'.ownsRow x.S 4 1 (rowAt (x.S + 4) x.rs.length) x.rs.length (K'.map Value.bool)) (xr : W'.ownsRow x.S 3 1 (rowAt (x.S + 6) x.rs.length) x.rs.length (X'.map (Value.int .i64)))
    (pb : W'.heap[x.S + 8]? = some (.cells #[vp'] 26 (0, 0))) (pr : W'.ownsRow (x.S + 11) 3 1 vp' P'.length (P'.map iv)) (ze : ∀ y : Nat, K'[y]! = false → X'[y]! = 0) : DS x W' K' X' P' vp' := by
  have hz := h.sz
  have hlo := h.lo
  have hG' : ∀ k, G k → x.S ≤ k := fun k hk => by
    rcases hG k hk with h' | h'
    · exact h'.1
    · have := (own_block h.pr h').1; omega
  refine ⟨h.fx.keep (fun k h1 h2 h3 h4 h5 => he.block k (by omega) (fun hk => ?_)), kr, xr, pb, pr, he.below h.bel (fun i hi => by have := hG' i hi; omega) h.bel.size, by have := he.size; omega, h.lo, ze⟩
  rcases hG k hk with h' | h'
  · omega
  · have := (own_block h.pr h').1; omega
theorem own_off {x : Cx} {F G : Nat → Prop} {vp : Value} (hs : Sep x F vp) (hG : ∀ k, G k → (x.S ≤ k ∧ k < x.S + 11 ∧ (k = x.S + 4 ∨ k = x.S + 6 ∨ k = x.S + 8)) ∨ vp.ownBlock = some k) : ∀ k, F k → ¬ G k := fun k hf hg => by
  rcases hG k hg with h' | h'
  · have := (hs.f k hf).2; omega
  · exact hs.p k h' hf
/-- The other side's memory stays when the walk writes its own. -/
theorem UO.own {σ : Type} {Pg : Program} {x : Cx} {o : Op σ} {U : σ → World → (Nat → Prop) → Prop} {Q Ql : Nat → σ → Prop} {fc fw fl : Nat} {cc cw cl : Array Value} (u : UO Pg x o U Q Ql fc fw fl cc cw cl) {s : σ} {W W' : World} {F G : Nat → Prop} (h : U s W F) (hoff : ∀ k, F k → ¬ G k) (he : Ext G W W') : U s W' F :=
  u.keep s W W' F h he.size (fun k hk => he.block k (u.lt s W F k h hk) (hoff k hk))
end Go.Proofs.Ytaagpnepkjkfoaa.R6
