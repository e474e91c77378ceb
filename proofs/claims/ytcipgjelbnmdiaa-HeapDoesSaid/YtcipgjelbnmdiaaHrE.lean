/-
  The two heaps side by side: the code's and the document's; and the acts as they come in.
-/
import Derived.Test.YtcipgjelbnmdiaaHrD
namespace Go.Proofs.Ytcipgjelbnmdiaa.HP
open Go.RowKit Go.Shelf Go.Proofs.Ytcipgjelbnmdiaa.B Go.ChangeMaps Go.Proofs.Ytcipgjelbnmdiaa.OP
attribute [local go_sem] Oper.semAt_some

/-- The code's heap holds S, the document's T, apart; and of certain blocks none is theirs. -/
structure DR (W : World) (N : List Nat) (hb rb : Nat) (s : Int) (S T : List It) (w : World) : Prop where
  b : Below W.heap.size W w
  h : ∃ (XA : Nat → Prop) (A : Option Addr) (c : Nat), HS ⟨w, XA⟩ w hb s S ∧ RH w rb A c s T ∧ ¬ XA rb ∧ (∀ q, (Value.slice A T.length c).ownBlock = some q → ¬ XA q ∧ W.heap.size ≤ q) ∧ (∀ q, XA q → W.heap.size ≤ q ∧ q < w.heap.size) ∧ ∀ q ∈ N, ¬ XA q ∧ q ≠ rb ∧ q < w.heap.size ∧ (Value.slice A T.length c).ownBlock ≠ some q
  l : W.heap.size ≤ rb
/-- They stand as they stood. -/
def Stay (N : List Nat) (w w' : World) : Prop := ∀ q ∈ N, w'.heap[q]? = w.heap[q]?
theorem DR.call {W : World} {N : List Nat} {hb rb : Nat} {s : Int} {S T : List It} {w w' : World} (h : DR W N hb rb s S T w) (hb' : Below w.heap.size w w') : DR W N hb rb s S T w' := by
  obtain ⟨XA, A, c, h1, h2, h3, h4, h5, h6⟩ := h.h
  refine ⟨h.b.trans (hb'.mono h.b.size), ⟨XA, A, c, h1.reb (fun q hq hl => ?_) (fun q _ hl => hb'.block q hl), h2.below hb', h3, h4, fun q hq => ⟨(h5 q hq).1, Nat.lt_of_lt_of_le (h5 q hq).2 hb'.size⟩, fun q hq => ⟨(h6 q hq).1, (h6 q hq).2.1, Nat.lt_of_lt_of_le (h6 q hq).2.2.1 hb'.size, (h6 q hq).2.2.2⟩⟩, h.l⟩
  rcases hq with hq | hq
  · exact hq
  · exact absurd hl (by have h9 : w.heap.size ≤ q := hq; omega)
theorem DR.drew {W : World} {N : List Nat} {hb rb : Nat} {s : Int} {S T : List It} {w : World} (h : DR W N hb rb s S T w) : DR W N hb rb s S T w.drew := h.call (below_draws (Below.refl _ _) 1)
/-- A block more that is none of theirs. -/
theorem DR.add {W : World} {N : List Nat} {hb rb : Nat} {s : Int} {S T : List It} {w : World} (h : DR W N hb rb s S T w) (o : Obj) : DR W (w.heap.size :: N) hb rb s S T (w.alloc o) := by
  have h' := h.call ((Below.refl w.heap.size w).alloc (Nat.le_refl _) o)
  obtain ⟨XA, A, c, h1, h2, h3, h4, h5, h6⟩ := h.h
  obtain ⟨B, hr⟩ := h2.row
  have hz : (w.alloc o).heap.size = w.heap.size + 1 := World.size_alloc _ _
  have hb' := (Below.refl w.heap.size w).alloc (Nat.le_refl _) o
  refine ⟨h'.b, ⟨XA, A, c, h1.reb (fun q hq hl => ?_) (fun q _ hl => hb'.block q hl), h2.below hb', h3, h4, fun q hq => ⟨(h5 q hq).1, Nat.lt_of_lt_of_le (h5 q hq).2 hb'.size⟩, fun q hq => ?_⟩, h.l⟩
  · rcases hq with hq | hq
    · exact hq
    · exact absurd hl (by have h9 : w.heap.size ≤ q := hq; omega)
  · rcases List.mem_cons.1 hq with rfl | hq
    · exact ⟨fun hx => by have := (h5 _ hx).2; omega, by have := h2.lt; omega, by omega, fun e => by have := (hr.lt _ e).2; omega⟩
    · exact ⟨(h6 q hq).1, (h6 q hq).2.1, by have := (h6 q hq).2.2.1; omega, (h6 q hq).2.2.2⟩
theorem DR.none {W : World} {N : List Nat} {hb rb : Nat} {s : Int} {S T : List It} {w : World} (h : DR W N hb rb s S T w) : DR W [] hb rb s S T w := by
  obtain ⟨XA, A, c, h1, h2, h3, h4, h5, h6⟩ := h.h
  exact ⟨h.b, ⟨XA, A, c, h1, h2, h3, h4, h5, fun q hq => by cases hq⟩, h.l⟩
theorem DR.stay {W : World} {N : List Nat} {hb rb : Nat} {s : Int} {S T : List It} {w w' : World} (h : DR W N hb rb s S T w) (hb' : Below w.heap.size w w') : Stay N w w' := by
  obtain ⟨XA, A, c, h1, h2, h3, h4, h5, h6⟩ := h.h
  exact fun q hq => hb'.block q (h6 q hq).2.2.1
/-- The code's does a step. -/
theorem DR.stepH {W : World} {N : List Nat} {hb rb : Nat} {s : Int} {S' T : List It} {w w1 : World} (hB : Below W.heap.size W w) (hl : W.heap.size ≤ rb) {XA : Nat → Prop} {A : Option Addr} {c : Nat} (h2 : RH w rb A c s T) (h3 : ¬ XA rb) (h4 : ∀ q, (Value.slice A T.length c).ownBlock = some q → ¬ XA q ∧ W.heap.size ≤ q) (h5 : ∀ q, XA q → W.heap.size ≤ q ∧ q < w.heap.size)
    (h6 : ∀ q ∈ N, ¬ XA q ∧ q ≠ rb ∧ q < w.heap.size ∧ (Value.slice A T.length c).ownBlock ≠ some q) (h1 : HS ⟨w, XA⟩ w1 hb s S') : DR W N hb rb s S' T w1 ∧ Stay N w w1 := by
  have hk := h1.k
  have hs : w.heap.size ≤ w1.heap.size := hk.size
  have hrow : ∀ q, (Value.slice A T.length c).ownBlock = some q → q < w.heap.size := fun q hq => by obtain ⟨B, hr⟩ := h2.row; exact (hr.lt q hq).2
  refine ⟨⟨hB.trans (hk.bel hB.size (fun k hk hx => by have := (h5 k hx).1; omega)), ⟨fun q => XA q ∨ (w.heap.size ≤ q ∧ q < w1.heap.size), A, c, h1.reb (fun q hq hl => ?_) (fun _ _ _ => rfl), h2.keep (hk.block _ h2.lt h3) (fun q hq => hk.block q (hrow q hq) (h4 q hq).1), fun hx => ?_, fun q hq => ⟨fun hx => ?_, (h4 q hq).2⟩, fun q hq => ?_, fun q hq => ⟨fun hx => ?_, (h6 q hq).2.1, Nat.lt_of_lt_of_le (h6 q hq).2.2.1 hs, (h6 q hq).2.2.2⟩⟩, hl⟩, fun q hq => hk.block q (h6 q hq).2.2.1 (h6 q hq).1⟩
  · rcases hq with hq | hq
    · exact .inl hq
    · exact .inr ⟨hq, hl⟩
  · rcases hx with hx | hx
    · exact h3 hx
    · have := h2.lt; omega
  · rcases hx with hx | hx
    · exact (h4 q hq).1 hx
    · have := hrow q hq; omega
  · rcases hq with hq | hq
    · exact ⟨(h5 q hq).1, Nat.lt_of_lt_of_le (h5 q hq).2 hs⟩
    · exact ⟨by have := hB.size; omega, hq.2⟩
  · rcases hx with hx | hx
    · exact (h6 q hq).1 hx
    · have := (h6 q hq).2.2.1; omega
/-- The document's does a step. -/
theorem DR.stepR {W : World} {N : List Nat} {hb rb : Nat} {s : Int} {S T T' : List It} {w w1 : World} (hB : Below W.heap.size W w) (hl : W.heap.size ≤ rb) {XA : Nat → Prop} {A : Option Addr} {c : Nat} (h1 : HS ⟨w, XA⟩ w hb s S) (h3 : ¬ XA rb) (h4 : ∀ q, (Value.slice A T.length c).ownBlock = some q → ¬ XA q ∧ W.heap.size ≤ q) (h5 : ∀ q, XA q → W.heap.size ≤ q ∧ q < w.heap.size)
    (h6 : ∀ q ∈ N, ¬ XA q ∧ q ≠ rb ∧ q < w.heap.size ∧ (Value.slice A T.length c).ownBlock ≠ some q) {A' : Option Addr} {c' : Nat} (hp : RP w rb A c T.length w1 A' c' s T') : DR W N hb rb s S T' w1 ∧ Stay N w w1 := by
  have hs : w.heap.size ≤ w1.heap.size := hp.k.size
  refine ⟨⟨hB.trans (hp.k.bel hB.size (fun k hk hx => by have e : k = rb := hx; omega)), ⟨XA, A', c', h1.reb (fun q hq hl => ?_) (fun q hq hl => hp.k.block q hl (fun e => h3 (by have e : q = rb := e; rw [← e]; exact hq))), hp.h, h3, fun q hq => ?_, fun q hq => ⟨(h5 q hq).1, Nat.lt_of_lt_of_le (h5 q hq).2 hs⟩, fun q hq => ⟨(h6 q hq).1, (h6 q hq).2.1, Nat.lt_of_lt_of_le (h6 q hq).2.2.1 hs, fun e => ?_⟩⟩, hl⟩, fun q hq => hp.k.block q (h6 q hq).2.2.1 (h6 q hq).2.1⟩
  · rcases hq with hq | hq
    · exact hq
    · exact absurd hl (by have h9 : w.heap.size ≤ q := hq; omega)
  · rcases hp.f q hq with h9 | h9
    · exact h4 q h9
    · exact ⟨fun hx => by have := (h5 q hx).2; omega, by have := hB.size; omega⟩
  · rcases hp.f q e with h9 | h9
    · exact (h6 q hq).2.2.2 h9
    · have := (h6 q hq).2.2.1; omega
theorem DR.di {W : World} {N : List Nat} {hb rb : Nat} {s : Int} {S T : List It} {w : World} (h : DR W N hb rb s S T w) : DI S := by obtain ⟨XA, A, c, h1, _⟩ := h.h; exact h1.di
theorem DR.few {W : World} {N : List Nat} {hb rb : Nat} {s : Int} {S T : List It} {w : World} (h : DR W N hb rb s S T w) : S.length ≤ 1000 := by obtain ⟨XA, A, c, h1, _⟩ := h.h; exact h1.few
theorem DR.rh {W : World} {N : List Nat} {hb rb : Nat} {s : Int} {S T : List It} {w : World} (h : DR W N hb rb s S T w) : ∃ A c, RH w rb A c s T := by obtain ⟨XA, A, c, _, h2, _⟩ := h.h; exact ⟨A, c, h2⟩
section
variable {W : World} {N : List Nat} {hb rb : Nat} {s : Int} {S T : List It} {w : World}
theorem d_put (h : DR W N hb rb s S T w) (x : It) (hid : (Lit.int .i64 x.id).wf = true) :
    Calls Try.prog 12 #[pt hb, itV x] w fun e w' => e = .returned (.int .i64 (putE S x)) ∧ DR W N hb rb s (if putE S x = 0 then insI s S x else S) T w' ∧ Stay N w w' := by
  obtain ⟨XA, A, c, h1, h2, h3, h4, h5, h6⟩ := h.h
  exact (hs_put _ w hb s S h1 x hid).mono fun _ _ ⟨he, hs⟩ => ⟨he, DR.stepH h.b h.l h2 h3 h4 h5 h6 hs⟩
theorem d_pop (h : DR W N hb rb s S T w) :
    Calls Try.prog 14 #[pt hb] w fun e w' => e = .returned (.tuple #[itV S[0]!, .bool (decide (0 < S.length))]) ∧ DR W N hb rb s S.tail T w' ∧ Stay N w w' := by
  obtain ⟨XA, A, c, h1, h2, h3, h4, h5, h6⟩ := h.h
  exact (hs_pop _ w hb s S h1).mono fun _ _ ⟨he, hs⟩ => ⟨he, DR.stepH h.b h.l h2 h3 h4 h5 h6 hs⟩
theorem d_rem (h : DR W N hb rb s S T w) (i : Int) (hi : (Lit.int .i64 i).wf = true) :
    Calls Try.prog 17 #[pt hb, .int .i64 i] w fun e w' => e = .returned (.tuple #[itV (getI S i), .bool (hasB S i)]) ∧ DR W N hb rb s (rmI S i) T w' ∧ Stay N w w' := by
  obtain ⟨XA, A, c, h1, h2, h3, h4, h5, h6⟩ := h.h
  exact (hs_remove _ w hb s S h1 i hi).mono fun _ _ ⟨he, hs⟩ => ⟨he, DR.stepH h.b h.l h2 h3 h4 h5 h6 hs⟩
theorem d_peek (h : DR W N hb rb s S T w) :
    Calls Try.prog 18 #[pt hb] w fun e w' => e = .returned (.tuple #[itV S[0]!, .bool (decide (0 < S.length))]) ∧ DR W N hb rb s S T w' ∧ Below w.heap.size w w' := by
  obtain ⟨XA, A, c, h1, h2, h3, h4, h5, h6⟩ := h.h
  exact (hs_peek _ w hb s S h1).mono fun _ _ ⟨he, hs⟩ => ⟨he, h.call hs, hs⟩
theorem d_weight (h : DR W N hb rb s S T w) (i now : Int) (hi : (Lit.int .i64 i).wf = true) :
    Calls Try.prog 19 #[pt hb, .int .i64 i, .int .i64 now] w fun e w' => e = .returned (.tuple #[.int .i64 (rwE s S i now), .bool (hasB S i)]) ∧ DR W N hb rb s S T w' ∧ Below w.heap.size w w' := by
  obtain ⟨XA, A, c, h1, h2, h3, h4, h5, h6⟩ := h.h
  exact (hs_weight _ w hb s S h1 i now hi).mono fun _ _ ⟨he, hs⟩ => ⟨he, h.call hs, hs⟩
theorem d_has (h : DR W N hb rb s S T w) (i : Int) (hi : (Lit.int .i64 i).wf = true) :
    Calls Try.prog 22 #[pt hb, .int .i64 i] w fun e w' => e = .returned (.bool (hasB S i)) ∧ w' = w := by
  obtain ⟨XA, A, c, h1, h2, h3, h4, h5, h6⟩ := h.h
  exact (hs_has _ w hb s S h1 i hi).mono fun _ _ ⟨he, hs⟩ => ⟨he, hs.symm⟩
theorem d_len (h : DR W N hb rb s S T w) : Calls Try.prog 21 #[pt hb] w fun e w' => e = .returned (.int .i64 (S.length : Int)) ∧ w' = w := by
  obtain ⟨XA, A, c, h1, h2, h3, h4, h5, h6⟩ := h.h
  exact (hs_len _ w hb s S h1).mono fun _ _ ⟨he, hs⟩ => ⟨he, hs.symm⟩
theorem d_list (h : DR W N hb rb s S T w) : Calls Try.prog 24 #[pt hb] w (RowS w S) := by
  obtain ⟨XA, A, c, h1, h2, h3, h4, h5, h6⟩ := h.h
  exact hs_listF _ w hb s S h1
theorem e_put (h : DR W N hb rb s S T w) (x : It) (hid : (Lit.int .i64 x.id).wf = true) :
    Calls Try.prog 13 #[pt rb, itV x] w fun e w' => e = .returned (.int .i64 (putE T x)) ∧ DR W N hb rb s S (if putE T x = 0 then insI s T x else T) w' ∧ Stay N w w' := by
  obtain ⟨XA, A, c, h1, h2, h3, h4, h5, h6⟩ := h.h
  exact (rput_any w rb c A s T h2 x hid).mono fun _ _ ⟨he, _, _, hs⟩ => ⟨he, DR.stepR h.b h.l h1 h3 h4 h5 h6 hs⟩
theorem e_rem (h : DR W N hb rb s S T w) (hd : DI T) (i : Int) :
    Calls Try.prog 16 #[pt rb, .int .i64 i] w fun e w' => e = .returned (.tuple #[itV (getI T i), .bool (hasB T i)]) ∧ DR W N hb rb s S (rmI T i) w' ∧ Stay N w w' := by
  obtain ⟨XA, A, c, h1, h2, h3, h4, h5, h6⟩ := h.h
  exact (rremove_any w rb c A s T h2 hd i).mono fun _ _ ⟨he, _, _, hs⟩ => ⟨he, DR.stepR h.b h.l h1 h3 h4 h5 h6 hs⟩
theorem e_peek (h : DR W N hb rb s S T w) :
    Calls Try.prog 15 #[pt rb] w fun e w' => e = .returned (.tuple #[itV T[0]!, .bool (decide (0 < T.length))]) ∧ DR W N hb rb s S T w' ∧ Below w.heap.size w w' := by
  obtain ⟨XA, A, c, h1, h2, h3, h4, h5, h6⟩ := h.h
  exact (rpeek_any w rb c A s T h2).mono fun _ _ ⟨he, hs⟩ => ⟨he, h.call hs, hs⟩
theorem e_weight (h : DR W N hb rb s S T w) (hd : DI T) (i now : Int) :
    Calls Try.prog 20 #[pt rb, .int .i64 i, .int .i64 now] w fun e w' => e = .returned (.tuple #[.int .i64 (rwE s T i now), .bool (hasB T i)]) ∧ DR W N hb rb s S T w' ∧ Below w.heap.size w w' := by
  obtain ⟨XA, A, c, h1, h2, h3, h4, h5, h6⟩ := h.h
  exact (rweight_any w rb c A s T h2 hd i now).mono fun _ _ ⟨he, hs⟩ => ⟨he, h.call hs, hs⟩
theorem e_has (h : DR W N hb rb s S T w) (i : Int) : Calls Try.prog 23 #[pt rb, .int .i64 i] w fun e w' => e = .returned (.bool (hasB T i)) ∧ w' = w := by
  obtain ⟨XA, A, c, h1, h2, h3, h4, h5, h6⟩ := h.h
  exact (rhas_any w rb c A s T h2 i).mono fun _ _ ⟨he, hs⟩ => ⟨he, hs.symm⟩
end
theorem rm_first {S : List It} (hd : DI S) (h : 0 < S.length) : rmI S S[0]!.id = S.tail := by
  rw [rm_split hd h]; simp
/-- An act. -/
structure Ac where
  kind : Int
  x : It
deriving Inhabited
def acC (a : Ac) : List Value := .int .i64 a.kind :: itC a.x
def goodA (a : Ac) : Prop := (Lit.int .i64 a.kind).wf = true ∧ goodI a.x
section
variable {H : Type} {enc : TypeId × Value → H} {w : World} {base : Nat} {spare : Nat → Bool} {held : Bool}
open Go.RowKit Go.Shelf Go.Deep Go.Joins Go.ChangeShapes
set_option maxRecDepth 100000 in
theorem rd_ac (n : Nat) (cs : List Value) (y : DataW H × List MemPlace) (h : DataW.trod enc Try.prog w base spare held n 34 cs = some y) (hw : Wt Try.prog 34 y.1) : ∃ x, cs = acC x ∧ goodA x := by
  obtain ⟨xs, m, _, rfl, hlen, hxl, hf⟩ := DataW.trod_struct Try.underlying34 h
  have hlen4 : cs.length = 4 := hlen.trans (by kernel_rfl)
  obtain ⟨v0, v1, v2, v3, rfl⟩ := list4 hlen4
  have hx2 : xs.length = 2 := hxl.trans rfl
  have f0 := hf 0 _ rfl
  have f1 := hf 1 _ rfl
  rw [List.getElem?_eq_getElem (by omega : 0 < xs.length)] at f0
  rw [List.getElem?_eq_getElem (by omega : 1 < xs.length)] at f1
  obtain ⟨i0, e0, z0⟩ := rd_int Try.underlying3 (show DataW.trod enc Try.prog w base spare held m 3 [v0] = some _ from f0)
  obtain ⟨x, e1, z1⟩ := rd_it m [v1, v2, v3] _ (show DataW.trod enc Try.prog w base spare held m 32 [v1, v2, v3] = some _ from f1) (hw.field Try.underlying34 (j := 1) rfl (by rw [List.getElem?_map, List.getElem?_eq_getElem (by omega : 1 < xs.length)]; rfl))
  refine ⟨⟨i0, x⟩, ?_, z0, z1⟩
  show v0 :: [v1, v2, v3] = _
  rw [e1]
  subst e0
  rfl
set_option maxRecDepth 100000 in
theorem open_hacs {r : Reach} {b0 : Nat} {v : Value} {d : DataW H} {p : List MemPlace} (hv : Value.okWide Try.prog w r b0 22 v) (h : DataW.Trod enc Try.prog w base spare held 22 v d p) (hw : Wt Try.prog 22 d) :
    ∃ (A : Option Addr) (c : Nat) (l : List Ac), v = .slice A l.length c ∧ Row w A (l.flatMap acC) ∧ ∀ x ∈ l, goodA x := by
  obtain ⟨a, n, c, rfl⟩ := Go.WideShapes.okWide_slice Try.underlying22 hv
  obtain ⟨f, hf⟩ := h
  obtain ⟨A, l, c', e, r0, g, _⟩ := open_list acC 4 goodA Try.underlying22 (by kernel_rfl) (fun _ => rfl) (by omega) rd_ac (v := .slice a n c) hf hw
  exact ⟨A, c', l, e, r0, g⟩
end
end Go.Proofs.Ytcipgjelbnmdiaa.HP
