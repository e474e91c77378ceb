/-
  Beside a heap: a set of numbers in memory; a heap among what else turns; items that came in.
-/
import Derived.Test.YtcipgjelbnmdiaaHpV
import Derived.Test.YtcipgjelbnmdiaaOpn
namespace Go.Proofs.Ytcipgjelbnmdiaa.HP
open Go.RowKit Go.Shelf Go.Proofs.Ytcipgjelbnmdiaa.B Go.ChangeMaps Go.Proofs.Ytcipgjelbnmdiaa.OP

theorem bool_inv {H : Type} {P : Program} {e : TypeId} (he : P.underlying e = some .bool) {v : Value} {z : DataW H × List MemPlace} (h : plainElem P e v = some z) : ∃ x, v = .bool x ∧ z = (.lit (.bool x), []) := by
  unfold plainElem at h
  rw [he] at h
  cases v <;> simp at h
  rename_i x
  exact ⟨x, rfl, h.symm⟩
/-- Block b is a set of numbers: a map to booleans, true of each key. -/
def MB (w : World) (b : Nat) (f : Int → Bool) (m : Nat) : Prop :=
  ∃ D : DataW Unit, w.ownsMap Try.prog 3 (plainElem Try.prog 4) b m D ∧ Maps.size D = m ∧ (∀ i : Int, Maps.has D (litZ i) = f i) ∧ ∀ i : Int, f i = true → D.atKey (litZ i) (.lit (.bool false)) = .lit (.bool true)
theorem MB.made (w : World) : MB (w.alloc (.map #[] 0)) w.heap.size (fun _ => false) 0 := ⟨.map [], World.ownsMap_made w _ _ _, rfl, fun _ => rfl, fun _ h => by cases h⟩
theorem MB.lt {w : World} {b m : Nat} {f : Int → Bool} (h : MB w b f m) : b < w.heap.size := by obtain ⟨D, h, _⟩ := h; exact h.lt
theorem MB.block {w w' : World} {b m : Nat} {f : Int → Bool} (h : MB w b f m) (hb : w'.heap[b]? = w.heap[b]?) : MB w' b f m := by
  obtain ⟨D, ⟨es, clock, h1, h2⟩, h3⟩ := h
  exact ⟨D, ⟨es, clock, hb.trans h1, h2⟩, h3⟩
theorem MB.call {w w' : World} {b m : Nat} {f : Int → Bool} (h : MB w b f m) (hb : Below w.heap.size w w') : MB w' b f m := h.block (hb.block b h.lt)
/-- A number comes, or goes. -/
def addF (f : Int → Bool) (i : Int) : Int → Bool := fun j => if j = i then true else f j
def outF (f : Int → Bool) (i : Int) : Int → Bool := fun j => if j = i then false else f j
/-- A heap of which all blocks are of a kind stays, where these stay. -/
theorem HS.reb {F : FW} {w w' : World} {X : Nat → Prop} {hb : Nat} {s : Int} {S : List It} (h : HS F w hb s S) (hX : ∀ q, F.far q → q < w.heap.size → X q) (hk : ∀ q, X q → q < w.heap.size → w'.heap[q]? = w.heap[q]?) : HS ⟨w', X⟩ w' hb s S := by
  obtain ⟨A, L, hp, ho, hw⟩ := h.ex
  have x1 := hX _ hw.lb hw.h.lt
  have x2 := hX _ hw.lp hw.h.pl
  refine ⟨⟨A, L, hp, ho, Kept.refl _ _, ⟨(hk _ x1 hw.h.lt).trans hw.h.box, ?_, ?_, hw.h.ok, hw.h.few, hw.h.step⟩, .inl x1, .inl x2, fun g off e => .inl (hX _ (hw.li g off e) (hw.h.il e))⟩, h.so⟩
  · obtain ⟨B, hr⟩ := hw.h.row
    refine ⟨B, hr.1, ?_⟩
    rcases hr.2 with k1 | ⟨g, cap, cur, e1, e2, e3, e4⟩
    · exact .inl k1
    · refine .inr ⟨g, cap, cur, e1, e2, (hk g (hX g (hw.li g 0 ?_) (blk_lt e3)) (blk_lt e3)).trans e3, e4⟩
      injection e1
  · obtain ⟨f, hm, hpl⟩ := hw.h.map
    exact ⟨f, hm.block (hk _ x2 hm.lt), hpl⟩
theorem Kept.bel {w w' : World} {X : Nat → Prop} {B : Nat} (h : Kept ⟨w, X⟩ w') (hB : B ≤ w.heap.size) (hX : ∀ k, k < B → ¬ X k) : Below B w w' :=
  ⟨h.os, h.tape, h.output, h.size, fun k hk => h.block k (Nat.lt_of_lt_of_le hk hB) (hX k hk)⟩
theorem hasI {s : Int} {S : List It} {x : It} : (fun i => hasB (insI s S x) i) = addF (fun i => hasB S i) x.id := by
  funext i
  unfold addF
  by_cases e : i = x.id
  · rw [if_pos e]
    exact has_mem.2 ⟨x, (insI_perm s S x).mem_iff.2 (by simp), e.symm⟩
  · rw [if_neg e, Bool.eq_iff_iff, has_mem, has_mem]
    constructor
    · rintro ⟨y, hy, hi⟩
      have h1 := (insI_perm s S x).mem_iff.1 hy
      rw [List.mem_append, List.mem_singleton] at h1
      rcases h1 with h1 | rfl
      · exact ⟨y, h1, hi⟩
      · exact absurd hi.symm e
    · rintro ⟨y, hy, hi⟩
      exact ⟨y, (insI_perm s S x).mem_iff.2 (List.mem_append_left _ hy), hi⟩
theorem hasT {S : List It} {x : It} (h : DI (x :: S)) : (fun i => hasB S i) = outF (fun i => hasB (x :: S) i) x.id := by
  funext i
  have h1 := (List.pairwise_cons.1 h).1
  unfold outF
  by_cases e : i = x.id
  · rw [if_pos e]
    cases hh : hasB S i with
    | false => rfl
    | true =>
      obtain ⟨y, hy, hi⟩ := has_mem.1 hh
      exact absurd (e.symm.trans hi.symm) (h1 y hy)
  · rw [if_neg e, Bool.eq_iff_iff, has_mem, has_mem]
    constructor
    · rintro ⟨y, hy, hi⟩; exact ⟨y, List.mem_cons_of_mem _ hy, hi⟩
    · rintro ⟨y, hy, hi⟩
      rcases List.mem_cons.1 hy with rfl | hy
      · exact absurd hi.symm e
      · exact ⟨y, hy, hi⟩
/-- The weights do not rise. -/
theorem wgt_le {s : Int} {x y : It} (now : Int) (h : le s x y) : wgt s y now < wgt s x now ∨ (wgt s x now = wgt s y now ∧ x.id ≤ y.id) := by
  rw [le_iff] at h
  unfold wt at h
  unfold wgt
  omega
def goodI (x : It) : Prop := (Lit.int .i64 x.id).wf = true ∧ (Lit.int .i64 x.base).wf = true ∧ (Lit.int .i64 x.since).wf = true
section
variable {H : Type} {enc : TypeId × Value → H} {w : World} {base : Nat} {spare : Nat → Bool} {held : Bool}
theorem rd_it (n : Nat) (cs : List Value) (y : DataW H × List MemPlace) (h : DataW.trod enc Try.prog w base spare held n 32 cs = some y) (_ : Wt Try.prog 32 y.1) : ∃ x, cs = itC x ∧ goodI x := by
  obtain ⟨hl, ds, m, hy, hf⟩ := open_rec Try.underlying32 (by kernel_rfl) (by kernel_rfl) h
  obtain ⟨v0, v1, v2, rfl⟩ := list3 hl
  obtain ⟨y0, d0, h0⟩ := hf 0 _ rfl v0 rfl
  obtain ⟨y1, d1, h1⟩ := hf 1 _ rfl v1 rfl
  obtain ⟨y2, d2, h2⟩ := hf 2 _ rfl v2 rfl
  obtain ⟨i0, rfl, z0⟩ := rd_int Try.underlying3 h0
  obtain ⟨i1, rfl, z1⟩ := rd_int Try.underlying3 h1
  obtain ⟨i2, rfl, z2⟩ := rd_int Try.underlying3 h2
  exact ⟨⟨i0, i1, i2⟩, rfl, z0, z1, z2⟩
set_option maxRecDepth 100000 in
theorem open_its {r : Reach} {b0 : Nat} {v : Value} {d : DataW H} {p : List MemPlace} (hv : Value.okWide Try.prog w r b0 51 v) (h : DataW.Trod enc Try.prog w base spare held 51 v d p) (hw : Wt Try.prog 51 d) :
    ∃ (A : Option Addr) (c : Nat) (l : List It), v = .slice A l.length c ∧ Row w A (l.flatMap itC) ∧ ∀ x ∈ l, goodI x := by
  obtain ⟨a, n, c, rfl⟩ := Go.WideShapes.okWide_slice Try.underlying51 hv
  obtain ⟨f, hf⟩ := h
  obtain ⟨A, l, c', e, r0, g, _⟩ := open_list itC 3 goodI Try.underlying51 (by kernel_rfl) (fun _ => rfl) (by omega) rd_it (v := .slice a n c) hf hw
  exact ⟨A, c', l, e, r0, g⟩
end
end Go.Proofs.Ytcipgjelbnmdiaa.HP
