/-
  The store laws' acts, as they came in.
-/
import Derived.Test.YtcipgjelbnmdiaaSoH
import Derived.Test.YtcipgjelbnmdiaaOpn
namespace Go.Proofs.Ytcipgjelbnmdiaa.ST
open Go.RowKit Go.Shelf Go.Deep Go.Joins Go.ChangeShapes Go.Proofs.Ytcipgjelbnmdiaa.B Go.Proofs.Ytcipgjelbnmdiaa.OP

/-- An act. -/
structure Sa where
  kind : Int
  i : Int
  n : Int
  data : ByteArray
instance : Inhabited Sa := ⟨⟨0, 0, 0, ByteArray.empty⟩⟩
def saC (a : Sa) : List Value := [.int .i64 a.kind, .int .i64 a.i, .int .i64 a.n, .string a.data]
def goodS (a : Sa) : Prop := (Lit.int .i64 a.kind).wf = true ∧ (Lit.int .i64 a.i).wf = true ∧ (Lit.int .i64 a.n).wf = true ∧ a.data.size ≤ 140737488351232
section
variable {H : Type} {enc : TypeId × Value → H} {w : World} {base : Nat} {spare : Nat → Bool} {held : Bool}
theorem rd_sa (n : Nat) (cs : List Value) (y : DataW H × List MemPlace) (h : DataW.trod enc Try.prog w base spare held n 65 cs = some y) (hw : Wt Try.prog 65 y.1) : ∃ x, cs = saC x ∧ goodS x := by
  obtain ⟨hl, ds, m, hy, hf⟩ := open_rec Try.underlying65 (by kernel_rfl) (by kernel_rfl) h
  obtain ⟨v0, v1, v2, v3, rfl⟩ := list4 hl
  rw [hy] at hw
  obtain ⟨y0, d0, h0⟩ := hf 0 _ rfl v0 rfl
  obtain ⟨y1, d1, h1⟩ := hf 1 _ rfl v1 rfl
  obtain ⟨y2, d2, h2⟩ := hf 2 _ rfl v2 rfl
  obtain ⟨y3, d3, h3⟩ := hf 3 _ rfl v3 rfl
  obtain ⟨i0, rfl, z0⟩ := rd_int Try.underlying3 h0
  obtain ⟨i1, rfl, z1⟩ := rd_int Try.underlying3 h1
  obtain ⟨i2, rfl, z2⟩ := rd_int Try.underlying3 h2
  obtain ⟨s3, rfl, z3⟩ := rd_str Try.underlying9 h3 (hw.field Try.underlying65 rfl d3)
  exact ⟨⟨i0, i1, i2, s3⟩, rfl, z0, z1, z2, z3⟩
set_option maxRecDepth 100000 in
theorem open_sas {r : Reach} {b0 : Nat} {v : Value} {d : DataW H} {p : List MemPlace} (hv : Value.okWide Try.prog w r b0 57 v) (h : DataW.Trod enc Try.prog w base spare held 57 v d p) (hw : Wt Try.prog 57 d) :
    ∃ (A : Option Addr) (c : Nat) (l : List Sa), v = .slice A l.length c ∧ Row w A (l.flatMap saC) ∧ ∀ x ∈ l, goodS x := by
  obtain ⟨a, n, c, rfl⟩ := Go.WideShapes.okWide_slice Try.underlying57 hv
  obtain ⟨f, hf⟩ := h
  obtain ⟨A, l, c', e, r0, r1, _⟩ := open_list saC 4 goodS Try.underlying57 (by kernel_rfl) (fun _ => rfl) (by omega) rd_sa (v := .slice a n c) hf hw
  exact ⟨A, c', l, e, r0, r1⟩
end
end Go.Proofs.Ytcipgjelbnmdiaa.ST
