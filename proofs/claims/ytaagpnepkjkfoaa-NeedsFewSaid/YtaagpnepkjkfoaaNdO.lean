/-
  Arguments that came in: a flat graph, a tie.
-/
import Derived.Test.YtaagpnepkjkfoaaNdA
namespace Go.Proofs.Ytaagpnepkjkfoaa.N7
open Go.RowKit Go.Shelf Go.Deep Go.Joins Go.ChangeShapes Go.WideShapes Go.Proofs.Ytaagpnepkjkfoaa.B Go.Proofs.Ytaagpnepkjkfoaa.R6

section
variable {H : Type} {enc : TypeId × Value → H} {P : Program} {w : World} {base : Nat} {spare : Nat → Bool} {held : Bool}
/-- A struct of fields of one cell each: its cells, and each field's reading. -/
theorem open_rec {e : TypeId} {fs : Array Field} {n : Nat} {cs : List Value} {x : DataW H × List MemPlace} (he : P.underlying e = some (.struct fs)) (hone : oneCellFields P fs = true) (hC : P.cellsOf e = fs.size) (h : DataW.trod enc P w base spare held n e cs = some x) :
    cs.length = fs.size ∧ ∃ (ds : List (DataW H)) (m : Nat), x.1 = .agg ds ∧ ∀ (j : Nat) (f : Field), fs[j]? = some f → ∀ v, cs[j]? = some v → ∃ y, ds[j]? = some y.1 ∧ DataW.trod enc P w base spare held m f.type [v] = some y := by
  obtain ⟨xs, m, _, rfl, hlen, hxl, hf⟩ := DataW.trod_struct he h
  refine ⟨hlen.trans hC, xs.map (·.1), m, rfl, fun j f hj v hv => ?_⟩
  obtain ⟨ho, hk⟩ := hone_of hone j f hj
  have hjl : j < xs.length := by rw [hxl]; exact (Array.getElem?_eq_some_iff.1 hj).1
  have h1 := hf j f hj
  obtain ⟨hjc, hvv⟩ := List.getElem?_eq_some_iff.1 hv
  rw [ho, hk, List.drop_eq_getElem_cons hjc, List.take_succ_cons, List.take_zero, hvv, List.getElem?_eq_getElem hjl] at h1
  exact ⟨xs[j], by rw [List.getElem?_map, List.getElem?_eq_getElem hjl]; rfl, h1⟩

end
section
variable {H : Type} {enc : TypeId × Value → H} {w : World} {base : Nat} {spare : Nat → Bool} {held : Bool}
theorem rd_str {n : Nat} {t : TypeId} (ht : Try.prog.underlying t = some .string) {v : Value} {y : DataW H × List MemPlace} (h : DataW.trod enc Try.prog w base spare held n t [v] = some y) (hw : Wt Try.prog t y.1) : ∃ s : ByteArray, v = .string s ∧ s.size ≤ 140737488351232 := by
  obtain ⟨s, hs, rfl, _⟩ := DataW.trod_string ht h
  injection hs with hs _
  exact ⟨s, hs, by have := hw.str; simpa using this⟩
theorem rd_i64 {n : Nat} {t : TypeId} (ht : Try.prog.underlying t = some (.int .i64)) {v : Value} {y : DataW H × List MemPlace} (h : DataW.trod enc Try.prog w base spare held n t [v] = some y) : ∃ i : Int, v = .int .i64 i ∧ (Lit.int .i64 i).wf = true := by
  obtain ⟨i, hs, _, hwf⟩ := DataW.trod_int ht h
  injection hs with hs _
  exact ⟨i, hs, hwf⟩
theorem rd_bool {n : Nat} {t : TypeId} (ht : Try.prog.underlying t = some .bool) {v : Value} {y : DataW H × List MemPlace} (h : DataW.trod enc Try.prog w base spare held n t [v] = some y) : ∃ b : Bool, v = .bool b := by
  obtain ⟨b, hs, _⟩ := DataW.trod_bool ht h
  injection hs with hs _
  exact ⟨b, hs⟩
theorem list4 {l : List Value} (h : l.length = 4) : ∃ a b c d, l = [a, b, c, d] := by match l, h with | [a, b, c, d], _ => exact ⟨a, b, c, d, rfl⟩
theorem list6 {l : List Value} (h : l.length = 6) : ∃ a b c d e f, l = [a, b, c, d, e, f] := by match l, h with | [a, b, c, d, e, f], _ => exact ⟨a, b, c, d, e, f, rfl⟩
def goodT (t : Ti) : Prop := (Lit.int .i64 t.kind).wf = true ∧ (Lit.int .i64 t.fr).wf = true ∧ (Lit.int .i64 t.to).wf = true ∧ (Lit.int .i64 t.time).wf = true
def goodE (v : Ev) : Prop := v.name.size ≤ 140737488351232 ∧ v.group.size ≤ 140737488351232 ∧ v.role.size ≤ 140737488351232 ∧ (Lit.int .i64 v.due).wf = true
theorem rd_ev (n : Nat) (cs : List Value) (y : DataW H × List MemPlace) (h : DataW.trod enc Try.prog w base spare held n 81 cs = some y) (hw : Wt Try.prog 81 y.1) : ∃ x, cs = evC x ∧ goodE x := by
  obtain ⟨hl, ds, m, hy, hf⟩ := open_rec Try.underlying81 (by kernel_rfl) (by kernel_rfl) h
  obtain ⟨v0, v1, v2, v3, v4, v5, rfl⟩ := list6 hl
  rw [hy] at hw
  obtain ⟨y0, d0, h0⟩ := hf 0 _ rfl v0 rfl
  obtain ⟨y1, d1, h1⟩ := hf 1 _ rfl v1 rfl
  obtain ⟨y2, d2, h2⟩ := hf 2 _ rfl v2 rfl
  obtain ⟨y3, d3, h3⟩ := hf 3 _ rfl v3 rfl
  obtain ⟨y4, d4, h4⟩ := hf 4 _ rfl v4 rfl
  obtain ⟨y5, d5, h5⟩ := hf 5 _ rfl v5 rfl
  obtain ⟨s0, rfl, z0⟩ := rd_str Try.underlying9 h0 (hw.field Try.underlying81 rfl d0)
  obtain ⟨s1, rfl, z1⟩ := rd_str Try.underlying9 h1 (hw.field Try.underlying81 rfl d1)
  obtain ⟨s2, rfl, z2⟩ := rd_str Try.underlying9 h2 (hw.field Try.underlying81 rfl d2)
  obtain ⟨b3, rfl⟩ := rd_bool Try.underlying4 h3
  obtain ⟨b4, rfl⟩ := rd_bool Try.underlying4 h4
  obtain ⟨i5, rfl, z5⟩ := rd_i64 Try.underlying3 h5
  exact ⟨⟨s0, s1, s2, b3, b4, i5⟩, rfl, z0, z1, z2, z5⟩
theorem rd_ti (n : Nat) (cs : List Value) (y : DataW H × List MemPlace) (h : DataW.trod enc Try.prog w base spare held n 62 cs = some y) (_ : Wt Try.prog 62 y.1) : ∃ x, cs = tiC x ∧ goodT x := by
  obtain ⟨hl, ds, m, hy, hf⟩ := open_rec Try.underlying62 (by kernel_rfl) (by kernel_rfl) h
  obtain ⟨v0, v1, v2, v3, rfl⟩ := list4 hl
  obtain ⟨y0, d0, h0⟩ := hf 0 _ rfl v0 rfl
  obtain ⟨y1, d1, h1⟩ := hf 1 _ rfl v1 rfl
  obtain ⟨y2, d2, h2⟩ := hf 2 _ rfl v2 rfl
  obtain ⟨y3, d3, h3⟩ := hf 3 _ rfl v3 rfl
  obtain ⟨i0, rfl, z0⟩ := rd_i64 Try.underlying3 h0
  obtain ⟨i1, rfl, z1⟩ := rd_i64 Try.underlying3 h1
  obtain ⟨i2, rfl, z2⟩ := rd_i64 Try.underlying3 h2
  obtain ⟨i3, rfl, z3⟩ := rd_i64 Try.underlying3 h3
  exact ⟨⟨i0, i1, i2, i3⟩, rfl, z0, z1, z2, z3⟩
theorem bytesEv : Try.prog.bytesOf 81 = 64 := by kernel_rfl
theorem bytesTi : Try.prog.bytesOf 62 = 32 := by kernel_rfl
set_option maxRecDepth 100000 in
/-- A graph without groups among the arguments. -/
theorem open_flat {r : Reach} {b0 : Nat} {v : Value} {d : DataW H} {p : List MemPlace} (hv : Value.okWide Try.prog w r b0 45 v) (h : DataW.Trod enc Try.prog w base spare held 45 v d p) (hw : Wt Try.prog 45 d) :
    ∃ (EA TA : Option Addr) (ec tc : Nat) (es : List Ev) (ts : List Ti), v = .agg #[.slice EA es.length ec, .slice TA ts.length tc] ∧ Row w EA (es.flatMap evC) ∧ Row w TA (ts.flatMap tiC) ∧ es.length * 64 ≤ 140737488351232 ∧ ts.length * 32 ≤ 140737488351232 ∧ (∀ x ∈ es, goodE x) ∧ ∀ t ∈ ts, goodT t := by
  obtain ⟨v0, v1, y0, y1, n, rfl, rfl, _, h0, h1⟩ := open_agg2 Try.underlying45 (by kernel_rfl) (by kernel_rfl) hv h
  obtain ⟨A0, l0, c0, rfl, r0, g0, _, _, z0⟩ := open_list evC 6 goodE Try.underlying42 (by kernel_rfl) (fun _ => rfl) (by omega) rd_ev h0 (hw.field Try.underlying45 (j := 0) rfl rfl)
  obtain ⟨A1, l1, c1, rfl, r1, g1, _, _, z1⟩ := open_list tiC 4 goodT Try.underlying43 (by kernel_rfl) (fun _ => rfl) (by omega) rd_ti h1 (hw.field Try.underlying45 (j := 1) rfl rfl)
  rw [bytesEv] at z0
  rw [bytesTi] at z1
  exact ⟨A0, A1, c0, c1, l0, l1, rfl, r0, r1, z0, z1, g0, g1⟩
end
end Go.Proofs.Ytaagpnepkjkfoaa.N7
