/-
  Contracts of slices.Clone at groups, events, relations, users and texts. A graph that came in as an argument: how it lies in memory, and how great its parts may be. Where a statement begins: the place that Check tells lies within the part's beginnings; contract of begin.
-/
import Derived.Test.YtigbceankmfaeaaGreatDoorTbcg
import Derived.SizedLaws
import Derived.Deep.Slices
import Derived.Deep.Fields
import Derived.Lib.SmallJoins
import Derived.Test.YtigbceankmfaeaaGreatDoorTbbe
namespace Go.Proofs.YtigbceankmfaeaaGreatDoor
open Go.RowKit Go.Shelf
theorem info_gp : (Tryz.prog.info? 43).map (fun i => (i.zero, i.size, i.bytes)) = some (some (.agg #[.string ⟨#[]⟩, .string ⟨#[]⟩]), 2, 32) := by kernel_rfl
theorem info_ev : (Tryz.prog.info? 46).map (fun i => (i.zero, i.size, i.bytes)) = some (some (.agg #[.string ⟨#[]⟩, .string ⟨#[]⟩, .string ⟨#[]⟩, .bool false, .bool false, .int .i64 0]), 6, 64) := by kernel_rfl
theorem info_rl : (Tryz.prog.info? 48).map (fun i => (i.zero, i.size, i.bytes)) = some (some (.agg #[.int .i64 0, .string ⟨#[]⟩, .string ⟨#[]⟩, .int .i64 0]), 4, 48) := by kernel_rfl
theorem info_us : (Tryz.prog.info? 51).map (fun i => (i.zero, i.size, i.bytes)) = some (some (.agg #[.string ⟨#[]⟩, .slice none 0 0, .string ⟨#[]⟩]), 3, 56) := by kernel_rfl
end Go.Proofs.YtigbceankmfaeaaGreatDoor

namespace Go.Proofs.YtigbceankmfaeaaGreatDoor
open Go.RowKit Go.Shelf Go.Deep Go.Joins Go.ChangeShapes Go.WideShapes
section
variable {H : Type} {enc : TypeId × Value → H} {P : Program} {w : World} {base : Nat} {spare : Nat → Bool} {held : Bool}
/-- What is read weighs no more than the reach. -/
def Wt (P : Program) (t : TypeId) (d : DataW H) : Prop := ∀ n ∈ d.weights P t, n ≤ 140737488351232
theorem Wt.of {ts : List TypeId} {ds : List (DataW H)} (h : (DataW.weightsEach P ts ds).all (· ≤ reachBytes) = true) {j : Nat} {t : TypeId} {d : DataW H} (ht : ts[j]? = some t) (hd : ds[j]? = some d) : Wt P t d :=
  fun n hn => of_decide_eq_true (List.all_eq_true.1 h n (DataW.weights_mem_each ht hd n hn))
theorem Wt.field {t : TypeId} {fs : Array Field} {parts : List (DataW H)} (h : Wt P t (.agg parts)) (ht : P.underlying t = some (.struct fs)) {j : Nat} {f : Field} {d : DataW H} (hf : fs[j]? = some f) (hd : parts[j]? = some d) : Wt P f.type d :=
  fun n hn => h n (by
    simp only [DataW.weights, ht]
    exact DataW.weights_mem_each (by rw [List.getElem?_map, Array.getElem?_toList, hf]; rfl) hd n hn)
theorem wt_all {e : TypeId} {n : Nat} : ∀ {l : List (DataW H)} {d : DataW H}, d ∈ l → n ∈ d.weights P e → n ∈ DataW.weightsAll P e l
  | x :: r, d, hd, hn => by
    rw [DataW.weightsAll, List.mem_append]
    cases hd with
    | head => exact .inl hn
    | tail _ h => exact .inr (wt_all h hn)
theorem Wt.len {t e : TypeId} {es sp : List (DataW H)} (h : Wt P t (.slice es sp)) (ht : P.underlying t = some (.slice e)) : (es.length + sp.length) * P.bytesOf e ≤ 140737488351232 :=
  h _ (by simp only [DataW.weights, ht]; exact List.mem_cons_self ..)
theorem Wt.elem {t e : TypeId} {es sp : List (DataW H)} (h : Wt P t (.slice es sp)) (ht : P.underlying t = some (.slice e)) {d : DataW H} (hd : d ∈ es) : Wt P e d :=
  fun n hn => h n (by simp only [DataW.weights, ht, List.mem_cons, List.mem_append]; exact .inr (.inl (wt_all hd hn)))
theorem Wt.str {t : TypeId} {l : List UInt8} (h : Wt P t (.lit (.string l) : DataW H)) : l.length ≤ 140737488351232 := h _ (by simp [DataW.weights])
/-- A struct of fields of one cell each: its cells, and each field's reading. -/
theorem open_rec {e : TypeId} {fs : Array Field} {n : Nat} {cs : List Value} {x : DataW H × List MemPlace} (he : P.underlying e = some (.struct fs)) (hone : oneCellFields P fs = true) (hC : P.cellsOf e = fs.size) (h : DataW.trod enc P w base spare held n e cs = some x) :
    cs.length = fs.size ∧ ∃ (ds : List (DataW H)) (m : Nat), x.1 = .agg ds ∧ ∀ (j : Nat) (f : Field), fs[j]? = some f → ∀ v, cs[j]? = some v → ∃ y, ds[j]? = some y.1 ∧ DataW.trod enc P w base spare held m f.type [v] = some y := by
  obtain ⟨xs, m, _, rfl, hlen, hxl, hf⟩ := DataW.trod_struct he h
  refine ⟨hlen.trans hC, xs.map (·.1), m, rfl, fun j f hj v hv => ?_⟩
  obtain ⟨ho, hk⟩ := hone_of hone j f hj
  have hjl : j < xs.length := by rw [hxl]; exact (Array.getElem?_eq_some_iff.1 hj).1
  have h1 := hf j f hj
  obtain ⟨hjc, hvv⟩ := List.getElem?_eq_some_iff.1 hv
  rw [ho, hk, List.drop_eq_getElem_cons hjc, List.take_succ_cons, List.take_zero, hvv, List.getElem?_eq_getElem hjl] at h1
  exact ⟨xs[j], by rw [List.getElem?_map, List.getElem?_eq_getElem hjl]; rfl, h1⟩
/-- A list that came in. -/
theorem open_list {α : Type} [Inhabited α] (en : α → List Value) (k : Nat) (good : α → Prop) {t e : TypeId} (ht : P.underlying t = some (.slice e)) (hC : P.cellsOf e = k) (hk : ∀ x, (en x).length = k) (k0 : 0 < k)
    (hel : ∀ (n : Nat) (cs : List Value) (y : DataW H × List MemPlace), DataW.trod enc P w base spare held n e cs = some y → Wt P e y.1 → ∃ x, cs = en x ∧ good x)
    {fuel : Nat} {v : Value} {x : DataW H × List MemPlace} (h : DataW.trod enc P w base spare held fuel t [v] = some x) (hw : Wt P t x.1) :
    ∃ (A : Option Addr) (l : List α) (c : Nat), v = .slice A l.length c ∧ Row w A (l.flatMap en) ∧ (∀ x ∈ l, good x) ∧ l.length ≤ c ∧ (A = none → c = 0) ∧ l.length * P.bytesOf e ≤ 140737488351232 := by
  rcases open_slice ht h with ⟨hv, hx⟩ | ⟨a, len, cap, m, n, D, Pl, hv, hb, hl, hm, hmm, rfl, hi⟩
  · injection hv with hv _
    exact ⟨none, [], 0, hv, fun h => absurd rfl h, by simp, Nat.le_refl _, fun _ => rfl, by simp⟩
  · injection hv with hv _
    subst hv
    have hlm : len ≤ m := by rw [hmm]; split <;> omega
    have hW := hw.len ht
    rw [List.length_map, List.length_range] at hW
    have el : ∀ i, i < len → ∃ x : α, (∀ j u, (en x)[j]? = some u → w.cell? (a.add (i * k + j)) = some u) ∧ good x := by
      intro i hil
      obtain ⟨cs, hc, htr⟩ := hi i (by omega)
      obtain ⟨x, hcs, hg⟩ := hel n cs _ htr (hw.elem ht (List.mem_map.2 ⟨i, List.mem_range.2 hil, rfl⟩))
      obtain ⟨_, hcl, hat⟩ := World.cells?_some hc
      refine ⟨x, fun j u hj => ?_, hg⟩
      rw [← hcs] at hj
      have hjk : j < k := by rw [← hC, ← hcl]; exact (List.getElem?_eq_some_iff.1 hj).1
      have h1 := hat j (by rw [hC]; exact hjk)
      rw [hC, Go.Deep.add_add] at h1
      exact h1.trans hj
    obtain ⟨f, hf⟩ : ∃ f : Nat → α, ∀ i, i < len → (∀ j u, (en (f i))[j]? = some u → w.cell? (a.add (i * k + j)) = some u) ∧ good (f i) := by
      classical
      refine ⟨fun i => if h : i < len then Classical.choose (el i h) else default, fun i hil => ?_⟩
      simp only [hil, dif_pos]
      exact Classical.choose_spec (el i hil)
    have hat : ∀ i, i < len → ((List.range len).map f)[i]! = f i := fun i hil => by
      rw [getElem!_pos _ i (by simpa using hil), List.getElem_map, List.getElem_range]
    refine ⟨some a, (List.range len).map f, cap, by simp, fun hne => ?_, fun y hy => ?_, by simpa using hl, (fun e => by cases e), ?_⟩
    · have hlen0 : 0 < len := by
        rcases Nat.eq_zero_or_pos len with h0 | h0
        · exfalso; apply hne; rw [h0]; rfl
        · exact h0
      have hcell : ∀ j u, (((List.range len).map f).flatMap en)[j]? = some u → w.cell? (a.add j) = some u := by
        intro j u hj
        have hjl := (List.getElem?_eq_some_iff.1 hj).1
        rw [flat_len en k hk, List.length_map, List.length_range] at hjl
        have hik : j / k < len := Nat.div_lt_of_lt_mul (by rw [Nat.mul_comm]; exact hjl)
        have hr : j % k < k := Nat.mod_lt _ k0
        have e1 : j / k * k + j % k = j := Nat.div_add_mod' j k
        have h2 := flat_at en k hk ((List.range len).map f) (j / k) (by simpa using hik) (j % k) hr
        rw [e1, hj, hat _ hik] at h2
        have h3 := (hf (j / k) hik).1 (j % k) u h2.symm
        rw [e1] at h3; exact h3
      obtain ⟨blk, off, spot⟩ := a
      have h0 : w.cell? ⟨blk, off, spot⟩ ≠ none := by
        have hl0 : 0 < (((List.range len).map f).flatMap en).length := by rw [flat_len en k hk, List.length_map, List.length_range]; exact Nat.mul_pos hlen0 k0
        have h1 := hcell 0 _ (List.getElem?_eq_getElem hl0)
        intro h2
        have e0 : (⟨blk, off, spot⟩ : Addr).add 0 = ⟨blk, off, spot⟩ := if_pos rfl
        rw [e0, h2] at h1; cases h1
      have hsp : spot = none := by
        cases spot with
        | none => rfl
        | some s => exfalso; apply h0; unfold World.cell?; split <;> simp
      subst hsp
      refine ⟨blk, off, rfl, ?_, fun j u hj => ?_⟩
      · rcases Nat.lt_or_ge blk w.heap.size with h1 | h1
        · exact h1
        · exfalso; apply h0; unfold World.cell?; simp [Array.getElem?_eq_none h1]
      · have := hcell j u hj
        rw [Addr.add_lit] at this; exact this
    · obtain ⟨i, hil, rfl⟩ := List.mem_map.1 hy
      exact (hf i (List.mem_range.1 hil)).2
    · rw [List.length_map, List.length_range]
      exact Nat.le_trans (Nat.mul_le_mul_right _ (Nat.le_add_right _ _)) hW
end
section
variable {H : Type} {enc : TypeId × Value → H} {w : World} {base : Nat} {spare : Nat → Bool} {held : Bool}
theorem rd_str {n : Nat} {t : TypeId} (ht : Tryz.prog.underlying t = some .string) {v : Value} {y : DataW H × List MemPlace} (h : DataW.trod enc Tryz.prog w base spare held n t [v] = some y) (hw : Wt Tryz.prog t y.1) : ∃ s : ByteArray, v = .string s ∧ s.size ≤ 140737488351232 := by
  obtain ⟨s, hs, rfl, _⟩ := DataW.trod_string ht h
  injection hs with hs _
  exact ⟨s, hs, by have := hw.str; simpa using this⟩
theorem rd_int {n : Nat} {t : TypeId} (ht : Tryz.prog.underlying t = some (.int .i64)) {v : Value} {y : DataW H × List MemPlace} (h : DataW.trod enc Tryz.prog w base spare held n t [v] = some y) : ∃ i : Int, v = .int .i64 i ∧ (Lit.int .i64 i).wf = true := by
  obtain ⟨i, hs, _, hwf⟩ := DataW.trod_int ht h
  injection hs with hs _
  exact ⟨i, hs, hwf⟩
theorem rd_bool {n : Nat} {t : TypeId} (ht : Tryz.prog.underlying t = some .bool) {v : Value} {y : DataW H × List MemPlace} (h : DataW.trod enc Tryz.prog w base spare held n t [v] = some y) : ∃ b : Bool, v = .bool b := by
  obtain ⟨b, hs, _⟩ := DataW.trod_bool ht h
  injection hs with hs _
  exact ⟨b, hs⟩
theorem list2 {l : List Value} (h : l.length = 2) : ∃ a b, l = [a, b] := by match l, h with | [a, b], _ => exact ⟨a, b, rfl⟩
theorem list3 {l : List Value} (h : l.length = 3) : ∃ a b c, l = [a, b, c] := by match l, h with | [a, b, c], _ => exact ⟨a, b, c, rfl⟩
theorem list4 {l : List Value} (h : l.length = 4) : ∃ a b c d, l = [a, b, c, d] := by match l, h with | [a, b, c, d], _ => exact ⟨a, b, c, d, rfl⟩
theorem list6 {l : List Value} (h : l.length = 6) : ∃ a b c d e f, l = [a, b, c, d, e, f] := by match l, h with | [a, b, c, d, e, f], _ => exact ⟨a, b, c, d, e, f, rfl⟩
def goodG (p : Gp) : Prop := p.name.size ≤ 140737488351232 ∧ p.parent.size ≤ 140737488351232
def goodE (v : Ev) : Prop := v.name.size ≤ 140737488351232 ∧ v.group.size ≤ 140737488351232 ∧ v.role.size ≤ 140737488351232 ∧ (Lit.int .i64 v.due).wf = true
def goodR (r : Rl) : Prop := r.src.size ≤ 140737488351232 ∧ r.dst.size ≤ 140737488351232 ∧ (Lit.int .i64 r.kind).wf = true ∧ (Lit.int .i64 r.time).wf = true
def goodU (w : World) (u : Us) : Prop := (u.name.size ≤ 140737488351232 ∧ u.sub.size ≤ 140737488351232 ∧ u.roles.length * 16 ≤ 140737488351232 ∧ ∀ s ∈ u.roles, s.size ≤ 140737488351232) ∧ Row w u.ra (u.roles.map Value.string) ∧ u.roles.length ≤ u.rc ∧ (u.ra = none → u.rc = 0)
theorem rd_gp (n : Nat) (cs : List Value) (y : DataW H × List MemPlace) (h : DataW.trod enc Tryz.prog w base spare held n 43 cs = some y) (hw : Wt Tryz.prog 43 y.1) : ∃ x, cs = gpC x ∧ goodG x := by
  obtain ⟨hl, ds, m, hy, hf⟩ := open_rec Tryz.underlying43 (by kernel_rfl) (by kernel_rfl) h
  obtain ⟨v0, v1, rfl⟩ := list2 hl
  rw [hy] at hw
  obtain ⟨y0, d0, h0⟩ := hf 0 _ rfl v0 rfl
  obtain ⟨y1, d1, h1⟩ := hf 1 _ rfl v1 rfl
  obtain ⟨s0, rfl, z0⟩ := rd_str Tryz.underlying9 h0 (hw.field Tryz.underlying43 rfl d0)
  obtain ⟨s1, rfl, z1⟩ := rd_str Tryz.underlying9 h1 (hw.field Tryz.underlying43 rfl d1)
  exact ⟨⟨s0, s1⟩, rfl, z0, z1⟩
theorem rd_ev (n : Nat) (cs : List Value) (y : DataW H × List MemPlace) (h : DataW.trod enc Tryz.prog w base spare held n 46 cs = some y) (hw : Wt Tryz.prog 46 y.1) : ∃ x, cs = evC x ∧ goodE x := by
  obtain ⟨hl, ds, m, hy, hf⟩ := open_rec Tryz.underlying46 (by kernel_rfl) (by kernel_rfl) h
  obtain ⟨v0, v1, v2, v3, v4, v5, rfl⟩ := list6 hl
  rw [hy] at hw
  obtain ⟨y0, d0, h0⟩ := hf 0 _ rfl v0 rfl
  obtain ⟨y1, d1, h1⟩ := hf 1 _ rfl v1 rfl
  obtain ⟨y2, d2, h2⟩ := hf 2 _ rfl v2 rfl
  obtain ⟨y3, d3, h3⟩ := hf 3 _ rfl v3 rfl
  obtain ⟨y4, d4, h4⟩ := hf 4 _ rfl v4 rfl
  obtain ⟨y5, d5, h5⟩ := hf 5 _ rfl v5 rfl
  obtain ⟨s0, rfl, z0⟩ := rd_str Tryz.underlying9 h0 (hw.field Tryz.underlying46 rfl d0)
  obtain ⟨s1, rfl, z1⟩ := rd_str Tryz.underlying9 h1 (hw.field Tryz.underlying46 rfl d1)
  obtain ⟨s2, rfl, z2⟩ := rd_str Tryz.underlying9 h2 (hw.field Tryz.underlying46 rfl d2)
  obtain ⟨b3, rfl⟩ := rd_bool Tryz.underlying4 h3
  obtain ⟨b4, rfl⟩ := rd_bool Tryz.underlying4 h4
  obtain ⟨i5, rfl, z5⟩ := rd_int Tryz.underlying3 h5
  exact ⟨⟨s0, s1, s2, b3, b4, i5⟩, rfl, z0, z1, z2, z5⟩
theorem rd_rl (n : Nat) (cs : List Value) (y : DataW H × List MemPlace) (h : DataW.trod enc Tryz.prog w base spare held n 48 cs = some y) (hw : Wt Tryz.prog 48 y.1) : ∃ x, cs = rlC x ∧ goodR x := by
  obtain ⟨hl, ds, m, hy, hf⟩ := open_rec Tryz.underlying48 (by kernel_rfl) (by kernel_rfl) h
  obtain ⟨v0, v1, v2, v3, rfl⟩ := list4 hl
  rw [hy] at hw
  obtain ⟨y0, d0, h0⟩ := hf 0 _ rfl v0 rfl
  obtain ⟨y1, d1, h1⟩ := hf 1 _ rfl v1 rfl
  obtain ⟨y2, d2, h2⟩ := hf 2 _ rfl v2 rfl
  obtain ⟨y3, d3, h3⟩ := hf 3 _ rfl v3 rfl
  obtain ⟨i0, rfl, z0⟩ := rd_int Tryz.underlying3 h0
  obtain ⟨s1, rfl, z1⟩ := rd_str Tryz.underlying9 h1 (hw.field Tryz.underlying48 rfl d1)
  obtain ⟨s2, rfl, z2⟩ := rd_str Tryz.underlying9 h2 (hw.field Tryz.underlying48 rfl d2)
  obtain ⟨i3, rfl, z3⟩ := rd_int Tryz.underlying3 h3
  exact ⟨⟨i0, s1, s2, i3⟩, rfl, z1, z2, z0, z3⟩
theorem bytesStr : Tryz.prog.bytesOf 9 = 16 := by kernel_rfl
theorem rd_st (n : Nat) (cs : List Value) (y : DataW H × List MemPlace) (h : DataW.trod enc Tryz.prog w base spare held n 9 cs = some y) (hw : Wt Tryz.prog 9 y.1) : ∃ x, cs = stC x ∧ x.size ≤ 140737488351232 := by
  obtain ⟨s, rfl, rfl, _⟩ := DataW.trod_string Tryz.underlying9 h
  exact ⟨s, rfl, by have := hw.str; simpa using this⟩
theorem rd_us (n : Nat) (cs : List Value) (y : DataW H × List MemPlace) (h : DataW.trod enc Tryz.prog w base spare held n 51 cs = some y) (hw : Wt Tryz.prog 51 y.1) : ∃ x, cs = usC x ∧ goodU w x := by
  obtain ⟨hl, ds, m, hy, hf⟩ := open_rec Tryz.underlying51 (by kernel_rfl) (by kernel_rfl) h
  obtain ⟨v0, v1, v2, rfl⟩ := list3 hl
  rw [hy] at hw
  obtain ⟨y0, d0, h0⟩ := hf 0 _ rfl v0 rfl
  obtain ⟨y1, d1, h1⟩ := hf 1 _ rfl v1 rfl
  obtain ⟨y2, d2, h2⟩ := hf 2 _ rfl v2 rfl
  obtain ⟨s0, rfl, z0⟩ := rd_str Tryz.underlying9 h0 (hw.field Tryz.underlying51 rfl d0)
  obtain ⟨A, l, c, rfl, hr, hg, hc, hn, hz⟩ := open_list stC 1 (fun s : ByteArray => s.size ≤ 140737488351232) Tryz.underlying49 (by kernel_rfl) (fun _ => rfl) (by omega) rd_st h1 (hw.field Tryz.underlying51 rfl d1)
  obtain ⟨s2, rfl, z2⟩ := rd_str Tryz.underlying9 h2 (hw.field Tryz.underlying51 rfl d2)
  rw [bytesStr] at hz
  have e : l.flatMap stC = l.map Value.string := by rw [List.map_eq_flatMap]; rfl
  rw [e] at hr
  exact ⟨⟨s0, A, c, l, s2⟩, rfl, ⟨z0, z2, hz, hg⟩, hr, hc, hn⟩
theorem bytesGp : Tryz.prog.bytesOf 43 = 32 := by kernel_rfl
theorem bytesEv : Tryz.prog.bytesOf 46 = 64 := by kernel_rfl
theorem bytesRl : Tryz.prog.bytesOf 48 = 48 := by kernel_rfl
theorem bytesUs : Tryz.prog.bytesOf 51 = 56 := by kernel_rfl
set_option maxRecDepth 100000 in
/-- A graph among the arguments. -/
theorem open_graph {r : Reach} {b0 : Nat} {v : Value} {d : DataW H} {p : List MemPlace} (hv : Value.okWide Tryz.prog w r b0 27 v) (h : DataW.Trod enc Tryz.prog w base spare held 27 v d p) (hw : Wt Tryz.prog 27 d) :
    ∃ g : Gr, v = .agg #[.slice g.ga g.gs.length g.gc, .slice g.ea g.es.length g.ec, .slice g.ra g.rs.length g.rc, .slice g.ua g.us.length g.uc] ∧ InG w g ∧ SzG g ∧ (∀ u ∈ g.us, u.roles.length ≤ u.rc) ∧ (∀ u ∈ g.us, u.ra = none → u.rc = 0) ∧ g.gs.length ≤ g.gc ∧ g.es.length ≤ g.ec ∧ g.rs.length ≤ g.rc ∧ (g.ea = none → g.ec = 0) := by
  obtain ⟨v0, v1, v2, v3, y0, y1, y2, y3, n, rfl, rfl, _, h0, h1, h2, h3⟩ := open_agg4 Tryz.underlying27 (by kernel_rfl) (by kernel_rfl) hv h
  obtain ⟨A0, l0, c0, rfl, r0, g0, k0, _, z0⟩ := open_list gpC 2 goodG Tryz.underlying22 (by kernel_rfl) (fun _ => rfl) (by omega) rd_gp h0 (hw.field Tryz.underlying27 (j := 0) rfl rfl)
  obtain ⟨A1, l1, c1, rfl, r1, g1, k1, n1, z1⟩ := open_list evC 6 goodE Tryz.underlying23 (by kernel_rfl) (fun _ => rfl) (by omega) rd_ev h1 (hw.field Tryz.underlying27 (j := 1) rfl rfl)
  obtain ⟨A2, l2, c2, rfl, r2, g2, k2, _, z2⟩ := open_list rlC 4 goodR Tryz.underlying24 (by kernel_rfl) (fun _ => rfl) (by omega) rd_rl h2 (hw.field Tryz.underlying27 (j := 2) rfl rfl)
  obtain ⟨A3, l3, c3, rfl, r3, g3, _, _, z3⟩ := open_list usC 3 (goodU w) Tryz.underlying25 (by kernel_rfl) (fun _ => rfl) (by omega) rd_us h3 (hw.field Tryz.underlying27 (j := 3) rfl rfl)
  rw [bytesGp] at z0
  rw [bytesEv] at z1
  rw [bytesRl] at z2
  rw [bytesUs] at z3
  exact ⟨⟨l0, l1, l2, l3, A0, c0, A1, c1, A2, c2, A3, c3⟩, rfl, ⟨r0, r1, r2, r3, fun u hu => (g3 u hu).2.1⟩, ⟨z0, z1, z2, z3, g0, g1, g2, fun u hu => (g3 u hu).1⟩, fun u hu => (g3 u hu).2.2.1, fun u hu => (g3 u hu).2.2.2, k0, k1, k2, n1⟩
end
end Go.Proofs.YtigbceankmfaeaaGreatDoor

namespace Go.Proofs.YtigbceankmfaeaaGreatDoor.P3.C
open Go.RowKit Go.Shelf Go.Proofs.YtigbceankmfaeaaGreatDoor.B Go.Proofs.YtigbceankmfaeaaGreatDoor.Lx Go.Proofs.YtigbceankmfaeaaGreatDoor.P3
theorem tellL_lt {f : Nat → Nat} : ∀ {n i e : Nat}, tellL f n = some (i, e) → i < n
  | 0, i, e, h => by simp [tellL] at h
  | n + 1, i, e, h => by
    rw [tellL] at h
    cases hq : tellL f n with
    | some x =>
      rw [hq] at h
      simp only [Option.some.injEq] at h
      have := tellL_lt (f := f) (n := n) (i := i) (e := e) (by rw [hq, h])
      omega
    | none =>
      rw [hq] at h
      by_cases h0 : f n = 0
      · simp [h0] at h
      · simp [h0] at h; omega
/-- A place tells a part, and what is of that part. -/
def PlOk (c : St) (n1 n2 n3 n4 : Nat) : Prop := c.2.2 = 0 ∨ c.1 = 0 ∨ (c.1 = 1 ∧ c.2.1 < n1) ∨ (c.1 = 2 ∧ c.2.1 < n2) ∨ (c.1 = 3 ∧ c.2.1 < n3) ∨ (c.1 = 4 ∧ c.2.1 < n4)
theorem tellS_cases (s : St) (p : Nat) (f : Nat → Nat) (n : Nat) : tellS s p f n = s ∨ ((tellS s p f n).1 = p ∧ (tellS s p f n).2.1 < n) := by
  unfold tellS
  by_cases h : s.2.2 = 0
  · rw [if_pos h]
    cases hq : tellL f n with
    | none => exact .inl rfl
    | some x => exact .inr ⟨rfl, tellL_lt (i := x.1) (e := x.2) hq⟩
  · rw [if_neg h]; exact .inl rfl
theorem check_place (g : Gr) : PlOk (checkL g) g.gs.length g.es.length g.rs.length g.us.length := by
  unfold checkL
  rcases tellS_cases (tellS (tellS (tellS (tellS (0, 0, 0) 0 (fun _ => limitE g) 1) 1 (groupE g) g.gs.length) 2 (eventE g) g.es.length) 3 (relE g) g.rs.length) 4 (userE g) g.us.length with h | h
  · rw [h]
    rcases tellS_cases (tellS (tellS (tellS (0, 0, 0) 0 (fun _ => limitE g) 1) 1 (groupE g) g.gs.length) 2 (eventE g) g.es.length) 3 (relE g) g.rs.length with h | h
    · rw [h]
      rcases tellS_cases (tellS (tellS (0, 0, 0) 0 (fun _ => limitE g) 1) 1 (groupE g) g.gs.length) 2 (eventE g) g.es.length with h | h
      · rw [h]
        rcases tellS_cases (tellS (0, 0, 0) 0 (fun _ => limitE g) 1) 1 (groupE g) g.gs.length with h | h
        · rw [h]
          rcases tellS_cases (0, 0, 0) 0 (fun _ => limitE g) 1 with h | h
          · rw [h]; exact .inl rfl
          · exact .inr (.inl h.1)
        · exact .inr (.inr (.inl h))
      · exact .inr (.inr (.inr (.inl h)))
    · exact .inr (.inr (.inr (.inr (.inl h))))
  · exact .inr (.inr (.inr (.inr (.inr h))))
set_option maxRecDepth 100000 in
set_option maxHeartbeats 2000000 in
theorem begin_any (wB W : World) (bw : Nat) (v0 v1 v2 v3 : Value) (G : List Gp) (E : List Ev) (R : List Rl) (U : List Us) (s : Nat → Value) (bl : Nat → List Int) (h : WH wB bw v0 v1 v2 v3 G E R U s bl W) (p i : Nat) (hp : p < 5) (hi : p ≠ 0 → i < (bl p).length) :
    Calls Tryz.prog 29 #[.pointer (some ⟨bw, 0, none⟩), .agg #[.int .i64 (p : Int), .int .i64 (i : Int)]] W fun e w' => e = .returned (.int .i64 (if p = 0 then 0 else (bl p)[i]!)) ∧ Below W.heap.size W w' := by
  have hal : Below W.heap.size W (W.alloc (.cells #[.int .i64 (p : Int), .int .i64 (i : Int)] 53)) := (Below.refl _ _).alloc (Nat.le_refl _) _
  by_cases h0 : p = 0
  · subst h0
    clear hi h
    go_enter Tryz.func29, Tryz.ntmps29
    go_wp2_with fail
    go_ret
    exact ⟨rfl, hal⟩
  · have hi' := hi h0
    have HR := Lib.hid (show (if p = 0 then (0 : Int) else (bl p)[i]!) = (bl p)[i]! from if_neg h0)
    have h1 := h.call hal
    obtain ⟨sa, sc, hs⟩ := Go.Proofs.YtigbceankmfaeaaGreatDoor.B.own_slice (h1.st p hp)
    have hsc := h1.sc hp
    have hrow := h1.st p hp
    rw [hs] at hsc hrow
    have hr := Row.of_own hrow
    obtain ⟨bq, off, rfl, hbq, hcell⟩ := hr (fun e => by rw [List.map_eq_nil_iff] at e; rw [e] at hi'; simp at hi')
    have hc := hcell i (.int .i64 (bl p)[i]!) (by rw [List.getElem?_map, List.getElem?_eq_getElem hi', getElem!_pos (bl p) i hi']; rfl)
    have hlw := h1.lt
    have hn := heap_new W (.cells #[.int .i64 (p : Int), .int .i64 (i : Int)] 53)
    have hp0 : (0 : Int) ≤ (p : Int) := Int.natCast_nonneg _
    have hp1 : (p : Int) < 5 := by omega
    have hpz : ((p : Int) == 0) = false := by rw [beq_eq_false_iff_ne]; omega
    have hi0 : (0 : Int) ≤ (i : Int) := Int.natCast_nonneg _
    have hi1 : (i : Int) < ((bl p).length : Int) := by omega
    have HA := Lib.hid hal
    obtain ⟨W1, hW1⟩ : ∃ W1, W1 = W.alloc (.cells #[.int .i64 (p : Int), .int .i64 (i : Int)] 53) := ⟨_, rfl⟩
    obtain ⟨x, hx⟩ : ∃ x, x = W.heap.size := ⟨_, rfl⟩
    rw [← hW1] at hsc hc hlw hbq HA hn
    rw [← hx] at hn
    have n0 := cell_blk (i := 0) hn rfl
    have n1 := cell_blk (i := 1) hn rfl
    have hxl := blk_lt hn
    clear hi h h1 hs hrow hr hcell hal hn
    generalize (bl p)[i]! = z at *
    generalize (bl p).length = ln at *
    go_enter Tryz.func29, Tryz.ntmps29
    go_wp2_with fail
    rw [← hW1, ← hx]
    clear hW1 hx
    go_quiet (fail)
    go_wp2_with fail
    go_ret
    exact ⟨ret_i64 rfl, below_draws HA.out _⟩
end Go.Proofs.YtigbceankmfaeaaGreatDoor.P3.C
