/-
  A graph that came in as an argument: how it lies in memory, and how great its parts may be. Contracts of slices.Equal at groups, events, relations and texts. Contract of the document's own Words. Away, twice, and here again, plainly. Lists of who is away; who stands for a holder, plainly.
-/
import Derived.Test.YtahhhhacoigpmaaScbc
import Derived.SizedLaws
import Derived.Deep.Slices
import Derived.Deep.Fields
import Derived.Lib.SmallJoins
import Derived.Laws.StructEq
import Derived.Test.YtahhhhacoigpmaaScbe
namespace Go.Proofs.Ytahhhhacoigpmaa
open Go.RowKit Go.Shelf Go.Deep Go.Joins Go.ChangeShapes Go.WideShapes
section
variable {H : Type} {enc : TypeId × Value → H} {P : Program} {w : World} {base : Nat} {spare : Nat → Bool} {held : Bool}
/-- What is read weighs no more than the reach. -/
def Wt (P : Program) (t : TypeId) (d : DataW H) : Prop := ∀ n ∈ d.weights P t, n ≤ 140737488351232
theorem Wt.of {ts : List TypeId} {ds : List (DataW H)} (h : (DataW.weightsEach P ts ds).all (· ≤ reachBytes) = true) {j : Nat} {t : TypeId} {d : DataW H} (ht : ts[j]? = some t) (hd : ds[j]? = some d) : Wt P t d :=
  fun n hn => of_decide_eq_true (List.all_eq_true.1 h n (DataW.weights_mem_each ht hd n hn))
theorem Wt.field {t : TypeId} {fs : Array Field} {parts : List (DataW H)} (h : Wt P t (.agg parts)) (ht : P.underlying t = some (.struct fs)) {j : Nat} {f : Field} {d : DataW H} (hf : fs[j]? = some f) (hd : parts[j]? = some d) : Wt P f.type d :=
  fun n hn => h n (by
    simp only [DataW.weights, ht]
    exact DataW.weights_mem_each (by rw [List.getElem?_map, Array.getElem?_toList, hf]; rfl) hd n hn)
theorem wt_all {e : TypeId} {n : Nat} : ∀ {l : List (DataW H)} {d : DataW H}, d ∈ l → n ∈ d.weights P e → n ∈ DataW.weightsAll P e l
  | x :: r, d, hd, hn => by
    rw [DataW.weightsAll, List.mem_append]
    cases hd with
    | head => exact .inl hn
    | tail _ h => exact .inr (wt_all h hn)
theorem Wt.len {t e : TypeId} {es sp : List (DataW H)} (h : Wt P t (.slice es sp)) (ht : P.underlying t = some (.slice e)) : (es.length + sp.length) * P.bytesOf e ≤ 140737488351232 :=
  h _ (by simp only [DataW.weights, ht]; exact List.mem_cons_self ..)
theorem Wt.elem {t e : TypeId} {es sp : List (DataW H)} (h : Wt P t (.slice es sp)) (ht : P.underlying t = some (.slice e)) {d : DataW H} (hd : d ∈ es) : Wt P e d :=
  fun n hn => h n (by simp only [DataW.weights, ht, List.mem_cons, List.mem_append]; exact .inr (.inl (wt_all hd hn)))
theorem Wt.str {t : TypeId} {l : List UInt8} (h : Wt P t (.lit (.string l) : DataW H)) : l.length ≤ 140737488351232 := h _ (by simp [DataW.weights])
/-- A struct of fields of one cell each: its cells, and each field's reading. -/
theorem open_rec {e : TypeId} {fs : Array Field} {n : Nat} {cs : List Value} {x : DataW H × List MemPlace} (he : P.underlying e = some (.struct fs)) (hone : oneCellFields P fs = true) (hC : P.cellsOf e = fs.size) (h : DataW.trod enc P w base spare held n e cs = some x) :
    cs.length = fs.size ∧ ∃ (ds : List (DataW H)) (m : Nat), x.1 = .agg ds ∧ ∀ (j : Nat) (f : Field), fs[j]? = some f → ∀ v, cs[j]? = some v → ∃ y, ds[j]? = some y.1 ∧ DataW.trod enc P w base spare held m f.type [v] = some y := by
  obtain ⟨xs, m, _, rfl, hlen, hxl, hf⟩ := DataW.trod_struct he h
  refine ⟨hlen.trans hC, xs.map (·.1), m, rfl, fun j f hj v hv => ?_⟩
  obtain ⟨ho, hk⟩ := hone_of hone j f hj
  have hjl : j < xs.length := by rw [hxl]; exact (Array.getElem?_eq_some_iff.1 hj).1
  have h1 := hf j f hj
  obtain ⟨hjc, hvv⟩ := List.getElem?_eq_some_iff.1 hv
  rw [ho, hk, List.drop_eq_getElem_cons hjc, List.take_succ_cons, List.take_zero, hvv, List.getElem?_eq_getElem hjl] at h1
  exact ⟨xs[j], by rw [List.getElem?_map, List.getElem?_eq_getElem hjl]; rfl, h1⟩
/-- A list that came in. -/
theorem open_list {α : Type} [Inhabited α] (en : α → List Value) (k : Nat) (good : α → Prop) {t e : TypeId} (ht : P.underlying t = some (.slice e)) (hC : P.cellsOf e = k) (hk : ∀ x, (en x).length = k) (k0 : 0 < k)
    (hel : ∀ (n : Nat) (cs : List Value) (y : DataW H × List MemPlace), DataW.trod enc P w base spare held n e cs = some y → Wt P e y.1 → ∃ x, cs = en x ∧ good x)
    {fuel : Nat} {v : Value} {x : DataW H × List MemPlace} (h : DataW.trod enc P w base spare held fuel t [v] = some x) (hw : Wt P t x.1) :
    ∃ (A : Option Addr) (l : List α) (c : Nat), v = .slice A l.length c ∧ Row w A (l.flatMap en) ∧ (∀ x ∈ l, good x) ∧ l.length ≤ c ∧ (A = none → c = 0) ∧ l.length * P.bytesOf e ≤ 140737488351232 := by
  rcases open_slice ht h with ⟨hv, hx⟩ | ⟨a, len, cap, m, n, D, Pl, hv, hb, hl, hm, hmm, rfl, hi⟩
  · injection hv with hv _
    exact ⟨none, [], 0, hv, fun h => absurd rfl h, by simp, Nat.le_refl _, fun _ => rfl, by simp⟩
  · injection hv with hv _
    subst hv
    have hlm : len ≤ m := by rw [hmm]; split <;> omega
    have hW := hw.len ht
    rw [List.length_map, List.length_range] at hW
    have el : ∀ i, i < len → ∃ x : α, (∀ j u, (en x)[j]? = some u → w.cell? (a.add (i * k + j)) = some u) ∧ good x := by
      intro i hil
      obtain ⟨cs, hc, htr⟩ := hi i (by omega)
      obtain ⟨x, hcs, hg⟩ := hel n cs _ htr (hw.elem ht (List.mem_map.2 ⟨i, List.mem_range.2 hil, rfl⟩))
      obtain ⟨_, hcl, hat⟩ := World.cells?_some hc
      refine ⟨x, fun j u hj => ?_, hg⟩
      rw [← hcs] at hj
      have hjk : j < k := by rw [← hC, ← hcl]; exact (List.getElem?_eq_some_iff.1 hj).1
      have h1 := hat j (by rw [hC]; exact hjk)
      rw [hC, Go.Deep.add_add] at h1
      exact h1.trans hj
    obtain ⟨f, hf⟩ : ∃ f : Nat → α, ∀ i, i < len → (∀ j u, (en (f i))[j]? = some u → w.cell? (a.add (i * k + j)) = some u) ∧ good (f i) := by
      classical
      refine ⟨fun i => if h : i < len then Classical.choose (el i h) else default, fun i hil => ?_⟩
      simp only [hil, dif_pos]
      exact Classical.choose_spec (el i hil)
    have hat : ∀ i, i < len → ((List.range len).map f)[i]! = f i := fun i hil => by
      rw [getElem!_pos _ i (by simpa using hil), List.getElem_map, List.getElem_range]
    refine ⟨some a, (List.range len).map f, cap, by simp, fun hne => ?_, fun y hy => ?_, by simpa using hl, (fun e => by cases e), ?_⟩
    · have hlen0 : 0 < len := by
        rcases Nat.eq_zero_or_pos len with h0 | h0
        · exfalso; apply hne; rw [h0]; rfl
        · exact h0
      have hcell : ∀ j u, (((List.range len).map f).flatMap en)[j]? = some u → w.cell? (a.add j) = some u := by
        intro j u hj
        have hjl := (List.getElem?_eq_some_iff.1 hj).1
        rw [flat_len en k hk, List.length_map, List.length_range] at hjl
        have hik : j / k < len := Nat.div_lt_of_lt_mul (by rw [Nat.mul_comm]; exact hjl)
        have hr : j % k < k := Nat.mod_lt _ k0
        have e1 : j / k * k + j % k = j := Nat.div_add_mod' j k
        have h2 := flat_at en k hk ((List.range len).map f) (j / k) (by simpa using hik) (j % k) hr
        rw [e1, hj, hat _ hik] at h2
        have h3 := (hf (j / k) hik).1 (j % k) u h2.symm
        rw [e1] at h3; exact h3
      obtain ⟨blk, off, spot⟩ := a
      have h0 : w.cell? ⟨blk, off, spot⟩ ≠ none := by
        have hl0 : 0 < (((List.range len).map f).flatMap en).length := by rw [flat_len en k hk, List.length_map, List.length_range]; exact Nat.mul_pos hlen0 k0
        have h1 := hcell 0 _ (List.getElem?_eq_getElem hl0)
        intro h2
        have e0 : (⟨blk, off, spot⟩ : Addr).add 0 = ⟨blk, off, spot⟩ := if_pos rfl
        rw [e0, h2] at h1; cases h1
      have hsp : spot = none := by
        cases spot with
        | none => rfl
        | some s => exfalso; apply h0; unfold World.cell?; split <;> simp
      subst hsp
      refine ⟨blk, off, rfl, ?_, fun j u hj => ?_⟩
      · rcases Nat.lt_or_ge blk w.heap.size with h1 | h1
        · exact h1
        · exfalso; apply h0; unfold World.cell?; simp [Array.getElem?_eq_none h1]
      · have := hcell j u hj
        rw [Addr.add_lit] at this; exact this
    · obtain ⟨i, hil, rfl⟩ := List.mem_map.1 hy
      exact (hf i (List.mem_range.1 hil)).2
    · rw [List.length_map, List.length_range]
      exact Nat.le_trans (Nat.mul_le_mul_right _ (Nat.le_add_right _ _)) hW
end
section
variable {H : Type} {enc : TypeId × Value → H} {w : World} {base : Nat} {spare : Nat → Bool} {held : Bool}
theorem rd_str {n : Nat} {t : TypeId} (ht : Try.prog.underlying t = some .string) {v : Value} {y : DataW H × List MemPlace} (h : DataW.trod enc Try.prog w base spare held n t [v] = some y) (hw : Wt Try.prog t y.1) : ∃ s : ByteArray, v = .string s ∧ s.size ≤ 140737488351232 := by
  obtain ⟨s, hs, rfl, _⟩ := DataW.trod_string ht h
  injection hs with hs _
  exact ⟨s, hs, by have := hw.str; simpa using this⟩
theorem rd_int {n : Nat} {t : TypeId} (ht : Try.prog.underlying t = some (.int .i64)) {v : Value} {y : DataW H × List MemPlace} (h : DataW.trod enc Try.prog w base spare held n t [v] = some y) : ∃ i : Int, v = .int .i64 i ∧ (Lit.int .i64 i).wf = true := by
  obtain ⟨i, hs, _, hwf⟩ := DataW.trod_int ht h
  injection hs with hs _
  exact ⟨i, hs, hwf⟩
theorem rd_bool {n : Nat} {t : TypeId} (ht : Try.prog.underlying t = some .bool) {v : Value} {y : DataW H × List MemPlace} (h : DataW.trod enc Try.prog w base spare held n t [v] = some y) : ∃ b : Bool, v = .bool b := by
  obtain ⟨b, hs, _⟩ := DataW.trod_bool ht h
  injection hs with hs _
  exact ⟨b, hs⟩
theorem list2 {l : List Value} (h : l.length = 2) : ∃ a b, l = [a, b] := by match l, h with | [a, b], _ => exact ⟨a, b, rfl⟩
theorem list3 {l : List Value} (h : l.length = 3) : ∃ a b c, l = [a, b, c] := by match l, h with | [a, b, c], _ => exact ⟨a, b, c, rfl⟩
theorem list4 {l : List Value} (h : l.length = 4) : ∃ a b c d, l = [a, b, c, d] := by match l, h with | [a, b, c, d], _ => exact ⟨a, b, c, d, rfl⟩
theorem list6 {l : List Value} (h : l.length = 6) : ∃ a b c d e f, l = [a, b, c, d, e, f] := by match l, h with | [a, b, c, d, e, f], _ => exact ⟨a, b, c, d, e, f, rfl⟩
def goodG (p : Gp) : Prop := p.name.size ≤ 140737488351232 ∧ p.parent.size ≤ 140737488351232
def goodE (v : Ev) : Prop := v.name.size ≤ 140737488351232 ∧ v.group.size ≤ 140737488351232 ∧ v.role.size ≤ 140737488351232 ∧ (Lit.int .i64 v.due).wf = true
def goodR (r : Rl) : Prop := r.src.size ≤ 140737488351232 ∧ r.dst.size ≤ 140737488351232 ∧ (Lit.int .i64 r.kind).wf = true ∧ (Lit.int .i64 r.time).wf = true
def goodU (w : World) (u : Us) : Prop := (u.name.size ≤ 140737488351232 ∧ u.sub.size ≤ 140737488351232 ∧ u.roles.length * 16 ≤ 140737488351232 ∧ ∀ s ∈ u.roles, s.size ≤ 140737488351232) ∧ Row w u.ra (u.roles.map Value.string) ∧ u.roles.length ≤ u.rc ∧ (u.ra = none → u.rc = 0)
theorem rd_gp (n : Nat) (cs : List Value) (y : DataW H × List MemPlace) (h : DataW.trod enc Try.prog w base spare held n 56 cs = some y) (hw : Wt Try.prog 56 y.1) : ∃ x, cs = gpC x ∧ goodG x := by
  obtain ⟨hl, ds, m, hy, hf⟩ := open_rec Try.underlying56 (by kernel_rfl) (by kernel_rfl) h
  obtain ⟨v0, v1, rfl⟩ := list2 hl
  rw [hy] at hw
  obtain ⟨y0, d0, h0⟩ := hf 0 _ rfl v0 rfl
  obtain ⟨y1, d1, h1⟩ := hf 1 _ rfl v1 rfl
  obtain ⟨s0, rfl, z0⟩ := rd_str Try.underlying9 h0 (hw.field Try.underlying56 rfl d0)
  obtain ⟨s1, rfl, z1⟩ := rd_str Try.underlying9 h1 (hw.field Try.underlying56 rfl d1)
  exact ⟨⟨s0, s1⟩, rfl, z0, z1⟩
theorem rd_ev (n : Nat) (cs : List Value) (y : DataW H × List MemPlace) (h : DataW.trod enc Try.prog w base spare held n 58 cs = some y) (hw : Wt Try.prog 58 y.1) : ∃ x, cs = evC x ∧ goodE x := by
  obtain ⟨hl, ds, m, hy, hf⟩ := open_rec Try.underlying58 (by kernel_rfl) (by kernel_rfl) h
  obtain ⟨v0, v1, v2, v3, v4, v5, rfl⟩ := list6 hl
  rw [hy] at hw
  obtain ⟨y0, d0, h0⟩ := hf 0 _ rfl v0 rfl
  obtain ⟨y1, d1, h1⟩ := hf 1 _ rfl v1 rfl
  obtain ⟨y2, d2, h2⟩ := hf 2 _ rfl v2 rfl
  obtain ⟨y3, d3, h3⟩ := hf 3 _ rfl v3 rfl
  obtain ⟨y4, d4, h4⟩ := hf 4 _ rfl v4 rfl
  obtain ⟨y5, d5, h5⟩ := hf 5 _ rfl v5 rfl
  obtain ⟨s0, rfl, z0⟩ := rd_str Try.underlying9 h0 (hw.field Try.underlying58 rfl d0)
  obtain ⟨s1, rfl, z1⟩ := rd_str Try.underlying9 h1 (hw.field Try.underlying58 rfl d1)
  obtain ⟨s2, rfl, z2⟩ := rd_str Try.underlying9 h2 (hw.field Try.underlying58 rfl d2)
  obtain ⟨b3, rfl⟩ := rd_bool Try.underlying4 h3
  obtain ⟨b4, rfl⟩ := rd_bool Try.underlying4 h4
  obtain ⟨i5, rfl, z5⟩ := rd_int Try.underlying3 h5
  exact ⟨⟨s0, s1, s2, b3, b4, i5⟩, rfl, z0, z1, z2, z5⟩
theorem rd_rl (n : Nat) (cs : List Value) (y : DataW H × List MemPlace) (h : DataW.trod enc Try.prog w base spare held n 60 cs = some y) (hw : Wt Try.prog 60 y.1) : ∃ x, cs = rlC x ∧ goodR x := by
  obtain ⟨hl, ds, m, hy, hf⟩ := open_rec Try.underlying60 (by kernel_rfl) (by kernel_rfl) h
  obtain ⟨v0, v1, v2, v3, rfl⟩ := list4 hl
  rw [hy] at hw
  obtain ⟨y0, d0, h0⟩ := hf 0 _ rfl v0 rfl
  obtain ⟨y1, d1, h1⟩ := hf 1 _ rfl v1 rfl
  obtain ⟨y2, d2, h2⟩ := hf 2 _ rfl v2 rfl
  obtain ⟨y3, d3, h3⟩ := hf 3 _ rfl v3 rfl
  obtain ⟨i0, rfl, z0⟩ := rd_int Try.underlying3 h0
  obtain ⟨s1, rfl, z1⟩ := rd_str Try.underlying9 h1 (hw.field Try.underlying60 rfl d1)
  obtain ⟨s2, rfl, z2⟩ := rd_str Try.underlying9 h2 (hw.field Try.underlying60 rfl d2)
  obtain ⟨i3, rfl, z3⟩ := rd_int Try.underlying3 h3
  exact ⟨⟨i0, s1, s2, i3⟩, rfl, z1, z2, z0, z3⟩
theorem bytesStr : Try.prog.bytesOf 9 = 16 := by kernel_rfl
theorem rd_st (n : Nat) (cs : List Value) (y : DataW H × List MemPlace) (h : DataW.trod enc Try.prog w base spare held n 9 cs = some y) (hw : Wt Try.prog 9 y.1) : ∃ x, cs = stC x ∧ x.size ≤ 140737488351232 := by
  obtain ⟨s, rfl, rfl, _⟩ := DataW.trod_string Try.underlying9 h
  exact ⟨s, rfl, by have := hw.str; simpa using this⟩
theorem rd_us (n : Nat) (cs : List Value) (y : DataW H × List MemPlace) (h : DataW.trod enc Try.prog w base spare held n 52 cs = some y) (hw : Wt Try.prog 52 y.1) : ∃ x, cs = usC x ∧ goodU w x := by
  obtain ⟨hl, ds, m, hy, hf⟩ := open_rec Try.underlying52 (by kernel_rfl) (by kernel_rfl) h
  obtain ⟨v0, v1, v2, rfl⟩ := list3 hl
  rw [hy] at hw
  obtain ⟨y0, d0, h0⟩ := hf 0 _ rfl v0 rfl
  obtain ⟨y1, d1, h1⟩ := hf 1 _ rfl v1 rfl
  obtain ⟨y2, d2, h2⟩ := hf 2 _ rfl v2 rfl
  obtain ⟨s0, rfl, z0⟩ := rd_str Try.underlying9 h0 (hw.field Try.underlying52 rfl d0)
  obtain ⟨A, l, c, rfl, hr, hg, hc, hn, hz⟩ := open_list stC 1 (fun s : ByteArray => s.size ≤ 140737488351232) Try.underlying43 (by kernel_rfl) (fun _ => rfl) (by omega) rd_st h1 (hw.field Try.underlying52 rfl d1)
  obtain ⟨s2, rfl, z2⟩ := rd_str Try.underlying9 h2 (hw.field Try.underlying52 rfl d2)
  rw [bytesStr] at hz
  have e : l.flatMap stC = l.map Value.string := by rw [List.map_eq_flatMap]; rfl
  rw [e] at hr
  exact ⟨⟨s0, A, c, l, s2⟩, rfl, ⟨z0, z2, hz, hg⟩, hr, hc, hn⟩
theorem bytesGp : Try.prog.bytesOf 56 = 32 := by kernel_rfl
theorem bytesEv : Try.prog.bytesOf 58 = 64 := by kernel_rfl
theorem bytesRl : Try.prog.bytesOf 60 = 48 := by kernel_rfl
theorem bytesUs : Try.prog.bytesOf 52 = 56 := by kernel_rfl
set_option maxRecDepth 100000 in
/-- A graph among the arguments. -/
theorem open_graph {r : Reach} {b0 : Nat} {v : Value} {d : DataW H} {p : List MemPlace} (hv : Value.okWide Try.prog w r b0 27 v) (h : DataW.Trod enc Try.prog w base spare held 27 v d p) (hw : Wt Try.prog 27 d) :
    ∃ g : Gr, v = .agg #[.slice g.ga g.gs.length g.gc, .slice g.ea g.es.length g.ec, .slice g.ra g.rs.length g.rc, .slice g.ua g.us.length g.uc] ∧ InG w g ∧ SzG g ∧ (∀ u ∈ g.us, u.roles.length ≤ u.rc) ∧ (∀ u ∈ g.us, u.ra = none → u.rc = 0) ∧ g.gs.length ≤ g.gc ∧ g.es.length ≤ g.ec ∧ g.rs.length ≤ g.rc ∧ (g.ea = none → g.ec = 0) := by
  obtain ⟨v0, v1, v2, v3, y0, y1, y2, y3, n, rfl, rfl, _, h0, h1, h2, h3⟩ := open_agg4 Try.underlying27 (by kernel_rfl) (by kernel_rfl) hv h
  obtain ⟨A0, l0, c0, rfl, r0, g0, k0, _, z0⟩ := open_list gpC 2 goodG Try.underlying22 (by kernel_rfl) (fun _ => rfl) (by omega) rd_gp h0 (hw.field Try.underlying27 (j := 0) rfl rfl)
  obtain ⟨A1, l1, c1, rfl, r1, g1, k1, n1, z1⟩ := open_list evC 6 goodE Try.underlying23 (by kernel_rfl) (fun _ => rfl) (by omega) rd_ev h1 (hw.field Try.underlying27 (j := 1) rfl rfl)
  obtain ⟨A2, l2, c2, rfl, r2, g2, k2, _, z2⟩ := open_list rlC 4 goodR Try.underlying24 (by kernel_rfl) (fun _ => rfl) (by omega) rd_rl h2 (hw.field Try.underlying27 (j := 2) rfl rfl)
  obtain ⟨A3, l3, c3, rfl, r3, g3, _, _, z3⟩ := open_list usC 3 (goodU w) Try.underlying25 (by kernel_rfl) (fun _ => rfl) (by omega) rd_us h3 (hw.field Try.underlying27 (j := 3) rfl rfl)
  rw [bytesGp] at z0
  rw [bytesEv] at z1
  rw [bytesRl] at z2
  rw [bytesUs] at z3
  exact ⟨⟨l0, l1, l2, l3, A0, c0, A1, c1, A2, c2, A3, c3⟩, rfl, ⟨r0, r1, r2, r3, fun u hu => (g3 u hu).2.1⟩, ⟨z0, z1, z2, z3, g0, g1, g2, fun u hu => (g3 u hu).1⟩, fun u hu => (g3 u hu).2.2.1, fun u hu => (g3 u hu).2.2.2, k0, k1, k2, n1⟩
end
end Go.Proofs.Ytahhhhacoigpmaa

namespace Go.Proofs.Ytahhhhacoigpmaa
open Go.RowKit Go.Shelf
def eqLB {α : Type} [Inhabited α] (p : α → α → Bool) (a b : List α) : Bool := decide (a.length = b.length) && (List.range a.length).all (fun i => p a[i]! b[i]!)
theorem eqLB_len {α : Type} [Inhabited α] {p : α → α → Bool} {a b : List α} (h : ¬ a.length = b.length) : eqLB p a b = false := by simp [eqLB, h]
theorem eqLB_all {α : Type} [Inhabited α] {p : α → α → Bool} {a b : List α} (h : a.length = b.length) (hp : ∀ j, j < a.length → p a[j]! b[j]! = true) : eqLB p a b = true := by
  simp only [eqLB, decide_eq_true h, Bool.true_and, List.all_eq_true, List.mem_range]; exact hp
theorem eqLB_bad {α : Type} [Inhabited α] {p : α → α → Bool} {a b : List α} {k : Nat} (hk : k < a.length) (hp : p a[k]! b[k]! = false) : eqLB p a b = false := by
  have : (List.range a.length).all (fun i => p a[i]! b[i]!) = false := by
    rw [List.all_eq_false]; exact ⟨k, List.mem_range.2 hk, by rw [hp]; decide⟩
  rw [eqLB, this, Bool.and_false]
theorem all_more {α : Type} [Inhabited α] {p : α → α → Bool} {a b : List α} {k : Nat} (h : ∀ j, j < k → p a[j]! b[j]! = true) (hk : p a[k]! b[k]! = true) : ∀ j, j < k + 1 → p a[j]! b[j]! = true := by
  intro j hj
  by_cases e : j = k
  · rw [e]; exact hk
  · exact h j (by omega)
def same_st (a b : ByteArray) : Bool := a.toList == b.toList
end Go.Proofs.Ytahhhhacoigpmaa

namespace Go.Proofs.Ytahhhhacoigpmaa
open Go.RowKit Go.Shelf
set_option maxRecDepth 100000 in
set_option maxHeartbeats 2000000 in
theorem words_any (A B : Option Addr) (c d : Nat) (a b : List ByteArray) (w : World) (hr1 : Row w A (a.map Value.string)) (hr2 : Row w B (b.map Value.string)) (hla : a.length * 16 ≤ 140737488351232) :
    Calls Try.prog 15 #[.slice A a.length c, .slice B b.length d] w fun e w' => e = .returned (.bool (eqLB same_st a b)) ∧ Below w.heap.size w w' := by
  by_cases hle : a.length = b.length
  · have HLE := Lib.hid hle
    have hle1 : ((a.length : Int) != (b.length : Int)) = false := by rw [bne_eq_false_iff_eq]; omega
    have hle2 : a.length ≤ b.length := by omega
    have hle3 : b.length ≤ a.length := by omega
    clear hle
    go_enter Try.func15, Try.ntmps15
    go_wp2_with fail
    go_loopw [5] (fun i wr => ∃ k : Nat, k ≤ a.length ∧ i = .int .i64 k ∧ Hid (∀ j, j < k → same_st a[j]! b[j]! = true) ∧ Below w.heap.size w wr) (fun i _ => a.length - (intOf i).toNat)
    case atStart => exact ⟨0, Nat.zero_le _, rfl, fun j hj => absurd hj (Nat.not_lt_zero _), Below.refl _ _⟩
    case round =>
      obtain ⟨k, hk, rfl, HR, hB⟩ := hrel
      by_cases hlt1 : k < a.length
      · have hlt2 : k < b.length := by omega
        obtain ⟨b1, off1, rfl, hb1, k1_0⟩ := hr1.str_at hlt1
        obtain ⟨b2, off2, rfl, hb2, k2_0⟩ := hr2.str_at hlt2
        rw [← hB.cell (p := ⟨b1, _, none⟩) hb1] at k1_0
        rw [← hB.cell (p := ⟨b2, _, none⟩) hb2] at k2_0
        have hq : (a[k]!.toList == b[k]!.toList) = same_st a[k]! b[k]! := rfl
        have i0 : (0 : Int) ≤ (k : Int) := Int.natCast_nonneg _
        have i1 : (k : Int) < (a.length : Int) := by omega
        have i2 : (k : Int) < (b.length : Int) := by omega
        cases hn : same_st a[k]! b[k]! with
        | true =>
          have HR' := Lib.hid (all_more HR.out hn)
          rw [hn] at hq
          clear hn HR
          generalize a[k]! = x at *
          generalize b[k]! = y at *
          go_wp2_with fail
          go_quiet (fail)
          go_wp2_with fail
          go_roundw
          case rel => exact ⟨k + 1, hlt1, by go_num, HR', below_draws hB _⟩
          case measure => simp [intOf]; omega
        | false =>
          have HF := Lib.hid (eqLB_bad hlt1 hn)
          rw [hn] at hq
          clear hn HR
          generalize a[k]! = x at *
          generalize b[k]! = y at *
          go_wp2_with fail
          go_quiet (fail)
          go_wp2_with fail
          go_ret
          exact ⟨ret_bool HF.out.symm, below_draws hB _⟩
      · obtain rfl : k = a.length := by omega
        have HF := Lib.hid (eqLB_all HLE.out HR.out)
        clear HR
        go_wp2_with fail
        go_ret
        exact ⟨ret_bool HF.out.symm, hB⟩
  · have HF := Lib.hid (eqLB_len (p := same_st) hle)
    have hle1 : ((a.length : Int) != (b.length : Int)) = true := by rw [bne_iff_ne]; omega
    clear hle
    go_enter Try.func15, Try.ntmps15
    go_wp2_with fail
    go_ret
    exact ⟨ret_bool HF.out.symm, Below.refl _ _⟩
end Go.Proofs.Ytahhhhacoigpmaa

namespace Go.Proofs.Ytahhhhacoigpmaa.SF
open Go.RowKit Go.Shelf Go.Proofs.Ytahhhhacoigpmaa.B
theorem place_name {M : List Mb} {u : Key} (h : 0 ≤ placeL M u) : (placeL M u).toNat < M.length ∧ M[(placeL M u).toNat]!.name.toList = u := by
  have hr := place_range (M := M) u
  unfold placeL at h hr ⊢
  cases hh : hasB (nms M) u with
  | false => rw [hh] at h; simp at h
  | true =>
    rw [hh, if_pos rfl] at hr
    rw [if_pos rfl, Int.toNat_natCast]
    have hm : u ∈ nms M := List.contains_iff_mem.1 hh
    have hi := List.idxOf_lt_length_iff.2 hm
    have hi' : (nms M).idxOf u < M.length := by omega
    refine ⟨hi', ?_⟩
    have h2 := List.getElem_idxOf hi
    have h3 : (nms M)[(nms M).idxOf u] = (M[(nms M).idxOf u]'hi').name.toList := List.getElem_map (fun m : Mb => m.name.toList)
    rw [getElem!_pos M _ hi', ← h3, h2]
theorem name_one {M : List Mb} (h : OkM M) {i j : Nat} (hi : i < M.length) (hj : j < M.length) (e : M[i]!.name.toList = M[j]!.name.toList) : i = j := by
  have hn := h.nod
  rw [List.nodup_iff_pairwise_ne, List.pairwise_iff_getElem] at hn
  have hg : ∀ (x : Nat) (hx : x < (nms M).length), (nms M)[x] = M[x]!.name.toList := fun x hx => by
    have hx' : x < M.length := by unfold nms at hx; rwa [List.length_map] at hx
    rw [getElem!_pos M x hx']
    exact List.getElem_map (fun m : Mb => m.name.toList)
  have hi' : i < (nms M).length := by unfold nms; rwa [List.length_map]
  have hj' : j < (nms M).length := by unfold nms; rwa [List.length_map]
  rcases Nat.lt_trichotomy i j with h1 | h1 | h1
  · exact absurd ((hg i hi').trans (e.trans (hg j hj').symm)) (hn i j hi' hj' h1)
  · exact h1
  · exact absurd ((hg j hj').trans (e.symm.trans (hg i hi').symm)) (hn j i hj' hi' h1)
theorem same_words (l : List ByteArray) : eqLB same_st l l = true := eqLB_all rfl (fun j _ => by simp [same_st])
end Go.Proofs.Ytahhhhacoigpmaa.SF

namespace Go.Proofs.Ytahhhhacoigpmaa.SF
open Go.RowKit Go.Shelf Go.Proofs.Ytahhhhacoigpmaa Go.Proofs.Ytahhhhacoigpmaa.B
/-- Who is told to be away, or here. -/
structure Ac where
  user : ByteArray
  away : Bool
instance : Inhabited Ac := ⟨⟨ByteArray.empty, false⟩⟩
def acC (a : Ac) : List Value := [.string a.user, .bool a.away]
def goodA (a : Ac) : Prop := a.user.size ≤ 140737488351232
section
variable {H : Type} {enc : TypeId × Value → H} {w : World} {base : Nat} {spare : Nat → Bool} {held : Bool}
theorem rd_ac (n : Nat) (cs : List Value) (y : DataW H × List MemPlace) (h : DataW.trod enc Try.prog w base spare held n 39 cs = some y) (hw : Wt Try.prog 39 y.1) : ∃ x, cs = acC x ∧ goodA x := by
  obtain ⟨hl, ds, m, hy, hf⟩ := open_rec Try.underlying39 (by kernel_rfl) (by kernel_rfl) h
  obtain ⟨v0, v1, rfl⟩ := list2 hl
  rw [hy] at hw
  obtain ⟨y0, d0, h0⟩ := hf 0 _ rfl v0 rfl
  obtain ⟨y1, d1, h1⟩ := hf 1 _ rfl v1 rfl
  obtain ⟨s0, rfl, z0⟩ := rd_str Try.underlying9 h0 (hw.field Try.underlying39 rfl d0)
  obtain ⟨b1, rfl⟩ := rd_bool Try.underlying4 h1
  exact ⟨⟨s0, b1⟩, rfl, z0⟩
set_option maxRecDepth 100000 in
theorem open_acs {r : Reach} {b0 : Nat} {v : Value} {d : DataW H} {p : List MemPlace} (hv : Value.okWide Try.prog w r b0 28 v) (h : DataW.Trod enc Try.prog w base spare held 28 v d p) (hw : Wt Try.prog 28 d) :
    ∃ (A : Option Addr) (c : Nat) (l : List Ac), v = .slice A l.length c ∧ Row w A (l.flatMap acC) ∧ ∀ x ∈ l, goodA x := by
  obtain ⟨a, n, c, rfl⟩ := Go.WideShapes.okWide_slice Try.underlying28 hv
  obtain ⟨f, hf⟩ := h
  obtain ⟨A, l, c', e, r0, r1, _⟩ := open_list acC 2 goodA Try.underlying28 (by kernel_rfl) (fun _ => rfl) (by omega) rd_ac (v := .slice a n c) hf hw
  exact ⟨A, c', l, e, r0, r1⟩
end
/-- No name is empty. -/
def NE (M : List Mb) : Prop := hasB (nms M) [] = false
theorem NE.away {M : List Mb} (h : NE M) (k : Int) (a : Bool) : NE (awayL M k a) := by unfold NE; rw [awayL_nms]; exact h
theorem NE.at_ {M : List Mb} (h : NE M) {i : Nat} (hi : i < M.length) : M[i]!.name.toList ≠ [] := fun e => by
  have hm : ([] : Key) ∈ nms M := List.mem_map.2 ⟨M[i]!, mem_at hi, e⟩
  have : hasB (nms M) [] = true := List.contains_iff_mem.2 hm
  rw [h] at this; cases this
theorem place_at {M : List Mb} (h : OkM M) {i : Nat} (hi : i < M.length) : placeL M M[i]!.name.toList = (i : Int) := by
  have hm : M[i]!.name.toList ∈ nms M := List.mem_map.2 ⟨M[i]!, mem_at hi, rfl⟩
  have hh : hasB (nms M) M[i]!.name.toList = true := List.contains_iff_mem.2 hm
  have h0 : 0 ≤ placeL M M[i]!.name.toList := by unfold placeL; rw [hh, if_pos rfl]; omega
  obtain ⟨p1, p2⟩ := place_name h0
  have := name_one h p1 hi p2
  omega
end Go.Proofs.Ytahhhhacoigpmaa.SF
