/-
  A graph that came in as an argument: how it lies in memory, and how great its parts may be. The table of strconv, of what the row lists; the walk of TextBack: of every graph it answers true.
-/
import Derived.Test.YtigbceankmfaeaaGreatDoorTach
import Derived.SizedLaws
import Derived.Deep.Slices
import Derived.Deep.Fields
import Derived.Lib.SmallJoins
import Derived.Test.YtigbceankmfaeaaGreatDoorTacj
import Derived.Test.YtigbceankmfaeaaGreatDoorRows
import Derived.ProofKit
import Derived.OpenShut
import Derived.Carry
import Derived.LaidMore
import Derived.LaidSub
import Derived.LaidOnce
import Derived.Lib.LaidTab
import Derived.Stop.Joined
namespace Go.Proofs.YtigbceankmfaeaaGreatDoor
open Go.RowKit Go.Shelf Go.Deep Go.Joins Go.ChangeShapes Go.WideShapes
section
variable {H : Type} {enc : TypeId × Value → H} {P : Program} {w : World} {base : Nat} {spare : Nat → Bool} {held : Bool}
/-- What is read weighs no more than the reach. -/
def Wt (P : Program) (t : TypeId) (d : DataW H) : Prop := ∀ n ∈ d.weights P t, n ≤ 140737488351232
theorem Wt.of {ts : List TypeId} {ds : List (DataW H)} (h : (DataW.weightsEach P ts ds).all (· ≤ reachBytes) = true) {j : Nat} {t : TypeId} {d : DataW H} (ht : ts[j]? = some t) (hd : ds[j]? = some d) : Wt P t d :=
  fun n hn => of_decide_eq_true (List.all_eq_true.1 h n (DataW.weights_mem_each ht hd n hn))
theorem Wt.field {t : TypeId} {fs : Array Field} {parts : List (DataW H)} (h : Wt P t (.agg parts)) (ht : P.underlying t = some (.struct fs)) {j : Nat} {f : Field} {d : DataW H} (hf : fs[j]? = some f) (hd : parts[j]? = some d) : Wt P f.type d :=
  fun n hn => h n (by
    simp only [DataW.weights, ht]
    exact DataW.weights_mem_each (by rw [List.getElem?_map, Array.getElem?_toList, hf]; rfl) hd n hn)
theorem wt_all {e : TypeId} {n : Nat} : ∀ {l : List (DataW H)} {d : DataW H}, d ∈ l → n ∈ d.weights P e → n ∈ DataW.weightsAll P e l
  | x :: r, d, hd, hn => by
    rw [DataW.weightsAll, List.mem_append]
    cases hd with
    | head => exact .inl hn
    | tail _ h => exact .inr (wt_all h hn)
theorem Wt.len {t e : TypeId} {es sp : List (DataW H)} (h : Wt P t (.slice es sp)) (ht : P.underlying t = some (.slice e)) : (es.length + sp.length) * P.bytesOf e ≤ 140737488351232 :=
  h _ (by simp only [DataW.weights, ht]; exact List.mem_cons_self ..)
theorem Wt.elem {t e : TypeId} {es sp : List (DataW H)} (h : Wt P t (.slice es sp)) (ht : P.underlying t = some (.slice e)) {d : DataW H} (hd : d ∈ es) : Wt P e d :=
  fun n hn => h n (by simp only [DataW.weights, ht, List.mem_cons, List.mem_append]; exact .inr (.inl (wt_all hd hn)))
theorem Wt.str {t : TypeId} {l : List UInt8} (h : Wt P t (.lit (.string l) : DataW H)) : l.length ≤ 140737488351232 := h _ (by simp [DataW.weights])
/-- A struct of fields of one cell each: its cells, and each field's reading. -/
theorem open_rec {e : TypeId} {fs : Array Field} {n : Nat} {cs : List Value} {x : DataW H × List MemPlace} (he : P.underlying e = some (.struct fs)) (hone : oneCellFields P fs = true) (hC : P.cellsOf e = fs.size) (h : DataW.trod enc P w base spare held n e cs = some x) :
    cs.length = fs.size ∧ ∃ (ds : List (DataW H)) (m : Nat), x.1 = .agg ds ∧ ∀ (j : Nat) (f : Field), fs[j]? = some f → ∀ v, cs[j]? = some v → ∃ y, ds[j]? = some y.1 ∧ DataW.trod enc P w base spare held m f.type [v] = some y := by
  obtain ⟨xs, m, _, rfl, hlen, hxl, hf⟩ := DataW.trod_struct he h
  refine ⟨hlen.trans hC, xs.map (·.1), m, rfl, fun j f hj v hv => ?_⟩
  obtain ⟨ho, hk⟩ := hone_of hone j f hj
  have hjl : j < xs.length := by rw [hxl]; exact (Array.getElem?_eq_some_iff.1 hj).1
  have h1 := hf j f hj
  obtain ⟨hjc, hvv⟩ := List.getElem?_eq_some_iff.1 hv
  rw [ho, hk, List.drop_eq_getElem_cons hjc, List.take_succ_cons, List.take_zero, hvv, List.getElem?_eq_getElem hjl] at h1
  exact ⟨xs[j], by rw [List.getElem?_map, List.getElem?_eq_getElem hjl]; rfl, h1⟩
/-- A list that came in. -/
theorem open_list {α : Type} [Inhabited α] (en : α → List Value) (k : Nat) (good : α → Prop) {t e : TypeId} (ht : P.underlying t = some (.slice e)) (hC : P.cellsOf e = k) (hk : ∀ x, (en x).length = k) (k0 : 0 < k)
    (hel : ∀ (n : Nat) (cs : List Value) (y : DataW H × List MemPlace), DataW.trod enc P w base spare held n e cs = some y → Wt P e y.1 → ∃ x, cs = en x ∧ good x)
    {fuel : Nat} {v : Value} {x : DataW H × List MemPlace} (h : DataW.trod enc P w base spare held fuel t [v] = some x) (hw : Wt P t x.1) :
    ∃ (A : Option Addr) (l : List α) (c : Nat), v = .slice A l.length c ∧ Row w A (l.flatMap en) ∧ (∀ x ∈ l, good x) ∧ l.length ≤ c ∧ (A = none → c = 0) ∧ l.length * P.bytesOf e ≤ 140737488351232 := by
  rcases open_slice ht h with ⟨hv, hx⟩ | ⟨a, len, cap, m, n, D, Pl, hv, hb, hl, hm, hmm, rfl, hi⟩
  · injection hv with hv _
    exact ⟨none, [], 0, hv, fun h => absurd rfl h, by simp, Nat.le_refl _, fun _ => rfl, by simp⟩
  · injection hv with hv _
    subst hv
    have hlm : len ≤ m := by rw [hmm]; split <;> omega
    have hW := hw.len ht
    rw [List.length_map, List.length_range] at hW
    have el : ∀ i, i < len → ∃ x : α, (∀ j u, (en x)[j]? = some u → w.cell? (a.add (i * k + j)) = some u) ∧ good x := by
      intro i hil
      obtain ⟨cs, hc, htr⟩ := hi i (by omega)
      obtain ⟨x, hcs, hg⟩ := hel n cs _ htr (hw.elem ht (List.mem_map.2 ⟨i, List.mem_range.2 hil, rfl⟩))
      obtain ⟨_, hcl, hat⟩ := World.cells?_some hc
      refine ⟨x, fun j u hj => ?_, hg⟩
      rw [← hcs] at hj
      have hjk : j < k := by rw [← hC, ← hcl]; exact (List.getElem?_eq_some_iff.1 hj).1
      have h1 := hat j (by rw [hC]; exact hjk)
      rw [hC, Go.Deep.add_add] at h1
      exact h1.trans hj
    obtain ⟨f, hf⟩ : ∃ f : Nat → α, ∀ i, i < len → (∀ j u, (en (f i))[j]? = some u → w.cell? (a.add (i * k + j)) = some u) ∧ good (f i) := by
      classical
      refine ⟨fun i => if h : i < len then Classical.choose (el i h) else default, fun i hil => ?_⟩
      simp only [hil, dif_pos]
      exact Classical.choose_spec (el i hil)
    have hat : ∀ i, i < len → ((List.range len).map f)[i]! = f i := fun i hil => by
      rw [getElem!_pos _ i (by simpa using hil), List.getElem_map, List.getElem_range]
    refine ⟨some a, (List.range len).map f, cap, by simp, fun hne => ?_, fun y hy => ?_, by simpa using hl, (fun e => by cases e), ?_⟩
    · have hlen0 : 0 < len := by
        rcases Nat.eq_zero_or_pos len with h0 | h0
        · exfalso; apply hne; rw [h0]; rfl
        · exact h0
      have hcell : ∀ j u, (((List.range len).map f).flatMap en)[j]? = some u → w.cell? (a.add j) = some u := by
        intro j u hj
        have hjl := (List.getElem?_eq_some_iff.1 hj).1
        rw [flat_len en k hk, List.length_map, List.length_range] at hjl
        have hik : j / k < len := Nat.div_lt_of_lt_mul (by rw [Nat.mul_comm]; exact hjl)
        have hr : j % k < k := Nat.mod_lt _ k0
        have e1 : j / k * k + j % k = j := Nat.div_add_mod' j k
        have h2 := flat_at en k hk ((List.range len).map f) (j / k) (by simpa using hik) (j % k) hr
        rw [e1, hj, hat _ hik] at h2
        have h3 := (hf (j / k) hik).1 (j % k) u h2.symm
        rw [e1] at h3; exact h3
      obtain ⟨blk, off, spot⟩ := a
      have h0 : w.cell? ⟨blk, off, spot⟩ ≠ none := by
        have hl0 : 0 < (((List.range len).map f).flatMap en).length := by rw [flat_len en k hk, List.length_map, List.length_range]; exact Nat.mul_pos hlen0 k0
        have h1 := hcell 0 _ (List.getElem?_eq_getElem hl0)
        intro h2
        have e0 : (⟨blk, off, spot⟩ : Addr).add 0 = ⟨blk, off, spot⟩ := if_pos rfl
        rw [e0, h2] at h1; cases h1
      have hsp : spot = none := by
        cases spot with
        | none => rfl
        | some s => exfalso; apply h0; unfold World.cell?; split <;> simp
      subst hsp
      refine ⟨blk, off, rfl, ?_, fun j u hj => ?_⟩
      · rcases Nat.lt_or_ge blk w.heap.size with h1 | h1
        · exact h1
        · exfalso; apply h0; unfold World.cell?; simp [Array.getElem?_eq_none h1]
      · have := hcell j u hj
        rw [Addr.add_lit] at this; exact this
    · obtain ⟨i, hil, rfl⟩ := List.mem_map.1 hy
      exact (hf i (List.mem_range.1 hil)).2
    · rw [List.length_map, List.length_range]
      exact Nat.le_trans (Nat.mul_le_mul_right _ (Nat.le_add_right _ _)) hW
end
section
variable {H : Type} {enc : TypeId × Value → H} {w : World} {base : Nat} {spare : Nat → Bool} {held : Bool}
theorem rd_str {n : Nat} {t : TypeId} (ht : Tryz.prog.underlying t = some .string) {v : Value} {y : DataW H × List MemPlace} (h : DataW.trod enc Tryz.prog w base spare held n t [v] = some y) (hw : Wt Tryz.prog t y.1) : ∃ s : ByteArray, v = .string s ∧ s.size ≤ 140737488351232 := by
  obtain ⟨s, hs, rfl, _⟩ := DataW.trod_string ht h
  injection hs with hs _
  exact ⟨s, hs, by have := hw.str; simpa using this⟩
theorem rd_int {n : Nat} {t : TypeId} (ht : Tryz.prog.underlying t = some (.int .i64)) {v : Value} {y : DataW H × List MemPlace} (h : DataW.trod enc Tryz.prog w base spare held n t [v] = some y) : ∃ i : Int, v = .int .i64 i ∧ (Lit.int .i64 i).wf = true := by
  obtain ⟨i, hs, _, hwf⟩ := DataW.trod_int ht h
  injection hs with hs _
  exact ⟨i, hs, hwf⟩
theorem rd_bool {n : Nat} {t : TypeId} (ht : Tryz.prog.underlying t = some .bool) {v : Value} {y : DataW H × List MemPlace} (h : DataW.trod enc Tryz.prog w base spare held n t [v] = some y) : ∃ b : Bool, v = .bool b := by
  obtain ⟨b, hs, _⟩ := DataW.trod_bool ht h
  injection hs with hs _
  exact ⟨b, hs⟩
theorem list2 {l : List Value} (h : l.length = 2) : ∃ a b, l = [a, b] := by match l, h with | [a, b], _ => exact ⟨a, b, rfl⟩
theorem list3 {l : List Value} (h : l.length = 3) : ∃ a b c, l = [a, b, c] := by match l, h with | [a, b, c], _ => exact ⟨a, b, c, rfl⟩
theorem list4 {l : List Value} (h : l.length = 4) : ∃ a b c d, l = [a, b, c, d] := by match l, h with | [a, b, c, d], _ => exact ⟨a, b, c, d, rfl⟩
theorem list6 {l : List Value} (h : l.length = 6) : ∃ a b c d e f, l = [a, b, c, d, e, f] := by match l, h with | [a, b, c, d, e, f], _ => exact ⟨a, b, c, d, e, f, rfl⟩
def goodG (p : Gp) : Prop := p.name.size ≤ 140737488351232 ∧ p.parent.size ≤ 140737488351232
def goodE (v : Ev) : Prop := v.name.size ≤ 140737488351232 ∧ v.group.size ≤ 140737488351232 ∧ v.role.size ≤ 140737488351232 ∧ (Lit.int .i64 v.due).wf = true
def goodR (r : Rl) : Prop := r.src.size ≤ 140737488351232 ∧ r.dst.size ≤ 140737488351232 ∧ (Lit.int .i64 r.kind).wf = true ∧ (Lit.int .i64 r.time).wf = true
def goodU (w : World) (u : Us) : Prop := (u.name.size ≤ 140737488351232 ∧ u.sub.size ≤ 140737488351232 ∧ u.roles.length * 16 ≤ 140737488351232 ∧ ∀ s ∈ u.roles, s.size ≤ 140737488351232) ∧ Row w u.ra (u.roles.map Value.string) ∧ u.roles.length ≤ u.rc ∧ (u.ra = none → u.rc = 0)
theorem rd_gp (n : Nat) (cs : List Value) (y : DataW H × List MemPlace) (h : DataW.trod enc Tryz.prog w base spare held n 43 cs = some y) (hw : Wt Tryz.prog 43 y.1) : ∃ x, cs = gpC x ∧ goodG x := by
  obtain ⟨hl, ds, m, hy, hf⟩ := open_rec Tryz.underlying43 (by kernel_rfl) (by kernel_rfl) h
  obtain ⟨v0, v1, rfl⟩ := list2 hl
  rw [hy] at hw
  obtain ⟨y0, d0, h0⟩ := hf 0 _ rfl v0 rfl
  obtain ⟨y1, d1, h1⟩ := hf 1 _ rfl v1 rfl
  obtain ⟨s0, rfl, z0⟩ := rd_str Tryz.underlying9 h0 (hw.field Tryz.underlying43 rfl d0)
  obtain ⟨s1, rfl, z1⟩ := rd_str Tryz.underlying9 h1 (hw.field Tryz.underlying43 rfl d1)
  exact ⟨⟨s0, s1⟩, rfl, z0, z1⟩
theorem rd_ev (n : Nat) (cs : List Value) (y : DataW H × List MemPlace) (h : DataW.trod enc Tryz.prog w base spare held n 46 cs = some y) (hw : Wt Tryz.prog 46 y.1) : ∃ x, cs = evC x ∧ goodE x := by
  obtain ⟨hl, ds, m, hy, hf⟩ := open_rec Tryz.underlying46 (by kernel_rfl) (by kernel_rfl) h
  obtain ⟨v0, v1, v2, v3, v4, v5, rfl⟩ := list6 hl
  rw [hy] at hw
  obtain ⟨y0, d0, h0⟩ := hf 0 _ rfl v0 rfl
  obtain ⟨y1, d1, h1⟩ := hf 1 _ rfl v1 rfl
  obtain ⟨y2, d2, h2⟩ := hf 2 _ rfl v2 rfl
  obtain ⟨y3, d3, h3⟩ := hf 3 _ rfl v3 rfl
  obtain ⟨y4, d4, h4⟩ := hf 4 _ rfl v4 rfl
  obtain ⟨y5, d5, h5⟩ := hf 5 _ rfl v5 rfl
  obtain ⟨s0, rfl, z0⟩ := rd_str Tryz.underlying9 h0 (hw.field Tryz.underlying46 rfl d0)
  obtain ⟨s1, rfl, z1⟩ := rd_str Tryz.underlying9 h1 (hw.field Tryz.underlying46 rfl d1)
  obtain ⟨s2, rfl, z2⟩ := rd_str Tryz.underlying9 h2 (hw.field Tryz.underlying46 rfl d2)
  obtain ⟨b3, rfl⟩ := rd_bool Tryz.underlying4 h3
  obtain ⟨b4, rfl⟩ := rd_bool Tryz.underlying4 h4
  obtain ⟨i5, rfl, z5⟩ := rd_int Tryz.underlying3 h5
  exact ⟨⟨s0, s1, s2, b3, b4, i5⟩, rfl, z0, z1, z2, z5⟩
theorem rd_rl (n : Nat) (cs : List Value) (y : DataW H × List MemPlace) (h : DataW.trod enc Tryz.prog w base spare held n 48 cs = some y) (hw : Wt Tryz.prog 48 y.1) : ∃ x, cs = rlC x ∧ goodR x := by
  obtain ⟨hl, ds, m, hy, hf⟩ := open_rec Tryz.underlying48 (by kernel_rfl) (by kernel_rfl) h
  obtain ⟨v0, v1, v2, v3, rfl⟩ := list4 hl
  rw [hy] at hw
  obtain ⟨y0, d0, h0⟩ := hf 0 _ rfl v0 rfl
  obtain ⟨y1, d1, h1⟩ := hf 1 _ rfl v1 rfl
  obtain ⟨y2, d2, h2⟩ := hf 2 _ rfl v2 rfl
  obtain ⟨y3, d3, h3⟩ := hf 3 _ rfl v3 rfl
  obtain ⟨i0, rfl, z0⟩ := rd_int Tryz.underlying3 h0
  obtain ⟨s1, rfl, z1⟩ := rd_str Tryz.underlying9 h1 (hw.field Tryz.underlying48 rfl d1)
  obtain ⟨s2, rfl, z2⟩ := rd_str Tryz.underlying9 h2 (hw.field Tryz.underlying48 rfl d2)
  obtain ⟨i3, rfl, z3⟩ := rd_int Tryz.underlying3 h3
  exact ⟨⟨i0, s1, s2, i3⟩, rfl, z1, z2, z0, z3⟩
theorem bytesStr : Tryz.prog.bytesOf 9 = 16 := by kernel_rfl
theorem rd_st (n : Nat) (cs : List Value) (y : DataW H × List MemPlace) (h : DataW.trod enc Tryz.prog w base spare held n 9 cs = some y) (hw : Wt Tryz.prog 9 y.1) : ∃ x, cs = stC x ∧ x.size ≤ 140737488351232 := by
  obtain ⟨s, rfl, rfl, _⟩ := DataW.trod_string Tryz.underlying9 h
  exact ⟨s, rfl, by have := hw.str; simpa using this⟩
theorem rd_us (n : Nat) (cs : List Value) (y : DataW H × List MemPlace) (h : DataW.trod enc Tryz.prog w base spare held n 51 cs = some y) (hw : Wt Tryz.prog 51 y.1) : ∃ x, cs = usC x ∧ goodU w x := by
  obtain ⟨hl, ds, m, hy, hf⟩ := open_rec Tryz.underlying51 (by kernel_rfl) (by kernel_rfl) h
  obtain ⟨v0, v1, v2, rfl⟩ := list3 hl
  rw [hy] at hw
  obtain ⟨y0, d0, h0⟩ := hf 0 _ rfl v0 rfl
  obtain ⟨y1, d1, h1⟩ := hf 1 _ rfl v1 rfl
  obtain ⟨y2, d2, h2⟩ := hf 2 _ rfl v2 rfl
  obtain ⟨s0, rfl, z0⟩ := rd_str Tryz.underlying9 h0 (hw.field Tryz.underlying51 rfl d0)
  obtain ⟨A, l, c, rfl, hr, hg, hc, hn, hz⟩ := open_list stC 1 (fun s : ByteArray => s.size ≤ 140737488351232) Tryz.underlying49 (by kernel_rfl) (fun _ => rfl) (by omega) rd_st h1 (hw.field Tryz.underlying51 rfl d1)
  obtain ⟨s2, rfl, z2⟩ := rd_str Tryz.underlying9 h2 (hw.field Tryz.underlying51 rfl d2)
  rw [bytesStr] at hz
  have e : l.flatMap stC = l.map Value.string := by rw [List.map_eq_flatMap]; rfl
  rw [e] at hr
  exact ⟨⟨s0, A, c, l, s2⟩, rfl, ⟨z0, z2, hz, hg⟩, hr, hc, hn⟩
theorem bytesGp : Tryz.prog.bytesOf 43 = 32 := by kernel_rfl
theorem bytesEv : Tryz.prog.bytesOf 46 = 64 := by kernel_rfl
theorem bytesRl : Tryz.prog.bytesOf 48 = 48 := by kernel_rfl
theorem bytesUs : Tryz.prog.bytesOf 51 = 56 := by kernel_rfl
set_option maxRecDepth 100000 in
/-- A graph among the arguments. -/
theorem open_graph {r : Reach} {b0 : Nat} {v : Value} {d : DataW H} {p : List MemPlace} (hv : Value.okWide Tryz.prog w r b0 27 v) (h : DataW.Trod enc Tryz.prog w base spare held 27 v d p) (hw : Wt Tryz.prog 27 d) :
    ∃ g : Gr, v = .agg #[.slice g.ga g.gs.length g.gc, .slice g.ea g.es.length g.ec, .slice g.ra g.rs.length g.rc, .slice g.ua g.us.length g.uc] ∧ InG w g ∧ SzG g ∧ (∀ u ∈ g.us, u.roles.length ≤ u.rc) ∧ (∀ u ∈ g.us, u.ra = none → u.rc = 0) ∧ g.gs.length ≤ g.gc ∧ g.es.length ≤ g.ec ∧ g.rs.length ≤ g.rc ∧ (g.ea = none → g.ec = 0) := by
  obtain ⟨v0, v1, v2, v3, y0, y1, y2, y3, n, rfl, rfl, _, h0, h1, h2, h3⟩ := open_agg4 Tryz.underlying27 (by kernel_rfl) (by kernel_rfl) hv h
  obtain ⟨A0, l0, c0, rfl, r0, g0, k0, _, z0⟩ := open_list gpC 2 goodG Tryz.underlying22 (by kernel_rfl) (fun _ => rfl) (by omega) rd_gp h0 (hw.field Tryz.underlying27 (j := 0) rfl rfl)
  obtain ⟨A1, l1, c1, rfl, r1, g1, k1, n1, z1⟩ := open_list evC 6 goodE Tryz.underlying23 (by kernel_rfl) (fun _ => rfl) (by omega) rd_ev h1 (hw.field Tryz.underlying27 (j := 1) rfl rfl)
  obtain ⟨A2, l2, c2, rfl, r2, g2, k2, _, z2⟩ := open_list rlC 4 goodR Tryz.underlying24 (by kernel_rfl) (fun _ => rfl) (by omega) rd_rl h2 (hw.field Tryz.underlying27 (j := 2) rfl rfl)
  obtain ⟨A3, l3, c3, rfl, r3, g3, _, _, z3⟩ := open_list usC 3 (goodU w) Tryz.underlying25 (by kernel_rfl) (fun _ => rfl) (by omega) rd_us h3 (hw.field Tryz.underlying27 (j := 3) rfl rfl)
  rw [bytesGp] at z0
  rw [bytesEv] at z1
  rw [bytesRl] at z2
  rw [bytesUs] at z3
  exact ⟨⟨l0, l1, l2, l3, A0, c0, A1, c1, A2, c2, A3, c3⟩, rfl, ⟨r0, r1, r2, r3, fun u hu => (g3 u hu).2.1⟩, ⟨z0, z1, z2, z3, g0, g1, g2, fun u hu => (g3 u hu).1⟩, fun u hu => (g3 u hu).2.2.1, fun u hu => (g3 u hu).2.2.2, k0, k1, k2, n1⟩
end
end Go.Proofs.YtigbceankmfaeaaGreatDoor

namespace Go.Proofs.YtigbceankmfaeaaGreatDoor.P3.L
open Go.RowKit Go.Shelf Go.Proofs.YtigbceankmfaeaaGreatDoor Go.Proofs.YtigbceankmfaeaaGreatDoor.P3 Go.Proofs.YtigbceankmfaeaaGreatDoor.P3.C
set_option maxRecDepth 100000 in
set_option maxHeartbeats 8000000 in
theorem back_walk (w : World) (g : Gr) (hI : InG w g) (hz : SzG g) (hcap : ∀ u ∈ g.us, u.roles.length ≤ u.rc) (hnil : ∀ u ∈ g.us, u.ra = none → u.rc = 0) (ht : Tab w.heap.size w) :
    Calls Tryz.prog 5 #[.agg #[.slice g.ga g.gs.length g.gc, .slice g.ea g.es.length g.ec, .slice g.ra g.rs.length g.rc, .slice g.ua g.us.length g.uc]] w fun e w' => e = .returned (.bool true) ∧ Below w.heap.size w w' := by
  have hx := B.heap_new w (.cells #[.slice g.ga g.gs.length g.gc, .slice g.ea g.es.length g.ec, .slice g.ra g.rs.length g.rc, .slice g.ua g.us.length g.uc] 27)
  have hb0 := (Below.refl w.heap.size w).alloc (Nat.le_refl _) (.cells #[.slice g.ga g.gs.length g.gc, .slice g.ea g.es.length g.ec, .slice g.ra g.rs.length g.rc, .slice g.ua g.us.length g.uc] 27)
  have HX := Lib.hid hx
  have HB := Lib.hid hb0
  have HI := Lib.hid hI
  have HZ := Lib.hid hz
  have HC := Lib.hid hcap
  have HN := Lib.hid hnil
  have HT := Lib.hid ht
  clear hx hb0 hI hz hcap hnil ht
  go_enter Tryz.func5, Tryz.ntmps5
  go_wp2_with fail
  refine (awake_any _ (tab_on HT.out HB.out)).mono ?_
  rintro e w1 ⟨rfl, hb1⟩
  have HB1 := Lib.hid (HB.out.trans (hb1.mono HB.out.size))
  have HX1 := Lib.hid ((hb1.block _ (B.blk_lt HX.out)).trans HX.out)
  have c0 := B.cell_blk (i := 0) HX1.out rfl
  have c1 := B.cell_blk (i := 1) HX1.out rfl
  have c2 := B.cell_blk (i := 2) HX1.out rfl
  have c3 := B.cell_blk (i := 3) HX1.out rfl
  have l1 := B.blk_lt HX1.out
  clear hb1 HB HX
  go_wp2_with fail
  refine (large_any w1 g (HI.out.below (Nat.le_refl _) HB1.out) HZ.out).mono ?_
  rintro e w2 ⟨lb, rfl, hsm, hb2⟩
  have HB2 := Lib.hid (HB1.out.trans (hb2.mono HB1.out.size))
  have HX2 := Lib.hid ((hb2.block _ (B.blk_lt HX1.out)).trans HX1.out)
  clear hb2 HB1 HX1 c0 c1 c2 c3 l1 hsm
  cases lb
  case true =>
    go_wp2_with fail
    go_ret
    exact ⟨rfl, HB2.out⟩
  case false =>
    have c0 := B.cell_blk (i := 0) HX2.out rfl
    have c1 := B.cell_blk (i := 1) HX2.out rfl
    have c2 := B.cell_blk (i := 2) HX2.out rfl
    have c3 := B.cell_blk (i := 3) HX2.out rfl
    have l2 := B.blk_lt HX2.out
    go_wp2_with fail
    refine (print_any w2 g (HI.out.below (Nat.le_refl _) HB2.out) HZ.out HC.out HN.out (tab_on HT.out HB2.out)).mono ?_
    rintro e w3 ⟨hb3, h3⟩
    have HB3 := Lib.hid (HB2.out.trans (hb3.mono HB2.out.size))
    have HX3 := Lib.hid ((hb3.block _ (B.blk_lt HX2.out)).trans HX2.out)
    clear hb3 HB2 HX2 c0 c1 c2 c3 l2
    by_cases hc : (checkL g).2.2 = 0
    · rw [if_pos hc] at h3
      subst h3
      have hm : mayL g = true := by unfold mayL; rw [hc]; rfl
      have HP := Lib.hid (parse_joined hm)
      have HM := Lib.hid (parse_may (parse_joined hm))
      have HS := Lib.hid (may_ok hm).bytes
      have HQ := Lib.hid (fun (h : Gr) (w : World) (x : LG w (partsV g) h) => And.intro ((print_same (g := g) x.back.1 x.back.2.1 x.back.2.2.1 x.back.2.2.2)) (same_self (g := g) x.back.1 x.back.2.1 x.back.2.2.1 x.back.2.2.2))
      have HK := Lib.hid (fun (h : Gr) (w : World) (x : LG w (partsV g) h) => (x.check.symm.trans (check_same (g' := grOf (partsV g)) (g := g) (gs_parts g) (es_parts g) (rs_parts g) (us_parts g))).trans (show checkL g = (checkL g) from rfl))
      have HC0 := Lib.hid hc
      clear hc hm
      generalize hTX : joinS true (printT g) = S at *
      have HTX := Lib.hid hTX
      clear hTX
      go_wp2_with fail
      refine (parse_any ⟨S.toArray⟩ w3 (by show S.toArray.size ≤ _; rw [List.size_toArray]; have := HS.out; omega)).mono ?_
      rintro e w4 ⟨hb4, h4⟩
      rw [show (ByteArray.mk S.toArray).data.toList = S from List.toList_toArray .., HP.out, if_pos rfl] at h4
      obtain ⟨v0, v1, v2, v3, rfl, hgro⟩ := h4
      obtain ⟨h, rfl, rfl, rfl, rfl, hL⟩ := gro_in hgro HM.out
      have hL' := hL.below ((Below.refl _ _).alloc (Nat.le_refl _) (.cells #[.slice h.ga h.gs.length h.gc, .slice h.ea h.es.length h.ec, .slice h.ra h.rs.length h.rc, .slice h.ua h.us.length h.uc] 27))
      have HL := Lib.hid hL'
      have hb4' := hb4.alloc hb4.size (.cells #[.slice h.ga h.gs.length h.gc, .slice h.ea h.es.length h.ec, .slice h.ra h.rs.length h.rc, .slice h.ua h.us.length h.uc] 27)
      have HB4 := Lib.hid (HB3.out.trans (hb4'.mono HB3.out.size))
      have HX4 := Lib.hid ((hb4'.block _ (B.blk_lt HX3.out)).trans HX3.out)
      have HY4 := Lib.hid (B.heap_new w4 (.cells #[.slice h.ga h.gs.length h.gc, .slice h.ea h.es.length h.ec, .slice h.ra h.rs.length h.rc, .slice h.ua h.us.length h.uc] 27))
      clear hb4 hb4' hL hL' hgro HB3 HX3
      go_wp2_with fail
      refine (print_any _ h HL.out.lies HL.out.small HL.out.cap HL.out.nil (tab_on HT.out HB4.out)).mono ?_
      rintro e w5 ⟨hb5, h5⟩
      rw [HK.out h _ HL.out, if_pos HC0.out, (HQ.out h _ HL.out).1, HTX.out] at h5
      subst h5
      have HB5 := Lib.hid (HB4.out.trans (hb5.mono HB4.out.size))
      have hX5 := (hb5.block _ (B.blk_lt HX4.out)).trans HX4.out
      have hY5 := (hb5.block _ (B.blk_lt HY4.out)).trans HY4.out
      have HL5 := Lib.hid (HL.out.below hb5)
      have c0 := B.cell_blk (i := 0) hX5 rfl
      have c1 := B.cell_blk (i := 1) hX5 rfl
      have c2 := B.cell_blk (i := 2) hX5 rfl
      have c3 := B.cell_blk (i := 3) hX5 rfl
      have l2 := B.blk_lt hX5
      have d0 := B.cell_blk (i := 0) hY5 rfl
      have d1 := B.cell_blk (i := 1) hY5 rfl
      have d2 := B.cell_blk (i := 2) hY5 rfl
      have d3 := B.cell_blk (i := 3) hY5 rfl
      have m2 := B.blk_lt hY5
      clear hb5 hX5 hY5 HB4 HX4 HY4
      go_wp2_with fail
      refine (refsame_any w5 g h (HI.out.below (Nat.le_refl _) HB5.out) HL5.out.lies HZ.out).mono ?_
      rintro e w6 ⟨rfl, hb6⟩
      rw [(HQ.out h _ HL.out).2]
      have HB6 := Lib.hid (HB5.out.trans (hb6.mono HB5.out.size))
      clear hb6
      go_wp2_with fail
      go_ret
      exact ⟨by simp, HB6.out⟩
    · rw [if_neg hc] at h3
      subst h3
      have hne : (((checkL g).2.2 : Int) != 0) = true := by rw [bne_iff_ne]; omega
      clear hc
      generalize ((checkL g).2.2 : Int) = cc at *
      go_wp2_with fail
      go_ret
      exact ⟨by simp, HB3.out⟩
end Go.Proofs.YtigbceankmfaeaaGreatDoor.P3.L
