/-
  Arguments that came in: numbers, texts, lists; for any law.
-/
import Derived.Test.YthbleofighjjgaaRows
import Derived.Test.YthbleofighjjgaaBas
import Derived.SizedLaws
import Derived.Deep.Slices
import Derived.Deep.Fields
import Derived.Lib.SmallJoins
import Derived.ProofKit
import Derived.OpenShut
import Derived.Carry
import Derived.BigRegion
namespace Go.Proofs.Ythbleofighjjgaa.OP
open Go.RowKit Go.Shelf Go.Deep Go.Joins Go.ChangeShapes Go.WideShapes Go.Proofs.Ythbleofighjjgaa.B

section
variable {H : Type} {enc : TypeId × Value → H} {P : Program} {w : World} {base : Nat} {spare : Nat → Bool} {held : Bool}
/-- What is read weighs no more than the reach. -/
def Wt (P : Program) (t : TypeId) (d : DataW H) : Prop := ∀ n ∈ d.weights P t, n ≤ 140737488351232
theorem Wt.of {ts : List TypeId} {ds : List (DataW H)} (h : (DataW.weightsEach P ts ds).all (· ≤ reachBytes) = true) {j : Nat} {t : TypeId} {d : DataW H} (ht : ts[j]? = some t) (hd : ds[j]? = some d) : Wt P t d :=
  fun n hn => of_decide_eq_true (List.all_eq_true.1 h n (DataW.weights_mem_each ht hd n hn))
theorem Wt.field {t : TypeId} {fs : Array Field} {parts : List (DataW H)} (h : Wt P t (.agg parts)) (ht : P.underlying t = some (.struct fs)) {j : Nat} {f : Field} {d : DataW H} (hf : fs[j]? = some f) (hd : parts[j]? = some d) : Wt P f.type d :=
  fun n hn => h n (by
    simp only [DataW.weights, ht]
    exact DataW.weights_mem_each (by rw [List.getElem?_map, Array.getElem?_toList, hf]; rfl) hd n hn)
theorem wt_all {e : TypeId} {n : Nat} : ∀ {l : List (DataW H)} {d : DataW H}, d ∈ l → n ∈ d.weights P e → n ∈ DataW.weightsAll P e l
  | x :: r, d, hd, hn => by
    rw [DataW.weightsAll, List.mem_append]
    cases hd with
    | head => exact .inl hn
    | tail _ h => exact .inr (wt_all h hn)
theorem Wt.len {t e : TypeId} {es sp : List (DataW H)} (h : Wt P t (.slice es sp)) (ht : P.underlying t = some (.slice e)) : (es.length + sp.length) * P.bytesOf e ≤ 140737488351232 :=
  h _ (by simp only [DataW.weights, ht]; exact List.mem_cons_self ..)
theorem Wt.elem {t e : TypeId} {es sp : List (DataW H)} (h : Wt P t (.slice es sp)) (ht : P.underlying t = some (.slice e)) {d : DataW H} (hd : d ∈ es) : Wt P e d :=
  fun n hn => h n (by simp only [DataW.weights, ht, List.mem_cons, List.mem_append]; exact .inr (.inl (wt_all hd hn)))
theorem Wt.str {t : TypeId} {l : List UInt8} (h : Wt P t (.lit (.string l) : DataW H)) : l.length ≤ 140737488351232 := h _ (by simp [DataW.weights])

/-- A struct of fields of one cell each: its cells, and each field's reading. -/
theorem open_rec {e : TypeId} {fs : Array Field} {n : Nat} {cs : List Value} {x : DataW H × List MemPlace} (he : P.underlying e = some (.struct fs)) (hone : oneCellFields P fs = true) (hC : P.cellsOf e = fs.size) (h : DataW.trod enc P w base spare held n e cs = some x) :
    cs.length = fs.size ∧ ∃ (ds : List (DataW H)) (m : Nat), x.1 = .agg ds ∧ ∀ (j : Nat) (f : Field), fs[j]? = some f → ∀ v, cs[j]? = some v → ∃ y, ds[j]? = some y.1 ∧ DataW.trod enc P w base spare held m f.type [v] = some y := by
  obtain ⟨xs, m, _, rfl, hlen, hxl, hf⟩ := DataW.trod_struct he h
  refine ⟨hlen.trans hC, xs.map (·.1), m, rfl, fun j f hj v hv => ?_⟩
  obtain ⟨ho, hk⟩ := hone_of hone j f hj
  have hjl : j < xs.length := by rw [hxl]; exact (Array.getElem?_eq_some_iff.1 hj).1
  have h1 := hf j f hj
  obtain ⟨hjc, hvv⟩ := List.getElem?_eq_some_iff.1 hv
  rw [ho, hk, List.drop_eq_getElem_cons hjc, List.take_succ_cons, List.take_zero, hvv, List.getElem?_eq_getElem hjl] at h1
  exact ⟨xs[j], by rw [List.getElem?_map, List.getElem?_eq_getElem hjl]; rfl, h1⟩

/-- A list that came in. -/
theorem open_list {α : Type} [Inhabited α] (en : α → List Value) (k : Nat) (good : α → Prop) {t e : TypeId} (ht : P.underlying t = some (.slice e)) (hC : P.cellsOf e = k) (hk : ∀ x, (en x).length = k) (k0 : 0 < k)
    (hel : ∀ (n : Nat) (cs : List Value) (y : DataW H × List MemPlace), DataW.trod enc P w base spare held n e cs = some y → Wt P e y.1 → ∃ x, cs = en x ∧ good x)
    {fuel : Nat} {v : Value} {x : DataW H × List MemPlace} (h : DataW.trod enc P w base spare held fuel t [v] = some x) (hw : Wt P t x.1) :
    ∃ (A : Option Addr) (l : List α) (c : Nat), v = .slice A l.length c ∧ Row w A (l.flatMap en) ∧ (∀ x ∈ l, good x) ∧ l.length ≤ c ∧ (A = none → c = 0) ∧ l.length * P.bytesOf e ≤ 140737488351232 := by
  rcases open_slice ht h with ⟨hv, hx⟩ | ⟨a, len, cap, m, n, D, Pl, hv, hb, hl, hm, hmm, rfl, hi⟩
  · injection hv with hv _
    exact ⟨none, [], 0, hv, fun h => absurd rfl h, by simp, Nat.le_refl _, fun _ => rfl, by simp⟩
  · injection hv with hv _
    subst hv
    have hlm : len ≤ m := by rw [hmm]; split <;> omega
    have hW := hw.len ht
    rw [List.length_map, List.length_range] at hW
    have el : ∀ i, i < len → ∃ x : α, (∀ j u, (en x)[j]? = some u → w.cell? (a.add (i * k + j)) = some u) ∧ good x := by
      intro i hil
      obtain ⟨cs, hc, htr⟩ := hi i (by omega)
      obtain ⟨x, hcs, hg⟩ := hel n cs _ htr (hw.elem ht (List.mem_map.2 ⟨i, List.mem_range.2 hil, rfl⟩))
      obtain ⟨_, hcl, hat⟩ := World.cells?_some hc
      refine ⟨x, fun j u hj => ?_, hg⟩
      rw [← hcs] at hj
      have hjk : j < k := by rw [← hC, ← hcl]; exact (List.getElem?_eq_some_iff.1 hj).1
      have h1 := hat j (by rw [hC]; exact hjk)
      rw [hC, Go.Deep.add_add] at h1
      exact h1.trans hj
    obtain ⟨f, hf⟩ : ∃ f : Nat → α, ∀ i, i < len → (∀ j u, (en (f i))[j]? = some u → w.cell? (a.add (i * k + j)) = some u) ∧ good (f i) := by
      classical
      refine ⟨fun i => if h : i < len then Classical.choose (el i h) else default, fun i hil => ?_⟩
      simp only [hil, dif_pos]
      exact Classical.choose_spec (el i hil)
    have hat : ∀ i, i < len → ((List.range len).map f)[i]! = f i := fun i hil => by
      rw [getElem!_pos _ i (by simpa using hil), List.getElem_map, List.getElem_range]
    refine ⟨some a, (List.range len).map f, cap, by simp, fun hne => ?_, fun y hy => ?_, by simpa using hl, (fun e => by cases e), ?_⟩
    · have hlen0 : 0 < len := by
        rcases Nat.eq_zero_or_pos len with h0 | h0
        · exfalso; apply hne; rw [h0]; rfl
        · exact h0
      have hcell : ∀ j u, (((List.range len).map f).flatMap en)[j]? = some u → w.cell? (a.add j) = some u := by
        intro j u hj
        have hjl := (List.getElem?_eq_some_iff.1 hj).1
        rw [flat_len en k hk, List.length_map, List.length_range] at hjl
        have hik : j / k < len := Nat.div_lt_of_lt_mul (by rw [Nat.mul_comm]; exact hjl)
        have hr : j % k < k := Nat.mod_lt _ k0
        have e1 : j / k * k + j % k = j := Nat.div_add_mod' j k
        have h2 := flat_at en k hk ((List.range len).map f) (j / k) (by simpa using hik) (j % k) hr
        rw [e1, hj, hat _ hik] at h2
        have h3 := (hf (j / k) hik).1 (j % k) u h2.symm
        rw [e1] at h3; exact h3
      obtain ⟨blk, off, spot⟩ := a
      have h0 : w.cell? ⟨blk, off, spot⟩ ≠ none := by
        have hl0 : 0 < (((List.range len).map f).flatMap en).length := by rw [flat_len en k hk, List.length_map, List.length_range]; exact Nat.mul_pos hlen0 k0
        have h1 := hcell 0 _ (List.getElem?_eq_getElem hl0)
        intro h2
        have e0 : (⟨blk, off, spot⟩ : Addr).add 0 = ⟨blk, off, spot⟩ := if_pos rfl
        rw [e0, h2] at h1; cases h1
      have hsp : spot = none := by
        cases spot with
        | none => rfl
        | some s => exfalso; apply h0; unfold World.cell?; split <;> simp
      subst hsp
      refine ⟨blk, off, rfl, ?_, fun j u hj => ?_⟩
      · rcases Nat.lt_or_ge blk w.heap.size with h1 | h1
        · exact h1
        · exfalso; apply h0; unfold World.cell?; simp [Array.getElem?_eq_none h1]
      · have := hcell j u hj
        rw [Addr.add_lit] at this; exact this
    · obtain ⟨i, hil, rfl⟩ := List.mem_map.1 hy
      exact (hf i (List.mem_range.1 hil)).2
    · rw [List.length_map, List.length_range]
      exact Nat.le_trans (Nat.mul_le_mul_right _ (Nat.le_add_right _ _)) hW
end

section
variable {H : Type} {enc : TypeId × Value → H} {w : World} {base : Nat} {spare : Nat → Bool} {held : Bool}
theorem rd_str {n : Nat} {t : TypeId} (ht : Try.prog.underlying t = some .string) {v : Value} {y : DataW H × List MemPlace} (h : DataW.trod enc Try.prog w base spare held n t [v] = some y) (hw : Wt Try.prog t y.1) : ∃ s : ByteArray, v = .string s ∧ s.size ≤ 140737488351232 := by
  obtain ⟨s, hs, rfl, _⟩ := DataW.trod_string ht h
  injection hs with hs _
  exact ⟨s, hs, by have := hw.str; simpa using this⟩
theorem rd_int {n : Nat} {t : TypeId} (ht : Try.prog.underlying t = some (.int .i64)) {v : Value} {y : DataW H × List MemPlace} (h : DataW.trod enc Try.prog w base spare held n t [v] = some y) : ∃ i : Int, v = .int .i64 i ∧ (Lit.int .i64 i).wf = true := by
  obtain ⟨i, hs, _, hwf⟩ := DataW.trod_int ht h
  injection hs with hs _
  exact ⟨i, hs, hwf⟩
theorem rd_bool {n : Nat} {t : TypeId} (ht : Try.prog.underlying t = some .bool) {v : Value} {y : DataW H × List MemPlace} (h : DataW.trod enc Try.prog w base spare held n t [v] = some y) : ∃ b : Bool, v = .bool b := by
  obtain ⟨b, hs, _⟩ := DataW.trod_bool ht h
  injection hs with hs _
  exact ⟨b, hs⟩
theorem u8_of {i : Int} (h : (Lit.int .u8 i).wf = true) : ∃ b : UInt8, i = (b.toNat : Int) := by
  have h2 := bounds_u8 h
  refine ⟨UInt8.ofNat i.toNat, ?_⟩
  rw [UInt8.toNat_ofNat_of_lt' (by show i.toNat < 256; omega)]
  omega
theorem list2 {l : List Value} (h : l.length = 2) : ∃ a b, l = [a, b] := by match l, h with | [a, b], _ => exact ⟨a, b, rfl⟩
theorem list3 {l : List Value} (h : l.length = 3) : ∃ a b c, l = [a, b, c] := by match l, h with | [a, b, c], _ => exact ⟨a, b, c, rfl⟩
theorem list4 {l : List Value} (h : l.length = 4) : ∃ a b c d, l = [a, b, c, d] := by match l, h with | [a, b, c, d], _ => exact ⟨a, b, c, d, rfl⟩
theorem list6 {l : List Value} (h : l.length = 6) : ∃ a b c d e f, l = [a, b, c, d, e, f] := by match l, h with | [a, b, c, d, e, f], _ => exact ⟨a, b, c, d, e, f, rfl⟩
theorem list5 {l : List Value} (h : l.length = 5) : ∃ a b c d e, l = [a, b, c, d, e] := by match l, h with | [a, b, c, d, e], _ => exact ⟨a, b, c, d, e, rfl⟩
theorem list8 {l : List Value} (h : l.length = 8) : ∃ a b c d e f g i, l = [a, b, c, d, e, f, g, i] := by match l, h with | [a, b, c, d, e, f, g, i], _ => exact ⟨a, b, c, d, e, f, g, i, rfl⟩
def u8C (b : UInt8) : List Value := [.int .u8 b.toNat]
def boC (b : Bool) : List Value := [.bool b]
theorem rd_u8 (n : Nat) (cs : List Value) (y : DataW H × List MemPlace) (h : DataW.trod enc Try.prog w base spare held n 5 cs = some y) (_ : Wt Try.prog 5 y.1) : ∃ x : UInt8, cs = u8C x ∧ True := by
  obtain ⟨i, rfl, _, hwf⟩ := DataW.trod_int Try.underlying5 h
  obtain ⟨b, rfl⟩ := u8_of hwf
  exact ⟨b, rfl, trivial⟩
theorem rd_bo (n : Nat) (cs : List Value) (y : DataW H × List MemPlace) (h : DataW.trod enc Try.prog w base spare held n 4 cs = some y) (_ : Wt Try.prog 4 y.1) : ∃ x : Bool, cs = boC x ∧ True := by
  obtain ⟨b, rfl, _⟩ := DataW.trod_bool Try.underlying4 h
  exact ⟨b, rfl, trivial⟩
theorem bytesU8 : Try.prog.bytesOf 5 = 1 := by kernel_rfl
set_option maxRecDepth 100000 in
theorem open_u8s {r : Reach} {b0 : Nat} {v : Value} {d : DataW H} {p : List MemPlace} (hv : Value.okWide Try.prog w r b0 34 v) (h : DataW.Trod enc Try.prog w base spare held 34 v d p) (hw : Wt Try.prog 34 d) :
    ∃ (A : Option Addr) (c : Nat) (l : List UInt8), v = .slice A l.length c ∧ Row w A (l.flatMap u8C) ∧ l.length ≤ 140737488351232 := by
  obtain ⟨a, n, c, rfl⟩ := okWide_slice Try.underlying34 hv
  obtain ⟨f, hf⟩ := h
  obtain ⟨A, l, c', e, r0, _, _, _, z⟩ := open_list u8C 1 (fun _ => True) Try.underlying34 (by kernel_rfl) (fun _ => rfl) (by omega) rd_u8 (v := .slice a n c) hf hw
  rw [bytesU8, Nat.mul_one] at z
  exact ⟨A, c', l, e, r0, z⟩
set_option maxRecDepth 100000 in
theorem open_intk {T : TypeId} {k : IntKind} (hT : Try.prog.underlying T = some (.int k)) {r : Reach} {b0 : Nat} {v : Value} {d : DataW H} {p : List MemPlace} (hv : Value.okWide Try.prog w r b0 T v) (h : DataW.Trod enc Try.prog w base spare held T v d p) : ∃ i : Int, v = .int k i ∧ (Lit.int k i).wf = true := by
  obtain ⟨i, rfl⟩ := okWide_int hT hv
  obtain ⟨f, hf⟩ := h
  obtain ⟨j, e, _, hwf⟩ := DataW.trod_int hT hf
  have e2 : Value.int k i = .int k j := by
    have : [Value.int k i] = [Value.int k j] := e
    injection this
  injection e2 with _ e2
  subst e2
  exact ⟨i, rfl, hwf⟩
set_option maxRecDepth 100000 in
theorem open_int {r : Reach} {b0 : Nat} {v : Value} {d : DataW H} {p : List MemPlace} (hv : Value.okWide Try.prog w r b0 3 v) (h : DataW.Trod enc Try.prog w base spare held 3 v d p) : ∃ i : Int, v = .int .i64 i ∧ (Lit.int .i64 i).wf = true := by
  obtain ⟨i, rfl⟩ := okWide_int Try.underlying3 hv
  obtain ⟨f, hf⟩ := h
  exact rd_int Try.underlying3 (v := .int .i64 i) hf
set_option maxRecDepth 100000 in
theorem open_u8 {r : Reach} {b0 : Nat} {v : Value} {d : DataW H} {p : List MemPlace} (hv : Value.okWide Try.prog w r b0 5 v) (h : DataW.Trod enc Try.prog w base spare held 5 v d p) : ∃ b : UInt8, v = .int .u8 (b.toNat : Int) := by
  obtain ⟨i, rfl⟩ := okWide_int Try.underlying5 hv
  obtain ⟨f, hf⟩ := h
  obtain ⟨j, e, _, hwf⟩ := DataW.trod_int Try.underlying5 hf
  have e2 : Value.int .u8 i = .int .u8 j := by
    have : [Value.int .u8 i] = [Value.int .u8 j] := e
    injection this
  obtain ⟨b, hb⟩ := u8_of hwf
  exact ⟨b, by rw [e2, hb]⟩
end
theorem progLaid : laidOutB Try.prog = true := by kernel_rfl
theorem own : ownKnob Try.prog.godebug = none := by kernel_rfl
end Go.Proofs.Ythbleofighjjgaa.OP
