/-
  A heap as it goes on; what stores into its row leave of it.
-/
import Derived.Test.YtcipgjelbnmdiaaHpE
namespace Go.Proofs.Ytcipgjelbnmdiaa.HP
open Go.RowKit Go.Shelf Go.Proofs.Ytcipgjelbnmdiaa.B Go.ChangeMaps

/-- From where on, and which blocks besides, memory may turn. -/
structure FW where
  w : World
  X : Nat → Prop
def FW.far (F : FW) (q : Nat) : Prop := F.X q ∨ F.w.heap.size ≤ q
/-- All but what may turn is as it was. -/
structure Kept (F : FW) (w : World) : Prop where
  os : w.os = F.w.os
  tape : w.tape = F.w.tape
  output : w.output = F.w.output
  size : F.w.heap.size ≤ w.heap.size
  block : ∀ k, k < F.w.heap.size → ¬ F.X k → w.heap[k]? = F.w.heap[k]?
theorem Kept.refl (w : World) (X : Nat → Prop) : Kept ⟨w, X⟩ w := ⟨rfl, rfl, rfl, Nat.le_refl _, fun _ _ _ => rfl⟩
theorem Kept.call {F : FW} {w w' : World} (h : Kept F w) (hb : Below w.heap.size w w') : Kept F w' :=
  ⟨hb.os.trans h.os, hb.tape.trans h.tape, hb.output.trans h.output, Nat.le_trans h.size hb.size, fun k hk hx => (hb.block k (Nat.lt_of_lt_of_le hk h.size)).trans (h.block k hk hx)⟩
theorem Kept.drew {F : FW} {w : World} (h : Kept F w) : Kept F w.drew := ⟨h.os, h.tape, h.output, h.size, h.block⟩
theorem Kept.setCell {F : FW} {w : World} (h : Kept F w) (p : Addr) (hf : F.far p.block) (v : Value) : Kept F (w.setCell p v) :=
  ⟨h.os, h.tape, h.output, by rw [World.size_setCell]; exact h.size, fun k hk hx => (Below.heap_setCell _ _ _ _ (fun e => by
    rcases hf with hf | hf
    · rw [← e] at hf; exact hx hf
    · omega)).trans (h.block k hk hx)⟩
theorem Kept.grown {F : FW} {w w' : World} {row : Option Nat} (h : Kept F w) (hg : w.grownBy w' row) (hr : ∀ k, row = some k → F.far k) : Kept F w' :=
  ⟨hg.os.trans h.os, hg.tape.trans h.tape, hg.output.trans h.output, Nat.le_trans h.size hg.size, fun k hk hx => (hg.block k (Nat.lt_of_lt_of_le hk h.size) (fun e => by
    rcases hr k e.symm with hf | hf
    · exact hx hf
    · omega)).trans (h.block k hk hx)⟩
theorem Kept.turned {F : FW} {w w' : World} {b : Nat} (h : Kept F w) (ht : w.mapTurned w' b) (hf : F.far b) : Kept F w' := by
  have hs := turned_size ht
  have ho := fun q hq => turned_other ht (q := q) hq
  obtain ⟨es, c, es', c', hb, rfl⟩ := ht
  exact ⟨h.os, h.tape, h.output, by rw [hs]; exact h.size, fun k hk hx => (ho k (fun e => by
    rcases hf with hf | hf
    · rw [← e] at hf; exact hx hf
    · omega)).trans (h.block k hk hx)⟩
/-- A heap in memory that may turn. -/
structure HW (F : FW) (w : World) (hb : Nat) (A : HA) (s : Int) (L : List It) : Prop where
  b : Kept F w
  h : HpI w hb A s L
  lb : F.far hb
  lp : F.far A.pb
  li : ∀ g off, A.ia = some ⟨g, off, none⟩ → F.far g
theorem HpI.keep {w w' : World} {hb : Nat} {A : HA} {s : Int} {L : List It} (h : HpI w hb A s L) (hk : ∀ k, k < w.heap.size → w'.heap[k]? = w.heap[k]?) : HpI w' hb A s L where
  box := (hk _ h.lt).trans h.box
  row := by
    obtain ⟨B, hr⟩ := h.row
    refine ⟨B, hr.1, ?_⟩
    rcases hr.2 with h1 | ⟨g, cap, cur, e1, e2, e3, e4⟩
    · exact .inl h1
    · exact .inr ⟨g, cap, cur, e1, e2, (hk g (blk_lt e3)).trans e3, e4⟩
  map := by obtain ⟨f, hm, hp⟩ := h.map; exact ⟨f, hm.block (hk _ hm.lt), hp⟩
  ok := h.ok
  few := h.few
  step := h.step
theorem HW.call {F : FW} {w w' : World} {hb : Nat} {A : HA} {s : Int} {L : List It} (h : HW F w hb A s L) (hb' : Below w.heap.size w w') : HW F w' hb A s L :=
  ⟨h.b.call hb', h.h.keep hb'.block, h.lb, h.lp, h.li⟩
/-- For a call from W on: what lies behind w there stays. -/
def FW.inn (F : FW) (w W : World) : FW := ⟨W, fun q => F.far q ∧ q < w.heap.size⟩
theorem HpI.pl {w : World} {hb : Nat} {A : HA} {s : Int} {L : List It} (h : HpI w hb A s L) : A.pb < w.heap.size := by obtain ⟨f, hm, _⟩ := h.map; exact hm.lt
theorem HpI.il {w : World} {hb : Nat} {A : HA} {s : Int} {L : List It} (h : HpI w hb A s L) {g off : Nat} (e : A.ia = some ⟨g, off, none⟩) : g < w.heap.size := by
  obtain ⟨B, hr⟩ := h.row
  rcases hr.2 with ⟨hv, _⟩ | ⟨g', cap, cur, hv, _, hg, _⟩
  · injection hv with e1 _ _
    rw [e] at e1; cases e1
  · injection hv with e1 _ _
    rw [e] at e1
    injection e1 with e1
    injection e1 with e1 _ _
    rw [e1]; exact blk_lt hg
theorem HW.inner {F : FW} {w W : World} {hb : Nat} {A : HA} {s : Int} {L : List It} (h : HW F w hb A s L) (hW : Below w.heap.size w W) : HW (F.inn w W) W hb A s L :=
  ⟨Kept.refl _ _, h.h.keep hW.block, .inl ⟨h.lb, h.h.lt⟩, .inl ⟨h.lp, h.h.pl⟩, fun g off e => .inl ⟨h.li g off e, h.h.il e⟩⟩
theorem FW.far_inn {F : FW} {w W : World} (hK : Kept F w) (hW : Below w.heap.size w W) {q : Nat} (h : (F.inn w W).far q) : F.far q := by
  rcases h with h | h
  · exact h.1
  · have h' : W.heap.size ≤ q := h
    have := hK.size
    have := hW.size
    exact .inr (by omega)
theorem Kept.outer {F : FW} {w W W' : World} (h : Kept F w) (hW : Below w.heap.size w W) (h' : Kept (F.inn w W) W') : Kept F W' :=
  have hW' := h.call hW
  ⟨h'.os.trans hW'.os, h'.tape.trans hW'.tape, h'.output.trans hW'.output, Nat.le_trans hW'.size h'.size, fun k hk hx => (h'.block k (Nat.lt_of_lt_of_le hk hW'.size) (fun e => by
    rcases e.1 with e | e
    · exact hx e
    · omega)).trans (hW'.block k hk hx)⟩
theorem HW.outer {F : FW} {w W W' : World} {hb hb' : Nat} {A A' : HA} {s s' : Int} {L L' : List It} (h : HW F w hb A s L) (hW : Below w.heap.size w W) (h' : HW (F.inn w W) W' hb' A' s' L') : HW F W' hb' A' s' L' :=
  ⟨h.b.outer hW h'.b, h'.h, FW.far_inn h.b hW h'.lb, FW.far_inn h.b hW h'.lp, fun g off e => FW.far_inn h.b hW (h'.li g off e)⟩
/-- What lies between stays. -/
theorem Kept.mid {F : FW} {w W W' : World} (h' : Kept (F.inn w W) W') {k : Nat} (h1 : w.heap.size ≤ k) (h2 : k < W.heap.size) : W'.heap[k]? = W.heap[k]? :=
  h'.block k h2 (fun e => by have := e.2; omega)
/-- The row's block, and that it is no other's. -/
theorem HpI.blk {w : World} {hb : Nat} {A : HA} {s : Int} {L : List It} (h : HpI w hb A s L) (h0 : 0 < L.length) : ∃ g B cur, A.ia = some ⟨g, 0, none⟩ ∧ B ≤ g ∧ w.heap[g]? = some (.cells cur 32 (0, 0)) ∧ g ≠ hb ∧ g ≠ A.pb ∧ g < w.heap.size ∧ w.ownsRow B 32 3 (.slice (some ⟨g, 0, none⟩) L.length A.ic) L.length (L.flatMap itC) := by
  obtain ⟨B, hr⟩ := h.row
  rcases hr.2 with ⟨hv, hn⟩ | ⟨g, cap, cur, hv, hB, hg, _⟩
  · omega
  · injection hv with e1 e2 e3
    have hr2 := hr
    rw [e1] at hr2
    refine ⟨g, B, cur, e1, hB, hg, fun e => ?_, fun e => ?_, blk_lt hg, hr2⟩
    · rw [e, h.box] at hg
      injection hg with hg
      injection hg with _ e4 _
      exact absurd e4 (by decide)
    · obtain ⟨f, ⟨D, ⟨es, c, hm, _⟩, _⟩, _⟩ := h.map
      rw [e, hm] at hg
      cases hg
theorem flat_put (L : List It) {i : Nat} (hi : i < L.length) (x : It) : (((L.flatMap itC).set (i * 3 + 0) (.int .i64 x.id)).set (i * 3 + 1) (.int .i64 x.base)).set (i * 3 + 2) (.int .i64 x.since) = (L.set i x).flatMap itC := by
  have e1 := flat_set itC 3 (fun _ => rfl) L i hi 0 (by omega) (.int .i64 x.id) { L[i]! with id := x.id } (fun y hy => by obtain rfl : y = L[i]! := get_some hy; rfl)
  have e2 := flat_set itC 3 (fun _ => rfl) (L.set i { L[i]! with id := x.id }) i (by rw [List.length_set]; exact hi) 1 (by omega) (.int .i64 x.base) { L[i]! with id := x.id, base := x.base } (fun y hy => by
    obtain rfl : y = (L.set i { L[i]! with id := x.id })[i]! := get_some hy
    rw [set_here hi]; rfl)
  have e3 := flat_set itC 3 (fun _ => rfl) ((L.set i { L[i]! with id := x.id }).set i { L[i]! with id := x.id, base := x.base }) i (by rw [List.length_set, List.length_set]; exact hi) 2 (by omega) (.int .i64 x.since) x (fun y hy => by
    obtain rfl : y = ((L.set i { L[i]! with id := x.id }).set i { L[i]! with id := x.id, base := x.base })[i]! := get_some hy
    rw [set_here (by rw [List.length_set]; exact hi)]; rfl)
  rw [e1, e2, e3, List.set_set, List.set_set]
/-- One item is stored into the row. -/
theorem row_put {w : World} {B g n c : Nat} {L : List It} (h : w.ownsRow B 32 3 (.slice (some ⟨g, 0, none⟩) n c) n (L.flatMap itC)) {i : Nat} (hi : i < L.length) (x : It) :
    (((w.setCell ⟨g, i * 3, none⟩ (.int .i64 x.id)).setCell ⟨g, i * 3 + 1, none⟩ (.int .i64 x.base)).setCell ⟨g, i * 3 + 2, none⟩ (.int .i64 x.since)).ownsRow B 32 3 (.slice (some ⟨g, 0, none⟩) n c) n ((L.set i x).flatMap itC) := by
  have h1 := (h.stored (i * 3 + 0) (.int .i64 x.id)).1
  have h2 := (h1.stored (i * 3 + 1) (.int .i64 x.base)).1
  have h3 := (h2.stored (i * 3 + 2) (.int .i64 x.since)).1
  rw [flat_put L hi x] at h3
  exact h3
/-- One item stored at a place of a block. -/
abbrev put3 (w : World) (g k : Nat) (x : It) : World := ((w.setCell ⟨g, k, none⟩ (.int .i64 x.id)).setCell ⟨g, k + 1, none⟩ (.int .i64 x.base)).setCell ⟨g, k + 2, none⟩ (.int .i64 x.since)
theorem put3_other {w : World} {g k q : Nat} {x : It} (h : q ≠ g) : (put3 w g k x).heap[q]? = w.heap[q]? := (blk_other h).trans ((blk_other h).trans (blk_other h))
theorem put3_size (w : World) (g k : Nat) (x : It) : (put3 w g k x).heap.size = w.heap.size := by rw [World.size_setCell, World.size_setCell, World.size_setCell]
theorem Kept.put3 {F : FW} {w : World} (h : Kept F w) {g : Nat} (hf : F.far g) (k : Nat) (x : It) : Kept F (put3 w g k x) := ((h.setCell ⟨g, k, none⟩ hf _).setCell ⟨g, k + 1, none⟩ hf _).setCell ⟨g, k + 2, none⟩ hf _
theorem own_keep' {w w' : World} {B e z n c g : Nat} {xs : List Value} (h : w.ownsRow B e z (.slice (some ⟨g, 0, none⟩) n c) n xs) (hg : w'.heap[g]? = w.heap[g]?) : w'.ownsRow B e z (.slice (some ⟨g, 0, none⟩) n c) n xs := by
  refine ⟨h.1, ?_⟩
  rcases h.2 with ⟨hv, _⟩ | ⟨g', cap, cur, h1, h2, h3, h4⟩
  · injection hv with e _ _; cases e
  · have e := h1
    injection e with e _ _
    injection e with e
    injection e with e
    subst e
    exact .inr ⟨_, cap, cur, h1, h2, hg.trans h3, h4⟩
theorem sw_mem {L : List It} {i j : Nat} (hi : i < L.length) (hj : j < L.length) {x : It} (h : x ∈ sw L i j) : x ∈ L := (sw_perm hi hj).mem_iff.1 h
/-- The row's cells at a place. -/
theorem row_at {w : World} {B g n c : Nat} {L : List It} (h : w.ownsRow B 32 3 (.slice (some ⟨g, 0, none⟩) n c) n (L.flatMap itC)) {i : Nat} (hi : i < L.length) (hn : n = L.length) :
    (w.cell? ⟨g, i * 3, none⟩ = some (.int .i64 L[i]!.id) ∧ w.cell? ⟨g, i * 3 + 1, none⟩ = some (.int .i64 L[i]!.base) ∧ w.cell? ⟨g, i * 3 + 2, none⟩ = some (.int .i64 L[i]!.since)) ∧ w.frozen? ⟨g, i * 3, none⟩ = false ∧ w.frozen? ⟨g, i * 3 + 1, none⟩ = false ∧ w.frozen? ⟨g, i * 3 + 2, none⟩ = false :=
  ⟨⟨(h.cellAt (i * 3 + 0) (by omega)).trans (flat_at itC 3 (fun _ => rfl) L i hi 0 (by omega)), (h.cellAt (i * 3 + 1) (by omega)).trans (flat_at itC 3 (fun _ => rfl) L i hi 1 (by omega)), (h.cellAt (i * 3 + 2) (by omega)).trans (flat_at itC 3 (fun _ => rfl) L i hi 2 (by omega))⟩, h.frozenAt (i * 3 + 0), h.frozenAt (i * 3 + 1), h.frozenAt (i * 3 + 2)⟩
end Go.Proofs.Ytcipgjelbnmdiaa.HP
