/-
  Two heaps that stand apart.
-/
import Derived.Test.YtcipgjelbnmdiaaHpX
namespace Go.Proofs.Ytcipgjelbnmdiaa.HP
open Go.RowKit Go.Shelf Go.Proofs.Ytcipgjelbnmdiaa.B

structure HH2 (W : World) (ha hb : Nat) (s : Int) (SA SB : List It) (w : World) : Prop where
  b : Below W.heap.size W w
  h : ∃ XA XB : Nat → Prop, HS ⟨w, XA⟩ w ha s SA ∧ HS ⟨w, XB⟩ w hb s SB ∧ (∀ q, XA q → ¬ XB q) ∧ (∀ q, XA q → W.heap.size ≤ q ∧ q < w.heap.size) ∧ (∀ q, XB q → W.heap.size ≤ q ∧ q < w.heap.size)
theorem HH2.symm {W : World} {ha hb : Nat} {s : Int} {SA SB : List It} {w : World} (h : HH2 W ha hb s SA SB w) : HH2 W hb ha s SB SA w := by
  obtain ⟨XA, XB, h1, h2, h3, h4, h5⟩ := h.h
  exact ⟨h.b, XB, XA, h2, h1, fun q hb ha => h3 q ha hb, h5, h4⟩
theorem HH2.call {W : World} {ha hb : Nat} {s : Int} {SA SB : List It} {w w' : World} (h : HH2 W ha hb s SA SB w) (hb' : Below w.heap.size w w') : HH2 W ha hb s SA SB w' := by
  obtain ⟨XA, XB, h1, h2, h3, h4, h5⟩ := h.h
  refine ⟨h.b.trans (hb'.mono h.b.size), XA, XB, h1.reb (fun q hq hl => ?_) (fun q _ hl => hb'.block q hl), h2.reb (fun q hq hl => ?_) (fun q _ hl => hb'.block q hl), h3, fun q hq => ⟨(h4 q hq).1, Nat.lt_of_lt_of_le (h4 q hq).2 hb'.size⟩, fun q hq => ⟨(h5 q hq).1, Nat.lt_of_lt_of_le (h5 q hq).2 hb'.size⟩⟩
  · rcases hq with hq | hq
    · exact hq
    · exact absurd hl (by have h9 : w.heap.size ≤ q := hq; omega)
  · rcases hq with hq | hq
    · exact hq
    · exact absurd hl (by have h9 : w.heap.size ≤ q := hq; omega)
/-- The first one does a step. -/
theorem HH2.stepA {W : World} {ha hb : Nat} {s : Int} {SB SA' : List It} {w w1 : World} (hB : Below W.heap.size W w) {XA XB : Nat → Prop} (h2 : HS ⟨w, XB⟩ w hb s SB) (h3 : ∀ q, XA q → ¬ XB q) (h4 : ∀ q, XA q → W.heap.size ≤ q ∧ q < w.heap.size) (h5 : ∀ q, XB q → W.heap.size ≤ q ∧ q < w.heap.size)
    (h1 : HS ⟨w, XA⟩ w1 ha s SA') : HH2 W ha hb s SA' SB w1 := by
  have hk := h1.k
  have hs : w.heap.size ≤ w1.heap.size := hk.size
  refine ⟨hB.trans (hk.bel hB.size (fun k hk hx => by have := (h4 k hx).1; omega)), fun q => XA q ∨ (w.heap.size ≤ q ∧ q < w1.heap.size), XB, h1.reb (fun q hq hl => ?_) (fun _ _ _ => rfl), h2.reb (fun q hq hl => ?_) (fun q hq hl => hk.block q hl (fun hx => h3 q hx hq)), fun q hq hx => ?_, fun q hq => ?_, fun q hq => ⟨(h5 q hq).1, Nat.lt_of_lt_of_le (h5 q hq).2 hs⟩⟩
  · rcases hq with hq | hq
    · exact .inl hq
    · exact .inr ⟨hq, hl⟩
  · rcases hq with hq | hq
    · exact hq
    · exact absurd hl (by have h9 : w.heap.size ≤ q := hq; omega)
  · rcases hq with hq | hq
    · exact h3 q hq hx
    · have := (h5 q hx).2; omega
  · rcases hq with hq | hq
    · exact ⟨(h4 q hq).1, Nat.lt_of_lt_of_le (h4 q hq).2 hs⟩
    · exact ⟨by have := hB.size; omega, hq.2⟩
theorem put2 {W : World} {ha hb : Nat} {s : Int} {SA SB : List It} {w : World} (h : HH2 W ha hb s SA SB w) (x : It) (hid : (Lit.int .i64 x.id).wf = true) :
    Calls Try.prog 12 #[pt ha, itV x] w fun e w' => e = .returned (.int .i64 (putE SA x)) ∧ HH2 W ha hb s (if putE SA x = 0 then insI s SA x else SA) SB w' := by
  obtain ⟨XA, XB, h1, h2, h3, h4, h5⟩ := h.h
  exact (hs_put _ w ha s SA h1 x hid).mono fun _ _ ⟨he, hs⟩ => ⟨he, HH2.stepA h.b h2 h3 h4 h5 hs⟩
theorem rem2 {W : World} {ha hb : Nat} {s : Int} {SA SB : List It} {w : World} (h : HH2 W ha hb s SA SB w) (i : Int) (hi : (Lit.int .i64 i).wf = true) :
    Calls Try.prog 17 #[pt ha, .int .i64 i] w fun e w' => e = .returned (.tuple #[itV (getI SA i), .bool (hasB SA i)]) ∧ HH2 W ha hb s (rmI SA i) SB w' := by
  obtain ⟨XA, XB, h1, h2, h3, h4, h5⟩ := h.h
  exact (hs_remove _ w ha s SA h1 i hi).mono fun _ _ ⟨he, hs⟩ => ⟨he, HH2.stepA h.b h2 h3 h4 h5 hs⟩
theorem has2 {W : World} {ha hb : Nat} {s : Int} {SA SB : List It} {w : World} (h : HH2 W ha hb s SA SB w) (i : Int) (hi : (Lit.int .i64 i).wf = true) :
    Calls Try.prog 22 #[pt ha, .int .i64 i] w fun e w' => e = .returned (.bool (hasB SA i)) ∧ w = w' := by
  obtain ⟨XA, XB, h1, h2, h3, h4, h5⟩ := h.h
  exact hs_has _ w ha s SA h1 i hi
theorem list2 {W : World} {ha hb : Nat} {s : Int} {SA SB : List It} {w : World} (h : HH2 W ha hb s SA SB w) : Calls Try.prog 24 #[pt ha] w (RowS w SA) := by
  obtain ⟨XA, XB, h1, h2, h3, h4, h5⟩ := h.h
  exact hs_listF _ w ha s SA h1
theorem HH2.di {W : World} {ha hb : Nat} {s : Int} {SA SB : List It} {w : World} (h : HH2 W ha hb s SA SB w) : DI SA := by obtain ⟨XA, XB, h1, _⟩ := h.h; exact h1.di
theorem HH2.few {W : World} {ha hb : Nat} {s : Int} {SA SB : List It} {w : World} (h : HH2 W ha hb s SA SB w) : SA.length ≤ 1000 := by obtain ⟨XA, XB, h1, _⟩ := h.h; exact h1.few
theorem HH2.so {W : World} {ha hb : Nat} {s : Int} {SA SB : List It} {w : World} (h : HH2 W ha hb s SA SB w) : SA.Pairwise (le s) := by obtain ⟨XA, XB, h1, _⟩ := h.h; exact h1.so
theorem ins_mem {s : Int} {S : List It} {x y : It} : y ∈ insI s S x ↔ y ∈ S ∨ y = x := by
  rw [(insI_perm s S x).mem_iff, List.mem_append, List.mem_singleton]
theorem rm_mem {S : List It} {i : Int} {y : It} : y ∈ rmI S i ↔ y ∈ S ∧ y.id ≠ i := by
  unfold rmI; rw [List.mem_filter, bne_iff_ne]
theorem di_nodup {S : List It} (h : DI S) : S.Nodup := List.Pairwise.imp (fun h e => h (by rw [e])) h
/-- In the same order, of the same things. -/
theorem same_of {s : Int} {S T : List It} (hs : S.Pairwise (le s)) (ht : T.Pairwise (le s)) (ds : DI S) (dt : DI T) (h : ∀ y, y ∈ S ↔ y ∈ T) : S = T :=
  so_one ((List.perm_ext_iff_of_nodup (di_nodup ds) (di_nodup dt)).2 h) hs ht ds
/-- While it is put: the second one's are the first one's; each of these came in. -/
structure R1 (l SA SB : List It) (k : Nat) : Prop where
  sub : ∀ y ∈ SB, y ∈ SA
  all : ∀ y ∈ SA, ∃ j, j < k ∧ l[j]!.id = y.id
  few : SA.length ≤ k ∧ SB.length ≤ k
theorem R1.none (l : List It) : R1 l [] [] 0 := ⟨fun _ h => h, fun _ h => (by cases h), Nat.le_refl _, Nat.le_refl _⟩
theorem R1.more {l SA SB : List It} {k : Nat} (h : R1 l SA SB k) : R1 l SA SB (k + 1) := ⟨h.sub, fun y hy => by obtain ⟨j, h1, h2⟩ := h.all y hy; exact ⟨j, by omega, h2⟩, by have := h.few; omega, by have := h.few; omega⟩
theorem ins_len (s : Int) (S : List It) (x : It) : (insI s S x).length = S.length + 1 := by rw [(insI_perm s S x).length_eq, List.length_append]; rfl
theorem R1.put {l SA SB : List It} {k : Nat} (h : R1 l SA SB k) (s : Int) : R1 l (insI s SA l[k]!) SB (k + 1) := ⟨fun y hy => ins_mem.2 (.inl (h.sub y hy)), fun y hy => by
    rcases ins_mem.1 hy with hy | rfl
    · obtain ⟨j, h1, h2⟩ := h.all y hy; exact ⟨j, by omega, h2⟩
    · exact ⟨k, by omega, rfl⟩, by rw [ins_len]; have := h.few; omega, by have := h.few; omega⟩
theorem R1.both {l SA SB : List It} {k : Nat} (h : R1 l SA SB k) (s : Int) : R1 l (insI s SA l[k]!) (insI s SB l[k]!) (k + 1) := ⟨fun y hy => by
    rcases ins_mem.1 hy with hy | rfl
    · exact ins_mem.2 (.inl (h.sub y hy))
    · exact ins_mem.2 (.inr rfl), (h.put s).all, (h.put s).few.1, by rw [ins_len]; have := h.few; omega⟩
theorem putE_both {l SA SB : List It} {k : Nat} (h : R1 l SA SB k) (hk : k ≤ 100) {x : It} (hn : hasB SA x.id = false) : putE SB x = putE SA x := by
  have hb : hasB SB x.id = false := by
    cases hh : hasB SB x.id with
    | false => rfl
    | true =>
      obtain ⟨y, hy, hi⟩ := has_mem.1 hh
      have : hasB SA x.id = true := has_mem.2 ⟨y, h.sub y hy, hi⟩
      rw [hn] at this; cases this
  unfold putE
  rw [hb, hn, if_neg (show ¬ SB.length = 1000 by have := h.few; omega), if_neg (show ¬ SA.length = 1000 by have := h.few; omega)]
/-- While it is taken. -/
structure R2 (l SA SB : List It) (k m : Nat) : Prop where
  sub : ∀ y ∈ SB, y ∈ SA
  all : ∀ y ∈ SA, y ∈ SB ∨ ∃ j, k ≤ j ∧ j < m ∧ l[j]!.id = y.id
theorem R2.start {l SA SB : List It} {m : Nat} (h : R1 l SA SB m) : R2 l SA SB 0 m := ⟨h.sub, fun y hy => by obtain ⟨j, h1, h2⟩ := h.all y hy; exact .inr ⟨j, Nat.zero_le _, h1, h2⟩⟩
theorem R2.has {l SA SB : List It} {k m : Nat} (h : R2 l SA SB k m) (hd : DI SA) (hh : hasB SB l[k]!.id = true) : R2 l SA SB (k + 1) m := ⟨h.sub, fun y hy => by
  rcases h.all y hy with h1 | ⟨j, h1, h2, h3⟩
  · exact .inl h1
  · by_cases e : j = k
    · subst e
      obtain ⟨z, hz, hi⟩ := has_mem.1 hh
      have : y = z := hd.eq hy (h.sub z hz) (by rw [← h3, hi])
      rw [this]; exact .inl hz
    · exact .inr ⟨j, by omega, h2, h3⟩⟩
theorem R2.rem {l SA SB : List It} {k m : Nat} (h : R2 l SA SB k m) (hh : hasB SB l[k]!.id = false) : R2 l (rmI SA l[k]!.id) SB (k + 1) m := ⟨fun y hy => rm_mem.2 ⟨h.sub y hy, fun e => by
    have : hasB SB l[k]!.id = true := has_mem.2 ⟨y, hy, e⟩
    rw [hh] at this; cases this⟩, fun y hy => by
  obtain ⟨h0, hne⟩ := rm_mem.1 hy
  rcases h.all y h0 with h1 | ⟨j, h1, h2, h3⟩
  · exact .inl h1
  · by_cases e : j = k
    · subst e; exact absurd h3.symm hne
    · exact .inr ⟨j, by omega, h2, h3⟩⟩
theorem R2.done {l SA SB : List It} {k m : Nat} (h : R2 l SA SB k m) (hk : m ≤ k) {s : Int} (hs : SA.Pairwise (le s)) (ht : SB.Pairwise (le s)) (ds : DI SA) (dt : DI SB) : SA = SB :=
  same_of hs ht ds dt (fun y => ⟨fun hy => by
    rcases h.all y hy with h1 | ⟨j, h1, h2, _⟩
    · exact h1
    · omega, h.sub y⟩)
end Go.Proofs.Ytcipgjelbnmdiaa.HP
