/-
  Package heap in memory: a map of ints to places; a heap.
-/
import Derived.Test.YtcipgjelbnmdiaaHpA
import Derived.Test.YtcipgjelbnmdiaaChecked
import Derived.WalkKit
import Derived.Maps.OwnIn
import Derived.Maps.OwnSet
import Derived.Maps.Views
import Derived.DeepKeys4
import Derived.MapViews
namespace Go.Proofs.Ytcipgjelbnmdiaa.HP
open Go.RowKit Go.Shelf Go.Proofs.Ytcipgjelbnmdiaa.B

def litZ (i : Int) : Lit := .int .i64 i
theorem lawZ : Maps.Keyed Try.prog 3 := Maps.int_keyed Try.underlying3
theorem keyZ {i : Int} (h : (Lit.int .i64 i).wf = true) : keyOf Try.prog 3 (.int .i64 i) = some (litZ i) := Maps.keyOf_int_mk Try.underlying3 h
theorem litZ_inj {a b : Int} (h : litZ a = litZ b) : a = b := by simpa only [litZ, Lit.int.injEq, true_and] using h
theorem litZ_key {i : Int} (h : (Lit.int .i64 i).wf = true) : WideAt.IsKeyLit (litZ i) := lawZ.key (keyZ h)
section
variable {H : Type} {P : Program} {k : TypeId} {R : Value → Option (DataW H × List MemPlace)} {w : World} {b n : Nat} {D : DataW H}
theorem own_tight (h : w.ownsMap P k R b n D) : w.ownsMap P k R b (Maps.size D) D := by
  obtain ⟨es, clock, hb, F, hs, rfl⟩ := h
  refine ⟨es, clock, hb, F, ?_, rfl⟩
  simp [Maps.size, length_sorted]
end
/-- Block b is a map of ints to places. -/
def MI (w : World) (b : Nat) (f : Int → Option Nat) (m : Nat) : Prop :=
  ∃ D : DataW Unit, w.ownsMap Try.prog 3 (plainElem Try.prog 3) b m D ∧ Maps.size D = m ∧ (∀ i : Int, Maps.has D (litZ i) = (f i).isSome) ∧ ∀ (i : Int) (p : Nat), f i = some p → D.atKey (litZ i) (.lit (.int .i64 0)) = .lit (.int .i64 (p : Int))
theorem MI.made (w : World) : MI (w.alloc (.map #[] 0)) w.heap.size (fun _ => none) 0 := ⟨.map [], World.ownsMap_made w _ _ _, rfl, fun _ => rfl, fun _ _ h => by cases h⟩
theorem MI.lt {w : World} {b m : Nat} {f : Int → Option Nat} (h : MI w b f m) : b < w.heap.size := by obtain ⟨D, h, _⟩ := h; exact h.lt
theorem MI.block {w w' : World} {b m : Nat} {f : Int → Option Nat} (h : MI w b f m) (hb : w'.heap[b]? = w.heap[b]?) : MI w' b f m := by
  obtain ⟨D, ⟨es, clock, h1, h2⟩, h3⟩ := h
  exact ⟨D, ⟨es, clock, hb.trans h1, h2⟩, h3⟩
theorem MI.look {w : World} {b m : Nat} {f : Int → Option Nat} (h : MI w b f m) {i : Int} (hi : (Lit.int .i64 i).wf = true) :
    ∃ q : Int, (Instr.lookup 80 (.map (some b)) (.int .i64 i) true).run Try.prog w = .ok (.tuple #[.int .i64 q, .bool (f i).isSome]) w ∧ ∀ p, f i = some p → q = (p : Int) := by
  obtain ⟨D, h, _, hh, hf⟩ := h
  obtain ⟨v, ps, h1, h2⟩ := h.look_ok lawZ Try.underlying80 (Try.zeroValue3 _) (plainElem_int Try.underlying3 (a := 0) (by decide)) (keyZ hi)
  rw [hh] at h1
  obtain ⟨a, rfl, h3, _⟩ := plainElem_int_inv Try.underlying3 h2
  refine ⟨a, h1, fun p hp => ?_⟩
  rw [hf i p hp] at h3
  simp only [Prod.mk.injEq, DataW.lit.injEq, Lit.int.injEq, true_and] at h3
  exact h3.1.symm
/-- One is put: it comes anew, or goes to another place. -/
def putF (f : Int → Option Nat) (i : Int) (p : Nat) : Int → Option Nat := fun j => if j = i then some p else f j
def delF (f : Int → Option Nat) (i : Int) : Int → Option Nat := fun j => if j = i then none else f j
set_option maxRecDepth 100000 in
theorem MI.put {w : World} {b m : Nat} {f : Int → Option Nat} (h : MI w b f m) {i : Int} (hi : (Lit.int .i64 i).wf = true) {p : Nat} (hp : p ≤ 1000000) (hm : m ≤ 1000000) :
    ∃ w1, (Instr.mapUpdate 80 (.map (some b)) (.int .i64 i) (.int .i64 (p : Int))).run Try.prog w = .ok () w1 ∧ MI w1 b (putF f i p) (if (f i).isSome then m else m + 1) ∧ w.mapTurned w1 b := by
  obtain ⟨D, h, hs, hh, hf⟩ := h
  obtain ⟨w1, h1, h2, h3⟩ := h.store lawZ Try.underlying80 (by unfold maxLen; omega) (keyZ hi) (plainElem_int Try.underlying3 (a := (p : Int)) (WalkArith.wf_i64 (by omega)))
  have hkl := litZ_key hi
  have hsz : Maps.size (D.put (litZ i) (.lit (.int .i64 (p : Int)))) = if (f i).isSome then m else m + 1 := by rw [Maps.size_put (h.tidy lawZ), hh, hs]
  refine ⟨w1, h1, ⟨_, by rw [← hsz]; exact own_tight h2, hsz, fun j => ?_, fun j q hq => ?_⟩, h3⟩
  · unfold putF
    by_cases e : j = i
    · subst e; rw [if_pos rfl, Maps.has_put_same h.isMap hkl]; rfl
    · rw [if_neg e, Maps.has_put_other (fun h => e (litZ_inj h)), hh]
  · unfold putF at hq
    by_cases e : j = i
    · subst e
      rw [if_pos rfl] at hq
      injection hq with hq
      subst hq
      rw [Maps.atKey_put_same h.isMap hkl]
    · rw [if_neg e] at hq
      rw [Maps.atKey_put_other (fun h => e (litZ_inj h))]
      exact hf j q hq
set_option maxRecDepth 100000 in
theorem MI.drop {w : World} {b m : Nat} {f : Int → Option Nat} (h : MI w b f (m + 1)) {i : Int} (hi : (Lit.int .i64 i).wf = true) (hs : (f i).isSome = true) (ty : TypeId) :
    ∃ w1, (Builtin.delete_ #[80, 3] ty #[.map (some b), .int .i64 i]).run Try.prog w = .ok (.tuple #[]) w1 ∧ MI w1 b (delF f i) m ∧ w.mapTurned w1 b := by
  obtain ⟨D, h, hz, hh, hf⟩ := h
  obtain ⟨w1, h1, h2, h3⟩ := h.drop lawZ Try.underlying80 (keyZ hi) ty
  have hsz : Maps.size (D.del (litZ i)) = m := by
    have := Maps.size_del (k := litZ i) (h.tidy lawZ)
    rw [hh, hs, hz] at this
    simpa using this
  refine ⟨w1, h1, ⟨_, by rw [← hsz]; exact own_tight h2, hsz, fun j => ?_, fun j q hq => ?_⟩, h3⟩
  · unfold delF
    by_cases e : j = i
    · subst e; rw [if_pos rfl, Maps.has_del_same]; rfl
    · rw [if_neg e, Maps.has_del_other (fun h => e (litZ_inj h)), hh]
  · unfold delF at hq
    by_cases e : j = i
    · subst e; rw [if_pos rfl] at hq; cases hq
    · rw [if_neg e] at hq
      rw [Maps.atKey_del_other (fun h => e (litZ_inj h))]
      exact hf j q hq
/-- Each is found at its place. -/
structure PlOk (L : List It) (f : Int → Option Nat) : Prop where
  at_ : ∀ p, p < L.length → f L[p]!.id = some p
  no : ∀ i, (∀ p, p < L.length → L[p]!.id ≠ i) → f i = none
theorem PlOk.one {L : List It} {f : Int → Option Nat} (h : PlOk L f) {p q : Nat} (hp : p < L.length) (hq : q < L.length) (e : L[p]!.id = L[q]!.id) : p = q := by
  have h1 := h.at_ p hp
  rw [e, h.at_ q hq] at h1
  injection h1 with h1
  exact h1.symm
theorem PlOk.some {L : List It} {f : Int → Option Nat} (h : PlOk L f) {i : Int} (hs : (f i).isSome = true) : ∃ p, p < L.length ∧ L[p]!.id = i ∧ f i = Option.some p := by
  by_cases hn : ∃ p, p < L.length ∧ L[p]!.id = i
  · obtain ⟨p, h1, h2⟩ := hn
    exact ⟨p, h1, h2, by rw [← h2]; exact h.at_ p h1⟩
  · rw [h.no i (fun p hp e => hn ⟨p, hp, e⟩)] at hs; cases hs
theorem PlOk.sw {L : List It} {f : Int → Option Nat} (h : PlOk L f) {i j : Nat} (hi : i < L.length) (hj : j < L.length) : PlOk (sw L i j) (putF (putF f L[j]!.id i) L[i]!.id j) := by
  constructor
  · intro p hp
    rw [sw_len] at hp
    rw [sw_at hi hj]
    unfold putF
    by_cases e1 : p = j
    · rw [if_pos e1, if_pos rfl, e1]
    · rw [if_neg e1]
      by_cases e2 : p = i
      · rw [if_pos e2]
        by_cases e3 : L[j]!.id = L[i]!.id
        · have := h.one hj hi e3; omega
        · rw [if_neg e3, if_pos rfl, e2]
      · rw [if_neg e2, if_neg (fun e => e2 (h.one hp hi e)), if_neg (fun e => e1 (h.one hp hj e))]
        exact h.at_ p hp
  · intro k hk
    have hall : ∀ p, p < L.length → L[p]!.id ≠ k := fun p hp => by
      by_cases e1 : p = i
      · have := hk j (by rw [sw_len]; exact hj)
        rw [sw_at hi hj, if_pos rfl] at this
        rw [e1]; exact this
      · by_cases e2 : p = j
        · have := hk i (by rw [sw_len]; exact hi)
          rw [sw_at hi hj, if_neg (by omega), if_pos rfl] at this
          rw [e2]; exact this
        · have := hk p (by rw [sw_len]; exact hp)
          rw [sw_at hi hj, if_neg e2, if_neg e1] at this
          exact this
    unfold putF
    rw [if_neg (fun e => hall i hi e.symm), if_neg (fun e => hall j hj e.symm)]
    exact h.no k hall
theorem PlOk.drop {L : List It} {f : Int → Option Nat} (h : PlOk L f) {n : Nat} (hn : L.length = n + 1) : PlOk (L.take n) (delF f L[n]!.id) := by
  have hat : ∀ p, p < n → (L.take n)[p]! = L[p]! := fun p hp => by
    rw [getElem!_pos (L.take n) p (by rw [List.length_take]; omega), List.getElem_take, ← getElem!_pos L p (by omega)]
  have hlen : (L.take n).length = n := by rw [List.length_take]; omega
  constructor
  · intro p hp
    rw [hlen] at hp
    unfold delF
    rw [hat p hp, if_neg (fun e => by have := h.one (by omega) (by omega) e; omega)]
    exact h.at_ p (by omega)
  · intro k hk
    unfold delF
    by_cases e : k = L[n]!.id
    · rw [if_pos e]
    · rw [if_neg e]
      refine h.no k (fun p hp => ?_)
      by_cases e2 : p = n
      · rw [e2]; exact fun e3 => e e3.symm
      · have := hk p (by omega)
        rw [hat p (by omega)] at this
        exact this
theorem PlOk.snoc {L : List It} {f : Int → Option Nat} (h : PlOk L f) {x : It} (hx : f x.id = none) : PlOk (L ++ [x]) (putF f x.id L.length) := by
  have hat : ∀ p, p < L.length → (L ++ [x])[p]! = L[p]! := fun p hp => by rw [getElem!_pos (L ++ [x]) p (by simp; omega), getElem!_pos L p hp, List.getElem_append_left hp]
  have hl : (L ++ [x])[L.length]! = x := by rw [getElem!_pos _ _ (by simp), List.getElem_append_right (Nat.le_refl _)]; simp
  constructor
  · intro p hp
    rw [List.length_append, List.length_singleton] at hp
    unfold putF
    by_cases e : p = L.length
    · rw [e, hl, if_pos rfl]
    · rw [hat p (by omega), if_neg (fun e2 => by
        have h1 := h.at_ p (by omega)
        rw [e2, hx] at h1; cases h1)]
      exact h.at_ p (by omega)
  · intro k hk
    unfold putF
    have h1 := hk L.length (by simp)
    rw [hl] at h1
    rw [if_neg (fun e => h1 e.symm)]
    refine h.no k (fun p hp => ?_)
    have := hk p (by rw [List.length_append]; omega)
    rw [hat p hp] at this
    exact this

/-- An item that may be. -/
structure OkI (x : It) : Prop where
  id : (Lit.int .i64 x.id).wf = true
  base : 0 ≤ x.base ∧ x.base ≤ 9
  since : 0 ≤ x.since ∧ x.since ≤ 1099511627776
structure HA where
  ia : Option Addr
  ic : Nat
  pb : Nat
/-- A heap in memory. -/
structure HpI (w : World) (hb : Nat) (A : HA) (s : Int) (L : List It) : Prop where
  box : w.heap[hb]? = some (.cells #[.int .i64 s, .slice A.ia L.length A.ic, .map (some A.pb)] 82 (0, 0))
  row : ∃ B, w.ownsRow B 32 3 (.slice A.ia L.length A.ic) L.length (L.flatMap itC)
  map : ∃ f, MI w A.pb f L.length ∧ PlOk L f
  ok : ∀ x ∈ L, OkI x
  few : L.length ≤ 1000
  step : 1 ≤ s ∧ s ≤ 1048576
theorem HpI.lt {w : World} {hb : Nat} {A : HA} {s : Int} {L : List It} (h : HpI w hb A s L) : hb < w.heap.size := blk_lt h.box
end Go.Proofs.Ytcipgjelbnmdiaa.HP
