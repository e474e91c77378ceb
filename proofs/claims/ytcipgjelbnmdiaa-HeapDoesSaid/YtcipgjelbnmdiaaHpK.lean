/-
  Contracts of package heap: New, Len, Has, Peek, Weight.
-/
import Derived.Test.YtcipgjelbnmdiaaHpJ
namespace Go.Proofs.Ytcipgjelbnmdiaa.HP
open Go.RowKit Go.Shelf Go.Proofs.Ytcipgjelbnmdiaa.B Go.ChangeMaps
attribute [local go_sem] Oper.semAt_some

/-- Is there one of a number? -/
def hasB (L : List It) (i : Int) : Bool := L.any (fun x => x.id == i)
theorem hasB_iff {L : List It} {i : Int} : hasB L i = true ↔ ∃ p, p < L.length ∧ L[p]!.id = i := by
  unfold hasB
  rw [List.any_eq_true]
  constructor
  · rintro ⟨x, hx, hi⟩
    obtain ⟨p, hp, rfl⟩ := List.getElem_of_mem hx
    exact ⟨p, hp, by rw [getElem!_pos L p hp]; simpa using hi⟩
  · rintro ⟨p, hp, hi⟩
    exact ⟨_, mem_at hp, by simpa using hi⟩
theorem PlOk.has {L : List It} {f : Int → Option Nat} (h : PlOk L f) (i : Int) : (f i).isSome = hasB L i := by
  rw [Bool.eq_iff_iff, hasB_iff]
  constructor
  · intro hs
    obtain ⟨p, h1, h2, _⟩ := h.some hs
    exact ⟨p, h1, h2⟩
  · rintro ⟨p, h1, rfl⟩
    rw [h.at_ p h1]; rfl
/-- The one of a number. -/
def getI (L : List It) (i : Int) : It := (L.find? (fun x => x.id == i)).getD default
theorem PlOk.get {L : List It} {f : Int → Option Nat} (h : PlOk L f) {p : Nat} (hp : p < L.length) : getI L L[p]!.id = L[p]! := by
  unfold getI
  cases hf : L.find? (fun x => x.id == L[p]!.id) with
  | none =>
    rw [List.find?_eq_none] at hf
    exact absurd (hf _ (mem_at hp)) (by simp)
  | some y =>
    have h1 := List.find?_some hf
    have h2 := List.mem_of_find?_eq_some hf
    obtain ⟨q, hq, rfl⟩ := List.getElem_of_mem h2
    have h3 : L[q]!.id = L[p]!.id := by rw [getElem!_pos L q hq]; simpa using h1
    have := h.one hq hp h3
    subst this
    rw [getElem!_pos L q hq]; rfl
set_option maxHeartbeats 400000 in
theorem len_any (w : World) (hb : Nat) (A : HA) (s : Int) (L : List It) (h : HpI w hb A s L) : Calls Try.prog 21 #[pt hb] w fun e w' => e = .returned (.int .i64 (L.length : Int)) ∧ w = w' := by
  obtain ⟨ia, ic, pb⟩ := A
  have c1 : w.cell? ⟨hb, 1, none⟩ = some (.slice ia L.length ic) := cell_blk (i := 1) h.box rfl
  have hl := h.lt
  clear h
  go_enter Try.func21, Try.ntmps21
  go_wp2_with fail
  go_ret
  exact ⟨rfl, rfl⟩
set_option maxHeartbeats 400000 in
theorem has_any (w : World) (hb : Nat) (A : HA) (s : Int) (L : List It) (h : HpI w hb A s L) (i : Int) (hi : (Lit.int .i64 i).wf = true) : Calls Try.prog 22 #[pt hb, .int .i64 i] w fun e w' => e = .returned (.bool (hasB L i)) ∧ w = w' := by
  obtain ⟨ia, ic, pb⟩ := A
  have c2 : w.cell? ⟨hb, 2, none⟩ = some (.map (some pb)) := cell_blk (i := 2) h.box rfl
  have hl := h.lt
  obtain ⟨f, hm, hp⟩ := h.map
  obtain ⟨q, hlk, -⟩ := hm.look hi
  rw [hp.has i] at hlk
  clear h hm hp
  generalize hasB L i = b at *
  go_enter Try.func22, Try.ntmps22
  go_wp2_with fail
  go_ret
  exact ⟨rfl, rfl⟩
set_option maxHeartbeats 400000 in
theorem new_yes (w : World) (s : Int) (h1 : 1 ≤ s) (h2 : s ≤ 1048576) (X : Nat → Prop) : Calls Try.prog 10 #[.int .i64 s] w fun e w' => e = .returned (.tuple #[pt (w.heap.size + 1), .int .i64 0]) ∧ Below w.heap.size w w' ∧ HW ⟨w, X⟩ w' (w.heap.size + 1) ⟨none, 0, w.heap.size⟩ s [] := by
  have k1 : ¬ s < 1 := by omega
  have k2 : ¬ s > 1048576 := by omega
  have hm := @run_makeMap Try.prog
  have HF : Hid (Below w.heap.size w ((w.alloc (.map #[] 0)).alloc (.cells #[.int .i64 s, .slice none 0 0, .map (some w.heap.size)] 82)) ∧ HW ⟨w, X⟩ ((w.alloc (.map #[] 0)).alloc (.cells #[.int .i64 s, .slice none 0 0, .map (some w.heap.size)] 82)) (w.heap.size + 1) ⟨none, 0, w.heap.size⟩ s []) := Lib.hid (by
    have hB : Below w.heap.size w ((w.alloc (.map #[] 0)).alloc (.cells #[.int .i64 s, .slice none 0 0, .map (some w.heap.size)] 82)) := ((Below.refl _ _).alloc (Nat.le_refl _) _).alloc (by rw [World.size_alloc]; omega) _
    refine ⟨hB, (Kept.refl w X).call hB, ⟨?_, ⟨0, World.ownsRow_nil _ _ _ _⟩, ⟨_, (MI.made w).block (Below.heap_alloc _ _ _ (by rw [World.size_alloc]; omega)), ⟨(fun p hp => by simp at hp), fun _ _ => rfl⟩⟩, (fun x hx => by cases hx), (by simp), ⟨h1, h2⟩⟩, .inr (Nat.le_succ _), .inr (Nat.le_refl _), fun g off e => by cases e⟩
    have := heap_new (w.alloc (.map #[] 0)) (.cells #[.int .i64 s, .slice none 0 0, .map (some w.heap.size)] 82)
    rw [World.size_alloc] at this
    exact this)
  go_enter Try.func10, Try.ntmps10
  go_wp2_with fail
  go_ret2
  exact ⟨rfl, HF.out⟩
set_option maxHeartbeats 400000 in
theorem new_no (w : World) (s : Int) (h : s < 1 ∨ 1048576 < s) : Calls Try.prog 10 #[.int .i64 s] w fun e w' => e = .returned (.tuple #[.pointer none, .int .i64 1]) ∧ w = w' := by
  rcases h with h | h
  · go_enter Try.func10, Try.ntmps10
    go_wp2_with fail
    go_ret2
    exact ⟨rfl, rfl⟩
  · have k1 : ¬ s < 1 := by omega
    go_enter Try.func10, Try.ntmps10
    go_wp2_with fail
    go_ret2
    exact ⟨rfl, rfl⟩
end Go.Proofs.Ytcipgjelbnmdiaa.HP
