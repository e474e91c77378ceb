/-
  A flat graph, told as a graph of events and ties, and made flat again: plainly.
-/
import Derived.Test.YtplplkchibefjaaF4p
namespace Go.Proofs.Ytplplkchibefjaa.P4
open Go.RowKit Go.Shelf

/-- A tie's time is such as its kind may have. -/
def Timed (t : Ti) : Prop := 0 ≤ t.time ∧ t.time ≤ longL t.kind
theorem key_kind {a b : Ti} (h : tkey a = tkey b) : a.kind = b.kind := by unfold tkey at h; simp only [Prod.mk.injEq] at h; exact h.1
theorem key_all {a b : Ti} (h : tkey a = tkey b) : a.kind = b.kind ∧ a.fr = b.fr ∧ a.to = b.to := by unfold tkey at h; simpa only [Prod.mk.injEq] using h
theorem Timed.str {a t : Ti} (hk : a.kind = t.kind) (ha : Timed a) (ht : Timed t) : Timed (strT a t) := by
  obtain ⟨a1, a2⟩ := ha
  obtain ⟨t1, t2⟩ := ht
  rw [hk] at a2
  show 0 ≤ strI t.kind a.time t.time ∧ strI t.kind a.time t.time ≤ longL a.kind
  rw [hk]
  unfold strI
  split
  · omega
  · split
    · omega
    · exact ⟨a1, a2⟩
theorem at_mem {l : List Ti} {t : Ti} (h : hasT_ l t = true) : l[atT l t]! ∈ l := by
  have hlt := atT_lt h
  rw [getElem!_pos l _ hlt]; exact List.getElem_mem _
theorem Timed.step {l l' : List Ti} {t : Ti} (hl : ∀ x ∈ l, Timed x) (ht : Timed t) (h : stepT l t = some l') : ∀ x ∈ l', Timed x := by
  unfold stepT at h
  split at h
  · rename_i hh
    injection h with h
    subst h
    intro x hx
    rcases List.mem_or_eq_of_mem_set hx with h1 | h1
    · exact hl x h1
    · rw [h1]; exact Timed.str (key_kind (atT_key hh)) (hl _ (at_mem hh)) ht
  · split at h
    · cases h
    · injection h with h
      subst h
      intro x hx
      rcases List.mem_append.1 hx with h1 | h1
      · exact hl x h1
      · rw [List.mem_singleton.1 h1]; exact ht
theorem Timed.fold : ∀ (xs : List Ti) {l l' : List Ti}, (∀ x ∈ l, Timed x) → (∀ x ∈ xs, Timed x) → foldT l xs = some l' → ∀ x ∈ l', Timed x
  | [], l, l', hl, _, h => by rw [foldT] at h; injection h with h; subst h; exact hl
  | t :: r, l, l', hl, hx, h => by
    rw [foldT] at h
    cases hs : stepT l t with
    | none => rw [hs] at h; cases h
    | some l1 =>
      rw [hs] at h
      exact Timed.fold r (Timed.step hl (hx t (List.mem_cons_self ..)) hs) (fun x hxr => hx x (List.mem_cons_of_mem _ hxr)) h
theorem told_timed {g : Gr} (hm : mayL g = true) : ∀ t ∈ toldL g g.rs.length, Timed t := by
  intro t ht
  rw [toldL, List.take_length] at ht
  obtain ⟨r, hr, h1⟩ := List.mem_flatMap.1 ht
  unfold told1 at h1
  obtain ⟨x, hx, rfl⟩ := List.mem_map.1 h1
  obtain ⟨i, hi, rfl⟩ := List.getElem_of_mem hr
  have hk := (may_iff.1 hm).2.2.2.1 i hi
  unfold relE at hk
  rw [getElem!_pos g.rs i hi] at hk
  split at hk
  · omega
  · split at hk
    · omega
    · split at hk
      · split at hk
        · omega
        · split at hk
          · omega
          · rename_i k1 k2
            exact ⟨by show 0 ≤ g.rs[i].time; omega, by show g.rs[i].time ≤ longL g.rs[i].kind; omega⟩
      · omega
theorem nodup_step {l l' : List Ti} {t : Ti} (hl : (l.map tkey).Nodup) (h : stepT l t = some l') : (l'.map tkey).Nodup := by
  unfold stepT at h
  split at h
  · rename_i hh
    injection h with h
    subst h
    have hlt := atT_lt hh
    have e : (l.set (atT l t) (strT l[atT l t]! t)).map tkey = l.map tkey := by
      rw [List.map_set]
      have e1 : tkey (strT l[atT l t]! t) = (l.map tkey)[atT l t]'(by simpa using hlt) := by
        rw [List.getElem_map, ← getElem!_pos l _ hlt]; rfl
      rw [e1, List.set_getElem_self]
    rw [e]; exact hl
  · rename_i hh
    split at h
    · cases h
    · injection h with h
      subst h
      rw [List.map_append, List.nodup_append]
      refine ⟨hl, by simp, ?_⟩
      intro a ha b hb e
      obtain rfl : b = tkey t := by simpa using hb
      subst e
      exact hh (by unfold hasT_; exact List.contains_iff_mem.2 ha)
theorem nodup_fold : ∀ (xs : List Ti) {l l' : List Ti}, (l.map tkey).Nodup → foldT l xs = some l' → (l'.map tkey).Nodup
  | [], l, l', hl, h => by rw [foldT] at h; injection h with h; subst h; exact hl
  | t :: r, l, l', hl, h => by
    rw [foldT] at h
    cases hs : stepT l t with
    | none => rw [hs] at h; cases h
    | some l1 => rw [hs] at h; exact nodup_fold r (nodup_step hl hs) h
theorem fold_self : ∀ (xs l : List Ti), ((l ++ xs).map tkey).Nodup → (l ++ xs).length ≤ 8000 → foldT l xs = some (l ++ xs)
  | [], l, _, _ => by rw [foldT, List.append_nil]
  | t :: r, l, hn, h8 => by
    have hh : hasT_ l t = false := by
      rw [Bool.eq_false_iff]
      intro h
      unfold hasT_ at h
      have hm := List.contains_iff_mem.1 h
      rw [List.map_append, List.nodup_append] at hn
      exact hn.2.2 _ hm (tkey t) (by simp) rfl
    have hlen : l.length ≠ 8000 := by simp at h8; omega
    rw [foldT]
    unfold stepT
    rw [hh, if_neg (by decide), if_neg hlen]
    have e : l ++ t :: r = (l ++ [t]) ++ r := by simp
    rw [e] at hn h8 ⊢
    exact fold_self r (l ++ [t]) hn h8

/-! ### the graph of events and ties -/
def bgG (es : List Ev) (ts : List Ti) (EA RA : Option Addr) (ec rc : Nat) : Gr := ⟨[], es.map F4.bareE, F4.backL es ts, [], none, 0, EA, ec, RA, rc, none, 0⟩
theorem back_eq {es : List Ev} {ts : List Ti} (h : ∀ t ∈ ts, Good es.length t) : F4.backL es ts = ts.map (F4.backR es) := by
  unfold F4.backL
  rw [List.filter_eq_self.2]
  intro t ht
  obtain ⟨_, _, h1, h2, h3, h4⟩ := h t ht
  unfold F4.betw F4.hasI
  simp only [Bool.and_eq_true, decide_eq_true_eq]
  exact ⟨⟨h1, h2⟩, h3, h4⟩
/-- Each event's name is its own. -/
def OwnNames (es : List Ev) : Prop := ∀ i j, i < es.length → j < es.length → es[i]!.name.toList = es[j]!.name.toList → i = j
theorem names_own {g : Gr} (hm : mayL g = true) : OwnNames g.es := by
  have key : ∀ i j, i < j → j < g.es.length → g.es[i]!.name.toList ≠ g.es[j]!.name.toList := fun i j hij hj e => by
    have h := (may_iff.1 hm).2.2.1 j hj
    unfold eventE at h
    split at h
    · split at h
      · omega
      · rename_i h2
        rw [Bool.or_eq_true, not_or] at h2
        apply h2.2
        unfold aheadB
        rw [decide_eq_true_eq]
        have hi : (ens g)[i]'(by unfold ens; simp; omega) = g.es[j]!.name.toList := by
          unfold ens; rw [List.getElem_map, ← getElem!_pos g.es i (by omega)]; exact e
        have hle : (ens g).idxOf g.es[j]!.name.toList ≤ i := by
          rcases Nat.lt_or_ge i ((ens g).idxOf g.es[j]!.name.toList) with h3 | h3
          · exact absurd hi (by
              have := List.not_of_lt_findIdx (p := (· == g.es[j]!.name.toList)) (xs := ens g) h3
              simpa using this)
          · exact h3
        omega
    · omega
  intro i j hi hj e
  rcases Nat.lt_trichotomy i j with h | h | h
  · exact absurd e (key i j h hj)
  · exact h
  · exact absurd e.symm (key j i h hi)
end Go.Proofs.Ytplplkchibefjaa.P4
