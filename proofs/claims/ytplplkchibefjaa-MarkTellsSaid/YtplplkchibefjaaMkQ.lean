/-
  What holds of marks, plainly: what fits goes on to fit; the slack falls by one a tick; no program.
-/
import Derived.Test.YtplplkchibefjaaMkM
namespace Go.Proofs.Ytplplkchibefjaa.M5
open Go.RowKit Go.Shelf Go.Proofs.Ytplplkchibefjaa.B

theorem fits_iff {n : Nat} {l : List Mk} : fitsB n l = true ↔ l.length = n ∧ ∀ v ∈ l, beyB v = false := ⟨fun h => ⟨fits_len h, fun _ hv => fits_at h hv⟩, fun h => fits_mk h.1 h.2⟩
theorem fits_start (es : List Ev) : fitsB es.length (es.map startM) = true := by
  refine fits_mk (by simp) (fun v hv => ?_)
  obtain ⟨x, _, rfl⟩ := List.mem_map.1 hv
  rw [bey_iff]
  unfold startM withI
  cases x.done <;> simp <;> omega
theorem fits_set {n : Nat} {l : List Mk} (h : fitsB n l = true) {k : Nat} {y : Mk} (hy : beyB y = false) : fitsB n (l.set k y) = true := by
  obtain ⟨h1, h2⟩ := fits_iff.1 h
  refine fits_mk (by simpa using h1) (fun v hv => ?_)
  rcases List.mem_or_eq_of_mem_set hv with h3 | h3
  · exact h2 v h3
  · rw [h3]; exact hy
theorem bey_default : beyB default = false := by decide
theorem fits_get {n : Nat} {l : List Mk} (h : fitsB n l = true) (k : Nat) : beyB l[k]! = false := by
  by_cases hk : k < l.length
  · exact fits_at h (mem_at hk)
  · rw [getElem!_neg l k hk]; exact bey_default
theorem fits_fresh {n : Nat} {l : List Mk} (h : fitsB n l = true) (k : Nat) : fitsB n (freshL l k) = true :=
  fits_set h (bey_iff.2 ⟨by show (-1 : Int) ≤ 0; omega, by show (0 : Int) ≤ 65536; omega, by show (-1 : Int) ≤ -1; omega, by show (-1 : Int) ≤ 1048576; omega⟩)
theorem bey_touch {v : Mk} (h : beyB v = false) (t : Ti) : beyB (touchM v t) = false := by
  rw [bey_iff] at h ⊢
  unfold touchM withI
  split
  · split
    · refine ⟨h.1, h.2.1, ?_, ?_⟩
      · show -1 ≤ min (max t.time 0) 1048576; omega
      · show min (max t.time 0) 1048576 ≤ 1048576; omega
    · exact h
  · split
    · exact h
    · split
      · exact h
      · exact h
theorem fits_touch {n : Nat} {l : List Mk} (h : fitsB n l = true) (t : Ti) : fitsB n (touchL l t) = true := by
  unfold touchL
  split
  · exact fits_set h (bey_touch (fits_get h _) t)
  · exact h
theorem fits_fold {n : Nat} : ∀ (ts : List Ti) {l : List Mk}, fitsB n l = true → fitsB n (ts.foldl touchL l) = true
  | [], _, h => h
  | t :: r, _, h => by rw [List.foldl_cons]; exact fits_fold r (fits_touch h t)
theorem fits_do {n : Nat} {l : List Mk} (h : fitsB n l = true) (ts : List Ti) (k : Nat) : fitsB n (doL ts l k) = true := by
  simp only [doL, List.foldl_cons, List.foldl_nil, kindL]
  exact fits_fold _ (fits_fold _ (fits_fold _ (fits_fresh h k)))
theorem bey_old {v : Mk} (h : beyB v = false) : beyB (oldM v) = false := by
  rw [bey_iff] at h ⊢
  unfold oldM waitB
  simp only
  refine ⟨?_, ?_, ?_, ?_⟩
  · split <;> omega
  · split <;> omega
  · split
    · rename_i h2; simp only [Bool.and_eq_true, decide_eq_true_eq] at h2; omega
    · omega
  · split <;> omega
theorem fits_old {n : Nat} {l : List Mk} (h : fitsB n l = true) : fitsB n (l.map oldM) = true := by
  obtain ⟨h1, h2⟩ := fits_iff.1 h
  refine fits_mk (by simpa using h1) (fun v hv => ?_)
  obtain ⟨x, hx, rfl⟩ := List.mem_map.1 hv
  exact bey_old (h2 x hx)

/-! ### the slack -/
def decI (x : Int) : Int := if x < 1048576 then x - 1 else x
theorem slack_mem {v : Mk} : ∀ (l : List Mk) (a : Int), v ∈ l → waitB v = true → l.foldl leastL a ≤ v.due
  | x :: r, a, hv, hw => by
    rw [List.foldl_cons]
    cases hv with
    | head =>
      refine Int.le_trans (slack_le r _) ?_
      unfold leastL; rw [if_pos hw]; omega
    | tail _ h => exact slack_mem r _ h hw
theorem slack_hit : ∀ (l : List Mk) (a : Int), l.foldl leastL a = a ∨ ∃ v ∈ l, waitB v = true ∧ l.foldl leastL a = v.due
  | [], _ => .inl rfl
  | x :: r, a => by
    rw [List.foldl_cons]
    rcases slack_hit r (leastL a x) with h | ⟨v, hv, hw, h⟩
    · rw [h]
      unfold leastL
      split
      · rename_i hw
        rcases Int.le_total a x.due with h2 | h2
        · left; omega
        · right; exact ⟨x, List.mem_cons_self .., hw, by omega⟩
      · left; rfl
    · exact .inr ⟨v, List.mem_cons_of_mem _ hv, hw, h⟩
theorem wait_old {v : Mk} (h : waitB v = true → 1 ≤ v.due) : waitB (oldM v) = waitB v := by
  cases hw : waitB v with
  | false =>
    have : oldM v = ⟨v.inn, (oldM v).age, v.due⟩ := by unfold oldM; rw [hw]; simp
    rw [this]; exact hw
  | true =>
    have h1 := h hw
    have hi : v.inn = true := by unfold waitB at hw; simp only [Bool.and_eq_true] at hw; exact hw.1
    have h2 : (oldM v).inn = true := hi
    have h3 : 0 ≤ (oldM v).due := by unfold oldM; simp only; split <;> omega
    unfold waitB; rw [h2]; simp only [Bool.true_and, decide_eq_true_eq]; exact h3
theorem least_old {a : Int} {v : Mk} (ha : a ≤ 1048576) (hv : beyB v = false) (h : waitB v = true → 1 ≤ v.due) : leastL (decI a) (oldM v) = decI (leastL a v) := by
  unfold leastL
  rw [wait_old h]
  split
  · rename_i hw
    have h1 := h hw
    obtain ⟨_, _, _, h2⟩ := bey_iff.1 hv
    have h3 : (oldM v).due = decI v.due := by unfold oldM decI; rw [hw]; simp
    rw [h3]
    unfold decI
    split <;> split <;> split <;> omega
  · rfl
theorem slack_old : ∀ (l : List Mk) (a : Int), a ≤ 1048576 → (∀ v ∈ l, beyB v = false) → (∀ v ∈ l, waitB v = true → 1 ≤ v.due) → (l.map oldM).foldl leastL (decI a) = decI (l.foldl leastL a)
  | [], _, _, _, _ => rfl
  | v :: r, a, ha, hb, hw => by
    rw [List.map_cons, List.foldl_cons, List.foldl_cons, least_old ha (hb v (List.mem_cons_self ..)) (hw v (List.mem_cons_self ..))]
    refine slack_old r _ ?_ (fun x hx => hb x (List.mem_cons_of_mem _ hx)) (fun x hx => hw x (List.mem_cons_of_mem _ hx))
    unfold leastL; split <;> omega
/-- Behind a tick the slack is one less. -/
theorem slack_tick {n : Nat} {l : List Mk} (h : fitsB n l = true) (h0 : 0 < slackL l) (h1 : slackL l < 1048576) : slackL (l.map oldM) = slackL l - 1 := by
  have := slack_old l 1048576 (Int.le_refl _) (fits_iff.1 h).2 (fun v hv hw => by
    have h2 := slack_mem l 1048576 hv hw
    have h3 : 0 < l.foldl leastL 1048576 := h0
    omega)
  have e : decI 1048576 = 1048576 := by decide
  rw [e] at this
  show (l.map oldM).foldl leastL 1048576 = _
  rw [this]
  have h4 : l.foldl leastL 1048576 < 1048576 := h1
  unfold decI; rw [if_pos h4]; rfl
theorem slack_nonneg {n : Nat} {l : List Mk} (h : fitsB n l = true) : 0 ≤ slackL l := slack_ge (fits_iff.1 h).2 _ (by omega)
/-- Of a slack of 0 something is in and pending. -/
theorem slack_zero {l : List Mk} (h : slackL l = 0) : l.any waitB = true := by
  rcases slack_hit l 1048576 with h2 | ⟨v, hv, hw, _⟩
  · have : l.foldl leastL 1048576 = 0 := h
    rw [this] at h2; omega
  · rw [List.any_eq_true]; exact ⟨v, hv, hw⟩
end Go.Proofs.Ytplplkchibefjaa.M5
