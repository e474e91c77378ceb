/-
  Contracts of graph.isName, longest, areNames, repeats, and of the library's searches that they and Check use.
-/
import Derived.Test.YtplplkchibefjaaGrB0
import Derived.BigQuiet
import Derived.Deep.QuietTactic
namespace Go.Proofs.Ytplplkchibefjaa
open Go.RowKit Go.Shelf

theorem name_k (s : ByteArray) (w : World) (hs : s.size ≤ 140737488351232) : Calls Try.prog 123 #[.string s] w fun e w' => e = .returned (.bool (nameL s.toList)) ∧ w = w' := by
  rw [Lib.toList_data]; exact name_any s w (by omega)
theorem nameK_kw {k : Key} (h : kws.contains k = true) : nameK k = false := by simp only [nameK, h, Bool.not_true, Bool.false_and]
theorem nameK_no {k : Key} (h : kws.contains k = false) : nameK k = nameL k := by simp only [nameK, h, Bool.not_false, Bool.true_and]
set_option maxHeartbeats 1000000 in
theorem isName_any (s : ByteArray) (w : World) (hs : s.size ≤ 140737488351232) : Calls Try.prog 105 #[.string s] w fun e w' => e = .returned (.bool (nameK s.toList)) ∧ w = w' := by
  by_cases hc : kws.contains s.toList = true
  · have HN := Lib.hid (nameK_kw hc)
    have hm : s.toList ∈ kws := by simpa using hc
    clear hc
    simp only [kws, List.mem_cons, List.not_mem_nil, or_false] at hm
    rcases hm with h | h | h | h | h | h | h | h | h | h | h | h | h | h | h | h
    all_goals
      go_enter Try.func105, Try.ntmps105
      go_wp2_with fail
      go_ret
      exact ⟨ret_bool HN.out.symm, rfl⟩
  · have HN := Lib.hid (nameK_no (by simpa using hc))
    have hm : s.toList ∉ kws := by simpa using hc
    clear hc
    simp only [kws, List.mem_cons, List.not_mem_nil, or_false, not_or] at hm
    obtain ⟨h1, h2, h3, h4, h5, h6, h7, h8, h9, h10, h11, h12, h13, h14, h15, h16⟩ := hm
    have e1 := beq_eq_false_iff_ne.2 h1
    have e2 := beq_eq_false_iff_ne.2 h2
    have e3 := beq_eq_false_iff_ne.2 h3
    have e4 := beq_eq_false_iff_ne.2 h4
    have e5 := beq_eq_false_iff_ne.2 h5
    have e6 := beq_eq_false_iff_ne.2 h6
    have e7 := beq_eq_false_iff_ne.2 h7
    have e8 := beq_eq_false_iff_ne.2 h8
    have e9 := beq_eq_false_iff_ne.2 h9
    have e10 := beq_eq_false_iff_ne.2 h10
    have e11 := beq_eq_false_iff_ne.2 h11
    have e12 := beq_eq_false_iff_ne.2 h12
    have e13 := beq_eq_false_iff_ne.2 h13
    have e14 := beq_eq_false_iff_ne.2 h14
    have e15 := beq_eq_false_iff_ne.2 h15
    have e16 := beq_eq_false_iff_ne.2 h16
    clear h1 h2 h3 h4 h5 h6 h7 h8 h9 h10 h11 h12 h13 h14 h15 h16
    go_enter Try.func105, Try.ntmps105
    go_wp2_with (go_at_call 123; refine (name_k s _ hs).mono ?_; rintro e w' ⟨rfl, rfl⟩)
    go_ret
    exact ⟨ret_bool HN.out.symm, rfl⟩

theorem ret_i64 {a b : Int} (h : a = b) : Ending.returned (.int .i64 a) = .returned (.int .i64 b) := by rw [h]
set_option maxHeartbeats 400000 in
theorem longest_any (k : Int) (w : World) : Calls Try.prog 109 #[.int .i64 k] w fun e w' => e = .returned (.int .i64 (longL k)) ∧ w = w' := by
  by_cases h1 : k = 1
  · subst h1
    go_enter Try.func109, Try.ntmps109
    go_wp2
    go_ret
    exact ⟨rfl, rfl⟩
  · by_cases h2 : k = 2
    · subst h2
      go_enter Try.func109, Try.ntmps109
      go_wp2
      go_ret
      exact ⟨rfl, rfl⟩
    · have e1 : (k == 1) = false := by simpa using h1
      have e2 : (k == 2) = false := by simpa using h2
      have HL : Hid (longL k = 0) := Lib.hid (by simp [longL, h1, h2])
      clear h1 h2
      go_enter Try.func109, Try.ntmps109
      go_wp2
      go_ret
      exact ⟨ret_i64 HL.out.symm, rfl⟩

/-- Where the first of some is of which p holds; below 0: nowhere. -/
def idxB {α : Type} (p : α → Bool) (l : List α) : Int := match l.findIdx? p with | some i => (i : Int) | none => -1
theorem idxB_hit {α : Type} [Inhabited α] {p : α → Bool} {l : List α} {k : Nat} (hk : k < l.length) (hp : p l[k]! = true) (h : ∀ j, j < k → p l[j]! = false) : idxB p l = k := by
  have : l.findIdx? p = some k := by
    rw [List.findIdx?_eq_some_iff_getElem]
    refine ⟨hk, by rw [← getElem!_pos l k hk]; exact hp, fun j hj => ?_⟩
    have := h j hj
    rw [getElem!_pos l j (by omega)] at this
    simp [this]
  simp [idxB, this]
theorem idxB_miss {α : Type} [Inhabited α] {p : α → Bool} {l : List α} (h : ∀ j, j < l.length → p l[j]! = false) : idxB p l = -1 := by
  have : l.findIdx? p = none := by
    rw [List.findIdx?_eq_none_iff]
    intro x hx
    obtain ⟨j, hj, rfl⟩ := List.getElem_of_mem hx
    rw [← getElem!_pos l j hj]; exact h j hj
  simp [idxB, this]
theorem idxB_any {α : Type} (p : α → Bool) (l : List α) : decide (0 ≤ idxB p l) = l.any p := by
  unfold idxB
  cases h : l.findIdx? p with
  | none =>
    rw [List.findIdx?_eq_none_iff] at h
    have : l.any p = false := by simpa using h
    simp [this]
  | some i =>
    obtain ⟨hi, hp, _⟩ := List.findIdx?_eq_some_iff_getElem.1 h
    have : l.any p = true := by rw [List.any_eq_true]; exact ⟨_, List.getElem_mem hi, hp⟩
    rw [this]; simp
theorem all_step {α : Type} [Inhabited α] {p : α → Bool} {l : List α} {k : Nat} (h : ∀ j, j < k → p l[j]! = false) (hk : p l[k]! = false) : ∀ j, j < k + 1 → p l[j]! = false := by
  intro j hj
  by_cases e : j = k
  · rw [e]; exact hk
  · exact h j (by omega)
theorem Row.str_at {w : World} {A : Option Addr} {l : List ByteArray} (h : Row w A (l.map Value.string)) {i : Nat} (hi : i < l.length) :
    ∃ b off, A = some ⟨b, off, none⟩ ∧ b < w.heap.size ∧ w.cell? ⟨b, off + i, none⟩ = some (.string l[i]!) := by
  obtain ⟨b, off, h1, h2, h3⟩ := h (fun e => by have := congrArg List.length e; simp at this; rw [this] at hi; simp at hi)
  refine ⟨b, off, h1, h2, h3 i _ ?_⟩
  rw [List.getElem?_map, List.getElem?_eq_getElem hi, getElem!_pos l i hi]; rfl
theorem mem_at {α : Type} [Inhabited α] {l : List α} {i : Nat} (h : i < l.length) : l[i]! ∈ l := by rw [getElem!_pos l i h]; exact List.getElem_mem h

set_option maxHeartbeats 400000 in
theorem noName_any (s : ByteArray) (w : World) (hs : s.size ≤ 140737488351232) : Calls Try.prog 125 #[.string s] w fun e w' => e = .returned (.bool (!nameK s.toList)) ∧ w = w' := by
  go_enter Try.func125, Try.ntmps125
  go_wp2_with (go_at_call 105; refine (isName_any s _ hs).mono ?_; rintro e w' ⟨rfl, rfl⟩)
  go_ret
  exact ⟨rfl, rfl⟩

set_option maxHeartbeats 1000000 in
theorem idxNames_any (A : Option Addr) (c : Nat) (l : List ByteArray) (w : World) (hr : Row w A (l.map Value.string)) (hl : l.length * 16 ≤ 140737488351232) (hs : ∀ s ∈ l, s.size ≤ 140737488351232) :
    Calls Try.prog 137 #[.slice A l.length c, .func (.func 125) #[] #[]] w fun e w' => e = .returned (.int .i64 (idxB (fun s : ByteArray => !nameK s.toList) l)) ∧ w = w' := by
  go_enter Try.func137, Try.ntmps137
  go_wp2
  go_loop [5, 8] (fun _ i => ∃ k : Nat, k ≤ l.length ∧ i = .int .i64 k ∧ Hid (∀ j, j < k → (fun s : ByteArray => !nameK s.toList) l[j]! = false)) (fun _ i => l.length - (intOf i).toNat)
  case atStart => exact ⟨0, Nat.zero_le _, rfl, fun j hj => absurd hj (Nat.not_lt_zero _)⟩
  case round =>
    obtain ⟨k, hk, rfl, HR⟩ := hrel
    by_cases hlt : k < l.length
    · obtain ⟨b, off, rfl, hb, hc⟩ := hr.str_at hlt
      have hsk := hs _ (mem_at hlt)
      have C := fun W => Lib.hid (noName_any l[k]! W hsk)
      cases hn : nameK l[k]!.toList with
      | true =>
        have HR' := Lib.hid (all_step (p := fun s : ByteArray => !nameK s.toList) HR.out (by show (!nameK l[k]!.toList) = false; rw [hn]; rfl : (fun s : ByteArray => !nameK s.toList) l[k]! = false))
        rw [hn] at C
        clear hn HR
        generalize l[k]! = x at *
        go_wp2_with (go_at_call 125; refine (C _).out.mono ?_; rintro e w' ⟨rfl, rfl⟩)
        go_round
        case rel => exact ⟨k + 1, hlt, by go_num, HR'⟩
        case measure => simp [intOf]; omega
      | false =>
        have HF := Lib.hid (idxB_hit (p := fun s : ByteArray => !nameK s.toList) hlt (by show (!nameK l[k]!.toList) = true; rw [hn]; rfl) HR.out)
        rw [hn] at C
        clear hn HR
        generalize l[k]! = x at *
        go_wp2_with (go_at_call 125; refine (C _).out.mono ?_; rintro e w' ⟨rfl, rfl⟩)
        go_ret
        exact ⟨ret_i64 HF.out.symm, rfl⟩
    · obtain rfl : k = l.length := by omega
      have HF := Lib.hid (idxB_miss (p := fun s : ByteArray => !nameK s.toList) HR.out)
      clear HR
      go_wp2_with fail
      go_ret
      exact ⟨ret_i64 HF.out.symm, rfl⟩
theorem not_any_all {l : List ByteArray} : (!(l.any fun s => !nameK s.toList)) = l.all fun s => nameK s.toList := by
  rw [Bool.eq_iff_iff]; simp
set_option maxHeartbeats 400000 in
theorem hasNoName_any (A : Option Addr) (c : Nat) (l : List ByteArray) (w : World) (hr : Row w A (l.map Value.string)) (hl : l.length * 16 ≤ 140737488351232) (hs : ∀ s ∈ l, s.size ≤ 140737488351232) :
    Calls Try.prog 124 #[.slice A l.length c, .func (.func 125) #[] #[]] w fun e w' => e = .returned (.bool (l.any fun s => !nameK s.toList)) ∧ w = w' := by
  have HA := Lib.hid (idxB_any (fun s : ByteArray => !nameK s.toList) l)
  go_enter Try.func124, Try.ntmps124
  go_wp2_with (go_at_call 137; refine (idxNames_any A c l _ hr hl hs).mono ?_; rintro e w' ⟨rfl, rfl⟩)
  go_ret
  exact ⟨ret_bool HA.out, rfl⟩
set_option maxHeartbeats 400000 in
theorem areNames_any (A : Option Addr) (c : Nat) (l : List ByteArray) (w : World) (hr : Row w A (l.map Value.string)) (hl : l.length * 16 ≤ 140737488351232) (hs : ∀ s ∈ l, s.size ≤ 140737488351232) :
    Calls Try.prog 110 #[.slice A l.length c] w fun e w' => e = .returned (.bool (l.all fun s => nameK s.toList)) ∧ w = w' := by
  go_enter Try.func110, Try.ntmps110
  go_wp2_with (go_at_call 124; refine (hasNoName_any A c l _ hr hl hs).mono ?_; rintro e w' ⟨rfl, rfl⟩)
  go_ret
  exact ⟨ret_bool not_any_all, rfl⟩
end Go.Proofs.Ytplplkchibefjaa
