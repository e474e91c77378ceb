/-
  Contract of package staff: Away. Contracts of graph.isName, longest, areNames, repeats, and of the library's searches that they and Check use. The looker in memory; contracts of its small methods and of its look at a group. Contracts of the looker's looks at groups.
-/
import Derived.Test.YtahhhhacoigpmaaScag
import Derived.Test.YtahhhhacoigpmaaScab
import Derived.BigQuiet
import Derived.Deep.QuietTactic
import Derived.RegionTactic
import Derived.StillTailTactics
namespace Go.Proofs.Ytahhhhacoigpmaa.SF
open Go.RowKit Go.Shelf Go.Proofs.Ytahhhhacoigpmaa.B
/-- The members, once one is told to be away or here. -/
def awayL (M : List Mb) (k : Int) (a : Bool) : List Mb := if k < 0 then M else setA M k.toNat a
theorem setA_len (M : List Mb) (i : Nat) (a : Bool) : (setA M i a).length = M.length := List.length_set
theorem setA_at (M : List Mb) {i : Nat} (hi : i < M.length) (a : Bool) (j : Nat) : (setA M i a)[j]! = if j = i then { M[i]! with away := a } else M[j]! := by
  unfold setA
  by_cases h : j = i
  · subst h; rw [if_pos rfl, set_here hi]
  · rw [if_neg h, set_at (Ne.symm h)]
theorem setA_names (M : List Mb) (i : Nat) (a : Bool) : (setA M i a).map Mb.name = M.map Mb.name := by
  unfold setA
  rw [List.map_set]
  by_cases hi : i < M.length
  · have e : M[i]!.name = (M.map Mb.name)[i]'(by simpa using hi) := by rw [getElem!_pos M i hi, List.getElem_map]
    show (M.map Mb.name).set i M[i]!.name = _
    rw [e, List.set_getElem_self]
  · rw [List.set_eq_of_length_le (by simpa using Nat.le_of_not_lt hi)]
theorem nms_of (M : List Mb) : nms M = (M.map Mb.name).map (·.toList) := by unfold nms; rw [List.map_map]; rfl
theorem setA_nms (M : List Mb) (i : Nat) (a : Bool) : nms (setA M i a) = nms M := by rw [nms_of, nms_of, setA_names]
theorem plF_of (M : List Mb) : plF M = firstOf ((M.map Mb.name).map litS) := by unfold plF; rw [List.map_map]; rfl
theorem setA_plF (M : List Mb) (i : Nat) (a : Bool) : plF (setA M i a) = plF M := by rw [plF_of, plF_of, setA_names]
theorem setA_sub (M : List Mb) (i : Nat) (a : Bool) (j : Nat) : (setA M i a)[j]!.sub = M[j]!.sub := by
  by_cases hi : i < M.length
  · rw [setA_at M hi]; split
    · rename_i h; rw [h]
    · rfl
  · unfold setA; rw [List.set_eq_of_length_le (Nat.le_of_not_lt hi)]
theorem setA_roles (M : List Mb) (i : Nat) (a : Bool) (j : Nat) : (setA M i a)[j]!.roles = M[j]!.roles := by
  by_cases hi : i < M.length
  · rw [setA_at M hi]; split
    · rename_i h; rw [h]
    · rfl
  · unfold setA; rw [List.set_eq_of_length_le (Nat.le_of_not_lt hi)]
theorem setA_name (M : List Mb) (i : Nat) (a : Bool) (j : Nat) : (setA M i a)[j]!.name = M[j]!.name := by
  by_cases hi : i < M.length
  · rw [setA_at M hi]; split
    · rename_i h; rw [h]
    · rfl
  · unfold setA; rw [List.set_eq_of_length_le (Nat.le_of_not_lt hi)]
theorem setA_mem {M : List Mb} {i : Nat} {a : Bool} {m : Mb} (h : m ∈ setA M i a) : ∃ m' ∈ M, m.name = m'.name ∧ m.ra = m'.ra ∧ m.rc = m'.rc ∧ m.roles = m'.roles ∧ m.sub = m'.sub := by
  unfold setA at h
  by_cases hi : i < M.length
  · rcases List.mem_or_eq_of_mem_set h with h | rfl
    · exact ⟨m, h, rfl, rfl, rfl, rfl, rfl⟩
    · exact ⟨_, mem_at hi, rfl, rfl, rfl, rfl, rfl⟩
  · rw [List.set_eq_of_length_le (Nat.le_of_not_lt hi)] at h
    exact ⟨m, h, rfl, rfl, rfl, rfl, rfl⟩
theorem setA_it (M : List Mb) (i : Nat) (a : Bool) : ∀ (j : Nat) (k : Int), itN (setA M i a) j k = itN M j k
  | 0, _ => rfl
  | j + 1, k => by
    unfold itN
    split
    · rfl
    · rw [setA_sub, setA_it M i a j]
theorem setA_ok {M : List Mb} (h : OkM M) (i : Nat) (a : Bool) : OkM (setA M i a) where
  few := by rw [setA_len]; exact h.few
  nod := by rw [setA_nms]; exact h.nod
  sub := fun x hx => by rw [setA_len] at hx ⊢; rw [setA_sub]; exact h.sub x hx
  ring := fun x hx j hj => by rw [setA_len] at hx hj; rw [setA_it]; exact h.ring x hx j hj
  names := fun m hm => by obtain ⟨m', h1, h2, _⟩ := setA_mem hm; rw [h2]; exact h.names m' h1
  roles := fun m hm => by obtain ⟨m', h1, _, _, _, h2, _⟩ := setA_mem hm; rw [h2]; exact h.roles m' h1
theorem awayL_ok {M : List Mb} (h : OkM M) (k : Int) (a : Bool) : OkM (awayL M k a) := by
  unfold awayL; split
  · exact h
  · exact setA_ok h _ _
theorem awayL_nms (M : List Mb) (k : Int) (a : Bool) : nms (awayL M k a) = nms M := by
  unfold awayL; split
  · rfl
  · exact setA_nms _ _ _
theorem StI.set {w : World} {sb : Nat} {A : SA} {M : List Mb} (h : StI w sb A M) {i : Nat} (hi : i < M.length) (a : Bool) {g : Nat} (hg : A.ma = some ⟨g, 0, none⟩) : StI (w.setCell ⟨g, i * 4 + 3, none⟩ (.bool a)) sb A (setA M i a) := by
  obtain ⟨ma, mc, pb⟩ := A
  obtain rfl : ma = some ⟨g, 0, none⟩ := hg
  have hlen := setA_len M i a
  obtain ⟨B, hr⟩ := h.row
  have hrg : ∃ cur, w.heap[g]? = some (.cells cur 72 (0, 0)) := by
    rcases hr.2 with ⟨hv, _⟩ | ⟨g', cap, cur, hv, _, hh, _⟩
    · injection hv with e _ _; cases e
    · injection hv with e _ _
      injection e with e
      injection e with e
      subst e
      exact ⟨cur, hh⟩
  obtain ⟨cur, hcur⟩ := hrg
  have hne : ∀ {k : Nat} {o : Obj}, w.heap[k]? = some o → (∀ c, o ≠ .cells c 72 (0, 0)) → k ≠ g := fun hk ho e => by
    subst e; rw [hcur] at hk; injection hk with hk; exact ho _ hk.symm
  refine ⟨?_, ⟨B, ?_⟩, fun m hm => ?_, ?_⟩
  · rw [hlen]
    exact (blk_other (hne h.box (fun c e => by injection e with _ e _; exact absurd e (by decide)))).trans h.box
  · rw [hlen]
    have hst := (hr.stored (i * 4 + 3) (.bool a)).1
    rw [flat_set mbC 4 (fun _ => rfl) M i hi 3 (by omega) (.bool a) { M[i]! with away := a } (fun x hx => by
      obtain rfl : x = M[i]! := get_some hx
      rfl)] at hst
    exact hst
  · obtain ⟨m', h1, h2, h3, h4, h5, h6⟩ := setA_mem hm
    obtain ⟨B', ho⟩ := h.roles m' h1
    refine ⟨B', ?_⟩
    rw [h3, h4, h5]
    exact own_keep ho (fun q hq => blk_other (fun e => by
      subst e
      rcases ho.2 with ⟨hv, _⟩ | ⟨g', cap, cur', hv, _, hh, _⟩
      · rw [hv] at hq; cases hq
      · rw [hv] at hq
        simp only [Value.ownBlock, Option.some.injEq] at hq
        subst hq
        rw [hcur] at hh
        injection hh with hh
        injection hh with _ e _
        exact absurd e (by decide)))
  · rw [setA_plF, hlen]
    obtain ⟨D, ⟨es, c, hm, _⟩, _⟩ := h.map
    exact h.map.block (blk_other (hne hm (fun c e => by cases e)))
/-- What Away leaves: the staff, and all that isn't its members' row. -/
structure AwP (w : World) (sb : Nat) (A : SA) (M : List Mb) (w' : World) : Prop where
  st : StI w' sb A M
  size : w'.heap.size = w.heap.size
  other : ∀ k, (∀ b off, A.ma = some ⟨b, off, none⟩ → k ≠ b) → w'.heap[k]? = w.heap[k]?
  below : ∀ base, (∀ b off, A.ma = some ⟨b, off, none⟩ → base ≤ b) → Below base w w'
set_option maxRecDepth 100000 in
set_option maxHeartbeats 2000000 in
theorem away_any (w : World) (sb : Nat) (A : SA) (M : List Mb) (h : StI w sb A M) (u : ByteArray) (hu : u.size ≤ 140737488351232) (a : Bool) :
    Calls Try.prog 11 #[pt sb, .string u, .bool a] w fun e w' => e = .returned (.int .i64 (if placeL M u.toList < 0 then 10 else 0)) ∧ AwP w sb A (awayL M (placeL M u.toList) a) w' := by
  obtain ⟨ma, mc, pb⟩ := A
  have CP := Lib.hid (place_any w sb _ M h u hu)
  obtain ⟨p1, p2⟩ := place_range (M := M) u.toList
  have c0 : w.cell? ⟨sb, 0, none⟩ = some (.slice ma M.length mc) := h.c0
  have hsl := h.lt
  have HS := Lib.hid h
  clear h
  generalize placeL M u.toList = p at *
  by_cases hp : p < 0
  · rw [if_pos hp]
    have HE : Hid (awayL M p a = M) := Lib.hid (by unfold awayL; rw [if_pos hp])
    rw [HE.out]
    go_enter Try.func11, Try.ntmps11
    go_wp2_with (go_at_call 30; refine CP.out.mono ?_; rintro e w' ⟨rfl, rfl⟩)
    go_ret
    exact ⟨rfl, HS.out, rfl, fun _ _ => rfl, fun _ _ => Below.refl _ _⟩
  · rw [if_neg hp]
    obtain ⟨k, rfl⟩ : ∃ k : Nat, p = (k : Int) := ⟨p.toNat, by omega⟩
    have hk : k < M.length := by omega
    have h0 : (0 : Int) ≤ (k : Int) := Int.natCast_nonneg _
    have h1 : (k : Int) < (M.length : Int) := by omega
    have HE : Hid (awayL M (k : Int) a = setA M k a) := Lib.hid (by unfold awayL; rw [if_neg hp, Int.toNat_natCast])
    rw [HE.out]
    obtain ⟨B, hr⟩ := HS.out.row
    obtain ⟨g, cap, hv, hgB, hgl⟩ := own_head hr (by omega)
    simp only at hv
    injection hv with hv1 hv2 hv3
    subst hv1
    have hcell := hr.cellAt (k * 4 + 3) (by omega)
    have hc3 : w.cell? ⟨g, k * 4 + 3, none⟩ = some (.bool M[k]!.away) := by
      have := flat_at mbC 4 (fun _ => rfl) M k hk 3 (by omega)
      exact hcell.trans this
    have f3 := hr.frozenAt (k * 4 + 3)
    have HN := Lib.hid (HS.out.set hk a rfl)
    clear hr hcell HE
    go_enter Try.func11, Try.ntmps11
    go_wp2_with (go_at_call 30; refine CP.out.mono ?_; rintro e w' ⟨rfl, rfl⟩)
    go_ret
    refine ⟨rfl, HN.out, World.size_setCell _ _ _, fun q hq => blk_other (hq g 0 rfl), fun base hb => (Below.refl _ _).setCell (p := ⟨g, _, none⟩) (hb g 0 rfl) _⟩
end Go.Proofs.Ytahhhhacoigpmaa.SF

namespace Go.Proofs.Ytahhhhacoigpmaa
open Go.RowKit Go.Shelf
theorem name_k (s : ByteArray) (w : World) (hs : s.size ≤ 140737488351232) : Calls Try.prog 81 #[.string s] w fun e w' => e = .returned (.bool (nameL s.toList)) ∧ w = w' := by
  rw [Lib.toList_data]; exact name_any s w (by omega)
theorem nameK_kw {k : Key} (h : kws.contains k = true) : nameK k = false := by simp only [nameK, h, Bool.not_true, Bool.false_and]
theorem nameK_no {k : Key} (h : kws.contains k = false) : nameK k = nameL k := by simp only [nameK, h, Bool.not_false, Bool.true_and]
set_option maxHeartbeats 1000000 in
theorem isName_any (s : ByteArray) (w : World) (hs : s.size ≤ 140737488351232) : Calls Try.prog 61 #[.string s] w fun e w' => e = .returned (.bool (nameK s.toList)) ∧ w = w' := by
  by_cases hc : kws.contains s.toList = true
  · have HN := Lib.hid (nameK_kw hc)
    have hm : s.toList ∈ kws := by simpa using hc
    clear hc
    simp only [kws, List.mem_cons, List.not_mem_nil, or_false] at hm
    rcases hm with h | h | h | h | h | h | h | h | h | h | h | h | h | h | h | h
    all_goals
      go_enter Try.func61, Try.ntmps61
      go_wp2_with fail
      go_ret
      exact ⟨ret_bool HN.out.symm, rfl⟩
  · have HN := Lib.hid (nameK_no (by simpa using hc))
    have hm : s.toList ∉ kws := by simpa using hc
    clear hc
    simp only [kws, List.mem_cons, List.not_mem_nil, or_false, not_or] at hm
    obtain ⟨h1, h2, h3, h4, h5, h6, h7, h8, h9, h10, h11, h12, h13, h14, h15, h16⟩ := hm
    have e1 := beq_eq_false_iff_ne.2 h1
    have e2 := beq_eq_false_iff_ne.2 h2
    have e3 := beq_eq_false_iff_ne.2 h3
    have e4 := beq_eq_false_iff_ne.2 h4
    have e5 := beq_eq_false_iff_ne.2 h5
    have e6 := beq_eq_false_iff_ne.2 h6
    have e7 := beq_eq_false_iff_ne.2 h7
    have e8 := beq_eq_false_iff_ne.2 h8
    have e9 := beq_eq_false_iff_ne.2 h9
    have e10 := beq_eq_false_iff_ne.2 h10
    have e11 := beq_eq_false_iff_ne.2 h11
    have e12 := beq_eq_false_iff_ne.2 h12
    have e13 := beq_eq_false_iff_ne.2 h13
    have e14 := beq_eq_false_iff_ne.2 h14
    have e15 := beq_eq_false_iff_ne.2 h15
    have e16 := beq_eq_false_iff_ne.2 h16
    clear h1 h2 h3 h4 h5 h6 h7 h8 h9 h10 h11 h12 h13 h14 h15 h16
    go_enter Try.func61, Try.ntmps61
    go_wp2_with (go_at_call 81; refine (name_k s _ hs).mono ?_; rintro e w' ⟨rfl, rfl⟩)
    go_ret
    exact ⟨ret_bool HN.out.symm, rfl⟩
theorem ret_i64 {a b : Int} (h : a = b) : Ending.returned (.int .i64 a) = .returned (.int .i64 b) := by rw [h]
set_option maxHeartbeats 400000 in
theorem longest_any (k : Int) (w : World) : Calls Try.prog 65 #[.int .i64 k] w fun e w' => e = .returned (.int .i64 (longL k)) ∧ w = w' := by
  by_cases h1 : k = 1
  · subst h1
    go_enter Try.func65, Try.ntmps65
    go_wp2
    go_ret
    exact ⟨rfl, rfl⟩
  · by_cases h2 : k = 2
    · subst h2
      go_enter Try.func65, Try.ntmps65
      go_wp2
      go_ret
      exact ⟨rfl, rfl⟩
    · have e1 : (k == 1) = false := by simpa using h1
      have e2 : (k == 2) = false := by simpa using h2
      have HL : Hid (longL k = 0) := Lib.hid (by simp [longL, h1, h2])
      clear h1 h2
      go_enter Try.func65, Try.ntmps65
      go_wp2
      go_ret
      exact ⟨ret_i64 HL.out.symm, rfl⟩
/-- Where the first of some is of which p holds; below 0: nowhere. -/
def idxB {α : Type} (p : α → Bool) (l : List α) : Int := match l.findIdx? p with | some i => (i : Int) | none => -1
theorem idxB_hit {α : Type} [Inhabited α] {p : α → Bool} {l : List α} {k : Nat} (hk : k < l.length) (hp : p l[k]! = true) (h : ∀ j, j < k → p l[j]! = false) : idxB p l = k := by
  have : l.findIdx? p = some k := by
    rw [List.findIdx?_eq_some_iff_getElem]
    refine ⟨hk, by rw [← getElem!_pos l k hk]; exact hp, fun j hj => ?_⟩
    have := h j hj
    rw [getElem!_pos l j (by omega)] at this
    simp [this]
  simp [idxB, this]
theorem idxB_miss {α : Type} [Inhabited α] {p : α → Bool} {l : List α} (h : ∀ j, j < l.length → p l[j]! = false) : idxB p l = -1 := by
  have : l.findIdx? p = none := by
    rw [List.findIdx?_eq_none_iff]
    intro x hx
    obtain ⟨j, hj, rfl⟩ := List.getElem_of_mem hx
    rw [← getElem!_pos l j hj]; exact h j hj
  simp [idxB, this]
theorem idxB_any {α : Type} (p : α → Bool) (l : List α) : decide (0 ≤ idxB p l) = l.any p := by
  unfold idxB
  cases h : l.findIdx? p with
  | none =>
    rw [List.findIdx?_eq_none_iff] at h
    have : l.any p = false := by simpa using h
    simp [this]
  | some i =>
    obtain ⟨hi, hp, _⟩ := List.findIdx?_eq_some_iff_getElem.1 h
    have : l.any p = true := by rw [List.any_eq_true]; exact ⟨_, List.getElem_mem hi, hp⟩
    rw [this]; simp
theorem all_step {α : Type} [Inhabited α] {p : α → Bool} {l : List α} {k : Nat} (h : ∀ j, j < k → p l[j]! = false) (hk : p l[k]! = false) : ∀ j, j < k + 1 → p l[j]! = false := by
  intro j hj
  by_cases e : j = k
  · rw [e]; exact hk
  · exact h j (by omega)
theorem Row.str_at {w : World} {A : Option Addr} {l : List ByteArray} (h : Row w A (l.map Value.string)) {i : Nat} (hi : i < l.length) :
    ∃ b off, A = some ⟨b, off, none⟩ ∧ b < w.heap.size ∧ w.cell? ⟨b, off + i, none⟩ = some (.string l[i]!) := by
  obtain ⟨b, off, h1, h2, h3⟩ := h (fun e => by have := congrArg List.length e; simp at this; rw [this] at hi; simp at hi)
  refine ⟨b, off, h1, h2, h3 i _ ?_⟩
  rw [List.getElem?_map, List.getElem?_eq_getElem hi, getElem!_pos l i hi]; rfl
theorem mem_at {α : Type} [Inhabited α] {l : List α} {i : Nat} (h : i < l.length) : l[i]! ∈ l := by rw [getElem!_pos l i h]; exact List.getElem_mem h
set_option maxHeartbeats 400000 in
theorem noName_any (s : ByteArray) (w : World) (hs : s.size ≤ 140737488351232) : Calls Try.prog 83 #[.string s] w fun e w' => e = .returned (.bool (!nameK s.toList)) ∧ w = w' := by
  go_enter Try.func83, Try.ntmps83
  go_wp2_with (go_at_call 61; refine (isName_any s _ hs).mono ?_; rintro e w' ⟨rfl, rfl⟩)
  go_ret
  exact ⟨rfl, rfl⟩
set_option maxHeartbeats 1000000 in
theorem idxNames_any (A : Option Addr) (c : Nat) (l : List ByteArray) (w : World) (hr : Row w A (l.map Value.string)) (hl : l.length * 16 ≤ 140737488351232) (hs : ∀ s ∈ l, s.size ≤ 140737488351232) :
    Calls Try.prog 91 #[.slice A l.length c, .func (.func 83) #[] #[]] w fun e w' => e = .returned (.int .i64 (idxB (fun s : ByteArray => !nameK s.toList) l)) ∧ w = w' := by
  go_enter Try.func91, Try.ntmps91
  go_wp2
  go_loop [5, 8] (fun _ i => ∃ k : Nat, k ≤ l.length ∧ i = .int .i64 k ∧ Hid (∀ j, j < k → (fun s : ByteArray => !nameK s.toList) l[j]! = false)) (fun _ i => l.length - (intOf i).toNat)
  case atStart => exact ⟨0, Nat.zero_le _, rfl, fun j hj => absurd hj (Nat.not_lt_zero _)⟩
  case round =>
    obtain ⟨k, hk, rfl, HR⟩ := hrel
    by_cases hlt : k < l.length
    · obtain ⟨b, off, rfl, hb, hc⟩ := hr.str_at hlt
      have hsk := hs _ (mem_at hlt)
      have C := fun W => Lib.hid (noName_any l[k]! W hsk)
      cases hn : nameK l[k]!.toList with
      | true =>
        have HR' := Lib.hid (all_step (p := fun s : ByteArray => !nameK s.toList) HR.out (by show (!nameK l[k]!.toList) = false; rw [hn]; rfl : (fun s : ByteArray => !nameK s.toList) l[k]! = false))
        rw [hn] at C
        clear hn HR
        generalize l[k]! = x at *
        go_wp2_with (go_at_call 83; refine (C _).out.mono ?_; rintro e w' ⟨rfl, rfl⟩)
        go_round
        case rel => exact ⟨k + 1, hlt, by go_num, HR'⟩
        case measure => simp [intOf]; omega
      | false =>
        have HF := Lib.hid (idxB_hit (p := fun s : ByteArray => !nameK s.toList) hlt (by show (!nameK l[k]!.toList) = true; rw [hn]; rfl) HR.out)
        rw [hn] at C
        clear hn HR
        generalize l[k]! = x at *
        go_wp2_with (go_at_call 83; refine (C _).out.mono ?_; rintro e w' ⟨rfl, rfl⟩)
        go_ret
        exact ⟨ret_i64 HF.out.symm, rfl⟩
    · obtain rfl : k = l.length := by omega
      have HF := Lib.hid (idxB_miss (p := fun s : ByteArray => !nameK s.toList) HR.out)
      clear HR
      go_wp2_with fail
      go_ret
      exact ⟨ret_i64 HF.out.symm, rfl⟩
theorem not_any_all {l : List ByteArray} : (!(l.any fun s => !nameK s.toList)) = l.all fun s => nameK s.toList := by
  rw [Bool.eq_iff_iff]; simp
set_option maxHeartbeats 400000 in
theorem hasNoName_any (A : Option Addr) (c : Nat) (l : List ByteArray) (w : World) (hr : Row w A (l.map Value.string)) (hl : l.length * 16 ≤ 140737488351232) (hs : ∀ s ∈ l, s.size ≤ 140737488351232) :
    Calls Try.prog 82 #[.slice A l.length c, .func (.func 83) #[] #[]] w fun e w' => e = .returned (.bool (l.any fun s => !nameK s.toList)) ∧ w = w' := by
  have HA := Lib.hid (idxB_any (fun s : ByteArray => !nameK s.toList) l)
  go_enter Try.func82, Try.ntmps82
  go_wp2_with (go_at_call 91; refine (idxNames_any A c l _ hr hl hs).mono ?_; rintro e w' ⟨rfl, rfl⟩)
  go_ret
  exact ⟨ret_bool HA.out, rfl⟩
set_option maxHeartbeats 400000 in
theorem areNames_any (A : Option Addr) (c : Nat) (l : List ByteArray) (w : World) (hr : Row w A (l.map Value.string)) (hl : l.length * 16 ≤ 140737488351232) (hs : ∀ s ∈ l, s.size ≤ 140737488351232) :
    Calls Try.prog 66 #[.slice A l.length c] w fun e w' => e = .returned (.bool (l.all fun s => nameK s.toList)) ∧ w = w' := by
  go_enter Try.func66, Try.ntmps66
  go_wp2_with (go_at_call 82; refine (hasNoName_any A c l _ hr hl hs).mono ?_; rintro e w' ⟨rfl, rfl⟩)
  go_ret
  exact ⟨ret_bool not_any_all, rfl⟩
end Go.Proofs.Ytahhhhacoigpmaa

namespace Go.Proofs.Ytahhhhacoigpmaa
open Go.RowKit Go.Shelf
/-- The looker: the graph, and its four maps. -/
structure LkIn (w : World) (L : Nat) (g : Gr) (bg be br bu : Nat) : Prop where
  c0 : w.cell? ⟨L, 0, none⟩ = some (.slice g.ga g.gs.length g.gc)
  c1 : w.cell? ⟨L, 1, none⟩ = some (.slice g.ea g.es.length g.ec)
  c2 : w.cell? ⟨L, 2, none⟩ = some (.slice g.ra g.rs.length g.rc)
  c3 : w.cell? ⟨L, 3, none⟩ = some (.slice g.ua g.us.length g.uc)
  c4 : w.cell? ⟨L, 4, none⟩ = some (.map (some bg))
  c5 : w.cell? ⟨L, 5, none⟩ = some (.map (some be))
  c6 : w.cell? ⟨L, 6, none⟩ = some (.map (some br))
  c7 : w.cell? ⟨L, 7, none⟩ = some (.map (some bu))
  gm : MapFn w Try.prog 9 3 bg g.gs.length (firstOf (g.gs.map fun p => litS p.name))
  em : MapFn w Try.prog 9 3 be g.es.length (firstOf (g.es.map fun p => litS p.name))
  rm : MapFn w Try.prog 60 3 br g.rs.length (firstOf (g.rs.map fun p => rlit (rkey p)))
  um : MapFn w Try.prog 9 3 bu g.us.length (firstOf (g.us.map fun p => litS p.name))
  ing : InG w g
theorem LkIn.lt {w : World} {L : Nat} {g : Gr} {bg be br bu : Nat} (h : LkIn w L g bg be br bu) : L < w.heap.size := World.block_lt_of_cell? _ _ h.c0
theorem LkIn.below {w w' : World} {L : Nat} {g : Gr} {bg be br bu : Nat} (h : LkIn w L g bg be br bu) (hb : Below w.heap.size w w') : LkIn w' L g bg be br bu := by
  have hL := h.lt
  have hc : ∀ i : Nat, w'.cell? ⟨L, i, none⟩ = w.cell? ⟨L, i, none⟩ := fun i => hb.cell (p := ⟨L, i, none⟩) hL
  exact ⟨(hc 0).trans h.c0, (hc 1).trans h.c1, (hc 2).trans h.c2, (hc 3).trans h.c3, (hc 4).trans h.c4, (hc 5).trans h.c5, (hc 6).trans h.c6, (hc 7).trans h.c7,
    h.gm.below (Nat.le_refl _) hb, h.em.below (Nat.le_refl _) hb, h.rm.below (Nat.le_refl _) hb, h.um.below (Nat.le_refl _) hb, h.ing.below (Nat.le_refl _) hb⟩
theorem first_nm {α : Type} (nm : α → ByteArray) (l : List α) (s : ByteArray) : firstOf (l.map fun x => litS (nm x)) (litS s) = if hasB (l.map fun x => (nm x).toList) s.toList then some ((l.map fun x => (nm x).toList).idxOf s.toList) else none := by
  have h := firstOf_map (fun k : Key => Lit.string k) s.toList (l.map fun x => (nm x).toList) (fun x _ h => by injection h)
  rw [List.map_map] at h
  have e1 : (fun x => litS (nm x)) = ((fun k : Key => Lit.string k) ∘ fun x => (nm x).toList) := by
    funext x; simp only [litS, Function.comp, Lib.toList_data]
  have e2 : litS s = Lit.string s.toList := by simp only [litS, Lib.toList_data]
  rw [e1, e2]
  exact h
/-- A look-up by name: a place, and whether there is one. -/
theorem look_nm {α : Type} (nm : α → ByteArray) (l : List α) {s : ByteArray} (hs : s.size ≤ 140737488351232) :
    ∃ q : Nat, (∀ (b : Nat) (w : World), MapFn w Try.prog 9 3 b l.length (firstOf (l.map fun x => litS (nm x))) →
      (Instr.lookup 65 (.map (some b)) (.string s) true).run Try.prog w = .ok (.tuple #[.int .i64 (q : Int), .bool (hasB (l.map fun x => (nm x).toList) s.toList)]) w ∧
      (Instr.lookup 65 (.map (some b)) (.string s) false).run Try.prog w = .ok (.int .i64 (q : Int)) w) ∧ (hasB (l.map fun x => (nm x).toList) s.toList = true → q = (l.map fun x => (nm x).toList).idxOf s.toList ∧ q < l.length) ∧ q ≤ l.length := by
  refine ⟨if hasB (l.map fun x => (nm x).toList) s.toList then (l.map fun x => (nm x).toList).idxOf s.toList else 0, fun b w h => ?_, fun e => ?_, ?_⟩
  · have h1 := h.look_ok lawS Try.underlying65 Try.underlying3 (Try.zeroValue3 w) (keyS hs)
    have h2 := h.look lawS Try.underlying65 Try.underlying3 (Try.zeroValue3 w) (keyS hs)
    rw [first_nm] at h1 h2
    cases hh : hasB (l.map fun x => (nm x).toList) s.toList with
    | true => rw [hh] at h1 h2; exact ⟨h1, h2⟩
    | false => rw [hh] at h1 h2; exact ⟨h1, h2⟩
  · rw [if_pos e]
    refine ⟨rfl, ?_⟩
    have := List.idxOf_lt_length_iff.2 (List.contains_iff_mem.1 e)
    simpa using this
  · split
    · have := List.idxOf_le_length (l := l.map fun x => (nm x).toList) (a := s.toList)
      simpa using this
    · exact Nat.zero_le _
section
variable {L : Nat} {g : Gr} {bg be br bu : Nat}
set_option maxHeartbeats 400000 in
theorem isGroup_any (w : World) (h : LkIn w L g bg be br bu) (s : ByteArray) (hs : s.size ≤ 140737488351232) :
    Calls Try.prog 63 #[.pointer (some ⟨L, 0, none⟩), .string s] w fun e w' => e = .returned (.bool (hasB (gns g) s.toList)) ∧ w = w' := by
  have c4 := h.c4
  obtain ⟨q, hlk, _, _⟩ := look_nm Gp.name g.gs hs
  have h1 := (hlk _ _ h.gm).1
  clear hlk
  clear h
  go_enter Try.func63, Try.ntmps63
  go_wp2
  go_ret
  exact ⟨rfl, rfl⟩
set_option maxHeartbeats 400000 in
theorem isUser_any (w : World) (h : LkIn w L g bg be br bu) (s : ByteArray) (hs : s.size ≤ 140737488351232) :
    Calls Try.prog 68 #[.pointer (some ⟨L, 0, none⟩), .string s] w fun e w' => e = .returned (.bool (hasB (uns g) s.toList)) ∧ w = w' := by
  have c4 := h.c7
  obtain ⟨q, hlk, _, _⟩ := look_nm Us.name g.us hs
  have h1 := (hlk _ _ h.um).1
  clear hlk
  clear h
  go_enter Try.func68, Try.ntmps68
  go_wp2
  go_ret
  exact ⟨rfl, rfl⟩
set_option maxHeartbeats 400000 in
theorem isThere_any (w : World) (h : LkIn w L g bg be br bu) (s : ByteArray) (hs : s.size ≤ 140737488351232) :
    Calls Try.prog 64 #[.pointer (some ⟨L, 0, none⟩), .string s] w fun e w' => e = .returned (.bool (thereB g s.toList)) ∧ w = w' := by
  have c4 := h.c5
  obtain ⟨q, hlk, _, _⟩ := look_nm Ev.name g.es hs
  have h1 := (hlk _ _ h.em).1
  clear hlk
  have C := fun W hW => Lib.hid (isGroup_any (L := L) (g := g) (bg := bg) (be := be) (br := br) (bu := bu) W hW s hs)
  have H := Lib.hid h
  clear h
  have HT : Hid (thereB g s.toList = (hasB (ens g) s.toList || hasB (gns g) s.toList)) := rfl
  have he : hasB (g.es.map fun x => x.name.toList) s.toList = hasB (ens g) s.toList := rfl
  rw [he] at h1
  clear he
  cases hh : hasB (ens g) s.toList with
  | true =>
    rw [hh] at h1 HT
    clear hh
    go_enter Try.func64, Try.ntmps64
    go_wp2_with fail
    go_ret
    exact ⟨ret_bool HT.out.symm, rfl⟩
  | false =>
    rw [hh] at h1 HT
    clear hh
    go_enter Try.func64, Try.ntmps64
    go_wp2_with (go_at_call 63; refine (C _ H.out).out.mono ?_; rintro e w' ⟨rfl, rfl⟩)
    go_ret
    exact ⟨ret_bool HT.out.symm, rfl⟩
set_option maxHeartbeats 400000 in
theorem isGroupAhead_any (w : World) (h : LkIn w L g bg be br bu) (s : ByteArray) (hs : s.size ≤ 140737488351232) (i : Nat) :
    Calls Try.prog 62 #[.pointer (some ⟨L, 0, none⟩), .string s, .int .i64 i] w fun e w' => e = .returned (.bool (hasB (gns g) s.toList && aheadB (gns g) s.toList i)) ∧ w = w' := by
  have c4 := h.c4
  obtain ⟨q, hlk, hq, _⟩ := look_nm Gp.name g.gs hs
  have h1 := (hlk _ _ h.gm).1
  clear hlk
  have he : hasB (g.gs.map fun x => x.name.toList) s.toList = hasB (gns g) s.toList := rfl
  rw [he] at h1 hq
  clear h he
  cases hh : hasB (gns g) s.toList with
  | true =>
    rw [hh] at h1
    have HQ : Hid (decide (q < i) = aheadB (gns g) s.toList i) := Lib.hid (by rw [(hq hh).1]; rfl)
    clear hh hq
    go_enter Try.func62, Try.ntmps62
    go_wp2_with fail
    go_ret
    exact ⟨ret_bool (by rw [Bool.true_and, ← HQ.out]), rfl⟩
  | false =>
    rw [hh] at h1
    clear hh hq
    go_enter Try.func62, Try.ntmps62
    go_wp2_with fail
    go_ret
    exact ⟨rfl, rfl⟩
end
end Go.Proofs.Ytahhhhacoigpmaa

namespace Go.Proofs.Ytahhhhacoigpmaa
open Go.RowKit Go.Shelf
theorem below_draws {B : Nat} {a w : World} (h : Below B a w) (n : Nat) : Below B a (w.drewN n) := ⟨h.os, h.tape, h.output, h.size, h.block⟩
theorem quiet_left {P : Program} {f : FuncId} {args : Array Value} {w : World} {n : Nat} {v : Value}
    (h : Calls P f args (w.drewN n) fun e w' => e = .returned v ∧ w.drewN n = w') : Calls P f args (w.drewN n) fun e w'' => e = .returned v ∧ ∃ m, w'' = w.drewN m :=
  h.mono fun _ _ ⟨he, hm⟩ => ⟨he, n, hm.symm⟩
section
variable {L : Nat} {g : Gr} {bg be br bu : Nat}
theorem has_at {α : Type} [Inhabited α] (nm : α → ByteArray) {l : List α} {i : Nat} (hi : i < l.length) : hasB (l.map fun x => (nm x).toList) (nm l[i]!).toList = true := by
  simp only [hasB, List.contains_iff_mem, List.mem_map]
  exact ⟨_, mem_at hi, rfl⟩
set_option maxRecDepth 100000 in
set_option maxHeartbeats 1000000 in
theorem group_any (w : World) (h : LkIn w L g bg be br bu) (hz : SzG g) (i : Nat) (hi : i < g.gs.length) :
    Calls Try.prog 40 #[.pointer (some ⟨L, 0, none⟩), .int .i64 i] w fun e w' => e = .returned (.int .i64 (groupE g i)) ∧ Below w.heap.size w w' := by
  have hgl := hz.gs
  have c0 := h.c0
  have c4 := h.c4
  have hL := h.lt
  obtain ⟨b, off, hA, hb, hc⟩ := h.ing.gs.at_ (k := 2) (fun _ => rfl) (by omega) hi
  obtain ⟨hsn, hsp⟩ := hz.gp _ (mem_at hi)
  have k0 := hc 0 _ rfl
  rw [Nat.add_zero] at k0
  have k1 := hc 1 _ rfl
  have HE : Hid (groupE g i = if nameK g.gs[i]!.name.toList then
    if aheadB (gns g) g.gs[i]!.name.toList i then 6
    else if g.gs[i]!.parent.toList == [] then 0
    else if hasB (gns g) g.gs[i]!.parent.toList && aheadB (gns g) g.gs[i]!.parent.toList i then 0 else 10
    else 5) := Lib.hid rfl
  have hat := has_at Gp.name hi
  have hbw : Below w.heap.size w (w.alloc (.cells #[.string g.gs[i]!.name, .string g.gs[i]!.parent] 56)) := (Below.refl _ _).alloc (Nat.le_refl _) _
  obtain ⟨q, hlk, hq, _⟩ := look_nm Gp.name g.gs hsn
  have hl := fun n => (hlk _ _ (h.below (below_draws hbw n)).gm).2
  have hq' := (hq hat).1
  have HA : Hid (decide (q < i) = aheadB (gns g) g.gs[i]!.name.toList i) := Lib.hid (by rw [hq']; rfl)
  have CA := fun W hW => Lib.hid (isGroupAhead_any (L := L) (g := g) (bg := bg) (be := be) (br := br) (bu := bu) W hW g.gs[i]!.parent hsp i)
  have CN := fun W => Lib.hid (isName_any g.gs[i]!.name W hsn)
  have H := Lib.hid h
  rw [hA] at c0
  clear h hc hA hq hq' hat hlk
  generalize g.gs[i]! = p at *
  generalize gns g = ns at *
  cases hn : nameK p.name.toList with
  | false =>
    rw [hn] at CN HE
    clear hn
    go_enter Try.func40, Try.ntmps40
    go_wp2_with (go_at_call 61; refine (CN _).out.mono ?_; rintro e w' ⟨rfl, rfl⟩)
    go_ret
    exact ⟨ret_i64 (by rw [HE.out]; rfl), hbw⟩
  | true =>
    rw [hn] at CN HE
    clear hn
    by_cases hqi : q < i
    · have hd : decide (q < i) = true := by simpa using hqi
      rw [hd] at HA
      rw [← HA.out] at HE
      go_enter Try.func40, Try.ntmps40
      go_wp2_with (go_at_call 61; refine (CN _).out.mono ?_; rintro e w' ⟨rfl, rfl⟩)
      go_quiet (fail)
      go_wp2_with fail
      go_ret
      exact ⟨ret_i64 (by rw [HE.out]; rfl), below_draws hbw _⟩
    · have hd : decide (q < i) = false := by simpa using hqi
      rw [hd] at HA
      rw [← HA.out] at HE
      cases hp : (p.parent.toList == []) with
      | true =>
        rw [hp] at HE
        go_enter Try.func40, Try.ntmps40
        go_wp2_with (go_at_call 61; refine (CN _).out.mono ?_; rintro e w' ⟨rfl, rfl⟩)
        go_quiet (fail)
        go_wp2_with fail
        go_ret
        exact ⟨ret_i64 (by rw [HE.out]; rfl), below_draws hbw _⟩
      | false =>
        rw [hp] at HE
        cases ha : (hasB ns p.parent.toList && aheadB ns p.parent.toList i) with
        | true =>
          rw [ha] at CA HE
          clear ha
          go_enter Try.func40, Try.ntmps40
          go_wp2_with (go_at_call 61; refine (CN _).out.mono ?_; rintro e w' ⟨rfl, rfl⟩)
          go_quiet (fail)
          go_wp2_with (go_at_call 62; refine (CA _ (H.out.below (below_draws hbw _))).out.mono ?_; rintro e w' ⟨rfl, rfl⟩)
          go_ret
          exact ⟨ret_i64 (by rw [HE.out]; rfl), below_draws hbw _⟩
        | false =>
          rw [ha] at CA HE
          clear ha
          go_enter Try.func40, Try.ntmps40
          go_wp2_with (go_at_call 61; refine (CN _).out.mono ?_; rintro e w' ⟨rfl, rfl⟩)
          go_quiet (fail)
          go_wp2_with (go_at_call 62; refine (CA _ (H.out.below (below_draws hbw _))).out.mono ?_; rintro e w' ⟨rfl, rfl⟩)
          go_ret
          exact ⟨ret_i64 (by rw [HE.out]; rfl), below_draws hbw _⟩
end
end Go.Proofs.Ytahhhhacoigpmaa
