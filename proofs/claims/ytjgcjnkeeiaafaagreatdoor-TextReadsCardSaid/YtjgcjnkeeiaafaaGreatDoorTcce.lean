/-
  The document's Statement, by the classes at places: the same as the reader's. No program. What a right statement says, by the classes at places, as the document takes it. No program. Contracts of the document's own ends and optional, over the classes of tokens. Contracts of the document's own hasGroup, hasEvent, hasUser, there. (made by wip/tools/gen_has.py)
-/
import Derived.Test.YtjgcjnkeeiaafaaGreatDoorTccd
import Derived.StillTailTactics
import Derived.Test.YtjgcjnkeeiaafaaGreatDoorTcbg
namespace Go.Proofs.YtjgcjnkeeiaafaaGreatDoor.P3
/-- One place on, where a class stands. -/
def dMay (l : List B3) (x : Key) (i : Nat) : Nat := if clsAt l i = x then i + 1 else i
theorem may_doc {l : List B3} {x : Key} {i : Nat} (hx : x ≠ [46]) : mayS l x (i, false) = (dMay l x i, false) := by
  unfold dMay
  split
  · rename_i h; exact may_yes hx h
  · rename_i h; exact may_no hx h
theorem dmay_le {l : List B3} {x : Key} {i : Nat} (hx : x ≠ [46]) (hi : i ≤ l.length) : dMay l x i ≤ l.length := by
  unfold dMay
  split
  · rename_i h
    exact at_lt (by rw [h]; exact hx)
  · exact hi
def dDue (l : List B3) (m : Nat) : RS :=
  if clsAt l m = kPend then dEnd l (m + 1) else if clsAt l m = kDue then (if clsAt l (m + 1) = [100] then dEnd l (m + 2) else (m + 1, true)) else dEnd l m
theorem due_doc {l : List B3} {m : Nat} (hm : m ≤ l.length) : endS l (dueS l (m, false)) = dDue l m := by
  unfold dueS dDue
  by_cases h1 : clsAt l m = kPend
  · rw [if_pos (see_yes (by decide) h1), if_pos h1, may_yes (by decide) h1]
    exact end_doc (at_lt (by rw [h1]; decide))
  · rw [see_no (by decide) h1, if_neg h1, if_neg Bool.false_ne_true]
    by_cases h2 : clsAt l m = kDue
    · rw [if_pos (see_yes (by decide) h2), if_pos h2, may_yes (by decide) h2]
      by_cases h3 : clsAt l (m + 1) = [100]
      · rw [must_yes (by decide) h3, if_pos h3]
        exact end_doc (at_lt (i := m + 1) (by rw [h3]; decide))
      · rw [must_no (by decide) h3, if_neg h3, end_bad]
    · rw [see_no (by decide) h2, if_neg h2, if_neg Bool.false_ne_true]
      exact end_doc hm
theorem due_bad (l : List B3) (n : Nat) : dueS l (n, true) = (n, true) := by simp [dueS, seeB]
/-- Behind an event's role. -/
def dE2 (l : List B3) (i : Nat) : RS := dDue l (dMay l kDone (dMay l kExc i))
/-- The document's event. -/
def dEv (l : List B3) : RS :=
  if clsAt l 1 = [110] then
    (if (dOpt l [105, 110] 2).2 = true then dOpt l [105, 110] 2 else
      if clsAt l (dOpt l [105, 110] 2).1 = kRole then (if clsAt l ((dOpt l [105, 110] 2).1 + 1) = [110] then dE2 l ((dOpt l [105, 110] 2).1 + 2) else ((dOpt l [105, 110] 2).1 + 1, true)) else ((dOpt l [105, 110] 2).1, true))
  else (1, true)
theorem ev_doc (l : List B3) : endS l (evS l) = dEv l := by
  unfold evS ev5 ev4 ev3 ev2 ev1 dEv
  by_cases h : clsAt l 1 = [110]
  · rw [must_yes (by decide) h, opt_doc (by decide), if_pos h]
    generalize dOpt l [105, 110] (1 + 1) = s
    obtain ⟨a, b⟩ := s
    cases b with
    | true => rw [must_bad, must_bad, may_bad, may_bad, due_bad, end_bad]; rfl
    | false =>
      simp only [Bool.false_eq_true, if_false]
      by_cases h1 : clsAt l a = kRole
      · rw [must_yes (by decide) h1, if_pos h1]
        by_cases h2 : clsAt l (a + 1) = [110]
        · have hl := at_lt (l := l) (i := a + 1) (by rw [h2]; decide)
          rw [must_yes (by decide) h2, if_pos h2, may_doc (by decide), may_doc (by decide), due_doc (dmay_le (by decide) (dmay_le (by decide) hl))]
          rfl
        · rw [must_no (by decide) h2, if_neg h2, may_bad, may_bad, due_bad, end_bad]
      · rw [must_no (by decide) h1, if_neg h1, must_bad, may_bad, may_bad, due_bad, end_bad]
  · rw [must_no (by decide) h, opt_bad, must_bad, must_bad, may_bad, may_bad, due_bad, end_bad, if_neg h]
/-- The document's relation, of a kind. -/
def dRl (l : List B3) (k : Int) : RS :=
  if clsAt l 1 = [110] then (if clsAt l 2 = [110] then (if (k = 1 ∨ k = 2) ∧ clsAt l 3 = [100] then dEnd l 4 else dEnd l 3) else (2, true)) else (1, true)
theorem time_bad (l : List B3) (k : Int) (n : Nat) : timeS l k (n, true) = (n, true) := by unfold timeS; split <;> simp [mayS, seeB]
theorem kind_ne {l : List B3} (h : kindV l (0, false) ≠ 0) : kindS l (0, false) = (1, false) := by unfold kindS; rw [if_neg h]
theorem kind_no {l : List B3} (h : kindV l (0, false) = 0) : kindS l (0, false) = (0, true) := by unfold kindS; rw [if_pos h]
theorem rl_doc {l : List B3} (hk : kindV l (0, false) ≠ 0) : endS l (rlS l) = dRl l (kindV l (0, false)) := by
  unfold rlS rl3 rl2 rl1 dRl
  rw [kind_ne hk]
  generalize kindV l (0, false) = k
  by_cases h : clsAt l 1 = [110]
  · rw [must_yes (by decide) h, if_pos h]
    by_cases h2 : clsAt l 2 = [110]
    · have hl := at_lt (l := l) (i := 2) (by rw [h2]; decide)
      rw [must_yes (by decide) h2, if_pos h2]
      unfold timeS
      by_cases hc : k = 1 ∨ k = 2
      · rw [if_pos hc]
        by_cases h3 : clsAt l 3 = [100]
        · rw [may_yes (by decide) h3, if_pos ⟨hc, h3⟩]
          exact end_doc (at_lt (i := 3) (by rw [h3]; decide))
        · rw [may_no (by decide) h3, if_neg (fun e => h3 e.2)]
          exact end_doc hl
      · rw [if_neg hc, if_neg (fun e => hc e.1)]
        exact end_doc hl
    · rw [must_no (by decide) h2, time_bad, end_bad, if_neg h2]
  · rw [must_no (by decide) h, must_bad, time_bad, end_bad, if_neg h]
theorem rl_none {l : List B3} (hk : kindV l (0, false) = 0) : endS l (rlS l) = (0, true) := by
  unfold rlS rl3 rl2 rl1
  rw [kind_no hk, must_bad, must_bad, time_bad, end_bad]
/-- A user's roles, one after another. -/
theorem roles_step {l : List B3} {n i : Nat} (h : clsAt l i = [110]) : rolesS l (n + 1) (i, false) = ((rolesS l n (i + 1, false)).1, takT l [110] (i, false) :: (rolesS l n (i + 1, false)).2) := by
  rw [rolesS, if_pos (see_yes (by decide) h), may_yes (by decide) h]
theorem roles_end {l : List B3} {n i : Nat} (h : clsAt l i ≠ [110]) : rolesS l n (i, false) = ((i, false), []) := by
  cases n with
  | zero => rfl
  | succ n => rw [rolesS, see_no (by decide) h]; rfl
theorem roles_at (l : List B3) : ∀ (n i : Nat), i ≤ l.length → ((rolesS l n (i, false)).1).2 = false ∧ ((rolesS l n (i, false)).1).1 ≤ l.length
  | 0, _, hi => ⟨rfl, hi⟩
  | n + 1, i, hi => by
    by_cases h : clsAt l i = [110]
    · rw [roles_step h]; exact roles_at l n (i + 1) (at_lt (by rw [h]; decide))
    · rw [roles_end h]; exact ⟨rfl, hi⟩
/-- The document's user. -/
def dUs (l : List B3) : RS :=
  if clsAt l 1 = [110] then
    (if clsAt l 2 = kRoles then
      (if (dOpt l kSub (rolesS l l.length (3, false)).1.1).2 = true then dOpt l kSub (rolesS l l.length (3, false)).1.1 else dEnd l (dOpt l kSub (rolesS l l.length (3, false)).1.1).1)
    else (2, true))
  else (1, true)
theorem roles_bad (l : List B3) (m n : Nat) : rolesS l m (n, true) = ((n, true), []) := by cases m <;> simp [rolesS, seeB]
theorem us_doc (l : List B3) : endS l (usS l) = dUs l := by
  unfold usS us2 us1 dUs
  by_cases h : clsAt l 1 = [110]
  · rw [must_yes (by decide) h, if_pos h]
    by_cases h2 : clsAt l 2 = kRoles
    · have hl := at_lt (l := l) (i := 2) (by rw [h2]; decide)
      rw [must_yes (by decide) h2, if_pos h2]
      obtain ⟨r1, r2⟩ := roles_at l l.length 3 hl
      show endS l (optS l kSub (rolesS l l.length (3, false)).1) = _
      generalize (rolesS l l.length (3, false)).1 = s at *
      obtain ⟨a, b⟩ := s
      simp only at r1 r2
      subst r1
      rw [opt_doc (by decide)]
      have hle := dopt_le (l := l) (x := kSub) (i := a) r2
      generalize dOpt l kSub a = s at *
      obtain ⟨a, b⟩ := s
      cases b with
      | true => exact end_bad l a
      | false => exact end_doc (hle rfl)
    · rw [must_no (by decide) h2, roles_bad, opt_bad, end_bad, if_neg h2]
  · rw [must_no (by decide) h, must_bad, roles_bad, opt_bad, end_bad, if_neg h]
end Go.Proofs.YtjgcjnkeeiaafaaGreatDoor.P3

namespace Go.Proofs.YtjgcjnkeeiaafaaGreatDoor.P3
def txtAt (l : List B3) (i : Nat) : List UInt8 := match l[i]? with | some t => t.2.1 | none => []
def valAt (l : List B3) (i : Nat) : Nat := match l[i]? with | some t => t.2.2 | none => 0
theorem tak_at {l : List B3} {x : Key} {i : Nat} (hx : x ≠ [46]) (h : clsAt l i = x) : takT l x (i, false) = txtAt l i := by
  rw [takT, if_pos (see_yes hx h), txtAt]
  cases l[i]? <;> rfl
theorem takN_at {l : List B3} {x : Key} {i : Nat} (hx : x ≠ [46]) (h : clsAt l i = x) : takN l x (i, false) = valAt l i := by
  rw [takN, if_pos (see_yes hx h), valAt]
  cases l[i]? <;> rfl
def dOptV (l : List B3) (x : Key) (i : Nat) : List UInt8 := if clsAt l i = x then txtAt l (i + 1) else []
theorem opt_val {l : List B3} {x : Key} {i : Nat} (hx : x ≠ [46]) (h : (dOpt l x i).2 = false) : optV l x (i, false) = dOptV l x i := by
  unfold dOptV
  by_cases h1 : clsAt l i = x
  · rw [if_pos h1]
    unfold dOpt at h
    rw [if_pos h1] at h
    by_cases h2 : clsAt l (i + 1) = [110]
    · rw [optV, if_pos (see_yes hx h1), may_yes hx h1, tak_at (by decide) h2]
    · rw [if_neg h2] at h; cases h
  · rw [if_neg h1]; exact (opt_none hx h1).2
theorem gr_val {l : List B3} (h : clsAt l 1 = [110]) (h2 : (dOpt l [105, 110] 2).2 = false) : grV l = (txtAt l 1, dOptV l [105, 110] 2) := by
  unfold grV
  rw [must_yes (by decide) h, tak_at (by decide) h, opt_val (by decide) h2]
def dDueV (l : List B3) (m : Nat) : Int := if clsAt l m = kPend then 1048576 else if clsAt l m = kDue then (valAt l (m + 1) : Nat) else -1
theorem due_val {l : List B3} {m : Nat} (h : clsAt l m = kDue → clsAt l (m + 1) = [100]) : dueV l (m, false) = dDueV l m := by
  unfold dueV dDueV
  by_cases h1 : clsAt l m = kPend
  · rw [if_pos (see_yes (by decide) h1), if_pos h1]
  · rw [see_no (by decide) h1, if_neg h1, if_neg Bool.false_ne_true]
    by_cases h2 : clsAt l m = kDue
    · rw [if_pos (see_yes (by decide) h2), if_pos h2, may_yes (by decide) h2, takN_at (by decide) (h h2)]
    · rw [see_no (by decide) h2, if_neg h2, if_neg Bool.false_ne_true]
theorem ev_val {l : List B3} {a : Nat} (h : clsAt l 1 = [110]) (h2 : dOpt l [105, 110] 2 = (a, false)) (h3 : clsAt l a = kRole) (h4 : clsAt l (a + 1) = [110])
    (h5 : clsAt l (dMay l kDone (dMay l kExc (a + 2))) = kDue → clsAt l (dMay l kDone (dMay l kExc (a + 2)) + 1) = [100]) :
    evV l = ⟨txtAt l 1, dOptV l [105, 110] 2, txtAt l (a + 1), !(clsAt l (a + 2) == kExc), clsAt l (dMay l kExc (a + 2)) == kDone, dDueV l (dMay l kDone (dMay l kExc (a + 2)))⟩ := by
  have e1 : ev1 l = (a, false) := by unfold ev1; rw [must_yes (by decide) h, opt_doc (by decide)]; exact h2
  have e2 : ev2 l = (a + 1, false) := by unfold ev2; rw [e1, must_yes (by decide) h3]
  have e3 : ev3 l = (a + 2, false) := by unfold ev3; rw [e2, must_yes (by decide) h4]
  have e4 : ev4 l = (dMay l kExc (a + 2), false) := by unfold ev4; rw [e3, may_doc (by decide)]
  have e5 : ev5 l = (dMay l kDone (dMay l kExc (a + 2)), false) := by unfold ev5; rw [e4, may_doc (by decide)]
  unfold evV
  rw [e2, e3, e4, e5, must_yes (by decide) h, tak_at (by decide) h, tak_at (by decide) h4, see_cls (by decide), see_cls (by decide), due_val h5, opt_val (by decide) (by rw [h2])]
def dTimeV (l : List B3) (k : Int) : Int := if (k = 1 ∨ k = 2) ∧ clsAt l 3 = [100] then (valAt l 3 : Nat) else untB k
theorem rl_val {l : List B3} (hk : kindV l (0, false) ≠ 0) (h1 : clsAt l 1 = [110]) (h2 : clsAt l 2 = [110]) : rlV l = ⟨kindV l (0, false), txtAt l 1, txtAt l 2, dTimeV l (kindV l (0, false))⟩ := by
  have e1 : rl1 l = (1, false) := kind_ne hk
  have e2 : rl2 l = (2, false) := by unfold rl2; rw [e1, must_yes (by decide) h1]
  have e3 : rl3 l = (3, false) := by unfold rl3; rw [e2, must_yes (by decide) h2]
  unfold rlV
  rw [e1, e2, e3, tak_at (by decide) h1, tak_at (by decide) h2]
  generalize kindV l (0, false) = k
  congr 1
  unfold timeV dTimeV
  by_cases h3 : clsAt l 3 = [100]
  · by_cases hc : k = 1 ∨ k = 2
    · rw [if_pos ⟨hc, see_yes (by decide) h3⟩, if_pos ⟨hc, h3⟩, takN_at (by decide) h3]
    · rw [if_neg (fun e => hc e.1), if_neg (fun e => hc e.1)]
  · have hs := see_no (l := l) (x := [100]) (i := 3) (by decide) h3
    rw [if_neg (fun e => Bool.false_ne_true (hs.symm.trans e.2)), if_neg (fun e => h3 e.2)]
theorem us_val {l : List B3} (h1 : clsAt l 1 = [110]) (h2 : clsAt l 2 = kRoles) (h3 : (dOpt l kSub (rolesS l l.length (3, false)).1.1).2 = false) :
    usV l = ⟨txtAt l 1, (rolesS l l.length (3, false)).2, dOptV l kSub (rolesS l l.length (3, false)).1.1⟩ := by
  have hl := at_lt (l := l) (i := 2) (by rw [h2]; decide)
  have e1 : us1 l = (3, false) := by unfold us1; rw [must_yes (by decide) h1, must_yes (by decide) h2]
  obtain ⟨r1, _⟩ := roles_at l l.length 3 hl
  unfold usV us2
  rw [e1, tak_at (by decide) h1]
  generalize rolesS l l.length (3, false) = p at *
  obtain ⟨⟨a, b⟩, rs⟩ := p
  simp only at r1 h3
  subst r1
  simp only
  rw [opt_val (by decide) h3]
end Go.Proofs.YtjgcjnkeeiaafaaGreatDoor.P3

namespace Go.Proofs.YtjgcjnkeeiaafaaGreatDoor.P3.D
open Go.RowKit Go.Shelf Go.Proofs.YtjgcjnkeeiaafaaGreatDoor Go.Proofs.YtjgcjnkeeiaafaaGreatDoor.P3 Go.Proofs.YtjgcjnkeeiaafaaGreatDoor.P3.C Go.Proofs.YtjgcjnkeeiaafaaGreatDoor.P3.L Go.Proofs.YtjgcjnkeeiaafaaGreatDoor.Lx
theorem of_list {t : ByteArray} {S : List UInt8} (h : t.data.toList = S) : t = ⟨S.toArray⟩ := by
  apply ByteArray.ext
  rw [← h]
def clV (t : B3) : Value := .string ⟨(cls t).toArray⟩
/-- The classes of tokens, and a full stop, as a row. -/
def KR (W : World) (KA : Option Addr) (L : List B3) : Prop := Row W KA (L.map clV ++ [.string ⟨#[46]⟩])
theorem KR.at_ {W : World} {KA : Option Addr} {L : List B3} (h : KR W KA L) :
    ∃ b o, KA = some ⟨b, o, none⟩ ∧ b < W.heap.size ∧ ∀ j, j ≤ L.length → ∃ s : ByteArray, W.cell? ⟨b, o + j, none⟩ = some (.string s) ∧ s.toList = clsAt L j := by
  obtain ⟨b, o, h1, h2, h3⟩ := h (by simp)
  refine ⟨b, o, h1, h2, fun j hj => ⟨⟨(clsAt L j).toArray⟩, h3 j _ ?_, by rw [Lib.toList_data]⟩⟩
  unfold clsAt
  rcases Nat.lt_or_ge j L.length with hl | hl
  · rw [List.getElem?_append_left (by rw [List.length_map]; exact hl), List.getElem?_map, List.getElem?_eq_getElem hl]
    rfl
  · obtain rfl : j = L.length := by omega
    rw [List.getElem?_append_right (by rw [List.length_map]; exact Nat.le_refl _), List.length_map, Nat.sub_self, List.getElem?_eq_none (Nat.le_refl _)]
    rfl
theorem KR.below {W W' : World} {KA : Option Addr} {L : List B3} (h : KR W KA L) (hb : Below W.heap.size W W') : KR W' KA L := Row.below h (Nat.le_refl _) hb
/-- The tokens' row: a token's cells. -/
theorem tok_at {W : World} {A : Option Addr} {T : List Tok} (h : Row W A (rowC T)) {i : Nat} (hi : i < T.length) :
    ∃ b o, A = some ⟨b, o, none⟩ ∧ b < W.heap.size ∧ ∀ j, j < T.length → W.cell? ⟨b, o + j * 4, none⟩ = some (.int .i64 (T[j]!.kind : Int)) ∧ W.cell? ⟨b, o + j * 4 + 1, none⟩ = some (.string ⟨T[j]!.text.toArray⟩) ∧ W.cell? ⟨b, o + j * 4 + 2, none⟩ = some (.int .i64 (T[j]!.val : Int)) ∧ W.cell? ⟨b, o + j * 4 + 3, none⟩ = some (.int .i64 (T[j]!.loc : Int)) := by
  obtain ⟨b, o, h1, h2, h3⟩ := h (by intro e; have := rowC_length T; rw [e, List.length_nil] at this; omega)
  refine ⟨b, o, h1, h2, fun j hj => ?_⟩
  have g := fun m u (hm : m < 4) (hu : (tokC T[j]!)[m]? = some u) => h3 (j * 4 + m) u ((flat_at tokC 4 (fun _ => rfl) T j hj m hm).trans hu)
  have g0 := g 0 _ (by decide) rfl
  have g1 := g 1 _ (by decide) rfl
  have g2 := g 2 _ (by decide) rfl
  have g3 := g 3 _ (by decide) rfl
  simp only [← Nat.add_assoc, Nat.add_zero] at g0 g1 g2 g3
  exact ⟨g0, g1, g2, g3⟩
theorem txt_at {T : List Tok} {i : Nat} (hi : i < T.length) : txtAt (T.map bare) i = T[i]!.text := by
  unfold txtAt
  rw [List.getElem?_map, List.getElem?_eq_getElem hi, getElem!_pos T i hi]
  rfl
theorem val_at {T : List Tok} {i : Nat} (hi : i < T.length) : valAt (T.map bare) i = T[i]!.val := by
  unfold valAt
  rw [List.getElem?_map, List.getElem?_eq_getElem hi, getElem!_pos T i hi]
  rfl
/-- What the document's functions hand back: below 0, or the place of what is wrong. -/
def resI (s : RS) : Int := if s.2 then (s.1 : Int) else -1
set_option maxRecDepth 100000 in
set_option maxHeartbeats 2000000 in
theorem ends_any (w : World) (KA : Option Addr) (kc : Nat) (L : List B3) (i : Nat) (hK : KR w KA L) (hi : i ≤ L.length) :
    Calls Tryz.prog 85 #[.slice KA (L.length + 1) kc, .int .i64 (i : Int)] w fun e w' => e = .returned (.int .i64 (resI (dEnd L i))) ∧ w = w' := by
  obtain ⟨b, o, rfl, hb, hc⟩ := hK.at_
  obtain ⟨s, hs, he⟩ := hc i hi
  have h0 : (0 : Int) ≤ (i : Int) := Int.natCast_nonneg _
  have h1 : (i : Int) < ((L.length + 1 : Nat) : Int) := by omega
  have HE : Hid ((clsAt L i = [46] → dEnd L i = (i, false)) ∧ (clsAt L i ≠ [46] → dEnd L i = (i, true))) := Lib.hid ⟨fun h => by unfold dEnd; rw [if_pos h], fun h => by unfold dEnd; rw [if_neg h]⟩
  cases hq : (s.toList == [46]) with
  | true =>
    have HF := Lib.hid (HE.out.1 (he.symm.trans (eq_of_beq hq)))
    clear he HE hc hK
    go_enter Tryz.func85, Tryz.ntmps85
    go_wp2_with fail
    go_ret
    exact ⟨by rw [HF.out]; rfl, rfl⟩
  | false =>
    have HF := Lib.hid (HE.out.2 (fun h => by rw [he, h] at hq; exact absurd hq (by decide)))
    clear he HE hc hK
    go_enter Tryz.func85, Tryz.ntmps85
    go_wp2_with fail
    go_ret
    exact ⟨by rw [HF.out]; rfl, rfl⟩
/-- What the document's optional hands back. -/
def OpP (L : List B3) (x : Key) (i : Nat) (w : World) (e : Ending) (w' : World) : Prop :=
  ∃ s : ByteArray, e = .returned (.tuple #[.string s, .int .i64 ((dOpt L x i).1 : Int), .bool (!(dOpt L x i).2)]) ∧ ((dOpt L x i).2 = false → s.data.toList = dOptV L x i) ∧ w = w'
set_option maxRecDepth 100000 in
set_option maxHeartbeats 2000000 in
theorem optional_any (w : World) (A : Option Addr) (c : Nat) (T : List Tok) (KA : Option Addr) (kc : Nat) (i : Nat) (x : ByteArray) (hR : Row w A (rowC T)) (hK : KR w KA (T.map bare)) (hi : i ≤ T.length) (hx : x.toList ≠ [46]) (hl : T.length ≤ 1000000) :
    Calls Tryz.prog 84 #[.slice A T.length c, .slice KA (T.length + 1) kc, .int .i64 (i : Int), .string x] w (OpP (T.map bare) x.toList i w) := by
  have hlen : (T.map bare).length = T.length := List.length_map ..
  obtain ⟨b, o, rfl, hb, hc⟩ := hK.at_
  obtain ⟨s, hs, he⟩ := hc i (by rw [hlen]; exact hi)
  have h0 : (0 : Int) ≤ (i : Int) := Int.natCast_nonneg _
  have h1 : (i : Int) < ((T.length + 1 : Nat) : Int) := by omega
  cases hq : (s.toList == x.toList) with
  | false =>
    have hne : clsAt (T.map bare) i ≠ x.toList := fun h => by rw [he, h, beq_self_eq_true] at hq; cases hq
    have HF : Hid (dOpt (T.map bare) x.toList i = (i, false) ∧ dOptV (T.map bare) x.toList i = []) := Lib.hid ⟨by unfold dOpt; rw [if_neg hne], by unfold dOptV; rw [if_neg hne]⟩
    unfold OpP
    rw [HF.out.1, HF.out.2]
    clear he hc hK hne hR
    go_enter Tryz.func84, Tryz.ntmps84
    go_wp2_with fail
    go_ret3
    exact ⟨_, rfl, fun _ => rfl, rfl⟩
  | true =>
    have heq : clsAt (T.map bare) i = x.toList := he.symm.trans (eq_of_beq hq)
    have hlt : i < T.length := by rw [← hlen]; exact at_lt (by rw [heq]; exact hx)
    obtain ⟨s2, hs2, he2⟩ := hc (i + 1) (by rw [hlen]; omega)
    have h2 : ((i + 1 : Nat) : Int) < ((T.length + 1 : Nat) : Int) := by omega
    have hI : (i : Int) ≤ 1000000 := by omega
    cases hq2 : (s2.toList == [110]) with
    | false =>
      have hne : clsAt (T.map bare) (i + 1) ≠ [110] := fun h => by rw [he2, h] at hq2; exact absurd hq2 (by decide)
      have HF : Hid (dOpt (T.map bare) x.toList i = (i + 1, true)) := Lib.hid (by unfold dOpt; rw [if_pos heq, if_neg hne])
      unfold OpP
      rw [HF.out]
      clear he he2 hc hK hne hR heq
      go_enter Tryz.func84, Tryz.ntmps84
      go_wp2_with fail
      go_ret3
      exact ⟨_, rfl, (fun h => by cases h), rfl⟩
    | true =>
      have heq2 : clsAt (T.map bare) (i + 1) = [110] := he2.symm.trans (eq_of_beq hq2)
      have hlt2 : i + 1 < T.length := by rw [← hlen]; exact at_lt (by rw [heq2]; decide)
      have HF : Hid (dOpt (T.map bare) x.toList i = (i + 2, false)) := Lib.hid (by unfold dOpt; rw [if_pos heq, if_pos heq2])
      have HV : Hid (dOptV (T.map bare) x.toList i = T[i + 1]!.text) := Lib.hid (by unfold dOptV; rw [if_pos heq, txt_at hlt2])
      obtain ⟨tb, to_, rfl, htb, htc⟩ := tok_at hR hlt2
      obtain ⟨_, q1, _, _⟩ := htc (i + 1) hlt2
      have h3 : ((i + 1 : Nat) : Int) < (T.length : Int) := by omega
      unfold OpP
      rw [HF.out]
      clear he he2 hc hK hR heq heq2 htc
      generalize T[i + 1]!.text = tx at *
      go_enter Tryz.func84, Tryz.ntmps84
      go_wp2_with fail
      go_ret3
      exact ⟨_, rfl, (fun _ => HV.out.symm), rfl⟩
end Go.Proofs.YtjgcjnkeeiaafaaGreatDoor.P3.D

namespace Go.Proofs.YtjgcjnkeeiaafaaGreatDoor
open Go.RowKit Go.Shelf
section
variable {α : Type} [Inhabited α] (nm : α → ByteArray)
theorem idx_le (s : ByteArray) : ∀ (l : List α) (k : Nat), k < l.length → ((nm l[k]!).toList == s.toList) = true → (l.map fun x => (nm x).toList).idxOf s.toList ≤ k
  | [], _, h, _ => by simp at h
  | a :: r, 0, _, h => by
    rw [List.map_cons, List.idxOf_cons]
    have h' : ((nm a).toList == s.toList) = true := h
    rw [h']; exact Nat.le_refl _
  | a :: r, k + 1, hk, h => by
    have ih := idx_le s r k (by simpa using hk) h
    rw [List.map_cons, List.idxOf_cons]
    cases ((nm a).toList == s.toList) with
    | true => exact Nat.zero_le _
    | false => exact Nat.succ_le_succ ih
theorem le_idx (s : ByteArray) : ∀ (l : List α) (n : Nat), n ≤ l.length → (∀ j, j < n → ((nm l[j]!).toList == s.toList) = false) → n ≤ (l.map fun x => (nm x).toList).idxOf s.toList
  | _, 0, _, _ => Nat.zero_le _
  | [], n + 1, h, _ => by simp at h
  | a :: r, n + 1, hn, h => by
    have ih := le_idx s r n (by simpa using hn) (fun j hj => h (j + 1) (by omega))
    have h' : ((nm a).toList == s.toList) = false := h 0 (by omega)
    rw [List.map_cons, List.idxOf_cons, h']
    exact Nat.succ_le_succ ih
theorem ahead_hit {s : ByteArray} {l : List α} {k n : Nat} (hk : k < n) (hl : k < l.length) (h : ((nm l[k]!).toList == s.toList) = true) : aheadB (l.map fun x => (nm x).toList) s.toList n = true := by
  have := idx_le nm s l k hl h
  unfold aheadB; rw [decide_eq_true_eq]; omega
theorem ahead_miss {s : ByteArray} {l : List α} {n : Nat} (hn : n ≤ l.length) (h : ∀ j, j < n → ((nm l[j]!).toList == s.toList) = false) : aheadB (l.map fun x => (nm x).toList) s.toList n = false := by
  have := le_idx nm s l n hn h
  unfold aheadB; rw [decide_eq_false_iff_not]; omega
theorem at_hit {s : ByteArray} {l : List α} {k : Nat} (hl : k < l.length) (h : ((nm l[k]!).toList == s.toList) = true) (hm : ∀ j, j < k → ((nm l[j]!).toList == s.toList) = false) : (l.map fun x => (nm x).toList).idxOf s.toList = k := by
  have h1 := idx_le nm s l k hl h
  have h2 := le_idx nm s l k (by omega) hm
  omega
theorem no_more {s : ByteArray} {l : List α} {k : Nat} (h : ∀ j, j < k → ((nm l[j]!).toList == s.toList) = false) (hk : ((nm l[k]!).toList == s.toList) = false) : ∀ j, j < k + 1 → ((nm l[j]!).toList == s.toList) = false := by
  intro j hj
  rcases Nat.lt_or_ge j k with h1 | h1
  · exact h j h1
  · obtain rfl : j = k := by omega
    exact hk
omit [Inhabited α] in
theorem ahead_all {s : ByteArray} {l : List α} : aheadB (l.map fun x => (nm x).toList) s.toList l.length = hasB (l.map fun x => (nm x).toList) s.toList := by
  rw [Bool.eq_iff_iff]
  unfold aheadB hasB
  rw [decide_eq_true_eq, List.contains_iff_mem, ← List.idxOf_lt_length_iff, List.length_map]
end
theorem box_was {w w1 : World} {g : Gr} (hb : Below (w.heap.size + 1) (boxW w g) w1) : Below w.heap.size w w1 :=
  (box_below w g).trans (hb.mono (by omega))
set_option maxRecDepth 100000 in
set_option maxHeartbeats 1000000 in
theorem hasGroup_any (w : World) (g : Gr) (s : ByteArray) (n : Nat) (hI : InG w g) (hz : g.gs.length * 32 ≤ 140737488351232) (hn : n ≤ g.gs.length) :
    Calls Tryz.prog 88 #[.agg #[.slice g.ga g.gs.length g.gc, .slice g.ea g.es.length g.ec, .slice g.ra g.rs.length g.rc, .slice g.ua g.us.length g.uc], .string s, .int .i64 n] w fun e w' => e = .returned (.bool (aheadB (gns g) s.toList n)) ∧ Below w.heap.size w w' := by
  have HI := Lib.hid hI.gs
  clear hI
  go_enter Tryz.func88, Tryz.ntmps88
  go_wp2_with fail
  go_loopw [7] (fun i wr => ∃ k : Nat, k ≤ n ∧ i = .int .i64 k ∧ Hid (∀ j, j < k → ((Gp.name g.gs[j]!).toList == s.toList) = false) ∧ Below (w.heap.size + 1) (boxW w g) wr) (fun i _ => n - (intOf i).toNat)
  case atStart => exact ⟨0, Nat.zero_le _, rfl, Lib.hid (fun j hj => absurd hj (Nat.not_lt_zero _)), by rw [← box_size w g]; exact Below.refl _ _⟩
  case round =>
    obtain ⟨k, hk, rfl, HR, hB⟩ := hrel
    obtain ⟨a0, a1, a2, a3⟩ := box_cells hB
    by_cases hlt : k < n
    · have hll : k < g.gs.length := by omega
      obtain ⟨b, off, hA, hb, hc⟩ := HI.out.at_ (k := 2) (fun _ => rfl) (by omega) hll
      have k0 := hc 0 _ rfl
      rw [Nat.add_zero] at k0
      have k1 := hc 1 _ rfl
      rw [← (box_was hB).cell (p := ⟨b, _, none⟩) hb] at k0 k1
      rw [hA] at a0
      have hk0 : (0 : Int) ≤ (k : Int) := Int.natCast_nonneg _
      have hk1 : (k : Int) < (g.gs.length : Int) := by omega
      have hk2 : (k : Int) < (n : Int) := by omega
      clear hc hA
      cases hq : ((Gp.name g.gs[k]!).toList == s.toList) with
      | true =>
        have HF := Lib.hid (ahead_hit Gp.name hlt hll hq)
        clear HR
        generalize g.gs[k]! = p at *
        go_wp2_with fail
        go_ret
        exact ⟨ret_bool HF.out.symm, box_was hB⟩
      | false =>
        have HR' := Lib.hid (no_more Gp.name HR.out hq)
        clear HR
        generalize g.gs[k]! = p at *
        go_wp2_with fail
        go_roundw
        case rel => exact ⟨k + 1, hlt, by go_num, HR', hB⟩
        case measure => simp [intOf]; omega
    · obtain rfl : k = n := by omega
      have HF := Lib.hid (ahead_miss Gp.name hn HR.out)
      have hk2 : ¬ (k : Int) < (k : Int) := by omega
      clear HR
      go_wp2_with fail
      go_ret
      exact ⟨ret_bool HF.out.symm, box_was hB⟩
set_option maxRecDepth 100000 in
set_option maxHeartbeats 1000000 in
theorem hasEvent_any (w : World) (g : Gr) (s : ByteArray) (n : Nat) (hI : InG w g) (hz : g.es.length * 64 ≤ 140737488351232) (hn : n ≤ g.es.length) :
    Calls Tryz.prog 89 #[.agg #[.slice g.ga g.gs.length g.gc, .slice g.ea g.es.length g.ec, .slice g.ra g.rs.length g.rc, .slice g.ua g.us.length g.uc], .string s, .int .i64 n] w fun e w' => e = .returned (.bool (aheadB (ens g) s.toList n)) ∧ Below w.heap.size w w' := by
  have HI := Lib.hid hI.es
  clear hI
  go_enter Tryz.func89, Tryz.ntmps89
  go_wp2_with fail
  go_loopw [7] (fun i wr => ∃ k : Nat, k ≤ n ∧ i = .int .i64 k ∧ Hid (∀ j, j < k → ((Ev.name g.es[j]!).toList == s.toList) = false) ∧ Below (w.heap.size + 1) (boxW w g) wr) (fun i _ => n - (intOf i).toNat)
  case atStart => exact ⟨0, Nat.zero_le _, rfl, Lib.hid (fun j hj => absurd hj (Nat.not_lt_zero _)), by rw [← box_size w g]; exact Below.refl _ _⟩
  case round =>
    obtain ⟨k, hk, rfl, HR, hB⟩ := hrel
    obtain ⟨a0, a1, a2, a3⟩ := box_cells hB
    by_cases hlt : k < n
    · have hll : k < g.es.length := by omega
      obtain ⟨b, off, hA, hb, hc⟩ := HI.out.at_ (k := 6) (fun _ => rfl) (by omega) hll
      have k0 := hc 0 _ rfl
      rw [Nat.add_zero] at k0
      have k1 := hc 1 _ rfl
      have k2 := hc 2 _ rfl
      have k3 := hc 3 _ rfl
      have k4 := hc 4 _ rfl
      have k5 := hc 5 _ rfl
      rw [← (box_was hB).cell (p := ⟨b, _, none⟩) hb] at k0 k1 k2 k3 k4 k5
      rw [hA] at a1
      have hk0 : (0 : Int) ≤ (k : Int) := Int.natCast_nonneg _
      have hk1 : (k : Int) < (g.es.length : Int) := by omega
      have hk2 : (k : Int) < (n : Int) := by omega
      clear hc hA
      cases hq : ((Ev.name g.es[k]!).toList == s.toList) with
      | true =>
        have HF := Lib.hid (ahead_hit Ev.name hlt hll hq)
        clear HR
        generalize g.es[k]! = p at *
        go_wp2_with fail
        go_ret
        exact ⟨ret_bool HF.out.symm, box_was hB⟩
      | false =>
        have HR' := Lib.hid (no_more Ev.name HR.out hq)
        clear HR
        generalize g.es[k]! = p at *
        go_wp2_with fail
        go_roundw
        case rel => exact ⟨k + 1, hlt, by go_num, HR', hB⟩
        case measure => simp [intOf]; omega
    · obtain rfl : k = n := by omega
      have HF := Lib.hid (ahead_miss Ev.name hn HR.out)
      have hk2 : ¬ (k : Int) < (k : Int) := by omega
      clear HR
      go_wp2_with fail
      go_ret
      exact ⟨ret_bool HF.out.symm, box_was hB⟩
/-- The first user of a name, among some. -/
def userAt (g : Gr) (s : List UInt8) (n : Nat) : Int := if aheadB (uns g) s n then ((uns g).idxOf s : Int) else -1
theorem user_hit {g : Gr} {s : ByteArray} {k n : Nat} (hk : k < n) (hl : k < g.us.length) (h : ((Us.name g.us[k]!).toList == s.toList) = true) (hm : ∀ j, j < k → ((Us.name g.us[j]!).toList == s.toList) = false) : userAt g s.toList n = k := by
  unfold userAt
  rw [if_pos (show aheadB (uns g) s.toList n = true from ahead_hit Us.name hk hl h)]
  exact congrArg _ (at_hit Us.name hl h hm)
theorem user_miss {g : Gr} {s : ByteArray} {n : Nat} (h : aheadB (uns g) s.toList n = false) : userAt g s.toList n = -1 := by
  unfold userAt; rw [h]; rfl
set_option maxRecDepth 100000 in
set_option maxHeartbeats 1000000 in
theorem hasUser_any (w : World) (g : Gr) (s : ByteArray) (n : Nat) (hI : InG w g) (hz : g.us.length * 56 ≤ 140737488351232) (hn : n ≤ g.us.length) :
    Calls Tryz.prog 91 #[.agg #[.slice g.ga g.gs.length g.gc, .slice g.ea g.es.length g.ec, .slice g.ra g.rs.length g.rc, .slice g.ua g.us.length g.uc], .string s, .int .i64 n] w fun e w' => e = .returned (.int .i64 (userAt g s.toList n)) ∧ Below w.heap.size w w' := by
  have HI := Lib.hid hI.us
  clear hI
  go_enter Tryz.func91, Tryz.ntmps91
  go_wp2_with fail
  go_loopw [7] (fun i wr => ∃ k : Nat, k ≤ n ∧ i = .int .i64 k ∧ Hid (∀ j, j < k → ((Us.name g.us[j]!).toList == s.toList) = false) ∧ Below (w.heap.size + 1) (boxW w g) wr) (fun i _ => n - (intOf i).toNat)
  case atStart => exact ⟨0, Nat.zero_le _, rfl, Lib.hid (fun j hj => absurd hj (Nat.not_lt_zero _)), by rw [← box_size w g]; exact Below.refl _ _⟩
  case round =>
    obtain ⟨k, hk, rfl, HR, hB⟩ := hrel
    obtain ⟨a0, a1, a2, a3⟩ := box_cells hB
    by_cases hlt : k < n
    · have hll : k < g.us.length := by omega
      obtain ⟨b, off, hA, hb, hc⟩ := HI.out.at_ (k := 3) (fun _ => rfl) (by omega) hll
      have k0 := hc 0 _ rfl
      rw [Nat.add_zero] at k0
      have k1 := hc 1 _ rfl
      have k2 := hc 2 _ rfl
      rw [← (box_was hB).cell (p := ⟨b, _, none⟩) hb] at k0 k1 k2
      rw [hA] at a3
      have hk0 : (0 : Int) ≤ (k : Int) := Int.natCast_nonneg _
      have hk1 : (k : Int) < (g.us.length : Int) := by omega
      have hk2 : (k : Int) < (n : Int) := by omega
      clear hc hA
      cases hq : ((Us.name g.us[k]!).toList == s.toList) with
      | true =>
        have HF := Lib.hid (user_hit hlt hll hq HR.out)
        clear HR
        generalize g.us[k]! = p at *
        go_wp2_with fail
        go_ret
        exact ⟨ret_i64 HF.out.symm, box_was hB⟩
      | false =>
        have HR' := Lib.hid (no_more Us.name HR.out hq)
        clear HR
        generalize g.us[k]! = p at *
        go_wp2_with fail
        go_roundw
        case rel => exact ⟨k + 1, hlt, by go_num, HR', hB⟩
        case measure => simp [intOf]; omega
    · obtain rfl : k = n := by omega
      have HF := Lib.hid (ahead_miss Us.name hn HR.out)
      have hk2 : ¬ (k : Int) < (k : Int) := by omega
      clear HR
      go_wp2_with fail
      go_ret
      exact ⟨ret_i64 (user_miss HF.out).symm, box_was hB⟩
end Go.Proofs.YtjgcjnkeeiaafaaGreatDoor
