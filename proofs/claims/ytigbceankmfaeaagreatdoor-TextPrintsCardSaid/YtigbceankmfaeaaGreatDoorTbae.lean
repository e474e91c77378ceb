/-
  The plain model of layer 3's reader: where a statement's reading stands, and whether it has gone wrong; a part's words are read back as the part. No program. The plain model of text.Statement: what a statement's tokens are; the words of a part are read back as that part. No program. Plain facts of the model of layer 1: what an answer looks like; what stands ahead of an error; no Go, no program. Plain facts of the model of layer 1: tokens that are joined are the same again. The text of a graph that may be has the tokens of its parts again. No program. A list of tokens parted into statements; the statements of a graph's text are its parts'. No program. The plain model of Parse where nothing is wrong: the text of a graph that may be is read as that graph. No program. The plain model of Parse with its errors and their places; a place lies within the text. No program. A region that draws its order, walked once in the order of the text, over a class of worlds: its callees may make memory, so long as they stay in the class.
-/
import Derived.Test.YtigbceankmfaeaaGreatDoorTbad
import Derived.Test.YtigbceankmfaeaaGreatDoorTbaa
import Derived.Test.YtigbceankmfaeaaGreatDoorTbac
import Derived.Test.YtigbceankmfaeaaGreatDoorTbab
import Derived.BigQuiet
import Derived.Deep.Quiet
namespace Go.Proofs.YtigbceankmfaeaaGreatDoor.P3
/-- A token, but for its place: kind, text, value. -/
abbrev B3 := Nat × List UInt8 × Nat
/-- Of what sort a token is: a word that the language keeps is itself; 'n' a name, 'd' a number, ';' another. -/
def cls (t : B3) : Key := if t.1 = 2 then [100] else if t.1 = 1 then (if kws.contains t.2.1 then t.2.1 else [110]) else [59]
/-- Where the reading stands; has it gone wrong? -/
abbrev RS := Nat × Bool
def seeB (l : List B3) (x : Key) (s : RS) : Bool := !s.2 && (match l[s.1]? with | none => false | some t => cls t == x)
def mayS (l : List B3) (x : Key) (s : RS) : RS := if seeB l x s then (s.1 + 1, s.2) else s
def mustS (l : List B3) (x : Key) (s : RS) : RS := if seeB l x s then (s.1 + 1, s.2) else (s.1, true)
def takT (l : List B3) (x : Key) (s : RS) : List UInt8 := if seeB l x s then (match l[s.1]? with | none => [] | some t => t.2.1) else []
def takN (l : List B3) (x : Key) (s : RS) : Nat := if seeB l x s then (match l[s.1]? with | none => 0 | some t => t.2.2) else 0
def optS (l : List B3) (x : Key) (s : RS) : RS := if seeB l x s then mustS l [110] (mayS l x s) else s
def optV (l : List B3) (x : Key) (s : RS) : List UInt8 := if seeB l x s then takT l [110] (mayS l x s) else []
def endS (l : List B3) (s : RS) : RS := (s.1, s.2 || !(s.1 == l.length))
theorem see_at {l : List B3} {n : Nat} {t : B3} (h : l[n]? = some t) (x : Key) : seeB l x (n, false) = (cls t == x) := by simp [seeB, h]
theorem see_none {l : List B3} {n : Nat} (h : l[n]? = none) (x : Key) : seeB l x (n, false) = false := by simp [seeB, h]
def grS (l : List B3) : RS := optS l [105, 110] (mustS l [110] (1, false))
def grV (l : List B3) : List UInt8 × List UInt8 := (takT l [110] (1, false), optV l [105, 110] (mustS l [110] (1, false)))
abbrev kRole : Key := [114, 111, 108, 101]
abbrev kExc : Key := [101, 120, 99, 108, 117, 100, 101, 100]
abbrev kDone : Key := [100, 111, 110, 101]
abbrev kPend : Key := [112, 101, 110, 100, 105, 110, 103]
abbrev kDue : Key := [100, 117, 101]
def dueS (l : List B3) (s : RS) : RS := if seeB l kPend s then mayS l kPend s else if seeB l kDue s then mustS l [100] (mayS l kDue s) else s
def dueV (l : List B3) (s : RS) : Int := if seeB l kPend s then 1048576 else if seeB l kDue s then (takN l [100] (mayS l kDue s) : Nat) else -1
def ev1 (l : List B3) : RS := optS l [105, 110] (mustS l [110] (1, false))
def ev2 (l : List B3) : RS := mustS l kRole (ev1 l)
def ev3 (l : List B3) : RS := mustS l [110] (ev2 l)
def ev4 (l : List B3) : RS := mayS l kExc (ev3 l)
def ev5 (l : List B3) : RS := mayS l kDone (ev4 l)
def evS (l : List B3) : RS := dueS l (ev5 l)
structure EvV where
  name : List UInt8
  group : List UInt8
  role : List UInt8
  inn : Bool
  done : Bool
  due : Int
def evV (l : List B3) : EvV := ⟨takT l [110] (1, false), optV l [105, 110] (mustS l [110] (1, false)), takT l [110] (ev2 l), !seeB l kExc (ev3 l), seeB l kDone (ev4 l), dueV l (ev5 l)⟩
def kindV (l : List B3) (s : RS) : Int := if seeB l (kwB 1) s then 1 else if seeB l (kwB 2) s then 2 else if seeB l (kwB 3) s then 3 else if seeB l (kwB 4) s then 4 else if seeB l (kwB 5) s then 5 else 0
def kindS (l : List B3) (s : RS) : RS := if kindV l s = 0 then (s.1, true) else (s.1 + 1, s.2)
def timeS (l : List B3) (k : Int) (s : RS) : RS := if k = 1 ∨ k = 2 then mayS l [100] s else s
def timeV (l : List B3) (k : Int) (s : RS) : Int := if (k = 1 ∨ k = 2) ∧ seeB l [100] s = true then (takN l [100] s : Nat) else untB k
def rl1 (l : List B3) : RS := kindS l (0, false)
def rl2 (l : List B3) : RS := mustS l [110] (rl1 l)
def rl3 (l : List B3) : RS := mustS l [110] (rl2 l)
def rlS (l : List B3) : RS := timeS l (kindV l (0, false)) (rl3 l)
structure RlV where
  kind : Int
  src : List UInt8
  dst : List UInt8
  time : Int
def rlV (l : List B3) : RlV := ⟨kindV l (0, false), takT l [110] (rl1 l), takT l [110] (rl2 l), timeV l (kindV l (0, false)) (rl3 l)⟩
abbrev kRoles : Key := [114, 111, 108, 101, 115]
abbrev kSub : Key := [115, 117, 98]
def rolesS (l : List B3) : Nat → RS → RS × List (List UInt8)
  | 0, s => (s, [])
  | n + 1, s => if seeB l [110] s then ((rolesS l n (mayS l [110] s)).1, takT l [110] s :: (rolesS l n (mayS l [110] s)).2) else (s, [])
def us1 (l : List B3) : RS := mustS l kRoles (mustS l [110] (1, false))
def us2 (l : List B3) : RS × List (List UInt8) := rolesS l l.length (us1 l)
def usS (l : List B3) : RS := optS l kSub (us2 l).1
structure UsV where
  name : List UInt8
  roles : List (List UInt8)
  sub : List UInt8
def usV (l : List B3) : UsV := ⟨takT l [110] (1, false), (us2 l).2, optV l kSub (us2 l).1⟩
end Go.Proofs.YtigbceankmfaeaaGreatDoor.P3

namespace Go.Proofs.YtigbceankmfaeaaGreatDoor.P3
inductive PartV where
  | g (name parent : List UInt8)
  | e (v : EvV)
  | r (v : RlV)
  | u (v : UsV)
abbrev kGroup : Key := [103, 114, 111, 117, 112]
abbrev kEvent : Key := [101, 118, 101, 110, 116]
abbrev kUser : Key := [117, 115, 101, 114]
def stS (l : List B3) : RS := endS l (if seeB l kGroup (0, false) then grS l else if seeB l kEvent (0, false) then evS l else if seeB l kUser (0, false) then usS l else rlS l)
def stV (l : List B3) : PartV :=
  if seeB l kGroup (0, false) then .g (grV l).1 (grV l).2 else if seeB l kEvent (0, false) then .e (evV l) else if seeB l kUser (0, false) then .u (usV l) else .r (rlV l)
theorem kwB_in (k : Int) : kwB k ∈ kws := by unfold kwB; split <;> (try split) <;> (try split) <;> (try split) <;> decide
end Go.Proofs.YtigbceankmfaeaaGreatDoor.P3

namespace Go.Proofs.YtigbceankmfaeaaGreatDoor
/-- A token is passed over whole. -/
theorem lexS_tok {c : UInt8} {r : List UInt8} {k : Nat} {l : List Tok} {t : Tok} (hg : ¬ gapB c = true) (ht : takeL (c :: r) k = some t) (hl : l.length ≠ 5000) :
    lexS (c :: r) 0 k l = lexS ((c :: r).drop t.text.length) 0 (k + t.text.length) (l ++ [t]) := by
  obtain ⟨h1, h2⟩ := takeL_len ht
  simp only [List.length_cons] at h2
  rw [lexS, if_neg hg, ht]
  simp only [hl, if_false]
  rw [lexS_skip _ _ _ _ (by omega)]
  obtain ⟨m, hm⟩ : ∃ m, t.text.length = m + 1 := ⟨t.text.length - 1, by omega⟩
  rw [hm, List.drop_succ_cons]
  congr 1
  omega
end Go.Proofs.YtigbceankmfaeaaGreatDoor

namespace Go.Proofs.YtigbceankmfaeaaGreatDoor
theorem s59 {c : UInt8} (h : c.toNat = 59) : c = 59 := UInt8.toNat_inj.1 h
/-- What a token is, but for its place. -/
def bare (t : Tok) : Nat × List UInt8 × Nat := (t.kind, t.text, t.val)
/-- A token whose text, alone, is that token. -/
def Own (t : Tok) : Prop := (t.kind = 3 ∧ t.text = [59] ∧ t.val = 0) ∨ (t.text.all innB = true ∧ wordL t.text t.loc = some t)
theorem takeL_own {r : List UInt8} {k : Nat} {t : Tok} (h : takeL r k = some t) : Own t := by
  cases r with
  | nil => simp [takeL] at h
  | cons c r =>
    unfold takeL at h
    simp only at h
    by_cases h59 : c.toNat = 59
    · rw [if_pos h59] at h
      injection h with h; subst h
      left
      refine ⟨rfl, ?_, rfl⟩
      show [c] = [59]
      rw [s59 h59]
    · rw [if_neg h59] at h
      obtain ⟨h1, _, h3⟩ := wordL_some h
      right
      rw [h1, h3]
      exact ⟨runL_all _, h⟩
theorem lexS_own : ∀ (r : List UInt8) (n k : Nat) (l l' : List Tok), lexS r n k l = (l', 0, 0) → (∀ t ∈ l, Own t) → ∀ t ∈ l', Own t
  | [], n, k, l, l', h, ho => by simp [lexS] at h; subst h; exact ho
  | c :: r, n + 1, k, l, l', h, ho => by rw [lexS] at h; exact lexS_own r n (k + 1) l l' h ho
  | c :: r, 0, k, l, l', h, ho => by
    rw [lexS] at h
    by_cases hg : gapB c = true
    · rw [if_pos hg] at h; exact lexS_own r 0 (k + 1) l l' h ho
    · rw [if_neg hg] at h
      cases ht : takeL (c :: r) k with
      | none => rw [ht] at h; simp at h
      | some t =>
        rw [ht] at h
        simp only at h
        by_cases hl : l.length = 5000
        · rw [if_pos hl] at h; simp at h
        · rw [if_neg hl] at h
          refine lexS_own r _ (k + 1) (l ++ [t]) l' h fun x hx => ?_
          rw [List.mem_append, List.mem_singleton] at hx
          rcases hx with hx | rfl
          · exact ho x hx
          · exact takeL_own ht
theorem runL_app : ∀ (x y : List UInt8), x.all innB = true → (∀ c r, y = c :: r → innB c = false) → runL (x ++ y) = x
  | [], y, _, hy => by
    cases y with
    | nil => rfl
    | cons c r => rw [List.nil_append, runL_none c r (hy c r rfl)]
  | a :: x, y, hx, hy => by
    rw [List.all_cons, Bool.and_eq_true] at hx
    rw [List.cons_append, runL_cons a _ hx.1, runL_app x y hx.2 hy]
theorem inn_notgap {c : UInt8} (h : innB c = true) : ¬ gapB c = true := by
  intro e
  simp [innB, letB, digB, gapB] at h e
  omega
end Go.Proofs.YtigbceankmfaeaaGreatDoor

namespace Go.Proofs.YtigbceankmfaeaaGreatDoor.P3
theorem dig_facts : ∀ m : Fin 10, digB (UInt8.ofNat (48 + m.val)) = true ∧ (UInt8.ofNat (48 + m.val)).toNat - 48 = m.val ∧ letB (UInt8.ofNat (48 + m.val)) = false ∧ ((UInt8.ofNat (48 + m.val)).toNat = 48 → m.val = 0) := by decide
end Go.Proofs.YtigbceankmfaeaaGreatDoor.P3

namespace Go.Proofs.YtigbceankmfaeaaGreatDoor.P3
/-- The statements, each without its sign; what is left behind the last sign. -/
def splitT : List B3 → List B3 → List (List B3) × List B3
  | [], acc => ([], acc)
  | t :: r, acc => if t.1 = 3 then (acc :: (splitT r []).1, (splitT r []).2) else splitT r (acc ++ [t])
/-- The parting of layer 1, in these words. -/
theorem split_seg (l : List Tok) : ∀ (n k st : Nat), n = l.length - k → st ≤ k → k ≤ l.length →
    splitT ((l.drop k).map bare) (((l.take k).drop st).map bare) = ((segS (l.drop k) k st).1.map (fun s => ((l.take s.2).drop s.1).map bare), (l.drop (segS (l.drop k) k st).2).map bare)
  | 0, k, st, hn, hs, hk => by
    have e : k = l.length := by omega
    subst e
    rw [List.drop_length, List.take_length, segS]; rfl
  | n + 1, k, st, hn, hs, hk => by
    have hlt : k < l.length := by omega
    have ht : l[k]? = some l[k] := List.getElem?_eq_getElem hlt
    rw [List.drop_eq_getElem_cons hlt, List.map_cons, splitT]
    have e1 : (bare l[k]).1 = l[k].kind := rfl
    rw [e1, segS]
    by_cases h3 : l[k].kind = 3
    · have ih := split_seg l n (k + 1) (k + 1) (by omega) (Nat.le_refl _) hlt
      have e2 : ((l.take (k + 1)).drop (k + 1)).map bare = [] := by rw [List.drop_eq_nil_of_le (by rw [List.length_take]; omega)]; rfl
      rw [e2] at ih
      rw [if_pos h3, if_pos h3, ih]
      rfl
    · have ih := split_seg l n (k + 1) st (by omega) (by omega) hlt
      have e2 : ((l.take (k + 1)).drop st).map bare = ((l.take k).drop st).map bare ++ [bare l[k]] := by
        rw [List.take_succ_eq_append_getElem hlt, List.drop_append_of_le_length (by rw [List.length_take]; omega), List.map_append]; rfl
      rw [e2] at ih
      rw [if_neg h3, if_neg h3, ih]
theorem split_all (l : List Tok) : splitT (l.map bare) [] = ((segS l 0 0).1.map (fun s => ((l.take s.2).drop s.1).map bare), (l.drop (segS l 0 0).2).map bare) := by
  have := split_seg l l.length 0 0 rfl (Nat.le_refl _) (Nat.zero_le _)
  simpa using this
/-- A graph's parts, as what is read. -/
def partsV (g : Gr) : List PartV :=
  g.gs.map (fun p => .g p.name.toList p.parent.toList) ++ (g.es.map (fun v => .e ⟨v.name.toList, v.group.toList, v.role.toList, v.inn, v.done, v.due⟩) ++
    (g.rs.map (fun r => .r ⟨r.kind, r.src.toList, r.dst.toList, r.time⟩) ++ g.us.map (fun u => .u ⟨u.name.toList, u.roles.map ByteArray.toList, u.sub.toList⟩)))
end Go.Proofs.YtigbceankmfaeaaGreatDoor.P3

namespace Go.Proofs.YtigbceankmfaeaaGreatDoor.P3
def bytes (l : List UInt8) : ByteArray := ⟨l.toArray⟩
theorem bytes_of (s : ByteArray) : bytes s.toList = s := by
  unfold bytes
  rw [Lib.toList_data]
theorem bytes_list (l : List UInt8) : (bytes l).toList = l := by
  rw [Lib.toList_data, bytes]
def gsOf (vs : List PartV) : List Gp := vs.filterMap fun | .g a b => some ⟨bytes a, bytes b⟩ | _ => none
def esOf (vs : List PartV) : List Ev := vs.filterMap fun | .e v => some ⟨bytes v.name, bytes v.group, bytes v.role, v.inn, v.done, v.due⟩ | _ => none
def rsOf (vs : List PartV) : List Rl := vs.filterMap fun | .r v => some ⟨v.kind, bytes v.src, bytes v.dst, v.time⟩ | _ => none
def usOf (vs : List PartV) : List Us := vs.filterMap fun | .u v => some ⟨bytes v.name, none, 0, v.roles.map bytes, bytes v.sub⟩ | _ => none
/-- The graph of some parts; where its lists lie is left out. -/
def grOf (vs : List PartV) : Gr := ⟨gsOf vs, esOf vs, rsOf vs, usOf vs, none, 0, none, 0, none, 0, none, 0⟩
def usBare (u : Us) : Us := ⟨u.name, none, 0, u.roles, u.sub⟩
theorem fm_all {α β : Type} {f : β → Option α} {h : α → β} {l : List α} (e : ∀ x, f (h x) = some x) : (l.map h).filterMap f = l := by
  rw [List.filterMap_map]
  induction l with
  | nil => rfl
  | cons x r ih => rw [List.filterMap_cons, Function.comp, e, ih]
theorem fm_none {α β γ : Type} {f : β → Option α} {h : γ → β} {l : List γ} (e : ∀ x, f (h x) = none) : (l.map h).filterMap f = [] := by
  rw [List.filterMap_map]
  induction l with
  | nil => rfl
  | cons x r ih => rw [List.filterMap_cons, Function.comp, e, ih]
theorem gs_parts (g : Gr) : gsOf (partsV g) = g.gs := by
  unfold gsOf partsV
  rw [List.filterMap_append, List.filterMap_append, List.filterMap_append, fm_all (fun x => by simp only [bytes_of]), fm_none (fun _ => rfl), fm_none (fun _ => rfl), fm_none (fun _ => rfl)]
  simp
theorem es_parts (g : Gr) : esOf (partsV g) = g.es := by
  unfold esOf partsV
  rw [List.filterMap_append, List.filterMap_append, List.filterMap_append, fm_none (fun _ => rfl), fm_all (fun x => by simp only [bytes_of]), fm_none (fun _ => rfl), fm_none (fun _ => rfl)]
  simp
theorem rs_parts (g : Gr) : rsOf (partsV g) = g.rs := by
  unfold rsOf partsV
  rw [List.filterMap_append, List.filterMap_append, List.filterMap_append, fm_none (fun _ => rfl), fm_none (fun _ => rfl), fm_all (fun x => by simp only [bytes_of]), fm_none (fun _ => rfl)]
  simp
theorem us_parts (g : Gr) : usOf (partsV g) = g.us.map usBare := by
  unfold usOf partsV
  rw [List.filterMap_append, List.filterMap_append, List.filterMap_append, fm_none (fun _ => rfl), fm_none (fun _ => rfl), fm_none (fun _ => rfl), List.filterMap_map]
  simp only [List.nil_append]
  induction g.us with
  | nil => rfl
  | cons u r ih =>
    rw [List.filterMap_cons, List.map_cons, ih]
    simp only [Function.comp, bytes_of, List.map_map]
    congr 1
    unfold usBare
    congr 1
    exact (List.map_congr_left (g := id) fun x _ => bytes_of x).trans (List.map_id _)
theorem bare_at (l : List Us) (i : Nat) : (l.map usBare)[i]! = usBare l[i]! := by
  by_cases h : i < l.length
  · rw [getElem!_pos (l.map usBare) i (by rw [List.length_map]; exact h), getElem!_pos l i h, List.getElem_map]
  · rw [getElem!_neg (l.map usBare) i (by rw [List.length_map]; exact h), getElem!_neg l i h]; rfl
/-- Two graphs of the same parts, wherever they lie, are told the same of. -/
theorem check_same {g g' : Gr} (h1 : g'.gs = g.gs) (h2 : g'.es = g.es) (h3 : g'.rs = g.rs) (h4 : g'.us = g.us.map usBare) : checkL g' = checkL g := by
  have hu : uns g' = uns g := by unfold uns; rw [h4, List.map_map]; rfl
  have hg : gns g' = gns g := by unfold gns; rw [h1]
  have he : ens g' = ens g := by unfold ens; rw [h2]
  have hr : rks g' = rks g := by unfold rks; rw [h3]
  have hat : ∀ i, g'.us[i]! = usBare g.us[i]! := fun i => by rw [h4]; exact bare_at _ _
  have hl : g'.us.length = g.us.length := by rw [h4, List.length_map]
  have hb : ∀ i n f, backL g' i n f = backL g i n f := by
    intro i n
    induction n with
    | zero => intro f; rfl
    | succ n ih => intro f; rw [backL, backL, hat, hu]; simp only [ih]; rfl
  have e0 : limitE g' = limitE g := by
    unfold limitE
    rw [h1, h2, h3, hl, h4, List.any_map]; rfl
  have e1 : groupE g' = groupE g := by funext i; unfold groupE; rw [h1, hg]
  have e2 : eventE g' = eventE g := by funext i; unfold eventE; rw [h2, hg, he]
  have e3 : relE g' = relE g := by funext i; unfold relE thereB; rw [h3, hg, he, hr]
  have e4 : userE g' = userE g := by funext i; unfold userE; rw [hat, hu, hl, hb]; rfl
  unfold checkL
  rw [e0, e1, e2, e3, e4, h1, h2, h3, hl]
/-- What a text says, where nothing is wrong with it. -/
def sayL (ts : List B3) : Option (List PartV) :=
  if (splitT ts []).2 = [] ∧ (splitT ts []).1.all (fun l => !(stS l).2) = true then
    (if mayL (grOf ((splitT ts []).1.map stV)) then some ((splitT ts []).1.map stV) else none)
  else none
def parseOk (s : List UInt8) : Option (List PartV) := if (lexL s).2.2 = 0 then sayL ((lexL s).1.map bare) else none
end Go.Proofs.YtigbceankmfaeaaGreatDoor.P3

namespace Go.Proofs.YtigbceankmfaeaaGreatDoor.P3
/-- The first statement that is wrong: its token's number among all. -/
def firstBad : List (List B3) → Nat → Option Nat
  | [], _ => none
  | l :: r, k => if (stS l).2 then some (k + (stS l).1) else firstBad r (k + l.length + 1)
def partNo : PartV → Nat
  | .g _ _ => 1
  | .e _ => 2
  | .r _ => 3
  | .u _ => 4
/-- Of each statement: its part, and its first token's number among all. -/
def begL : List (List B3) → Nat → List (Nat × Nat)
  | [], _ => []
  | l :: r, k => (partNo (stV l), k) :: begL r (k + l.length + 1)
def locAt (l : List Tok) (k : Nat) : Nat := match l[k]? with | some t => t.loc | none => 0
def begins (ls : List (List B3)) (toks : List Tok) (part : Nat) : List Nat := ((begL ls 0).filter (fun x => x.1 == part)).map fun x => locAt toks x.2
/-- What Check says of the parts of right statements. -/
def finL (ls : List (List B3)) (toks : List Tok) (c : St) : List PartV × Nat × Nat :=
  if c.2.2 = 0 then (ls.map stV, 0, 0) else ([], (if c.1 = 0 then 0 else ((begins ls toks c.1)[c.2.1]?).getD 0), c.2.2)
def goodL (ls : List (List B3)) (toks : List Tok) : List PartV × Nat × Nat :=
  match firstBad ls 0 with
  | some k => ([], locAt toks k, 2)
  | none => finL ls toks (checkL (grOf (ls.map stV)))
/-- What Parse says of tokens: the parts, the place, the error. -/
def tellT (toks : List Tok) : List PartV × Nat × Nat :=
  if (splitT (toks.map bare) []).2 = [] then goodL (splitT (toks.map bare) []).1 toks else ([], locAt toks (segS toks 0 0).2, 2)
def parseL (s : List UInt8) : List PartV × Nat × Nat := if (lexL s).2.2 = 0 then tellT (lexL s).1 else ([], (lexL s).2.1, (lexL s).2.2)
theorem bad_none : ∀ (ls : List (List B3)) (k : Nat), firstBad ls k = none ↔ ls.all (fun l => !(stS l).2) = true
  | [], k => by simp [firstBad]
  | l :: r, k => by
    rw [firstBad, List.all_cons]
    cases h : (stS l).2 with
    | true => simp
    | false => simp only [Bool.false_eq_true, if_false, Bool.not_false, Bool.true_and]; exact bad_none r _
theorem fin_ok (ls : List (List B3)) (toks : List Tok) (c : St) (vs : List PartV) : finL ls toks c = (vs, 0, 0) ↔ c.2.2 = 0 ∧ ls.map stV = vs := by
  unfold finL
  by_cases h : c.2.2 = 0
  · rw [if_pos h]; simp [h]
  · rw [if_neg h]; simp [h]
theorem good_ok (ls : List (List B3)) (toks : List Tok) (vs : List PartV) : goodL ls toks = (vs, 0, 0) ↔ ls.all (fun l => !(stS l).2) = true ∧ mayL (grOf (ls.map stV)) = true ∧ ls.map stV = vs := by
  unfold goodL
  cases hb : firstBad ls 0 with
  | none =>
    simp only
    rw [fin_ok, (bad_none ls 0).1 hb]
    unfold mayL
    rw [decide_eq_true_eq]
    simp
  | some k =>
    have h2 : ¬ ls.all (fun l => !(stS l).2) = true := fun h => by rw [(bad_none ls 0).2 h] at hb; cases hb
    simp only
    constructor
    · intro e
      rw [Prod.mk.injEq, Prod.mk.injEq] at e
      exact absurd e.2.2 (by decide)
    · intro e; exact absurd e.1 h2
theorem say_ok (ts : List B3) (vs : List PartV) : sayL ts = some vs ↔ (splitT ts []).2 = [] ∧ (splitT ts []).1.all (fun l => !(stS l).2) = true ∧ mayL (grOf ((splitT ts []).1.map stV)) = true ∧ (splitT ts []).1.map stV = vs := by
  unfold sayL
  generalize splitT ts [] = p
  by_cases h : p.2 = [] ∧ p.1.all (fun l => !(stS l).2) = true
  · rw [if_pos h]
    generalize p.1.map stV = us
    cases hm : mayL (grOf us) with
    | true => simp [h.1, h.2]
    | false => simp
  · rw [if_neg h]
    constructor
    · intro e; cases e
    · intro e; exact absurd ⟨e.1, e.2.1⟩ h
/-- Nothing is wrong just where the parts are told. -/
theorem parse_ok {s : List UInt8} {vs : List PartV} : parseOk s = some vs ↔ parseL s = (vs, 0, 0) := by
  unfold parseOk parseL
  by_cases h : (lexL s).2.2 = 0
  · rw [if_pos h, if_pos h, say_ok]
    unfold tellT
    by_cases h1 : (splitT ((lexL s).1.map bare) []).2 = []
    · rw [if_pos h1, good_ok]
      exact ⟨fun e => e.2, fun e => ⟨h1, e⟩⟩
    · rw [if_neg h1]
      constructor
      · intro e; exact absurd e.1 h1
      · intro e
        rw [Prod.mk.injEq, Prod.mk.injEq] at e
        exact absurd e.2.2 (by decide)
  · rw [if_neg h, if_neg h]
    constructor
    · intro e; cases e
    · intro e
      rw [Prod.mk.injEq, Prod.mk.injEq] at e
      exact absurd e.2.2 h
end Go.Proofs.YtigbceankmfaeaaGreatDoor.P3

namespace Go.Proofs.YtigbceankmfaeaaGreatDoor.B
open Go.RowKit Go.Shelf
/-- A world of a class. -/
structure WIn (CC : World → Prop) where
  w : World
  h : CC w
theorem wp_region_class {P : Program} {id : Nat} {Q : Exit → Act → World → Prop} {a : Act} {w : World} {l : List Oper} (CC : World → Prop) (hm : P.follows .mixedOrders = true) (hB : Region.lexB .any l.toArray = true) (h0 : CC w.drew)
    (h : wpQuiet P l.toArray (fun w' => ∃ x : WIn CC, w' = x.w) (fun a' => ∀ w', (∃ x : WIn CC, w' = x.w) → Q .normal a' w') l a) : (Code.region id l.toArray true).wp P Q a w :=
  wp_region_quiet (C := fun w' => ∃ x : WIn CC, w' = x.w) hm hB ⟨⟨_, h0⟩, rfl⟩ (by simpa using h)
/-- A callee's contract that leaves the class as it is. -/
theorem class_call {P : Program} {f : FuncId} {args : Array Value} {CC : World → Prop} {v : Value} (hC : ∀ W W', CC W → Below W.heap.size W W' → CC W')
    (h : ∀ W, CC W → Calls P f args W fun e w' => e = .returned v ∧ Below W.heap.size W w') : ∀ x : WIn CC, Calls P f args x.w fun e w'' => e = .returned v ∧ ∃ y : WIn CC, w'' = y.w :=
  fun x => (h x.w x.h).mono fun _ _ ⟨he, hb⟩ => ⟨he, ⟨_, hC _ _ x.h hb⟩, rfl⟩
end Go.Proofs.YtigbceankmfaeaaGreatDoor.B
