/-
  How long the text of a graph that may be is: its tokens, its words, its bytes. The plain model of layer 3's reader: where a statement's reading stands, and whether it has gone wrong; a part's words are read back as the part. No program. The plain model of text.Statement: what a statement's tokens are; the words of a part are read back as that part. No program.
-/
import Derived.Test.YtigbceankmfaeaaGreatDoorTaac
namespace Go.Proofs.YtigbceankmfaeaaGreatDoor.P3
theorem flat_le {α β : Type} {f : α → List β} {m : Nat} : ∀ (l : List α), (∀ x ∈ l, (f x).length ≤ m) → (l.flatMap f).length ≤ l.length * m
  | [], _ => by simp
  | x :: r, h => by
    have h1 := h x (List.mem_cons_self ..)
    have h2 := flat_le r (fun y hy => h y (List.mem_cons_of_mem _ hy))
    rw [List.flatMap_cons, List.length_append, List.length_cons, Nat.succ_mul]; omega
theorem lineT_len (ws : List (List UInt8)) : (lineT ws).length = ws.length + 1 := by simp [lineT]
theorem optB_len (l : List (List UInt8)) (a b : List UInt8) : (optB l a b).length ≤ l.length + 2 := by unfold optB; split <;> simp
theorem gpW_len (p : Gp) : (gpW p).length ≤ 4 := by have := optB_len [[103, 114, 111, 117, 112], p.name.toList] [105, 110] p.parent.toList; exact this
theorem dueW_len (d : Int) : (dueW d).length ≤ 2 := by unfold dueW; split <;> (try split) <;> simp
theorem evW_len (v : Ev) : (evW v).length ≤ 10 := by
  have h1 := optB_len [[101, 118, 101, 110, 116], v.name.toList] [105, 110] v.group.toList
  have h2 := dueW_len v.due
  unfold evW
  simp only [List.length_append, List.length_cons, List.length_nil] at h1 ⊢
  have h3 : (if v.inn then [] else [[101, 120, 99, 108, 117, 100, 101, 100]] : List (List UInt8)).length ≤ 1 := by split <;> simp
  have h4 : (if v.done then [[100, 111, 110, 101]] else [] : List (List UInt8)).length ≤ 1 := by split <;> simp
  omega
theorem rlW_len (r : Rl) : (rlW r).length ≤ 4 := by unfold rlW; rw [List.length_append]; split <;> simp
theorem usW_len {u : Us} (h : u.roles.length ≤ 8) : (usW u).length ≤ 13 := by
  have h1 := optB_len ([[117, 115, 101, 114], u.name.toList, [114, 111, 108, 101, 115]] ++ u.roles.map ByteArray.toList) [115, 117, 98] u.sub.toList
  unfold usW
  rw [List.length_append, List.length_map] at h1
  simp only [List.length_cons, List.length_nil] at h1
  omega
theorem MayOk.toks {g : Gr} (h : MayOk g) : (printT g).length ≤ 3140 := by
  unfold printT linesW
  rw [List.flatMap_append, List.flatMap_append, List.flatMap_append, List.length_append, List.length_append, List.length_append, List.flatMap_map, List.flatMap_map, List.flatMap_map, List.flatMap_map]
  have h1 := flat_le (m := 5) g.gs (f := fun p => lineT (gpW p)) (fun p _ => by rw [lineT_len]; have := gpW_len p; omega)
  have h2 := flat_le (m := 11) g.es (f := fun p => lineT (evW p)) (fun p _ => by rw [lineT_len]; have := evW_len p; omega)
  have h3 := flat_le (m := 5) g.rs (f := fun p => lineT (rlW p)) (fun p _ => by rw [lineT_len]; have := rlW_len p; omega)
  have h4 := flat_le (m := 14) g.us (f := fun p => lineT (usW p)) (fun p hp => by rw [lineT_len]; have := usW_len (h.us p hp).2.2.2; omega)
  have := h.ngs; have := h.nes; have := h.nrs; have := h.nus
  omega
theorem digL_len : ∀ (k n : Nat), n < 10 ^ (k + 1) → (digL n).length ≤ k + 1
  | 0, n, h => by rw [digL, dif_pos (by simpa using h)]; simp
  | k + 1, n, h => by
    rw [digL]
    split
    · simp
    · have := digL_len k (n / 10) (by rw [Nat.pow_succ] at h; omega)
      rw [List.length_append, List.length_singleton]; omega
theorem name_len {s : List UInt8} (h : nameL s = true) : s.length ≤ 20 := by
  obtain ⟨c, r, rfl, h1, _⟩ := nameL_cons h
  rw [List.length_cons]; omega
theorem opt_all {q : List UInt8 → Prop} {l : List (List UInt8)} {word name : List UInt8} (hl : ∀ x ∈ l, q x) (hw : q word) (hn : name = [] ∨ q name) : ∀ x ∈ optB l word name, q x := by
  intro x hx
  unfold optB at hx
  split at hx
  · exact hl x hx
  · rename_i h
    rcases List.mem_append.1 hx with h1 | h1
    · exact hl x h1
    · rcases List.mem_cons.1 h1 with rfl | h1
      · exact hw
      · rw [List.mem_singleton.1 h1]
        exact hn.elim (fun e => absurd e h) id
/-- What holds of each word that the language keeps, of each name and of each number, holds of each word of a text. -/
theorem MayOk.words {g : Gr} (h : MayOk g) {q : List UInt8 → Prop} (hk : ∀ s ∈ kws, q s) (hn : ∀ s, nameK s = true → q s) (hd : ∀ n : Nat, n ≤ 1048576 → q (digL n)) : ∀ l ∈ linesW g, ∀ x ∈ l, q x := by
  intro l hl
  unfold linesW at hl
  rcases List.mem_append.1 hl with hl | hl
  · obtain ⟨p, hp, rfl⟩ := List.mem_map.1 hl
    obtain ⟨h1, h2⟩ := h.gs p hp
    refine opt_all (fun x hx => ?_) (hk _ (by decide)) (h2.imp id (hn _))
    simp only [List.mem_cons, List.not_mem_nil, or_false] at hx
    rcases hx with rfl | rfl
    · exact hk _ (by decide)
    · exact hn _ h1
  rcases List.mem_append.1 hl with hl | hl
  · obtain ⟨v, hv, rfl⟩ := List.mem_map.1 hl
    obtain ⟨h1, h2, h3, h4, h5⟩ := h.es v hv
    intro x hx
    unfold evW at hx
    simp only [List.mem_append] at hx
    rcases hx with (((hx | hx) | hx) | hx) | hx
    · refine opt_all (fun x hx => ?_) (hk _ (by decide)) (h3.imp id (hn _)) x hx
      simp only [List.mem_cons, List.not_mem_nil, or_false] at hx
      rcases hx with rfl | rfl
      · exact hk _ (by decide)
      · exact hn _ h1
    · simp only [List.mem_cons, List.not_mem_nil, or_false] at hx
      rcases hx with rfl | rfl
      · exact hk _ (by decide)
      · exact hn _ h2
    · split at hx
      · cases hx
      · rw [List.mem_singleton.1 hx]; exact hk _ (by decide)
    · split at hx
      · rw [List.mem_singleton.1 hx]; exact hk _ (by decide)
      · cases hx
    · unfold dueW at hx
      split at hx
      · cases hx
      · split at hx
        · rw [List.mem_singleton.1 hx]; exact hk _ (by decide)
        · simp only [List.mem_cons, List.not_mem_nil, or_false] at hx
          rcases hx with rfl | rfl
          · exact hk _ (by decide)
          · exact hd _ (by omega)
  rcases List.mem_append.1 hl with hl | hl
  · obtain ⟨r, hr, rfl⟩ := List.mem_map.1 hl
    obtain ⟨k1, k2, h1, h2, t1, t2⟩ := h.rs r hr
    intro x hx
    unfold rlW at hx
    rcases List.mem_append.1 hx with hx | hx
    · simp only [List.mem_cons, List.not_mem_nil, or_false] at hx
      rcases hx with rfl | rfl | rfl
      · unfold kwB; split <;> (try split) <;> (try split) <;> (try split) <;> exact hk _ (by decide)
      · exact hn _ h1
      · exact hn _ h2
    · split at hx
      · cases hx
      · rw [List.mem_singleton.1 hx]
        refine hd _ ?_
        unfold longL at t2
        split at t2
        · omega
        · split at t2 <;> omega
  · obtain ⟨u, hu, rfl⟩ := List.mem_map.1 hl
    obtain ⟨h1, h2, h3, _⟩ := h.us u hu
    refine opt_all (fun x hx => ?_) (hk _ (by decide)) (h3.imp id (hn _))
    rcases List.mem_append.1 hx with hx | hx
    · simp only [List.mem_cons, List.not_mem_nil, or_false] at hx
      rcases hx with rfl | rfl | rfl
      · exact hk _ (by decide)
      · exact hn _ h1
      · exact hk _ (by decide)
    · obtain ⟨r, hr, rfl⟩ := List.mem_map.1 hx
      exact hn _ (h2 r hr)
theorem MayOk.short {g : Gr} (h : MayOk g) : ∀ l ∈ linesW g, ∀ x ∈ l, x.length ≤ 20 :=
  h.words (by decide) (fun _ h => name_len (nameK_L h)) (fun n hn => Nat.le_trans (digL_len 6 n (by omega)) (by omega))
theorem join_len : ∀ (l : List Tok) (p : Bool), (∀ t ∈ l, t.text.length ≤ 20) → (joinS p l).length ≤ l.length * 22
  | [], _, _ => by simp [joinS]
  | t :: r, p, h => by
    have ih := join_len r (t.text == [59]) (fun x hx => h x (List.mem_cons_of_mem _ hx))
    have h1 := h t (List.mem_cons_self ..)
    have h2 : (if !p && !(t.text == [59]) then [32] else [] : List UInt8).length ≤ 1 := by split <;> simp
    have h3 : (if t.text == [59] then [10] else [] : List UInt8).length ≤ 1 := by split <;> simp
    rw [joinS, List.length_append, List.length_append, List.length_append, List.length_cons, Nat.succ_mul]
    omega
theorem MayOk.tok20 {g : Gr} (h : MayOk g) : ∀ t ∈ printT g, t.text.length ≤ 20 := by
  intro t ht
  unfold printT at ht
  obtain ⟨l, hl, ht⟩ := List.mem_flatMap.1 ht
  unfold lineT at ht
  rcases List.mem_append.1 ht with ht | ht
  · obtain ⟨x, hx, rfl⟩ := List.mem_map.1 ht
    exact h.short l hl x hx
  · rw [List.mem_singleton.1 ht]; decide
/-- The text of a graph that may be has less than 70,000 bytes. -/
theorem MayOk.bytes {g : Gr} (h : MayOk g) : (joinS true (printT g)).length ≤ 69080 := by
  have h1 := join_len (printT g) true h.tok20
  have h2 := h.toks
  omega
end Go.Proofs.YtigbceankmfaeaaGreatDoor.P3

namespace Go.Proofs.YtigbceankmfaeaaGreatDoor.P3
/-- A token, but for its place: kind, text, value. -/
abbrev B3 := Nat × List UInt8 × Nat
/-- Of what sort a token is: a word that the language keeps is itself; 'n' a name, 'd' a number, ';' another. -/
def cls (t : B3) : Key := if t.1 = 2 then [100] else if t.1 = 1 then (if kws.contains t.2.1 then t.2.1 else [110]) else [59]
/-- Where the reading stands; has it gone wrong? -/
abbrev RS := Nat × Bool
def seeB (l : List B3) (x : Key) (s : RS) : Bool := !s.2 && (match l[s.1]? with | none => false | some t => cls t == x)
def mayS (l : List B3) (x : Key) (s : RS) : RS := if seeB l x s then (s.1 + 1, s.2) else s
def mustS (l : List B3) (x : Key) (s : RS) : RS := if seeB l x s then (s.1 + 1, s.2) else (s.1, true)
def takT (l : List B3) (x : Key) (s : RS) : List UInt8 := if seeB l x s then (match l[s.1]? with | none => [] | some t => t.2.1) else []
def takN (l : List B3) (x : Key) (s : RS) : Nat := if seeB l x s then (match l[s.1]? with | none => 0 | some t => t.2.2) else 0
def optS (l : List B3) (x : Key) (s : RS) : RS := if seeB l x s then mustS l [110] (mayS l x s) else s
def optV (l : List B3) (x : Key) (s : RS) : List UInt8 := if seeB l x s then takT l [110] (mayS l x s) else []
def endS (l : List B3) (s : RS) : RS := (s.1, s.2 || !(s.1 == l.length))
theorem see_at {l : List B3} {n : Nat} {t : B3} (h : l[n]? = some t) (x : Key) : seeB l x (n, false) = (cls t == x) := by simp [seeB, h]
theorem see_none {l : List B3} {n : Nat} (h : l[n]? = none) (x : Key) : seeB l x (n, false) = false := by simp [seeB, h]
def kwT (x : Key) : B3 := (1, x, 0)
def nuT (n : Nat) : B3 := (2, digL n, n)
theorem cls_kw {x : Key} (h : x ∈ kws) : cls (kwT x) = x := by unfold cls kwT; simp [h]
theorem cls_nm {x : Key} (h : nameK x = true) : cls (kwT x) = [110] := by
  unfold nameK at h
  rw [Bool.and_eq_true, Bool.not_eq_true'] at h
  unfold cls kwT
  simp only [h.1]
  simp
theorem cls_nu (n : Nat) : cls (nuT n) = [100] := rfl
def grS (l : List B3) : RS := optS l [105, 110] (mustS l [110] (1, false))
def grV (l : List B3) : List UInt8 × List UInt8 := (takT l [110] (1, false), optV l [105, 110] (mustS l [110] (1, false)))
def optT (x : Key) (s : List UInt8) : List B3 := if s = [] then [] else [kwT x, kwT s]
def gpT (p : Gp) : List B3 := [kwT [103, 114, 111, 117, 112], kwT p.name.toList] ++ optT [105, 110] p.parent.toList
theorem gr_back {p : Gp} (h1 : nameK p.name.toList = true) (h2 : p.parent.toList = [] ∨ nameK p.parent.toList = true) :
    endS (gpT p) (grS (gpT p)) = ((gpT p).length, false) ∧ grV (gpT p) = (p.name.toList, p.parent.toList) := by
  have c1 := cls_nm h1
  unfold gpT optT grS grV
  generalize p.name.toList = a at *
  generalize p.parent.toList = b at *
  by_cases hb : b = []
  · subst hb
    simp [mustS, seeB, c1, optS, optV, endS, takT]
    try simp [kwT]
  · have c2 := cls_nm (h2.resolve_left hb)
    have ci : cls (kwT [105, 110]) = [105, 110] := cls_kw (by decide)
    simp only [hb, if_false]
    simp [mustS, mayS, seeB, c1, c2, ci, optS, optV, endS, takT]
    try simp [kwT]
abbrev kRole : Key := [114, 111, 108, 101]
abbrev kExc : Key := [101, 120, 99, 108, 117, 100, 101, 100]
abbrev kDone : Key := [100, 111, 110, 101]
abbrev kPend : Key := [112, 101, 110, 100, 105, 110, 103]
abbrev kDue : Key := [100, 117, 101]
def dueS (l : List B3) (s : RS) : RS := if seeB l kPend s then mayS l kPend s else if seeB l kDue s then mustS l [100] (mayS l kDue s) else s
def dueV (l : List B3) (s : RS) : Int := if seeB l kPend s then 1048576 else if seeB l kDue s then (takN l [100] (mayS l kDue s) : Nat) else -1
def ev1 (l : List B3) : RS := optS l [105, 110] (mustS l [110] (1, false))
def ev2 (l : List B3) : RS := mustS l kRole (ev1 l)
def ev3 (l : List B3) : RS := mustS l [110] (ev2 l)
def ev4 (l : List B3) : RS := mayS l kExc (ev3 l)
def ev5 (l : List B3) : RS := mayS l kDone (ev4 l)
def evS (l : List B3) : RS := dueS l (ev5 l)
structure EvV where
  name : List UInt8
  group : List UInt8
  role : List UInt8
  inn : Bool
  done : Bool
  due : Int
def evV (l : List B3) : EvV := ⟨takT l [110] (1, false), optV l [105, 110] (mustS l [110] (1, false)), takT l [110] (ev2 l), !seeB l kExc (ev3 l), seeB l kDone (ev4 l), dueV l (ev5 l)⟩
def dueT (d : Int) : List B3 := if d = -1 then [] else if d = 1048576 then [kwT kPend] else [kwT kDue, nuT d.toNat]
def evT (v : Ev) : List B3 :=
  [kwT [101, 118, 101, 110, 116], kwT v.name.toList] ++ (optT [105, 110] v.group.toList ++ ([kwT kRole, kwT v.role.toList] ++ ((if v.inn then [] else [kwT kExc]) ++ ((if v.done then [kwT kDone] else []) ++ dueT v.due))))
theorem ck_in : cls (kwT [105, 110]) = [105, 110] := cls_kw (by decide)
theorem ck_role : cls (kwT [114, 111, 108, 101]) = [114, 111, 108, 101] := cls_kw (by decide)
theorem ck_exc : cls (kwT [101, 120, 99, 108, 117, 100, 101, 100]) = [101, 120, 99, 108, 117, 100, 101, 100] := cls_kw (by decide)
theorem ck_done : cls (kwT [100, 111, 110, 101]) = [100, 111, 110, 101] := cls_kw (by decide)
theorem ck_pend : cls (kwT [112, 101, 110, 100, 105, 110, 103]) = [112, 101, 110, 100, 105, 110, 103] := cls_kw (by decide)
theorem ck_due : cls (kwT [100, 117, 101]) = [100, 117, 101] := cls_kw (by decide)
theorem kw_txt (x : Key) : (kwT x).2.1 = x := rfl
theorem nu_val (n : Nat) : (nuT n).2.2 = n := rfl
theorem ev_back {v : Ev} (h1 : nameK v.name.toList = true) (h2 : nameK v.role.toList = true) (h3 : v.group.toList = [] ∨ nameK v.group.toList = true) (h4 : -1 ≤ v.due) (h5 : v.due ≤ 1048576) :
    endS (evT v) (evS (evT v)) = ((evT v).length, false) ∧ evV (evT v) = ⟨v.name.toList, v.group.toList, v.role.toList, v.inn, v.done, v.due⟩ := by
  have c1 := cls_nm h1
  have c2 := cls_nm h2
  unfold evT optT dueT evS evV
  generalize v.name.toList = a at *
  generalize v.role.toList = b at *
  generalize v.group.toList = c at *
  generalize v.inn = p
  generalize v.done = q
  generalize v.due = d at *
  by_cases hd : d = -1
  · subst hd
    by_cases hc : c = []
    · subst hc
      cases p <;> cases q <;> simp [ev1, ev2, ev3, ev4, ev5, dueS, dueV, mustS, mayS, seeB, c1, c2, ck_role, ck_exc, ck_done, optS, optV, endS, takT, kw_txt]
    · have c3 := cls_nm (h3.resolve_left hc)
      cases p <;> cases q <;> simp [hc, ev1, ev2, ev3, ev4, ev5, dueS, dueV, mustS, mayS, seeB, c1, c2, c3, ck_in, ck_role, ck_exc, ck_done, optS, optV, endS, takT, kw_txt]
  · by_cases hm : d = 1048576
    · subst hm
      by_cases hc : c = []
      · subst hc
        cases p <;> cases q <;> simp [ev1, ev2, ev3, ev4, ev5, dueS, dueV, mustS, mayS, seeB, c1, c2, ck_role, ck_exc, ck_done, ck_pend, optS, optV, endS, takT, kw_txt]
      · have c3 := cls_nm (h3.resolve_left hc)
        cases p <;> cases q <;> simp [hc, ev1, ev2, ev3, ev4, ev5, dueS, dueV, mustS, mayS, seeB, c1, c2, c3, ck_in, ck_role, ck_exc, ck_done, ck_pend, optS, optV, endS, takT, kw_txt]
    · have hn : ((d.toNat : Nat) : Int) = d := by omega
      generalize d.toNat = n at *
      subst hn
      by_cases hc : c = []
      · subst hc
        cases p <;> cases q <;> simp [hd, hm, ev1, ev2, ev3, ev4, ev5, dueS, dueV, mustS, mayS, seeB, c1, c2, ck_role, ck_exc, ck_done, ck_due, cls_nu, optS, optV, endS, takT, takN, kw_txt, nu_val]
      · have c3 := cls_nm (h3.resolve_left hc)
        cases p <;> cases q <;> simp [hd, hm, hc, ev1, ev2, ev3, ev4, ev5, dueS, dueV, mustS, mayS, seeB, c1, c2, c3, ck_in, ck_role, ck_exc, ck_done, ck_due, cls_nu, optS, optV, endS, takT, takN, kw_txt, nu_val]
def kindV (l : List B3) (s : RS) : Int := if seeB l (kwB 1) s then 1 else if seeB l (kwB 2) s then 2 else if seeB l (kwB 3) s then 3 else if seeB l (kwB 4) s then 4 else if seeB l (kwB 5) s then 5 else 0
def kindS (l : List B3) (s : RS) : RS := if kindV l s = 0 then (s.1, true) else (s.1 + 1, s.2)
def timeS (l : List B3) (k : Int) (s : RS) : RS := if k = 1 ∨ k = 2 then mayS l [100] s else s
def timeV (l : List B3) (k : Int) (s : RS) : Int := if (k = 1 ∨ k = 2) ∧ seeB l [100] s = true then (takN l [100] s : Nat) else untB k
def rl1 (l : List B3) : RS := kindS l (0, false)
def rl2 (l : List B3) : RS := mustS l [110] (rl1 l)
def rl3 (l : List B3) : RS := mustS l [110] (rl2 l)
def rlS (l : List B3) : RS := timeS l (kindV l (0, false)) (rl3 l)
structure RlV where
  kind : Int
  src : List UInt8
  dst : List UInt8
  time : Int
def rlV (l : List B3) : RlV := ⟨kindV l (0, false), takT l [110] (rl1 l), takT l [110] (rl2 l), timeV l (kindV l (0, false)) (rl3 l)⟩
def timeT (k t : Int) : List B3 := if t = untB k then [] else [nuT t.toNat]
def rlT (r : Rl) : List B3 := [kwT (kwB r.kind), kwT r.src.toList, kwT r.dst.toList] ++ timeT r.kind r.time
theorem ck_1 : cls (kwT [99, 111, 110, 100, 105, 116, 105, 111, 110]) = [99, 111, 110, 100, 105, 116, 105, 111, 110] := cls_kw (by decide)
theorem ck_2 : cls (kwT [114, 101, 115, 112, 111, 110, 115, 101]) = [114, 101, 115, 112, 111, 110, 115, 101] := cls_kw (by decide)
theorem ck_3 : cls (kwT [105, 110, 99, 108, 117, 100, 101]) = [105, 110, 99, 108, 117, 100, 101] := cls_kw (by decide)
theorem ck_4 : cls (kwT [101, 120, 99, 108, 117, 100, 101]) = [101, 120, 99, 108, 117, 100, 101] := cls_kw (by decide)
theorem ck_5 : cls (kwT [109, 105, 108, 101, 115, 116, 111, 110, 101]) = [109, 105, 108, 101, 115, 116, 111, 110, 101] := cls_kw (by decide)
theorem rl_back {r : Rl} (k1 : 1 ≤ r.kind) (k5 : r.kind ≤ 5) (h1 : nameK r.src.toList = true) (h2 : nameK r.dst.toList = true) (t0 : 0 ≤ r.time) (t1 : r.time ≤ longL r.kind) :
    endS (rlT r) (rlS (rlT r)) = ((rlT r).length, false) ∧ rlV (rlT r) = ⟨r.kind, r.src.toList, r.dst.toList, r.time⟩ := by
  have c1 := cls_nm h1
  have c2 := cls_nm h2
  unfold rlT timeT rlS rlV
  generalize r.src.toList = a at *
  generalize r.dst.toList = b at *
  generalize r.time = t at *
  generalize r.kind = k at *
  have hn : ((t.toNat : Nat) : Int) = t := by omega
  have hk : k = 1 ∨ k = 2 ∨ k = 3 ∨ k = 4 ∨ k = 5 := by omega
  rcases hk with rfl | rfl | rfl | rfl | rfl
  · by_cases ht : t = 0
    · subst ht
      simp [untB, kwB, rl1, rl2, rl3, kindV, kindS, timeS, timeV, mustS, mayS, seeB, c1, c2, ck_1, endS, takT, kw_txt]
    · generalize t.toNat = n at *
      subst hn
      have ht' : ¬ n = 0 := by omega
      simp [ht', untB, kwB, rl1, rl2, rl3, kindV, kindS, timeS, timeV, mustS, mayS, seeB, c1, c2, ck_1, cls_nu, endS, takT, takN, kw_txt, nu_val]
  · by_cases ht : t = 1048576
    · subst ht
      simp [untB, kwB, rl1, rl2, rl3, kindV, kindS, timeS, timeV, mustS, mayS, seeB, c1, c2, ck_2, endS, takT, kw_txt]
    · generalize t.toNat = n at *
      subst hn
      simp [ht, untB, kwB, rl1, rl2, rl3, kindV, kindS, timeS, timeV, mustS, mayS, seeB, c1, c2, ck_2, cls_nu, endS, takT, takN, kw_txt, nu_val]
  · obtain rfl : t = 0 := by simp [longL] at t1; omega
    simp [untB, kwB, rl1, rl2, rl3, kindV, kindS, timeS, timeV, mustS, seeB, c1, c2, ck_3, endS, takT, kw_txt]
  · obtain rfl : t = 0 := by simp [longL] at t1; omega
    simp [untB, kwB, rl1, rl2, rl3, kindV, kindS, timeS, timeV, mustS, seeB, c1, c2, ck_4, endS, takT, kw_txt]
  · obtain rfl : t = 0 := by simp [longL] at t1; omega
    simp [untB, kwB, rl1, rl2, rl3, kindV, kindS, timeS, timeV, mustS, seeB, c1, c2, ck_5, endS, takT, kw_txt]
abbrev kRoles : Key := [114, 111, 108, 101, 115]
abbrev kSub : Key := [115, 117, 98]
def rolesS (l : List B3) : Nat → RS → RS × List (List UInt8)
  | 0, s => (s, [])
  | n + 1, s => if seeB l [110] s then ((rolesS l n (mayS l [110] s)).1, takT l [110] s :: (rolesS l n (mayS l [110] s)).2) else (s, [])
def us1 (l : List B3) : RS := mustS l kRoles (mustS l [110] (1, false))
def us2 (l : List B3) : RS × List (List UInt8) := rolesS l l.length (us1 l)
def usS (l : List B3) : RS := optS l kSub (us2 l).1
structure UsV where
  name : List UInt8
  roles : List (List UInt8)
  sub : List UInt8
def usV (l : List B3) : UsV := ⟨takT l [110] (1, false), (us2 l).2, optV l kSub (us2 l).1⟩
def usT (u : Us) : List B3 := [kwT [117, 115, 101, 114], kwT u.name.toList, kwT kRoles] ++ (u.roles.map (fun r => kwT r.toList) ++ optT kSub u.sub.toList)
theorem ck_roles : cls (kwT [114, 111, 108, 101, 115]) = [114, 111, 108, 101, 115] := cls_kw (by decide)
theorem ck_sub : cls (kwT [115, 117, 98]) = [115, 117, 98] := cls_kw (by decide)
/-- Names in a row are read to the last of them. -/
theorem roles_back (post : List B3) (hp : ∀ t ∈ post.head?, cls t ≠ [110]) : ∀ (rs : List (List UInt8)) (pre : List B3) (n : Nat), (∀ r ∈ rs, nameK r = true) → rs.length < n →
    rolesS (pre ++ (rs.map kwT ++ post)) n (pre.length, false) = ((pre.length + rs.length, false), rs)
  | [], pre, n + 1, _, _ => by
    rw [rolesS]
    cases post with
    | nil => simp [seeB]
    | cons t r =>
      have hs : seeB (pre ++ (([] : List (List UInt8)).map kwT ++ (t :: r))) [110] (pre.length, false) = false := by
        rw [see_at (t := t) (by simp)]
        exact beq_eq_false_iff_ne.2 (hp t (by simp))
      rw [hs]; simp
  | x :: r, pre, n + 1, h, hn => by
    have hx := cls_nm (h x (List.mem_cons_self ..))
    have hat : (pre ++ ((x :: r).map kwT ++ post))[pre.length]? = some (kwT x) := by simp
    have hs : seeB (pre ++ ((x :: r).map kwT ++ post)) [110] (pre.length, false) = true := by rw [see_at hat, hx]; rfl
    have ih := roles_back post hp r (pre ++ [kwT x]) n (fun y hy => h y (List.mem_cons_of_mem _ hy)) (by rw [List.length_cons] at hn; omega)
    have e : pre ++ [kwT x] ++ (r.map kwT ++ post) = pre ++ ((x :: r).map kwT ++ post) := by simp
    have e2 : (pre ++ [kwT x]).length = pre.length + 1 := by simp
    rw [e, e2] at ih
    have hm : mayS (pre ++ ((x :: r).map kwT ++ post)) [110] (pre.length, false) = (pre.length + 1, false) := by rw [mayS, hs]; rfl
    have ht : takT (pre ++ ((x :: r).map kwT ++ post)) [110] (pre.length, false) = x := by rw [takT, hs, hat]; rfl
    rw [rolesS, hs, hm, ih, ht]
    simp
    omega
theorem us_back {u : Us} (h1 : nameK u.name.toList = true) (h2 : ∀ s ∈ u.roles, nameK s.toList = true) (h3 : u.sub.toList = [] ∨ nameK u.sub.toList = true) :
    endS (usT u) (usS (usT u)) = ((usT u).length, false) ∧ usV (usT u) = ⟨u.name.toList, u.roles.map ByteArray.toList, u.sub.toList⟩ := by
  have c1 := cls_nm h1
  have hr : ∀ r ∈ u.roles.map ByteArray.toList, nameK r = true := fun r hr => by obtain ⟨s, hs, rfl⟩ := List.mem_map.1 hr; exact h2 s hs
  have e : u.roles.map (fun r => kwT r.toList) = (u.roles.map ByteArray.toList).map kwT := by rw [List.map_map]; rfl
  unfold usT
  rw [e]
  generalize u.roles.map ByteArray.toList = rs at *
  generalize u.name.toList = a at *
  generalize u.sub.toList = b at *
  have hp : ∀ t ∈ (optT kSub b).head?, cls t ≠ [110] := by
    intro t ht
    unfold optT at ht
    split at ht
    · cases ht
    · obtain rfl : kwT kSub = t := by simpa using ht
      rw [ck_sub]; decide
  have hb := roles_back (optT kSub b) hp rs [kwT [117, 115, 101, 114], kwT a, kwT kRoles] ([kwT [117, 115, 101, 114], kwT a, kwT kRoles] ++ (rs.map kwT ++ optT kSub b)).length hr (by simp; omega)
  have h1' : us1 ([kwT [117, 115, 101, 114], kwT a, kwT kRoles] ++ (rs.map kwT ++ optT kSub b)) = (3, false) := by
    simp [us1, mustS, seeB, c1, ck_roles]
  have h2' : us2 ([kwT [117, 115, 101, 114], kwT a, kwT kRoles] ++ (rs.map kwT ++ optT kSub b)) = ((3 + rs.length, false), rs) := by
    rw [us2, h1']; exact hb
  have hl : ([kwT [117, 115, 101, 114], kwT a, kwT kRoles] ++ (rs.map kwT ++ optT kSub b)).length = 3 + rs.length + (optT kSub b).length := by simp; omega
  have hat : ∀ j, ([kwT [117, 115, 101, 114], kwT a, kwT kRoles] ++ (rs.map kwT ++ optT kSub b))[3 + rs.length + j]? = (optT kSub b)[j]? := by
    intro j
    rw [← List.append_assoc, List.getElem?_append_right (by simp; omega)]
    congr 1
    simp; omega
  have h4 : takT ([kwT [117, 115, 101, 114], kwT a, kwT kRoles] ++ (rs.map kwT ++ optT kSub b)) [110] (1, false) = a := by
    simp [takT, seeB, c1, kw_txt]
  unfold usS usV
  rw [h2', h4]
  simp only
  generalize [kwT [117, 115, 101, 114], kwT a, kwT kRoles] ++ (rs.map kwT ++ optT kSub b) = L at *
  have hat0 := hat 0
  have hat1 := hat 1
  rw [Nat.add_zero] at hat0
  by_cases hb0 : b = []
  · subst hb0
    simp [optT] at hl
    simp [optS, optV, seeB, endS, hl]
  · have cb := cls_nm (h3.resolve_left hb0)
    simp only [optT, hb0, if_false] at hat0 hat1 hl
    simp at hat0 hat1 hl
    have s0 : seeB L kSub (3 + rs.length, false) = true := by rw [see_at hat0, ck_sub]; rfl
    have s1 : seeB L [110] (3 + rs.length + 1, false) = true := by rw [see_at hat1, cb]; rfl
    have m0 : mayS L kSub (3 + rs.length, false) = (3 + rs.length + 1, false) := by rw [mayS, if_pos s0]
    have o0 : optS L kSub (3 + rs.length, false) = (3 + rs.length + 2, false) := by rw [optS, if_pos s0, m0, mustS, if_pos s1]
    have v0 : optV L kSub (3 + rs.length, false) = b := by
      rw [optV, if_pos s0, m0, takT, if_pos s1]
      simp only [hat1]
      rfl
    rw [o0, v0, hl]
    simp [endS, hl]
end Go.Proofs.YtigbceankmfaeaaGreatDoor.P3

namespace Go.Proofs.YtigbceankmfaeaaGreatDoor.P3
inductive PartV where
  | g (name parent : List UInt8)
  | e (v : EvV)
  | r (v : RlV)
  | u (v : UsV)
abbrev kGroup : Key := [103, 114, 111, 117, 112]
abbrev kEvent : Key := [101, 118, 101, 110, 116]
abbrev kUser : Key := [117, 115, 101, 114]
def stS (l : List B3) : RS := endS l (if seeB l kGroup (0, false) then grS l else if seeB l kEvent (0, false) then evS l else if seeB l kUser (0, false) then usS l else rlS l)
def stV (l : List B3) : PartV :=
  if seeB l kGroup (0, false) then .g (grV l).1 (grV l).2 else if seeB l kEvent (0, false) then .e (evV l) else if seeB l kUser (0, false) then .u (usV l) else .r (rlV l)
theorem see_head (t : B3) (r : List B3) (x : Key) : seeB (t :: r) x (0, false) = (cls t == x) := by simp [seeB]
theorem ck_group : cls (kwT kGroup) = kGroup := cls_kw (by decide)
theorem ck_event : cls (kwT kEvent) = kEvent := cls_kw (by decide)
theorem ck_user : cls (kwT kUser) = kUser := cls_kw (by decide)
theorem st_gp {p : Gp} (h1 : nameK p.name.toList = true) (h2 : p.parent.toList = [] ∨ nameK p.parent.toList = true) : stS (gpT p) = ((gpT p).length, false) ∧ stV (gpT p) = .g p.name.toList p.parent.toList := by
  obtain ⟨a, b⟩ := gr_back h1 h2
  have hs : seeB (gpT p) kGroup (0, false) = true := by rw [gpT, List.cons_append, see_head, ck_group]; rfl
  unfold stS stV
  rw [if_pos hs, if_pos hs, a, b]
  exact ⟨rfl, rfl⟩
theorem st_ev {v : Ev} (h1 : nameK v.name.toList = true) (h2 : nameK v.role.toList = true) (h3 : v.group.toList = [] ∨ nameK v.group.toList = true) (h4 : -1 ≤ v.due) (h5 : v.due ≤ 1048576) :
    stS (evT v) = ((evT v).length, false) ∧ stV (evT v) = .e ⟨v.name.toList, v.group.toList, v.role.toList, v.inn, v.done, v.due⟩ := by
  obtain ⟨a, b⟩ := ev_back h1 h2 h3 h4 h5
  have hg : ¬ seeB (evT v) kGroup (0, false) = true := by rw [evT, List.cons_append, see_head, ck_event]; decide
  have hs : seeB (evT v) kEvent (0, false) = true := by rw [evT, List.cons_append, see_head, ck_event]; rfl
  unfold stS stV
  rw [if_neg hg, if_neg hg, if_pos hs, if_pos hs, a, b]
  exact ⟨rfl, rfl⟩
theorem st_us {u : Us} (h1 : nameK u.name.toList = true) (h2 : ∀ s ∈ u.roles, nameK s.toList = true) (h3 : u.sub.toList = [] ∨ nameK u.sub.toList = true) :
    stS (usT u) = ((usT u).length, false) ∧ stV (usT u) = .u ⟨u.name.toList, u.roles.map ByteArray.toList, u.sub.toList⟩ := by
  obtain ⟨a, b⟩ := us_back h1 h2 h3
  have hg : ¬ seeB (usT u) kGroup (0, false) = true := by rw [usT, List.cons_append, see_head, ck_user]; decide
  have he : ¬ seeB (usT u) kEvent (0, false) = true := by rw [usT, List.cons_append, see_head, ck_user]; decide
  have hs : seeB (usT u) kUser (0, false) = true := by rw [usT, List.cons_append, see_head, ck_user]; rfl
  unfold stS stV
  rw [if_neg hg, if_neg hg, if_neg he, if_neg he, if_pos hs, if_pos hs, a, b]
  exact ⟨rfl, rfl⟩
theorem kwB_in (k : Int) : kwB k ∈ kws := by unfold kwB; split <;> (try split) <;> (try split) <;> (try split) <;> decide
theorem kwB_ne (k : Int) : kwB k ≠ kGroup ∧ kwB k ≠ kEvent ∧ kwB k ≠ kUser := by unfold kwB; split <;> (try split) <;> (try split) <;> (try split) <;> decide
theorem st_rl {r : Rl} (k1 : 1 ≤ r.kind) (k5 : r.kind ≤ 5) (h1 : nameK r.src.toList = true) (h2 : nameK r.dst.toList = true) (t0 : 0 ≤ r.time) (t1 : r.time ≤ longL r.kind) :
    stS (rlT r) = ((rlT r).length, false) ∧ stV (rlT r) = .r ⟨r.kind, r.src.toList, r.dst.toList, r.time⟩ := by
  obtain ⟨a, b⟩ := rl_back k1 k5 h1 h2 t0 t1
  obtain ⟨n1, n2, n3⟩ := kwB_ne r.kind
  have hc := cls_kw (kwB_in r.kind)
  have hx : ∀ x, kwB r.kind ≠ x → ¬ seeB (rlT r) x (0, false) = true := fun x hx => by
    rw [rlT, List.cons_append, see_head, hc, beq_iff_eq]; exact hx
  unfold stS stV
  rw [if_neg (hx _ n1), if_neg (hx _ n1), if_neg (hx _ n2), if_neg (hx _ n2), if_neg (hx _ n3), if_neg (hx _ n3), a, b]
  exact ⟨rfl, rfl⟩
end Go.Proofs.YtigbceankmfaeaaGreatDoor.P3
