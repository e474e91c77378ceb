/-
  Rings, plainly: the search by depth that tells each point the head of its ring, and why it does; no program.
-/
import Derived.Test.YtaagpnepkjkfoaaRiM
namespace Go.Proofs.Ytaagpnepkjkfoaa.R6

structure TJ where
  h : List Int
  m : List Nat
  l : List Nat
  o : List Nat
def comeT (a : Nat) (s : TJ) : TJ := ⟨s.h.set a (-1), s.m.set a s.o.length, s.l.set a s.o.length, s.o ++ [a]⟩
def wayT (a b : Nat) (s : TJ) : TJ := if s.h[b]! < 0 then { s with l := s.l.set a (min s.l[a]! s.l[b]!) } else s
def headsT (a : Nat) (ps : List Nat) (h : List Int) : List Int := ps.foldl (fun h p => h.set p (a : Int)) h
def leaveT (a : Nat) (s : TJ) : TJ := if s.l[a]! < s.m[a]! then s else { s with h := headsT a (s.o.drop s.m[a]!) s.h, o := s.o.take s.m[a]! }
def opT : Op TJ := ⟨comeT, wayT, leaveT⟩
theorem headsT_len (a : Nat) : ∀ (ps : List Nat) (h : List Int), (headsT a ps h).length = h.length
  | [], _ => rfl
  | p :: r, h => by unfold headsT; rw [List.foldl_cons]; exact (headsT_len a r _).trans (by simp)
theorem headsT_get (a : Nat) : ∀ (ps : List Nat) (h : List Int) (x : Nat), (∀ p ∈ ps, p < h.length) → (headsT a ps h)[x]! = if x ∈ ps then (a : Int) else h[x]!
  | [], _, _, _ => by simp [headsT]
  | p :: r, h, x, hp => by
    have e : headsT a (p :: r) h = headsT a r (h.set p (a : Int)) := rfl
    rw [e, headsT_get a r _ x (fun q hq => by rw [List.length_set]; exact hp q (by simp [hq])), set_get (hp p (by simp))]
    by_cases h1 : x ∈ r
    · rw [if_pos h1, if_pos (by simp [h1])]
    · rw [if_neg h1]
      by_cases h2 : x = p
      · rw [if_pos h2, if_pos (by simp [h2])]
      · rw [if_neg h2, if_neg (by simp [h1, h2])]

/-- Told: known, and not open. -/
def Done (s : St TJ) (x : Nat) : Prop := s.1[x]! = true ∧ x ∉ s.2.o
/-- What holds all along. -/
structure TI (n : NetL) (s : St TJ) : Prop where
  kl : s.1.length = n.length
  hl : s.2.h.length = n.length
  ml : s.2.m.length = n.length
  ll : s.2.l.length = n.length
  nd : s.2.o.Nodup
  kn : ∀ x ∈ s.2.o, s.1[x]! = true
  hm : ∀ x, x < n.length → (s.2.h[x]! < 0 ↔ x ∈ s.2.o)
  mr : ∀ (i x : Nat), s.2.o[i]? = some x → s.2.m[x]! = i
  lw : ∀ (i x : Nat), s.2.o[i]? = some x → ∃ j y, j ≤ i ∧ s.2.l[x]! = j ∧ s.2.o[j]? = some y ∧ Rc n x y
  up : ∀ (i j x y : Nat), s.2.o[i]? = some x → s.2.o[j]? = some y → i ≤ j → Rc n x y
  cl : ∀ x, Done s x → ∀ y ∈ wy n x, Done s y
  hd : ∀ x, Done s x → ∃ z, s.2.h[x]! = (z : Nat) ∧ Done s z ∧ Rc n x z ∧ Rc n z x
  same : ∀ x y, Done s x → Done s y → Ld n x y → Ld n y x → s.2.h[x]! = s.2.h[y]!
theorem k_lt {K : List Bool} {x : Nat} (h : K[x]! = true) : x < K.length := by
  rcases Nat.lt_or_ge x K.length with h' | h'
  · exact h'
  · rw [getElem!_neg K x (by omega)] at h; cases h
theorem TI.o_lt {n : NetL} {s : St TJ} (h : TI n s) {x : Nat} (hx : x ∈ s.2.o) : x < n.length := by
  have := k_lt (h.kn x hx); rw [h.kl] at this; exact this
theorem Done.lt {n : NetL} {s : St TJ} (h : TI n s) {x : Nat} (hx : Done s x) : x < n.length := by
  have := k_lt hx.1; rw [h.kl] at this; exact this
theorem mem_at {l : List Nat} {x : Nat} : x ∈ l ↔ ∃ i : Nat, l[i]? = some x := List.mem_iff_getElem?
/-- Told points lead to told points. -/
theorem TI.closed {n : NetL} {s : St TJ} (h : TI n s) {x y : Nat} (hl : Ld n x y) : Done s x → Done s y := by
  induction hl with
  | one hw => exact fun hx => h.cl _ hx _ hw
  | more hw _ ih => exact fun hx => ih (h.cl _ hx _ hw)
theorem app_get {l : List Nat} {a i x : Nat} : (l ++ [a])[i]? = some x ↔ l[i]? = some x ∨ (i = l.length ∧ x = a) := by
  rw [List.getElem?_append]
  split
  · rename_i hi
    exact ⟨.inl, fun h => by rcases h with h | ⟨rfl, _⟩; exact h; omega⟩
  · rename_i hi
    constructor
    · intro h
      rw [List.getElem?_singleton] at h
      split at h
      · injection h with h; exact .inr ⟨by omega, h.symm⟩
      · cases h
    · rintro (h | ⟨rfl, rfl⟩)
      · rw [List.getElem?_eq_none (by omega)] at h; cases h
      · simp

/-- A point is come to: it is behind all that is open. -/
theorem TI.come {n : NetL} {s : St TJ} {a : Nat} (h : TI n s) (ha : a < n.length) (hk : s.1[a]! = false) (hr : ∀ x ∈ s.2.o, Rc n x a) : TI n (goT opT a s) := by
  have hno : a ∉ s.2.o := fun hx => by rw [h.kn a hx] at hk; cases hk
  have hka : a < s.1.length := by rw [h.kl]; exact ha
  have hha : a < s.2.h.length := by rw [h.hl]; exact ha
  have hma : a < s.2.m.length := by rw [h.ml]; exact ha
  have hla : a < s.2.l.length := by rw [h.ll]; exact ha
  have dn : ∀ x, Done (goT opT a s) x ↔ Done s x := by
    intro x
    show ((s.1.set a true)[x]! = true ∧ x ∉ s.2.o ++ [a]) ↔ _
    rw [set_get hka]
    by_cases e : x = a
    · subst e; simp [Done, hk]
    · rw [if_neg e]; simp [Done, e]
  have hne : ∀ x, Done s x → x ≠ a := fun x hx e => by have h1 := hx.1; rw [e, hk] at h1; cases h1
  have hg : ∀ x, x ≠ a → (goT opT a s).2.h[x]! = s.2.h[x]! := fun x hx => by
    show (s.2.h.set a (-1))[x]! = _
    rw [set_get hha, if_neg hx]
  refine ⟨?_, ?_, ?_, ?_, ?_, ?_, ?_, ?_, ?_, ?_, ?_, ?_, ?_⟩
  · show (s.1.set a true).length = _; rw [List.length_set, h.kl]
  · show (s.2.h.set a (-1)).length = _; rw [List.length_set, h.hl]
  · show (s.2.m.set a s.2.o.length).length = _; rw [List.length_set, h.ml]
  · show (s.2.l.set a s.2.o.length).length = _; rw [List.length_set, h.ll]
  · show (s.2.o ++ [a]).Nodup
    rw [List.nodup_append]
    exact ⟨h.nd, by simp, fun x hx y hy e => by simp at hy; subst hy; subst e; exact hno hx⟩
  · intro x hx
    show (s.1.set a true)[x]! = true
    rw [set_get hka]
    split
    · rfl
    · rename_i e
      rcases List.mem_append.1 hx with hx | hx
      · exact h.kn x hx
      · exact absurd (by simpa using hx) e
  · intro x hx
    show (s.2.h.set a (-1))[x]! < 0 ↔ x ∈ s.2.o ++ [a]
    rw [set_get hha]
    by_cases e : x = a
    · subst e; simp
    · rw [if_neg e, h.hm x hx]; simp [e]
  · intro i x hi
    show (s.2.m.set a s.2.o.length)[x]! = i
    rw [set_get hma]
    rcases app_get.1 hi with hi | ⟨rfl, rfl⟩
    · rw [if_neg (fun e => hno (by rw [← e]; exact mem_at.2 ⟨i, hi⟩))]; exact h.mr i x hi
    · rw [if_pos rfl]
  · intro i x hi
    show ∃ j y, j ≤ i ∧ (s.2.l.set a s.2.o.length)[x]! = j ∧ (s.2.o ++ [a])[j]? = some y ∧ Rc n x y
    rw [set_get hla]
    rcases app_get.1 hi with hi | ⟨rfl, rfl⟩
    · rw [if_neg (fun e => hno (by rw [← e]; exact mem_at.2 ⟨i, hi⟩))]
      obtain ⟨j, y, h1, h2, h3, h4⟩ := h.lw i x hi
      exact ⟨j, y, h1, h2, app_get.2 (.inl h3), h4⟩
    · rw [if_pos rfl]
      exact ⟨_, _, Nat.le_refl _, rfl, app_get.2 (.inr ⟨rfl, rfl⟩), .refl _ _⟩
  · intro i j x y hi hj hij
    rcases app_get.1 hj with hj | ⟨rfl, rfl⟩
    · rcases app_get.1 hi with hi | ⟨rfl, rfl⟩
      · exact h.up i j x y hi hj hij
      · rename_i hj'; rw [List.getElem?_eq_none hij] at hj'; cases hj'
    · rcases app_get.1 hi with hi | ⟨_, rfl⟩
      · exact hr x (mem_at.2 ⟨i, hi⟩)
      · exact .refl _ _
  · intro x hx y hy; rw [dn] at hx ⊢; exact h.cl x hx y hy
  · intro x hx
    rw [dn] at hx
    obtain ⟨z, h1, h2, h3⟩ := h.hd x hx
    exact ⟨z, by rw [hg x (hne x hx)]; exact h1, (dn z).2 h2, h3⟩
  · intro x y hx hy
    rw [dn] at hx hy
    rw [hg x (hne x hx), hg y (hne y hy)]
    exact h.same x y hx hy

/-- A way is gone: the point is as low as where it leads. -/
theorem TI.way {n : NetL} {s : St TJ} {a b : Nat} (h : TI n s) (hao : a ∈ s.2.o) (hb : b ∈ wy n a) (hr : ∀ x ∈ s.2.o, Rc n x a) : TI n (s.1, wayT a b s.2) := by
  unfold wayT
  split
  · rename_i hneg
    have ha := h.o_lt hao
    have hla : a < s.2.l.length := by rw [h.ll]; exact ha
    have hbo := (h.hm b (wy_lt hb)).1 hneg
    refine ⟨h.kl, h.hl, h.ml, by show (s.2.l.set a _).length = _; rw [List.length_set, h.ll], h.nd, h.kn, h.hm, h.mr, ?_, h.up, h.cl, h.hd, h.same⟩
    intro i x hi
    show ∃ j y, j ≤ i ∧ (s.2.l.set a (min s.2.l[a]! s.2.l[b]!))[x]! = j ∧ s.2.o[j]? = some y ∧ Rc n x y
    rw [set_get hla]
    change s.2.o[i]? = some x at hi
    by_cases e : x = a
    · subst e
      rw [if_pos rfl]
      obtain ⟨j, y, h1, h2, h3, h4⟩ := h.lw i x hi
      obtain ⟨k, hk⟩ := mem_at.1 hbo
      obtain ⟨j', y', g1, g2, g3, g4⟩ := h.lw k b hk
      rcases Nat.le_total s.2.l[x]! s.2.l[b]! with hle | hle
      · exact ⟨j, y, h1, by rw [Nat.min_eq_left hle]; exact h2, h3, h4⟩
      · exact ⟨j', y', by omega, by rw [Nat.min_eq_right hle]; exact g2, g3, (Rc.one hb).trans g4⟩
    · rw [if_neg e]; exact h.lw i x hi
  · exact h

/-- A point and what is open behind it are left, and told. -/
theorem TI.close {n : NetL} {s : St TJ} {a : Nat} {O T : List Nat} (h : TI n s) (ho : s.2.o = O ++ a :: T) (hr : ∀ x ∈ s.2.o, Rc n x a)
    (hc : ∀ x ∈ a :: T, ∀ y ∈ wy n x, Done s y ∨ y ∈ a :: T) : TI n (s.1, { s.2 with h := headsT a (a :: T) s.2.h, o := O }) := by
  have hao : a ∈ s.2.o := by rw [ho]; simp
  have hlt : ∀ p ∈ a :: T, p < s.2.h.length := fun p hp => by rw [h.hl]; exact h.o_lt (by rw [ho]; exact List.mem_append_right _ hp)
  have hsub : ∀ x, x ∈ a :: T → x ∈ s.2.o := fun x hx => by rw [ho]; exact List.mem_append_right _ hx
  have hOs : ∀ x, x ∈ O → x ∈ s.2.o := fun x hx => by rw [ho]; exact List.mem_append_left _ hx
  have hnd := h.nd
  rw [ho, List.nodup_append] at hnd
  have hdis : ∀ x, x ∈ O → x ∈ a :: T → False := fun x h1 h2 => hnd.2.2 x h1 x h2 rfl
  have dn : ∀ x, Done (s.1, ({ s.2 with h := headsT a (a :: T) s.2.h, o := O } : TJ)) x ↔ Done s x ∨ x ∈ a :: T := by
    intro x
    show (s.1[x]! = true ∧ x ∉ O) ↔ (s.1[x]! = true ∧ x ∉ s.2.o) ∨ x ∈ a :: T
    rw [ho]
    constructor
    · rintro ⟨h1, h2⟩
      by_cases e : x ∈ a :: T
      · exact .inr e
      · exact .inl ⟨h1, fun hx => by rcases List.mem_append.1 hx with hx | hx; exact h2 hx; exact e hx⟩
    · rintro (⟨h1, h2⟩ | h1)
      · exact ⟨h1, fun hx => h2 (List.mem_append_left _ hx)⟩
      · exact ⟨h.kn x (hsub x h1), fun hx => hdis x hx h1⟩
  have hin : ∀ (i x : Nat), O[i]? = some x → s.2.o[i]? = some x := by
    intro i x hi
    rw [ho, List.getElem?_append_left (by
      rcases Nat.lt_or_ge i O.length with h' | h'
      · exact h'
      · rw [List.getElem?_eq_none h'] at hi; cases hi)]
    exact hi
  have hback : ∀ (i x : Nat), i < O.length → s.2.o[i]? = some x → O[i]? = some x := by
    intro i x hi hx
    rw [ho, List.getElem?_append_left hi] at hx; exact hx
  have hg : ∀ x, (headsT a (a :: T) s.2.h)[x]! = if x ∈ a :: T then (a : Int) else s.2.h[x]! := fun x => headsT_get a _ _ x hlt
  have hnot : ∀ x, Done s x → x ∉ a :: T := fun x hx hm => hx.2 (hsub x hm)
  have hfrom : ∀ x ∈ a :: T, Rc n a x := by
    intro x hx
    obtain ⟨i, hi⟩ := mem_at.1 hx
    have h1 : s.2.o[O.length]? = some a := by rw [ho]; simp
    have h2 : s.2.o[O.length + i]? = some x := by rw [ho, List.getElem?_append_right (by omega), show O.length + i - O.length = i from by omega]; exact hi
    exact h.up _ _ a x h1 h2 (by omega)
  refine ⟨h.kl, by show (headsT a (a :: T) s.2.h).length = _; rw [headsT_len, h.hl], h.ml, h.ll, hnd.1, fun x hx => h.kn x (hOs x hx), ?_, fun i x hi => h.mr i x (hin i x hi), ?_, fun i j x y hi hj hij => h.up i j x y (hin i x hi) (hin j y hj) hij, ?_, ?_, ?_⟩
  · intro x hx
    show (headsT a (a :: T) s.2.h)[x]! < 0 ↔ x ∈ O
    rw [hg]
    split
    · rename_i hm
      exact ⟨fun h => by omega, fun hO => absurd hm (fun hm => hdis x hO hm)⟩
    · rename_i hm
      rw [h.hm x hx, ho, List.mem_append]
      exact ⟨fun h => by rcases h with h | h; exact h; exact absurd h hm, .inl⟩
  · intro i x hi
    obtain ⟨j, y, h1, h2, h3, h4⟩ := h.lw i x (hin i x hi)
    have : i < O.length := by
      rcases Nat.lt_or_ge i O.length with h' | h'
      · exact h'
      · have hi' : O[i]? = some x := hi
        rw [List.getElem?_eq_none h'] at hi'; cases hi'
    exact ⟨j, y, h1, h2, hback j y (by omega) h3, h4⟩
  · intro x hx y hy
    rw [dn] at hx ⊢
    rcases hx with hx | hx
    · exact .inl (h.cl x hx y hy)
    · exact hc x hx y hy
  · intro x hx
    rw [dn] at hx
    show ∃ z : Nat, (headsT a (a :: T) s.2.h)[x]! = (z : Int) ∧ _
    rw [hg]
    rcases hx with hx | hx
    · rw [if_neg (hnot x hx)]
      obtain ⟨z, h1, h2, h3⟩ := h.hd x hx
      exact ⟨z, h1, (dn z).2 (.inl h2), h3⟩
    · rw [if_pos hx]
      exact ⟨a, rfl, (dn a).2 (.inr (by simp)), hr x (hsub x hx), hfrom x hx⟩
  · intro x y hx hy hxy hyx
    rw [dn] at hx hy
    show (headsT a (a :: T) s.2.h)[x]! = (headsT a (a :: T) s.2.h)[y]!
    rw [hg, hg]
    rcases hx with hx | hx
    · rcases hy with hy | hy
      · rw [if_neg (hnot x hx), if_neg (hnot y hy)]; exact h.same x y hx hy hxy hyx
      · exact absurd hy (hnot y (h.closed hxy hx))
    · rcases hy with hy | hy
      · exact absurd hx (hnot x (h.closed hyx hy))
      · rw [if_pos hx, if_pos hy]

/-- Where what is open may lead: it is told, or open and not lower than k. -/
def Lo (s : St TJ) (k y : Nat) : Prop := Done s y ∨ (y ∈ s.2.o ∧ k ≤ s.2.m[y]!)
/-- What stays: of what was open, and of what was told. -/
structure Ke (O : List Nat) (s u : St TJ) : Prop where
  m : ∀ x ∈ O, u.2.m[x]! = s.2.m[x]!
  l : ∀ x ∈ O, u.2.l[x]! = s.2.l[x]!
  d : ∀ x, Done s x → Done u x
theorem Ke.refl (O : List Nat) (s : St TJ) : Ke O s s := ⟨fun _ _ => rfl, fun _ _ => rfl, fun _ h => h⟩
structure PreT (n : NetL) (a : Nat) (s : St TJ) : Prop where
  ti : TI n s
  o : ∃ O, s.2.o = O ++ [a]
structure InvT (n : NetL) (a : Nat) (s : St TJ) (ws : List Nat) (t : St TJ) : Prop where
  ti : TI n t
  o : ∀ O, s.2.o = O ++ [a] → ∃ T, t.2.o = O ++ a :: T ∧ Ke O s t ∧ (∀ x ∈ t.2.o, Rc n x a) ∧ (∀ x ∈ T, ∀ y ∈ wy n x, Lo t t.2.l[a]! y) ∧ (∀ y ∈ ws, Lo t t.2.l[a]! y)
  s : ∃ O, s.2.o = O ++ [a]
structure PostT (n : NetL) (a : Nat) (s u : St TJ) : Prop where
  ti : TI n u
  o : ∀ O, s.2.o = O ++ [a] → Ke O s u ∧ ((u.2.o = O ∧ Done u a) ∨ ∃ T, u.2.o = O ++ a :: T ∧ u.2.l[a]! < O.length ∧ (∀ x ∈ u.2.o, Rc n x a) ∧ ∀ x ∈ a :: T, ∀ y ∈ wy n x, Lo u u.2.l[a]! y)
theorem last_rc {n : NetL} {s : St TJ} {a : Nat} {O : List Nat} (h : TI n s) (ho : s.2.o = O ++ [a]) : ∀ x ∈ s.2.o, Rc n x a := by
  intro x hx
  obtain ⟨i, hi⟩ := mem_at.1 hx
  have : i < s.2.o.length := (List.getElem?_eq_some_iff.1 hi).1
  rw [ho, List.length_append] at this
  simp at this
  exact h.up i O.length x a hi (by rw [ho]; simp) (by omega)

theorem goT_o (a : Nat) (s : St TJ) : (goT opT a s).2.o = s.2.o ++ [a] := rfl
theorem Lo.of {s u : St TJ} {k k' y : Nat} (h : Lo s k y) (hso : ∀ x ∈ s.2.o, x ∈ u.2.o ∧ u.2.m[x]! = s.2.m[x]!) (hd : ∀ x, Done s x → Done u x) (hk : k' ≤ k) : Lo u k' y := by
  rcases h with h | ⟨h1, h2⟩
  · exact .inl (hd y h)
  · exact .inr ⟨(hso y h1).1, by rw [(hso y h1).2]; omega⟩
theorem app_cancel {O O' : List Nat} {a : Nat} (h : O ++ [a] = O' ++ [a]) : O = O' := by
  have := List.append_inj_left' h rfl; exact this

theorem tarjanR (n : NetL) : Rule n opT (PreT n) (PostT n) (InvT n) := by
  refine ⟨?_, ?_, ?_, ?_, ?_⟩
  · intro a s ha hp
    obtain ⟨O, ho⟩ := hp.o
    refine ⟨hp.ti, fun O' ho' => ⟨[], ho', Ke.refl _ _, last_rc hp.ti ho, fun x hx => by simp at hx, fun y hy => by simp at hy⟩, hp.o⟩
  · intro a s ws t b ha hb hi hk
    obtain ⟨O, ho⟩ := hi.s
    obtain ⟨T, h1, h2, h3, h4, h5⟩ := hi.o O ho
    have hao : a ∈ t.2.o := by rw [h1]; simp
    have hti := hi.ti.way hao hb h3
    refine ⟨hti, fun O' ho' => ?_, hi.s⟩
    obtain rfl : O' = O := by rw [ho] at ho'; exact (app_cancel ho').symm
    have hnd := hi.ti.nd
    rw [h1, List.nodup_append] at hnd
    have haO : ∀ x ∈ O', x ≠ a := fun x hx e => hnd.2.2 x hx a (by simp) e
    have hal : a < t.2.l.length := by rw [hi.ti.ll]; exact ha
    show ∃ T, (wayT a b t.2).o = O' ++ a :: T ∧ Ke O' s (t.1, wayT a b t.2) ∧ (∀ x ∈ (wayT a b t.2).o, Rc n x a) ∧ (∀ x ∈ T, ∀ y ∈ wy n x, Lo (t.1, wayT a b t.2) (wayT a b t.2).l[a]! y) ∧ ∀ y ∈ ws ++ [b], Lo (t.1, wayT a b t.2) (wayT a b t.2).l[a]! y
    by_cases hneg : t.2.h[b]! < 0
    · have hw : wayT a b t.2 = { t.2 with l := t.2.l.set a (min t.2.l[a]! t.2.l[b]!) } := by unfold wayT; rw [if_pos hneg]
      rw [hw]
      have hbo := (hi.ti.hm b (wy_lt hb)).1 hneg
      have hla : (t.2.l.set a (min t.2.l[a]! t.2.l[b]!))[a]! = min t.2.l[a]! t.2.l[b]! := by rw [set_get hal, if_pos rfl]
      refine ⟨T, h1, ⟨h2.m, fun x hx => ?_, h2.d⟩, h3, fun x hx y hy => ?_, fun y hy => ?_⟩
      · show (t.2.l.set a _)[x]! = _
        rw [set_get hal, if_neg (haO x hx)]; exact h2.l x hx
      · show Lo (t.1, _) ((t.2.l.set a (min t.2.l[a]! t.2.l[b]!))[a]!) y
        rw [hla]
        exact (h4 x hx y hy).of (fun x hx => ⟨hx, rfl⟩) (fun x hx => hx) (Nat.min_le_left _ _)
      · show Lo (t.1, _) ((t.2.l.set a (min t.2.l[a]! t.2.l[b]!))[a]!) y
        rw [hla]
        rcases List.mem_append.1 hy with hy | hy
        · exact (h5 y hy).of (fun x hx => ⟨hx, rfl⟩) (fun x hx => hx) (Nat.min_le_left _ _)
        · obtain rfl : y = b := by simpa using hy
          obtain ⟨i, hix⟩ := mem_at.1 hbo
          obtain ⟨j, z, g1, g2, g3, g4⟩ := hi.ti.lw i y hix
          refine .inr ⟨hbo, ?_⟩
          show min t.2.l[a]! t.2.l[y]! ≤ t.2.m[y]!
          rw [hi.ti.mr i y hix]
          have := Nat.min_le_right t.2.l[a]! t.2.l[y]!
          omega
    · have hw : wayT a b t.2 = t.2 := by unfold wayT; rw [if_neg hneg]
      rw [hw]
      refine ⟨T, h1, h2, h3, h4, fun y hy => ?_⟩
      rcases List.mem_append.1 hy with hy | hy
      · exact h5 y hy
      · obtain rfl : y = b := by simpa using hy
        exact .inl ⟨hk, fun hbo => hneg ((hi.ti.hm y (wy_lt hb)).2 hbo)⟩
  · intro a s ws t b ha hb htl hi hk
    obtain ⟨O, ho⟩ := hi.s
    obtain ⟨T, h1, h2, h3, h4, h5⟩ := hi.o O ho
    exact ⟨hi.ti.come (wy_lt hb) hk (fun x hx => (h3 x hx).step hb), ⟨t.2.o, rfl⟩⟩
  · intro a s ws t b u ha hb htl hM hi hk hP
    obtain ⟨O, ho⟩ := hi.s
    obtain ⟨T, h1, h2, h3, h4, h5⟩ := hi.o O ho
    have hbt : b < n.length := wy_lt hb
    have hbo : b ∉ t.2.o := fun hx => by rw [hi.ti.kn b hx] at hk; cases hk
    have hml : b < t.2.m.length := by rw [hi.ti.ml]; exact hbt
    have hll : b < t.2.l.length := by rw [hi.ti.ll]; exact hbt
    have hkl : b < t.1.length := by rw [htl]; exact hbt
    obtain ⟨hke, hcase⟩ := hP.o t.2.o rfl
    have hne : ∀ x ∈ t.2.o, x ≠ b := fun x hx e => hbo (e ▸ hx)
    have um : ∀ x ∈ t.2.o, u.2.m[x]! = t.2.m[x]! := fun x hx => (hke.m x hx).trans (by
      show (t.2.m.set b _)[x]! = _
      rw [set_get hml, if_neg (hne x hx)])
    have ul : ∀ x ∈ t.2.o, u.2.l[x]! = t.2.l[x]! := fun x hx => (hke.l x hx).trans (by
      show (t.2.l.set b _)[x]! = _
      rw [set_get hll, if_neg (hne x hx)])
    have ud : ∀ x, Done t x → Done u x := fun x hx => hke.d x ⟨by
      show (t.1.set b true)[x]! = true
      rw [set_get hkl]; split
      · rfl
      · exact hx.1, fun hm => by
      rcases List.mem_append.1 hm with hm | hm
      · exact hx.2 hm
      · obtain rfl : x = b := by simpa using hm
        have h1 := hx.1; rw [hk] at h1; cases h1⟩
    have hao : a ∈ t.2.o := by rw [h1]; simp
    have hOt : ∀ x ∈ O, x ∈ t.2.o := fun x hx => by rw [h1]; exact List.mem_append_left _ hx
    have hnd := hi.ti.nd
    rw [h1, List.nodup_append] at hnd
    have haO : ∀ x ∈ O, x ≠ a := fun x hx e => hnd.2.2 x hx a (by simp) e
    rcases hcase with ⟨huo, hdb⟩ | ⟨T', huo, hlow, hrb, hT'⟩
    · -- what it came to is told
      have hw : wayT a b u.2 = u.2 := by
        unfold wayT
        rw [if_neg]
        intro hneg
        exact hdb.2 ((hP.ti.hm b hbt).1 hneg)
      have hso : ∀ x ∈ t.2.o, x ∈ u.2.o ∧ u.2.m[x]! = t.2.m[x]! := fun x hx => ⟨by rw [huo]; exact hx, um x hx⟩
      refine ⟨by show TI n (u.1, wayT a b u.2); rw [hw]; exact hP.ti, fun O' ho' => ?_, hi.s⟩
      obtain rfl : O' = O := by rw [ho] at ho'; exact (app_cancel ho').symm
      show ∃ T, (wayT a b u.2).o = _ ∧ Ke O' s (u.1, wayT a b u.2) ∧ (∀ x ∈ (wayT a b u.2).o, _) ∧ (∀ x ∈ T, ∀ y ∈ wy n x, Lo (u.1, wayT a b u.2) (wayT a b u.2).l[a]! y) ∧ ∀ y ∈ ws ++ [b], Lo (u.1, wayT a b u.2) (wayT a b u.2).l[a]! y
      rw [hw]
      refine ⟨T, huo.trans h1, ⟨fun x hx => (um x (hOt x hx)).trans (h2.m x hx), fun x hx => (ul x (hOt x hx)).trans (h2.l x hx), fun x hx => ud x (h2.d x hx)⟩, fun x hx => h3 x (by rw [huo] at hx; exact hx), fun x hx y hy => ?_, fun y hy => ?_⟩
      · rw [ul a hao]; exact (h4 x hx y hy).of hso ud (Nat.le_refl _)
      · rw [ul a hao]
        rcases List.mem_append.1 hy with hy | hy
        · exact (h5 y hy).of hso ud (Nat.le_refl _)
        · obtain rfl : y = b := by simpa using hy
          exact .inl hdb
    · -- it is open still
      have hbu : b ∈ u.2.o := by rw [huo]; simp
      have hneg : u.2.h[b]! < 0 := (hP.ti.hm b hbt).2 hbu
      have hau : a ∈ u.2.o := by rw [huo]; exact List.mem_append_left _ hao
      have hal : a < u.2.l.length := by rw [hP.ti.ll]; exact ha
      have hso : ∀ x ∈ t.2.o, x ∈ u.2.o ∧ u.2.m[x]! = t.2.m[x]! := fun x hx => ⟨by rw [huo]; exact List.mem_append_left _ hx, um x hx⟩
      -- all leads to a
      have hba : Rc n b a := by
        have hpos : u.2.o[t.2.o.length]? = some b := by rw [huo]; simp
        obtain ⟨j, y, g1, g2, g3, g4⟩ := hP.ti.lw _ b hpos
        rw [huo, List.getElem?_append_left (by omega)] at g3
        exact g4.trans (h3 y (mem_at.2 ⟨j, g3⟩))
      have hra : ∀ x ∈ u.2.o, Rc n x a := fun x hx => (hrb x hx).trans hba
      have hti : TI n (u.1, wayT a b u.2) := hP.ti.way hau hb hra
      refine ⟨hti, fun O' ho' => ?_, hi.s⟩
      obtain rfl : O' = O := by rw [ho] at ho'; exact (app_cancel ho').symm
      have hw : wayT a b u.2 = { u.2 with l := u.2.l.set a (min u.2.l[a]! u.2.l[b]!) } := by unfold wayT; rw [if_pos hneg]
      show ∃ T, (wayT a b u.2).o = _ ∧ Ke O' s (u.1, wayT a b u.2) ∧ (∀ x ∈ (wayT a b u.2).o, _) ∧ (∀ x ∈ T, ∀ y ∈ wy n x, Lo (u.1, wayT a b u.2) (wayT a b u.2).l[a]! y) ∧ ∀ y ∈ ws ++ [b], Lo (u.1, wayT a b u.2) (wayT a b u.2).l[a]! y
      rw [hw]
      have hla : (u.2.l.set a (min u.2.l[a]! u.2.l[b]!))[a]! = min u.2.l[a]! u.2.l[b]! := by rw [set_get hal, if_pos rfl]
      refine ⟨T ++ b :: T', by show u.2.o = _; rw [huo, h1]; simp, ⟨fun x hx => (um x (hOt x hx)).trans (h2.m x hx), fun x hx => ?_, fun x hx => ud x (h2.d x hx)⟩, hra, fun x hx y hy => ?_, fun y hy => ?_⟩
      · show (u.2.l.set a _)[x]! = _
        rw [set_get hal, if_neg (haO x hx)]; exact (ul x (hOt x hx)).trans (h2.l x hx)
      · show Lo (u.1, _) (u.2.l.set a (min u.2.l[a]! u.2.l[b]!))[a]! y
        rw [hla]
        rcases List.mem_append.1 hx with hx | hx
        · refine (h4 x hx y hy).of hso ud ?_
          rw [← ul a hao]; exact Nat.min_le_left _ _
        · exact (hT' x hx y hy).of (fun x hx => ⟨hx, rfl⟩) (fun x hx => hx) (Nat.min_le_right _ _)
      · show Lo (u.1, _) (u.2.l.set a (min u.2.l[a]! u.2.l[b]!))[a]! y
        rw [hla]
        rcases List.mem_append.1 hy with hy | hy
        · refine (h5 y hy).of hso ud ?_
          rw [← ul a hao]; exact Nat.min_le_left _ _
        · obtain rfl : y = b := by simpa using hy
          refine .inr ⟨hbu, ?_⟩
          show min u.2.l[a]! u.2.l[y]! ≤ u.2.m[y]!
          have hpos : u.2.o[t.2.o.length]? = some y := by rw [huo]; simp
          rw [hP.ti.mr _ y hpos]
          have := Nat.min_le_right u.2.l[a]! u.2.l[y]!
          omega
  · intro a s t ha hsl hLe hi
    obtain ⟨O, ho⟩ := hi.s
    obtain ⟨T, h1, h2, h3, h4, h5⟩ := hi.o O ho
    have hpos : t.2.o[O.length]? = some a := by rw [h1]; simp
    have hma : t.2.m[a]! = O.length := hi.ti.mr _ a hpos
    obtain ⟨j, y, g1, g2, g3, g4⟩ := hi.ti.lw _ a hpos
    have hall : ∀ x ∈ a :: T, ∀ y ∈ wy n x, Lo t t.2.l[a]! y := by
      intro x hx
      rcases List.mem_cons.1 hx with rfl | hx
      · exact h5
      · exact h4 x hx
    by_cases hlt : t.2.l[a]! < O.length
    · have hw : leaveT a t.2 = t.2 := by unfold leaveT; rw [if_pos (by rw [hma]; exact hlt)]
      refine ⟨by show TI n (t.1, leaveT a t.2); rw [hw]; exact hi.ti, fun O' ho' => ?_⟩
      obtain rfl : O' = O := by rw [ho] at ho'; exact (app_cancel ho').symm
      show Ke O' s (t.1, leaveT a t.2) ∧ (((leaveT a t.2).o = O' ∧ Done (t.1, leaveT a t.2) a) ∨ ∃ T, (leaveT a t.2).o = O' ++ a :: T ∧ (leaveT a t.2).l[a]! < O'.length ∧ (∀ x ∈ (leaveT a t.2).o, Rc n x a) ∧ ∀ x ∈ a :: T, ∀ y ∈ wy n x, Lo (t.1, leaveT a t.2) (leaveT a t.2).l[a]! y)
      rw [hw]
      exact ⟨h2, .inr ⟨T, h1, hlt, h3, hall⟩⟩
    · have hle : t.2.l[a]! = O.length := by omega
      have htake : t.2.o.take t.2.m[a]! = O := by rw [hma, h1, List.take_left]
      have hdrop : t.2.o.drop t.2.m[a]! = a :: T := by rw [hma, h1, List.drop_left]
      have hw : leaveT a t.2 = { t.2 with h := headsT a (a :: T) t.2.h, o := O } := by
        unfold leaveT
        rw [if_neg (by rw [hma]; exact hlt), htake, hdrop]
      have hcl : ∀ x ∈ a :: T, ∀ y ∈ wy n x, Done t y ∨ y ∈ a :: T := by
        intro x hx y hy
        rcases hall x hx y hy with h | ⟨h, hk⟩
        · exact .inl h
        · right
          obtain ⟨i, hix⟩ := mem_at.1 h
          rw [hi.ti.mr i y hix, hle] at hk
          rw [h1, List.getElem?_append_right hk] at hix
          exact mem_at.2 ⟨_, hix⟩
      have hti := hi.ti.close h1 h3 hcl
      have hnd := hi.ti.nd
      rw [h1, List.nodup_append] at hnd
      refine ⟨by show TI n (t.1, leaveT a t.2); rw [hw]; exact hti, fun O' ho' => ?_⟩
      obtain rfl : O' = O := by rw [ho] at ho'; exact (app_cancel ho').symm
      show Ke O' s (t.1, leaveT a t.2) ∧ (((leaveT a t.2).o = O' ∧ Done (t.1, leaveT a t.2) a) ∨ ∃ T, (leaveT a t.2).o = O' ++ a :: T ∧ (leaveT a t.2).l[a]! < O'.length ∧ (∀ x ∈ (leaveT a t.2).o, Rc n x a) ∧ ∀ x ∈ a :: T, ∀ y ∈ wy n x, Lo (t.1, leaveT a t.2) (leaveT a t.2).l[a]! y)
      rw [hw]
      exact ⟨⟨h2.m, h2.l, fun x hx => ⟨(h2.d x hx).1, fun hO => (h2.d x hx).2 (by rw [h1]; exact List.mem_append_left _ hO)⟩⟩, .inl ⟨rfl, hi.ti.kn a (by rw [h1]; simp), fun hO => hnd.2.2 a hO a (by simp) rfl⟩⟩

theorem tarjan (n : NetL) (f a : Nat) (s : St TJ) (ha : a < n.length) (hl : s.1.length = n.length) (hu : unk s.1 < f) (hp : PreT n a s) : PostT n a s (dfs n opT f a s) := (tarjanR n).run f a s ha hl hu hp

/-! ### the head of each point's ring -/
def startT (n : NetL) : St TJ := (List.replicate n.length false, ⟨List.replicate n.length 0, List.replicate n.length 0, List.replicate n.length 0, []⟩)
def headSt (n : NetL) (k : Nat) : St TJ := (List.range k).foldl (walkD n opT (n.length + 1)) (startT n)
/-- Of each point the head of its ring. -/
def headL (n : NetL) : List Int := (headSt n n.length).2.h
theorem headSt_step (n : NetL) (k : Nat) : headSt n (k + 1) = walkD n opT (n.length + 1) (headSt n k) k := by
  unfold headSt; rw [List.range_succ, List.foldl_append]; rfl
theorem start_ti (n : NetL) : TI n (startT n) := by
  refine ⟨by simp [startT], by simp [startT], by simp [startT], by simp [startT], by simp [startT], fun x hx => by simp [startT] at hx, fun x hx => ?_, fun i x hi => by simp [startT] at hi, fun i x hi => by simp [startT] at hi, fun i j x y hi => by simp [startT] at hi, fun x hx => ?_, fun x hx => ?_, fun x y hx => ?_⟩
  · show (List.replicate n.length (0 : Int))[x]! < 0 ↔ x ∈ []
    rw [getElem!_pos _ x (by simpa using hx)]; simp
  all_goals
    have h1 : (List.replicate n.length false)[x]! = true := hx.1
    rw [rep_get] at h1; cases h1
theorem headSt_ti (n : NetL) : ∀ k : Nat, k ≤ n.length → TI n (headSt n k) ∧ (headSt n k).2.o = [] ∧ ∀ x, x < k → (headSt n k).1[x]! = true
  | 0, _ => ⟨start_ti n, rfl, fun x hx => by omega⟩
  | k + 1, hk => by
    obtain ⟨h1, h2, h3⟩ := headSt_ti n k (by omega)
    rw [headSt_step]
    unfold walkD
    cases hkn : (headSt n k).1[k]! with
    | true =>
      rw [if_neg (by simp)]
      refine ⟨h1, h2, fun x hx => ?_⟩
      by_cases e : x = k
      · rw [e]; exact hkn
      · exact h3 x (by omega)
    | false =>
      rw [if_pos ⟨by omega, rfl⟩]
      have hpre : PreT n k (goT opT k (headSt n k)) := ⟨h1.come (by omega) hkn (fun x hx => by rw [h2] at hx; simp at hx), ⟨[], by rw [goT_o, h2]⟩⟩
      have hgl : (goT opT k (headSt n k)).1.length = n.length := hpre.ti.kl
      have hun : unk (goT opT k (headSt n k)).1 < n.length + 1 := by have := unk_len (goT opT k (headSt n k)).1; omega
      have hp := tarjan n (n.length + 1) k _ (by omega) hgl hun hpre
      have hm := dfs_mono n opT (n.length + 1) k (goT opT k (headSt n k))
      obtain ⟨_, hc⟩ := hp.o [] (by rw [goT_o, h2])
      have hnil : (dfs n opT (n.length + 1) k (goT opT k (headSt n k))).2.o = [] := by
        rcases hc with h | ⟨T, _, h, _⟩
        · exact h.1
        · simp at h
      refine ⟨hp.ti, hnil, fun x hx => hm.up x ?_⟩
      show ((headSt n k).1.set k true)[x]! = true
      rw [set_get (by rw [h1.kl]; omega)]
      split
      · rfl
      · exact h3 x (by omega)
theorem headL_len (n : NetL) : (headL n).length = n.length := (headSt_ti n n.length (Nat.le_refl _)).1.hl
theorem all_done {n : NetL} {x : Nat} (hx : x < n.length) : Done (headSt n n.length) x := by
  obtain ⟨_, h2, h3⟩ := headSt_ti n n.length (Nat.le_refl _)
  exact ⟨h3 x hx, by rw [h2]; simp⟩
/-- A point's head is a point of its ring. -/
theorem head_in {n : NetL} {x : Nat} (hx : x < n.length) : ∃ z : Nat, z < n.length ∧ (headL n)[x]! = (z : Int) ∧ Rc n x z ∧ Rc n z x := by
  have ht := (headSt_ti n n.length (Nat.le_refl _)).1
  obtain ⟨z, h1, h2, h3, h4⟩ := ht.hd x (all_done hx)
  exact ⟨z, h2.lt ht, h1, h3, h4⟩
/-- Two points have the same head just if each leads to the other one, or they are one. -/
theorem head_same {n : NetL} {x y : Nat} (hx : x < n.length) (hy : y < n.length) : (headL n)[x]! = (headL n)[y]! ↔ x = y ∨ (Ld n x y ∧ Ld n y x) := by
  constructor
  · intro h
    obtain ⟨z, _, h1, h2, h3⟩ := head_in hx
    obtain ⟨z', _, h1', h2', h3'⟩ := head_in hy
    rw [h1, h1'] at h
    obtain rfl : z = z' := by omega
    rcases h2.trans h3' with e | e
    · exact .inl e
    · rcases h2'.trans h3 with e' | e'
      · exact .inl e'.symm
      · exact .inr ⟨e, e'⟩
  · rintro (rfl | ⟨h1, h2⟩)
    · rfl
    · exact (headSt_ti n n.length (Nat.le_refl _)).1.same x y (all_done hx) (all_done hy) h1 h2
/-- Some point leads back to itself just if one is not its own head, or leads to itself by one way. -/
theorem loops_iff (n : NetL) : (∃ a, Ld n a a) ↔ ∃ a, a < n.length ∧ ((headL n)[a]! ≠ (a : Int) ∨ a ∈ wy n a) := by
  constructor
  · rintro ⟨a, ha⟩
    have hal := ha.lt
    apply Classical.byContradiction
    intro hno
    have hno' : ∀ b, b < n.length → (headL n)[b]! = (b : Int) ∧ b ∉ wy n b := fun b hb =>
      ⟨Classical.byContradiction fun h => hno ⟨b, hb, .inl h⟩, fun h => hno ⟨b, hb, .inr h⟩⟩
    have hst : ∃ b, b ∈ wy n a ∧ Rc n b a := by
      cases ha with
      | one h => exact ⟨a, h, .refl _ _⟩
      | more h k => exact ⟨_, h, .inr k⟩
    obtain ⟨b, hb, hba⟩ := hst
    rcases hba with rfl | hba
    · exact (hno' b hal).2 hb
    · have := (head_same hal (wy_lt hb)).2 (.inr ⟨.one hb, hba⟩)
      rw [(hno' a hal).1, (hno' b (wy_lt hb)).1] at this
      obtain rfl : a = b := by omega
      exact (hno' a hal).2 hb
  · rintro ⟨a, ha, h | h⟩
    · obtain ⟨z, hz, h1, h2, h3⟩ := head_in ha
      rw [h1] at h
      rcases h2 with rfl | h2
      · exact absurd rfl h
      · rcases h3 with rfl | h3
        · exact absurd rfl h
        · exact ⟨a, h2.trans h3⟩
    · exact ⟨a, .one h⟩
end Go.Proofs.Ytaagpnepkjkfoaa.R6
