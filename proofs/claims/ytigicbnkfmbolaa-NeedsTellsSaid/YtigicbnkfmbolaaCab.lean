/-
  Nets, plainly: ways, what leads where, a search by depth over any doings, and what such a search keeps; no program. Rings, plainly: the search by depth that tells each point the head of its ring, and why it does; no program.
-/

namespace Go.Proofs.Ytigicbnkfmbolaa.R6
abbrev NetL := List (List Int)
/-- The points to which a point leads by one way, as its ways stand. -/
def wy (n : NetL) (a : Nat) : List Nat := (n[a]!).filterMap fun t => if 0 ≤ t ∧ t < (n.length : Int) then some t.toNat else none
theorem wy_mem {n : NetL} {a b : Nat} : b ∈ wy n a ↔ (b : Int) ∈ n[a]! ∧ b < n.length := by
  unfold wy
  rw [List.mem_filterMap]
  constructor
  · rintro ⟨t, ht, h⟩
    split at h
    · rename_i hc
      injection h with h
      subst h
      exact ⟨by rw [Int.toNat_of_nonneg hc.1]; exact ht, by omega⟩
    · cases h
  · rintro ⟨h, hb⟩
    exact ⟨b, h, by rw [if_pos ⟨by omega, by omega⟩]; simp⟩
theorem wy_lt {n : NetL} {a b : Nat} (h : b ∈ wy n a) : b < n.length := (wy_mem.1 h).2
theorem wy_out {n : NetL} {a : Nat} (h : n.length ≤ a) : wy n a = [] := by
  unfold wy
  rw [getElem!_neg n a (by omega)]; rfl
/-- One point leads to another one, over others or by one way. -/
inductive Ld (n : NetL) : Nat → Nat → Prop
  | one {a b : Nat} : b ∈ wy n a → Ld n a b
  | more {a b c : Nat} : b ∈ wy n a → Ld n b c → Ld n a c
theorem Ld.trans {n : NetL} {a b c : Nat} (h : Ld n a b) (k : Ld n b c) : Ld n a c := by
  induction h with
  | one h => exact .more h k
  | more h _ ih => exact .more h (ih k)
theorem Ld.lt {n : NetL} {a b : Nat} (h : Ld n a b) : b < n.length := by
  induction h with
  | one h => exact wy_lt h
  | more _ _ ih => exact ih
/-- The same point, or one to which it leads. -/
def Rc (n : NetL) (a b : Nat) : Prop := a = b ∨ Ld n a b
theorem Rc.refl (n : NetL) (a : Nat) : Rc n a a := .inl rfl
theorem Rc.trans {n : NetL} {a b c : Nat} (h : Rc n a b) (k : Rc n b c) : Rc n a c := by
  rcases h with rfl | h
  · exact k
  · rcases k with rfl | k
    · exact .inr h
    · exact .inr (h.trans k)
theorem Rc.one {n : NetL} {a b : Nat} (h : b ∈ wy n a) : Rc n a b := .inr (.one h)
theorem Rc.step {n : NetL} {a b c : Nat} (h : Rc n a b) (k : c ∈ wy n b) : Rc n a c := h.trans (.one k)
/-- How many points are not known. -/
def unk (K : List Bool) : Nat := (List.range K.length).countP (fun i => !K[i]!)
structure LeK (K K' : List Bool) : Prop where
  len : K'.length = K.length
  up : ∀ i : Nat, K[i]! = true → K'[i]! = true
theorem LeK.refl (K : List Bool) : LeK K K := ⟨rfl, fun _ h => h⟩
theorem LeK.trans {A B C : List Bool} (h : LeK A B) (k : LeK B C) : LeK A C := ⟨k.len.trans h.len, fun i hi => k.up i (h.up i hi)⟩
theorem set_get {α : Type} [Inhabited α] {l : List α} {k j : Nat} {y : α} (hk : k < l.length) : (l.set k y)[j]! = if j = k then y else l[j]! := by
  by_cases e : j = k
  · subst e; rw [if_pos rfl, getElem!_pos _ j (by simpa using hk), List.getElem_set_self]
  · rw [if_neg e]
    by_cases hjl : j < l.length
    · rw [getElem!_pos _ j (by simpa using hjl), getElem!_pos l j hjl, List.getElem_set_ne (Ne.symm e)]
    · rw [getElem!_neg _ j (by simpa using hjl), getElem!_neg l j hjl]
theorem LeK.set (K : List Bool) (b : Nat) : LeK K (K.set b true) := by
  refine ⟨by simp, fun i hi => ?_⟩
  by_cases hb : b < K.length
  · rw [set_get hb]; split
    · rfl
    · exact hi
  · rw [List.set_eq_of_length_le (by omega)]; exact hi
theorem unk_le {K K' : List Bool} (h : LeK K K') : unk K' ≤ unk K := by
  unfold unk
  rw [h.len]
  refine List.countP_mono_left (fun x _ hx => ?_)
  cases hk : K[x]! with
  | false => rfl
  | true => rw [h.up x hk] at hx; cases hx
theorem countP_lt {α : Type} {p q : α → Bool} : ∀ {l : List α} {x : α}, x ∈ l → (∀ y, p y = true → q y = true) → q x = true → p x = false → l.countP p < l.countP q
  | y :: r, x, hx, hpq, hq, hp => by
    have hm : r.countP p ≤ r.countP q := List.countP_mono_left (fun z _ h => hpq z h)
    rw [List.countP_cons, List.countP_cons]
    rcases List.mem_cons.1 hx with rfl | hx
    · rw [hp, hq]; simp; omega
    · have := countP_lt hx hpq hq hp
      cases hy : p y with
      | false => simp; omega
      | true => rw [hpq y hy]; simp; omega
theorem unk_set {K : List Bool} {b : Nat} (hb : b < K.length) (h : K[b]! = false) : unk (K.set b true) < unk K := by
  unfold unk
  rw [show (K.set b true).length = K.length from by simp]
  refine countP_lt (List.mem_range.2 hb) (fun y hy => ?_) (by show (!K[b]!) = true; rw [h]; rfl) (by show (!(K.set b true)[b]!) = false; rw [set_get hb, if_pos rfl]; rfl)
  change (!(K.set b true)[y]!) = true at hy
  show (!K[y]!) = true
  rw [set_get hb] at hy
  split at hy
  · cases hy
  · exact hy
theorem unk_len (K : List Bool) : unk K ≤ K.length := by
  unfold unk
  have := List.countP_le_length (p := fun i => !K[i]!) (l := List.range K.length)
  simpa using this
structure Op (σ : Type) where
  come : Nat → σ → σ
  way : Nat → Nat → σ → σ
  leave : Nat → σ → σ
abbrev St (σ : Type) := List Bool × σ
def goT {σ : Type} (o : Op σ) (b : Nat) (s : St σ) : St σ := (s.1.set b true, o.come b s.2)
def stepD {σ : Type} (o : Op σ) (rec : Nat → St σ → St σ) (a : Nat) (s : St σ) (b : Nat) : St σ :=
  let s1 := if s.1[b]! then s else rec b (goT o b s)
  (s1.1, o.way a b s1.2)
def dfs {σ : Type} (n : NetL) (o : Op σ) : Nat → Nat → St σ → St σ
  | 0, _, s => s
  | f + 1, a, s => let s1 := (wy n a).foldl (stepD o (dfs n o f) a) s
                   (s1.1, o.leave a s1.2)
/-- A call of what is handed back: from a point, if it is one, and not known. -/
def walkD {σ : Type} (n : NetL) (o : Op σ) (f : Nat) (s : St σ) (a : Nat) : St σ := if a < n.length ∧ s.1[a]! = false then dfs n o f a (goT o a s) else s
theorem dfs_mono {σ : Type} (n : NetL) (o : Op σ) : ∀ (f a : Nat) (s : St σ), LeK s.1 (dfs n o f a s).1
  | 0, _, s => LeK.refl _
  | f + 1, a, s => by
    have : ∀ (ws : List Nat) (t : St σ), LeK s.1 t.1 → LeK s.1 (ws.foldl (stepD o (dfs n o f) a) t).1 := by
      intro ws
      induction ws with
      | nil => intro t h; exact h
      | cons x r ih =>
        intro t h
        refine ih _ ?_
        unfold stepD
        simp only
        split
        · exact h
        · exact (h.trans (LeK.set t.1 x)).trans (dfs_mono n o f x (goT o x t))
    exact this _ _ (LeK.refl _)
/-- What a search keeps. -/
theorem dfs_rule {σ : Type} (n : NetL) (o : Op σ) (Pre : Nat → St σ → Prop) (Post : Nat → St σ → St σ → Prop) (Inv : Nat → St σ → List Nat → St σ → Prop)
    (hinit : ∀ a s, a < n.length → Pre a s → Inv a s [] s)
    (hknown : ∀ a s ws t b, a < n.length → b ∈ wy n a → Inv a s ws t → t.1[b]! = true → Inv a s (ws ++ [b]) (t.1, o.way a b t.2))
    (hpre : ∀ a s ws t b, a < n.length → b ∈ wy n a → t.1.length = n.length → Inv a s ws t → t.1[b]! = false → Pre b (goT o b t))
    (hpost : ∀ a s ws t b u, a < n.length → b ∈ wy n a → t.1.length = n.length → LeK (goT o b t).1 u.1 → Inv a s ws t → t.1[b]! = false → Post b (goT o b t) u → Inv a s (ws ++ [b]) (u.1, o.way a b u.2))
    (hleave : ∀ a s t, a < n.length → s.1.length = n.length → LeK s.1 t.1 → Inv a s (wy n a) t → Post a s (t.1, o.leave a t.2)) :
    ∀ (f a : Nat) (s : St σ), a < n.length → s.1.length = n.length → unk s.1 < f → Pre a s → Post a s (dfs n o f a s)
  | 0, _, _, _, _, h, _ => absurd h (by omega)
  | f + 1, a, s, ha, hl, hu, hp => by
    have : ∀ (ws pre : List Nat) (t : St σ), (∀ b ∈ ws, b ∈ wy n a) → LeK s.1 t.1 → Inv a s pre t → Inv a s (pre ++ ws) (ws.foldl (stepD o (dfs n o f) a) t) ∧ LeK s.1 (ws.foldl (stepD o (dfs n o f) a) t).1 := by
      intro ws
      induction ws with
      | nil => intro pre t _ h hi; exact ⟨by simpa using hi, h⟩
      | cons x r ih =>
        intro pre t hm h hi
        have hx := hm x (by simp)
        have htl : t.1.length = n.length := h.len.trans hl
        have hxl : x < t.1.length := by rw [htl]; exact wy_lt hx
        have hstep : Inv a s (pre ++ [x]) (stepD o (dfs n o f) a t x) ∧ LeK s.1 (stepD o (dfs n o f) a t x).1 := by
          unfold stepD
          cases hk : t.1[x]! with
          | true => simp only [if_true]; exact ⟨hknown a s pre t x ha hx hi hk, h⟩
          | false =>
            have hul : unk (goT o x t).1 < f := by
              have h1 := unk_le h
              have h2 : unk (t.1.set x true) < unk t.1 := unk_set hxl hk
              show unk (t.1.set x true) < f
              omega
            have hgl : (goT o x t).1.length = n.length := by show (t.1.set x true).length = n.length; rw [List.length_set, htl]
            have hP := dfs_rule n o Pre Post Inv hinit hknown hpre hpost hleave f x (goT o x t) (wy_lt hx) hgl hul (hpre a s pre t x ha hx htl hi hk)
            have hM := dfs_mono n o f x (goT o x t)
            simp only [Bool.false_eq_true, if_false]
            exact ⟨hpost a s pre t x _ ha hx htl hM hi hk hP, (h.trans (LeK.set t.1 x)).trans hM⟩
        have := ih (pre ++ [x]) _ (fun b hb => hm b (by simp [hb])) hstep.2 hstep.1
        simpa using this
    have h := this (wy n a) [] s (fun _ h => h) (LeK.refl _) (hinit a s ha hp)
    exact hleave a s _ ha hl h.2 (by simpa using h.1)
/-- The five steps of a rule. -/
structure Rule {σ : Type} (n : NetL) (o : Op σ) (Pre : Nat → St σ → Prop) (Post : Nat → St σ → St σ → Prop) (Inv : Nat → St σ → List Nat → St σ → Prop) : Prop where
  init : ∀ a s, a < n.length → Pre a s → Inv a s [] s
  known : ∀ a s ws t b, a < n.length → b ∈ wy n a → Inv a s ws t → t.1[b]! = true → Inv a s (ws ++ [b]) (t.1, o.way a b t.2)
  pre : ∀ a s ws t b, a < n.length → b ∈ wy n a → t.1.length = n.length → Inv a s ws t → t.1[b]! = false → Pre b (goT o b t)
  post : ∀ a s ws t b u, a < n.length → b ∈ wy n a → t.1.length = n.length → LeK (goT o b t).1 u.1 → Inv a s ws t → t.1[b]! = false → Post b (goT o b t) u → Inv a s (ws ++ [b]) (u.1, o.way a b u.2)
  leave : ∀ a s t, a < n.length → s.1.length = n.length → LeK s.1 t.1 → Inv a s (wy n a) t → Post a s (t.1, o.leave a t.2)
theorem Rule.run {σ : Type} {n : NetL} {o : Op σ} {Pre : Nat → St σ → Prop} {Post : Nat → St σ → St σ → Prop} {Inv : Nat → St σ → List Nat → St σ → Prop} (R : Rule n o Pre Post Inv) (f a : Nat) (s : St σ) (ha : a < n.length) (hl : s.1.length = n.length) (hu : unk s.1 < f) (hp : Pre a s) : Post a s (dfs n o f a s) :=
  dfs_rule n o Pre Post Inv R.init R.known R.pre R.post R.leave f a s ha hl hu hp
/-- What holds when some ways are gone. -/
theorem Rule.part {σ : Type} {n : NetL} {o : Op σ} {Pre : Nat → St σ → Prop} {Post : Nat → St σ → St σ → Prop} {Inv : Nat → St σ → List Nat → St σ → Prop} (R : Rule n o Pre Post Inv) (f a : Nat) (s : St σ) (ha : a < n.length) (hl : s.1.length = n.length) (hu : unk s.1 < f + 1) (hp : Pre a s)
    (ws : List Nat) (hw : ∀ b ∈ ws, b ∈ wy n a) : Inv a s ws (ws.foldl (stepD o (dfs n o f) a) s) ∧ LeK s.1 (ws.foldl (stepD o (dfs n o f) a) s).1 := by
  have : ∀ (ws pre : List Nat) (t : St σ), (∀ b ∈ ws, b ∈ wy n a) → LeK s.1 t.1 → Inv a s pre t → Inv a s (pre ++ ws) (ws.foldl (stepD o (dfs n o f) a) t) ∧ LeK s.1 (ws.foldl (stepD o (dfs n o f) a) t).1 := by
    intro ws
    induction ws with
    | nil => intro pre t _ h hi; exact ⟨by simpa using hi, h⟩
    | cons x r ih =>
      intro pre t hm h hi
      have hx := hm x (by simp)
      have htl : t.1.length = n.length := h.len.trans hl
      have hxl : x < t.1.length := by rw [htl]; exact wy_lt hx
      have hstep : Inv a s (pre ++ [x]) (stepD o (dfs n o f) a t x) ∧ LeK s.1 (stepD o (dfs n o f) a t x).1 := by
        unfold stepD
        cases hk : t.1[x]! with
        | true => simp only [if_true]; exact ⟨R.known a s pre t x ha hx hi hk, h⟩
        | false =>
          have hul : unk (goT o x t).1 < f := by
            have h1 := unk_le h
            have h2 : unk (t.1.set x true) < unk t.1 := unk_set hxl hk
            show unk (t.1.set x true) < f
            omega
          have hgl : (goT o x t).1.length = n.length := by show (t.1.set x true).length = n.length; rw [List.length_set, htl]
          have hP := R.run f x (goT o x t) (wy_lt hx) hgl hul (R.pre a s pre t x ha hx htl hi hk)
          have hM := dfs_mono n o f x (goT o x t)
          simp only [Bool.false_eq_true, if_false]
          exact ⟨R.post a s pre t x _ ha hx htl hM hi hk hP, (h.trans (LeK.set t.1 x)).trans hM⟩
      have := ih (pre ++ [x]) _ (fun b hb => hm b (by simp [hb])) hstep.2 hstep.1
      simpa using this
  simpa using this ws [] s hw (LeK.refl _) (R.init a s ha hp)
theorem rule_triv {σ : Type} (n : NetL) (o : Op σ) : Rule n o (fun _ _ => True) (fun _ _ _ => True) (fun _ _ _ _ => True) :=
  ⟨fun _ _ _ _ => trivial, fun _ _ _ _ _ _ _ _ _ => trivial, fun _ _ _ _ _ _ _ _ _ _ => trivial, fun _ _ _ _ _ _ _ _ _ _ _ _ _ => trivial, fun _ _ _ _ _ _ _ => trivial⟩
def wyR (N : Nat) (l : List Int) : List Nat := l.filterMap fun t => if 0 ≤ t ∧ t < (N : Int) then some t.toNat else none
theorem wy_R (n : NetL) (a : Nat) : wy n a = wyR n.length n[a]! := rfl
theorem wyR_next {N : Nat} {l : List Int} {i : Nat} (hi : i < l.length) : wyR N (l.take (i + 1)) = wyR N (l.take i) ++ (if 0 ≤ l[i]! ∧ l[i]! < (N : Int) then [l[i]!.toNat] else []) := by
  unfold wyR
  rw [List.take_succ_eq_append_getElem hi, List.filterMap_append, ← getElem!_pos l i hi]
  congr 1
  by_cases h : 0 ≤ l[i]! ∧ l[i]! < (N : Int)
  · rw [List.filterMap_cons_some (b := l[i]!.toNat) (by rw [if_pos h]), List.filterMap_nil, if_pos h]
  · rw [List.filterMap_cons_none (by rw [if_neg h]), List.filterMap_nil, if_neg h]
theorem wyR_sub {N : Nat} {l : List Int} {i : Nat} : ∀ b ∈ wyR N (l.take i), b ∈ wyR N l := by
  intro b hb
  unfold wyR at hb ⊢
  rw [List.mem_filterMap] at hb ⊢
  obtain ⟨t, ht, h⟩ := hb
  exact ⟨t, List.mem_of_mem_take ht, h⟩
def opR : Op (List Bool) := ⟨fun _ s => s, fun _ b s => s.set b true, fun _ s => s⟩
/-- Of each point, whether a point leads to it. -/
def ledL (n : NetL) (r : Nat) : List Bool := (walkD n opR (n.length + 1) (List.replicate n.length false, List.replicate n.length false) r).2
theorem rep_get (k i : Nat) : (List.replicate k false)[i]! = false := by
  by_cases h : i < k
  · rw [getElem!_pos _ i (by simpa using h)]; simp
  · rw [getElem!_neg _ i (by simpa using h)]; rfl
theorem led_len (n : NetL) (o : Op (List Bool)) (ho : o = opR) : ∀ (f a : Nat) (s : St (List Bool)), (dfs n o f a s).2.length = s.2.length
  | 0, _, _ => rfl
  | f + 1, a, s => by
    subst ho
    have : ∀ (ws : List Nat) (t : St (List Bool)), t.2.length = s.2.length → (ws.foldl (stepD opR (dfs n opR f) a) t).2.length = s.2.length := by
      intro ws
      induction ws with
      | nil => intro t h; exact h
      | cons x r ih =>
        intro t h
        refine ih _ ?_
        unfold stepD
        simp only
        split
        · show (t.2.set x true).length = _; rw [List.length_set, h]
        · show (List.set _ x true).length = _
          rw [List.length_set, led_len n opR rfl f x _]; exact h
    exact this _ _ rfl
theorem walk_led_len (n : NetL) (f : Nat) (s : St (List Bool)) (a : Nat) : (walkD n opR f s a).2.length = s.2.length := by
  unfold walkD; split
  · rw [led_len n opR rfl]; rfl
  · rfl
theorem ledL_iff {n : NetL} {r : Nat} (hr : r < n.length) (j : Nat) : (ledL n r)[j]! = true ↔ Ld n r j := by
  have key := dfs_rule n opR
    (fun a s => s.2.length = n.length ∧ (∀ y : Nat, s.2[y]! = true → Ld n r y) ∧ Rc n r a ∧ s.1[a]! = true)
    (fun a s u => u.2.length = n.length ∧ (∀ y : Nat, u.2[y]! = true → Ld n r y) ∧ (∀ y : Nat, s.2[y]! = true → u.2[y]! = true) ∧
      ∀ x, u.1[x]! = true → (s.1[x]! = false ∨ x = a) → ∀ y ∈ wy n x, u.1[y]! = true ∧ u.2[y]! = true)
    (fun a s ws t => t.2.length = n.length ∧ (∀ y : Nat, t.2[y]! = true → Ld n r y) ∧ Rc n r a ∧ s.1[a]! = true ∧ (∀ y : Nat, s.2[y]! = true → t.2[y]! = true) ∧ LeK s.1 t.1 ∧
      (∀ x, t.1[x]! = true → s.1[x]! = false → ∀ y ∈ wy n x, t.1[y]! = true ∧ t.2[y]! = true) ∧ ∀ y ∈ ws, t.1[y]! = true ∧ t.2[y]! = true)
    (by
      intro a s ha ⟨h0, h1, h2, h3⟩
      exact ⟨h0, h1, h2, h3, fun _ h => h, LeK.refl _, fun x hx hx' => (by rw [hx] at hx'; cases hx'), fun y hy => (by simp at hy)⟩)
    (by
      intro a s ws t b ha hb ⟨h0, h1, h2, h3, h4, h5, h6, h7⟩ hk
      have hbl : b < t.2.length := by rw [h0]; exact wy_lt hb
      refine ⟨by show (t.2.set b true).length = _; rw [List.length_set, h0], fun y hy => ?_, h2, h3, fun y hy => ?_, h5, fun x hx hx' y hy => ⟨(h6 x hx hx' y hy).1, ?_⟩, fun y hy => ?_⟩
      · change (t.2.set b true)[y]! = true at hy
        rw [set_get hbl] at hy
        split at hy
        · rename_i e; subst e
          rcases h2.step hb with e | h
          · subst e
            rcases h2 with e | h2
            · subst e; exact .one hb
            · exact h2.trans (.one hb)
          · exact h
        · exact h1 y hy
      · change (t.2.set b true)[y]! = true
        rw [set_get hbl]; split
        · rfl
        · exact h4 y hy
      · change (t.2.set b true)[y]! = true
        rw [set_get hbl]; split
        · rfl
        · exact (h6 x hx hx' y hy).2
      · change t.1[y]! = true ∧ (t.2.set b true)[y]! = true
        rw [set_get hbl]
        rcases List.mem_append.1 hy with hy | hy
        · refine ⟨(h7 y hy).1, ?_⟩
          split
          · rfl
          · exact (h7 y hy).2
        · obtain rfl : y = b := by simpa using hy
          exact ⟨hk, by rw [if_pos rfl]⟩)
    (by
      intro a s ws t b ha hb htl ⟨h0, h1, h2, h3, h4, h5, h6, h7⟩ hk
      refine ⟨h0, h1, h2.step hb, ?_⟩
      show (t.1.set b true)[b]! = true
      rw [set_get (by rw [htl]; exact wy_lt hb), if_pos rfl])
    (by
      intro a s ws t b u ha hb htl hM ⟨h0, h1, h2, h3, h4, h5, h6, h7⟩ hk ⟨p0, p1, p2, p3⟩
      have hbl : b < u.2.length := by rw [p0]; exact wy_lt hb
      have hbt : b < t.1.length := by rw [htl]; exact wy_lt hb
      have hb1 : (goT opR b t).1[b]! = true := by show (t.1.set b true)[b]! = true; rw [set_get hbt, if_pos rfl]
      have hLe : LeK t.1 u.1 := (LeK.set t.1 b).trans hM
      have hub : u.1[b]! = true := hM.up b hb1
      refine ⟨by show (u.2.set b true).length = _; rw [List.length_set, p0], fun y hy => ?_, h2, h3, fun y hy => ?_, h5.trans hLe, fun x hx hx' y hy => ?_, fun y hy => ?_⟩
      · change (u.2.set b true)[y]! = true at hy
        rw [set_get hbl] at hy
        split at hy
        · rename_i e; subst e
          rcases h2 with e | h2
          · subst e; exact .one hb
          · exact h2.trans (.one hb)
        · exact p1 y hy
      · change (u.2.set b true)[y]! = true
        rw [set_get hbl]; split
        · rfl
        · exact p2 y (h4 y hy)
      · change u.1[x]! = true at hx
        show u.1[y]! = true ∧ (u.2.set b true)[y]! = true
        rw [set_get hbl]
        have hux : u.1[y]! = true ∧ u.2[y]! = true := by
          cases hxt : t.1[x]! with
          | true => exact ⟨hLe.up y (h6 x hxt hx' y hy).1, p2 y (h6 x hxt hx' y hy).2⟩
          | false =>
            refine p3 x hx ?_ y hy
            by_cases e : x = b
            · exact .inr e
            · left; show (t.1.set b true)[x]! = false
              rw [set_get hbt, if_neg e]; exact hxt
        refine ⟨hux.1, ?_⟩
        split
        · rfl
        · exact hux.2
      · show u.1[y]! = true ∧ (u.2.set b true)[y]! = true
        rw [set_get hbl]
        rcases List.mem_append.1 hy with hy | hy
        · refine ⟨hLe.up y (h7 y hy).1, ?_⟩
          split
          · rfl
          · exact p2 y (h7 y hy).2
        · obtain rfl : y = b := by simpa using hy
          exact ⟨hub, by rw [if_pos rfl]⟩)
    (by
      intro a s t ha hsl hLe ⟨h0, h1, h2, h3, h4, h5, h6, h7⟩
      refine ⟨h0, h1, h4, fun x hx hx' => ?_⟩
      rcases hx' with hx' | rfl
      · exact h6 x hx hx'
      · exact h7)
  have hfr : (List.replicate n.length false)[r]! = false := rep_get _ _
  have hrl : r < (List.replicate n.length false).length := by simpa using hr
  have hk1 : ((List.replicate n.length false).set r true)[r]! = true := by rw [set_get hrl, if_pos rfl]
  have hun : unk ((List.replicate n.length false).set r true) < n.length + 1 := by
    have := unk_len ((List.replicate n.length false).set r true)
    simp at this; omega
  have h := key (n.length + 1) r ((List.replicate n.length false).set r true, List.replicate n.length false) hr (by simp) hun
    ⟨by simp, fun y hy => (by rw [rep_get] at hy; cases hy), .refl _ _, hk1⟩
  have e : ledL n r = (dfs n opR (n.length + 1) r ((List.replicate n.length false).set r true, List.replicate n.length false)).2 := by
    unfold ledL walkD
    rw [if_pos ⟨hr, hfr⟩]; rfl
  have hm := dfs_mono n opR (n.length + 1) r ((List.replicate n.length false).set r true, List.replicate n.length false)
  rw [e]
  generalize dfs n opR (n.length + 1) r ((List.replicate n.length false).set r true, List.replicate n.length false) = u at h hm
  refine ⟨h.2.1 j, fun hj => ?_⟩
  have cl : ∀ x, u.1[x]! = true → ∀ y ∈ wy n x, u.1[y]! = true ∧ u.2[y]! = true := by
    intro x hx
    refine h.2.2.2 x hx ?_
    by_cases e : x = r
    · exact .inr e
    · left; show ((List.replicate n.length false).set r true)[x]! = false
      rw [set_get hrl, if_neg e, rep_get]
  have : ∀ x y, Ld n x y → u.1[x]! = true → u.2[y]! = true := by
    intro x y hxy
    induction hxy with
    | one h => intro hx; exact (cl _ hx _ h).2
    | more h _ ih => intro hx; exact ih (cl _ hx _ h).1
  exact this r j hj (hm.up r hk1)
/-- All points to which one leads, rising. -/
def reachL (n : NetL) (r : Nat) : List Nat := (List.range n.length).filter fun j => (ledL n r)[j]!
theorem reach_mem {n : NetL} {r j : Nat} (hr : r < n.length) : j ∈ reachL n r ↔ Ld n r j := by
  unfold reachL
  rw [List.mem_filter, List.mem_range]
  exact ⟨fun h => (ledL_iff hr j).1 h.2, fun h => ⟨h.lt, (ledL_iff hr j).2 h⟩⟩
end Go.Proofs.Ytigicbnkfmbolaa.R6

namespace Go.Proofs.Ytigicbnkfmbolaa.R6
structure TJ where
  h : List Int
  m : List Nat
  l : List Nat
  o : List Nat
def comeT (a : Nat) (s : TJ) : TJ := ⟨s.h.set a (-1), s.m.set a s.o.length, s.l.set a s.o.length, s.o ++ [a]⟩
def wayT (a b : Nat) (s : TJ) : TJ := if s.h[b]! < 0 then { s with l := s.l.set a (min s.l[a]! s.l[b]!) } else s
def headsT (a : Nat) (ps : List Nat) (h : List Int) : List Int := ps.foldl (fun h p => h.set p (a : Int)) h
def leaveT (a : Nat) (s : TJ) : TJ := if s.l[a]! < s.m[a]! then s else { s with h := headsT a (s.o.drop s.m[a]!) s.h, o := s.o.take s.m[a]! }
def opT : Op TJ := ⟨comeT, wayT, leaveT⟩
/-- Told: known, and not open. -/
def Done (s : St TJ) (x : Nat) : Prop := s.1[x]! = true ∧ x ∉ s.2.o
/-- What holds all along. -/
structure TI (n : NetL) (s : St TJ) : Prop where
  kl : s.1.length = n.length
  hl : s.2.h.length = n.length
  ml : s.2.m.length = n.length
  ll : s.2.l.length = n.length
  nd : s.2.o.Nodup
  kn : ∀ x ∈ s.2.o, s.1[x]! = true
  hm : ∀ x, x < n.length → (s.2.h[x]! < 0 ↔ x ∈ s.2.o)
  mr : ∀ (i x : Nat), s.2.o[i]? = some x → s.2.m[x]! = i
  lw : ∀ (i x : Nat), s.2.o[i]? = some x → ∃ j y, j ≤ i ∧ s.2.l[x]! = j ∧ s.2.o[j]? = some y ∧ Rc n x y
  up : ∀ (i j x y : Nat), s.2.o[i]? = some x → s.2.o[j]? = some y → i ≤ j → Rc n x y
  cl : ∀ x, Done s x → ∀ y ∈ wy n x, Done s y
  hd : ∀ x, Done s x → ∃ z, s.2.h[x]! = (z : Nat) ∧ Done s z ∧ Rc n x z ∧ Rc n z x
  same : ∀ x y, Done s x → Done s y → Ld n x y → Ld n y x → s.2.h[x]! = s.2.h[y]!
theorem k_lt {K : List Bool} {x : Nat} (h : K[x]! = true) : x < K.length := by
  rcases Nat.lt_or_ge x K.length with h' | h'
  · exact h'
  · rw [getElem!_neg K x (by omega)] at h; cases h
theorem TI.o_lt {n : NetL} {s : St TJ} (h : TI n s) {x : Nat} (hx : x ∈ s.2.o) : x < n.length := by
  have := k_lt (h.kn x hx); rw [h.kl] at this; exact this
theorem Done.lt {n : NetL} {s : St TJ} (h : TI n s) {x : Nat} (hx : Done s x) : x < n.length := by
  have := k_lt hx.1; rw [h.kl] at this; exact this
theorem mem_at {l : List Nat} {x : Nat} : x ∈ l ↔ ∃ i : Nat, l[i]? = some x := List.mem_iff_getElem?
theorem app_get {l : List Nat} {a i x : Nat} : (l ++ [a])[i]? = some x ↔ l[i]? = some x ∨ (i = l.length ∧ x = a) := by
  rw [List.getElem?_append]
  split
  · rename_i hi
    exact ⟨.inl, fun h => by rcases h with h | ⟨rfl, _⟩; exact h; omega⟩
  · rename_i hi
    constructor
    · intro h
      rw [List.getElem?_singleton] at h
      split at h
      · injection h with h; exact .inr ⟨by omega, h.symm⟩
      · cases h
    · rintro (h | ⟨rfl, rfl⟩)
      · rw [List.getElem?_eq_none (by omega)] at h; cases h
      · simp
/-- A point is come to: it is behind all that is open. -/
theorem TI.come {n : NetL} {s : St TJ} {a : Nat} (h : TI n s) (ha : a < n.length) (hk : s.1[a]! = false) (hr : ∀ x ∈ s.2.o, Rc n x a) : TI n (goT opT a s) := by
  have hno : a ∉ s.2.o := fun hx => by rw [h.kn a hx] at hk; cases hk
  have hka : a < s.1.length := by rw [h.kl]; exact ha
  have hha : a < s.2.h.length := by rw [h.hl]; exact ha
  have hma : a < s.2.m.length := by rw [h.ml]; exact ha
  have hla : a < s.2.l.length := by rw [h.ll]; exact ha
  have dn : ∀ x, Done (goT opT a s) x ↔ Done s x := by
    intro x
    show ((s.1.set a true)[x]! = true ∧ x ∉ s.2.o ++ [a]) ↔ _
    rw [set_get hka]
    by_cases e : x = a
    · subst e; simp [Done, hk]
    · rw [if_neg e]; simp [Done, e]
  have hne : ∀ x, Done s x → x ≠ a := fun x hx e => by have h1 := hx.1; rw [e, hk] at h1; cases h1
  have hg : ∀ x, x ≠ a → (goT opT a s).2.h[x]! = s.2.h[x]! := fun x hx => by
    show (s.2.h.set a (-1))[x]! = _
    rw [set_get hha, if_neg hx]
  refine ⟨?_, ?_, ?_, ?_, ?_, ?_, ?_, ?_, ?_, ?_, ?_, ?_, ?_⟩
  · show (s.1.set a true).length = _; rw [List.length_set, h.kl]
  · show (s.2.h.set a (-1)).length = _; rw [List.length_set, h.hl]
  · show (s.2.m.set a s.2.o.length).length = _; rw [List.length_set, h.ml]
  · show (s.2.l.set a s.2.o.length).length = _; rw [List.length_set, h.ll]
  · show (s.2.o ++ [a]).Nodup
    rw [List.nodup_append]
    exact ⟨h.nd, by simp, fun x hx y hy e => by simp at hy; subst hy; subst e; exact hno hx⟩
  · intro x hx
    show (s.1.set a true)[x]! = true
    rw [set_get hka]
    split
    · rfl
    · rename_i e
      rcases List.mem_append.1 hx with hx | hx
      · exact h.kn x hx
      · exact absurd (by simpa using hx) e
  · intro x hx
    show (s.2.h.set a (-1))[x]! < 0 ↔ x ∈ s.2.o ++ [a]
    rw [set_get hha]
    by_cases e : x = a
    · subst e; simp
    · rw [if_neg e, h.hm x hx]; simp [e]
  · intro i x hi
    show (s.2.m.set a s.2.o.length)[x]! = i
    rw [set_get hma]
    rcases app_get.1 hi with hi | ⟨rfl, rfl⟩
    · rw [if_neg (fun e => hno (by rw [← e]; exact mem_at.2 ⟨i, hi⟩))]; exact h.mr i x hi
    · rw [if_pos rfl]
  · intro i x hi
    show ∃ j y, j ≤ i ∧ (s.2.l.set a s.2.o.length)[x]! = j ∧ (s.2.o ++ [a])[j]? = some y ∧ Rc n x y
    rw [set_get hla]
    rcases app_get.1 hi with hi | ⟨rfl, rfl⟩
    · rw [if_neg (fun e => hno (by rw [← e]; exact mem_at.2 ⟨i, hi⟩))]
      obtain ⟨j, y, h1, h2, h3, h4⟩ := h.lw i x hi
      exact ⟨j, y, h1, h2, app_get.2 (.inl h3), h4⟩
    · rw [if_pos rfl]
      exact ⟨_, _, Nat.le_refl _, rfl, app_get.2 (.inr ⟨rfl, rfl⟩), .refl _ _⟩
  · intro i j x y hi hj hij
    rcases app_get.1 hj with hj | ⟨rfl, rfl⟩
    · rcases app_get.1 hi with hi | ⟨rfl, rfl⟩
      · exact h.up i j x y hi hj hij
      · rename_i hj'; rw [List.getElem?_eq_none hij] at hj'; cases hj'
    · rcases app_get.1 hi with hi | ⟨_, rfl⟩
      · exact hr x (mem_at.2 ⟨i, hi⟩)
      · exact .refl _ _
  · intro x hx y hy; rw [dn] at hx ⊢; exact h.cl x hx y hy
  · intro x hx
    rw [dn] at hx
    obtain ⟨z, h1, h2, h3⟩ := h.hd x hx
    exact ⟨z, by rw [hg x (hne x hx)]; exact h1, (dn z).2 h2, h3⟩
  · intro x y hx hy
    rw [dn] at hx hy
    rw [hg x (hne x hx), hg y (hne y hy)]
    exact h.same x y hx hy
/-- A way is gone: the point is as low as where it leads. -/
theorem TI.way {n : NetL} {s : St TJ} {a b : Nat} (h : TI n s) (hao : a ∈ s.2.o) (hb : b ∈ wy n a) (hr : ∀ x ∈ s.2.o, Rc n x a) : TI n (s.1, wayT a b s.2) := by
  unfold wayT
  split
  · rename_i hneg
    have ha := h.o_lt hao
    have hla : a < s.2.l.length := by rw [h.ll]; exact ha
    have hbo := (h.hm b (wy_lt hb)).1 hneg
    refine ⟨h.kl, h.hl, h.ml, by show (s.2.l.set a _).length = _; rw [List.length_set, h.ll], h.nd, h.kn, h.hm, h.mr, ?_, h.up, h.cl, h.hd, h.same⟩
    intro i x hi
    show ∃ j y, j ≤ i ∧ (s.2.l.set a (min s.2.l[a]! s.2.l[b]!))[x]! = j ∧ s.2.o[j]? = some y ∧ Rc n x y
    rw [set_get hla]
    change s.2.o[i]? = some x at hi
    by_cases e : x = a
    · subst e
      rw [if_pos rfl]
      obtain ⟨j, y, h1, h2, h3, h4⟩ := h.lw i x hi
      obtain ⟨k, hk⟩ := mem_at.1 hbo
      obtain ⟨j', y', g1, g2, g3, g4⟩ := h.lw k b hk
      rcases Nat.le_total s.2.l[x]! s.2.l[b]! with hle | hle
      · exact ⟨j, y, h1, by rw [Nat.min_eq_left hle]; exact h2, h3, h4⟩
      · exact ⟨j', y', by omega, by rw [Nat.min_eq_right hle]; exact g2, g3, (Rc.one hb).trans g4⟩
    · rw [if_neg e]; exact h.lw i x hi
  · exact h
/-- Where what is open may lead: it is told, or open and not lower than k. -/
def Lo (s : St TJ) (k y : Nat) : Prop := Done s y ∨ (y ∈ s.2.o ∧ k ≤ s.2.m[y]!)
/-- What stays: of what was open, and of what was told. -/
structure Ke (O : List Nat) (s u : St TJ) : Prop where
  m : ∀ x ∈ O, u.2.m[x]! = s.2.m[x]!
  l : ∀ x ∈ O, u.2.l[x]! = s.2.l[x]!
  d : ∀ x, Done s x → Done u x
theorem Ke.refl (O : List Nat) (s : St TJ) : Ke O s s := ⟨fun _ _ => rfl, fun _ _ => rfl, fun _ h => h⟩
theorem Lo.of {s u : St TJ} {k k' y : Nat} (h : Lo s k y) (hso : ∀ x ∈ s.2.o, x ∈ u.2.o ∧ u.2.m[x]! = s.2.m[x]!) (hd : ∀ x, Done s x → Done u x) (hk : k' ≤ k) : Lo u k' y := by
  rcases h with h | ⟨h1, h2⟩
  · exact .inl (hd y h)
  · exact .inr ⟨(hso y h1).1, by rw [(hso y h1).2]; omega⟩
end Go.Proofs.Ytigicbnkfmbolaa.R6
