/-
  The plain model of layer 3's Print: the words of each part, the tokens of a line, the text of a graph; no program. What a graph that may be is, plainly: its names are names, its kinds, times and ages lie in their ranges, its parts are few. How long the text of a graph that may be is: its tokens, its words, its bytes. The plain model of layer 3's reader: where a statement's reading stands, and whether it has gone wrong; a part's words are read back as the part. No program. The plain model of text.Statement: what a statement's tokens are; the words of a part are read back as that part. No program. Plain facts of the model of layer 1: what an answer looks like; what stands ahead of an error; no Go, no program. Plain facts of the model of layer 1: tokens that are joined are the same again. The text of a graph that may be has the tokens of its parts again. No program. A list of tokens parted into statements; the statements of a graph's text are its parts'. No program. The plain model of Parse where nothing is wrong: the text of a graph that may be is read as that graph. No program.
-/
import Derived.Test.YtjgcjnkeeiaafaaGreatDoorTcaa
import Derived.Test.YtjgcjnkeeiaafaaGreatDoorTcab
namespace Go.Proofs.YtjgcjnkeeiaafaaGreatDoor.P3
/-- A number's digits, as the document has them. -/
def digL (n : Nat) : List UInt8 := if h : n < 10 then [UInt8.ofNat (48 + n)] else digL (n / 10) ++ [UInt8.ofNat (48 + n % 10)]
termination_by n
def kwB (k : Int) : List UInt8 :=
  if k = 1 then [99, 111, 110, 100, 105, 116, 105, 111, 110] else if k = 2 then [114, 101, 115, 112, 111, 110, 115, 101] else
  if k = 3 then [105, 110, 99, 108, 117, 100, 101] else if k = 4 then [101, 120, 99, 108, 117, 100, 101] else [109, 105, 108, 101, 115, 116, 111, 110, 101]
def untB (k : Int) : Int := if k = 2 then 1048576 else 0
/-- A word and a name behind some words, where there is a name. -/
def optB (l : List (List UInt8)) (word name : List UInt8) : List (List UInt8) := if name = [] then l else l ++ [word, name]
def gpW (p : Gp) : List (List UInt8) := optB [[103, 114, 111, 117, 112], p.name.toList] [105, 110] p.parent.toList
def dueW (d : Int) : List (List UInt8) := if d = -1 then [] else if d = 1048576 then [[112, 101, 110, 100, 105, 110, 103]] else [[100, 117, 101], digL d.toNat]
def evW (v : Ev) : List (List UInt8) :=
  optB [[101, 118, 101, 110, 116], v.name.toList] [105, 110] v.group.toList ++ [[114, 111, 108, 101], v.role.toList] ++ (if v.inn then [] else [[101, 120, 99, 108, 117, 100, 101, 100]]) ++ (if v.done then [[100, 111, 110, 101]] else []) ++ dueW v.due
def rlW (r : Rl) : List (List UInt8) := [kwB r.kind, r.src.toList, r.dst.toList] ++ (if r.time = untB r.kind then [] else [digL r.time.toNat])
def usW (u : Us) : List (List UInt8) := optB ([[117, 115, 101, 114], u.name.toList, [114, 111, 108, 101, 115]] ++ u.roles.map ByteArray.toList) [115, 117, 98] u.sub.toList
/-- A line's tokens: its words, its sign. -/
def lineT (ws : List (List UInt8)) : List Tok := ws.map (fun x => ⟨0, x, 0, 0⟩) ++ [⟨0, [59], 0, 0⟩]
/-- A line's text. -/
def lineB : List (List UInt8) → List UInt8
  | [] => [59, 10]
  | x :: r => x ++ (r.flatMap (fun y => 32 :: y) ++ [59, 10])
def linesW (g : Gr) : List (List (List UInt8)) := g.gs.map gpW ++ (g.es.map evW ++ (g.rs.map rlW ++ g.us.map usW))
def printT (g : Gr) : List Tok := (linesW g).flatMap lineT
/-- Every word of a line is no sign, where its names are names. -/
structure NamesOk (g : Gr) : Prop where
  gs : ∀ p ∈ g.gs, nameL p.name.toList = true ∧ (p.parent.toList = [] ∨ nameL p.parent.toList = true)
  es : ∀ v ∈ g.es, nameL v.name.toList = true ∧ nameL v.role.toList = true ∧ (v.group.toList = [] ∨ nameL v.group.toList = true)
  rs : ∀ r ∈ g.rs, nameL r.src.toList = true ∧ nameL r.dst.toList = true
  us : ∀ u ∈ g.us, nameL u.name.toList = true ∧ (∀ r ∈ u.roles, nameL r.toList = true) ∧ (u.sub.toList = [] ∨ nameL u.sub.toList = true)
end Go.Proofs.YtjgcjnkeeiaafaaGreatDoor.P3

namespace Go.Proofs.YtjgcjnkeeiaafaaGreatDoor.P3
theorem hasB_mem {l : List Key} {k : Key} : hasB l k = true ↔ k ∈ l := by unfold hasB; exact List.contains_iff_mem
theorem beq_nil {l : Key} : (l == []) = true ↔ l = [] := by cases l <;> simp
theorem nameK_L {s : Key} (h : nameK s = true) : nameL s = true := by unfold nameK at h; rw [Bool.and_eq_true] at h; exact h.2
theorem gp_may {g : Gr} {i : Nat} (h : groupE g i = 0) : nameK g.gs[i]!.name.toList = true ∧ (g.gs[i]!.parent.toList = [] ∨ g.gs[i]!.parent.toList ∈ gns g) := by
  unfold groupE at h
  split at h
  · rename_i h1
    refine ⟨h1, ?_⟩
    split at h
    · cases h
    · split at h
      · rename_i h2; exact .inl (beq_nil.1 h2)
      · split at h
        · rename_i h2; rw [Bool.and_eq_true] at h2; exact .inr (hasB_mem.1 h2.1)
        · cases h
  · cases h
theorem ev_may {g : Gr} {i : Nat} (h : eventE g i = 0) : nameK g.es[i]!.name.toList = true ∧ nameK g.es[i]!.role.toList = true ∧ (g.es[i]!.group.toList = [] ∨ nameK g.es[i]!.group.toList = true) ∧ -1 ≤ g.es[i]!.due ∧ g.es[i]!.due ≤ 1048576 := by
  unfold eventE at h
  split at h
  · rename_i h1
    rw [Bool.and_eq_true, Bool.and_eq_true, Bool.or_eq_true] at h1
    obtain ⟨⟨a, b⟩, c⟩ := h1
    split at h
    · cases h
    · split at h
      · split at h
        · cases h
        · split at h
          · cases h
          · refine ⟨a, b, ?_, by omega, by omega⟩
            rcases c with c | c
            · exact .inl (beq_nil.1 c)
            · exact .inr c
      · cases h
  · cases h
theorem rl_may {g : Gr} {i : Nat} (h : relE g i = 0) : 1 ≤ g.rs[i]!.kind ∧ g.rs[i]!.kind ≤ 5 ∧ (g.rs[i]!.src.toList ∈ ens g ∨ g.rs[i]!.src.toList ∈ gns g) ∧ (g.rs[i]!.dst.toList ∈ ens g ∨ g.rs[i]!.dst.toList ∈ gns g) ∧ 0 ≤ g.rs[i]!.time ∧ g.rs[i]!.time ≤ longL g.rs[i]!.kind := by
  unfold relE at h
  split at h
  · cases h
  · split at h
    · cases h
    · split at h
      · rename_i h1
        unfold thereB at h1
        rw [Bool.and_eq_true, Bool.or_eq_true, Bool.or_eq_true] at h1
        obtain ⟨a, b⟩ := h1
        simp only [hasB_mem] at a b
        split at h
        · cases h
        · split at h
          · cases h
          · exact ⟨by omega, by omega, a, b, by omega, by omega⟩
      · cases h
theorem us_may {g : Gr} {i : Nat} (h : userE g i = 0) : nameK g.us[i]!.name.toList = true ∧ (∀ s ∈ g.us[i]!.roles, nameK s.toList = true) ∧ (g.us[i]!.sub.toList = [] ∨ g.us[i]!.sub.toList ∈ uns g) := by
  unfold userE at h
  split at h
  · rename_i h1
    rw [Bool.and_eq_true, List.all_eq_true] at h1
    refine ⟨h1.1, h1.2, ?_⟩
    split at h
    · cases h
    · split at h
      · rename_i h2
        rw [Bool.or_eq_true] at h2
        rcases h2 with h2 | h2
        · exact .inl (beq_nil.1 h2)
        · exact .inr (hasB_mem.1 h2)
      · cases h
  · cases h
/-- What a graph that may be is. -/
structure MayOk (g : Gr) : Prop where
  ngs : g.gs.length ≤ 40
  nes : g.es.length ≤ 80
  nrs : g.rs.length ≤ 300
  nus : g.us.length ≤ 40
  gs : ∀ p ∈ g.gs, nameK p.name.toList = true ∧ (p.parent.toList = [] ∨ nameK p.parent.toList = true)
  es : ∀ v ∈ g.es, nameK v.name.toList = true ∧ nameK v.role.toList = true ∧ (v.group.toList = [] ∨ nameK v.group.toList = true) ∧ -1 ≤ v.due ∧ v.due ≤ 1048576
  rs : ∀ r ∈ g.rs, 1 ≤ r.kind ∧ r.kind ≤ 5 ∧ nameK r.src.toList = true ∧ nameK r.dst.toList = true ∧ 0 ≤ r.time ∧ r.time ≤ longL r.kind
  us : ∀ u ∈ g.us, nameK u.name.toList = true ∧ (∀ s ∈ u.roles, nameK s.toList = true) ∧ (u.sub.toList = [] ∨ nameK u.sub.toList = true) ∧ u.roles.length ≤ 8
theorem at_of {α : Type} [Inhabited α] {l : List α} {p : α → Prop} (h : ∀ i, i < l.length → p l[i]!) : ∀ x ∈ l, p x := by
  intro x hx
  obtain ⟨i, hi, rfl⟩ := List.getElem_of_mem hx
  have := h i hi
  rwa [getElem!_pos l i hi] at this
theorem may_ok {g : Gr} (h : mayL g = true) : MayOk g := by
  obtain ⟨h0, h1, h2, h3, h4⟩ := may_iff.1 h
  have G : ∀ s ∈ gns g, nameK s = true := by
    intro s hs
    obtain ⟨p, hp, rfl⟩ := List.mem_map.1 hs
    exact at_of (p := fun p : Gp => nameK p.name.toList = true) (fun i hi => (gp_may (h1 i hi)).1) p hp
  have E : ∀ s ∈ ens g, nameK s = true := by
    intro s hs
    obtain ⟨p, hp, rfl⟩ := List.mem_map.1 hs
    exact at_of (p := fun p : Ev => nameK p.name.toList = true) (fun i hi => (ev_may (h2 i hi)).1) p hp
  have U : ∀ s ∈ uns g, nameK s = true := by
    intro s hs
    obtain ⟨p, hp, rfl⟩ := List.mem_map.1 hs
    exact at_of (p := fun p : Us => nameK p.name.toList = true) (fun i hi => (us_may (h4 i hi)).1) p hp
  have GE : ∀ s, (s ∈ ens g ∨ s ∈ gns g) → nameK s = true := fun s hs => hs.elim (E s) (G s)
  unfold limitE at h0
  split at h0
  · cases h0
  split at h0
  · cases h0
  split at h0
  · cases h0
  split at h0
  · cases h0
  split at h0
  · cases h0
  rename_i q
  have R : ∀ u ∈ g.us, u.roles.length ≤ 8 := by
    intro u hu
    by_cases hh : 8 < u.roles.length
    · exact absurd (List.any_eq_true.2 ⟨u, hu, decide_eq_true hh⟩) q
    · omega
  refine ⟨by omega, by omega, by omega, by omega, at_of fun i hi => ?_, at_of fun i hi => ev_may (h2 i hi), at_of fun i hi => ?_, fun u hu => ?_⟩
  · obtain ⟨a, b⟩ := gp_may (h1 i hi)
    exact ⟨a, b.imp id (G _)⟩
  · obtain ⟨a, b, c, d, e, f⟩ := rl_may (h3 i hi)
    exact ⟨a, b, GE _ c, GE _ d, e, f⟩
  · have := at_of (p := fun u : Us => nameK u.name.toList = true ∧ (∀ s ∈ u.roles, nameK s.toList = true) ∧ (u.sub.toList = [] ∨ u.sub.toList ∈ uns g)) (fun i hi => us_may (h4 i hi)) u hu
    exact ⟨this.1, this.2.1, this.2.2.imp id (U _), R u hu⟩
theorem MayOk.names {g : Gr} (h : MayOk g) : NamesOk g :=
  ⟨fun p hp => ⟨nameK_L (h.gs p hp).1, (h.gs p hp).2.imp id nameK_L⟩, fun v hv => ⟨nameK_L (h.es v hv).1, nameK_L (h.es v hv).2.1, (h.es v hv).2.2.1.imp id nameK_L⟩,
    fun r hr => ⟨nameK_L (h.rs r hr).2.2.1, nameK_L (h.rs r hr).2.2.2.1⟩, fun u hu => ⟨nameK_L (h.us u hu).1, fun r hr => nameK_L ((h.us u hu).2.1 r hr), (h.us u hu).2.2.1.imp id nameK_L⟩⟩
end Go.Proofs.YtjgcjnkeeiaafaaGreatDoor.P3

namespace Go.Proofs.YtjgcjnkeeiaafaaGreatDoor.P3
theorem flat_le {α β : Type} {f : α → List β} {m : Nat} : ∀ (l : List α), (∀ x ∈ l, (f x).length ≤ m) → (l.flatMap f).length ≤ l.length * m
  | [], _ => by simp
  | x :: r, h => by
    have h1 := h x (List.mem_cons_self ..)
    have h2 := flat_le r (fun y hy => h y (List.mem_cons_of_mem _ hy))
    rw [List.flatMap_cons, List.length_append, List.length_cons, Nat.succ_mul]; omega
theorem lineT_len (ws : List (List UInt8)) : (lineT ws).length = ws.length + 1 := by simp [lineT]
theorem optB_len (l : List (List UInt8)) (a b : List UInt8) : (optB l a b).length ≤ l.length + 2 := by unfold optB; split <;> simp
theorem gpW_len (p : Gp) : (gpW p).length ≤ 4 := by have := optB_len [[103, 114, 111, 117, 112], p.name.toList] [105, 110] p.parent.toList; exact this
theorem dueW_len (d : Int) : (dueW d).length ≤ 2 := by unfold dueW; split <;> (try split) <;> simp
theorem evW_len (v : Ev) : (evW v).length ≤ 10 := by
  have h1 := optB_len [[101, 118, 101, 110, 116], v.name.toList] [105, 110] v.group.toList
  have h2 := dueW_len v.due
  unfold evW
  simp only [List.length_append, List.length_cons, List.length_nil] at h1 ⊢
  have h3 : (if v.inn then [] else [[101, 120, 99, 108, 117, 100, 101, 100]] : List (List UInt8)).length ≤ 1 := by split <;> simp
  have h4 : (if v.done then [[100, 111, 110, 101]] else [] : List (List UInt8)).length ≤ 1 := by split <;> simp
  omega
theorem rlW_len (r : Rl) : (rlW r).length ≤ 4 := by unfold rlW; rw [List.length_append]; split <;> simp
theorem usW_len {u : Us} (h : u.roles.length ≤ 8) : (usW u).length ≤ 13 := by
  have h1 := optB_len ([[117, 115, 101, 114], u.name.toList, [114, 111, 108, 101, 115]] ++ u.roles.map ByteArray.toList) [115, 117, 98] u.sub.toList
  unfold usW
  rw [List.length_append, List.length_map] at h1
  simp only [List.length_cons, List.length_nil] at h1
  omega
theorem MayOk.toks {g : Gr} (h : MayOk g) : (printT g).length ≤ 3140 := by
  unfold printT linesW
  rw [List.flatMap_append, List.flatMap_append, List.flatMap_append, List.length_append, List.length_append, List.length_append, List.flatMap_map, List.flatMap_map, List.flatMap_map, List.flatMap_map]
  have h1 := flat_le (m := 5) g.gs (f := fun p => lineT (gpW p)) (fun p _ => by rw [lineT_len]; have := gpW_len p; omega)
  have h2 := flat_le (m := 11) g.es (f := fun p => lineT (evW p)) (fun p _ => by rw [lineT_len]; have := evW_len p; omega)
  have h3 := flat_le (m := 5) g.rs (f := fun p => lineT (rlW p)) (fun p _ => by rw [lineT_len]; have := rlW_len p; omega)
  have h4 := flat_le (m := 14) g.us (f := fun p => lineT (usW p)) (fun p hp => by rw [lineT_len]; have := usW_len (h.us p hp).2.2.2; omega)
  have := h.ngs; have := h.nes; have := h.nrs; have := h.nus
  omega
theorem digL_len : ∀ (k n : Nat), n < 10 ^ (k + 1) → (digL n).length ≤ k + 1
  | 0, n, h => by rw [digL, dif_pos (by simpa using h)]; simp
  | k + 1, n, h => by
    rw [digL]
    split
    · simp
    · have := digL_len k (n / 10) (by rw [Nat.pow_succ] at h; omega)
      rw [List.length_append, List.length_singleton]; omega
theorem name_len {s : List UInt8} (h : nameL s = true) : s.length ≤ 20 := by
  obtain ⟨c, r, rfl, h1, _⟩ := nameL_cons h
  rw [List.length_cons]; omega
theorem opt_all {q : List UInt8 → Prop} {l : List (List UInt8)} {word name : List UInt8} (hl : ∀ x ∈ l, q x) (hw : q word) (hn : name = [] ∨ q name) : ∀ x ∈ optB l word name, q x := by
  intro x hx
  unfold optB at hx
  split at hx
  · exact hl x hx
  · rename_i h
    rcases List.mem_append.1 hx with h1 | h1
    · exact hl x h1
    · rcases List.mem_cons.1 h1 with rfl | h1
      · exact hw
      · rw [List.mem_singleton.1 h1]
        exact hn.elim (fun e => absurd e h) id
/-- What holds of each word that the language keeps, of each name and of each number, holds of each word of a text. -/
theorem MayOk.words {g : Gr} (h : MayOk g) {q : List UInt8 → Prop} (hk : ∀ s ∈ kws, q s) (hn : ∀ s, nameK s = true → q s) (hd : ∀ n : Nat, n ≤ 1048576 → q (digL n)) : ∀ l ∈ linesW g, ∀ x ∈ l, q x := by
  intro l hl
  unfold linesW at hl
  rcases List.mem_append.1 hl with hl | hl
  · obtain ⟨p, hp, rfl⟩ := List.mem_map.1 hl
    obtain ⟨h1, h2⟩ := h.gs p hp
    refine opt_all (fun x hx => ?_) (hk _ (by decide)) (h2.imp id (hn _))
    simp only [List.mem_cons, List.not_mem_nil, or_false] at hx
    rcases hx with rfl | rfl
    · exact hk _ (by decide)
    · exact hn _ h1
  rcases List.mem_append.1 hl with hl | hl
  · obtain ⟨v, hv, rfl⟩ := List.mem_map.1 hl
    obtain ⟨h1, h2, h3, h4, h5⟩ := h.es v hv
    intro x hx
    unfold evW at hx
    simp only [List.mem_append] at hx
    rcases hx with (((hx | hx) | hx) | hx) | hx
    · refine opt_all (fun x hx => ?_) (hk _ (by decide)) (h3.imp id (hn _)) x hx
      simp only [List.mem_cons, List.not_mem_nil, or_false] at hx
      rcases hx with rfl | rfl
      · exact hk _ (by decide)
      · exact hn _ h1
    · simp only [List.mem_cons, List.not_mem_nil, or_false] at hx
      rcases hx with rfl | rfl
      · exact hk _ (by decide)
      · exact hn _ h2
    · split at hx
      · cases hx
      · rw [List.mem_singleton.1 hx]; exact hk _ (by decide)
    · split at hx
      · rw [List.mem_singleton.1 hx]; exact hk _ (by decide)
      · cases hx
    · unfold dueW at hx
      split at hx
      · cases hx
      · split at hx
        · rw [List.mem_singleton.1 hx]; exact hk _ (by decide)
        · simp only [List.mem_cons, List.not_mem_nil, or_false] at hx
          rcases hx with rfl | rfl
          · exact hk _ (by decide)
          · exact hd _ (by omega)
  rcases List.mem_append.1 hl with hl | hl
  · obtain ⟨r, hr, rfl⟩ := List.mem_map.1 hl
    obtain ⟨k1, k2, h1, h2, t1, t2⟩ := h.rs r hr
    intro x hx
    unfold rlW at hx
    rcases List.mem_append.1 hx with hx | hx
    · simp only [List.mem_cons, List.not_mem_nil, or_false] at hx
      rcases hx with rfl | rfl | rfl
      · unfold kwB; split <;> (try split) <;> (try split) <;> (try split) <;> exact hk _ (by decide)
      · exact hn _ h1
      · exact hn _ h2
    · split at hx
      · cases hx
      · rw [List.mem_singleton.1 hx]
        refine hd _ ?_
        unfold longL at t2
        split at t2
        · omega
        · split at t2 <;> omega
  · obtain ⟨u, hu, rfl⟩ := List.mem_map.1 hl
    obtain ⟨h1, h2, h3, _⟩ := h.us u hu
    refine opt_all (fun x hx => ?_) (hk _ (by decide)) (h3.imp id (hn _))
    rcases List.mem_append.1 hx with hx | hx
    · simp only [List.mem_cons, List.not_mem_nil, or_false] at hx
      rcases hx with rfl | rfl | rfl
      · exact hk _ (by decide)
      · exact hn _ h1
      · exact hk _ (by decide)
    · obtain ⟨r, hr, rfl⟩ := List.mem_map.1 hx
      exact hn _ (h2 r hr)
theorem MayOk.short {g : Gr} (h : MayOk g) : ∀ l ∈ linesW g, ∀ x ∈ l, x.length ≤ 20 :=
  h.words (by decide) (fun _ h => name_len (nameK_L h)) (fun n hn => Nat.le_trans (digL_len 6 n (by omega)) (by omega))
theorem join_len : ∀ (l : List Tok) (p : Bool), (∀ t ∈ l, t.text.length ≤ 20) → (joinS p l).length ≤ l.length * 22
  | [], _, _ => by simp [joinS]
  | t :: r, p, h => by
    have ih := join_len r (t.text == [59]) (fun x hx => h x (List.mem_cons_of_mem _ hx))
    have h1 := h t (List.mem_cons_self ..)
    have h2 : (if !p && !(t.text == [59]) then [32] else [] : List UInt8).length ≤ 1 := by split <;> simp
    have h3 : (if t.text == [59] then [10] else [] : List UInt8).length ≤ 1 := by split <;> simp
    rw [joinS, List.length_append, List.length_append, List.length_append, List.length_cons, Nat.succ_mul]
    omega
theorem MayOk.tok20 {g : Gr} (h : MayOk g) : ∀ t ∈ printT g, t.text.length ≤ 20 := by
  intro t ht
  unfold printT at ht
  obtain ⟨l, hl, ht⟩ := List.mem_flatMap.1 ht
  unfold lineT at ht
  rcases List.mem_append.1 ht with ht | ht
  · obtain ⟨x, hx, rfl⟩ := List.mem_map.1 ht
    exact h.short l hl x hx
  · rw [List.mem_singleton.1 ht]; decide
/-- The text of a graph that may be has less than 70,000 bytes. -/
theorem MayOk.bytes {g : Gr} (h : MayOk g) : (joinS true (printT g)).length ≤ 69080 := by
  have h1 := join_len (printT g) true h.tok20
  have h2 := h.toks
  omega
end Go.Proofs.YtjgcjnkeeiaafaaGreatDoor.P3

namespace Go.Proofs.YtjgcjnkeeiaafaaGreatDoor.P3
/-- A token, but for its place: kind, text, value. -/
abbrev B3 := Nat × List UInt8 × Nat
/-- Of what sort a token is: a word that the language keeps is itself; 'n' a name, 'd' a number, ';' another. -/
def cls (t : B3) : Key := if t.1 = 2 then [100] else if t.1 = 1 then (if kws.contains t.2.1 then t.2.1 else [110]) else [59]
/-- Where the reading stands; has it gone wrong? -/
abbrev RS := Nat × Bool
def seeB (l : List B3) (x : Key) (s : RS) : Bool := !s.2 && (match l[s.1]? with | none => false | some t => cls t == x)
def mayS (l : List B3) (x : Key) (s : RS) : RS := if seeB l x s then (s.1 + 1, s.2) else s
def mustS (l : List B3) (x : Key) (s : RS) : RS := if seeB l x s then (s.1 + 1, s.2) else (s.1, true)
def takT (l : List B3) (x : Key) (s : RS) : List UInt8 := if seeB l x s then (match l[s.1]? with | none => [] | some t => t.2.1) else []
def takN (l : List B3) (x : Key) (s : RS) : Nat := if seeB l x s then (match l[s.1]? with | none => 0 | some t => t.2.2) else 0
def optS (l : List B3) (x : Key) (s : RS) : RS := if seeB l x s then mustS l [110] (mayS l x s) else s
def optV (l : List B3) (x : Key) (s : RS) : List UInt8 := if seeB l x s then takT l [110] (mayS l x s) else []
def endS (l : List B3) (s : RS) : RS := (s.1, s.2 || !(s.1 == l.length))
/-- What was wrong stays so, where it was. -/
theorem may_bad (l : List B3) (x : Key) (n : Nat) : mayS l x (n, true) = (n, true) := by simp [mayS, seeB]
theorem must_bad (l : List B3) (x : Key) (n : Nat) : mustS l x (n, true) = (n, true) := by simp [mustS, seeB]
theorem opt_bad (l : List B3) (x : Key) (n : Nat) : optS l x (n, true) = (n, true) := by simp [optS, seeB]
theorem end_bad (l : List B3) (n : Nat) : endS l (n, true) = (n, true) := by simp [endS]
theorem see_at {l : List B3} {n : Nat} {t : B3} (h : l[n]? = some t) (x : Key) : seeB l x (n, false) = (cls t == x) := by simp [seeB, h]
theorem see_none {l : List B3} {n : Nat} (h : l[n]? = none) (x : Key) : seeB l x (n, false) = false := by simp [seeB, h]
def grS (l : List B3) : RS := optS l [105, 110] (mustS l [110] (1, false))
def grV (l : List B3) : List UInt8 × List UInt8 := (takT l [110] (1, false), optV l [105, 110] (mustS l [110] (1, false)))
abbrev kRole : Key := [114, 111, 108, 101]
abbrev kExc : Key := [101, 120, 99, 108, 117, 100, 101, 100]
abbrev kDone : Key := [100, 111, 110, 101]
abbrev kPend : Key := [112, 101, 110, 100, 105, 110, 103]
abbrev kDue : Key := [100, 117, 101]
def dueS (l : List B3) (s : RS) : RS := if seeB l kPend s then mayS l kPend s else if seeB l kDue s then mustS l [100] (mayS l kDue s) else s
def dueV (l : List B3) (s : RS) : Int := if seeB l kPend s then 1048576 else if seeB l kDue s then (takN l [100] (mayS l kDue s) : Nat) else -1
def ev1 (l : List B3) : RS := optS l [105, 110] (mustS l [110] (1, false))
def ev2 (l : List B3) : RS := mustS l kRole (ev1 l)
def ev3 (l : List B3) : RS := mustS l [110] (ev2 l)
def ev4 (l : List B3) : RS := mayS l kExc (ev3 l)
def ev5 (l : List B3) : RS := mayS l kDone (ev4 l)
def evS (l : List B3) : RS := dueS l (ev5 l)
structure EvV where
  name : List UInt8
  group : List UInt8
  role : List UInt8
  inn : Bool
  done : Bool
  due : Int
def evV (l : List B3) : EvV := ⟨takT l [110] (1, false), optV l [105, 110] (mustS l [110] (1, false)), takT l [110] (ev2 l), !seeB l kExc (ev3 l), seeB l kDone (ev4 l), dueV l (ev5 l)⟩
def kindV (l : List B3) (s : RS) : Int := if seeB l (kwB 1) s then 1 else if seeB l (kwB 2) s then 2 else if seeB l (kwB 3) s then 3 else if seeB l (kwB 4) s then 4 else if seeB l (kwB 5) s then 5 else 0
def kindS (l : List B3) (s : RS) : RS := if kindV l s = 0 then (s.1, true) else (s.1 + 1, s.2)
def timeS (l : List B3) (k : Int) (s : RS) : RS := if k = 1 ∨ k = 2 then mayS l [100] s else s
def timeV (l : List B3) (k : Int) (s : RS) : Int := if (k = 1 ∨ k = 2) ∧ seeB l [100] s = true then (takN l [100] s : Nat) else untB k
def rl1 (l : List B3) : RS := kindS l (0, false)
def rl2 (l : List B3) : RS := mustS l [110] (rl1 l)
def rl3 (l : List B3) : RS := mustS l [110] (rl2 l)
def rlS (l : List B3) : RS := timeS l (kindV l (0, false)) (rl3 l)
structure RlV where
  kind : Int
  src : List UInt8
  dst : List UInt8
  time : Int
def rlV (l : List B3) : RlV := ⟨kindV l (0, false), takT l [110] (rl1 l), takT l [110] (rl2 l), timeV l (kindV l (0, false)) (rl3 l)⟩
abbrev kRoles : Key := [114, 111, 108, 101, 115]
abbrev kSub : Key := [115, 117, 98]
def rolesS (l : List B3) : Nat → RS → RS × List (List UInt8)
  | 0, s => (s, [])
  | n + 1, s => if seeB l [110] s then ((rolesS l n (mayS l [110] s)).1, takT l [110] s :: (rolesS l n (mayS l [110] s)).2) else (s, [])
def us1 (l : List B3) : RS := mustS l kRoles (mustS l [110] (1, false))
def us2 (l : List B3) : RS × List (List UInt8) := rolesS l l.length (us1 l)
def usS (l : List B3) : RS := optS l kSub (us2 l).1
structure UsV where
  name : List UInt8
  roles : List (List UInt8)
  sub : List UInt8
def usV (l : List B3) : UsV := ⟨takT l [110] (1, false), (us2 l).2, optV l kSub (us2 l).1⟩
end Go.Proofs.YtjgcjnkeeiaafaaGreatDoor.P3

namespace Go.Proofs.YtjgcjnkeeiaafaaGreatDoor.P3
inductive PartV where
  | g (name parent : List UInt8)
  | e (v : EvV)
  | r (v : RlV)
  | u (v : UsV)
abbrev kGroup : Key := [103, 114, 111, 117, 112]
abbrev kEvent : Key := [101, 118, 101, 110, 116]
abbrev kUser : Key := [117, 115, 101, 114]
def stS (l : List B3) : RS := endS l (if seeB l kGroup (0, false) then grS l else if seeB l kEvent (0, false) then evS l else if seeB l kUser (0, false) then usS l else rlS l)
def stV (l : List B3) : PartV :=
  if seeB l kGroup (0, false) then .g (grV l).1 (grV l).2 else if seeB l kEvent (0, false) then .e (evV l) else if seeB l kUser (0, false) then .u (usV l) else .r (rlV l)
theorem kwB_in (k : Int) : kwB k ∈ kws := by unfold kwB; split <;> (try split) <;> (try split) <;> (try split) <;> decide
end Go.Proofs.YtjgcjnkeeiaafaaGreatDoor.P3

namespace Go.Proofs.YtjgcjnkeeiaafaaGreatDoor
/-- A token is passed over whole. -/
theorem lexS_tok {c : UInt8} {r : List UInt8} {k : Nat} {l : List Tok} {t : Tok} (hg : ¬ gapB c = true) (ht : takeL (c :: r) k = some t) (hl : l.length ≠ 5000) :
    lexS (c :: r) 0 k l = lexS ((c :: r).drop t.text.length) 0 (k + t.text.length) (l ++ [t]) := by
  obtain ⟨h1, h2⟩ := takeL_len ht
  simp only [List.length_cons] at h2
  rw [lexS, if_neg hg, ht]
  simp only [hl, if_false]
  rw [lexS_skip _ _ _ _ (by omega)]
  obtain ⟨m, hm⟩ : ∃ m, t.text.length = m + 1 := ⟨t.text.length - 1, by omega⟩
  rw [hm, List.drop_succ_cons]
  congr 1
  omega
end Go.Proofs.YtjgcjnkeeiaafaaGreatDoor

namespace Go.Proofs.YtjgcjnkeeiaafaaGreatDoor
theorem s59 {c : UInt8} (h : c.toNat = 59) : c = 59 := UInt8.toNat_inj.1 h
/-- What a token is, but for its place. -/
def bare (t : Tok) : Nat × List UInt8 × Nat := (t.kind, t.text, t.val)
/-- A token whose text, alone, is that token. -/
def Own (t : Tok) : Prop := (t.kind = 3 ∧ t.text = [59] ∧ t.val = 0) ∨ (t.text.all innB = true ∧ wordL t.text t.loc = some t)
theorem takeL_own {r : List UInt8} {k : Nat} {t : Tok} (h : takeL r k = some t) : Own t := by
  cases r with
  | nil => simp [takeL] at h
  | cons c r =>
    unfold takeL at h
    simp only at h
    by_cases h59 : c.toNat = 59
    · rw [if_pos h59] at h
      injection h with h; subst h
      left
      refine ⟨rfl, ?_, rfl⟩
      show [c] = [59]
      rw [s59 h59]
    · rw [if_neg h59] at h
      obtain ⟨h1, _, h3⟩ := wordL_some h
      right
      rw [h1, h3]
      exact ⟨runL_all _, h⟩
theorem lexS_own : ∀ (r : List UInt8) (n k : Nat) (l l' : List Tok), lexS r n k l = (l', 0, 0) → (∀ t ∈ l, Own t) → ∀ t ∈ l', Own t
  | [], n, k, l, l', h, ho => by simp [lexS] at h; subst h; exact ho
  | c :: r, n + 1, k, l, l', h, ho => by rw [lexS] at h; exact lexS_own r n (k + 1) l l' h ho
  | c :: r, 0, k, l, l', h, ho => by
    rw [lexS] at h
    by_cases hg : gapB c = true
    · rw [if_pos hg] at h; exact lexS_own r 0 (k + 1) l l' h ho
    · rw [if_neg hg] at h
      cases ht : takeL (c :: r) k with
      | none => rw [ht] at h; simp at h
      | some t =>
        rw [ht] at h
        simp only at h
        by_cases hl : l.length = 5000
        · rw [if_pos hl] at h; simp at h
        · rw [if_neg hl] at h
          refine lexS_own r _ (k + 1) (l ++ [t]) l' h fun x hx => ?_
          rw [List.mem_append, List.mem_singleton] at hx
          rcases hx with hx | rfl
          · exact ho x hx
          · exact takeL_own ht
theorem runL_app : ∀ (x y : List UInt8), x.all innB = true → (∀ c r, y = c :: r → innB c = false) → runL (x ++ y) = x
  | [], y, _, hy => by
    cases y with
    | nil => rfl
    | cons c r => rw [List.nil_append, runL_none c r (hy c r rfl)]
  | a :: x, y, hx, hy => by
    rw [List.all_cons, Bool.and_eq_true] at hx
    rw [List.cons_append, runL_cons a _ hx.1, runL_app x y hx.2 hy]
theorem inn_notgap {c : UInt8} (h : innB c = true) : ¬ gapB c = true := by
  intro e
  simp [innB, letB, digB, gapB] at h e
  omega
end Go.Proofs.YtjgcjnkeeiaafaaGreatDoor

namespace Go.Proofs.YtjgcjnkeeiaafaaGreatDoor.P3
theorem dig_facts : ∀ m : Fin 10, digB (UInt8.ofNat (48 + m.val)) = true ∧ (UInt8.ofNat (48 + m.val)).toNat - 48 = m.val ∧ letB (UInt8.ofNat (48 + m.val)) = false ∧ ((UInt8.ofNat (48 + m.val)).toNat = 48 → m.val = 0) := by decide
end Go.Proofs.YtjgcjnkeeiaafaaGreatDoor.P3

namespace Go.Proofs.YtjgcjnkeeiaafaaGreatDoor.P3
/-- The statements, each without its sign; what is left behind the last sign. -/
def splitT : List B3 → List B3 → List (List B3) × List B3
  | [], acc => ([], acc)
  | t :: r, acc => if t.1 = 3 then (acc :: (splitT r []).1, (splitT r []).2) else splitT r (acc ++ [t])
/-- The parting of layer 1, in these words. -/
theorem split_seg (l : List Tok) : ∀ (n k st : Nat), n = l.length - k → st ≤ k → k ≤ l.length →
    splitT ((l.drop k).map bare) (((l.take k).drop st).map bare) = ((segS (l.drop k) k st).1.map (fun s => ((l.take s.2).drop s.1).map bare), (l.drop (segS (l.drop k) k st).2).map bare)
  | 0, k, st, hn, hs, hk => by
    have e : k = l.length := by omega
    subst e
    rw [List.drop_length, List.take_length, segS]; rfl
  | n + 1, k, st, hn, hs, hk => by
    have hlt : k < l.length := by omega
    have ht : l[k]? = some l[k] := List.getElem?_eq_getElem hlt
    rw [List.drop_eq_getElem_cons hlt, List.map_cons, splitT]
    have e1 : (bare l[k]).1 = l[k].kind := rfl
    rw [e1, segS]
    by_cases h3 : l[k].kind = 3
    · have ih := split_seg l n (k + 1) (k + 1) (by omega) (Nat.le_refl _) hlt
      have e2 : ((l.take (k + 1)).drop (k + 1)).map bare = [] := by rw [List.drop_eq_nil_of_le (by rw [List.length_take]; omega)]; rfl
      rw [e2] at ih
      rw [if_pos h3, if_pos h3, ih]
      rfl
    · have ih := split_seg l n (k + 1) st (by omega) (by omega) hlt
      have e2 : ((l.take (k + 1)).drop st).map bare = ((l.take k).drop st).map bare ++ [bare l[k]] := by
        rw [List.take_succ_eq_append_getElem hlt, List.drop_append_of_le_length (by rw [List.length_take]; omega), List.map_append]; rfl
      rw [e2] at ih
      rw [if_neg h3, if_neg h3, ih]
theorem split_all (l : List Tok) : splitT (l.map bare) [] = ((segS l 0 0).1.map (fun s => ((l.take s.2).drop s.1).map bare), (l.drop (segS l 0 0).2).map bare) := by
  have := split_seg l l.length 0 0 rfl (Nat.le_refl _) (Nat.zero_le _)
  simpa using this
/-- A graph's parts, as what is read. -/
def partsV (g : Gr) : List PartV :=
  g.gs.map (fun p => .g p.name.toList p.parent.toList) ++ (g.es.map (fun v => .e ⟨v.name.toList, v.group.toList, v.role.toList, v.inn, v.done, v.due⟩) ++
    (g.rs.map (fun r => .r ⟨r.kind, r.src.toList, r.dst.toList, r.time⟩) ++ g.us.map (fun u => .u ⟨u.name.toList, u.roles.map ByteArray.toList, u.sub.toList⟩)))
end Go.Proofs.YtjgcjnkeeiaafaaGreatDoor.P3

namespace Go.Proofs.YtjgcjnkeeiaafaaGreatDoor.P3
def bytes (l : List UInt8) : ByteArray := ⟨l.toArray⟩
theorem bytes_of (s : ByteArray) : bytes s.toList = s := by
  unfold bytes
  rw [Lib.toList_data]
theorem bytes_list (l : List UInt8) : (bytes l).toList = l := by
  rw [Lib.toList_data, bytes]
def gsOf (vs : List PartV) : List Gp := vs.filterMap fun | .g a b => some ⟨bytes a, bytes b⟩ | _ => none
def esOf (vs : List PartV) : List Ev := vs.filterMap fun | .e v => some ⟨bytes v.name, bytes v.group, bytes v.role, v.inn, v.done, v.due⟩ | _ => none
def rsOf (vs : List PartV) : List Rl := vs.filterMap fun | .r v => some ⟨v.kind, bytes v.src, bytes v.dst, v.time⟩ | _ => none
def usOf (vs : List PartV) : List Us := vs.filterMap fun | .u v => some ⟨bytes v.name, none, 0, v.roles.map bytes, bytes v.sub⟩ | _ => none
/-- The graph of some parts; where its lists lie is left out. -/
def grOf (vs : List PartV) : Gr := ⟨gsOf vs, esOf vs, rsOf vs, usOf vs, none, 0, none, 0, none, 0, none, 0⟩
def usBare (u : Us) : Us := ⟨u.name, none, 0, u.roles, u.sub⟩
theorem fm_all {α β : Type} {f : β → Option α} {h : α → β} {l : List α} (e : ∀ x, f (h x) = some x) : (l.map h).filterMap f = l := by
  rw [List.filterMap_map]
  induction l with
  | nil => rfl
  | cons x r ih => rw [List.filterMap_cons, Function.comp, e, ih]
theorem fm_none {α β γ : Type} {f : β → Option α} {h : γ → β} {l : List γ} (e : ∀ x, f (h x) = none) : (l.map h).filterMap f = [] := by
  rw [List.filterMap_map]
  induction l with
  | nil => rfl
  | cons x r ih => rw [List.filterMap_cons, Function.comp, e, ih]
theorem gs_parts (g : Gr) : gsOf (partsV g) = g.gs := by
  unfold gsOf partsV
  rw [List.filterMap_append, List.filterMap_append, List.filterMap_append, fm_all (fun x => by simp only [bytes_of]), fm_none (fun _ => rfl), fm_none (fun _ => rfl), fm_none (fun _ => rfl)]
  simp
theorem es_parts (g : Gr) : esOf (partsV g) = g.es := by
  unfold esOf partsV
  rw [List.filterMap_append, List.filterMap_append, List.filterMap_append, fm_none (fun _ => rfl), fm_all (fun x => by simp only [bytes_of]), fm_none (fun _ => rfl), fm_none (fun _ => rfl)]
  simp
theorem rs_parts (g : Gr) : rsOf (partsV g) = g.rs := by
  unfold rsOf partsV
  rw [List.filterMap_append, List.filterMap_append, List.filterMap_append, fm_none (fun _ => rfl), fm_none (fun _ => rfl), fm_all (fun x => by simp only [bytes_of]), fm_none (fun _ => rfl)]
  simp
theorem us_parts (g : Gr) : usOf (partsV g) = g.us.map usBare := by
  unfold usOf partsV
  rw [List.filterMap_append, List.filterMap_append, List.filterMap_append, fm_none (fun _ => rfl), fm_none (fun _ => rfl), fm_none (fun _ => rfl), List.filterMap_map]
  simp only [List.nil_append]
  induction g.us with
  | nil => rfl
  | cons u r ih =>
    rw [List.filterMap_cons, List.map_cons, ih]
    simp only [Function.comp, bytes_of, List.map_map]
    congr 1
    unfold usBare
    congr 1
    exact (List.map_congr_left (g := id) fun x _ => bytes_of x).trans (List.map_id _)
theorem bare_at (l : List Us) (i : Nat) : (l.map usBare)[i]! = usBare l[i]! := by
  by_cases h : i < l.length
  · rw [getElem!_pos (l.map usBare) i (by rw [List.length_map]; exact h), getElem!_pos l i h, List.getElem_map]
  · rw [getElem!_neg (l.map usBare) i (by rw [List.length_map]; exact h), getElem!_neg l i h]; rfl
/-- Two graphs of the same parts, wherever they lie, are told the same of. -/
theorem check_same {g g' : Gr} (h1 : g'.gs = g.gs) (h2 : g'.es = g.es) (h3 : g'.rs = g.rs) (h4 : g'.us = g.us.map usBare) : checkL g' = checkL g := by
  have hu : uns g' = uns g := by unfold uns; rw [h4, List.map_map]; rfl
  have hg : gns g' = gns g := by unfold gns; rw [h1]
  have he : ens g' = ens g := by unfold ens; rw [h2]
  have hr : rks g' = rks g := by unfold rks; rw [h3]
  have hat : ∀ i, g'.us[i]! = usBare g.us[i]! := fun i => by rw [h4]; exact bare_at _ _
  have hl : g'.us.length = g.us.length := by rw [h4, List.length_map]
  have hb : ∀ i n f, backL g' i n f = backL g i n f := by
    intro i n
    induction n with
    | zero => intro f; rfl
    | succ n ih => intro f; rw [backL, backL, hat, hu]; simp only [ih]; rfl
  have e0 : limitE g' = limitE g := by
    unfold limitE
    rw [h1, h2, h3, hl, h4, List.any_map]; rfl
  have e1 : groupE g' = groupE g := by funext i; unfold groupE; rw [h1, hg]
  have e2 : eventE g' = eventE g := by funext i; unfold eventE; rw [h2, hg, he]
  have e3 : relE g' = relE g := by funext i; unfold relE thereB; rw [h3, hg, he, hr]
  have e4 : userE g' = userE g := by funext i; unfold userE; rw [hat, hu, hl, hb]; rfl
  unfold checkL
  rw [e0, e1, e2, e3, e4, h1, h2, h3, hl]
/-- What a text says, where nothing is wrong with it. -/
def sayL (ts : List B3) : Option (List PartV) :=
  if (splitT ts []).2 = [] ∧ (splitT ts []).1.all (fun l => !(stS l).2) = true then
    (if mayL (grOf ((splitT ts []).1.map stV)) then some ((splitT ts []).1.map stV) else none)
  else none
def parseOk (s : List UInt8) : Option (List PartV) := if (lexL s).2.2 = 0 then sayL ((lexL s).1.map bare) else none
end Go.Proofs.YtjgcjnkeeiaafaaGreatDoor.P3
