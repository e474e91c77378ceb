/-
  The plain model of layer 3's Print: the words of each part, the tokens of a line, the text of a graph; no program. What a graph that may be is, plainly: its names are names, its kinds, times and ages lie in their ranges, its parts are few. How long the text of a graph that may be is: its tokens, its words, its bytes.
-/
import Derived.Test.YtigbceankmfaeaaGreatDoorTbaa
import Derived.Test.YtigbceankmfaeaaGreatDoorTbac
namespace Go.Proofs.YtigbceankmfaeaaGreatDoor.P3
/-- A number's digits, as the document has them. -/
def digL (n : Nat) : List UInt8 := if h : n < 10 then [UInt8.ofNat (48 + n)] else digL (n / 10) ++ [UInt8.ofNat (48 + n % 10)]
termination_by n
def kwB (k : Int) : List UInt8 :=
  if k = 1 then [99, 111, 110, 100, 105, 116, 105, 111, 110] else if k = 2 then [114, 101, 115, 112, 111, 110, 115, 101] else
  if k = 3 then [105, 110, 99, 108, 117, 100, 101] else if k = 4 then [101, 120, 99, 108, 117, 100, 101] else [109, 105, 108, 101, 115, 116, 111, 110, 101]
def untB (k : Int) : Int := if k = 2 then 1048576 else 0
/-- A word and a name behind some words, where there is a name. -/
def optB (l : List (List UInt8)) (word name : List UInt8) : List (List UInt8) := if name = [] then l else l ++ [word, name]
def gpW (p : Gp) : List (List UInt8) := optB [[103, 114, 111, 117, 112], p.name.toList] [105, 110] p.parent.toList
def dueW (d : Int) : List (List UInt8) := if d = -1 then [] else if d = 1048576 then [[112, 101, 110, 100, 105, 110, 103]] else [[100, 117, 101], digL d.toNat]
def evW (v : Ev) : List (List UInt8) :=
  optB [[101, 118, 101, 110, 116], v.name.toList] [105, 110] v.group.toList ++ [[114, 111, 108, 101], v.role.toList] ++ (if v.inn then [] else [[101, 120, 99, 108, 117, 100, 101, 100]]) ++ (if v.done then [[100, 111, 110, 101]] else []) ++ dueW v.due
def rlW (r : Rl) : List (List UInt8) := [kwB r.kind, r.src.toList, r.dst.toList] ++ (if r.time = untB r.kind then [] else [digL r.time.toNat])
def usW (u : Us) : List (List UInt8) := optB ([[117, 115, 101, 114], u.name.toList, [114, 111, 108, 101, 115]] ++ u.roles.map ByteArray.toList) [115, 117, 98] u.sub.toList
/-- A line's tokens: its words, its sign. -/
def lineT (ws : List (List UInt8)) : List Tok := ws.map (fun x => ⟨0, x, 0, 0⟩) ++ [⟨0, [59], 0, 0⟩]
/-- A line's text. -/
def lineB : List (List UInt8) → List UInt8
  | [] => [59, 10]
  | x :: r => x ++ (r.flatMap (fun y => 32 :: y) ++ [59, 10])
def linesW (g : Gr) : List (List (List UInt8)) := g.gs.map gpW ++ (g.es.map evW ++ (g.rs.map rlW ++ g.us.map usW))
def printT (g : Gr) : List Tok := (linesW g).flatMap lineT
def printB (g : Gr) : List UInt8 := (linesW g).flatMap lineB
theorem join_words : ∀ (ws : List (List UInt8)) (rest : List Tok), (∀ x ∈ ws, x ≠ [59]) → joinS false (ws.map (fun x => (⟨0, x, 0, 0⟩ : Tok)) ++ ((⟨0, [59], 0, 0⟩ : Tok) :: rest)) = ws.flatMap (fun y => 32 :: y) ++ ([59, 10] ++ joinS true rest)
  | [], rest, _ => by simp [joinS]
  | x :: r, rest, h => by
    have hx : (x == [59]) = false := beq_eq_false_iff_ne.2 (h x (List.mem_cons_self ..))
    have ih := join_words r rest (fun y hy => h y (List.mem_cons_of_mem _ hy))
    rw [List.map_cons, List.cons_append, joinS]
    simp only [hx]
    rw [ih]
    simp
theorem join_line (ws : List (List UInt8)) (rest : List Tok) (h : ∀ x ∈ ws, x ≠ [59]) : joinS true (lineT ws ++ rest) = lineB ws ++ joinS true rest := by
  unfold lineT
  rw [List.append_assoc, List.singleton_append]
  cases ws with
  | nil => simp [joinS, lineB]
  | cons x r =>
    have hx : (x == [59]) = false := beq_eq_false_iff_ne.2 (h x (List.mem_cons_self ..))
    rw [List.map_cons, List.cons_append, joinS]
    simp only [hx]
    rw [join_words r rest (fun y hy => h y (List.mem_cons_of_mem _ hy))]
    simp [lineB]
theorem join_lines : ∀ (ls : List (List (List UInt8))), (∀ l ∈ ls, ∀ x ∈ l, x ≠ [59]) → joinS true (ls.flatMap lineT) = ls.flatMap lineB
  | [], _ => rfl
  | l :: r, h => by
    rw [List.flatMap_cons, List.flatMap_cons, join_line _ _ (h l (List.mem_cons_self ..)), join_lines r (fun y hy => h y (List.mem_cons_of_mem _ hy))]
theorem digL_ne (n : Nat) : digL n ≠ [59] := by
  induction n using Nat.strongRecOn with
  | ind n ih =>
    rw [digL]
    split
    · rename_i h
      have hm : ∀ m : Fin 10, ([UInt8.ofNat (48 + m.val)] : List UInt8) ≠ [59] := by decide
      exact hm ⟨n, h⟩
    · rename_i h
      intro e
      have hl := congrArg List.length e
      have hd : digL (n / 10) ≠ [] := by rw [digL]; split <;> simp
      rw [List.length_append] at hl
      have := List.length_pos_iff.2 hd
      simp at hl
      exact hd hl
theorem name_ne {x : List UInt8} (h : nameL x = true) : x ≠ [59] := by rintro rfl; exact absurd h (by decide)
/-- Every word of a line is no sign, where its names are names. -/
structure NamesOk (g : Gr) : Prop where
  gs : ∀ p ∈ g.gs, nameL p.name.toList = true ∧ (p.parent.toList = [] ∨ nameL p.parent.toList = true)
  es : ∀ v ∈ g.es, nameL v.name.toList = true ∧ nameL v.role.toList = true ∧ (v.group.toList = [] ∨ nameL v.group.toList = true)
  rs : ∀ r ∈ g.rs, nameL r.src.toList = true ∧ nameL r.dst.toList = true
  us : ∀ u ∈ g.us, nameL u.name.toList = true ∧ (∀ r ∈ u.roles, nameL r.toList = true) ∧ (u.sub.toList = [] ∨ nameL u.sub.toList = true)
theorem opt_ne {l : List (List UInt8)} {word name : List UInt8} (hl : ∀ x ∈ l, x ≠ [59]) (hw : word ≠ [59]) (hn : name = [] ∨ nameL name = true) : ∀ x ∈ optB l word name, x ≠ [59] := by
  intro x hx
  unfold optB at hx
  split at hx
  · exact hl x hx
  · rename_i h
    rcases List.mem_append.1 hx with h1 | h1
    · exact hl x h1
    · rcases List.mem_cons.1 h1 with rfl | h1
      · exact hw
      · rw [List.mem_singleton.1 h1]
        rcases hn with e | e
        · exact absurd e h
        · exact name_ne e
theorem lines_ne {g : Gr} (h : NamesOk g) : ∀ l ∈ linesW g, ∀ x ∈ l, x ≠ [59] := by
  intro l hl
  unfold linesW at hl
  rcases List.mem_append.1 hl with hl | hl
  · obtain ⟨p, hp, rfl⟩ := List.mem_map.1 hl
    obtain ⟨h1, h2⟩ := h.gs p hp
    refine opt_ne (fun x hx => ?_) (by decide) h2
    simp only [List.mem_cons, List.not_mem_nil, or_false] at hx
    rcases hx with rfl | rfl
    · decide
    · exact name_ne h1
  rcases List.mem_append.1 hl with hl | hl
  · obtain ⟨v, hv, rfl⟩ := List.mem_map.1 hl
    obtain ⟨h1, h2, h3⟩ := h.es v hv
    intro x hx
    unfold evW at hx
    simp only [List.mem_append] at hx
    rcases hx with (((hx | hx) | hx) | hx) | hx
    · refine opt_ne (fun x hx => ?_) (by decide) h3 x hx
      simp only [List.mem_cons, List.not_mem_nil, or_false] at hx
      rcases hx with rfl | rfl
      · decide
      · exact name_ne h1
    · simp only [List.mem_cons, List.not_mem_nil, or_false] at hx
      rcases hx with rfl | rfl
      · decide
      · exact name_ne h2
    · split at hx
      · cases hx
      · rw [List.mem_singleton.1 hx]; decide
    · split at hx
      · rw [List.mem_singleton.1 hx]; decide
      · cases hx
    · unfold dueW at hx
      split at hx
      · cases hx
      · split at hx
        · rw [List.mem_singleton.1 hx]; decide
        · simp only [List.mem_cons, List.not_mem_nil, or_false] at hx
          rcases hx with rfl | rfl
          · decide
          · exact digL_ne _
  rcases List.mem_append.1 hl with hl | hl
  · obtain ⟨r, hr, rfl⟩ := List.mem_map.1 hl
    obtain ⟨h1, h2⟩ := h.rs r hr
    intro x hx
    unfold rlW at hx
    rcases List.mem_append.1 hx with hx | hx
    · simp only [List.mem_cons, List.not_mem_nil, or_false] at hx
      rcases hx with rfl | rfl | rfl
      · unfold kwB; split <;> (try split) <;> (try split) <;> (try split) <;> decide
      · exact name_ne h1
      · exact name_ne h2
    · split at hx
      · cases hx
      · rw [List.mem_singleton.1 hx]; exact digL_ne _
  · obtain ⟨u, hu, rfl⟩ := List.mem_map.1 hl
    obtain ⟨h1, h2, h3⟩ := h.us u hu
    refine opt_ne (fun x hx => ?_) (by decide) h3
    rcases List.mem_append.1 hx with hx | hx
    · simp only [List.mem_cons, List.not_mem_nil, or_false] at hx
      rcases hx with rfl | rfl | rfl
      · decide
      · exact name_ne h1
      · decide
    · obtain ⟨r, hr, rfl⟩ := List.mem_map.1 hx
      exact name_ne (h2 r hr)
/-- What Join makes of Print's tokens is the document's text. -/
theorem print_join {g : Gr} (h : NamesOk g) : joinS true (printT g) = printB g := join_lines _ (lines_ne h)
end Go.Proofs.YtigbceankmfaeaaGreatDoor.P3

namespace Go.Proofs.YtigbceankmfaeaaGreatDoor.P3
theorem hasB_mem {l : List Key} {k : Key} : hasB l k = true ↔ k ∈ l := by unfold hasB; exact List.contains_iff_mem
theorem beq_nil {l : Key} : (l == []) = true ↔ l = [] := by cases l <;> simp
theorem nameK_L {s : Key} (h : nameK s = true) : nameL s = true := by unfold nameK at h; rw [Bool.and_eq_true] at h; exact h.2
theorem gp_may {g : Gr} {i : Nat} (h : groupE g i = 0) : nameK g.gs[i]!.name.toList = true ∧ (g.gs[i]!.parent.toList = [] ∨ g.gs[i]!.parent.toList ∈ gns g) := by
  unfold groupE at h
  split at h
  · rename_i h1
    refine ⟨h1, ?_⟩
    split at h
    · cases h
    · split at h
      · rename_i h2; exact .inl (beq_nil.1 h2)
      · split at h
        · rename_i h2; rw [Bool.and_eq_true] at h2; exact .inr (hasB_mem.1 h2.1)
        · cases h
  · cases h
theorem ev_may {g : Gr} {i : Nat} (h : eventE g i = 0) : nameK g.es[i]!.name.toList = true ∧ nameK g.es[i]!.role.toList = true ∧ (g.es[i]!.group.toList = [] ∨ nameK g.es[i]!.group.toList = true) ∧ -1 ≤ g.es[i]!.due ∧ g.es[i]!.due ≤ 1048576 := by
  unfold eventE at h
  split at h
  · rename_i h1
    rw [Bool.and_eq_true, Bool.and_eq_true, Bool.or_eq_true] at h1
    obtain ⟨⟨a, b⟩, c⟩ := h1
    split at h
    · cases h
    · split at h
      · split at h
        · cases h
        · split at h
          · cases h
          · refine ⟨a, b, ?_, by omega, by omega⟩
            rcases c with c | c
            · exact .inl (beq_nil.1 c)
            · exact .inr c
      · cases h
  · cases h
theorem rl_may {g : Gr} {i : Nat} (h : relE g i = 0) : 1 ≤ g.rs[i]!.kind ∧ g.rs[i]!.kind ≤ 5 ∧ (g.rs[i]!.src.toList ∈ ens g ∨ g.rs[i]!.src.toList ∈ gns g) ∧ (g.rs[i]!.dst.toList ∈ ens g ∨ g.rs[i]!.dst.toList ∈ gns g) ∧ 0 ≤ g.rs[i]!.time ∧ g.rs[i]!.time ≤ longL g.rs[i]!.kind := by
  unfold relE at h
  split at h
  · cases h
  · split at h
    · cases h
    · split at h
      · rename_i h1
        unfold thereB at h1
        rw [Bool.and_eq_true, Bool.or_eq_true, Bool.or_eq_true] at h1
        obtain ⟨a, b⟩ := h1
        simp only [hasB_mem] at a b
        split at h
        · cases h
        · split at h
          · cases h
          · exact ⟨by omega, by omega, a, b, by omega, by omega⟩
      · cases h
theorem us_may {g : Gr} {i : Nat} (h : userE g i = 0) : nameK g.us[i]!.name.toList = true ∧ (∀ s ∈ g.us[i]!.roles, nameK s.toList = true) ∧ (g.us[i]!.sub.toList = [] ∨ g.us[i]!.sub.toList ∈ uns g) := by
  unfold userE at h
  split at h
  · rename_i h1
    rw [Bool.and_eq_true, List.all_eq_true] at h1
    refine ⟨h1.1, h1.2, ?_⟩
    split at h
    · cases h
    · split at h
      · rename_i h2
        rw [Bool.or_eq_true] at h2
        rcases h2 with h2 | h2
        · exact .inl (beq_nil.1 h2)
        · exact .inr (hasB_mem.1 h2)
      · cases h
  · cases h
/-- What a graph that may be is. -/
structure MayOk (g : Gr) : Prop where
  ngs : g.gs.length ≤ 40
  nes : g.es.length ≤ 80
  nrs : g.rs.length ≤ 300
  nus : g.us.length ≤ 40
  gs : ∀ p ∈ g.gs, nameK p.name.toList = true ∧ (p.parent.toList = [] ∨ nameK p.parent.toList = true)
  es : ∀ v ∈ g.es, nameK v.name.toList = true ∧ nameK v.role.toList = true ∧ (v.group.toList = [] ∨ nameK v.group.toList = true) ∧ -1 ≤ v.due ∧ v.due ≤ 1048576
  rs : ∀ r ∈ g.rs, 1 ≤ r.kind ∧ r.kind ≤ 5 ∧ nameK r.src.toList = true ∧ nameK r.dst.toList = true ∧ 0 ≤ r.time ∧ r.time ≤ longL r.kind
  us : ∀ u ∈ g.us, nameK u.name.toList = true ∧ (∀ s ∈ u.roles, nameK s.toList = true) ∧ (u.sub.toList = [] ∨ nameK u.sub.toList = true) ∧ u.roles.length ≤ 8
theorem at_of {α : Type} [Inhabited α] {l : List α} {p : α → Prop} (h : ∀ i, i < l.length → p l[i]!) : ∀ x ∈ l, p x := by
  intro x hx
  obtain ⟨i, hi, rfl⟩ := List.getElem_of_mem hx
  have := h i hi
  rwa [getElem!_pos l i hi] at this
theorem may_ok {g : Gr} (h : mayL g = true) : MayOk g := by
  obtain ⟨h0, h1, h2, h3, h4⟩ := may_iff.1 h
  have G : ∀ s ∈ gns g, nameK s = true := by
    intro s hs
    obtain ⟨p, hp, rfl⟩ := List.mem_map.1 hs
    exact at_of (p := fun p : Gp => nameK p.name.toList = true) (fun i hi => (gp_may (h1 i hi)).1) p hp
  have E : ∀ s ∈ ens g, nameK s = true := by
    intro s hs
    obtain ⟨p, hp, rfl⟩ := List.mem_map.1 hs
    exact at_of (p := fun p : Ev => nameK p.name.toList = true) (fun i hi => (ev_may (h2 i hi)).1) p hp
  have U : ∀ s ∈ uns g, nameK s = true := by
    intro s hs
    obtain ⟨p, hp, rfl⟩ := List.mem_map.1 hs
    exact at_of (p := fun p : Us => nameK p.name.toList = true) (fun i hi => (us_may (h4 i hi)).1) p hp
  have GE : ∀ s, (s ∈ ens g ∨ s ∈ gns g) → nameK s = true := fun s hs => hs.elim (E s) (G s)
  unfold limitE at h0
  split at h0
  · cases h0
  split at h0
  · cases h0
  split at h0
  · cases h0
  split at h0
  · cases h0
  split at h0
  · cases h0
  rename_i q
  have R : ∀ u ∈ g.us, u.roles.length ≤ 8 := by
    intro u hu
    by_cases hh : 8 < u.roles.length
    · exact absurd (List.any_eq_true.2 ⟨u, hu, decide_eq_true hh⟩) q
    · omega
  refine ⟨by omega, by omega, by omega, by omega, at_of fun i hi => ?_, at_of fun i hi => ev_may (h2 i hi), at_of fun i hi => ?_, fun u hu => ?_⟩
  · obtain ⟨a, b⟩ := gp_may (h1 i hi)
    exact ⟨a, b.imp id (G _)⟩
  · obtain ⟨a, b, c, d, e, f⟩ := rl_may (h3 i hi)
    exact ⟨a, b, GE _ c, GE _ d, e, f⟩
  · have := at_of (p := fun u : Us => nameK u.name.toList = true ∧ (∀ s ∈ u.roles, nameK s.toList = true) ∧ (u.sub.toList = [] ∨ u.sub.toList ∈ uns g)) (fun i hi => us_may (h4 i hi)) u hu
    exact ⟨this.1, this.2.1, this.2.2.imp id (U _), R u hu⟩
theorem MayOk.names {g : Gr} (h : MayOk g) : NamesOk g :=
  ⟨fun p hp => ⟨nameK_L (h.gs p hp).1, (h.gs p hp).2.imp id nameK_L⟩, fun v hv => ⟨nameK_L (h.es v hv).1, nameK_L (h.es v hv).2.1, (h.es v hv).2.2.1.imp id nameK_L⟩,
    fun r hr => ⟨nameK_L (h.rs r hr).2.2.1, nameK_L (h.rs r hr).2.2.2.1⟩, fun u hu => ⟨nameK_L (h.us u hu).1, fun r hr => nameK_L ((h.us u hu).2.1 r hr), (h.us u hu).2.2.1.imp id nameK_L⟩⟩
end Go.Proofs.YtigbceankmfaeaaGreatDoor.P3

namespace Go.Proofs.YtigbceankmfaeaaGreatDoor.P3
theorem flat_le {α β : Type} {f : α → List β} {m : Nat} : ∀ (l : List α), (∀ x ∈ l, (f x).length ≤ m) → (l.flatMap f).length ≤ l.length * m
  | [], _ => by simp
  | x :: r, h => by
    have h1 := h x (List.mem_cons_self ..)
    have h2 := flat_le r (fun y hy => h y (List.mem_cons_of_mem _ hy))
    rw [List.flatMap_cons, List.length_append, List.length_cons, Nat.succ_mul]; omega
theorem lineT_len (ws : List (List UInt8)) : (lineT ws).length = ws.length + 1 := by simp [lineT]
theorem optB_len (l : List (List UInt8)) (a b : List UInt8) : (optB l a b).length ≤ l.length + 2 := by unfold optB; split <;> simp
theorem gpW_len (p : Gp) : (gpW p).length ≤ 4 := by have := optB_len [[103, 114, 111, 117, 112], p.name.toList] [105, 110] p.parent.toList; exact this
theorem dueW_len (d : Int) : (dueW d).length ≤ 2 := by unfold dueW; split <;> (try split) <;> simp
theorem evW_len (v : Ev) : (evW v).length ≤ 10 := by
  have h1 := optB_len [[101, 118, 101, 110, 116], v.name.toList] [105, 110] v.group.toList
  have h2 := dueW_len v.due
  unfold evW
  simp only [List.length_append, List.length_cons, List.length_nil] at h1 ⊢
  have h3 : (if v.inn then [] else [[101, 120, 99, 108, 117, 100, 101, 100]] : List (List UInt8)).length ≤ 1 := by split <;> simp
  have h4 : (if v.done then [[100, 111, 110, 101]] else [] : List (List UInt8)).length ≤ 1 := by split <;> simp
  omega
theorem rlW_len (r : Rl) : (rlW r).length ≤ 4 := by unfold rlW; rw [List.length_append]; split <;> simp
theorem usW_len {u : Us} (h : u.roles.length ≤ 8) : (usW u).length ≤ 13 := by
  have h1 := optB_len ([[117, 115, 101, 114], u.name.toList, [114, 111, 108, 101, 115]] ++ u.roles.map ByteArray.toList) [115, 117, 98] u.sub.toList
  unfold usW
  rw [List.length_append, List.length_map] at h1
  simp only [List.length_cons, List.length_nil] at h1
  omega
theorem MayOk.toks {g : Gr} (h : MayOk g) : (printT g).length ≤ 3140 := by
  unfold printT linesW
  rw [List.flatMap_append, List.flatMap_append, List.flatMap_append, List.length_append, List.length_append, List.length_append, List.flatMap_map, List.flatMap_map, List.flatMap_map, List.flatMap_map]
  have h1 := flat_le (m := 5) g.gs (f := fun p => lineT (gpW p)) (fun p _ => by rw [lineT_len]; have := gpW_len p; omega)
  have h2 := flat_le (m := 11) g.es (f := fun p => lineT (evW p)) (fun p _ => by rw [lineT_len]; have := evW_len p; omega)
  have h3 := flat_le (m := 5) g.rs (f := fun p => lineT (rlW p)) (fun p _ => by rw [lineT_len]; have := rlW_len p; omega)
  have h4 := flat_le (m := 14) g.us (f := fun p => lineT (usW p)) (fun p hp => by rw [lineT_len]; have := usW_len (h.us p hp).2.2.2; omega)
  have := h.ngs; have := h.nes; have := h.nrs; have := h.nus
  omega
theorem digL_len : ∀ (k n : Nat), n < 10 ^ (k + 1) → (digL n).length ≤ k + 1
  | 0, n, h => by rw [digL, dif_pos (by simpa using h)]; simp
  | k + 1, n, h => by
    rw [digL]
    split
    · simp
    · have := digL_len k (n / 10) (by rw [Nat.pow_succ] at h; omega)
      rw [List.length_append, List.length_singleton]; omega
theorem name_len {s : List UInt8} (h : nameL s = true) : s.length ≤ 20 := by
  obtain ⟨c, r, rfl, h1, _⟩ := nameL_cons h
  rw [List.length_cons]; omega
theorem opt_all {q : List UInt8 → Prop} {l : List (List UInt8)} {word name : List UInt8} (hl : ∀ x ∈ l, q x) (hw : q word) (hn : name = [] ∨ q name) : ∀ x ∈ optB l word name, q x := by
  intro x hx
  unfold optB at hx
  split at hx
  · exact hl x hx
  · rename_i h
    rcases List.mem_append.1 hx with h1 | h1
    · exact hl x h1
    · rcases List.mem_cons.1 h1 with rfl | h1
      · exact hw
      · rw [List.mem_singleton.1 h1]
        exact hn.elim (fun e => absurd e h) id
/-- What holds of each word that the language keeps, of each name and of each number, holds of each word of a text. -/
theorem MayOk.words {g : Gr} (h : MayOk g) {q : List UInt8 → Prop} (hk : ∀ s ∈ kws, q s) (hn : ∀ s, nameK s = true → q s) (hd : ∀ n : Nat, n ≤ 1048576 → q (digL n)) : ∀ l ∈ linesW g, ∀ x ∈ l, q x := by
  intro l hl
  unfold linesW at hl
  rcases List.mem_append.1 hl with hl | hl
  · obtain ⟨p, hp, rfl⟩ := List.mem_map.1 hl
    obtain ⟨h1, h2⟩ := h.gs p hp
    refine opt_all (fun x hx => ?_) (hk _ (by decide)) (h2.imp id (hn _))
    simp only [List.mem_cons, List.not_mem_nil, or_false] at hx
    rcases hx with rfl | rfl
    · exact hk _ (by decide)
    · exact hn _ h1
  rcases List.mem_append.1 hl with hl | hl
  · obtain ⟨v, hv, rfl⟩ := List.mem_map.1 hl
    obtain ⟨h1, h2, h3, h4, h5⟩ := h.es v hv
    intro x hx
    unfold evW at hx
    simp only [List.mem_append] at hx
    rcases hx with (((hx | hx) | hx) | hx) | hx
    · refine opt_all (fun x hx => ?_) (hk _ (by decide)) (h3.imp id (hn _)) x hx
      simp only [List.mem_cons, List.not_mem_nil, or_false] at hx
      rcases hx with rfl | rfl
      · exact hk _ (by decide)
      · exact hn _ h1
    · simp only [List.mem_cons, List.not_mem_nil, or_false] at hx
      rcases hx with rfl | rfl
      · exact hk _ (by decide)
      · exact hn _ h2
    · split at hx
      · cases hx
      · rw [List.mem_singleton.1 hx]; exact hk _ (by decide)
    · split at hx
      · rw [List.mem_singleton.1 hx]; exact hk _ (by decide)
      · cases hx
    · unfold dueW at hx
      split at hx
      · cases hx
      · split at hx
        · rw [List.mem_singleton.1 hx]; exact hk _ (by decide)
        · simp only [List.mem_cons, List.not_mem_nil, or_false] at hx
          rcases hx with rfl | rfl
          · exact hk _ (by decide)
          · exact hd _ (by omega)
  rcases List.mem_append.1 hl with hl | hl
  · obtain ⟨r, hr, rfl⟩ := List.mem_map.1 hl
    obtain ⟨k1, k2, h1, h2, t1, t2⟩ := h.rs r hr
    intro x hx
    unfold rlW at hx
    rcases List.mem_append.1 hx with hx | hx
    · simp only [List.mem_cons, List.not_mem_nil, or_false] at hx
      rcases hx with rfl | rfl | rfl
      · unfold kwB; split <;> (try split) <;> (try split) <;> (try split) <;> exact hk _ (by decide)
      · exact hn _ h1
      · exact hn _ h2
    · split at hx
      · cases hx
      · rw [List.mem_singleton.1 hx]
        refine hd _ ?_
        unfold longL at t2
        split at t2
        · omega
        · split at t2 <;> omega
  · obtain ⟨u, hu, rfl⟩ := List.mem_map.1 hl
    obtain ⟨h1, h2, h3, _⟩ := h.us u hu
    refine opt_all (fun x hx => ?_) (hk _ (by decide)) (h3.imp id (hn _))
    rcases List.mem_append.1 hx with hx | hx
    · simp only [List.mem_cons, List.not_mem_nil, or_false] at hx
      rcases hx with rfl | rfl | rfl
      · exact hk _ (by decide)
      · exact hn _ h1
      · exact hk _ (by decide)
    · obtain ⟨r, hr, rfl⟩ := List.mem_map.1 hx
      exact hn _ (h2 r hr)
theorem MayOk.short {g : Gr} (h : MayOk g) : ∀ l ∈ linesW g, ∀ x ∈ l, x.length ≤ 20 :=
  h.words (by decide) (fun _ h => name_len (nameK_L h)) (fun n hn => Nat.le_trans (digL_len 6 n (by omega)) (by omega))
theorem join_len : ∀ (l : List Tok) (p : Bool), (∀ t ∈ l, t.text.length ≤ 20) → (joinS p l).length ≤ l.length * 22
  | [], _, _ => by simp [joinS]
  | t :: r, p, h => by
    have ih := join_len r (t.text == [59]) (fun x hx => h x (List.mem_cons_of_mem _ hx))
    have h1 := h t (List.mem_cons_self ..)
    have h2 : (if !p && !(t.text == [59]) then [32] else [] : List UInt8).length ≤ 1 := by split <;> simp
    have h3 : (if t.text == [59] then [10] else [] : List UInt8).length ≤ 1 := by split <;> simp
    rw [joinS, List.length_append, List.length_append, List.length_append, List.length_cons, Nat.succ_mul]
    omega
theorem MayOk.tok20 {g : Gr} (h : MayOk g) : ∀ t ∈ printT g, t.text.length ≤ 20 := by
  intro t ht
  unfold printT at ht
  obtain ⟨l, hl, ht⟩ := List.mem_flatMap.1 ht
  unfold lineT at ht
  rcases List.mem_append.1 ht with ht | ht
  · obtain ⟨x, hx, rfl⟩ := List.mem_map.1 ht
    exact h.short l hl x hx
  · rw [List.mem_singleton.1 ht]; decide
/-- The text of a graph that may be has less than 70,000 bytes. -/
theorem MayOk.bytes {g : Gr} (h : MayOk g) : (joinS true (printT g)).length ≤ 69080 := by
  have h1 := join_len (printT g) true h.tok20
  have h2 := h.toks
  omega
end Go.Proofs.YtigbceankmfaeaaGreatDoor.P3
