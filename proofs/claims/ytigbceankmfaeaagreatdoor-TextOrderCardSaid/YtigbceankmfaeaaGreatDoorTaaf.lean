/-
  A list of tokens parted into statements; the statements of a graph's text are its parts'. No program. The plain model of Parse where nothing is wrong: the text of a graph that may be is read as that graph. No program. Statements of different parts may stand in any order: users ahead of relations, these ahead of events, groups last. No program. The plain model of Parse with its errors and their places; a place lies within the text. No program. A region that draws its order, walked once in the order of the text, over a class of worlds: its callees may make memory, so long as they stay in the class.
-/
import Derived.Test.YtigbceankmfaeaaGreatDoorTaae
import Derived.Test.YtigbceankmfaeaaGreatDoorTaaa
import Derived.BigQuiet
import Derived.Deep.Quiet
namespace Go.Proofs.YtigbceankmfaeaaGreatDoor.P3
/-- The statements, each without its sign; what is left behind the last sign. -/
def splitT : List B3 → List B3 → List (List B3) × List B3
  | [], acc => ([], acc)
  | t :: r, acc => if t.1 = 3 then (acc :: (splitT r []).1, (splitT r []).2) else splitT r (acc ++ [t])
theorem split_word : ∀ (l acc r : List B3), (∀ t ∈ l, t.1 ≠ 3) → splitT (l ++ r) acc = splitT r (acc ++ l)
  | [], acc, r, _ => by simp
  | t :: l, acc, r, h => by
    rw [List.cons_append, splitT, if_neg (h t (List.mem_cons_self ..)), split_word l _ r (fun x hx => h x (List.mem_cons_of_mem _ hx))]
    simp
theorem split_lines : ∀ (ls : List (List B3)), (∀ l ∈ ls, ∀ t ∈ l, t.1 ≠ 3) → splitT (ls.flatMap fun l => l ++ [sgn]) [] = (ls, [])
  | [], _ => rfl
  | l :: r, h => by
    rw [List.flatMap_cons, List.append_assoc, split_word l [] _ (h l (List.mem_cons_self ..)), List.singleton_append, splitT, if_pos (show sgn.1 = 3 from rfl), split_lines r (fun x hx => h x (List.mem_cons_of_mem _ hx))]
    simp
/-- The parting of layer 1, in these words. -/
theorem split_seg (l : List Tok) : ∀ (n k st : Nat), n = l.length - k → st ≤ k → k ≤ l.length →
    splitT ((l.drop k).map bare) (((l.take k).drop st).map bare) = ((segS (l.drop k) k st).1.map (fun s => ((l.take s.2).drop s.1).map bare), (l.drop (segS (l.drop k) k st).2).map bare)
  | 0, k, st, hn, hs, hk => by
    have e : k = l.length := by omega
    subst e
    rw [List.drop_length, List.take_length, segS]; rfl
  | n + 1, k, st, hn, hs, hk => by
    have hlt : k < l.length := by omega
    have ht : l[k]? = some l[k] := List.getElem?_eq_getElem hlt
    rw [List.drop_eq_getElem_cons hlt, List.map_cons, splitT]
    have e1 : (bare l[k]).1 = l[k].kind := rfl
    rw [e1, segS]
    by_cases h3 : l[k].kind = 3
    · have ih := split_seg l n (k + 1) (k + 1) (by omega) (Nat.le_refl _) hlt
      have e2 : ((l.take (k + 1)).drop (k + 1)).map bare = [] := by rw [List.drop_eq_nil_of_le (by rw [List.length_take]; omega)]; rfl
      rw [e2] at ih
      rw [if_pos h3, if_pos h3, ih]
      rfl
    · have ih := split_seg l n (k + 1) st (by omega) (by omega) hlt
      have e2 : ((l.take (k + 1)).drop st).map bare = ((l.take k).drop st).map bare ++ [bare l[k]] := by
        rw [List.take_succ_eq_append_getElem hlt, List.drop_append_of_le_length (by rw [List.length_take]; omega), List.map_append]; rfl
      rw [e2] at ih
      rw [if_neg h3, if_neg h3, ih]
theorem split_all (l : List Tok) : splitT (l.map bare) [] = ((segS l 0 0).1.map (fun s => ((l.take s.2).drop s.1).map bare), (l.drop (segS l 0 0).2).map bare) := by
  have := split_seg l l.length 0 0 rfl (Nat.le_refl _) (Nat.zero_le _)
  simpa using this
theorem opt_kind (w n : List UInt8) : ∀ t ∈ optT w n, t.1 ≠ 3 := by
  intro t ht
  unfold optT at ht
  split at ht
  · cases ht
  · simp only [List.mem_cons, List.not_mem_nil, or_false] at ht
    rcases ht with rfl | rfl
    · show (1 : Nat) ≠ 3; decide
    · show (1 : Nat) ≠ 3; decide
theorem lines_kind (g : Gr) : ∀ l ∈ linesT g, ∀ t ∈ l, t.1 ≠ 3 := by
  have kw : ∀ x : Key, (kwT x).1 ≠ 3 := fun x => by show (1 : Nat) ≠ 3; decide
  have nu : ∀ n : Nat, (nuT n).1 ≠ 3 := fun n => by show (2 : Nat) ≠ 3; decide
  intro l hl t ht
  unfold linesT at hl
  rcases List.mem_append.1 hl with hl | hl
  · obtain ⟨p, _, rfl⟩ := List.mem_map.1 hl
    unfold gpT at ht
    rcases List.mem_append.1 ht with ht | ht
    · simp only [List.mem_cons, List.not_mem_nil, or_false] at ht
      rcases ht with rfl | rfl <;> exact kw _
    · exact opt_kind _ _ t ht
  rcases List.mem_append.1 hl with hl | hl
  · obtain ⟨v, _, rfl⟩ := List.mem_map.1 hl
    unfold evT at ht
    simp only [List.mem_append] at ht
    rcases ht with ht | ht | ht | ht | ht | ht
    · simp only [List.mem_cons, List.not_mem_nil, or_false] at ht
      rcases ht with rfl | rfl <;> exact kw _
    · exact opt_kind _ _ t ht
    · simp only [List.mem_cons, List.not_mem_nil, or_false] at ht
      rcases ht with rfl | rfl <;> exact kw _
    · split at ht
      · cases ht
      · rw [List.mem_singleton.1 ht]; exact kw _
    · split at ht
      · rw [List.mem_singleton.1 ht]; exact kw _
      · cases ht
    · unfold dueT at ht
      split at ht
      · cases ht
      · split at ht
        · rw [List.mem_singleton.1 ht]; exact kw _
        · simp only [List.mem_cons, List.not_mem_nil, or_false] at ht
          rcases ht with rfl | rfl
          · exact kw _
          · exact nu _
  rcases List.mem_append.1 hl with hl | hl
  · obtain ⟨r, _, rfl⟩ := List.mem_map.1 hl
    unfold rlT timeT at ht
    rcases List.mem_append.1 ht with ht | ht
    · simp only [List.mem_cons, List.not_mem_nil, or_false] at ht
      rcases ht with rfl | rfl | rfl <;> exact kw _
    · split at ht
      · cases ht
      · rw [List.mem_singleton.1 ht]; exact nu _
  · obtain ⟨u, _, rfl⟩ := List.mem_map.1 hl
    unfold usT at ht
    simp only [List.mem_append] at ht
    rcases ht with ht | ht | ht
    · simp only [List.mem_cons, List.not_mem_nil, or_false] at ht
      rcases ht with rfl | rfl | rfl <;> exact kw _
    · obtain ⟨r, _, rfl⟩ := List.mem_map.1 ht
      exact kw _
    · exact opt_kind _ _ t ht
theorem split_print (g : Gr) : splitT (toksT g) [] = (linesT g, []) := split_lines _ (lines_kind g)
/-- A graph's parts, as what is read. -/
def partsV (g : Gr) : List PartV :=
  g.gs.map (fun p => .g p.name.toList p.parent.toList) ++ (g.es.map (fun v => .e ⟨v.name.toList, v.group.toList, v.role.toList, v.inn, v.done, v.due⟩) ++
    (g.rs.map (fun r => .r ⟨r.kind, r.src.toList, r.dst.toList, r.time⟩) ++ g.us.map (fun u => .u ⟨u.name.toList, u.roles.map ByteArray.toList, u.sub.toList⟩)))
/-- Each statement of a graph's text is right, and is that part of the graph. -/
theorem read_print {g : Gr} (h : MayOk g) : (∀ l ∈ linesT g, stS l = (l.length, false)) ∧ (linesT g).map stV = partsV g := by
  have G := fun p (hp : p ∈ g.gs) => st_gp (h.gs p hp).1 (h.gs p hp).2
  have E := fun v (hv : v ∈ g.es) => st_ev (h.es v hv).1 (h.es v hv).2.1 (h.es v hv).2.2.1 (h.es v hv).2.2.2.1 (h.es v hv).2.2.2.2
  have R := fun r (hr : r ∈ g.rs) => st_rl (h.rs r hr).1 (h.rs r hr).2.1 (h.rs r hr).2.2.1 (h.rs r hr).2.2.2.1 (h.rs r hr).2.2.2.2.1 (h.rs r hr).2.2.2.2.2
  have U := fun u (hu : u ∈ g.us) => st_us (h.us u hu).1 (h.us u hu).2.1 (h.us u hu).2.2.1
  refine ⟨fun l hl => ?_, ?_⟩
  · unfold linesT at hl
    rcases List.mem_append.1 hl with hl | hl
    · obtain ⟨p, hp, rfl⟩ := List.mem_map.1 hl; exact (G p hp).1
    rcases List.mem_append.1 hl with hl | hl
    · obtain ⟨p, hp, rfl⟩ := List.mem_map.1 hl; exact (E p hp).1
    rcases List.mem_append.1 hl with hl | hl
    · obtain ⟨p, hp, rfl⟩ := List.mem_map.1 hl; exact (R p hp).1
    · obtain ⟨p, hp, rfl⟩ := List.mem_map.1 hl; exact (U p hp).1
  · unfold linesT partsV
    simp only [List.map_append, List.map_map]
    congr 1
    · exact List.map_congr_left fun p hp => (G p hp).2
    congr 1
    · exact List.map_congr_left fun p hp => (E p hp).2
    congr 1
    · exact List.map_congr_left fun p hp => (R p hp).2
    · exact List.map_congr_left fun p hp => (U p hp).2
end Go.Proofs.YtigbceankmfaeaaGreatDoor.P3

namespace Go.Proofs.YtigbceankmfaeaaGreatDoor.P3
def bytes (l : List UInt8) : ByteArray := ⟨l.toArray⟩
theorem bytes_of (s : ByteArray) : bytes s.toList = s := by
  unfold bytes
  rw [Lib.toList_data]
theorem bytes_list (l : List UInt8) : (bytes l).toList = l := by
  rw [Lib.toList_data, bytes]
def gsOf (vs : List PartV) : List Gp := vs.filterMap fun | .g a b => some ⟨bytes a, bytes b⟩ | _ => none
def esOf (vs : List PartV) : List Ev := vs.filterMap fun | .e v => some ⟨bytes v.name, bytes v.group, bytes v.role, v.inn, v.done, v.due⟩ | _ => none
def rsOf (vs : List PartV) : List Rl := vs.filterMap fun | .r v => some ⟨v.kind, bytes v.src, bytes v.dst, v.time⟩ | _ => none
def usOf (vs : List PartV) : List Us := vs.filterMap fun | .u v => some ⟨bytes v.name, none, 0, v.roles.map bytes, bytes v.sub⟩ | _ => none
/-- The graph of some parts; where its lists lie is left out. -/
def grOf (vs : List PartV) : Gr := ⟨gsOf vs, esOf vs, rsOf vs, usOf vs, none, 0, none, 0, none, 0, none, 0⟩
def usBare (u : Us) : Us := ⟨u.name, none, 0, u.roles, u.sub⟩
theorem fm_all {α β : Type} {f : β → Option α} {h : α → β} {l : List α} (e : ∀ x, f (h x) = some x) : (l.map h).filterMap f = l := by
  rw [List.filterMap_map]
  induction l with
  | nil => rfl
  | cons x r ih => rw [List.filterMap_cons, Function.comp, e, ih]
theorem fm_none {α β γ : Type} {f : β → Option α} {h : γ → β} {l : List γ} (e : ∀ x, f (h x) = none) : (l.map h).filterMap f = [] := by
  rw [List.filterMap_map]
  induction l with
  | nil => rfl
  | cons x r ih => rw [List.filterMap_cons, Function.comp, e, ih]
theorem gs_parts (g : Gr) : gsOf (partsV g) = g.gs := by
  unfold gsOf partsV
  rw [List.filterMap_append, List.filterMap_append, List.filterMap_append, fm_all (fun x => by simp only [bytes_of]), fm_none (fun _ => rfl), fm_none (fun _ => rfl), fm_none (fun _ => rfl)]
  simp
theorem es_parts (g : Gr) : esOf (partsV g) = g.es := by
  unfold esOf partsV
  rw [List.filterMap_append, List.filterMap_append, List.filterMap_append, fm_none (fun _ => rfl), fm_all (fun x => by simp only [bytes_of]), fm_none (fun _ => rfl), fm_none (fun _ => rfl)]
  simp
theorem rs_parts (g : Gr) : rsOf (partsV g) = g.rs := by
  unfold rsOf partsV
  rw [List.filterMap_append, List.filterMap_append, List.filterMap_append, fm_none (fun _ => rfl), fm_none (fun _ => rfl), fm_all (fun x => by simp only [bytes_of]), fm_none (fun _ => rfl)]
  simp
theorem us_parts (g : Gr) : usOf (partsV g) = g.us.map usBare := by
  unfold usOf partsV
  rw [List.filterMap_append, List.filterMap_append, List.filterMap_append, fm_none (fun _ => rfl), fm_none (fun _ => rfl), fm_none (fun _ => rfl), List.filterMap_map]
  simp only [List.nil_append]
  induction g.us with
  | nil => rfl
  | cons u r ih =>
    rw [List.filterMap_cons, List.map_cons, ih]
    simp only [Function.comp, bytes_of, List.map_map]
    congr 1
    unfold usBare
    congr 1
    exact (List.map_congr_left (g := id) fun x _ => bytes_of x).trans (List.map_id _)
theorem bare_at (l : List Us) (i : Nat) : (l.map usBare)[i]! = usBare l[i]! := by
  by_cases h : i < l.length
  · rw [getElem!_pos (l.map usBare) i (by rw [List.length_map]; exact h), getElem!_pos l i h, List.getElem_map]
  · rw [getElem!_neg (l.map usBare) i (by rw [List.length_map]; exact h), getElem!_neg l i h]; rfl
/-- Two graphs of the same parts, wherever they lie, are told the same of. -/
theorem check_same {g g' : Gr} (h1 : g'.gs = g.gs) (h2 : g'.es = g.es) (h3 : g'.rs = g.rs) (h4 : g'.us = g.us.map usBare) : checkL g' = checkL g := by
  have hu : uns g' = uns g := by unfold uns; rw [h4, List.map_map]; rfl
  have hg : gns g' = gns g := by unfold gns; rw [h1]
  have he : ens g' = ens g := by unfold ens; rw [h2]
  have hr : rks g' = rks g := by unfold rks; rw [h3]
  have hat : ∀ i, g'.us[i]! = usBare g.us[i]! := fun i => by rw [h4]; exact bare_at _ _
  have hl : g'.us.length = g.us.length := by rw [h4, List.length_map]
  have hb : ∀ i n f, backL g' i n f = backL g i n f := by
    intro i n
    induction n with
    | zero => intro f; rfl
    | succ n ih => intro f; rw [backL, backL, hat, hu]; simp only [ih]; rfl
  have e0 : limitE g' = limitE g := by
    unfold limitE
    rw [h1, h2, h3, hl, h4, List.any_map]; rfl
  have e1 : groupE g' = groupE g := by funext i; unfold groupE; rw [h1, hg]
  have e2 : eventE g' = eventE g := by funext i; unfold eventE; rw [h2, hg, he]
  have e3 : relE g' = relE g := by funext i; unfold relE thereB; rw [h3, hg, he, hr]
  have e4 : userE g' = userE g := by funext i; unfold userE; rw [hat, hu, hl, hb]; rfl
  unfold checkL
  rw [e0, e1, e2, e3, e4, h1, h2, h3, hl]
theorem may_parts (g : Gr) : mayL (grOf (partsV g)) = mayL g := by
  unfold mayL
  rw [check_same (g := g) (gs_parts g) (es_parts g) (rs_parts g) (us_parts g)]
/-- What a text says, where nothing is wrong with it. -/
def sayL (ts : List B3) : Option (List PartV) :=
  if (splitT ts []).2 = [] ∧ (splitT ts []).1.all (fun l => !(stS l).2) = true then
    (if mayL (grOf ((splitT ts []).1.map stV)) then some ((splitT ts []).1.map stV) else none)
  else none
def parseOk (s : List UInt8) : Option (List PartV) := if (lexL s).2.2 = 0 then sayL ((lexL s).1.map bare) else none
theorem say_print {g : Gr} (h : mayL g = true) : sayL (toksT g) = some (partsV g) := by
  obtain ⟨a, b⟩ := read_print (may_ok h)
  unfold sayL
  rw [split_print]
  simp only [b, may_parts, h]
  rw [if_pos]
  · rfl
  · refine ⟨trivial, List.all_eq_true.2 fun l hl => ?_⟩
    rw [a l hl]; rfl
/-- A GRAPH COMES BACK FROM ITS TEXT. -/
theorem parse_print {g : Gr} (h : mayL g = true) : parseOk (printB g) = some (partsV g) := by
  obtain ⟨l', h1, h2⟩ := lex_print (may_ok h)
  unfold parseOk
  rw [h1, if_pos rfl, h2, say_print h]
/-- How a text is laid is no matter: its tokens, joined, say the same. -/
theorem parse_join {s : List UInt8} {l : List Tok} (h : lexL s = (l, 0, 0)) (hn : l.length ≤ 5000) : parseOk (joinS true l) = parseOk s := by
  have ho := lexS_own s 0 0 [] l h (fun t ht => by cases ht)
  obtain ⟨l', h1, h2⟩ := join_back l true 0 [] ho (by simpa using hn)
  have h1' : lexL (joinS true l) = (l', 0, 0) := h1
  unfold parseOk
  rw [h1', h, if_pos rfl, if_pos rfl, h2]
end Go.Proofs.YtigbceankmfaeaaGreatDoor.P3

namespace Go.Proofs.YtigbceankmfaeaaGreatDoor.P3
theorem own_line {g : Gr} (h : MayOk g) : ∀ l ∈ linesT g, ∀ b ∈ l ++ [sgn], Own (tok3 b) := fun l hl _ hb =>
  own_all h _ (List.mem_map_of_mem (List.mem_flatMap.2 ⟨l, hl, hb⟩))
theorem word_line {g : Gr} (h : MayOk g) : ∀ l ∈ linesT g, ∀ x ∈ l.map (·.2.1), x ≠ [59] := fun l hl x hx =>
  lines_ne h.names _ (by rw [← lines_txt]; exact List.mem_map_of_mem hl) x hx
/-- Lines of a graph's text, in any order, have their tokens, and no others. -/
theorem lex_lines {g : Gr} (h : MayOk g) {ls : List (List B3)} (hs : ∀ l ∈ ls, l ∈ linesT g) (hn : (ls.flatMap fun l => l ++ [sgn]).length ≤ 5000) :
    ∃ l', lexL (ls.flatMap fun l => lineB (l.map (·.2.1))) = (l', 0, 0) ∧ l'.map bare = ls.flatMap fun l => l ++ [sgn] := by
  have e1 : (ls.flatMap fun l => lineB (l.map (·.2.1))) = joinS true ((ls.map fun l => l.map (·.2.1)).flatMap lineT) := by
    rw [join_lines, List.flatMap_map]
    intro l hl
    obtain ⟨m, hm, rfl⟩ := List.mem_map.1 hl
    exact word_line h m (hs m hm)
  have e2 : (((ls.flatMap fun l => l ++ [sgn]).map tok3).map Tok.text) = ((ls.map fun l => l.map (·.2.1)).flatMap lineT).map Tok.text := by
    simp only [List.map_flatMap, List.flatMap_map]
    congr 1
    funext l
    simp [lineT, tok3, sgn]
  have ho : ∀ t ∈ (ls.flatMap fun l => l ++ [sgn]).map tok3, Own t := by
    intro t ht
    obtain ⟨b, hb, rfl⟩ := List.mem_map.1 ht
    obtain ⟨l, hl, hb⟩ := List.mem_flatMap.1 hb
    exact own_line h l (hs l hl) b hb
  obtain ⟨l', h1, h2⟩ := join_back _ true 0 [] ho (by simp only [List.length_map, List.length_nil]; omega)
  refine ⟨l', ?_, ?_⟩
  · rw [e1, ← join_txt _ _ _ e2]; exact h1
  · rw [h2, List.map_map]; exact List.map_id _
/-- Users, relations, events, groups. -/
def linesO (g : Gr) : List (List B3) := g.us.map usT ++ (g.rs.map rlT ++ (g.es.map evT ++ g.gs.map gpT))
theorem mem_O {g : Gr} : ∀ l ∈ linesO g, l ∈ linesT g := by
  intro l hl
  unfold linesO at hl
  unfold linesT
  simp only [List.mem_append] at hl ⊢
  rcases hl with h | h | h | h
  · exact .inr (.inr (.inr h))
  · exact .inr (.inr (.inl h))
  · exact .inr (.inl h)
  · exact .inl h
theorem len_O (g : Gr) : ((linesO g).flatMap fun l => l ++ [sgn]).length = (toksT g).length := by
  unfold toksT linesO linesT
  simp only [List.flatMap_append, List.length_append]
  omega
def partsO (g : Gr) : List PartV :=
  g.us.map (fun u => .u ⟨u.name.toList, u.roles.map ByteArray.toList, u.sub.toList⟩) ++ (g.rs.map (fun r => .r ⟨r.kind, r.src.toList, r.dst.toList, r.time⟩) ++
    (g.es.map (fun v => .e ⟨v.name.toList, v.group.toList, v.role.toList, v.inn, v.done, v.due⟩) ++ g.gs.map (fun p => .g p.name.toList p.parent.toList)))
theorem read_O {g : Gr} (h : MayOk g) : (linesO g).map stV = partsO g := by
  have G := fun p (hp : p ∈ g.gs) => st_gp (h.gs p hp).1 (h.gs p hp).2
  have E := fun v (hv : v ∈ g.es) => st_ev (h.es v hv).1 (h.es v hv).2.1 (h.es v hv).2.2.1 (h.es v hv).2.2.2.1 (h.es v hv).2.2.2.2
  have R := fun r (hr : r ∈ g.rs) => st_rl (h.rs r hr).1 (h.rs r hr).2.1 (h.rs r hr).2.2.1 (h.rs r hr).2.2.2.1 (h.rs r hr).2.2.2.2.1 (h.rs r hr).2.2.2.2.2
  have U := fun u (hu : u ∈ g.us) => st_us (h.us u hu).1 (h.us u hu).2.1 (h.us u hu).2.2.1
  unfold linesO partsO
  simp only [List.map_append, List.map_map]
  congr 1
  · exact List.map_congr_left fun p hp => (U p hp).2
  congr 1
  · exact List.map_congr_left fun p hp => (R p hp).2
  congr 1
  · exact List.map_congr_left fun p hp => (E p hp).2
  · exact List.map_congr_left fun p hp => (G p hp).2
theorem fm_nil {α β : Type} : ∀ l : List α, l.filterMap (fun _ => (none : Option β)) = []
  | [] => rfl
  | _ :: r => by rw [List.filterMap_cons, fm_nil r]
/-- The same parts in two orders are the same graph. -/
theorem gr_O (g : Gr) : grOf (partsO g) = grOf (partsV g) := by
  unfold grOf
  have f : ∀ {β : Type} (p : PartV → Option β) (a b c d : List PartV), (a ++ (b ++ (c ++ d))).filterMap p = a.filterMap p ++ (b.filterMap p ++ (c.filterMap p ++ d.filterMap p)) := fun p a b c d => by
    rw [List.filterMap_append, List.filterMap_append, List.filterMap_append]
  congr 1
  all_goals
    simp only [gsOf, esOf, rsOf, usOf, partsO, partsV]
    rw [f, f]
    simp only [List.filterMap_map, Function.comp_def, fm_nil, List.nil_append, List.append_nil]
/-- STATEMENTS OF DIFFERENT PARTS MAY STAND IN ANY ORDER. -/
theorem parse_O {g : Gr} (h : mayL g = true) : parseOk ((linesO g).flatMap fun l => lineB (l.map (·.2.1))) = some (partsO g) := by
  have hm := may_ok h
  obtain ⟨l', h1, h2⟩ := lex_lines hm (ls := linesO g) mem_O (by rw [len_O]; have := toks_len hm; omega)
  obtain ⟨a, _⟩ := read_print hm
  unfold parseOk
  rw [h1, if_pos rfl, h2]
  unfold sayL
  rw [split_lines (linesO g) (fun l hl => lines_kind g l (mem_O l hl))]
  simp only [read_O hm, gr_O, may_parts, h]
  rw [if_pos]
  · rfl
  · refine ⟨trivial, List.all_eq_true.2 fun l hl => ?_⟩
    rw [a l (mem_O l hl)]; rfl
end Go.Proofs.YtigbceankmfaeaaGreatDoor.P3

namespace Go.Proofs.YtigbceankmfaeaaGreatDoor.P3
/-- The first statement that is wrong: its token's number among all. -/
def firstBad : List (List B3) → Nat → Option Nat
  | [], _ => none
  | l :: r, k => if (stS l).2 then some (k + (stS l).1) else firstBad r (k + l.length + 1)
def partNo : PartV → Nat
  | .g _ _ => 1
  | .e _ => 2
  | .r _ => 3
  | .u _ => 4
/-- Of each statement: its part, and its first token's number among all. -/
def begL : List (List B3) → Nat → List (Nat × Nat)
  | [], _ => []
  | l :: r, k => (partNo (stV l), k) :: begL r (k + l.length + 1)
def locAt (l : List Tok) (k : Nat) : Nat := match l[k]? with | some t => t.loc | none => 0
def begins (ls : List (List B3)) (toks : List Tok) (part : Nat) : List Nat := ((begL ls 0).filter (fun x => x.1 == part)).map fun x => locAt toks x.2
/-- What Check says of the parts of right statements. -/
def finL (ls : List (List B3)) (toks : List Tok) (c : St) : List PartV × Nat × Nat :=
  if c.2.2 = 0 then (ls.map stV, 0, 0) else ([], (if c.1 = 0 then 0 else ((begins ls toks c.1)[c.2.1]?).getD 0), c.2.2)
def goodL (ls : List (List B3)) (toks : List Tok) : List PartV × Nat × Nat :=
  match firstBad ls 0 with
  | some k => ([], locAt toks k, 2)
  | none => finL ls toks (checkL (grOf (ls.map stV)))
/-- What Parse says of tokens: the parts, the place, the error. -/
def tellT (toks : List Tok) : List PartV × Nat × Nat :=
  if (splitT (toks.map bare) []).2 = [] then goodL (splitT (toks.map bare) []).1 toks else ([], locAt toks (segS toks 0 0).2, 2)
def parseL (s : List UInt8) : List PartV × Nat × Nat := if (lexL s).2.2 = 0 then tellT (lexL s).1 else ([], (lexL s).2.1, (lexL s).2.2)
theorem bad_none : ∀ (ls : List (List B3)) (k : Nat), firstBad ls k = none ↔ ls.all (fun l => !(stS l).2) = true
  | [], k => by simp [firstBad]
  | l :: r, k => by
    rw [firstBad, List.all_cons]
    cases h : (stS l).2 with
    | true => simp
    | false => simp only [Bool.false_eq_true, if_false, Bool.not_false, Bool.true_and]; exact bad_none r _
theorem fin_ok (ls : List (List B3)) (toks : List Tok) (c : St) (vs : List PartV) : finL ls toks c = (vs, 0, 0) ↔ c.2.2 = 0 ∧ ls.map stV = vs := by
  unfold finL
  by_cases h : c.2.2 = 0
  · rw [if_pos h]; simp [h]
  · rw [if_neg h]; simp [h]
theorem good_ok (ls : List (List B3)) (toks : List Tok) (vs : List PartV) : goodL ls toks = (vs, 0, 0) ↔ ls.all (fun l => !(stS l).2) = true ∧ mayL (grOf (ls.map stV)) = true ∧ ls.map stV = vs := by
  unfold goodL
  cases hb : firstBad ls 0 with
  | none =>
    simp only
    rw [fin_ok, (bad_none ls 0).1 hb]
    unfold mayL
    rw [decide_eq_true_eq]
    simp
  | some k =>
    have h2 : ¬ ls.all (fun l => !(stS l).2) = true := fun h => by rw [(bad_none ls 0).2 h] at hb; cases hb
    simp only
    constructor
    · intro e
      rw [Prod.mk.injEq, Prod.mk.injEq] at e
      exact absurd e.2.2 (by decide)
    · intro e; exact absurd e.1 h2
theorem say_ok (ts : List B3) (vs : List PartV) : sayL ts = some vs ↔ (splitT ts []).2 = [] ∧ (splitT ts []).1.all (fun l => !(stS l).2) = true ∧ mayL (grOf ((splitT ts []).1.map stV)) = true ∧ (splitT ts []).1.map stV = vs := by
  unfold sayL
  generalize splitT ts [] = p
  by_cases h : p.2 = [] ∧ p.1.all (fun l => !(stS l).2) = true
  · rw [if_pos h]
    generalize p.1.map stV = us
    cases hm : mayL (grOf us) with
    | true => simp [h.1, h.2]
    | false => simp
  · rw [if_neg h]
    constructor
    · intro e; cases e
    · intro e; exact absurd ⟨e.1, e.2.1⟩ h
/-- Nothing is wrong just where the parts are told. -/
theorem parse_ok {s : List UInt8} {vs : List PartV} : parseOk s = some vs ↔ parseL s = (vs, 0, 0) := by
  unfold parseOk parseL
  by_cases h : (lexL s).2.2 = 0
  · rw [if_pos h, if_pos h, say_ok]
    unfold tellT
    by_cases h1 : (splitT ((lexL s).1.map bare) []).2 = []
    · rw [if_pos h1, good_ok]
      exact ⟨fun e => e.2, fun e => ⟨h1, e⟩⟩
    · rw [if_neg h1]
      constructor
      · intro e; exact absurd e.1 h1
      · intro e
        rw [Prod.mk.injEq, Prod.mk.injEq] at e
        exact absurd e.2.2 (by decide)
  · rw [if_neg h, if_neg h]
    constructor
    · intro e; cases e
    · intro e
      rw [Prod.mk.injEq, Prod.mk.injEq] at e
      exact absurd e.2.2 h
theorem placed_loc {s : List UInt8} : ∀ (l : List Tok) (k : Nat), Placed s k l → ∀ t ∈ l, t.loc ≤ s.length
  | [], _, _, t, ht => by cases ht
  | x :: r, k, h, t, ht => by
    obtain ⟨_, h2, _, _, _, h6⟩ := h
    rcases List.mem_cons.1 ht with rfl | ht
    · omega
    · exact placed_loc r _ h6 t ht
theorem lexL_few' {s : List UInt8} (hs : s.length < 5000) : (lexL s).2.1 ≤ s.length := by
  rcases lexL_codes s hs with ⟨l, h⟩ | ⟨k, h, hk⟩
  · rw [h]; exact Nat.zero_le _
  · rw [h]; exact Nat.le_of_lt hk
/-- The place of what is wrong lies within the text. -/
theorem parse_at {s : List UInt8} (hs : s.length < 5000) : (parseL s).2.1 ≤ s.length := by
  unfold parseL
  split
  · rename_i h
    have hl : lexL s = ((lexL s).1, 0, 0) := by
      rcases lexL_codes s hs with ⟨l, h1⟩ | ⟨k, h1, _⟩
      · rw [h1]
      · rw [h1] at h; cases h
    have hp := placed_loc _ _ (lexL_placed hl)
    have hloc : ∀ k, locAt (lexL s).1 k ≤ s.length := by
      intro k
      unfold locAt
      cases hk : (lexL s).1[k]? with
      | none => exact Nat.zero_le _
      | some t => exact hp t (List.mem_of_getElem? hk)
    unfold tellT
    split
    · unfold goodL
      split
      · exact hloc _
      · generalize checkL (grOf ((splitT ((lexL s).1.map bare) []).1.map stV)) = c
        unfold finL
        split
        · exact Nat.zero_le _
        · simp only
          split
          · exact Nat.zero_le _
          · unfold begins
            rw [List.getElem?_map]
            generalize ((begL (splitT ((lexL s).1.map bare) []).1 0).filter (fun x => x.1 == c.1))[c.2.1]? = o
            cases o with
            | none => exact Nat.zero_le _
            | some x => exact hloc _
    · exact hloc _
  · exact lexL_few' hs
end Go.Proofs.YtigbceankmfaeaaGreatDoor.P3

namespace Go.Proofs.YtigbceankmfaeaaGreatDoor.B
open Go.RowKit Go.Shelf
/-- A world of a class. -/
structure WIn (CC : World → Prop) where
  w : World
  h : CC w
theorem wp_region_class {P : Program} {id : Nat} {Q : Exit → Act → World → Prop} {a : Act} {w : World} {l : List Oper} (CC : World → Prop) (hm : P.follows .mixedOrders = true) (hB : Region.lexB .any l.toArray = true) (h0 : CC w.drew)
    (h : wpQuiet P l.toArray (fun w' => ∃ x : WIn CC, w' = x.w) (fun a' => ∀ w', (∃ x : WIn CC, w' = x.w) → Q .normal a' w') l a) : (Code.region id l.toArray true).wp P Q a w :=
  wp_region_quiet (C := fun w' => ∃ x : WIn CC, w' = x.w) hm hB ⟨⟨_, h0⟩, rfl⟩ (by simpa using h)
/-- A callee's contract that leaves the class as it is. -/
theorem class_call {P : Program} {f : FuncId} {args : Array Value} {CC : World → Prop} {v : Value} (hC : ∀ W W', CC W → Below W.heap.size W W' → CC W')
    (h : ∀ W, CC W → Calls P f args W fun e w' => e = .returned v ∧ Below W.heap.size W w') : ∀ x : WIn CC, Calls P f args x.w fun e w'' => e = .returned v ∧ ∃ y : WIn CC, w'' = y.w :=
  fun x => (h x.w x.h).mono fun _ _ ⟨he, hb⟩ => ⟨he, ⟨_, hC _ _ x.h hb⟩, rfl⟩
end Go.Proofs.YtigbceankmfaeaaGreatDoor.B
