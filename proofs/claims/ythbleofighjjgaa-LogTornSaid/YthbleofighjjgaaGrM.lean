/-
  The plain model of layer 2: graphs as they lie in memory, and what Check answers of them, as functions on lists; no program.
-/
import Derived.Test.YthbleofighjjgaaLexM
import Derived.Below
import Derived.Lib.Hide
import Derived.Lib.Strings
namespace Go.Proofs.Ythbleofighjjgaa
open Go.RowKit

/-- A group: its name, its parent. -/
structure Gp where
  name : ByteArray
  parent : ByteArray
/-- An event. -/
structure Ev where
  name : ByteArray
  group : ByteArray
  role : ByteArray
  inn : Bool
  done : Bool
  due : Int
/-- A relation. -/
structure Rl where
  kind : Int
  src : ByteArray
  dst : ByteArray
  time : Int
/-- A user; ra, rc: where its roles lie, and how many there is room for. -/
structure Us where
  name : ByteArray
  ra : Option Addr
  rc : Nat
  roles : List ByteArray
  sub : ByteArray
/-- A graph; where its four lists lie, and how much room they have. -/
structure Gr where
  gs : List Gp
  es : List Ev
  rs : List Rl
  us : List Us
  ga : Option Addr
  gc : Nat
  ea : Option Addr
  ec : Nat
  ra : Option Addr
  rc : Nat
  ua : Option Addr
  uc : Nat
instance : Inhabited Gp := ⟨⟨ByteArray.empty, ByteArray.empty⟩⟩
instance : Inhabited Ev := ⟨⟨ByteArray.empty, ByteArray.empty, ByteArray.empty, false, false, 0⟩⟩
instance : Inhabited Rl := ⟨⟨0, ByteArray.empty, ByteArray.empty, 0⟩⟩
instance : Inhabited Us := ⟨⟨ByteArray.empty, none, 0, [], ByteArray.empty⟩⟩

def gpC (p : Gp) : List Value := [.string p.name, .string p.parent]
def evC (v : Ev) : List Value := [.string v.name, .string v.group, .string v.role, .bool v.inn, .bool v.done, .int .i64 v.due]
def rlC (r : Rl) : List Value := [.int .i64 r.kind, .string r.src, .string r.dst, .int .i64 r.time]
def usC (u : Us) : List Value := [.string u.name, .slice u.ra u.roles.length u.rc, .string u.sub]
def stC (s : ByteArray) : List Value := [.string s]
def grV (g : Gr) : Array Value := #[.slice g.ga g.gs.length g.gc, .slice g.ea g.es.length g.ec, .slice g.ra g.rs.length g.rc, .slice g.ua g.us.length g.uc]

/-- Cells that lie in memory from an address on. -/
def Row (w : World) (A : Option Addr) (xs : List Value) : Prop :=
  xs ≠ [] → ∃ b off, A = some ⟨b, off, none⟩ ∧ b < w.heap.size ∧ ∀ j u, xs[j]? = some u → w.cell? ⟨b, off + j, none⟩ = some u
theorem Row.below {w w' : World} {A : Option Addr} {xs : List Value} (h : Row w A xs) {B : Nat} (hB : w.heap.size ≤ B) (hb : Below B w w') : Row w' A xs := by
  intro hn
  obtain ⟨b, off, h1, h2, h3⟩ := h hn
  exact ⟨b, off, h1, by have := hb.size; omega, fun j u hu => (hb.cell (p := ⟨b, off + j, none⟩) (by show b < B; omega)).trans (h3 j u hu)⟩
theorem Row.of_own {w : World} {B e z : Nat} {A : Option Addr} {n m c : Nat} {xs : List Value} (h : w.ownsRow B e z (.slice A m c) n xs) : Row w A xs := by
  rcases h.2 with ⟨hv, h0⟩ | ⟨g, cap, cur, hv, _, hg, _⟩
  · intro hn
    exfalso; apply hn
    have := h.1
    rw [h0, Nat.zero_mul] at this
    exact List.eq_nil_of_length_eq_zero this
  · injection hv with h1 h2 h3
    subst h1
    refine fun _ => ⟨g, 0, rfl, (Array.getElem?_eq_some_iff.1 hg).1, fun j u hu => ?_⟩
    have := h.cells (g := g) rfl j u hu
    rw [Addr.add_lit] at this
    exact this

/-- A graph that lies in memory. -/
structure InG (w : World) (g : Gr) : Prop where
  gs : Row w g.ga (g.gs.flatMap gpC)
  es : Row w g.ea (g.es.flatMap evC)
  rs : Row w g.ra (g.rs.flatMap rlC)
  us : Row w g.ua (g.us.flatMap usC)
  roles : ∀ u ∈ g.us, Row w u.ra (u.roles.map Value.string)
theorem InG.below {w w' : World} {g : Gr} (h : InG w g) {B : Nat} (hB : w.heap.size ≤ B) (hb : Below B w w') : InG w' g :=
  ⟨h.gs.below hB hb, h.es.below hB hb, h.rs.below hB hb, h.us.below hB hb, fun u hu => (h.roles u hu).below hB hb⟩

/-- How great a string, a list may be. -/
def top : Nat := 140737488351232
structure SzG (g : Gr) : Prop where
  gs : g.gs.length * 32 ≤ 140737488351232
  es : g.es.length * 64 ≤ 140737488351232
  rs : g.rs.length * 48 ≤ 140737488351232
  us : g.us.length * 56 ≤ 140737488351232
  gp : ∀ p ∈ g.gs, p.name.size ≤ 140737488351232 ∧ p.parent.size ≤ 140737488351232
  ev : ∀ v ∈ g.es, v.name.size ≤ 140737488351232 ∧ v.group.size ≤ 140737488351232 ∧ v.role.size ≤ 140737488351232 ∧ (Lit.int .i64 v.due).wf = true
  rl : ∀ r ∈ g.rs, r.src.size ≤ 140737488351232 ∧ r.dst.size ≤ 140737488351232 ∧ (Lit.int .i64 r.kind).wf = true ∧ (Lit.int .i64 r.time).wf = true
  ur : ∀ u ∈ g.us, u.name.size ≤ 140737488351232 ∧ u.sub.size ≤ 140737488351232 ∧ u.roles.length * 16 ≤ 140737488351232 ∧ ∀ s ∈ u.roles, s.size ≤ 140737488351232

theorem flat_len {α : Type} (enc : α → List Value) (k : Nat) (hk : ∀ x, (enc x).length = k) : ∀ l : List α, (l.flatMap enc).length = l.length * k
  | [] => by simp
  | x :: r => by rw [List.flatMap_cons, List.length_append, hk, flat_len enc k hk r, List.length_cons, Nat.succ_mul]; omega
theorem flat_at {α : Type} [Inhabited α] (enc : α → List Value) (k : Nat) (hk : ∀ x, (enc x).length = k) : ∀ (l : List α) (i : Nat) (_ : i < l.length) (j : Nat) (_ : j < k), (l.flatMap enc)[i * k + j]? = (enc l[i]!)[j]?
  | [], i, h, _, _ => by simp at h
  | x :: r, 0, _, j, hj => by
    rw [List.flatMap_cons, Nat.zero_mul, Nat.zero_add, List.getElem?_append_left (by rw [hk]; exact hj)]; rfl
  | x :: r, i + 1, h, j, hj => by
    have e : (i + 1) * k = i * k + k := Nat.succ_mul i k
    rw [List.flatMap_cons, List.getElem?_append_right (by rw [hk]; omega), hk, show (i + 1) * k + j - k = i * k + j from by omega, flat_at enc k hk r i (by simpa using h) j hj]
    rfl
/-- The cells of one element of a list. -/
theorem Row.at_ {α : Type} [Inhabited α] {enc : α → List Value} {k : Nat} {w : World} {A : Option Addr} {l : List α} (h : Row w A (l.flatMap enc)) (hk : ∀ x, (enc x).length = k) (k0 : 0 < k) {i : Nat} (hi : i < l.length) :
    ∃ b off, A = some ⟨b, off, none⟩ ∧ b < w.heap.size ∧ ∀ j u, (enc l[i]!)[j]? = some u → w.cell? ⟨b, off + i * k + j, none⟩ = some u := by
  have hl := flat_len enc k hk l
  have hp : 0 < l.length * k := Nat.mul_pos (by omega) k0
  obtain ⟨b, off, h1, h2, h3⟩ := h (fun e => by rw [e] at hl; simp at hl; omega)
  refine ⟨b, off, h1, h2, fun j u hu => ?_⟩
  have hj : j < k := by rw [← hk l[i]!]; exact (List.getElem?_eq_some_iff.1 hu).1
  rw [Nat.add_assoc]
  exact h3 _ _ ((flat_at enc k hk l i hi j hj).trans hu)

/-! ### what Check answers -/
abbrev Key := List UInt8
def kws : List Key := [[103, 114, 111, 117, 112], [101, 118, 101, 110, 116], [114, 111, 108, 101], [105, 110], [101, 120, 99, 108, 117, 100, 101, 100], [100, 111, 110, 101], [112, 101, 110, 100, 105, 110, 103], [100, 117, 101],
  [99, 111, 110, 100, 105, 116, 105, 111, 110], [114, 101, 115, 112, 111, 110, 115, 101], [105, 110, 99, 108, 117, 100, 101], [101, 120, 99, 108, 117, 100, 101], [109, 105, 108, 101, 115, 116, 111, 110, 101], [117, 115, 101, 114], [114, 111, 108, 101, 115], [115, 117, 98]]
def nameK (s : Key) : Bool := !kws.contains s && nameL s
def gns (g : Gr) : List Key := g.gs.map (·.name.toList)
def ens (g : Gr) : List Key := g.es.map (·.name.toList)
def uns (g : Gr) : List Key := g.us.map (·.name.toList)
abbrev RKey := Int × Key × Key
def rkey (r : Rl) : RKey := (r.kind, r.src.toList, r.dst.toList)
def rks (g : Gr) : List RKey := g.rs.map rkey
/-- Does something stand ahead of a place? -/
def aheadB {α : Type} [BEq α] (l : List α) (k : α) (i : Nat) : Bool := decide (l.idxOf k < i)
def hasB {α : Type} [BEq α] (l : List α) (k : α) : Bool := l.contains k

def limitE (g : Gr) : Nat :=
  if 40 < g.gs.length then 4 else if 80 < g.es.length then 4 else if 300 < g.rs.length then 4 else if 40 < g.us.length then 4 else if g.us.any (fun u => decide (8 < u.roles.length)) then 4 else 0
def groupE (g : Gr) (i : Nat) : Nat :=
  if nameK g.gs[i]!.name.toList then
    if aheadB (gns g) g.gs[i]!.name.toList i then 6
    else if g.gs[i]!.parent.toList == [] then 0
    else if hasB (gns g) g.gs[i]!.parent.toList && aheadB (gns g) g.gs[i]!.parent.toList i then 0 else 10
  else 5
def eventE (g : Gr) (i : Nat) : Nat :=
  if nameK g.es[i]!.name.toList && nameK g.es[i]!.role.toList && (g.es[i]!.group.toList == [] || nameK g.es[i]!.group.toList) then
    if hasB (gns g) g.es[i]!.name.toList || aheadB (ens g) g.es[i]!.name.toList i then 6
    else if g.es[i]!.group.toList == [] || hasB (gns g) g.es[i]!.group.toList then
      if g.es[i]!.due < -1 then 3 else if 1048576 < g.es[i]!.due then 3 else 0
    else 10
  else 5
def longL (k : Int) : Int := if k = 1 then 65536 else if k = 2 then 1048576 else 0
def thereB (g : Gr) (s : Key) : Bool := hasB (ens g) s || hasB (gns g) s
def relE (g : Gr) (i : Nat) : Nat :=
  if g.rs[i]!.kind < 1 then 1 else if 5 < g.rs[i]!.kind then 1
  else if thereB g g.rs[i]!.src.toList && thereB g g.rs[i]!.dst.toList then
    if g.rs[i]!.time < 0 then 3 else if longL g.rs[i]!.kind < g.rs[i]!.time then 3
    else if aheadB (rks g) (rkey g.rs[i]!) i then 6 else 0
  else 10
def repeatsL (l : List Key) : Nat → Bool
  | 0 => false
  | i + 1 => repeatsL l i || (l.take i).contains (l[i]?.getD [])
/-- Following who stands in for whom, n steps, from a user on: is the one at 'i' met? -/
def backL (g : Gr) (i : Nat) : Nat → Nat → Bool
  | 0, _ => false
  | n + 1, f =>
    if g.us[f]!.sub.toList == [] then false
    else if hasB (uns g) g.us[f]!.sub.toList then
      if (uns g).idxOf g.us[f]!.sub.toList = i then true else backL g i n ((uns g).idxOf g.us[f]!.sub.toList)
    else false
def userE (g : Gr) (i : Nat) : Nat :=
  if nameK g.us[i]!.name.toList && g.us[i]!.roles.all (fun s => nameK s.toList) then
    if aheadB (uns g) g.us[i]!.name.toList i || repeatsL (g.us[i]!.roles.map (·.toList)) g.us[i]!.roles.length then 6
    else if g.us[i]!.sub.toList == [] || hasB (uns g) g.us[i]!.sub.toList then
      if backL g i g.us.length i then 7 else 0
    else 10
  else 5

/-- The first of some that is wrong. -/
def tellL (f : Nat → Nat) : Nat → Option (Nat × Nat)
  | 0 => none
  | n + 1 => match tellL f n with
    | some x => some x
    | none => if f n = 0 then none else some (n, f n)
/-- Part, place, error. -/
abbrev St := Nat × Nat × Nat
def tellS (s : St) (part : Nat) (f : Nat → Nat) (n : Nat) : St :=
  if s.2.2 = 0 then
    match tellL f n with
    | some x => (part, x.1, x.2)
    | none => s
  else s
def checkL (g : Gr) : St :=
  tellS (tellS (tellS (tellS (tellS (0, 0, 0) 0 (fun _ => limitE g) 1) 1 (groupE g) g.gs.length) 2 (eventE g) g.es.length) 3 (relE g) g.rs.length) 4 (userE g) g.us.length
def mayL (g : Gr) : Bool := decide ((checkL g).2.2 = 0)

theorem tellL_none {f : Nat → Nat} : ∀ {n : Nat}, tellL f n = none ↔ ∀ i, i < n → f i = 0
  | 0 => by simp [tellL]
  | n + 1 => by
    have ih := @tellL_none f n
    rw [tellL]
    cases h : tellL f n with
    | some x =>
      constructor
      · intro h'; cases h'
      · intro h'
        rw [ih.2 (fun i hi => h' i (by omega))] at h; cases h
    | none =>
      have ih' := ih.1 h
      by_cases h0 : f n = 0
      · rw [if_pos h0]
        refine ⟨fun _ i hi => ?_, fun _ => rfl⟩
        by_cases e : i = n
        · rw [e]; exact h0
        · exact ih' i (by omega)
      · simp only [if_neg h0]
        exact ⟨(fun h' => by cases h'), fun h' => absurd (h' n (by omega)) h0⟩
theorem tellL_some {f : Nat → Nat} : ∀ {n i c : Nat}, tellL f n = some (i, c) → i < n ∧ c = f i ∧ c ≠ 0 ∧ ∀ j, j < i → f j = 0
  | 0, _, _, h => by cases h
  | n + 1, i, c, h => by
    rw [tellL] at h
    cases h' : tellL f n with
    | some x =>
      rw [h'] at h
      obtain rfl : x = (i, c) := by simpa using h
      obtain ⟨h1, h2⟩ := tellL_some h'
      exact ⟨by omega, h2⟩
    | none =>
      rw [h'] at h
      by_cases h0 : f n = 0
      · simp only [if_pos h0] at h; cases h
      · simp only [if_neg h0] at h
        cases h
        exact ⟨by omega, rfl, h0, tellL_none.1 h'⟩
theorem tellS_ok {s : St} {part n : Nat} {f : Nat → Nat} : (tellS s part f n).2.2 = 0 ↔ s.2.2 = 0 ∧ ∀ i, i < n → f i = 0 := by
  unfold tellS
  by_cases h : s.2.2 = 0
  · rw [if_pos h]
    cases h' : tellL f n with
    | some x =>
      obtain ⟨i, c⟩ := x
      obtain ⟨h1, h2, h3, _⟩ := tellL_some h'
      refine ⟨fun e => absurd e h3, fun e => absurd (e.2 i h1) ?_⟩
      rw [← h2]; exact h3
    | none => exact ⟨fun e => ⟨e, tellL_none.1 h'⟩, fun e => e.1⟩
  · rw [if_neg h]
    exact ⟨fun e => absurd e h, fun e => e.1⟩
theorem may_iff {g : Gr} : mayL g = true ↔ limitE g = 0 ∧ (∀ i, i < g.gs.length → groupE g i = 0) ∧ (∀ i, i < g.es.length → eventE g i = 0) ∧ (∀ i, i < g.rs.length → relE g i = 0) ∧ ∀ i, i < g.us.length → userE g i = 0 := by
  unfold mayL checkL
  rw [decide_eq_true_eq, tellS_ok, tellS_ok, tellS_ok, tellS_ok, tellS_ok]
  constructor
  · rintro ⟨⟨⟨⟨⟨_, h0⟩, h1⟩, h2⟩, h3⟩, h4⟩
    exact ⟨h0 0 (by omega), h1, h2, h3, h4⟩
  · rintro ⟨h0, h1, h2, h3, h4⟩
    exact ⟨⟨⟨⟨⟨rfl, fun _ _ => h0⟩, h1⟩, h2⟩, h3⟩, h4⟩
end Go.Proofs.Ythbleofighjjgaa
