/-
  The plain model of layer 1: what Lex, Name, Join and Statements answer, as functions on lists of bytes; no Go, no program. The plain model of layer 2: graphs as they lie in memory, and what Check answers of them, as functions on lists; no program. Contracts of lex.isLetter, isDigit, isInner, run, Name, over any byte and any string. A map from keys to places, as the walks use it; which place a key has first.
-/
import Derived.Below
import Derived.Lib.Hide
import Derived.Lib.Strings
import Derived.Test.YtahhhhacoigpmaaProg
import Derived.WalkKit
import Derived.WalkSpells
import Derived.WalkLawsBesides
import Derived.Maps.OwnIn
import Derived.Maps.OwnSet
import Derived.Maps.Views
import Derived.DeepKeys4
import Derived.MapViews
namespace Go.Proofs.Ytahhhhacoigpmaa
/-- A token: kind, text, value, place. -/
structure Tok where
  kind : Nat
  text : List UInt8
  val : Nat
  loc : Nat
def letB (c : UInt8) : Bool := decide (97 ≤ c.toNat) && decide (c.toNat ≤ 122)
def digB (c : UInt8) : Bool := decide (48 ≤ c.toNat) && decide (c.toNat ≤ 57)
def innB (c : UInt8) : Bool := letB c || digB c || decide (c.toNat = 95)
def gapB (c : UInt8) : Bool := decide (c.toNat = 32) || decide (c.toNat = 10)
def runL (l : List UInt8) : List UInt8 := l.takeWhile innB
def nameL : List UInt8 → Bool
  | [] => false
  | c :: r => decide (r.length < 20) && letB c && r.all innB
def numGo : Nat → List UInt8 → Option Nat
  | v, [] => some v
  | v, c :: r => if digB c then (if v * 10 + (c.toNat - 48) ≤ 1048576 then numGo (v * 10 + (c.toNat - 48)) r else none) else none
def numL : List UInt8 → Option Nat
  | [] => none
  | c :: r => if c.toNat = 48 ∧ r ≠ [] then none else numGo 0 (c :: r)
def wordL (x : List UInt8) (k : Nat) : Option Tok :=
  if nameL x then some ⟨1, x, 0, k⟩ else
  match numL x with
  | some v => some ⟨2, x, v, k⟩
  | none => none
def takeL (r : List UInt8) (k : Nat) : Option Tok :=
  match r with
  | [] => none
  | c :: r' => if c.toNat = 59 then some ⟨3, [c], 0, k⟩ else wordL (runL (c :: r')) k
/-- The tokens from here on: what is left, how many bytes of it are passed over first, the place, the tokens so far. The answer: tokens, place, error. -/
def lexS : List UInt8 → Nat → Nat → List Tok → List Tok × Nat × Nat
  | [], _, _, l => (l, 0, 0)
  | _ :: r, n + 1, k, l => lexS r n (k + 1) l
  | c :: r, 0, k, l =>
    if gapB c then lexS r 0 (k + 1) l else
    match takeL (c :: r) k with
    | none => ([], k, 2)
    | some t => if l.length = 5000 then ([], k, 4) else lexS r (t.text.length - 1) (k + 1) (l ++ [t])
def lexL (s : List UInt8) : List Tok × Nat × Nat := lexS s 0 0 []
theorem lexS_skip : ∀ (r : List UInt8) (n k : Nat) (l : List Tok), n ≤ r.length → lexS r n k l = lexS (r.drop n) 0 (k + n) l
  | _, 0, _, _, _ => by simp
  | [], n + 1, _, _, h => by simp at h
  | c :: r, n + 1, k, l, h => by
    have := lexS_skip r n (k + 1) l (by simpa using h)
    rw [lexS, this, List.drop_succ_cons]
    congr 1
    omega
theorem runL_all (l : List UInt8) : (runL l).all innB = true := by
  unfold runL
  induction l with
  | nil => rfl
  | cons c r ih =>
    rw [List.takeWhile_cons]
    by_cases h : innB c = true
    · simp [h, ih]
    · simp [h]
theorem runL_le (l : List UInt8) : (runL l).length ≤ l.length := (List.takeWhile_prefix _).length_le
theorem runL_cons (c : UInt8) (r : List UInt8) (h : innB c = true) : runL (c :: r) = c :: runL r := by simp [runL, h]
theorem runL_none (c : UInt8) (r : List UInt8) (h : innB c = false) : runL (c :: r) = [] := by simp [runL, h]
theorem run_step (l : List UInt8) : ∀ (k : Nat) (hk : k < l.length), innB l[k] = true → k ≤ (runL l).length → k + 1 ≤ (runL l).length := by
  induction l with
  | nil => intro k hk; simp at hk
  | cons c r ih =>
    intro k hk hin hr
    by_cases hc : innB c = true
    · rw [runL_cons c r hc] at hr ⊢
      cases k with
      | zero => simp
      | succ k => have := ih k (by simpa using hk) (by simpa using hin) (by simpa using hr); simpa using this
    · cases k with
      | zero => exact absurd hin hc
      | succ k => rw [runL_none c r (by simpa using hc)] at hr; simp at hr
theorem run_stop (l : List UInt8) : ∀ (k : Nat), k ≤ (runL l).length → (∀ hk : k < l.length, innB l[k] = false) → runL l = l.take k := by
  induction l with
  | nil => intro k _ _; simp [runL]
  | cons c r ih =>
    intro k hr hs
    by_cases hc : innB c = true
    · rw [runL_cons c r hc] at hr ⊢
      cases k with
      | zero => have := hs (by simp); simp [hc] at this
      | succ k => rw [ih k (by simpa using hr) (fun hk => hs (Nat.succ_lt_succ hk))]; simp
    · rw [runL_none c r (by simpa using hc)] at hr ⊢
      cases k with
      | zero => simp
      | succ k => simp at hr
theorem nameL_cons {x : List UInt8} (h : nameL x = true) : ∃ c r, x = c :: r ∧ r.length < 20 ∧ letB c = true ∧ r.all innB = true := by
  cases x with
  | nil => simp [nameL] at h
  | cons c r => simp only [nameL, Bool.and_eq_true, decide_eq_true_eq] at h; exact ⟨c, r, rfl, h.1.1, h.1.2, h.2⟩
theorem numL_cons {x : List UInt8} {v : Nat} (h : numL x = some v) : ∃ c r, x = c :: r := by
  cases x with
  | nil => simp [numL] at h
  | cons c r => exact ⟨c, r, rfl⟩
theorem wordL_some {x : List UInt8} {k : Nat} {t : Tok} (h : wordL x k = some t) : t.text = x ∧ x ≠ [] ∧ t.loc = k := by
  unfold wordL at h
  by_cases hn : nameL x = true
  · rw [if_pos hn] at h
    obtain ⟨c, r, rfl, _⟩ := nameL_cons hn
    injection h with h; subst h; simp
  · rw [if_neg hn] at h
    cases hv : numL x with
    | none => rw [hv] at h; simp at h
    | some v =>
      rw [hv] at h
      obtain ⟨c, r, rfl⟩ := numL_cons hv
      injection h with h; subst h; simp
theorem takeL_some {r : List UInt8} {k : Nat} {t : Tok} (h : takeL r k = some t) : t.text ≠ [] ∧ t.text = r.take t.text.length ∧ t.loc = k := by
  cases r with
  | nil => simp [takeL] at h
  | cons c r =>
    unfold takeL at h
    simp only at h
    by_cases h59 : c.toNat = 59
    · rw [if_pos h59] at h; injection h with h; subst h; simp
    · rw [if_neg h59] at h
      obtain ⟨h1, h2, h3⟩ := wordL_some h
      refine ⟨h1 ▸ h2, ?_, h3⟩
      rw [h1]
      exact (List.prefix_iff_eq_take.1 (List.takeWhile_prefix _))
theorem takeL_len {r : List UInt8} {k : Nat} {t : Tok} (h : takeL r k = some t) : 1 ≤ t.text.length ∧ t.text.length ≤ r.length := by
  obtain ⟨h1, h2, _⟩ := takeL_some h
  refine ⟨?_, ?_⟩
  · cases ht : t.text with
    | nil => exact absurd ht h1
    | cons c r => simp
  · have := congrArg List.length h2
    rw [List.length_take] at this
    omega
/-- One round of the loop, in the words of places. -/
theorem lex_gap {s : List UInt8} {k : Nat} {l : List Tok} (hk : k < s.length) (hg : gapB s[k] = true) : lexS (s.drop k) 0 k l = lexS (s.drop (k + 1)) 0 (k + 1) l := by
  rw [List.drop_eq_getElem_cons hk, lexS, if_pos hg]
theorem lex_form {s : List UInt8} {k : Nat} {l : List Tok} (hk : k < s.length) (hg : gapB s[k] = false) (ht : takeL (s.drop k) k = none) : lexS (s.drop k) 0 k l = ([], k, 2) := by
  rw [List.drop_eq_getElem_cons hk] at ht ⊢
  rw [lexS, if_neg (by simp [hg]), ht]
theorem lex_many {s : List UInt8} {k : Nat} {l : List Tok} {t : Tok} (hk : k < s.length) (hg : gapB s[k] = false) (ht : takeL (s.drop k) k = some t) (hl : l.length = 5000) : lexS (s.drop k) 0 k l = ([], k, 4) := by
  rw [List.drop_eq_getElem_cons hk] at ht ⊢
  rw [lexS, if_neg (by simp [hg]), ht]
  simp [hl]
theorem lex_tok {s : List UInt8} {k : Nat} {l : List Tok} {t : Tok} (hk : k < s.length) (hg : gapB s[k] = false) (ht : takeL (s.drop k) k = some t) (hl : l.length ≠ 5000) :
    lexS (s.drop k) 0 k l = lexS (s.drop (k + t.text.length)) 0 (k + t.text.length) (l ++ [t]) := by
  obtain ⟨h1, h2⟩ := takeL_len ht
  rw [List.length_drop] at h2
  rw [List.drop_eq_getElem_cons hk] at ht ⊢
  rw [lexS, if_neg (by simp [hg]), ht]
  simp only [hl, if_false]
  rw [lexS_skip _ _ _ _ (by rw [List.length_drop]; omega), List.drop_drop]
  congr 1
  · congr 1; omega
  · omega
theorem lex_end {s : List UInt8} {k : Nat} {l : List Tok} (hk : s.length ≤ k) : lexS (s.drop k) 0 k l = (l, 0, 0) := by
  rw [List.drop_eq_nil_of_le hk, lexS]
end Go.Proofs.Ytahhhhacoigpmaa

namespace Go.Proofs.Ytahhhhacoigpmaa
open Go.RowKit
/-- A group: its name, its parent. -/
structure Gp where
  name : ByteArray
  parent : ByteArray
/-- An event. -/
structure Ev where
  name : ByteArray
  group : ByteArray
  role : ByteArray
  inn : Bool
  done : Bool
  due : Int
/-- A relation. -/
structure Rl where
  kind : Int
  src : ByteArray
  dst : ByteArray
  time : Int
/-- A user; ra, rc: where its roles lie, and how many there is room for. -/
structure Us where
  name : ByteArray
  ra : Option Addr
  rc : Nat
  roles : List ByteArray
  sub : ByteArray
/-- A graph; where its four lists lie, and how much room they have. -/
structure Gr where
  gs : List Gp
  es : List Ev
  rs : List Rl
  us : List Us
  ga : Option Addr
  gc : Nat
  ea : Option Addr
  ec : Nat
  ra : Option Addr
  rc : Nat
  ua : Option Addr
  uc : Nat
instance : Inhabited Gp := ⟨⟨ByteArray.empty, ByteArray.empty⟩⟩
instance : Inhabited Ev := ⟨⟨ByteArray.empty, ByteArray.empty, ByteArray.empty, false, false, 0⟩⟩
instance : Inhabited Rl := ⟨⟨0, ByteArray.empty, ByteArray.empty, 0⟩⟩
instance : Inhabited Us := ⟨⟨ByteArray.empty, none, 0, [], ByteArray.empty⟩⟩
def gpC (p : Gp) : List Value := [.string p.name, .string p.parent]
def evC (v : Ev) : List Value := [.string v.name, .string v.group, .string v.role, .bool v.inn, .bool v.done, .int .i64 v.due]
def rlC (r : Rl) : List Value := [.int .i64 r.kind, .string r.src, .string r.dst, .int .i64 r.time]
def usC (u : Us) : List Value := [.string u.name, .slice u.ra u.roles.length u.rc, .string u.sub]
def stC (s : ByteArray) : List Value := [.string s]
/-- Cells that lie in memory from an address on. -/
def Row (w : World) (A : Option Addr) (xs : List Value) : Prop :=
  xs ≠ [] → ∃ b off, A = some ⟨b, off, none⟩ ∧ b < w.heap.size ∧ ∀ j u, xs[j]? = some u → w.cell? ⟨b, off + j, none⟩ = some u
theorem Row.below {w w' : World} {A : Option Addr} {xs : List Value} (h : Row w A xs) {B : Nat} (hB : w.heap.size ≤ B) (hb : Below B w w') : Row w' A xs := by
  intro hn
  obtain ⟨b, off, h1, h2, h3⟩ := h hn
  exact ⟨b, off, h1, by have := hb.size; omega, fun j u hu => (hb.cell (p := ⟨b, off + j, none⟩) (by show b < B; omega)).trans (h3 j u hu)⟩
theorem Row.of_own {w : World} {B e z : Nat} {A : Option Addr} {n m c : Nat} {xs : List Value} (h : w.ownsRow B e z (.slice A m c) n xs) : Row w A xs := by
  rcases h.2 with ⟨hv, h0⟩ | ⟨g, cap, cur, hv, _, hg, _⟩
  · intro hn
    exfalso; apply hn
    have := h.1
    rw [h0, Nat.zero_mul] at this
    exact List.eq_nil_of_length_eq_zero this
  · injection hv with h1 h2 h3
    subst h1
    refine fun _ => ⟨g, 0, rfl, (Array.getElem?_eq_some_iff.1 hg).1, fun j u hu => ?_⟩
    have := h.cells (g := g) rfl j u hu
    rw [Addr.add_lit] at this
    exact this
/-- A graph that lies in memory. -/
structure InG (w : World) (g : Gr) : Prop where
  gs : Row w g.ga (g.gs.flatMap gpC)
  es : Row w g.ea (g.es.flatMap evC)
  rs : Row w g.ra (g.rs.flatMap rlC)
  us : Row w g.ua (g.us.flatMap usC)
  roles : ∀ u ∈ g.us, Row w u.ra (u.roles.map Value.string)
theorem InG.below {w w' : World} {g : Gr} (h : InG w g) {B : Nat} (hB : w.heap.size ≤ B) (hb : Below B w w') : InG w' g :=
  ⟨h.gs.below hB hb, h.es.below hB hb, h.rs.below hB hb, h.us.below hB hb, fun u hu => (h.roles u hu).below hB hb⟩
/-- How great a string, a list may be. -/
def top : Nat := 140737488351232
structure SzG (g : Gr) : Prop where
  gs : g.gs.length * 32 ≤ 140737488351232
  es : g.es.length * 64 ≤ 140737488351232
  rs : g.rs.length * 48 ≤ 140737488351232
  us : g.us.length * 56 ≤ 140737488351232
  gp : ∀ p ∈ g.gs, p.name.size ≤ 140737488351232 ∧ p.parent.size ≤ 140737488351232
  ev : ∀ v ∈ g.es, v.name.size ≤ 140737488351232 ∧ v.group.size ≤ 140737488351232 ∧ v.role.size ≤ 140737488351232 ∧ (Lit.int .i64 v.due).wf = true
  rl : ∀ r ∈ g.rs, r.src.size ≤ 140737488351232 ∧ r.dst.size ≤ 140737488351232 ∧ (Lit.int .i64 r.kind).wf = true ∧ (Lit.int .i64 r.time).wf = true
  ur : ∀ u ∈ g.us, u.name.size ≤ 140737488351232 ∧ u.sub.size ≤ 140737488351232 ∧ u.roles.length * 16 ≤ 140737488351232 ∧ ∀ s ∈ u.roles, s.size ≤ 140737488351232
theorem flat_len {α : Type} (enc : α → List Value) (k : Nat) (hk : ∀ x, (enc x).length = k) : ∀ l : List α, (l.flatMap enc).length = l.length * k
  | [] => by simp
  | x :: r => by rw [List.flatMap_cons, List.length_append, hk, flat_len enc k hk r, List.length_cons, Nat.succ_mul]; omega
theorem flat_at {α : Type} [Inhabited α] (enc : α → List Value) (k : Nat) (hk : ∀ x, (enc x).length = k) : ∀ (l : List α) (i : Nat) (_ : i < l.length) (j : Nat) (_ : j < k), (l.flatMap enc)[i * k + j]? = (enc l[i]!)[j]?
  | [], i, h, _, _ => by simp at h
  | x :: r, 0, _, j, hj => by
    rw [List.flatMap_cons, Nat.zero_mul, Nat.zero_add, List.getElem?_append_left (by rw [hk]; exact hj)]; rfl
  | x :: r, i + 1, h, j, hj => by
    have e : (i + 1) * k = i * k + k := Nat.succ_mul i k
    rw [List.flatMap_cons, List.getElem?_append_right (by rw [hk]; omega), hk, show (i + 1) * k + j - k = i * k + j from by omega, flat_at enc k hk r i (by simpa using h) j hj]
    rfl
/-- The cells of one element of a list. -/
theorem Row.at_ {α : Type} [Inhabited α] {enc : α → List Value} {k : Nat} {w : World} {A : Option Addr} {l : List α} (h : Row w A (l.flatMap enc)) (hk : ∀ x, (enc x).length = k) (k0 : 0 < k) {i : Nat} (hi : i < l.length) :
    ∃ b off, A = some ⟨b, off, none⟩ ∧ b < w.heap.size ∧ ∀ j u, (enc l[i]!)[j]? = some u → w.cell? ⟨b, off + i * k + j, none⟩ = some u := by
  have hl := flat_len enc k hk l
  have hp : 0 < l.length * k := Nat.mul_pos (by omega) k0
  obtain ⟨b, off, h1, h2, h3⟩ := h (fun e => by rw [e] at hl; simp at hl; omega)
  refine ⟨b, off, h1, h2, fun j u hu => ?_⟩
  have hj : j < k := by rw [← hk l[i]!]; exact (List.getElem?_eq_some_iff.1 hu).1
  rw [Nat.add_assoc]
  exact h3 _ _ ((flat_at enc k hk l i hi j hj).trans hu)
abbrev Key := List UInt8
def kws : List Key := [[103, 114, 111, 117, 112], [101, 118, 101, 110, 116], [114, 111, 108, 101], [105, 110], [101, 120, 99, 108, 117, 100, 101, 100], [100, 111, 110, 101], [112, 101, 110, 100, 105, 110, 103], [100, 117, 101],
  [99, 111, 110, 100, 105, 116, 105, 111, 110], [114, 101, 115, 112, 111, 110, 115, 101], [105, 110, 99, 108, 117, 100, 101], [101, 120, 99, 108, 117, 100, 101], [109, 105, 108, 101, 115, 116, 111, 110, 101], [117, 115, 101, 114], [114, 111, 108, 101, 115], [115, 117, 98]]
def nameK (s : Key) : Bool := !kws.contains s && nameL s
def gns (g : Gr) : List Key := g.gs.map (·.name.toList)
def ens (g : Gr) : List Key := g.es.map (·.name.toList)
def uns (g : Gr) : List Key := g.us.map (·.name.toList)
abbrev RKey := Int × Key × Key
def rkey (r : Rl) : RKey := (r.kind, r.src.toList, r.dst.toList)
def rks (g : Gr) : List RKey := g.rs.map rkey
/-- Does something stand ahead of a place? -/
def aheadB {α : Type} [BEq α] (l : List α) (k : α) (i : Nat) : Bool := decide (l.idxOf k < i)
def hasB {α : Type} [BEq α] (l : List α) (k : α) : Bool := l.contains k
def limitE (g : Gr) : Nat :=
  if 40 < g.gs.length then 4 else if 80 < g.es.length then 4 else if 300 < g.rs.length then 4 else if 40 < g.us.length then 4 else if g.us.any (fun u => decide (8 < u.roles.length)) then 4 else 0
def groupE (g : Gr) (i : Nat) : Nat :=
  if nameK g.gs[i]!.name.toList then
    if aheadB (gns g) g.gs[i]!.name.toList i then 6
    else if g.gs[i]!.parent.toList == [] then 0
    else if hasB (gns g) g.gs[i]!.parent.toList && aheadB (gns g) g.gs[i]!.parent.toList i then 0 else 10
  else 5
def eventE (g : Gr) (i : Nat) : Nat :=
  if nameK g.es[i]!.name.toList && nameK g.es[i]!.role.toList && (g.es[i]!.group.toList == [] || nameK g.es[i]!.group.toList) then
    if hasB (gns g) g.es[i]!.name.toList || aheadB (ens g) g.es[i]!.name.toList i then 6
    else if g.es[i]!.group.toList == [] || hasB (gns g) g.es[i]!.group.toList then
      if g.es[i]!.due < -1 then 3 else if 1048576 < g.es[i]!.due then 3 else 0
    else 10
  else 5
def longL (k : Int) : Int := if k = 1 then 65536 else if k = 2 then 1048576 else 0
def thereB (g : Gr) (s : Key) : Bool := hasB (ens g) s || hasB (gns g) s
def relE (g : Gr) (i : Nat) : Nat :=
  if g.rs[i]!.kind < 1 then 1 else if 5 < g.rs[i]!.kind then 1
  else if thereB g g.rs[i]!.src.toList && thereB g g.rs[i]!.dst.toList then
    if g.rs[i]!.time < 0 then 3 else if longL g.rs[i]!.kind < g.rs[i]!.time then 3
    else if aheadB (rks g) (rkey g.rs[i]!) i then 6 else 0
  else 10
def repeatsL (l : List Key) : Nat → Bool
  | 0 => false
  | i + 1 => repeatsL l i || (l.take i).contains (l[i]?.getD [])
/-- Following who stands in for whom, n steps, from a user on: is the one at 'i' met? -/
def backL (g : Gr) (i : Nat) : Nat → Nat → Bool
  | 0, _ => false
  | n + 1, f =>
    if g.us[f]!.sub.toList == [] then false
    else if hasB (uns g) g.us[f]!.sub.toList then
      if (uns g).idxOf g.us[f]!.sub.toList = i then true else backL g i n ((uns g).idxOf g.us[f]!.sub.toList)
    else false
def userE (g : Gr) (i : Nat) : Nat :=
  if nameK g.us[i]!.name.toList && g.us[i]!.roles.all (fun s => nameK s.toList) then
    if aheadB (uns g) g.us[i]!.name.toList i || repeatsL (g.us[i]!.roles.map (·.toList)) g.us[i]!.roles.length then 6
    else if g.us[i]!.sub.toList == [] || hasB (uns g) g.us[i]!.sub.toList then
      if backL g i g.us.length i then 7 else 0
    else 10
  else 5
/-- The first of some that is wrong. -/
def tellL (f : Nat → Nat) : Nat → Option (Nat × Nat)
  | 0 => none
  | n + 1 => match tellL f n with
    | some x => some x
    | none => if f n = 0 then none else some (n, f n)
/-- Part, place, error. -/
abbrev St := Nat × Nat × Nat
def tellS (s : St) (part : Nat) (f : Nat → Nat) (n : Nat) : St :=
  if s.2.2 = 0 then
    match tellL f n with
    | some x => (part, x.1, x.2)
    | none => s
  else s
def checkL (g : Gr) : St :=
  tellS (tellS (tellS (tellS (tellS (0, 0, 0) 0 (fun _ => limitE g) 1) 1 (groupE g) g.gs.length) 2 (eventE g) g.es.length) 3 (relE g) g.rs.length) 4 (userE g) g.us.length
def mayL (g : Gr) : Bool := decide ((checkL g).2.2 = 0)
theorem tellL_none {f : Nat → Nat} : ∀ {n : Nat}, tellL f n = none ↔ ∀ i, i < n → f i = 0
  | 0 => by simp [tellL]
  | n + 1 => by
    have ih := @tellL_none f n
    rw [tellL]
    cases h : tellL f n with
    | some x =>
      constructor
      · intro h'; cases h'
      · intro h'
        rw [ih.2 (fun i hi => h' i (by omega))] at h; cases h
    | none =>
      have ih' := ih.1 h
      by_cases h0 : f n = 0
      · rw [if_pos h0]
        refine ⟨fun _ i hi => ?_, fun _ => rfl⟩
        by_cases e : i = n
        · rw [e]; exact h0
        · exact ih' i (by omega)
      · simp only [if_neg h0]
        exact ⟨(fun h' => by cases h'), fun h' => absurd (h' n (by omega)) h0⟩
theorem tellL_some {f : Nat → Nat} : ∀ {n i c : Nat}, tellL f n = some (i, c) → i < n ∧ c = f i ∧ c ≠ 0 ∧ ∀ j, j < i → f j = 0
  | 0, _, _, h => by cases h
  | n + 1, i, c, h => by
    rw [tellL] at h
    cases h' : tellL f n with
    | some x =>
      rw [h'] at h
      obtain rfl : x = (i, c) := by simpa using h
      obtain ⟨h1, h2⟩ := tellL_some h'
      exact ⟨by omega, h2⟩
    | none =>
      rw [h'] at h
      by_cases h0 : f n = 0
      · simp only [if_pos h0] at h; cases h
      · simp only [if_neg h0] at h
        cases h
        exact ⟨by omega, rfl, h0, tellL_none.1 h'⟩
theorem tellS_ok {s : St} {part n : Nat} {f : Nat → Nat} : (tellS s part f n).2.2 = 0 ↔ s.2.2 = 0 ∧ ∀ i, i < n → f i = 0 := by
  unfold tellS
  by_cases h : s.2.2 = 0
  · rw [if_pos h]
    cases h' : tellL f n with
    | some x =>
      obtain ⟨i, c⟩ := x
      obtain ⟨h1, h2, h3, _⟩ := tellL_some h'
      refine ⟨fun e => absurd e h3, fun e => absurd (e.2 i h1) ?_⟩
      rw [← h2]; exact h3
    | none => exact ⟨fun e => ⟨e, tellL_none.1 h'⟩, fun e => e.1⟩
  · rw [if_neg h]
    exact ⟨fun e => absurd e h, fun e => e.1⟩
theorem may_iff {g : Gr} : mayL g = true ↔ limitE g = 0 ∧ (∀ i, i < g.gs.length → groupE g i = 0) ∧ (∀ i, i < g.es.length → eventE g i = 0) ∧ (∀ i, i < g.rs.length → relE g i = 0) ∧ ∀ i, i < g.us.length → userE g i = 0 := by
  unfold mayL checkL
  rw [decide_eq_true_eq, tellS_ok, tellS_ok, tellS_ok, tellS_ok, tellS_ok]
  constructor
  · rintro ⟨⟨⟨⟨⟨_, h0⟩, h1⟩, h2⟩, h3⟩, h4⟩
    exact ⟨h0 0 (by omega), h1, h2, h3, h4⟩
  · rintro ⟨h0, h1, h2, h3, h4⟩
    exact ⟨⟨⟨⟨⟨rfl, fun _ _ => h0⟩, h1⟩, h2⟩, h3⟩, h4⟩
end Go.Proofs.Ytahhhhacoigpmaa

namespace Go.Proofs.Ytahhhhacoigpmaa
open Go.RowKit
theorem ret_bool {a b : Bool} (h : a = b) : Ending.returned (.bool a) = .returned (.bool b) := by rw [h]
set_option maxHeartbeats 400000 in
theorem isLetter_any (c : UInt8) (w : World) : Calls Try.prog 89 #[.int .u8 c.toNat] w fun e w' => e = .returned (.bool (letB c)) ∧ w = w' := by
  go_enter Try.func89, Try.ntmps89
  go_wp2
  all_goals go_ret
  all_goals exact ⟨ret_bool (by rw [Bool.eq_iff_iff]; simp [letB]; omega), rfl⟩
set_option maxHeartbeats 400000 in
theorem isDigit_any (c : UInt8) (w : World) : Calls Try.prog 95 #[.int .u8 c.toNat] w fun e w' => e = .returned (.bool (digB c)) ∧ w = w' := by
  go_enter Try.func95, Try.ntmps95
  go_wp2
  all_goals go_ret
  all_goals exact ⟨ret_bool (by rw [Bool.eq_iff_iff]; simp [digB]; omega), rfl⟩
set_option maxHeartbeats 400000 in
theorem isInner_any (c : UInt8) (w : World) : Calls Try.prog 93 #[.int .u8 c.toNat] w fun e w' => e = .returned (.bool (innB c)) ∧ w = w' := by
  go_enter Try.func93, Try.ntmps93
  go_wp2_with (first
    | (go_at_call 89; refine (isLetter_any _ _).mono ?_; rintro e w' ⟨rfl, rfl⟩)
    | (go_at_call 95; refine (isDigit_any _ _).mono ?_; rintro e w' ⟨rfl, rfl⟩))
  all_goals go_ret
  all_goals exact ⟨ret_bool (by rw [Bool.eq_iff_iff]; simp [innB, *]; try omega), rfl⟩
/-- run: all that a word could take. -/
def RunOf (s : ByteArray) (w : World) (e : Ending) (w' : World) : Prop := ∃ t : ByteArray, e = .returned (.string t) ∧ t.data.toList = runL s.data.toList ∧ w = w'
theorem bytes_len (s : ByteArray) : s.data.toList.length = s.size := by simp
theorem bytes_pre (s : ByteArray) (k : Nat) : (s.extract 0 k).data.toList = s.data.toList.take k := by simp
theorem run_ends {s : ByteArray} {k : Nat} {w : World} (hr : k ≤ (runL s.data.toList).length) (hs : ∀ hk : k < s.size, innB s[k] = false) : RunOf s w (.returned (.string (s.extract 0 k))) w :=
  ⟨_, rfl, by rw [bytes_pre]; exact (run_stop _ _ hr fun hk => hs (by simpa using hk)).symm, rfl⟩
set_option maxHeartbeats 400000 in
theorem run_any (s : ByteArray) (w : World) (hs : s.size ≤ 140737488355328) : Calls Try.prog 90 #[.string s] w (RunOf s w) := by
  go_enter Try.func90, Try.ntmps90
  go_wp2
  go_loop [3] (fun i => ∃ k : Nat, k ≤ s.size ∧ i = .int .i64 k ∧ k ≤ (runL s.data.toList).length) (fun i => s.size - (intOf i).toNat)
  case atStart => exact ⟨0, Nat.zero_le _, rfl, Nat.zero_le _⟩
  case round =>
    obtain ⟨k, hk, rfl, hr⟩ := hrel
    by_cases hlt : k < s.size
    · cases hin : innB s[k] with
      | true =>
        have hr' : k + 1 ≤ (runL s.data.toList).length := run_step _ k (by simpa using hlt) hin hr
        go_wp2_with (first
          | (go_at_call 93; refine (isInner_any _ _).mono ?_; rintro e w' ⟨rfl, rfl⟩))
        go_round
        case rel => exact ⟨k + 1, hlt, by go_num, hr'⟩
        case measure => simp [intOf]; omega
      | false =>
        have HF : RunOf s w (.returned (.string (s.extract 0 k))) w := run_ends hr fun _ => hin
        go_wp2_with (first
          | (go_at_call 93; refine (isInner_any _ _).mono ?_; rintro e w' ⟨rfl, rfl⟩))
        go_ret
        exact HF
    · have HF : RunOf s w (.returned (.string (s.extract 0 k))) w := run_ends hr fun h => absurd h hlt
      go_wp2_with fail
      go_ret
      exact HF
theorem full_facts {s : ByteArray} (h : 0 < s.size) : ¬ s.toList = [] ∧ s.toList.isEmpty = false := by
  rw [Lib.size_eq, ← Lib.toList_data] at h
  cases hl : s.toList with
  | nil => rw [hl] at h; simp at h
  | cons c r => simp
theorem empty_facts {s : ByteArray} (h : ¬ 0 < s.size) : s.toList = [] ∧ s.toList.isEmpty = true := by
  rw [Lib.size_eq, ← Lib.toList_data] at h
  cases hl : s.toList with
  | nil => simp
  | cons c r => rw [hl] at h; simp at h
theorem bytes_cons {s : ByteArray} (h : 0 < s.size) : s.data.toList = s[0] :: s.data.toList.tail := by
  have h' : 0 < s.data.toList.length := by simpa using h
  have := List.drop_eq_getElem_cons h'
  rw [List.drop_zero] at this
  rw [this]; rfl
theorem name_none {s : ByteArray} (h : ¬ 0 < s.size) : nameL s.data.toList = false := by
  rw [← Lib.toList_data, (empty_facts h).1]; rfl
theorem name_long {s : ByteArray} (h : ¬ s.size ≤ 20) : nameL s.data.toList = false := by
  have h0 : 0 < s.size := by omega
  have hl := bytes_len s
  rw [bytes_cons h0] at hl ⊢
  simp only [List.length_cons] at hl
  have : ¬ s.data.toList.tail.length < 20 := by omega
  rw [nameL, decide_eq_false this, Bool.false_and, Bool.false_and]
theorem name_first {s : ByteArray} (h0 : 0 < s.size) (h : letB s[0] = false) : nameL s.data.toList = false := by
  rw [bytes_cons h0]; simp [nameL, h]
theorem runL_full (l : List UInt8) : (runL l).length = l.length ↔ l.all innB = true := by
  induction l with
  | nil => simp [runL]
  | cons c r ih =>
    by_cases hc : innB c = true
    · rw [runL_cons c r hc]; simp [hc, ih]
    · rw [runL_none c r (by simpa using hc)]; simp [hc]
theorem name_all {s t : ByteArray} (h0 : 0 < s.size) (h1 : s.size ≤ 20) (h : letB s[0] = true) (ht : t.data.toList = runL s.data.toList) : ((t.size : Int) == (s.size : Int)) = nameL s.data.toList := by
  have hl := bytes_len s
  have hf := runL_full s.data.toList
  have hi : innB s[0] = true := by simp [innB, h]
  rw [Lib.size_eq t, ht, ← hl]
  rw [bytes_cons h0] at hf hl ⊢
  simp only [List.length_cons] at hl
  have : s.data.toList.tail.length < 20 := by omega
  simp only [List.all_cons, hi, Bool.true_and] at hf
  simp only [nameL, h, Bool.and_true]
  rw [decide_eq_true this, Bool.true_and]
  rw [Bool.eq_iff_iff, beq_iff_eq, ← hf]
  omega
set_option maxHeartbeats 400000 in
theorem name_any (s : ByteArray) (w : World) (hs : s.size ≤ 140737488355328) : Calls Try.prog 81 #[.string s] w fun e w' => e = .returned (.bool (nameL s.data.toList)) ∧ w = w' := by
  by_cases h0 : 0 < s.size
  · obtain ⟨f1, f2⟩ := full_facts h0
    by_cases h1 : s.size ≤ 20
    · cases hin : letB s[0] with
      | true =>
        go_enter Try.func81, Try.ntmps81
        go_wp2_with (first
          | (go_at_call 89; refine (isLetter_any _ _).mono ?_; rintro e w' ⟨rfl, rfl⟩)
          | (go_at_call 90; refine (run_any _ _ hs).mono ?_; rintro e w' ⟨t, rfl, ht, rfl⟩; have HT := Lib.hid ht; clear ht))
        go_ret
        exact ⟨ret_bool (name_all h0 h1 hin HT.out), rfl⟩
      | false =>
        have HN := Lib.hid (name_first h0 hin)
        go_enter Try.func81, Try.ntmps81
        go_wp2_with (first
          | (go_at_call 89; refine (isLetter_any _ _).mono ?_; rintro e w' ⟨rfl, rfl⟩))
        go_ret
        exact ⟨ret_bool HN.out.symm, rfl⟩
    · have HN := Lib.hid (name_long h1)
      go_enter Try.func81, Try.ntmps81
      go_wp2_with fail
      go_ret
      exact ⟨ret_bool HN.out.symm, rfl⟩
  · obtain ⟨f1, f2⟩ := empty_facts h0
    have HN := Lib.hid (name_none h0)
    go_enter Try.func81, Try.ntmps81
    go_wp2_with fail
    go_ret
    exact ⟨ret_bool HN.out.symm, rfl⟩
end Go.Proofs.Ytahhhhacoigpmaa

namespace Go.Proofs.Ytahhhhacoigpmaa
open Go.RowKit
noncomputable instance litDec : DecidableEq Lit := fun _ _ => Classical.propDecidable _
/-- Block b is a map of ints that holds, at each key, what f says. -/
def MapFn (w : World) (P : Program) (k e : TypeId) (b n : Nat) (f : Lit → Option Nat) : Prop :=
  ∃ D : DataW Unit, w.ownsMap P k (plainElem P e) b n D ∧ ∀ l, WideAt.IsKeyLit l → Maps.has D l = (f l).isSome ∧ D.atKey l (.lit (.int .i64 0)) = .lit (.int .i64 (((f l).getD 0 : Nat) : Int))
theorem MapFn.lt {w : World} {P : Program} {k e : TypeId} {b n : Nat} {f : Lit → Option Nat} (h : MapFn w P k e b n f) : b < w.heap.size := by obtain ⟨D, h, _⟩ := h; exact h.lt
theorem MapFn.made (w : World) (P : Program) (k e : TypeId) : MapFn (w.alloc (.map #[] 0)) P k e w.heap.size 0 (fun _ => none) :=
  ⟨.map [], World.ownsMap_made w P k _, fun _ _ => ⟨rfl, rfl⟩⟩
theorem MapFn.of_own {w : World} {P : Program} {k e : TypeId} {b n : Nat} {f : Lit → Option Nat} {D : DataW Unit} {kl : Lit} {i : Nat} (hf : ∀ l, WideAt.IsKeyLit l → Maps.has D l = (f l).isSome ∧ D.atKey l (.lit (.int .i64 0)) = .lit (.int .i64 (((f l).getD 0 : Nat) : Int)))
    (hD : Maps.IsMap D) (hk : WideAt.IsKeyLit kl) (h : w.ownsMap P k (plainElem P e) b n (D.put kl (.lit (.int .i64 (i : Int))))) : MapFn w P k e b n (fun l => if l = kl then some i else f l) := by
  refine ⟨_, h, fun l hl => ?_⟩
  by_cases e : l = kl
  · subst e
    simp only [if_true]
    exact ⟨by rw [Maps.has_put_same hD hk]; rfl, by rw [Maps.atKey_put_same hD hk]; rfl⟩
  · simp only [if_neg e]
    exact ⟨by rw [Maps.has_put_other e]; exact (hf l hl).1, by rw [Maps.atKey_put_other e]; exact (hf l hl).2⟩
theorem MapFn.block {w w' : World} {P : Program} {k e : TypeId} {b n : Nat} {f : Lit → Option Nat} (h : MapFn w P k e b n f) (hb : w'.heap[b]? = w.heap[b]?) : MapFn w' P k e b n f := by
  obtain ⟨D, ⟨es, clock, h1, h2⟩, h3⟩ := h
  exact ⟨D, ⟨es, clock, hb.trans h1, h2⟩, h3⟩
theorem MapFn.below {w w' : World} {P : Program} {k e : TypeId} {b n : Nat} {f : Lit → Option Nat} (h : MapFn w P k e b n f) {B : Nat} (hB : w.heap.size ≤ B) (hb : Below B w w') : MapFn w' P k e b n f :=
  h.block (hb.block b (by have := h.lt; omega))
theorem MapFn.look {w : World} {P : Program} {k e t : TypeId} {b n : Nat} {f : Lit → Option Nat} (h : MapFn w P k e b n f) (K : Maps.Keyed P k) (ht : P.underlying t = some (.map k e)) (he : P.underlying e = some (.int .i64)) (hz : (zeroValue e).run P w = .ok (.int .i64 0) w)
    {key : Value} {kl : Lit} (hkey : keyOf P k key = some kl) : (Instr.lookup t (.map (some b)) key false).run P w = .ok (.int .i64 (((f kl).getD 0 : Nat) : Int)) w := by
  obtain ⟨D, h, hf⟩ := h
  obtain ⟨c, h1, h2, _⟩ := h.lookup_int K ht he hz hkey
  rw [(hf kl (K.key hkey)).2] at h2
  cases h2
  exact h1
theorem MapFn.look_ok {w : World} {P : Program} {k e t : TypeId} {b n : Nat} {f : Lit → Option Nat} (h : MapFn w P k e b n f) (K : Maps.Keyed P k) (ht : P.underlying t = some (.map k e)) (he : P.underlying e = some (.int .i64)) (hz : (zeroValue e).run P w = .ok (.int .i64 0) w)
    {key : Value} {kl : Lit} (hkey : keyOf P k key = some kl) : (Instr.lookup t (.map (some b)) key true).run P w = .ok (.tuple #[.int .i64 (((f kl).getD 0 : Nat) : Int), .bool (f kl).isSome]) w := by
  obtain ⟨D, h, hf⟩ := h
  obtain ⟨v, ps, h1, h2⟩ := h.look_ok K ht hz (plainElem_int he (by decide)) hkey
  obtain ⟨c, rfl, h3, _⟩ := plainElem_int_inv he h2
  rw [(hf kl (K.key hkey)).1] at h1
  have h4 := congrArg Prod.fst h3
  simp only at h4
  rw [(hf kl (K.key hkey)).2] at h4
  cases h4
  exact h1
noncomputable def firstOf (ls : List Lit) (l : Lit) : Option Nat := ls.findIdx? (fun x => decide (x = l))
theorem firstOf_map {α : Type} [BEq α] [LawfulBEq α] (h : α → Lit) (k : α) : ∀ (ks : List α) (_ : ∀ x ∈ ks, h x = h k → x = k), firstOf (ks.map h) (h k) = if ks.contains k then some (ks.idxOf k) else none
  | [], _ => rfl
  | x :: r, hk => by
    have ih := firstOf_map h k r (fun y hy => hk y (by simp [hy]))
    unfold firstOf at ih ⊢
    rw [List.map_cons, List.findIdx?_cons, ih]
    by_cases e : x = k
    · subst e; simp
    · have e' : h x ≠ h k := fun e' => e (hk x (by simp) e')
      have e2 : (x == k) = false := by simpa using e
      have e3 : (k == x) = false := by simpa using (fun e' => e e'.symm : ¬ k = x)
      simp only [e', decide_false, Bool.false_eq_true, if_false, List.contains_cons, e3, Bool.false_or, List.idxOf_cons, e2, cond_false]
      cases r.contains k <;> simp
/-- The last of some places, as they came, that has a key. -/
noncomputable def lastF {n : Nat} (f : Fin n → Lit) (pre : List (Fin n)) (l : Lit) : Option Nat := pre.foldl (fun o i => if f i = l then some i.val else o) none
theorem lastF_snoc {n : Nat} (f : Fin n → Lit) (pre : List (Fin n)) (i : Fin n) : lastF f (pre ++ [i]) = fun l => if l = f i then some i.val else lastF f pre l := by
  funext l
  unfold lastF
  rw [List.foldl_append]
  by_cases e : f i = l
  · subst e; simp
  · have e' : ¬ l = f i := fun h => e h.symm
    simp only [List.foldl_cons, List.foldl_nil, if_neg e]
    rw [if_neg e']
theorem foldr_succ {α : Type} (p : α → Prop) [DecidablePred p] (h : α → Nat) : ∀ L : List α, L.foldr (fun i o => if p i then some (h i + 1) else o) none = (L.foldr (fun i o => if p i then some (h i) else o) none).map (· + 1)
  | [] => rfl
  | x :: r => by
    rw [List.foldr_cons, List.foldr_cons, foldr_succ p h r]
    by_cases e : p x
    · simp [e]
    · simp [e]
theorem foldr_first (l : Lit) : ∀ (n : Nat) (f : Fin n → Lit), (List.finRange n).foldr (fun i o => if f i = l then some i.val else o) none = firstOf (List.ofFn f) l
  | 0, _ => rfl
  | n + 1, f => by
    have ih := foldr_first l n (fun i => f i.succ)
    rw [List.finRange_succ, List.foldr_cons, List.foldr_map, List.ofFn_succ]
    have e1 : (List.foldr (fun (i : Fin n) (o : Option Nat) => if f i.succ = l then some i.succ.val else o) none (List.finRange n)) = (firstOf (List.ofFn fun i => f i.succ) l).map (· + 1) := by
      rw [← ih, ← foldr_succ (fun i : Fin n => f i.succ = l) (fun i => i.val)]
      rfl
    rw [e1]
    unfold firstOf
    rw [List.findIdx?_cons]
    by_cases e : f 0 = l
    · simp [e]
    · simp [e]
theorem lastF_all {α : Type} (key : α → Lit) (l : List α) : lastF (fun i : Fin l.length => key l[i]) (List.finRange l.length).reverse = firstOf (l.map key) := by
  funext k
  unfold lastF
  rw [List.foldl_reverse, foldr_first k l.length (fun i => key l[i])]
  have e : List.ofFn (fun i : Fin l.length => l[i]) = l := List.ofFn_getElem
  have e2 : List.ofFn (fun i : Fin l.length => key l[i]) = l.map key := by
    conv => rhs; rw [← e, List.map_ofFn]
    rfl
  rw [e2]
theorem down_step {n m : Nat} (h : m < n) : ((List.finRange n).drop m).reverse = ((List.finRange n).drop (m + 1)).reverse ++ [⟨m, h⟩] := by
  rw [List.drop_eq_getElem_cons (by simpa using h), List.reverse_cons]
  simp
end Go.Proofs.Ytahhhhacoigpmaa
