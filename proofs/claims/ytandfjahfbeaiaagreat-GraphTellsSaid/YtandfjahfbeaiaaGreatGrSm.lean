/-
  Graphs whose parts are the same, wherever they lie; graphs that a call has made.
-/
import Derived.Test.YtandfjahfbeaiaaGreatGrAb
import Derived.Test.YtandfjahfbeaiaaGreatGrEq
import Derived.Test.YtandfjahfbeaiaaGreatGrSa
namespace Go.Proofs.YtandfjahfbeaiaaGreat
open Go.RowKit Go.Shelf

/-- What a user is, wherever its roles lie. -/
def usK (u : Us) : ByteArray × List ByteArray × ByteArray := (u.name, u.roles, u.sub)
/-- A graph that a call has made: all its lists are rows from block B on. -/
structure OwnG (w : World) (B : Nat) (g : Gr) : Prop where
  gs : w.ownsRow B 39 2 (.slice g.ga g.gs.length g.gc) g.gs.length (g.gs.flatMap gpC)
  es : w.ownsRow B 41 6 (.slice g.ea g.es.length g.ec) g.es.length (g.es.flatMap evC)
  rs : w.ownsRow B 43 4 (.slice g.ra g.rs.length g.rc) g.rs.length (g.rs.flatMap rlC)
  us : w.ownsRow B 45 3 (.slice g.ua g.us.length g.uc) g.us.length (g.us.flatMap usC)
  ro : ∀ u ∈ g.us, w.ownsRow B 9 1 (.slice u.ra u.roles.length u.rc) u.roles.length (u.roles.map Value.string)
/-- Graphs whose parts are the same, wherever they lie. -/
structure SameG (a b : Gr) : Prop where
  gs : a.gs = b.gs
  es : a.es = b.es
  rs : a.rs = b.rs
  us : a.us.map usK = b.us.map usK
theorem OwnG.below {w w' : World} {B : Nat} {g : Gr} (h : OwnG w B g) (hb : Below w.heap.size w w') : OwnG w' B g :=
  ⟨own_below h.gs hb, own_below h.es hb, own_below h.rs hb, own_below h.us hb, fun u hu => own_below (h.ro u hu) hb⟩
theorem OwnG.base {w : World} {B B' : Nat} {g : Gr} (h : OwnG w B g) (hb : B' ≤ B) : OwnG w B' g :=
  ⟨own_base h.gs hb, own_base h.es hb, own_base h.rs hb, own_base h.us hb, fun u hu => own_base (h.ro u hu) hb⟩
theorem OwnG.inG {w : World} {B : Nat} {g : Gr} (h : OwnG w B g) : InG w g :=
  ⟨Row.of_own h.gs, Row.of_own h.es, Row.of_own h.rs, Row.of_own h.us, fun u hu => Row.of_own (h.ro u hu)⟩
theorem own_cap' {w : World} {B e z n c : Nat} {A : Option Addr} {xs : List Value} (h : w.ownsRow B e z (.slice A n c) n xs) : n ≤ c ∧ (A = none → c = 0) := by
  rcases h.2 with ⟨hv, h0⟩ | ⟨g, cap, cur, hv, _, _, hn, _⟩
  · injection hv with _ h2 h3; exact ⟨by omega, fun _ => h3⟩
  · injection hv with h1 _ h3; exact ⟨by omega, fun e => by rw [e] at h1; cases h1⟩
theorem OwnG.cap {w : World} {B : Nat} {g : Gr} (h : OwnG w B g) : ∀ u ∈ g.us, u.roles.length ≤ u.rc := fun u hu => (own_cap' (h.ro u hu)).1
theorem OwnG.nil {w : World} {B : Nat} {g : Gr} (h : OwnG w B g) : ∀ u ∈ g.us, u.ra = none → u.rc = 0 := fun u hu => (own_cap' (h.ro u hu)).2
theorem SameG.refl (g : Gr) : SameG g g := ⟨rfl, rfl, rfl, rfl⟩
theorem SameG.symm {a b : Gr} (h : SameG a b) : SameG b a := ⟨h.gs.symm, h.es.symm, h.rs.symm, h.us.symm⟩
theorem SameG.trans {a b c : Gr} (h : SameG a b) (k : SameG b c) : SameG a c := ⟨h.gs.trans k.gs, h.es.trans k.es, h.rs.trans k.rs, h.us.trans k.us⟩
theorem SameG.len {a b : Gr} (h : SameG a b) : a.us.length = b.us.length := by have := congrArg List.length h.us; simpa using this
theorem SameG.at_ {a b : Gr} (h : SameG a b) (i : Nat) : usK a.us[i]! = usK b.us[i]! := by
  have hl := h.len
  by_cases hi : i < a.us.length
  · have h1 : (a.us.map usK)[i]? = (b.us.map usK)[i]? := by rw [h.us]
    rw [List.getElem?_map, List.getElem?_map, List.getElem?_eq_getElem hi, List.getElem?_eq_getElem (by omega : i < b.us.length)] at h1
    rw [getElem!_pos a.us i hi, getElem!_pos b.us i (by omega)]
    exact Option.some.inj h1
  · rw [getElem!_neg a.us i hi, getElem!_neg b.us i (by omega)]
theorem SameG.name {a b : Gr} (h : SameG a b) (i : Nat) : a.us[i]!.name = b.us[i]!.name := congrArg (·.1) (h.at_ i)
theorem SameG.roles {a b : Gr} (h : SameG a b) (i : Nat) : a.us[i]!.roles = b.us[i]!.roles := congrArg (·.2.1) (h.at_ i)
theorem SameG.sub {a b : Gr} (h : SameG a b) (i : Nat) : a.us[i]!.sub = b.us[i]!.sub := congrArg (·.2.2) (h.at_ i)
theorem SameG.mem {a b : Gr} (h : SameG a b) {u : Us} (hu : u ∈ a.us) : ∃ v ∈ b.us, usK v = usK u := by
  have : usK u ∈ b.us.map usK := by rw [← h.us]; exact List.mem_map_of_mem hu
  obtain ⟨v, h1, h2⟩ := List.mem_map.1 this
  exact ⟨v, h1, h2⟩
theorem SameG.sz {a b : Gr} (h : SameG a b) (hz : SzG b) : SzG a := by
  have hl := h.len
  refine ⟨by rw [h.gs]; exact hz.gs, by rw [h.es]; exact hz.es, by rw [h.rs]; exact hz.rs, by rw [hl]; exact hz.us, by rw [h.gs]; exact hz.gp, by rw [h.es]; exact hz.ev, by rw [h.rs]; exact hz.rl, fun u hu => ?_⟩
  obtain ⟨v, hv, he⟩ := h.mem hu
  have := hz.ur v hv
  rw [show v.name = u.name from congrArg (·.1) he, show v.roles = u.roles from congrArg (·.2.1) he, show v.sub = u.sub from congrArg (·.2.2) he] at this
  exact this
theorem SameG.unsEq {a b : Gr} (h : SameG a b) : uns a = uns b := by
  have e : ∀ g : Gr, uns g = (g.us.map usK).map (fun k => k.1.toList) := fun g => by rw [uns, List.map_map]; rfl
  rw [e, e, h.us]
theorem SameG.back {a b : Gr} (h : SameG a b) (i : Nat) : ∀ n f, backL a i n f = backL b i n f
  | 0, _ => rfl
  | n + 1, f => by rw [backL, backL, h.sub, h.unsEq, h.back i n]
theorem SameG.check {a b : Gr} (h : SameG a b) : checkL a = checkL b := by
  have hl := h.len
  have h0 : limitE a = limitE b := by
    have e : ∀ g : Gr, g.us.any (fun u => decide (8 < u.roles.length)) = (g.us.map usK).any (fun k => decide (8 < k.2.1.length)) := fun g => by rw [List.any_map]; rfl
    rw [limitE, limitE, e, e, h.us, h.gs, h.es, h.rs, hl]
  have h1 : groupE a = groupE b := by funext i; simp only [groupE, gns, h.gs] <;> rfl
  have h2 : eventE a = eventE b := by funext i; simp only [eventE, gns, ens, h.gs, h.es] <;> rfl
  have h3 : relE a = relE b := by funext i; simp only [relE, thereB, gns, ens, rks, h.gs, h.es, h.rs] <;> rfl
  have h4 : userE a = userE b := by funext i; simp only [userE, h.name, h.roles, h.sub, h.unsEq, h.back, hl] <;> rfl
  rw [checkL, checkL, h0, h1, h2, h3, h4, h.gs, h.es, h.rs, hl]
theorem SameG.may {a b : Gr} (h : SameG a b) : mayL a = mayL b := by rw [mayL, mayL, h.check]
theorem eqLB_iff {α : Type} [Inhabited α] {p : α → α → Bool} {a b : List α} : eqLB p a b = true ↔ a.length = b.length ∧ ∀ j, j < a.length → p a[j]! b[j]! = true := by
  rw [eqLB, Bool.and_eq_true, decide_eq_true_eq, List.all_eq_true]
  exact ⟨fun ⟨h1, h2⟩ => ⟨h1, fun j hj => h2 j (List.mem_range.2 hj)⟩, fun ⟨h1, h2⟩ => ⟨h1, fun j hj => h2 j (List.mem_range.1 hj)⟩⟩
theorem eqLB_self {α : Type} [Inhabited α] {p : α → α → Bool} (h : ∀ x, p x x = true) (l : List α) : eqLB p l l = true := eqLB_iff.2 ⟨rfl, fun _ _ => h _⟩
theorem SameG.same {a b : Gr} (h : SameG a b) : sameL a b = true := by
  have e1 : eqLB same_gp a.gs b.gs = true := by rw [h.gs]; exact eqLB_self (fun x => by simp [same_gp]) _
  have e2 : eqLB same_ev a.es b.es = true := by rw [h.es]; exact eqLB_self (fun x => by simp [same_ev]) _
  have e3 : eqLB same_rl a.rs b.rs = true := by rw [h.rs]; exact eqLB_self (fun x => by simp [same_rl]) _
  have e4 : eqLB same_us a.us b.us = true := eqLB_iff.2 ⟨h.len, fun j _ => by
    rw [same_us, h.name, h.sub, h.roles, eqLB_self (fun x => by simp [same_st])]; simp⟩
  rw [sameL, e1, e2, e3, e4]; rfl
end Go.Proofs.YtandfjahfbeaiaaGreat
