/-
  The plain model of layer 5: marks, and what is enabled, done, due, as functions on lists; no program.
-/
import Derived.Test.YtplplkchibefjaaBas
namespace Go.Proofs.Ytplplkchibefjaa.M5
open Go.RowKit Go.Shelf Go.Proofs.Ytplplkchibefjaa.B

/-- A mark. -/
structure Mk where
  inn : Bool
  age : Int
  due : Int
deriving DecidableEq
instance : Inhabited Mk := ⟨⟨false, 0, 0⟩⟩
def mkC (v : Mk) : List Value := [.bool v.inn, .int .i64 v.age, .int .i64 v.due]
theorem one_mk (x : Mk) : ∀ u ∈ mkC x, u.oneCell' = true := by intro u hu; simp [mkC] at hu; rcases hu with rfl | rfl | rfl <;> rfl

def beyB (v : Mk) : Bool := decide (v.age < -1) || decide (65536 < v.age) || decide (v.due < -1) || decide (1048576 < v.due)
def waitB (v : Mk) : Bool := v.inn && decide (0 ≤ v.due)
def withI (least n most : Int) : Int := min (max n least) most
def hasI (n : Nat) (i : Int) : Bool := decide (0 ≤ i) && decide (i < (n : Int))
theorem has_iff {n : Nat} {i : Int} : hasI n i = true ↔ ∃ k : Nat, k < n ∧ i = (k : Int) := by
  unfold hasI
  rw [Bool.and_eq_true, decide_eq_true_eq, decide_eq_true_eq]
  exact ⟨fun ⟨h1, h2⟩ => ⟨i.toNat, by omega, by omega⟩, fun ⟨k, h1, h2⟩ => ⟨by omega, by omega⟩⟩
theorem has_nat {n k : Nat} (h : k < n) : hasI n (k : Int) = true := has_iff.2 ⟨k, h, rfl⟩
/-- Does a marking fit a graph of n events? -/
def fitsB (n : Nat) (l : List Mk) : Bool := decide (l.length = n) && !(l.any beyB)
theorem fits_len {n : Nat} {l : List Mk} (h : fitsB n l = true) : l.length = n := by
  unfold fitsB at h; simp only [Bool.and_eq_true, decide_eq_true_eq] at h; exact h.1
theorem fits_at {n : Nat} {l : List Mk} (h : fitsB n l = true) {v : Mk} (hv : v ∈ l) : beyB v = false := by
  unfold fitsB at h; simp only [Bool.and_eq_true, Bool.not_eq_true', List.any_eq_false] at h
  have := h.2 v hv; simpa using this
theorem bey_iff {v : Mk} : beyB v = false ↔ -1 ≤ v.age ∧ v.age ≤ 65536 ∧ -1 ≤ v.due ∧ v.due ≤ 1048576 := by
  unfold beyB; simp only [Bool.or_eq_false_iff, decide_eq_false_iff_not]; omega
theorem fits_mk {n : Nat} {l : List Mk} (h1 : l.length = n) (h2 : ∀ v ∈ l, beyB v = false) : fitsB n l = true := by
  unfold fitsB; simp only [Bool.and_eq_true, decide_eq_true_eq, Bool.not_eq_true', List.any_eq_false]
  exact ⟨h1, fun v hv => by rw [h2 v hv]; decide⟩
def startM (v : Ev) : Mk := ⟨v.inn, if v.done then 0 else -1, withI (-1) v.due 1048576⟩
/-- Does a tie hold up the event that it leads to? -/
def holdsB (l : List Mk) (t : Ti) : Bool :=
  hasI l.length t.fr && (if t.kind = 1 then l[t.fr.toNat]!.inn && decide (l[t.fr.toNat]!.age < max t.time 0) else if t.kind = 5 then waitB l[t.fr.toNat]! else false)
def stopsB (l : List Mk) (k : Int) (t : Ti) : Bool := t.to == k && holdsB l t
def enB (ts : List Ti) (l : List Mk) (k : Nat) : Bool := l[k]!.inn && !(ts.any (stopsB l k))
def enabledB (n : Nat) (ts : List Ti) (l : List Mk) (i : Int) : Bool := fitsB n l && hasI l.length i && enB ts l i.toNat
def touchM (v : Mk) (t : Ti) : Mk :=
  if t.kind = 2 then (if v.due < 0 ∨ withI 0 t.time 1048576 < v.due then { v with due := withI 0 t.time 1048576 } else v)
  else if t.kind = 4 then { v with inn := false } else if t.kind = 3 then { v with inn := true } else v
def touchL (l : List Mk) (t : Ti) : List Mk := if hasI l.length t.to then l.set t.to.toNat (touchM l[t.to.toNat]! t) else l
theorem touch_len (l : List Mk) (t : Ti) : (touchL l t).length = l.length := by unfold touchL; split <;> simp
def outB (kind fr : Int) (t : Ti) : Bool := t.kind == kind && t.fr == fr
def kindL (ts : List Ti) (k : Nat) (l : List Mk) (kind : Int) : List Mk := (ts.filter (outB kind k)).foldl touchL l
theorem fold_len : ∀ (ts : List Ti) (l : List Mk), (ts.foldl touchL l).length = l.length
  | [], _ => rfl
  | t :: r, l => by rw [List.foldl_cons, fold_len r, touch_len]
def freshL (l : List Mk) (k : Nat) : List Mk := l.set k { l[k]! with age := 0, due := -1 }
def doL (ts : List Ti) (l : List Mk) (k : Nat) : List Mk := [(2 : Int), 4, 3].foldl (kindL ts k) (freshL l k)
theorem do_len (ts : List Ti) (l : List Mk) (k : Nat) : (doL ts l k).length = l.length := by
  simp only [doL, List.foldl_cons, List.foldl_nil, kindL, fold_len, freshL, List.length_set]
def doE (n : Nat) (ts : List Ti) (l : List Mk) (i : Int) : Int := if fitsB n l then (if hasI l.length i then (if enB ts l i.toNat then 0 else 11) else 3) else 1
def leastL (a : Int) (v : Mk) : Int := if waitB v then min a v.due else a
def slackL (l : List Mk) : Int := l.foldl leastL 1048576
def slackI (n : Nat) (l : List Mk) : Int := if fitsB n l then slackL l else -1
def oldM (v : Mk) : Mk := ⟨v.inn, if 0 ≤ v.age then min (v.age + 1) 65536 else v.age, if waitB v ∧ v.due < 1048576 then v.due - 1 else v.due⟩
def accB (n : Nat) (l : List Mk) : Bool := fitsB n l && !(l.any waitB)
def allL (ts : List Ti) (l : List Mk) : List Nat := (List.range l.length).filter (enB ts l)
def sameM (a b : Mk) : Bool := (a.inn == b.inn) && (a.age == b.age) && (a.due == b.due)
theorem sameM_iff {a b : Mk} : sameM a b = true ↔ a = b := by
  cases a; cases b; simp [sameM, and_assoc]
theorem slack_le : ∀ (l : List Mk) (a : Int), l.foldl leastL a ≤ a
  | [], _ => Int.le_refl _
  | v :: r, a => by
    rw [List.foldl_cons]
    refine Int.le_trans (slack_le r _) ?_
    unfold leastL; split <;> omega
theorem slack_ge {l : List Mk} (h : ∀ v ∈ l, beyB v = false) : ∀ a : Int, 0 ≤ a → 0 ≤ l.foldl leastL a := by
  induction l with
  | nil => intro a h; exact h
  | cons v r ih =>
    intro a ha
    rw [List.foldl_cons]
    refine ih (fun x hx => h x (List.mem_cons_of_mem _ hx)) _ ?_
    unfold leastL
    split
    · rename_i hw
      unfold waitB at hw
      simp only [Bool.and_eq_true, decide_eq_true_eq] at hw
      omega
    · exact ha
end Go.Proofs.Ytplplkchibefjaa.M5
