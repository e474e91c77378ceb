/-
  Package heap in words of the list of what waits, the first one first. awake of the laws of layer 9. Arguments that came in: numbers, texts, lists; for any law.
-/
import Derived.Test.YteakneekoogmmaaHcai
import Derived.Test.YteakneekoogmmaaHcaa
import Derived.Test.YteakneekoogmmaaRows
import Derived.SizedLaws
import Derived.Deep.Slices
import Derived.Deep.Fields
import Derived.Lib.SmallJoins
import Derived.ProofKit
import Derived.OpenShut
import Derived.Carry
import Derived.BigRegion
namespace Go.Proofs.Yteakneekoogmmaa.HP
open Go.RowKit Go.Shelf Go.Proofs.Yteakneekoogmmaa.B
/-- All numbers differ. -/
def DI (S : List It) : Prop := S.Pairwise (fun x y => x.id ≠ y.id)
theorem DI.perm {L S : List It} (h : DI L) (hp : L.Perm S) : DI S := (hp.pairwise_iff (fun h => Ne.symm h)).1 h
theorem DI.eq {S : List It} (h : DI S) {x y : It} (hx : x ∈ S) (hy : y ∈ S) (e : x.id = y.id) : x = y := by
  unfold DI at h
  induction S with
  | nil => cases hx
  | cons z S ih =>
    rw [List.pairwise_cons] at h
    rcases List.mem_cons.1 hx with hx1 | hx1
    · rcases List.mem_cons.1 hy with hy1 | hy1
      · rw [hx1, hy1]
      · rw [hx1] at e; exact absurd e (h.1 y hy1)
    · rcases List.mem_cons.1 hy with hy1 | hy1
      · rw [hy1] at e; exact absurd e.symm (h.1 x hx1)
      · exact ih h.2 hx1 hy1
theorem PlOk.di {L : List It} {f : Int → Option Nat} (h : PlOk L f) : DI L := by
  unfold DI
  rw [List.pairwise_iff_getElem]
  intro i j hi hj hij e
  have := h.one (p := i) (q := j) hi hj (by rw [getElem!_pos L i hi, getElem!_pos L j hj]; exact e)
  omega
theorem has_mem {L : List It} {i : Int} : hasB L i = true ↔ ∃ x ∈ L, x.id = i := by
  unfold hasB
  rw [List.any_eq_true]
  constructor
  · rintro ⟨x, hx, hi⟩; exact ⟨x, hx, by simpa using hi⟩
  · rintro ⟨x, hx, hi⟩; exact ⟨x, hx, by simpa using hi⟩
theorem has_perm {L S : List It} (h : L.Perm S) (i : Int) : hasB L i = hasB S i := by
  rw [Bool.eq_iff_iff, has_mem, has_mem]
  constructor
  · rintro ⟨x, hx, hi⟩; exact ⟨x, h.mem_iff.1 hx, hi⟩
  · rintro ⟨x, hx, hi⟩; exact ⟨x, h.mem_iff.2 hx, hi⟩
theorem getI_mem {S : List It} (h : DI S) {x : It} (hx : x ∈ S) : getI S x.id = x := by
  unfold getI
  cases hf : S.find? (fun y => y.id == x.id) with
  | none =>
    rw [List.find?_eq_none] at hf
    exact absurd (hf x hx) (by simp)
  | some y =>
    have h1 := List.find?_some hf
    have h2 := List.mem_of_find?_eq_some hf
    exact h.eq h2 hx (by simpa using h1)
theorem getI_perm {L S : List It} (h : DI S) (hp : L.Perm S) {i : Int} (hh : hasB S i = true) : getI L i = getI S i := by
  obtain ⟨x, hx, rfl⟩ := has_mem.1 hh
  rw [getI_mem h hx, getI_mem (h.perm hp.symm) (hp.mem_iff.2 hx)]
/-- All but the one of a number. -/
def rmI (S : List It) (i : Int) : List It := S.filter (fun y => y.id != i)
theorem rmI_perm {S : List It} (h : DI S) {x : It} (hx : x ∈ S) : (x :: rmI S x.id).Perm S := by
  unfold DI at h
  induction S with
  | nil => cases hx
  | cons z S ih =>
    rw [List.pairwise_cons] at h
    unfold rmI
    rcases List.mem_cons.1 hx with rfl | hx
    · rw [List.filter_cons, if_neg (by simp)]
      have : S.filter (fun y => y.id != x.id) = S := List.filter_eq_self.2 (fun y hy => by
        have := h.1 y hy
        rw [bne_iff_ne]; exact Ne.symm this)
      rw [this]
    · have hne := h.1 x hx
      rw [List.filter_cons, if_pos (by rw [bne_iff_ne]; exact hne)]
      exact (List.Perm.swap _ _ _).trans ((ih h.2 hx).cons z)
/-- One comes to its place. -/
def insI (s : Int) (S : List It) (x : It) : List It := S.takeWhile (fun y => ahB s y x) ++ x :: S.dropWhile (fun y => ahB s y x)
theorem insI_perm (s : Int) (S : List It) (x : It) : (insI s S x).Perm (S ++ [x]) := by
  unfold insI
  have h1 : (S.takeWhile (fun y => ahB s y x) ++ x :: S.dropWhile (fun y => ahB s y x)).Perm (x :: (S.takeWhile (fun y => ahB s y x) ++ S.dropWhile (fun y => ahB s y x))) := List.perm_middle
  rw [List.takeWhile_append_dropWhile] at h1
  exact h1.trans (List.perm_append_comm (l₁ := [x]))
theorem insI_so {s : Int} {S : List It} (h : S.Pairwise (le s)) (x : It) : (insI s S x).Pairwise (le s) := by
  induction S with
  | nil => exact List.pairwise_singleton _ _
  | cons z S ih =>
    rw [List.pairwise_cons] at h
    by_cases hz : ahB s z x = true
    · have e : insI s (z :: S) x = z :: insI s S x := by
        unfold insI
        simp [hz]
      rw [e, List.pairwise_cons]
      refine ⟨fun y hy => ?_, ih h.2⟩
      have hy' := (insI_perm s S x).mem_iff.1 hy
      rw [List.mem_append, List.mem_singleton] at hy'
      rcases hy' with hy' | rfl
      · exact h.1 y hy'
      · exact le_of_ah hz
    · have e : insI s (z :: S) x = x :: z :: S := by
        unfold insI
        simp [hz]
      have hxz : le s x z := by
        unfold le
        cases hq : ahB s z x with
        | false => rfl
        | true => exact absurd hq hz
      rw [e, List.pairwise_cons]
      refine ⟨fun y hy => ?_, List.pairwise_cons.2 h⟩
      rcases List.mem_cons.1 hy with rfl | hy
      · exact hxz
      · exact le_trans hxz (h.1 y hy)
/-- In order there is one way alone. -/
theorem so_one {s : Int} : ∀ {S T : List It}, S.Perm T → S.Pairwise (le s) → T.Pairwise (le s) → DI S → S = T
  | [], T, hp, _, _, _ => (List.Perm.nil_eq hp)
  | x :: S, [], hp, _, _, _ => absurd hp.length_eq (by simp)
  | x :: S, y :: T, hp, hs, ht, hd => by
    rw [List.pairwise_cons] at hs ht
    have hx : x ∈ y :: T := hp.mem_iff.1 (List.mem_cons_self ..)
    have hy : y ∈ x :: S := hp.mem_iff.2 (List.mem_cons_self ..)
    have hxy : x = y := by
      rcases List.mem_cons.1 hx with h1 | h1
      · exact h1
      · rcases List.mem_cons.1 hy with h2 | h2
        · exact h2.symm
        · exact hd.eq (List.mem_cons_self ..) hy (le_anti (hs.1 y h2) (ht.1 x h1))
    subst hxy
    rw [so_one (List.Perm.cons_inv hp) hs.2 ht.2 (List.pairwise_cons.1 hd).2]
theorem so_pair {s : Int} {S : List It} (h : So s S 0 S.length) : S.Pairwise (le s) := by
  rw [List.pairwise_iff_getElem]
  intro i j hi hj hij
  have := h i j (Nat.zero_le _) hij hj
  rw [getElem!_pos S i hi, getElem!_pos S j hj] at this
  exact this
/-- A heap, in words of what waits in it. -/
structure HS (F : FW) (w : World) (hb : Nat) (s : Int) (S : List It) : Prop where
  ex : ∃ A L, L.Perm S ∧ HO s L ∧ HW F w hb A s L
  so : S.Pairwise (le s)
theorem HS.di {F : FW} {w : World} {hb : Nat} {s : Int} {S : List It} (h : HS F w hb s S) : DI S := by
  obtain ⟨A, L, hp, _, hw⟩ := h.ex
  obtain ⟨f, _, hf⟩ := hw.h.map
  exact hf.di.perm hp
theorem HS.ok {F : FW} {w : World} {hb : Nat} {s : Int} {S : List It} (h : HS F w hb s S) : ∀ x ∈ S, OkI x := by
  obtain ⟨A, L, hp, _, hw⟩ := h.ex
  exact fun x hx => hw.h.ok x (hp.mem_iff.2 hx)
theorem HS.few {F : FW} {w : World} {hb : Nat} {s : Int} {S : List It} (h : HS F w hb s S) : S.length ≤ 1000 := by
  obtain ⟨A, L, hp, _, hw⟩ := h.ex
  rw [← hp.length_eq]; exact hw.h.few
theorem HS.lt {F : FW} {w : World} {hb : Nat} {s : Int} {S : List It} (h : HS F w hb s S) : hb < w.heap.size := by
  obtain ⟨A, L, hp, _, hw⟩ := h.ex
  exact hw.h.lt
theorem HS.k {F : FW} {w : World} {hb : Nat} {s : Int} {S : List It} (h : HS F w hb s S) : Kept F w := by
  obtain ⟨A, L, hp, _, hw⟩ := h.ex
  exact hw.b
theorem HS.call {F : FW} {w w' : World} {hb : Nat} {s : Int} {S : List It} (h : HS F w hb s S) (hb' : Below w.heap.size w w') : HS F w' hb s S := by
  obtain ⟨A, L, hp, ho, hw⟩ := h.ex
  exact ⟨⟨A, L, hp, ho, hw.call hb'⟩, h.so⟩
theorem HS.inner {F : FW} {w W : World} {hb : Nat} {s : Int} {S : List It} (h : HS F w hb s S) (hW : Below w.heap.size w W) : HS (F.inn w W) W hb s S := by
  obtain ⟨A, L, hp, ho, hw⟩ := h.ex
  exact ⟨⟨A, L, hp, ho, hw.inner hW⟩, h.so⟩
theorem HS.outer {F : FW} {w W W' : World} {hb hb' : Nat} {s s' : Int} {S S' : List It} (h : HS F w hb s S) (hW : Below w.heap.size w W) (h' : HS (F.inn w W) W' hb' s' S') : HS F W' hb' s' S' := by
  obtain ⟨A, L, hp, ho, hw⟩ := h.ex
  obtain ⟨A', L', hp', ho', hw'⟩ := h'.ex
  exact ⟨⟨A', L', hp', ho', hw.outer hW hw'⟩, h'.so⟩
theorem head_eq {s : Int} {L S : List It} (hp : L.Perm S) (ho : HO s L) (hs : S.Pairwise (le s)) (hd : DI S) : L[0]! = S[0]! := by
  cases S with
  | nil => rw [List.Perm.eq_nil hp]
  | cons x S =>
    have hl : 0 < L.length := by rw [hp.length_eq]; simp
    have h1 : x ∈ L := hp.mem_iff.2 (List.mem_cons_self ..)
    have h2 : L[0]! ∈ x :: S := hp.mem_iff.1 (mem_at hl)
    obtain ⟨j, hj, rfl⟩ := List.getElem_of_mem h1
    have h3 := head_le ho j j (Nat.le_refl _) hj
    rw [getElem!_pos L j hj] at h3
    rw [List.pairwise_cons] at hs
    show L[0]! = L[j]
    rcases List.mem_cons.1 h2 with h4 | h4
    · exact h4
    · exact hd.eq h2 (List.mem_cons_self ..) (le_anti h3 (hs.1 _ h4))
theorem getI_has {S : List It} {i : Int} (h : hasB S i = false) : getI S i = ⟨0, 0, 0⟩ := by
  unfold getI
  have : S.find? (fun x => x.id == i) = none := by
    rw [List.find?_eq_none]
    intro x hx hc
    have : hasB S i = true := has_mem.2 ⟨x, hx, by simpa using hc⟩
    rw [h] at this; cases this
  rw [this]; rfl
theorem putE_perm {L S : List It} (hp : L.Perm S) (x : It) : putE L x = putE S x := by
  unfold putE
  rw [has_perm hp, hp.length_eq]
theorem hs_put (F : FW) (w : World) (hb : Nat) (s : Int) (S : List It) (h : HS F w hb s S) (x : It) (hid : (Lit.int .i64 x.id).wf = true) :
    Calls Try.prog 10 #[pt hb, itV x] w fun e w' => e = .returned (.int .i64 (putE S x)) ∧ HS F w' hb s (if putE S x = 0 then insI s S x else S) := by
  obtain ⟨A, L, hp, ho, hw⟩ := h.ex
  refine (put_any F w hb A s L hw ho x hid).mono ?_
  rintro e w' ⟨rfl, A', L', q1, q2, q3⟩
  rw [putE_perm hp] at q1
  refine ⟨by rw [putE_perm hp], ⟨A', L', ?_, q2, q3⟩, ?_⟩
  · by_cases h0 : putE S x = 0
    · rw [if_pos h0] at q1 ⊢
      exact q1.trans ((hp.append_right [x]).trans (insI_perm s S x).symm)
    · rw [if_neg h0] at q1 ⊢
      exact q1.trans hp
  · split
    · exact insI_so h.so x
    · exact h.so
theorem hs_peek (F : FW) (w : World) (hb : Nat) (s : Int) (S : List It) (h : HS F w hb s S) :
    Calls Try.prog 16 #[pt hb] w fun e w' => e = .returned (.tuple #[itV S[0]!, .bool (decide (0 < S.length))]) ∧ Below w.heap.size w w' := by
  obtain ⟨A, L, hp, ho, hw⟩ := h.ex
  refine (peek_any w hb A s L hw.h).mono ?_
  rintro e w' ⟨rfl, hb'⟩
  exact ⟨by rw [head_eq hp ho h.so h.di, hp.length_eq], hb'⟩
theorem hs_pop (F : FW) (w : World) (hb : Nat) (s : Int) (S : List It) (h : HS F w hb s S) :
    Calls Try.prog 12 #[pt hb] w fun e w' => e = .returned (.tuple #[itV S[0]!, .bool (decide (0 < S.length))]) ∧ HS F w' hb s S.tail := by
  obtain ⟨A, L, hp, ho, hw⟩ := h.ex
  refine (pop_any F w hb A s L hw ho).mono ?_
  rintro e w' ⟨rfl, L', q1, q2, q3⟩
  have he := head_eq hp ho h.so h.di
  refine ⟨by rw [he, hp.length_eq], ⟨A, L', ?_, q2, q3⟩, ?_⟩
  · cases S with
    | nil =>
      rw [q1.1 (List.Perm.eq_nil hp)]; exact List.Perm.refl _
    | cons x S =>
      have h1 := q1.2 (by rw [hp.length_eq]; simp)
      rw [he] at h1
      exact List.Perm.cons_inv (h1.trans hp)
  · cases S with
    | nil => exact List.Pairwise.nil
    | cons x S => exact (List.pairwise_cons.1 h.so).2
theorem hs_remove (F : FW) (w : World) (hb : Nat) (s : Int) (S : List It) (h : HS F w hb s S) (i : Int) (hi : (Lit.int .i64 i).wf = true) :
    Calls Try.prog 15 #[pt hb, .int .i64 i] w fun e w' => e = .returned (.tuple #[itV (getI S i), .bool (hasB S i)]) ∧ HS F w' hb s (rmI S i) := by
  obtain ⟨A, L, hp, ho, hw⟩ := h.ex
  refine (remove_any F w hb A s L hw ho i hi).mono ?_
  rintro e w' ⟨rfl, L', q1, q2, q3⟩
  have hh := has_perm hp i
  refine ⟨?_, ⟨A, L', ?_, q2, q3⟩, h.so.sublist List.filter_sublist⟩
  · rw [hh]
    unfold remI
    rw [hh]
    cases hb' : hasB S i with
    | true => rw [if_pos rfl, getI_perm h.di hp hb']
    | false => rw [if_neg (by decide), getI_has hb']
  · cases hb' : hasB S i with
    | true =>
      have h1 := q1.1 (by rw [hh]; exact hb')
      rw [getI_perm h.di hp hb'] at h1
      obtain ⟨x, hx, rfl⟩ := has_mem.1 hb'
      rw [getI_mem h.di hx] at h1
      exact List.Perm.cons_inv ((h1.trans hp).trans (rmI_perm h.di hx).symm)
    | false =>
      have h1 := q1.2 (by rw [hh]; exact hb')
      rw [h1]
      have : rmI S i = S := List.filter_eq_self.2 (fun y hy => by
        rw [bne_iff_ne]
        intro e
        have : hasB S i = true := has_mem.2 ⟨y, hy, e⟩
        rw [hb'] at this; cases this)
      rw [this]; exact hp
theorem hs_has (F : FW) (w : World) (hb : Nat) (s : Int) (S : List It) (h : HS F w hb s S) (i : Int) (hi : (Lit.int .i64 i).wf = true) :
    Calls Try.prog 20 #[pt hb, .int .i64 i] w fun e w' => e = .returned (.bool (hasB S i)) ∧ w = w' := by
  obtain ⟨A, L, hp, ho, hw⟩ := h.ex
  rw [← has_perm hp]
  exact has_any w hb A s L hw.h i hi
theorem hs_len (F : FW) (w : World) (hb : Nat) (s : Int) (S : List It) (h : HS F w hb s S) :
    Calls Try.prog 19 #[pt hb] w fun e w' => e = .returned (.int .i64 (S.length : Int)) ∧ w = w' := by
  obtain ⟨A, L, hp, ho, hw⟩ := h.ex
  rw [← hp.length_eq]
  exact len_any w hb A s L hw.h
theorem hs_weight (F : FW) (w : World) (hb : Nat) (s : Int) (S : List It) (h : HS F w hb s S) (i now : Int) (hi : (Lit.int .i64 i).wf = true) :
    Calls Try.prog 17 #[pt hb, .int .i64 i, .int .i64 now] w fun e w' => e = .returned (.tuple #[.int .i64 (if hasB S i = true then wgt s (getI S i) now else 0), .bool (hasB S i)]) ∧ Below w.heap.size w w' := by
  obtain ⟨A, L, hp, ho, hw⟩ := h.ex
  refine (weightOf_any w hb A s L hw.h i now hi).mono ?_
  rintro e w' ⟨rfl, hb'⟩
  rw [has_perm hp]
  refine ⟨?_, hb'⟩
  cases hh : hasB S i with
  | true => rw [if_pos rfl, if_pos rfl, getI_perm h.di hp hh]
  | false => rfl
/-- A row of one's own that holds these. -/
def RowS (w : World) (S : List It) (e : Ending) (w' : World) : Prop :=
  ∃ (a : Option Addr) (c : Nat), e = .returned (.slice a S.length c) ∧ w'.ownsRow w.heap.size 32 3 (.slice a S.length c) S.length (S.flatMap itC) ∧ Below w.heap.size w w'
theorem hs_list (F : FW) (w : World) (hb : Nat) (s : Int) (S : List It) (h : HS F w hb s S) (hp : ∀ L : List It, L.length = S.length → (∀ x ∈ L, OkI x) → ∀ w0 g c, w0.cell? ⟨hb, 0, none⟩ = some (.int .i64 s) → hb ≠ g → 1 ≤ s → s ≤ 1048576 → PdqC w0 g c hb s L) :
    Calls Try.prog 22 #[pt hb] w (RowS w S) := by
  obtain ⟨A, L, hpm, ho, hw⟩ := h.ex
  refine (list_any w hb A s L hw.h (fun w0 g c h1 h2 => hp L hpm.length_eq hw.h.ok w0 g c h1 h2 hw.h.step.1 hw.h.step.2)).mono ?_
  rintro e w' ⟨a, c, T, rfl, q1, q2, q3, q4⟩
  obtain rfl : T = S := so_one (q1.trans hpm) (so_pair q2) h.so (h.di.perm (q1.trans hpm).symm)
  exact ⟨a, c, rfl, q3, q4⟩
/-- For few things no more is wanted of the sort. -/
theorem pdq_few {hb : Nat} {s : Int} {L : List It} (hl : L.length ≤ 12) (hok : ∀ x ∈ L, OkI x) : ∀ w0 g c, w0.cell? ⟨hb, 0, none⟩ = some (.int .i64 s) → hb ≠ g → 1 ≤ s → s ≤ 1048576 → PdqC w0 g c hb s L :=
  fun w0 g c hc hne h1 h2 => pdq_small w0 g c hb s L hok hc hne h1 h2 hl
end Go.Proofs.Yteakneekoogmmaa.HP

namespace Go.Proofs.Yteakneekoogmmaa.HP
open Go.RowKit Go.Shelf Go.Proofs.Yteakneekoogmmaa.B
attribute [local go_sem] Oper.semAt_some
def i1 : It := ⟨1, 0, 0⟩
def i2 : It := ⟨2, 1, 5⟩
def i3 : It := ⟨3, 1, 20⟩
def i9 : It := ⟨9, 10, 0⟩
set_option maxRecDepth 100000 in
set_option maxHeartbeats 4000000 in
theorem awake_any (w : World) : Calls Try.prog 7 #[] w fun e w' => e = .returned (.bool true) ∧ Below w.heap.size w w' := by
  have CN := Lib.hid (new_yes w 10 (by omega) (by omega) (fun _ => False))
  go_enter Try.func7, Try.ntmps7
  go_wp2_with fail
  refine CN.out.mono ?_
  rintro e W0 ⟨rfl, hb0, hw0⟩
  obtain ⟨hb, hhb⟩ : ∃ hb, hb = w.heap.size + 1 := ⟨_, rfl⟩
  rw [← hhb] at hw0 ⊢
  have hH0 : HS ⟨w, fun _ => False⟩ W0 hb 10 [] := ⟨⟨_, [], List.Perm.refl _, fun j h1 h2 => (by simp at h2), hw0⟩, List.Pairwise.nil⟩
  have HH := Lib.hid hH0
  have CM := Lib.hid (new_no W0 0 (by omega))
  have CP := Lib.hid (hs_peek _ W0 hb 10 [] HH.out)
  clear hb0 hw0 hH0 CN hhb
  go_wp2_with fail
  refine CM.out.mono ?_
  rintro e W0' ⟨rfl, hww⟩
  subst hww
  go_wp2_with fail
  refine CP.out.mono ?_
  rintro e W1 ⟨rfl, hb1⟩
  obtain ⟨W2, hW2⟩ : ∃ W2, W2 = W1.alloc (.cells #[.int .i64 0, .int .i64 0, .int .i64 0] 32) := ⟨_, rfl⟩
  replace HH := Lib.hid ((HH.out.call hb1).call (w' := W2) (by rw [hW2]; exact (Below.refl _ _).alloc (Nat.le_refl _) _))
  clear hb1 CM CP
  go_upto_region 6 with fail
  show Code.wp _ _ _ _ (W1.alloc (.cells #[.int .i64 0, .int .i64 0, .int .i64 0] 32))
  rw [← hW2]
  clear hW2
  have C0 := Lib.hid (hs_put _ W2 hb 10 [] HH.out i1 (by decide))
  rw [show putE [] i1 = 0 from by decide, if_pos rfl, show insI 10 [] i1 = [i1] from by decide] at C0
  go_wp2_with fail
  refine C0.out.mono ?_
  rintro e P0 ⟨rfl, hn0⟩
  replace HH := Lib.hid hn0
  clear hn0 C0
  have C1 := Lib.hid (hs_put _ P0 hb 10 [i1] HH.out i2 (by decide))
  rw [show putE [i1] i2 = 0 from by decide, if_pos rfl, show insI 10 [i1] i2 = [i2, i1] from by decide] at C1
  go_wp2_with fail
  refine C1.out.mono ?_
  rintro e P1 ⟨rfl, hn1⟩
  replace HH := Lib.hid hn1
  clear hn1 C1
  have C2 := Lib.hid (hs_put _ P1 hb 10 [i2, i1] HH.out i3 (by decide))
  rw [show putE [i2, i1] i3 = 0 from by decide, if_pos rfl, show insI 10 [i2, i1] i3 = [i2, i1, i3] from by decide] at C2
  go_wp2_with fail
  refine C2.out.mono ?_
  rintro e P2 ⟨rfl, hn2⟩
  replace HH := Lib.hid hn2
  clear hn2 C2
  have C3 := Lib.hid (hs_put _ P2 hb 10 [i2, i1, i3] HH.out i1 (by decide))
  rw [show putE [i2, i1, i3] i1 = 6 from by decide, if_neg (by decide)] at C3
  go_wp2_with fail
  refine C3.out.mono ?_
  rintro e P3 ⟨rfl, hn3⟩
  replace HH := Lib.hid hn3
  clear hn3 C3
  have C4 := Lib.hid (hs_put _ P3 hb 10 [i2, i1, i3] HH.out i9 (by decide))
  rw [show putE [i2, i1, i3] i9 = 3 from by decide, if_neg (by decide)] at C4
  go_wp2_with fail
  refine C4.out.mono ?_
  rintro e P4 ⟨rfl, hn4⟩
  replace HH := Lib.hid hn4
  clear hn4 C4
  have CL := Lib.hid (hs_list _ P4 hb 10 [i2, i1, i3] HH.out (fun L hl hok => pdq_few (by rw [hl]; decide) hok))
  go_wp2_with fail
  refine CL.out.mono ?_
  rintro e V1 ⟨a, c, rfl, hr1, hb1⟩
  obtain ⟨g, hga, hg0, hgc⟩ : ∃ g, a = some ⟨g, 0, none⟩ ∧ P4.heap.size ≤ g ∧ g < V1.heap.size := by
    rcases hr1.2 with ⟨_, hn⟩ | ⟨g, cap, cur, hv, hB, hg, _⟩
    · exact absurd hn (by decide)
    · injection hv with e _ _
      exact ⟨g, e, hB, blk_lt hg⟩
  subst hga
  have r0 : V1.cell? ⟨g, 0, none⟩ = some (.int .i64 2) := hr1.cellAt 0 (by decide)
  have r3 : V1.cell? ⟨g, 3, none⟩ = some (.int .i64 1) := hr1.cellAt 3 (by decide)
  have HH0 := HH
  have HB1 := Lib.hid hb1
  have HG := Lib.hid (And.intro hg0 hgc)
  have HR0 := Lib.hid r0
  have HR3 := Lib.hid r3
  replace HH := Lib.hid (HH.out.inner hb1)
  have CW := Lib.hid (hs_weight _ V1 hb 10 [i2, i1, i3] HH.out 2 7 (by decide))
  rw [show (if hasB [i2, i1, i3] 2 = true then wgt 10 (getI [i2, i1, i3] 2) 7 else 0) = 12 from by decide, show hasB [i2, i1, i3] 2 = true from by decide] at CW
  clear hb1 hr1 hg0 hgc r0 r3 CL
  go_wp2_with fail
  refine CW.out.mono ?_
  rintro e V2 ⟨rfl, hb2⟩
  replace HH := Lib.hid (HH.out.call hb2)
  have CP := Lib.hid (hs_pop _ V2 hb 10 [i2, i1, i3] HH.out)
  rw [show ([i2, i1, i3] : List It)[0]! = ⟨2, 1, 5⟩ from rfl, show decide (0 < ([i2, i1, i3] : List It).length) = true from rfl, show ([i2, i1, i3] : List It).tail = [i1, i3] from rfl] at CP
  clear hb2 CW
  go_wp2_with fail
  refine CP.out.mono ?_
  rintro e V3 ⟨rfl, hn⟩
  replace HH := Lib.hid hn
  clear hn CP
  obtain ⟨V4, hV4⟩ : ∃ V4, V4 = V3.alloc (.cells #[.int .i64 2, .int .i64 1, .int .i64 5] 32) := ⟨_, rfl⟩
  have hb4 : Below V3.heap.size V3 V4 := by rw [hV4]; exact (Below.refl _ _).alloc (Nat.le_refl _) _
  have HX4 : Hid (V4.heap[V3.heap.size]? = some (.cells #[.int .i64 2, .int .i64 1, .int .i64 5] 32 (0, 0))) := Lib.hid (by rw [hV4]; exact heap_new V3 _)
  have hz4 : V3.heap.size < V4.heap.size := by rw [hV4, World.size_alloc]; omega
  have HB4 := Lib.hid hb4
  have HH3 := HH
  replace HH := Lib.hid (HH.out.inner hb4)
  have CR := Lib.hid (hs_remove _ V4 hb 10 [i1, i3] HH.out 3 (by decide))
  rw [show getI [i1, i3] 3 = ⟨3, 1, 20⟩ from by decide, show hasB [i1, i3] 3 = true from by decide, show rmI [i1, i3] 3 = [i1] from by decide] at CR
  clear hb4
  go_upto_region 12 with fail
  show Code.wp _ _ _ _ (V3.alloc (.cells #[.int .i64 2, .int .i64 1, .int .i64 5] 32))
  rw [← hV4]
  clear hV4
  go_wp2_with fail
  refine CR.out.mono ?_
  rintro e V5 ⟨rfl, hn⟩
  have hx5 : V5.heap[V3.heap.size]? = some (.cells #[.int .i64 2, .int .i64 1, .int .i64 5] 32 (0, 0)) := (hn.k.mid (Nat.le_refl _) hz4).trans HX4.out
  have h51 := HH3.out.outer HB4.out hn
  have hg5 : V5.heap[g]? = V1.heap[g]? := h51.k.mid HG.out.1 HG.out.2
  have h50 := Lib.hid (HH0.out.outer HB1.out h51)
  obtain ⟨V6, hV6⟩ : ∃ V6, V6 = V5.alloc (.cells #[.int .i64 3, .int .i64 1, .int .i64 20] 32) := ⟨_, rfl⟩
  have hb6 : Below V5.heap.size V5 V6 := by rw [hV6]; exact (Below.refl _ _).alloc (Nat.le_refl _) _
  have hg5l : g < V5.heap.size := by
    have h1 := h51.k.size
    have h2 := HG.out.2
    have h3 : V1.heap.size ≤ V5.heap.size := h1
    omega
  have HN : Hid (Below w.heap.size w V6) := Lib.hid (by
    have h9 := (h50.out.call hb6).k
    exact ⟨h9.os, h9.tape, h9.output, h9.size, fun k hk => h9.block k hk (fun h => h)⟩)
  have CL1 := Lib.hid (hs_len _ V6 hb 10 [i1] (h50.out.call hb6))
  have CH1 := Lib.hid (hs_has _ V6 hb 10 [i1] (h50.out.call hb6) 1 (by decide))
  have CH2 := Lib.hid (hs_has _ V6 hb 10 [i1] (h50.out.call hb6) 2 (by decide))
  rw [show hasB [i1] 1 = true from by decide] at CH1
  rw [show hasB [i1] 2 = false from by decide] at CH2
  rw [show (([i1] : List It).length : Int) = 1 from rfl] at CL1
  have c0 : V6.cell? ⟨g, 0, none⟩ = some (.int .i64 2) := (hb6.cell (p := ⟨g, 0, none⟩) hg5l).trans ((World.cell?_of_block (w := V1) hg5).trans HR0.out)
  have c3 : V6.cell? ⟨g, 3, none⟩ = some (.int .i64 1) := (hb6.cell (p := ⟨g, 3, none⟩) hg5l).trans ((World.cell?_of_block (w := V1) hg5).trans HR3.out)
  have hx5l := blk_lt hx5
  have e0 : V6.cell? ⟨V3.heap.size, 0, none⟩ = some (.int .i64 2) := cell_blk (i := 0) ((hb6.block _ hx5l).trans hx5) rfl
  have hx6 : V6.heap[V5.heap.size]? = some (.cells #[.int .i64 3, .int .i64 1, .int .i64 20] 32 (0, 0)) := by rw [hV6]; exact heap_new V5 _
  have e2 : V6.cell? ⟨V5.heap.size, 2, none⟩ = some (.int .i64 20) := cell_blk (i := 2) hx6 rfl
  have l1 : g < V6.heap.size := Nat.lt_of_lt_of_le hg5l hb6.size
  have l2 : V3.heap.size < V6.heap.size := Nat.lt_of_lt_of_le hx5l hb6.size
  have l3 := blk_lt hx6
  have c05 : V5.cell? ⟨g, 0, none⟩ = some (.int .i64 2) := (World.cell?_of_block (w := V1) hg5).trans HR0.out
  have c35 : V5.cell? ⟨g, 3, none⟩ = some (.int .i64 1) := (World.cell?_of_block (w := V1) hg5).trans HR3.out
  have e05 : V5.cell? ⟨V3.heap.size, 0, none⟩ = some (.int .i64 2) := cell_blk (i := 0) hx5 rfl
  clear hn hx5 h51 hg5 hb6 hx6 CR HX4 hz4
  subst hV6
  go_wp2_with fail
  refine CL1.out.mono ?_
  rintro e V6 ⟨rfl, hww⟩
  subst hww
  go_wp2_with fail
  refine CH1.out.mono ?_
  rintro e V6 ⟨rfl, hww⟩
  subst hww
  go_wp2_with fail
  refine CH2.out.mono ?_
  rintro e V6 ⟨rfl, hww⟩
  subst hww
  go_wp2_with fail
  go_ret
  exact ⟨rfl, HN.out⟩
end Go.Proofs.Yteakneekoogmmaa.HP

namespace Go.Proofs.Yteakneekoogmmaa.OP
open Go.RowKit Go.Shelf Go.Deep Go.Joins Go.ChangeShapes Go.WideShapes Go.Proofs.Yteakneekoogmmaa.B
section
variable {H : Type} {enc : TypeId × Value → H} {P : Program} {w : World} {base : Nat} {spare : Nat → Bool} {held : Bool}
/-- What is read weighs no more than the reach. -/
def Wt (P : Program) (t : TypeId) (d : DataW H) : Prop := ∀ n ∈ d.weights P t, n ≤ 140737488351232
theorem Wt.of {ts : List TypeId} {ds : List (DataW H)} (h : (DataW.weightsEach P ts ds).all (· ≤ reachBytes) = true) {j : Nat} {t : TypeId} {d : DataW H} (ht : ts[j]? = some t) (hd : ds[j]? = some d) : Wt P t d :=
  fun n hn => of_decide_eq_true (List.all_eq_true.1 h n (DataW.weights_mem_each ht hd n hn))
theorem wt_all {e : TypeId} {n : Nat} : ∀ {l : List (DataW H)} {d : DataW H}, d ∈ l → n ∈ d.weights P e → n ∈ DataW.weightsAll P e l
  | x :: r, d, hd, hn => by
    rw [DataW.weightsAll, List.mem_append]
    cases hd with
    | head => exact .inl hn
    | tail _ h => exact .inr (wt_all h hn)
theorem Wt.len {t e : TypeId} {es sp : List (DataW H)} (h : Wt P t (.slice es sp)) (ht : P.underlying t = some (.slice e)) : (es.length + sp.length) * P.bytesOf e ≤ 140737488351232 :=
  h _ (by simp only [DataW.weights, ht]; exact List.mem_cons_self ..)
theorem Wt.elem {t e : TypeId} {es sp : List (DataW H)} (h : Wt P t (.slice es sp)) (ht : P.underlying t = some (.slice e)) {d : DataW H} (hd : d ∈ es) : Wt P e d :=
  fun n hn => h n (by simp only [DataW.weights, ht, List.mem_cons, List.mem_append]; exact .inr (.inl (wt_all hd hn)))
/-- A struct of fields of one cell each: its cells, and each field's reading. -/
theorem open_rec {e : TypeId} {fs : Array Field} {n : Nat} {cs : List Value} {x : DataW H × List MemPlace} (he : P.underlying e = some (.struct fs)) (hone : oneCellFields P fs = true) (hC : P.cellsOf e = fs.size) (h : DataW.trod enc P w base spare held n e cs = some x) :
    cs.length = fs.size ∧ ∃ (ds : List (DataW H)) (m : Nat), x.1 = .agg ds ∧ ∀ (j : Nat) (f : Field), fs[j]? = some f → ∀ v, cs[j]? = some v → ∃ y, ds[j]? = some y.1 ∧ DataW.trod enc P w base spare held m f.type [v] = some y := by
  obtain ⟨xs, m, _, rfl, hlen, hxl, hf⟩ := DataW.trod_struct he h
  refine ⟨hlen.trans hC, xs.map (·.1), m, rfl, fun j f hj v hv => ?_⟩
  obtain ⟨ho, hk⟩ := hone_of hone j f hj
  have hjl : j < xs.length := by rw [hxl]; exact (Array.getElem?_eq_some_iff.1 hj).1
  have h1 := hf j f hj
  obtain ⟨hjc, hvv⟩ := List.getElem?_eq_some_iff.1 hv
  rw [ho, hk, List.drop_eq_getElem_cons hjc, List.take_succ_cons, List.take_zero, hvv, List.getElem?_eq_getElem hjl] at h1
  exact ⟨xs[j], by rw [List.getElem?_map, List.getElem?_eq_getElem hjl]; rfl, h1⟩
/-- A list that came in. -/
theorem open_list {α : Type} [Inhabited α] (en : α → List Value) (k : Nat) (good : α → Prop) {t e : TypeId} (ht : P.underlying t = some (.slice e)) (hC : P.cellsOf e = k) (hk : ∀ x, (en x).length = k) (k0 : 0 < k)
    (hel : ∀ (n : Nat) (cs : List Value) (y : DataW H × List MemPlace), DataW.trod enc P w base spare held n e cs = some y → Wt P e y.1 → ∃ x, cs = en x ∧ good x)
    {fuel : Nat} {v : Value} {x : DataW H × List MemPlace} (h : DataW.trod enc P w base spare held fuel t [v] = some x) (hw : Wt P t x.1) :
    ∃ (A : Option Addr) (l : List α) (c : Nat), v = .slice A l.length c ∧ Row w A (l.flatMap en) ∧ (∀ x ∈ l, good x) ∧ l.length ≤ c ∧ (A = none → c = 0) ∧ l.length * P.bytesOf e ≤ 140737488351232 := by
  rcases open_slice ht h with ⟨hv, hx⟩ | ⟨a, len, cap, m, n, D, Pl, hv, hb, hl, hm, hmm, rfl, hi⟩
  · injection hv with hv _
    exact ⟨none, [], 0, hv, fun h => absurd rfl h, by simp, Nat.le_refl _, fun _ => rfl, by simp⟩
  · injection hv with hv _
    subst hv
    have hlm : len ≤ m := by rw [hmm]; split <;> omega
    have hW := hw.len ht
    rw [List.length_map, List.length_range] at hW
    have el : ∀ i, i < len → ∃ x : α, (∀ j u, (en x)[j]? = some u → w.cell? (a.add (i * k + j)) = some u) ∧ good x := by
      intro i hil
      obtain ⟨cs, hc, htr⟩ := hi i (by omega)
      obtain ⟨x, hcs, hg⟩ := hel n cs _ htr (hw.elem ht (List.mem_map.2 ⟨i, List.mem_range.2 hil, rfl⟩))
      obtain ⟨_, hcl, hat⟩ := World.cells?_some hc
      refine ⟨x, fun j u hj => ?_, hg⟩
      rw [← hcs] at hj
      have hjk : j < k := by rw [← hC, ← hcl]; exact (List.getElem?_eq_some_iff.1 hj).1
      have h1 := hat j (by rw [hC]; exact hjk)
      rw [hC, Go.Deep.add_add] at h1
      exact h1.trans hj
    obtain ⟨f, hf⟩ : ∃ f : Nat → α, ∀ i, i < len → (∀ j u, (en (f i))[j]? = some u → w.cell? (a.add (i * k + j)) = some u) ∧ good (f i) := by
      classical
      refine ⟨fun i => if h : i < len then Classical.choose (el i h) else default, fun i hil => ?_⟩
      simp only [hil, dif_pos]
      exact Classical.choose_spec (el i hil)
    have hat : ∀ i, i < len → ((List.range len).map f)[i]! = f i := fun i hil => by
      rw [getElem!_pos _ i (by simpa using hil), List.getElem_map, List.getElem_range]
    refine ⟨some a, (List.range len).map f, cap, by simp, fun hne => ?_, fun y hy => ?_, by simpa using hl, (fun e => by cases e), ?_⟩
    · have hlen0 : 0 < len := by
        rcases Nat.eq_zero_or_pos len with h0 | h0
        · exfalso; apply hne; rw [h0]; rfl
        · exact h0
      have hcell : ∀ j u, (((List.range len).map f).flatMap en)[j]? = some u → w.cell? (a.add j) = some u := by
        intro j u hj
        have hjl := (List.getElem?_eq_some_iff.1 hj).1
        rw [flat_len en k hk, List.length_map, List.length_range] at hjl
        have hik : j / k < len := Nat.div_lt_of_lt_mul (by rw [Nat.mul_comm]; exact hjl)
        have hr : j % k < k := Nat.mod_lt _ k0
        have e1 : j / k * k + j % k = j := Nat.div_add_mod' j k
        have h2 := flat_at en k hk ((List.range len).map f) (j / k) (by simpa using hik) (j % k) hr
        rw [e1, hj, hat _ hik] at h2
        have h3 := (hf (j / k) hik).1 (j % k) u h2.symm
        rw [e1] at h3; exact h3
      obtain ⟨blk, off, spot⟩ := a
      have h0 : w.cell? ⟨blk, off, spot⟩ ≠ none := by
        have hl0 : 0 < (((List.range len).map f).flatMap en).length := by rw [flat_len en k hk, List.length_map, List.length_range]; exact Nat.mul_pos hlen0 k0
        have h1 := hcell 0 _ (List.getElem?_eq_getElem hl0)
        intro h2
        have e0 : (⟨blk, off, spot⟩ : Addr).add 0 = ⟨blk, off, spot⟩ := if_pos rfl
        rw [e0, h2] at h1; cases h1
      have hsp : spot = none := by
        cases spot with
        | none => rfl
        | some s => exfalso; apply h0; unfold World.cell?; split <;> simp
      subst hsp
      refine ⟨blk, off, rfl, ?_, fun j u hj => ?_⟩
      · rcases Nat.lt_or_ge blk w.heap.size with h1 | h1
        · exact h1
        · exfalso; apply h0; unfold World.cell?; simp [Array.getElem?_eq_none h1]
      · have := hcell j u hj
        rw [Addr.add_lit] at this; exact this
    · obtain ⟨i, hil, rfl⟩ := List.mem_map.1 hy
      exact (hf i (List.mem_range.1 hil)).2
    · rw [List.length_map, List.length_range]
      exact Nat.le_trans (Nat.mul_le_mul_right _ (Nat.le_add_right _ _)) hW
end
section
variable {H : Type} {enc : TypeId × Value → H} {w : World} {base : Nat} {spare : Nat → Bool} {held : Bool}
theorem rd_int {n : Nat} {t : TypeId} (ht : Try.prog.underlying t = some (.int .i64)) {v : Value} {y : DataW H × List MemPlace} (h : DataW.trod enc Try.prog w base spare held n t [v] = some y) : ∃ i : Int, v = .int .i64 i ∧ (Lit.int .i64 i).wf = true := by
  obtain ⟨i, hs, _, hwf⟩ := DataW.trod_int ht h
  injection hs with hs _
  exact ⟨i, hs, hwf⟩
theorem list3 {l : List Value} (h : l.length = 3) : ∃ a b c, l = [a, b, c] := by match l, h with | [a, b, c], _ => exact ⟨a, b, c, rfl⟩
set_option maxRecDepth 100000 in
theorem open_intk {T : TypeId} {k : IntKind} (hT : Try.prog.underlying T = some (.int k)) {r : Reach} {b0 : Nat} {v : Value} {d : DataW H} {p : List MemPlace} (hv : Value.okWide Try.prog w r b0 T v) (h : DataW.Trod enc Try.prog w base spare held T v d p) : ∃ i : Int, v = .int k i ∧ (Lit.int k i).wf = true := by
  obtain ⟨i, rfl⟩ := okWide_int hT hv
  obtain ⟨f, hf⟩ := h
  obtain ⟨j, e, _, hwf⟩ := DataW.trod_int hT hf
  have e2 : Value.int k i = .int k j := by
    have : [Value.int k i] = [Value.int k j] := e
    injection this
  injection e2 with _ e2
  subst e2
  exact ⟨i, rfl, hwf⟩
end
theorem progLaid : laidOutB Try.prog = true := by kernel_rfl
theorem own : ownKnob Try.prog.godebug = none := by kernel_rfl
end Go.Proofs.Yteakneekoogmmaa.OP
